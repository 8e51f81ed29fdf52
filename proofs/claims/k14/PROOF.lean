import PyProof.Rows.All
import Wide.All
import OpenK.AllK
import Wide.FinOn
import PyProof.ToksMono
import Lean
import PyProof.EqAt
import PyProof.EqKinds
import PyProof.TupleCall
import PyProof.NeKinds
import PyProof.ZipIter
import PyProof.StrWalks
import PyProof.ConsumeWalk
import PyProof.ExcArgs
import PyProof.ExcBaseAll.ValueError
import KE.KIsAll
import PyProof.EnumFor
import PyProof.EnumMake
import PyProof.EnumStmt
import PyProof.Rows.EnumRows
import PyProof.DictWalks
import PyProof.Draws
import PyProof.Rows.SetFrom
import PyProof.DictItems
import KE.KDictList
import KE.KItemsList
import PyProof.TupleIter
import PyProof.RulesRaise
import PyProof.RulesTry
import PyProof.MeetsIn
import KE.KEqDict
import PyProof.StrOps2
import PyProof.StrCalls6
import PyProof.ListMulRoad
import PyProof.FactsAll.tuple
import KE.KDictOf
import KE.KSortTup
import KE.KSortKey
import PyProof.Rows.Range3
import PyProof.Rows.ChunkLeaf
import KE.KRevIter
import PyProof.StationsW
import PyProof.PassesOwn
import PyProof.NsDelKeeps
import PySem.Challenge.RW_manyleaf_k14_told_and_read_back
set_option Elab.async false
set_option linter.all false
set_option compiler.extract_closed false
set_option bootstrap.genMatcherCode false
set_option maxRecDepth 100000
set_option maxHeartbeats 0
section
open PySem PySem.W PyProof.Rows
namespace PySem.W.Fast
def tw10101591535046195857:=()
def tw10153164593029743167:=()
def tw10206165514554022456:=()
def tw10286930954183420331:=()
def tw10437505697875189863:=()
def tw10586923578797213126:=()
def tw10861839078609419508:=()
def tw11015864275911828404:=()
def tw11113963555814221804:=()
def tw11127538439345540678:=()
def tw11374867030136986413:=()
def tw11506082150536870989:=()
def tw11800895844676523466:=()
def tw12038107805617745660:=()
def tw12064755841700906952:=()
def tw12127543792826751297:=()
def tw12174539889088415946:=()
def tw12717938208931252158:=()
def tw13136505079701538644:=()
def tw13625556403190010965:=()
def tw13675912528011399715:=()
def tw14008434753198878025:=()
def tw14209387005739333431:=()
def tw1423346588505367063:=()
def tw14353185684425812399:=()
def tw14597278227008215457:=()
def tw14693499611391099983:=()
def tw14890721067181646968:=()
def tw14908116017902864358:=()
def tw14994732119798097552:=()
def tw15240418868253004210:=()
def tw15306558597474834245:=()
def tw15425265275055472072:=()
def tw15489610075543376019:=()
def tw16157435268638221044:=()
def tw16306107511801204698:=()
def tw16330700548019399755:=()
def tw16573572371867219534:=()
def tw17104769996163905405:=()
def tw17407975158003382981:=()
def tw17550936144492522830:=()
def tw17589208173566949010:=()
def tw17685187837309130603:=()
def tw17970998949365110392:=()
def tw1824199485317887909:=()
def tw18270760608598060578:=()
def tw18282918296212003196:=()
def tw1835232670278467874:=()
def tw18354089721522257975:=()
def tw1940050965976077287:=()
def tw2018245298429302359:=()
def tw2166182303906831207:=()
def tw2443588368064919235:=()
def tw2478765894898147880:=()
def tw2501755602829118708:=()
def tw2646967896536006919:=()
def tw2864232221320476757:=()
def tw3584773628227019016:=()
def tw3840827924889396723:=()
def tw3907268633303670874:=()
def tw3983761614096891107:=()
def tw406919329303373163:=()
def tw4201878485021026295:=()
def tw4489790539446930538:=()
def tw4503056563492262210:=()
def tw4669175345323507124:=()
def tw4816262963511939500:=()
def tw489575076872367526:=()
def tw4919049756886557891:=()
def tw5156676033997347558:=()
def tw5276881006479615632:=()
def tw5398657795244358119:=()
def tw5426022835479956112:=()
def tw5534615417558662848:=()
def tw5546153591929000:=()
def tw5853459841836056189:=()
def tw6023680901153872255:=()
def tw6061299304321878089:=()
def tw6169120181310047372:=()
def tw6667295688485277296:=()
def tw671243611140211985:=()
def tw6784455950841665848:=()
def tw678737396426522325:=()
def tw6908265435912070511:=()
def tw6948916298005616765:=()
def tw7040184663525627807:=()
def tw750964056146279515:=()
def tw7511983462046471377:=()
def tw7636117878433549291:=()
def tw7681672861270373232:=()
def tw7728077902871037045:=()
def tw7804773987830610691:=()
def tw7838619090572024985:=()
def tw814108142039838700:=()
def tw8225845357331669451:=()
def tw8289119765877099252:=()
def tw8309811105123200856:=()
def tw8358240169509939587:=()
def tw8421319078943350475:=()
def tw8502209290816910345:=()
def tw8547135719428952873:=()
def tw8557224089087760501:=()
def tw8828184272704166086:=()
def tw8930334722851045211:=()
def tw9297723138207061396:=()
def tw9389418546588930678:=()
def tw7958701027412026889:=()
def tw17821850577472022007:=()
def tw13905743186508376533:=()
def tw16279811333833535704:=()
def tw5250851693668925155:=()
def tw17584263201459527644:=()
def tw9908794294381216683:=()
def tw7639885460340635922:=()
def tw16212763050232660717:=()
def tw11171340452998009779:=()
def tw14890387339707677627:=()
def tw12927070427608029024:=()
def tw15598835761399655904:=()
def tw14929195417626905250:=()
def tw7100461759314923929:=()
def tw10262618060374058868:=()
def tw10918132455482539759:=()
def tw9126807156117008255:=()
def tw3127841169246461465:=()
def tw4852568064333421117:=()
def tw6361197373211442238:=()
def tw1927080054733683612:=()
def tw8513868532274217207:=()
def tw363050906304834612:=()
def tw9798815105585404141:=()
def tw13132077332129903668:=()
def tw7761396645208656604:=()
def tw5400346927484884379:=()
def tw9219217680248473377:=()
def tw15947875965969980313:=()
def tw13792476676864456437:=()
def tw18420221685537634523:=()
def tw5654971250311588006:=()
def tw12254240257509775626:=()
def tw16199017253715536533:=()
def tw13062085443487403898:=()
def tw2278571890644244368:=()
def tw4675657312831375535:=()
def tw13861099152057205186:=()
def tw13897417958692549633:=()
def tw2171657941901234423:=()
def tw16430378943663105369:=()
def tw9923459532679130744:=()
def tw7123879126042961073:=()
def tw15309682188138594726:=()
def tw849247625242097460:=()
def tw184818436869348190:=()
def tw17600616155253139130:=()
def tw707486587219487095:=()
def tw1057087664076911309:=()
def tw8228911085343938816:=()
def tw3069984921036439439:=()
def tw6545523229348323792:=()
def tw15987814217899456055:=()
def tw7099952154807435465:=()
def tw5589842420325771185:=()
def tw12339693146854461634:=()
def tw580166690773846087:=()
def tw18002789559444635443:=()
def tw16320707884215577761:=()
def tw7181278029544095449:=()
def tw11099075668662536769:=()
def tw9650736033902241060:=()
def tw4486266911353620268:=()
def tw4866279253127279777:=()
def tw13284289029992655370:=()
def tw1128357440822803784:=()
def tw17332923496207029334:=()
def tw15584076627082144745:=()
def tw1183667466477424355:=()
def tw10278255623970449950:=()
def tw6682479596670212933:=()
def tw989971470837832302:=()
def tw14212307439815491328:=()
def tw5331912343077838513:=()
def tw3298233705808633534:=()
def tw15262169645099694128:=()
def tw8545605142987659403:=()
def tw4843794336146871172:=()
def tw10103433758075787294:=()
def tw4880628289279212192:=()
def tw17513984884971331924:=()
def tw17842891382370157063:=()
def tw9383997605724550663:=()
def tw12133613875770453097:=()
def tw5306763374800488041:=()
def tw3240071980195943238:=()
def tw11236572819235444120:=()
def tw9707135417875335412:=()
def tw11897537992408978252:=()
def tw17448887236319621358:=()
def tw1732427735400001963:=()
def tw17548843082682604181:=()
def tw15603662423080661336:=()
def tw18143379658333044124:=()
def tw8351085237386148456:=()
def tw11641964760934512428:=()
def tw16958004579530572138:=()
def tw12347912350013780016:=()
def tw3061723096296464286:=()
def tw18358642643461302451:=()
def tw17515316514993322101:=()
def tw5952372835789466590:=()
def tw14745977181497668565:=()
def tw4837303639778714636:=()
def tw7502459102669558189:=()
def tw2424810506625415887:=()
def tw1312345672289223192:=()
def tw16535300589368393575:=()
def tw11679686934193219475:=()
def tw7066602044732346697:=()
def tw8519824794847661856:=()
def tw9208525947874595507:=()
def tw7989148112787221925:=()
def tw7254302987059376162:=()
def tw10097163121359376887:=()
def tw17675467000634523194:=()
def tw17281900734469913656:=()
def tw13711956071637325011:=()
def tw7595550339351672335:=()
def tw5736430504014803013:=()
def tw189047786469599516:=()
def tw2714666377634090288:=()
def tw3588608758763727842:=()
def tw2825535238403995058:=()
def tw11378716398120917607:=()
def tw5826695977108191905:=()
def tw837609104717244027:=()
def tw2952927104188844916:=()
def tw7364404050722557987:=()
def tw11180254763337738127:=()
def tw14639656349570194690:=()
def tw8907857585044757204:=()
def tw3168604176480075553:=()
def tw8063626328715170013:=()
def tw1773260633250810115:=()
def tw16897370534529834024:=()
def tw3227640409445632253:=()
def tw1161155635349036296:=()
def tw8079658508589211108:=()
def tw17196409615016296816:=()
def tw2403533217040962780:=()
def tw2257336072747464370:=()
def tw2363310308398772645:=()
def tw5403641583874818381:=()
def tw6693171425693803850:=()
def tw7941256047304066095:=()
def tw1199039485010072959:=()
def tw5165269119731724254:=()
def tw13280772865319315061:=()
def tw17026497161082731419:=()
def tw2804782383857443429:=()
def tw4022899603625322631:=()
def tw12614825549669740354:=()
def tw2034928821125033340:=()
def tw18238856433576873731:=()
def tw7597645726271138415:=()
def tw1863722729164752155:=()
def tw14367111907090883293:=()
def tw2139044750185189225:=()
def tw4252961916139649027:=()
def tw14355751966275359296:=()
def tw10925863139828152798:=()
def tw4432264255151430307:=()
def tw5905420348127281732:=()
def tw6996034746360985773:=()
def tw17920406744428660634:=()
def tw1948675377478704862:=()
def tw6504159145542191726:=()
def tw13142373658974843308:=()
def tw15417727128421534533:=()
def tw2950671923958611938:=()
def tw13245815374703588975:=()
def tw10749397801733777496:=()
def tw17441315943278242223:=()
def tw14307549414600616238:=()
def tw2888095004417190421:=()
def tw14501637596623897774:=()
def tw17338508024298333068:=()
def tw446493738048003806:=()
def tw6281582104664632122:=()
def tw12908452800840158459:=()
def tw2667781483857984300:=()
def tw7567428335901502905:=()
def tw12083847253586754113:=()
def tw13796571537777832369:=()
def tw10857214234525411772:=()
def tw5629372137324466588:=()
def tw1204140556589152885:=()
def tw7939324498307708935:=()
def tw636895809952703117:=()
def tw8953987874982457774:=()
def tw16555148722104603418:=()
def tw6305076167556068650:=()
def tw2578554842390464073:=()
def tw12386468315511777412:=()
def tw6087892341840532191:=()
def tw9901397623381866413:=()
def tw14276292809173379147:=()
def tw1787557226073698805:=()
def tw12702694876370717908:=()
def tw11197484642811883652:=()
def tw10018481466726588040:=()
def tw4639399272685927845:=()
def tw5562624111915164801:=()
def tw10645950527458777582:=()
def tw13374194655013347755:=()
def tw24705904022275506:=()
def tw434537759205387613:=()
def tw2698608808675259383:=()
end PySem.W.Fast
open_top head_k14 for PySem.Challenge.rw_manyleaf_k14_told_and_read_back
end
section
open Array renaming length_toList->d_,getElem?_setIfInBounds_self_of_lt->eR,getElem?_eq_some_iff->fg,getElem?_toList->gJ,forIn_toList->iR,toList_append->kK,map->k7
open Bool renaming false_ne_true->av,and_eq_true->ay,eq_iff_iff->bu,false_eq_true->ck,and_false->cw,beq_eq_decide_eq->cR,true_and->cX,or_eq_true->dY,and_true->ez,not_eq_true'->eZ,or_true->fH,or_false->hZ,false_and->iX,eq_false_iff->ja,false_or->ju
open Classical renaming byContradiction->cx
open Decidable renaming byContradiction->iZ
open False renaming elim->dt
open ForInStep renaming yield->eX
open Int renaming toNat_natCast->aI,emod_lt_of_pos->bN,emod_nonneg->bQ,one_mul->dP,fdiv_eq_ediv_of_nonneg->iO
open LawfulBEq renaming eq_of_beq->cK
open List renaming length_map->ae,getElem?_eq_getElem->af,mem_of_getElem?->ag,getElem?_map->aj,mem_cons_self->am,mem_cons_of_mem->aq,getD_eq_getElem?_getD->ar,map_append->au,mem_map->aA,size_toArray->aB,range->aD,length_take->aJ,length_cons->aN,take_length->aO,length_append->aP,mem_append->aQ,all_eq_true->aR,mem_cons->aS,mem_singleton->aU,map_cons->aY,mem_range->aZ,map_map->a_,mem_append_right->bc,any_eq_true->be,length_range->bn,mem_iff_getElem?->bt,all_cons->bv,mem_flatMap->bz,foldl_cons->bC,take_add_one->bF,length->bH,mem_append_left->bL,getElem?_eq_some_iff->bM,find?_cons->bR,getElem?_append_right->bU,getElem_mem->bV,contains_cons->bX,map_congr_left->bY,append_nil->b7,getElem?_cons_succ->cu,getElem?_range->cD,any_eq_false->cH,length_drop->cN,length_singleton->cS,nodup_cons->cY,getElem_inj->c5,not_mem_nil->c6,nodup_append->c8,getElem?_append_left->c_,range_succ->dj,getElem?_cons_zero->dA,flatMap_cons->dF,flatMap_append->dH,getElem_map->dL,getElem?_eq_none->dN,mem_iff_getElem->dX,append_assoc->dZ,foldl_append->d6,all_map->d9,any_cons->eC,cons_append->eG,nodup_nil->eI,take_of_length_le->eJ,mem_of_mem_take->fj,getLast?_eq_some_iff->fu,mem_of_find?_eq_some->fv,map->fw,all_append->fV,find?_eq_none->fW,forIn_cons->fX,getElem_range->fY,pairwise_cons->fZ,getElem?_set_self->gn,lookup->gv,cons->gK,map_nil->gL,toArray->gM,flatMap_nil->gU,getLast?_eq_some_getLast->gW,lookup_cons->gX,getElem?_set_ne->g8,mem_of_mem_drop->g9,Pairwise->ia,map_take->ib,filterMap_cons->iz,filter_eq_self->iA,length_pos_iff->iB,mem_filter->iC,mem_map_of_mem->iD,findSome?_eq_none_iff->iP,any_map->iT,mem_filterMap->iU,zip_cons_cons->iV,drop_eq_getElem_cons->i0,forIn_nil->i3,replicate->i5,pairwise_map->jg,map_flatMap->jG,drop_of_length_le->jL,length_eq_one_iff->jM,pairwise_lt_range->jN,range_succ_eq_map->jO,length_filter_le->j4,length_nil->j5,length_set->j6,of_mem_zip->j7,getElem_toArray->kB,countP_pos_iff->kP,findSome?_cons->kQ,length_flatMap->kS,map_eq_nil_iff->kT,filter_append->k9,map_drop->k_,map_inj_right->lf,Sublist->lU,flatten->lV
open List.Sublist renaming refl->jf
open List.cons renaming inj->eE
open Nat renaming le_refl->ak,le_trans->aw,le_of_ble_eq_true->aC,lt_of_le_of_lt->aG,lt_of_lt_of_le->aL,ne_of_lt->aT,le_add_right->aV,testBit_and->bi,zero_le->bZ,eq_of_testBit_eq->cz,pow_le_pow_right->cA,ne_of_gt->cE,zero_testBit->cF,zero_add->cT,not_lt_zero->dm,lt_succ_self->dz,le_of_lt->dD,le_succ->dQ,testBit_or->dR,lt_succ_of_lt->d7,lt_or_ge->eY,lt_irrefl->e9,succ_le_succ->fz,testBit_two_pow->fF,and_comm->fJ,and_le_left->f6,two_pow_pos->f7,le_succ_of_le->gw,sub_self->gN,add_le_add_right->g_,mul_le_mul_right->hJ,and_assoc->ic,testBit_xor->iE,add_comm->j8,min_eq_left->j9,add_le_add->kG,and_one_is_mod->lg,le_of_eq->lW,add_mul->mf,one_mul->mh,zero_or->mj,max->mD
open Ne renaming symm->cQ
open Option renaming some->a9,toList_some->cq,isSome_iff_exists->du,bind_some->fA,map_eq_some_iff->gp,map_some->iF,isNone_iff_eq_none->i6,isSome_map->jh,map_eq_none_iff->jP,isNone_some->ll
open Option.some renaming inj->aM,injEq->jj
open Or renaming inl->jk
open PyProof renaming noPylong_small->jR
open PyProof.Rows renaming callWith_type1->b9,seqObj->cP,boot_list->eK,callWith_builtin1->gP,get?_update_seq->iJ,tail_of_ItemOn->i9,AllBare->jt,boot_tuple->jw,listUpdate_at->jC,bitAnd_pn->jQ,subscriptTail_builtinR->jU,boot_int->j_,boot_str->ka,seqEpoch_at->k6,subscriptTail->lF,envOfC->l9,IntsAre->mC,general'->mI
open PyProof.Rows.F renaming plain_set_update_loop->fU,entry_set_update_loop->jv
open PyProof.Rows.SortSt renaming mk'->lL
open PySem renaming wpAny_bind->ai,Builtin->az,wpAny_pure->aE,Shared->aF,wpAny->aW,Program->bq,mainGlobals->bA,FuncData->bB,wpAny_with_toks->bD,wpAny_holding->bJ,wpAny_Call_Name_kw->bO,Spec->bW,wpAny_field->b5,World->cb,sizeLine_eq->ce,wpAny_loadPart'->cg,Around->cj,mem_of_lookup->cv,wpAny_loadPart_at->cy,NameKind->cO,compareOp->cV,wpAny_mono->cW,wpAny_isSubtype_exc->c9,codeAny_builtin->dq,assignEach->dv,starEach->dw,sysModules->dy,wpAny_callSpecial?_slot->dB,bootBuiltins->dE,wpAny_call_entry->dM,binaryOp->dO,wpAny_seqItems->dW,wpAny_truthy_bool->d8,tupleKind_room_in1->eP,wpAny_setField_rec->eQ,foldedSetIterable->e_,wpAny_pyIter_dict->fc,wpAny_standAt->ff,rawInt->fP,plainId_quiet->gh,wpAny_passesOwn->gj,Paired->gr,atKey_none_of_get->gz,codeAny->gA,excClassObj->gB,sliceBounds->gC,wpAny_newObj_type->gE,wpAny_pyIter_enum->gF,wpAny_pyIter_list->gG,wpAny_setField->gI,Within->gR,codeAny_mono->gT,checkBuiltinCall->gZ,wpAny_typeNameOfWhole_keyiter->g6,codeAny_call_builtin->hX,wpAny_attempt->io,wpAny_newList->ip,typeLookup->iq,wpAny_call->ir,PassesOwn->iG,letOwnedTupleGo->iK,wpAny_updateSeq->iL,wpAny_letOwnedTupleGo_enum->iQ,pyNext->iW,relabel->i8,wpAny_newTuple->i_,call_meets->jq,swapsWith->jr,wpAny_typeNameOf_keyiter->js,attributeBase->jA,behindInMarks->jB,wpAny_Call_method0_late->jE,backTo->jI,noFill_tuple_add->jJ,wpAny_nextOf_list_item->jV,wpAny_pyIter_rangeiter->jW,wpAny_pyNext_dict_item->jX,wpAny_pyNext_range_end->jY,builtinLookup_eq_fast->kh,setFlight->kj,tupleKind->km,wpAny_execs_nil->kq,wpAny_ite_split->ku,wpAny_nextOf_list_end->ky,bindArgs->kz,typeIs_str->kA,wpAny_updateSeq_pair->kE,IsPair->kF,dictSetDefault->kI,IsRangeIter->kO,evalArgs_none->kU,keywordEach->kY,richCompare->kZ,GenState->k8,noteFrame->lD,seq_tuple_add->lE,swapsWithSole->lG,wpAny_onRaise->lH,wpAny_pyIter_range->lI,wpAny_pyIter_tuple->lJ,BindsTo->lK,callerA->lN,notedBy->lO,valueAt->lP,wpAny_rule->lQ,assign->lY,call_meetsIn->lZ,concat_meets->l7,IsZip->l_,atKey->ma,ZipApart->md,Keyword->me,seqItems?->mq,storedH_new->mr,updateSeq->mw,wpAny_letGo->my,Result->mz,pyIter->mB,Walks->mE,backToKw->mF,compEnvC->mG,frameOf->mH,holding->mJ,unaryOp->mK,CmpOp->mL,field->mN
open PySem.Around renaming under_plainId->cZ,under->lR
open PySem.Builtin renaming bitAnd->aX,bitNot->bw,bitOr->cB,bitXor->gH
open PySem.Builtin.List renaming listExtendWith->dG,listTooLong->fI,listLengthHint->iu,listSameRef->jb,listItems->jK
open PySem.Builtin.Range renaming rangeSize->cG,small->kL
open PySem.Builtin.SmallTypes renaming nextOf->bj,ownedTupleIsFree->bP,ownedTupleHandOut->fm
open PySem.Builtin.Str renaming occurrences->fQ,glued->jc,partsBetween->jd,strKind->kM
open PySem.Calls renaming spliced_cons->eN,spliced_nil->e8,callWith_builtin->gk,Name_function_global->iM,call_function_entry->iY
open PySem.Code renaming quiet_builtin->fR,isFrame->lS
open PySem.EntryCells renaming newEntry->iw
open PySem.F renaming slot_dict_setdefault->eO,called_set->eV,excBase_ValueError->fh,args_tuple_add_2->fK,entry_tuple_add->f9,plainAttrs_list->f_,slot_tuple_add->gu,args_dict_setdefault_3->gQ,entry_dict_setdefault->gY,slot_dict_keyiterator_next->h_,plain_extend_loop->ix,slot_zip_next->iy,slot_tuple_iterator_next->iN,args_str_split_2->iS,entry_str_split->je,plainAttrs_dict->jx,slot_dict_items->jy,slot_list_index->jz,slot_str_split->jF,plainAttrs_str->jS,slot_enumerate_next->jZ,entry_extend_loop->kN
open PySem.Heap renaming get?_push_of_some->ah,lt_size->aH,get?_push_size->aK,SameBut->bE,get?_update_other->bK,size_push->cn,get?_update_self->cr,get?_none_of_le->g7
open PySem.Heap.SameBut renaming update->cC
open PySem.MeetsSeq3 renaming plain_eq_loop->jD
open PySem.NameKind renaming free->eF
open PySem.Obj renaming mapSeq->bS,mapFields->f8,isFreed_of_fields->gO,data_mapDictKeys->kC,data_mapFields->lh
open PySem.Paired renaming length->ie
open PySem.Sem renaming wp_bind'->lX
open PySem.SeqAt renaming EqAt->bG,RcNeAt->fM,RcAt->jo
open PySem.SeqAt.EqAt renaming int_int->lu,int_str->lz,str_int->lA
open PySem.Str renaming empty->cJ,ofString->cM,empty_append->fE,cps_append->kH,join->lB
open PySem.StrLaws renaming glued_eq_join->gS
open PySem.Txt renaming join->bI,split->gf,slice->jp
open PySem.Value renaming ref->bh,none->bT,type->fO,builtin->ij,isStrOf->im,str->iI,isStrOf_shape->kX,int->lC,bool->lM,isInt->mo
open PySem.W renaming Frag->ac,findIn->bp,keepIn->br,kia_one->b_,fnOf->cL,emptyDict->cU,nsIn->c7,isFn->dn,instObj->dI,makesIn->dJ,codeIn->dS,kitOne->dU,kas_sort->fB,plainGet->fC,callWith_K0->fG,callWith_K->gd,hasDictIn->gx,looks_findIn->hV,mg_of->ig,mroIn->ii,plainGet_of->iH,lookIn->i7,kitx_list->jl,methodObj->jm,plainOver->jn,handedIn->jH,cellsFrom_some->jT,KatTups->kc,OpenLaw->ke,takerIn->kg,kitx_tuple->lq,clsIn->mM
open Sum renaming inl->ge,inr->gy
open Sum.inl renaming inj->kW
open True renaming intro->ba
namespace L2
open PySem PySem.Spec PyProof.Rows
abbrev Key:=Sum Int Str
def K2:Key->Value->Bool
 |.inl k,v=>mo k v
 |.inr x,v=>im x v
def cf0(w:cb):Key->Int
 |.inl k=>hashInt k
 |.inr x=>hashStr w x
theorem Bl:∀ {k:Key} {v:Value},K2 k v=true->(∃i t,k=ge i/\v=lC i t)\/(∃x t,k=gy x/\v=iI x t)
 | .inl i,v,h=>by
  obtain⟨t,e⟩:=Value.isInt_shape (k:=i) (v:=v) h
  exact .inl ⟨i,t,rfl,e⟩
 | .inr x,v,h=>by
  obtain⟨t,e⟩:=kX (x:=x) (v:=v) h
  exact .inr ⟨x,t,rfl,e⟩
theorem af2(i:Int)(t:Tok):K2 (.inl i) (.int i t)=true:=by simp[K2,mo]
theorem af3(x:Str)(t:Tok):K2 (.inr x) (.str x t)=true:=by simp[K2,im]
theorem bo8(a b:Int):decide ((ge a:Key)=ge b)=(a==b):=by
 by_cases e:a=b
 .subst e;simp
 .have h:¬ (ge a:Key)=ge b:=λq=>e (kW q)
  rw[decide_eq_false h]
  exact (beq_eq_false_iff_ne.mpr e).symm
theorem bp1(a b:Str):decide ((gy a:Key)=gy b)=decide (a=b):=by
 by_cases e:a=b
 .subst e;simp
 .have h:¬ (gy a:Key)=gy b:=λq=>e (Sum.inr.inj q)
  rw[decide_eq_false h,decide_eq_false e]
theorem bo9(a:Int)(b:Str):decide ((ge a:Key)=gy b)=false:=decide_eq_false (λq=>nomatch q)
theorem bp0(a:Str)(b:Int):decide ((gy a:Key)=ge b)=false:=decide_eq_false (λq=>nomatch q)
noncomputable def Bf(prog:bq)(w:cb):PySem.KeyKind prog w Key where
 is:=K2
 hash:=cf0 w
 inj:=λv a b ha hb=>by
  rcases Bl ha with ⟨i,t,rfl,rfl⟩|⟨x,t,rfl,rfl⟩
  .rcases Bl hb with ⟨j,u,rfl,e⟩|⟨y,u,rfl,e⟩
   .injection e with e1 _;rw[e1]
   .exact nomatch e
  .rcases Bl hb with ⟨j,u,rfl,e⟩|⟨y,u,rfl,e⟩
   .exact nomatch e
   .injection e with e1 _;rw[e1]
 byValue:=λk v h=>by
  rcases Bl h with ⟨i,t,rfl,rfl⟩|⟨x,t,rfl,rfl⟩ <;> rfl
 pyHash:=λhv h=>by
  rcases Bl hv with ⟨i,t,rfl,rfl⟩|⟨x,t,rfl,rfl⟩
  .exact wpAny_pyHash_int h
  .exact wpAny_pyHash_str h
 eqBool:=λhu hv h=>by
  rcases Bl hu with ⟨i,t,rfl,rfl⟩|⟨x,t,rfl,rfl⟩
  .rcases Bl hv with ⟨j,u,rfl,rfl⟩|⟨y,u,rfl,rfl⟩
   .rw[bo8] at h;exact wpAny_eqBool_int h
   .rw[bo9] at h;exact lz i t y u _ _ _ _ h
  .rcases Bl hv with ⟨j,u,rfl,rfl⟩|⟨y,u,rfl,rfl⟩
   .rw[bp0] at h;exact lA x t j u _ _ _ _ h
   .rw[bp1] at h;exact wpAny_eqBool_str h
 «strs»:=λk x t v h=>by
  rcases Bl h with ⟨i,u,rfl,e⟩|⟨y,u,rfl,e⟩
  .exact nomatch e
  .injection e with e1 _
   subst e1
   cases v <;> rfl
theorem Vg(prog:bq)(w:cb)(i:Int)(t:Tok):(Bf prog w).is (.inl i) (.int i t)=true:=af2 i t
theorem Vh(prog:bq)(w:cb)(x:Str)(t:Tok):(Bf prog w).is (.inr x) (.str x t)=true:=af3 x t
inductive V where
 |non|bl (b:Bool)|int (i:Int)|str (x:Str)|byt (b:Array UInt8)|stk (x:Str) (n:Nat) (ex:Bool)|ref (a:Addr)|ty (n:String)
 deriving DecidableEq
noncomputable def RelV:V->Value->Prop
 |.non,u=>u=bT
 |.bl b,u=>u=lM b
 |.int i,u=>∃t,u=lC i t
 |.str x,u=>∃t,u=iI x t
 |.byt b,u=>∃t,u=Value.bytes b t
 |.stk x n ex,u=>∃t,u=iI x t/\(if ex=true then t=n else n<=t)
 |.ref a,u=>u=bh a
 |.ty n,u=>u=fO n
def V.pl:V->Bool
 |.stk _ _ _=>false
 |_=>true
noncomputable abbrev Vals:List V->List Value->Prop:=gr RelV
theorem Vals.length {xs:List V}{us:List Value}(r:Vals xs us):xs.length=us.length:=ie r
theorem Vals.get:∀ {xs:List V} {us:List Value} {i:Nat} {x:V},Vals xs us->xs[i]?=some x -> ∃u,us[i]?=some u/\RelV x u
 |_,_,_,_,.nil,e=>by simp at e
 |_,_,0,_,.cons r _,e=>by simp at e;subst e;exact⟨_,rfl,r⟩
 | _,_,i+1,x,.cons _ t,e=>by
  obtain⟨u,h1,h2⟩:=Vals.get (i:=i) (x:=x) t (by simpa using e)
  exact⟨u,by simpa using h1,h2⟩
theorem Vals.append:∀ {xs ys:List V} {us ws:List Value},Vals xs us->Vals ys ws->Vals (xs++ys) (us++ws)
 |_,_,_,_,.nil,s=>s
 |_,_,_,_,.cons r t,s=>.cons r (Vals.append t s)
theorem Vals.take:∀ {xs:List V} {us:List Value} (n:Nat),Vals xs us->Vals (xs.take n) (us.take n)
 |_,_,0,_=>.nil
 |_,_,_+1,.nil=>.nil
 |_,_,n+1,.cons r t=>.cons r (Vals.take n t)
theorem Vals.drop:∀ {xs:List V} {us:List Value} (n:Nat),Vals xs us->Vals (xs.drop n) (us.drop n)
 |_,_,0,r=>r
 |_,_,_+1,.nil=>.nil
 |_,_,n+1,.cons _ t=>Vals.drop n t
noncomputable def RelO:Option V->Option Value->Prop
 |some v,some u=>RelV v u
 |none,none=>True
 |_,_=>False
noncomputable def KV {κ:Type}:List (κ×V)->List (κ×Value)->Prop:=gr λ(p:κ×V) (q:κ×Value)=>p.1=q.1/\RelV p.2 q.2
def kV:Key->V
 |.inl i=>.int i
 |.inr x=>.str x
inductive HO where
 |lst (xs:List V)
 |tup (xs:List V)
 |dK (kvs:List (Key×V))|dT (kvs:List (List Key×V))
 |set (S:Int->Bool) (n:Nat)
 |ins (C dx:Addr) (fs:List (Str×V))
 |own (x:Addr)
 |xd (fs:List (Str×V))
 |met (f x:Addr)
 |rng (lo hi:Int)
 |frz (o:Obj) (u:HO)
 |tbl (ps:Array Value)
 |ext (φ:Heap->Prop)
abbrev Hp:=Addr->Option HO
def upd(H:Hp)(a:Addr)(o:HO):Hp:=λb=>if b=a then some o else H b
theorem Ac {H:Hp}{a:Addr}{o:HO}:upd H a o a=some o:=by unfold upd;rw[if_pos rfl]
theorem Ai {H:Hp}{a b:Addr}{o:HO}(h:b≠a):upd H a o b=H b:=by unfold upd;rw[if_neg h]
theorem bh9 {H:Hp}{a b:Addr}{o u:HO}(h:H a=some o)(h':H b=some u)(d:o≠u):a≠b:=by
 intro e;subst e;rw[h] at h';exact d (aM h')
theorem Aj {H:Hp}{a b:Addr}{o:HO}(h:H a=some o)(h':H b=none):a≠b:=by
 intro e;subst e;rw[h] at h';cases h'
section
variable (P:bq) (w:cb)
noncomputable def ObjOk(H:Hp)(h:Heap)(a:Addr):HO->Prop
 |.lst xs=>xs.length<=sizeLine/\∃(χ:List Value)(n:Nat),Vals xs χ/\h.get? a=some { cls:=.type "list", data:=.seq χ.toArray n }
 |.tup xs=>xs.length<=sizeLine/\∃χ:List Value,Vals xs χ/\IsTup h a χ.toArray
 |.dK kvs=>kvs.length<=sizeLine/\(a==dy)=false/\∃vs,KV kvs vs/\h.DictOf (Bf P w) a vs
 | .dT kvs=>kvs.length<=sizeLine/\(a==dy)=false/\∃xs:List (List Key×Addr×Value),
   gr (λ(p:List Key×V) (q:List Key×Addr×Value)=>p.1=q.1/\H q.2.1=some (.tup (p.1.map kV))/\RelV p.2 q.2.2) kvs xs /\
   ∃o es ep,h.get? a=some o/\o.ExactDict/\o.data=.dict es ep/\es.toList=xs.map (entryOfKey (km (Bf P w)))/\(xs.map (·.1)).Nodup
 |.set S n=>h.SetOf (intKind P w) a S n
 | .ins C dx fs=>H dx=some (.own a)/\fs.length<=1000/\dx≠a/\h.get? a=some (dI C dx) /\
   ∃mA,h.Ns1 dx mA/\(∀f,RelO (fs.lookup f) (mA f))/\gR mA (fs.map (·.1))
 |.own _=>∃o,h.get? a=some o
 |.xd fs=>∃mA,h.Ns1 a mA/\∀f,RelO (fs.lookup f) (mA f)
 |.rng lo hi=>∃t u v,h.get? a=some { cls:=.type "range", data:=.fields #[.int lo t,.int hi u,.int 1 v] }
 |.frz o u=>h.get? a=some o/\ObjOk H h a u
 |.tbl ps=>h.get? a=some { cls:=.none,data:=.fields ps }
 |.met f x=>h.get? a=some (jm (.ref f) (.ref x))
 |.ext φ=>φ h/\(∃o,h.get? a=some o)/\∀h1 h2:Heap,φ h1->(∀o,h1.get? a=some o->h2.get? a=some o)->φ h2
noncomputable def HOk(H:Hp)(h:Heap):Prop:=∀a o,H a=some o->ObjOk P w H h a o
end
section
variable {P:bq} {w:cb} {H H':Hp} {h h':Heap} {a:Addr} {o:HO}
theorem ObjOk.lt(x:ObjOk P w H h a o):a<h.objs.size:=by
 cases o with
 |lst xs=>obtain⟨_,_,_,_,e⟩:=x;exact aH e
 |tup xs=>obtain⟨_,_,_,p⟩:=x;exact p.lt
 |dK kvs=>obtain⟨_,_,_,_,o,_,_,e,_⟩:=x;exact aH e
 |dT kvs=>obtain⟨_,_,_,_,o,_,_,e,_⟩:=x;exact aH e
 |set S n=>obtain⟨o,_,_,_,e,_⟩:=x;exact aH e
 |ins C dx fs=>obtain⟨_,_,_,e,_⟩:=x;exact aH e
 |own y=>obtain⟨_,e⟩:=x;exact aH e
 |xd fs=>obtain⟨_,⟨_,_,_,e,_⟩,_⟩:=x;exact aH e
 |rng lo hi=>obtain⟨_,_,_,e⟩:=x;exact aH e
 |frz ob u=>obtain⟨e,_⟩:=x;exact aH e
 |tbl ps=>exact aH (show h.get? a=some _ from x)
 |met f y=>exact aH (show h.get? a=some _ from x)
 |ext φ=>obtain⟨_,⟨_,e⟩,_⟩:=x;exact aH e
theorem Paired.mapP {α β:Type}{F G:α->β->Prop}:∀ {l₁:List α} {l₂:List β},gr F l₁ l₂->(∀a b,F a b->G a b)->gr G l₁ l₂
 |_,_,.nil,_=>.nil
 |_,_,.cons r t,f=>.cons (f _ _ r) (Paired.mapP t f)
theorem ObjOk.stay(x:ObjOk P w H h a o)(k:∀b u,(b=a\/H b=some (.own a))->h.get? b=some u->h'.get? b=some u)(ho:∀b,H b=some (.own a)->H' b=some (.own a))(ht:∀b xs,H b=some (.tup xs)->H' b=some (.tup xs)):ObjOk P w H' h' a o:=by
 induction o with
 |lst xs=>obtain⟨z,χ,n,r,e⟩:=x;exact⟨z,χ,n,r,k _ _ (.inl rfl) e⟩
 |tup xs=>obtain⟨z,χ,r,ob,e,c⟩:=x;exact⟨z,χ,r,ob,k _ _ (.inl rfl) e,c⟩
 |dK kvs=>obtain⟨z,y,vs,r,ob,es,ep,e,c⟩:=x;exact⟨z,y,vs,r,ob,es,ep,k _ _ (.inl rfl) e,c⟩
 |dT kvs=>
  obtain⟨z,y,xs,r,ob,es,ep,e,c⟩:=x
  exact⟨z,y,xs,Paired.mapP r λp q z=>⟨z.1,ht _ _ z.2.1,z.2.2⟩,ob,es,ep,k _ _ (.inl rfl) e,c⟩
 |set S n=>obtain⟨ob,es,ep,t,e,c⟩:=x;exact⟨ob,es,ep,t,k _ _ (.inl rfl) e,c⟩
 |ins C dx fs=>
  obtain⟨d,z,ne,e,mA,⟨od,es,ep,e2,c⟩,r⟩:=x
  exact⟨ho _ d,z,ne,k _ _ (.inl rfl) e,mA,⟨od,es,ep,k _ _ (.inr d) e2,c⟩,r⟩
 |own y=>obtain⟨ob,e⟩:=x;exact⟨ob,k _ _ (.inl rfl) e⟩
 |xd fs=>obtain⟨mA,⟨od,es,ep,e,c⟩,r⟩:=x;exact⟨mA,⟨od,es,ep,k _ _ (.inl rfl) e,c⟩,r⟩
 |rng lo hi=>obtain⟨t,u,v,e⟩:=x;exact⟨t,u,v,k _ _ (.inl rfl) e⟩
 |frz ob u ih=>obtain⟨e,q⟩:=x;exact⟨k _ _ (.inl rfl) e,ih q⟩
 |tbl ps=>
  have e:h.get? a=some { cls:=.none,data:=.fields ps }:=x
  show h'.get? a=some { cls:=.none,data:=.fields ps }
  exact k a _ (.inl rfl) e
 |met f y=>
  have e:h.get? a=some (jm (.ref f) (.ref y)):=x
  show h'.get? a=some (jm (.ref f) (.ref y))
  exact k a _ (.inl rfl) e
 |ext φ=>obtain⟨p,⟨o,e⟩,st⟩:=x;exact⟨st _ _ p λo q=>k _ _ (.inl rfl) q,⟨o,k _ _ (.inl rfl) e⟩,st⟩
theorem HOk.lt(x:HOk P w H h)(e:H a=some o):a<h.objs.size:=(x a o e).lt
theorem HOk.fresh(x:HOk P w H h)(e:h.objs.size<=a):H a=none:=by
 cases q:H a with
 |none=>rfl
 |some u=>exact absurd (aL (x.lt q) e) (e9 _)
theorem HOk.kept(x:HOk P w H h)(k:∀b u,h.get? b=some u->h'.get? b=some u):HOk P w H h':=λa o e=>
 (x a o e).stay (λb u _ q=>k b u q) (λ_ q=>q) λ_ _ q=>q
theorem HOk.laid(x:HOk P w H h)(k:∀b u,h.get? b=some u->h'.get? b=some u)(hp:h.objs.size<=a)(new:ObjOk P w (upd H a o) h' a o):HOk P w (upd H a o) h':=λb u e=>by
 have hn:=x.fresh hp
 by_cases hb:b=a
 .subst hb;rw[Ac] at e;cases e;exact new
 .rw[Ai hb] at e
  exact (x b u e).stay (λc v _ q=>k c v q) (λc q=>by rw[Ai (Aj q hn)];exact q) λc xs q=>by rw[Ai (Aj q hn)];exact q
end
def Rd(H:Hp)(a:Addr)(u:HO):Prop:=H a=some u \/ ∃o,H a=some (.frz o u)
theorem Rd.ok(r:Rd H a u)(x:HOk P w H h):ObjOk P w H h a u:=by
 rcases r with r|⟨o,r⟩
 .exact x a u r
 .obtain⟨_,q⟩:=x a _ r
  exact q
noncomputable def Mut:Option HO->Prop
 |some (.lst _)=>True
 |some (.dK _)=>True
 |some (.dT _)=>True
 |some (.set _ _)=>True
 |some (.ins _ _ _)=>True
 |some (.ext _)=>True
 |_=>False
section
variable {P:bq} {w:cb} {H:Hp} {h h':Heap} {x e:Addr} {o':HO}
theorem HOk.write(ok:HOk P w H h)(mu:Mut (H x))(he:e=x\/H e=some (.own x))(k:∀b u,b≠e->h.get? b=some u->h'.get? b=some u)(heo:∃u,h'.get? e=some u)(new:ObjOk P w (upd H x o') h' x o'):HOk P w (upd H x o') h':=λb u q=>by
 have nown:∀c y,H c=some (.own y)->c≠x:=λc y r z=>by subst z;rw[r] at mu;exact mu
 have ntup:∀c xs,H c=some (.tup xs)->c≠x:=λc xs r z=>by subst z;rw[r] at mu;exact mu
 by_cases hb:b=x
 .subst hb;rw[Ac] at q;cases q;exact new
 .rw[Ai hb] at q
  by_cases hbe:b=e
  .have q':H b=some (.own x):=by
    rcases he with z|z
    .exact absurd (hbe.trans z) hb
    .rw[hbe];exact z
   rw[q] at q';cases q'
   obtain⟨v,hv⟩:=heo
   exact⟨v,by rw[hbe];exact hv⟩
  .refine (ok b u q).stay (λc v hc r=>k c v ?_ r) (λc r=>by rw[Ai (nown c b r)];exact r) λc xs r=>by rw[Ai (ntup c xs r)];exact r
   rcases hc with rfl|hc
   .exact hbe
   .rintro rfl
    rcases he with z|z
    .exact nown c b hc z
    .rw[hc] at z;cases z;exact hb rfl
end
structure Un (fs ex:List Addr) (H H':Hp) (h h':Heap):Prop where
 keep:∀b o,h.get? b=some o->H b=none->b∉fs->b∉ex->h'.get? b=some o
 slot:∀b o,h.get? b=some o->H b=none->b∈fs->b∉ex -> ∃sl,h'.get? b=some { o with slots:=sl }
 free:∀b o,h.get? b=some o->H b=none->b∉ex->H' b=none
 there:∀b o,h.get? b=some o->b∉ex -> ∃o',h'.get? b=some o'
 tups:∀b xs,H b=some (.tup xs)->H' b=some (.tup xs)
 frzs:∀b o u,H b=some (.frz o u)->H' b=some (.frz o u)
 tbls:∀b ps,H b=some (.tbl ps) -> ∃more,H' b=some (.tbl (ps++more))
section
variable {fs fs' ex ex':List Addr} {H H1 H2:Hp} {h h1 h2 h':Heap} {a x e:Addr} {o:HO}
theorem Un.any(u:Un fs ex H H1 h h1)(q:h.get? b=some ob)(n:H b=none)(hx:b∉ex):∃sl,h1.get? b=some { ob with slots:=sl }:=by
 by_cases hb:b∈fs
 .exact u.slot b ob q n hb hx
 .exact⟨ob.slots,u.keep b ob q n hb hx⟩
theorem Un.kept(k:∀b u,h.get? b=some u->h'.get? b=some u):Un fs ex H H h h':=
 ⟨λb ob q _ _ _=>k b ob q,λb ob q _ _ _=>⟨ob.slots,k b ob q⟩,λ_ _ _ n _=>n,λb ob q _=>⟨ob,k b ob q⟩,λ_ _ q=>q,λ_ _ _ q=>q,λ_ ps q=>⟨#[],by rw[q];simp⟩⟩
theorem Un.refl:Un fs ex H H h h:=Un.kept λ_ _ q=>q
theorem Un.laid(k:∀b u,h.get? b=some u->h'.get? b=some u)(hp:h.objs.size<=a)(hn:H a=none):Un fs ex H (upd H a o) h h' where
 keep:=λb u q _ _ _=>k b u q
 slot:=λb u q _ _ _=>⟨u.slots,k b u q⟩
 free:=λb u q n _=>by rw[Ai (aT (aL (aH q) hp))];exact n
 there:=λb u q _=>⟨u,k b u q⟩
 tups:=λb xs q=>by rw[Ai (Aj q hn)];exact q
 frzs:=λb u xs q=>by rw[Ai (Aj q hn)];exact q
 tbls:=λb ps q=>⟨#[],by rw[Ai (Aj q hn),q];simp⟩
theorem Un.write(mu:Mut (H x))(he:e=x\/H e=some (.own x))(k:∀b u,b≠e->h.get? b=some u->h'.get? b=some u)(heo:∃u,h'.get? e=some u):Un fs ex H (upd H x o) h h':=by
 have hx:∀b,H b=none->b≠x:=λb n z=>by subst z;rw[n] at mu;exact mu
 have hb:∀b,H b=none->b≠e:=λb n z=>by
  subst z
  rcases he with r|r
  .exact hx b n r
  .rw[n] at r;cases r
 have hm:∀b u,H b=some u -> ¬ Mut (some u)->b≠x:=λb u q nm z=>by subst z;rw[q] at mu;exact nm mu
 refine⟨λb u q n _ _=>k b u (hb b n) q,λb u q n _ _=>⟨u.slots,k b u (hb b n) q⟩,λb u q n _=>by rw[Ai (hx b n)];exact n,λb u q _=>?_,
  λb xs q=>by rw[Ai (hm b _ q λz=>z)];exact q,λb u xs q=>by rw[Ai (hm b _ q λz=>z)];exact q,λb ps q=>⟨#[],by rw[Ai (hm b _ q λz=>z),q];simp⟩⟩
 by_cases hbe:b=e
 .subst hbe;exact heo
 .exact⟨u,k b u hbe q⟩
end
def trk(h:Heap)(H:Hp):List Addr:=(aD h.objs.size).filter λa=>(H a).isSome
def Sc(h:Heap)(H:Hp):Heap:=PySem.W.hideAll h (trk h H)
theorem af0(h:Heap)(H:Hp):(Sc h H).objs.size=h.objs.size:=PySem.W.hideAll_size _ _
theorem ar3(e:h.get? b=some o)(n:H b=none):(Sc h H).get? b=some o:=
 PySem.W.hideAll_get _ e λhm=>by
  have q:(H b).isSome=true:=(List.mem_filter.mp hm).2
  rw[n] at q;simp at q
theorem a98(e:(Sc h H).get? b=some o):h.get? b=some o/\H b=none:=by
 have e':h.get? b=some o:=PySem.W.of_hideAll (trk h H) e
 refine⟨e',?_⟩
 cases q:H b with
 |none=>rfl
 |some x=>
  have hm:b∈trk h H:=List.mem_filter.mpr ⟨List.mem_range.mpr (aH e'),by simp[q]⟩
  have z:(Sc h H).get? b=none:=PySem.W.hideAll_none (trk h H) hm
  rw[z] at e;cases e
structure Mod (K:ac) (mg:Str->Option Value) (base:Heap):Prop where
 kin:K.In base
 glob:base.Ns bA mg
 blt:∃mb,base.Ns builtinsNs mb/\∀x:Str,x ≠ "__name__" -> mb x=dE x
 nolimit:base.NoLimit
structure Cx where
 prog:bq
 w:cb
 K:ac
 mg:Str->Option Value
 base:Heap
 A:cj
 N:List Str
 s₀:aF
 H₀:Hp
 env:Env
 outer:List Env
 stack:List Env
 ex:List Addr
 fn:Str->Bool
 calm:Bool
 pn:List (Addr×Obj)
 xe:Value->aF->Prop
def frs(l:List Env):List Addr:=l.filterMap (·.frame)
abbrev Cx.fs(X:Cx):List Addr:=frs X.outer
def Vis(sc:Scope)(x:Str):Prop:=sc.names.lookup x=some .local\/sc.names.lookup x=some .cell\/sc.names.lookup x=some .free
def Loc(sc:Scope)(x:Str):Prop:=sc.names.lookup x=some .local\/sc.names.lookup x=some .cell
noncomputable def ce1(env:Env)(h:Heap)(m:Str->Option Value)(x:Str)(u:Value):Prop:=
 (env.kindOf x=some .local/\m x=some u)\/((env.kindOf x=some .cell\/env.kindOf x=some .free)/\∃c,env.cells.lookup x=some c/\h.IsCell c (some u))
def Y6(_:ac)(_:Nat):Prop:=True
structure Cx.Ok (X:Cx):Prop where
 mod:Mod X.K X.mg X.base
 kind:X.env.scope.kind=.function
 glob:X.env.globals=bA
 blt:X.env.builtins=builtinsNs
 above:X.s₀.heap.objs.size<=X.env.locals
 inj:∀x y c,X.env.cells.lookup x=some c->X.env.cells.lookup y=some c->x=y
 has:∀x,(X.env.kindOf x=some .cell\/X.env.kindOf x=some .free) -> ∃c,X.env.cells.lookup x=some c
 cab:∀x c,X.fn x=true->X.env.cells.lookup x=some c->X.s₀.heap.objs.size<=c
 hd:X.calm=true->X.A.handled=none
 frames:X.A.frames=some X.stack
 stk:X.stack=X.outer\/(X.stack=X.env::X.outer/\X.env.frame=some X.env.locals)
 exf:∀b∈X.ex,b≠X.env.locals/\∀x c,X.env.cells.lookup x=some c->c≠b
 bs:∀b o,X.base.get? b=some o->X.s₀.heap.get? b=some o/\X.H₀ b=none
 bsz:X.base.objs.size<=X.s₀.heap.objs.size
 noex:∀b o,X.base.get? b=some o->b∉X.ex
 exfs:∀b∈X.ex,b∉X.fs
 funs:X.s₀.heap.FunFrames X.base X.outer
 frf:∀b∈X.fs,X.H₀ b=none
 tk:Y6 X.K X.s₀.toks
structure Inv (X:Cx) (ξ:List (Addr×Obj)) (σ:List (Option V)) (H:Hp) (s:aF):Prop where
 ok:X.Ok
 os:s.os=X.s₀.os/\X.s₀.toks<=s.toks
 bare:jt s.gens
 base:Un X.fs X.ex X.H₀ H X.s₀.heap s.heap
 loc:∃m,s.heap.Ns X.env.locals m/\∀(i:Nat)(x:Str)(v:V),X.N[i]?=some x->σ[i]?=some (some v)->Vis X.env.scope x -> ∃u,RelV v u/\ce1 X.env s.heap m x u
 cell:∀x c,X.env.cells.lookup x=some c -> ∃v,s.heap.IsCell c v
 free:H X.env.locals=none
 freeC:∀x c,X.env.cells.lookup x=some c->H c=none
 pin:∀p∈X.pn++ξ,s.heap.get? p.1=some p.2/\H p.1=none/\p.1≠X.env.locals/\p.1∉X.fs/\∀v,p.2.data≠.cell v
 hok:HOk X.prog X.w H s.heap
 len:σ.length=X.N.length
section
variable {X:Cx} {ξ:List (Addr×Obj)} {σ:List (Option V)} {H H':Hp} {s:aF} {h':Heap}
theorem Cx.Ok.nofr(ok:X.Ok)(e:X.base.get? b=some o):b∉X.fs:=λhb=>by
 have:=(ok.funs.mem hb).1
 rw[e] at this;cases this
theorem Inv.bs(I:Inv X ξ σ H s):∀b o,X.base.get? b=some o->s.heap.get? b=some o/\H b=none:=λb o e=>
 ⟨I.base.keep b o (I.ok.bs b o e).1 (I.ok.bs b o e).2 (I.ok.nofr e) (I.ok.noex b o e),I.base.free b o (I.ok.bs b o e).1 (I.ok.bs b o e).2 (I.ok.noex b o e)⟩
theorem Inv.bk(I:Inv X ξ σ H s):∀b o,X.base.get? b=some o->s.heap.get? b=some o:=λb o e=>(I.bs b o e).1
theorem Inv.mod(I:Inv X ξ σ H s):Mod X.K X.mg X.base:=I.ok.mod
theorem Inv.kIn(I:Inv X ξ σ H s):X.K.In s.heap:=I.ok.mod.kin.keeps I.bk
theorem Inv.lt(I:Inv X ξ σ H s):X.env.locals<s.heap.objs.size:=let ⟨_,hn,_⟩:=I.loc;hn.lt
theorem Inv.sz(I:Inv X ξ σ H s):X.s₀.heap.objs.size<=s.heap.objs.size:=aw I.ok.above (dD I.lt)
theorem Inv.nofs(I:Inv X ξ σ H s)(h:s.heap.objs.size<=a):a∉X.fs:=λhb=>by
 obtain⟨_,o,ho,_⟩:=I.ok.funs.mem hb
 exact absurd (aL (aH ho) (aw I.sz h)) (e9 _)
theorem Inv.cne(I:Inv X ξ σ H s):∀x c,X.env.cells.lookup x=some c->c≠X.env.locals:=λx c e z=>by
 obtain⟨v,o,ho,hd⟩:=I.cell x c e
 obtain⟨m,⟨o',es,ep,ho',hd',_⟩,_⟩:=I.loc
 rw[z,ho'] at ho;cases ho;rw[hd'] at hd;cases hd
theorem Inv.funs(I:Inv X ξ σ H s):s.heap.FunFrames X.base X.outer:=by
 have all:∀(l:List Env),(∀b∈frs l,b∈X.fs)->X.s₀.heap.FunFrames X.base l->s.heap.FunFrames X.base l:=by
  intro l
  induction l with
  |nil=>intro _ _;trivial
  |cons env r ih=>
   intro hs hl
   obtain⟨hk,⟨L,o,hf,hn,ho,hd⟩,hr⟩:=hl
   have hL:L∈X.fs:=hs L (by unfold frs;rw[iz,hf];exact am)
   obtain⟨sl,e⟩:=I.base.slot L o ho (I.ok.frf L hL) hL λz=>I.ok.exfs L z hL
   exact⟨hk,⟨L,_,hf,hn,e,hd⟩,ih (λb hb=>hs b (by unfold frs;rw[iz,hf];exact aq _ hb)) hr⟩
 exact all X.outer (λ_ hb=>hb) I.ok.funs
theorem Inv.stack(I:Inv X ξ σ H s):s.heap.FunFrames X.base X.stack:=by
 rcases I.ok.stk with e|⟨e,hf⟩
 .rw[e];exact I.funs
 .rw[e]
  obtain⟨m,hn,_⟩:=I.loc
  refine .cons (by rw[I.ok.kind];decide) hf hn ?_ I.funs
  exact g7 (aw I.ok.bsz I.ok.above)
theorem Inv.stkSub(I:Inv X ξ σ H s):∀b∈frs X.stack,b∈X.env.locals::X.fs:=λb hb=>by
 rcases I.ok.stk with e|⟨e,hf⟩
 .rw[e] at hb;exact aq _ hb
 .rw[e] at hb
  unfold frs at hb
  rw[iz,hf] at hb
  exact hb
theorem Inv.stkFree(I:Inv X ξ σ H s):∀b∈frs X.stack,H b=none:=λb hb=>by
 rcases List.mem_cons.mp (I.stkSub b hb) with e|hb
 .rw[e];exact I.free
 .obtain⟨_,o,ho,_⟩:=I.ok.funs.mem hb
  exact I.base.free b o ho (I.ok.frf b hb) λz=>I.ok.exfs b z hb
theorem Inv.step {g':Array k8}{t':Nat}{d':Drawn}{ch:List Addr}(I:Inv X ξ σ H s)(hch:∀b∈ch,(b∈X.ex\/X.s₀.heap.objs.size<=b)/\b≠X.env.locals/\(∀x c,X.env.cells.lookup x=some c->c≠b)/\∀p∈X.pn++ξ,p.1≠b)(keep:∀b o,b≠X.env.locals->b∉X.fs->b∉ch->s.heap.get? b=some o->H b=none->h'.get? b=some o)(slot:∀b o,b≠X.env.locals->b∈X.fs->b∉ch->s.heap.get? b=some o->H b=none -> ∃sl,h'.get? b=some { o with slots:=sl })(free:∀b o,b∉ch->s.heap.get? b=some o->H b=none->H' b=none)(there:∀b o,b∉ch->s.heap.get? b=some o -> ∃o',h'.get? b=some o')(tups:∀b xs,H b=some (.tup xs)->H' b=some (.tup xs))(frzs:∀b o u,H b=some (.frz o u)->H' b=some (.frz o u))(tbls:∀b ps,H b=some (.tbl ps) -> ∃more,H' b=some (.tbl (ps++more)))(ns:∀m,s.heap.Ns X.env.locals m->h'.Ns X.env.locals m)(hok:HOk X.prog X.w H' h')(hg:jt g')(ht:s.toks<=t':=by first|exact ak _|exact aV _ _|assumption|omega|(dsimp only;omega)) :
  Inv X ξ σ H' { s with heap:=h',gens:=g',drawn:=d',toks:=t' }:=by
 have neL:∀b o,X.s₀.heap.get? b=some o->b≠X.env.locals:=λb o e=>aT (aL (aH e) I.ok.above)
 have neC:∀b o,X.s₀.heap.get? b=some o->b∉X.ex->b∉ch:=λb o e hx hb=>by
  rcases (hch b hb).1 with z|z
  .exact hx z
  .exact absurd (aL (aH e) z) (e9 _)
 have cellK:∀x c,X.env.cells.lookup x=some c -> ∀v,s.heap.IsCell c v->h'.IsCell c v:=λx c e v ⟨o,ho,hd⟩=>by
  have nch:c∉ch:=λz=>(hch c z).2.2.1 x c e rfl
  by_cases hc:c∈X.fs
  .obtain⟨sl,q⟩:=slot c o (I.cne x c e) hc nch ho (I.freeC x c e)
   exact⟨_,q,hd⟩
  .exact⟨o,keep c o (I.cne x c e) hc nch ho (I.freeC x c e),hd⟩
 refine⟨I.ok,⟨I.os.1,aw I.os.2 ht⟩,hg,⟨λb o e n hb hx=>?_,λb o e n hb hx=>?_,λb o e n hx=>?_,λb o e hx=>?_,λb xs e=>tups b xs (I.base.tups b xs e),λb o xs e=>frzs b o xs (I.base.frzs b o xs e),λb ps e=>?_⟩,?_,λx c e=>?_,?_,λx c e=>?_,λp hp=>?_,hok,I.len⟩
 .exact keep b o (neL b o e) hb (neC b o e hx) (I.base.keep b o e n hb hx) (I.base.free b o e n hx)
 .obtain⟨sl,e1⟩:=I.base.slot b o e n hb hx
  obtain⟨sl',e2⟩:=slot b _ (neL b o e) hb (neC b o e hx) e1 (I.base.free b o e n hx)
  exact⟨sl',e2⟩
 .obtain⟨o',e1⟩:=I.base.there b o e hx
  exact free b o' (neC b o e hx) e1 (I.base.free b o e n hx)
 .obtain⟨o',e1⟩:=I.base.there b o e hx
  exact there b o' (neC b o e hx) e1
 .obtain⟨m1,e1⟩:=I.base.tbls b ps e
  obtain⟨m2,e2⟩:=tbls b _ e1
  exact⟨m1++m2,by rw[e2,Array.append_assoc]⟩
 .obtain⟨m,hn,hl⟩:=I.loc
  refine⟨m,ns m hn,λi x v e1 e2 e3=>?_⟩
  obtain⟨u,r,l⟩:=hl i x v e1 e2 e3
  refine⟨u,r,?_⟩
  rcases l with l|⟨k,c,e,z⟩
  .exact .inl l
  .exact .inr ⟨k,c,e,cellK x c e _ z⟩
 .obtain⟨v,z⟩:=I.cell x c e
  exact⟨v,cellK x c e v z⟩
 .obtain⟨m,⟨o,_,_,ho,_⟩,_⟩:=I.loc
  exact free _ o (λz=>(hch _ z).2.1 rfl) ho I.free
 .obtain⟨v,o,ho,hd⟩:=I.cell x c e
  exact free c o (λz=>(hch c z).2.2.1 x c e rfl) ho (I.freeC x c e)
 .obtain⟨e,n,ne,nf,d⟩:=I.pin p hp
  have nch:p.1∉ch:=λz=>(hch p.1 z).2.2.2 p hp rfl
  exact⟨keep p.1 p.2 ne nf nch e n,free p.1 p.2 nch e n,ne,nf,d⟩
theorem Inv.un(I:Inv X ξ σ H s)(u:Un X.fs [] H H' s.heap h')(hok:HOk X.prog X.w H' h')(ht:s.toks<=t':=by first|exact ak _|exact aV _ _|assumption|omega|(dsimp only;omega)):Inv X ξ σ H' { s with heap:=h',toks:=t' }:=by
 obtain⟨m,⟨o,es,ep,ho,r⟩,_⟩:=id I.loc
 obtain⟨sl,hL⟩:=u.any ho I.free (by simp)
 exact I.step (g':=s.gens) (d':=s.drawn) (ch:=[]) (λ_ z=>nomatch z) (λb o _ hb _ e n=>u.keep b o e n hb (by simp)) (λb o _ hb _ e n=>u.slot b o e n hb (by simp)) (λb o _ e n=>u.free b o e n (by simp)) (λb o _ e=>u.there b o e (by simp)) u.tups u.frzs u.tbls (λm' hm=>by
  obtain⟨o',es',ep',ho',r'⟩:=hm
  rw[ho] at ho';cases ho'
  exact⟨_,es',ep',hL,r'⟩) hok I.bare
theorem Inv.call(I:Inv X ξ σ H s)(u:Un (frs X.stack) ch H H' s.heap h')(hok:HOk X.prog X.w H' h')(hg:jt g')(hch:∀b∈ch,(b∈X.ex\/X.s₀.heap.objs.size<=b)/\b≠X.env.locals/\(∀x c,X.env.cells.lookup x=some c->c≠b)/\∀p∈X.pn++ξ,p.1≠b)(ht:s.toks<=t':=by first|exact ak _|exact aV _ _|assumption|omega|(dsimp only;omega)) :
  Inv X ξ σ H' { s with heap:=h',gens:=g',drawn:=d',toks:=t' }:=by
 obtain⟨m,⟨o,es,ep,ho,r⟩,_⟩:=id I.loc
 obtain⟨sl,hL⟩:=u.any ho I.free λz=>(hch _ z).2.1 rfl
 exact I.step (ch:=ch) hch (λb o hL hb hc e n=>u.keep b o e n (λz=>(List.mem_cons.mp (I.stkSub b z)).elim hL hb) hc) (λb o _ _ hc e n=>u.any e n hc) (λb o hc e n=>u.free b o e n hc) (λb o hc e=>u.there b o e hc) u.tups u.frzs u.tbls (λm' hm=>by
  obtain⟨o',es',ep',ho',r'⟩:=hm
  rw[ho] at ho';cases ho'
  exact⟨_,es',ep',hL,r'⟩) hok hg
theorem Inv.turned {t':Nat}{it:Addr}(I:Inv X ξ σ H s)(k:∀b o,b≠it->s.heap.get? b=some o->h'.get? b=some o)(hn:H it=none)(hL:it≠X.env.locals)(h1:it∈X.ex\/X.s₀.heap.objs.size<=it)(h2:∀x c,X.env.cells.lookup x=some c->c≠it)(h3:∀p∈X.pn++ξ,p.1≠it)(ht:s.toks<=t':=by first|exact ak _|exact aV _ _|assumption|omega|(dsimp only;omega)):Inv X ξ σ H { s with heap:=h',toks:=t' }:=by
 have nit:∀b u,H b=some u->b≠it:=λb u e z=>by rw[z,hn] at e;cases e
 refine I.step (g':=s.gens) (d':=s.drawn) (ch:=[it]) (λb hb=>?_) (λb o _ _ hc e _=>k b o (λz=>hc (by simp[z])) e) (λb o _ _ hc e _=>⟨o.slots,k b o (λz=>hc (by simp[z])) e⟩) (λ_ _ _ _ n=>n)
  (λb o hc e=>⟨o,k b o (λz=>hc (by simp[z])) e⟩) (λ_ _ e=>e) (λ_ _ _ e=>e) (λb ps e=>⟨#[],by rw[e];simp⟩) (λm hm=>?_) (λb u e=>?_) I.bare
 .have e:b=it:=by simpa using hb
  subst e
  exact⟨h1,hL,h2,h3⟩
 .obtain⟨o,es,ep,ho,r⟩:=hm
  exact⟨o,es,ep,k _ o (cQ hL) ho,r⟩
 .refine (I.hok b u e).stay (λc v hc q=>k c v ?_ q) (λ_ q=>q) λ_ _ q=>q
  rcases hc with z|z
  .rw[z];exact nit b u e
  .exact nit c _ z
theorem Inv.tok(I:Inv X ξ σ H s)(t:Nat)(ht:s.toks<=t:=by first|exact ak _|exact aV _ _|assumption|omega|(dsimp only;omega)):Inv X ξ σ H { s with toks:=t }:=I.un (h':=s.heap) (t':=t) Un.refl I.hok ht
theorem Inv.kept(I:Inv X ξ σ H s)(k:∀b u,s.heap.get? b=some u->h'.get? b=some u)(ht:s.toks<=t':=by first|exact ak _|exact aV _ _|assumption|omega|(dsimp only;omega)):Inv X ξ σ H { s with heap:=h',toks:=t' }:=I.un (Un.kept k) (I.hok.kept k) ht
theorem Inv.laid(I:Inv X ξ σ H s)(k:∀b u,s.heap.get? b=some u->h'.get? b=some u)(hp:s.heap.objs.size<=a)(new:ObjOk X.prog X.w (upd H a o) h' a o)(ht:s.toks<=t':=by first|exact ak _|exact aV _ _|assumption|omega|(dsimp only;omega)) :
  Inv X ξ σ (upd H a o) { s with heap:=h',toks:=t' }:=I.un (Un.laid k hp (I.hok.fresh hp)) (I.hok.laid k hp new) ht
theorem Inv.write(I:Inv X ξ σ H s)(mu:Mut (H x))(he:e=x\/H e=some (.own x))(k:∀b u,b≠e->s.heap.get? b=some u->h'.get? b=some u)(heo:∃u,h'.get? e=some u)(new:ObjOk X.prog X.w (upd H x o) h' x o)(ht:s.toks<=t':=by first|exact ak _|exact aV _ _|assumption|omega|(dsimp only;omega)):Inv X ξ σ (upd H x o) { s with heap:=h',toks:=t' }:=I.un (Un.write mu he k heo) (I.hok.write mu he k heo new) ht
theorem Inv.pins_of(I:Inv X ξ σ H s)(h:∀p∈pins',s.heap.get? p.1=some p.2/\H p.1=none/\p.1≠X.env.locals/\p.1∉X.fs/\∀v,p.2.data≠.cell v):Inv X pins' σ H s:=
 ⟨I.ok,I.os,I.bare,I.base,I.loc,I.cell,I.free,I.freeC,λp hp=>(List.mem_append.mp hp).elim (λz=>I.pin p (bL _ z)) (h p),I.hok,I.len⟩
theorem Nd {N:List Str}(hN:N.Nodup){i j:Nat}{x:Str}(a:N[i]?=some x)(b:N[j]?=some x):i=j:=by
 obtain⟨h1,e1⟩:=List.getElem?_eq_some_iff.mp a
 obtain⟨h2,e2⟩:=List.getElem?_eq_some_iff.mp b
 exact (c5 hN).mp (e1.trans e2.symm)
theorem ai1(I:Inv X ξ σ H s)(hN:X.N.Nodup)(hi:X.N[i]?=some x)(hx:Loc X.env.scope x)(r:RelV v u)(h:∀s',Inv X ξ (σ.set i (some v)) H s'->(∃a,bE a s.heap s'.heap/\(a=X.env.locals\/X.env.cells.lookup x=some a))->Q () s')(hf:X.fn x=true\/X.env.scope.names.lookup x=some .local:=by first|exact .inl rfl|exact .inr rfl|assumption):aW M A (storeName X.env x u) Q E s:=by
 obtain⟨m,hn,hl⟩:=id I.loc
 have hcls:(X.env.scope.kind==.class||(X.env.scope.kind==.module&&X.env.locals != X.env.globals))=false:=by rw[I.ok.kind];rfl
 have hiσ:i<σ.length:=by rw[I.len];exact (List.getElem?_eq_some_iff.mp hi).1
 have cne:=I.cne
 have tracked:∀ {a:Addr} {h':Heap},(∃o,s.heap.get? a=some o/\H a=none)->bE a s.heap h'->HOk X.prog X.w H h':=λ{a h'} ha hs b ob e=>by
  obtain⟨_,_,hfree⟩:=ha
  refine (I.hok b ob e).stay (λc w' hc q=>(hs.2 c ?_).trans q) (λ_ q=>q) λ_ _ q=>q
  rintro rfl
  rcases hc with rfl|hc
  .rw[hfree] at e;cases e
  .rw[hfree] at hc;cases hc
 rcases hx with hk|hk
 .refine wpAny_storeName_local hk hn (λh' hn' hs=>?_) hcls
  obtain⟨oL,_,_,hoL,_⟩:=id hn
  refine h _ ⟨I.ok,⟨I.os.1,aw I.os.2 (by first|exact ak _|exact aV _ _)⟩,I.bare,⟨λb o e n hb hx=>?_,λb o e n hb hx=>?_,I.base.free,λb o e hx=>?_,I.base.tups,I.base.frzs,I.base.tbls⟩,⟨_,hn',λj y v' e1 e2 e3=>?_⟩,λy c e=>?_,I.free,I.freeC,λp hp=>?_,tracked ⟨oL,hoL,I.free⟩ hs,by simpa using I.len⟩ ⟨_,hs,.inl rfl⟩
  .exact (hs.2 b (aT (aL (aH e) I.ok.above))).trans (I.base.keep b o e n hb hx)
  .obtain⟨sl,e1⟩:=I.base.slot b o e n hb hx
   exact⟨sl,(hs.2 b (aT (aL (aH e) I.ok.above))).trans e1⟩
  .obtain⟨o',e1⟩:=I.base.there b o e hx
   exact⟨o',(hs.2 b (aT (aL (aH e) I.ok.above))).trans e1⟩
  .by_cases hj:j=i
   .subst hj
    rw[hi] at e1;cases e1
    rw[gn hiσ] at e2
    cases e2
    exact⟨u,r,.inl ⟨hk,by simp⟩⟩
   .rw[g8 (cQ hj)] at e2
    obtain⟨u',r',q⟩:=hl j y v' e1 e2 e3
    refine⟨u',r',?_⟩
    rcases q with ⟨k,e⟩|⟨k,c,e,z⟩
    .refine .inl ⟨k,?_⟩
     have:y≠x:=λe=>hj (Nd hN e1 (e▸hi))
     simp[this,e]
    .exact .inr ⟨k,c,e,z.sameBut hs (cne y c e)⟩
  .obtain⟨w',z⟩:=I.cell y c e
   exact⟨w',z.sameBut hs (cne y c e)⟩
  .obtain⟨e,n,ne,nf,d⟩:=I.pin p hp
   exact⟨(hs.2 p.1 ne).trans e,n,ne,nf,d⟩
 .have hfn:X.fn x=true:=by
   rcases hf with z|z
   .exact z
   .rw[z] at hk;cases hk
  obtain⟨c,hc⟩:=I.ok.has x (.inl hk)
  obtain⟨w',z⟩:=I.cell x c hc
  refine wpAny_storeName_cell I.ok.kind hk hc z (λh' hc' hs=>?_)
  obtain⟨oc,hoc,hocd⟩:=id z
  refine h { s with heap:=h' } ⟨I.ok,I.os,I.bare,⟨λb o e n hb hx=>?_,λb o e n hb hx=>?_,I.base.free,λb o e hx=>?_,I.base.tups,I.base.frzs,I.base.tbls⟩,⟨m,hn.sameBut hs (cQ (cne x c hc)),λj y v' e1 e2 e3=>?_⟩,λy c' e=>?_,I.free,I.freeC,λp hp=>?_,tracked ⟨oc,hoc,I.freeC x c hc⟩ hs,by simpa using I.len⟩ ⟨c,hs,.inr hc⟩
  .exact (hs.2 b (aT (aL (aH e) (I.ok.cab x c hfn hc)))).trans (I.base.keep b o e n hb hx)
  .obtain⟨sl,e1⟩:=I.base.slot b o e n hb hx
   exact⟨sl,(hs.2 b (aT (aL (aH e) (I.ok.cab x c hfn hc)))).trans e1⟩
  .obtain⟨o',e1⟩:=I.base.there b o e hx
   exact⟨o',(hs.2 b (aT (aL (aH e) (I.ok.cab x c hfn hc)))).trans e1⟩
  .by_cases hj:j=i
   .subst hj
    rw[hi] at e1;cases e1
    rw[gn hiσ] at e2
    cases e2
    exact⟨u,r,.inr ⟨.inl hk,c,hc,hc'⟩⟩
   .rw[g8 (cQ hj)] at e2
    obtain⟨u',r',q⟩:=hl j y v' e1 e2 e3
    refine⟨u',r',?_⟩
    rcases q with q|⟨k,c',e,z'⟩
    .exact .inl q
    .refine .inr ⟨k,c',e,z'.sameBut hs ?_⟩
     rintro rfl
     exact hj (Nd hN e1 (I.ok.inj _ _ _ e hc▸hi))
  .by_cases hcc:c'=c
   .subst hcc;exact⟨_,hc'⟩
   .obtain⟨w2,z2⟩:=I.cell y c' e
    exact⟨w2,z2.sameBut hs hcc⟩
  .obtain⟨e,n,ne,nf,d⟩:=I.pin p hp
   refine⟨(hs.2 p.1 ?_).trans e,n,ne,nf,d⟩
   intro q
   rw[q,hoc] at e
   have q':oc=p.2:=aM e
   exact d w' (by rw[<- q'];exact hocd)
theorem Jg(I:Inv X ξ σ H s)(hN:X.N.Nodup)(hi:X.N[i]?=some x)(hx:Loc X.env.scope x)(r:RelV v u)(h:∀s',Inv X ξ (σ.set i (some v)) H s'->Q () s')(hf:X.fn x=true\/X.env.scope.names.lookup x=some .local:=by first|exact .inl rfl|exact .inr rfl|assumption):aW M A (storeName X.env x u) Q E s:=
 ai1 I hN hi hx r (λs' I' _=>h s' I') hf
theorem Inv.call'(I:Inv X ξ σ H s)(ho:s'.os=s.os/\s.toks<=s'.toks)(u:Un (frs X.stack) ch H H' s.heap s'.heap)(hok:HOk X.prog X.w H' s'.heap)(hg:jt s'.gens)(hch:∀b∈ch,(b∈X.ex\/X.s₀.heap.objs.size<=b)/\b≠X.env.locals/\(∀x c,X.env.cells.lookup x=some c->c≠b)/\∀p∈X.pn++ξ,p.1≠b):Inv X ξ σ H' s':=by
 obtain⟨h',g',d',t',o'⟩:=s'
 have e:o'=s.os:=ho.1
 subst e
 exact I.call (g':=g') (t':=t') (d':=d') u hok hg hch ho.2
end
abbrev XK:=Value->Option Addr->Hp->Prop
abbrev St:=List (Option V)
abbrev VK:=V->Hp->Prop
abbrev TE:=St->Hp->VK->Prop
abbrev TT:=St->Hp->(Bool->Hp->Prop)->Prop
abbrev TA:=St->Hp->(List V->Hp->Prop)->Prop
structure am7 where
 nx:St->Hp->Prop
 rt:VK
 bk:St->Hp->Prop:=λ_ _=>False
 ct:St->Hp->Prop:=λ_ _=>False
abbrev TS:=am7->St->Hp->Prop
noncomputable def EP(X:Cx)(ξ:List (Addr×Obj))(σ:St)(Q:VK)(u:Value)(s':aF):Prop:=∃v H',Inv X ξ σ H' s'/\RelV v u/\Q v H'
def TP(X:Cx)(ξ:List (Addr×Obj))(σ:St)(Q:Bool->Hp->Prop)(b:Bool)(s':aF):Prop:=∃H',Inv X ξ σ H' s'/\Q b H'
noncomputable def AP(X:Cx)(ξ:List (Addr×Obj))(σ:St)(Q:List V->Hp->Prop)(us:List Value)(s':aF):Prop:=∃vs H',Inv X ξ σ H' s'/\Vals vs us/\Q vs H'
noncomputable def SP(X:Cx)(ξ:List (Addr×Obj))(D:am7)(f:Flow)(s':aF):Prop:=
 match f with
 |.next=>∃ σ' H',Inv X ξ σ' H' s'/\D.nx σ' H'
 |.brk=>∃ σ' H',Inv X ξ σ' H' s'/\D.bk σ' H'
 |.cont=>∃ σ' H',Inv X ξ σ' H' s'/\D.ct σ' H'
 |.ret u=>∃v σ' H',Inv X ξ σ' H' s'/\RelV v u/\D.rt v H'
noncomputable def PE(X:Cx)(e:Expr)(t:TE):Prop:=
 ∀(ξ:List (Addr×Obj))(s:aF)(σ:St)(H:Hp)(Q:VK),Inv X ξ σ H s->t σ H Q->aW (model X.prog X.w) X.A (eval e X.env) (EP X ξ σ Q) X.xe s
noncomputable def PT(X:Cx)(e:Expr)(t:TT):Prop:=
 ∀(ξ:List (Addr×Obj))(s:aF)(σ:St)(H:Hp)(Q:Bool->Hp->Prop),Inv X ξ σ H s->t σ H Q->aW (model X.prog X.w) X.A (isTrue e X.env (eval e X.env)) (TP X ξ σ Q) X.xe s
noncomputable def PW(X:Cx)(e:Expr)(t:TT):Prop:=
 ∀(whole:Sem Value)(ξ:List (Addr×Obj))(s:aF)(σ:St)(H:Hp)(Q:Bool->Hp->Prop),Inv X ξ σ H s->t σ H Q->aW (model X.prog X.w) X.A (isTrue e X.env whole) (TP X ξ σ Q) X.xe s
theorem PW.pt(h:PW X e t):PT X e t:=h _
noncomputable def PA(X:Cx)(es:List Expr)(t:TA):Prop:=
 ∀(pos:Pos)(ξ:List (Addr×Obj))(s:aF)(σ:St)(H:Hp)(Q:List V->Hp->Prop),Inv X ξ σ H s->t σ H Q->aW (model X.prog X.w) X.A (spliced (jI pos (dw es X.env))) (AP X ξ σ Q) X.xe s
noncomputable def PS(X:Cx)(st:Stmt)(t:TS):Prop:=
 ∀(ξ:List (Addr×Obj))(s:aF)(σ:St)(H:Hp)(D:am7),Inv X ξ σ H s->t D σ H->aW (model X.prog X.w) X.A (exec st X.env) (SP X ξ D) X.xe s
noncomputable def PSs(X:Cx)(st:List Stmt)(t:TS):Prop:=
 ∀(ξ:List (Addr×Obj))(s:aF)(σ:St)(H:Hp)(D:am7),Inv X ξ σ H s->t D σ H->aW (model X.prog X.w) X.A (execs st X.env) (SP X ξ D) X.xe s
theorem thn {α:Type}{t:Sem α}{Q Q':α->aF->Prop}{M:Model}{A:cj}{E:Value->aF->Prop}{s:aF}(h:aW M A t Q E s)(hQ:∀a s,Q a s->Q' a s):aW M A t Q' E s:=cW h hQ λ_ _ x=>x
section
variable {X:Cx}
def ch0(i:Nat):TE:=λσ H Q=>∃v,σ[i]?=some (some v)/\Q v H
def tC(v:V):TE:=λ_ H Q=>Q v H
theorem bv3(hN:X.N[i]?=some x)(hv:Vis X.env.scope x)(hd:(x==("__debug__" : Str))=false:=by decide)(hcd:(x==("__classdict__" : Str))=false:=by decide):PE X (.Name x pos) (ch0 i):=by
 intro ξ s σ H Q I h
 obtain⟨v,e,h⟩:=h
 obtain⟨m,hn,hl⟩:=I.loc
 obtain⟨u,r,l⟩:=hl i x v hN e hv
 have fin:EP X ξ σ Q u s:=⟨v,H,I,r,h⟩
 rcases l with ⟨hk,hm⟩|⟨hk,c,hc,hcell⟩
 .exact wpAny_Name (wpAny_loadName_local I.ok.kind hk hn hm fin) hd
 .rcases hk with hk|hk
  .exact wpAny_Name (wpAny_loadName_cell I.ok.kind hk hc hcell fin) hd
  .exact wpAny_Name (wpAny_loadName_free I.ok.kind hk hc hcell fin hcd) hd
theorem bu7 {i j pos}:PE X (.Constant (.int i) j pos) (tC (.int i)):=λ_ _ _ H _ I h=>wpAny_Constant_int ⟨.int i,H,I.tok _,⟨_,rfl⟩,h⟩
theorem b79 {b j pos}:PE X (.Constant (.bool b) j pos) (tC (.bl b)):=λ_ _ _ H _ I h=>Constant_bool ⟨.bl b,H,I,rfl,h⟩
theorem bu9 {j pos}:PE X (.Constant .none j pos) (tC .non):=λ_ _ _ H _ I h=>Constant_none ⟨.non,H,I,rfl,h⟩
theorem bv1 {x j pos}:PE X (.Constant (.str x) j pos) (tC (.str x)):=λ_ _ _ H _ I h=>Calls.Constant_str ⟨.str x,H,I.tok _,⟨_,rfl⟩,h⟩
def Gl(X:Cx)(x:Str):Prop:=X.env.kindOf x=some .globalImplicit
theorem E2(I:Inv X ξ σ H s)(hg:Gl X x)(hm:X.mg x=some u)(h:Q u s)(hd:(x==("__debug__" : Str))=false:=by decide):aW (model X.prog X.w) X.A (eval (.Name x pos) X.env) Q E s:=
 iM I.ok.kind hg (Calls.loadGlobal_global (by rw[I.ok.glob];exact I.mod.glob.keeps I.bk) hm h) hd
theorem E8(I:Inv X ξ σ H s)(hg:Gl X x)(hm:X.mg x=none)(hv:dE x=some u)(h:Q u s)(hn:x ≠ "__name__" := by decide)(hd:(x==("__debug__" : Str))=false:=by decide):aW (model X.prog X.w) X.A (eval (.Name x pos) X.env) Q E s:=by
 obtain⟨mb,h1,h2⟩:=I.mod.blt
 exact iM I.ok.kind hg (Calls.loadGlobal_builtin (by rw[I.ok.glob];exact I.mod.glob.keeps I.bk) hm (by rw[I.ok.blt];exact h1.keeps I.bk) ((h2 x hn).trans hv) h) hd
theorem Sy(hg:Gl X x)(hm:X.mg x=some u)(r:RelV v u)(hd:(x==("__debug__" : Str))=false:=by decide):PE X (.Name x pos) (tC v):=
 λ_ _ _ H _ I h=>E2 I hg hm ⟨v,H,I,r,h⟩ hd
theorem bb0(hg:Gl X x)(hm:X.mg x=none)(hv:dE x=some u)(r:RelV v u)(hn:x ≠ "__name__" := by decide)(hd:(x==("__debug__" : Str))=false:=by decide):PE X (.Name x pos) (tC v):=
 λ_ _ _ H _ I h=>E8 I hg hm hv ⟨v,H,I,r,h⟩ hn hd
variable {a b:Expr} {ta tb:TE} {pos:Pos}
variable {tA tB':TT} {rest:List Expr}
def cg1(t u:TT):TT:=λσ H Q=>t σ H λc H1=>if c=true then u σ H1 Q else Q false H1
def tOr(t u:TT):TT:=λσ H Q=>t σ H λc H1=>if c=true then Q true H1 else u σ H1 Q
def cg6(t:TT):TT:=λσ H Q=>t σ H λc H1=>Q (!c) H1
theorem bc1(ha:PT X a tA):PW X (.BoolOp .And [a] pos) tA:=by
 intro wh ξ s σ H Q I h
 refine isTrue_and (thn (ha ξ s σ H Q I h) λc s1 e=>?_)
 cases c with
 |true=>exact isTrue_and_nil e
 |false=>exact e
theorem bw2(ha:PT X a tA):PW X (.BoolOp .Or [a] pos) tA:=by
 intro wh ξ s σ H Q I h
 refine isTrue_or (thn (ha ξ s σ H Q I h) λc s1 e=>?_)
 cases c with
 |false=>exact isTrue_or_nil e
 |true=>exact e
theorem bw1(ha:PT X a tA)(hb:PW X (.BoolOp .And (b::rest) pos) tB'):PW X (.BoolOp .And (a::b::rest) pos) (cg1 tA tB'):=by
 intro wh ξ s σ H Q I h
 refine isTrue_and (thn (ha ξ s σ H _ I h) λc s1 ⟨H1,I1,q1⟩=>?_)
 cases c with
 |true=>exact hb wh ξ s1 σ H1 Q I1 q1
 |false=>exact⟨H1,I1,q1⟩
theorem b85(ha:PT X a tA)(hb:PW X (.BoolOp .Or (b::rest) pos) tB'):PW X (.BoolOp .Or (a::b::rest) pos) (tOr tA tB'):=by
 intro wh ξ s σ H Q I h
 refine isTrue_or (thn (ha ξ s σ H _ I h) λc s1 ⟨H1,I1,q1⟩=>?_)
 cases c with
 |true=>exact⟨H1,I1,q1⟩
 |false=>exact hb wh ξ s1 σ H1 Q I1 q1
theorem bw0(ha:PT X a tA):PT X (.UnaryOp .Not a pos) (cg6 tA):=by
 intro ξ s σ H Q I h
 exact isTrue_not (ha ξ s σ H (λc H1=>Q (!c) H1) I h)
theorem bv0 {op}(h:PE X a t):PE X (.BoolOp op [a] pos) t:=λξ s σ H Q I hw=>BoolOp_one (h ξ s σ H Q I hw)
def tIf(t:TT)(ta tb:TE):TE:=λσ H Q=>t σ H λc H1=>if c=true then ta σ H1 Q else tb σ H1 Q
theorem av5 {c:Expr}(hc:PT X c tA)(ha:PE X a ta)(hb:PE X b tb):PE X (.IfExp c a b pos) (tIf tA ta tb):=by
 intro ξ s σ H Q I h
 refine wpAny_IfExp (thn (hc ξ s σ H _ I h) λd s1 ⟨H1,I1,q1⟩=>?_)
 cases d with
 |true=>exact ha ξ s1 σ H1 Q I1 q1
 |false=>exact hb ξ s1 σ H1 Q I1 q1
end
noncomputable def SqL(K:ac)(H:Hp)(a:Addr)(xs:List V):Prop:=
 Rd H a (.lst xs) \/
  ∃(o:Obj)(χ:Array Value)(n:Nat),K.lookup a=some o/\o.cls=.type "list" /\ o.dict=none/\o.data=.seq χ n/\χ.size<=sizeLine/\xs.all V.pl=true/\Vals xs χ.toList
noncomputable def SqT(K:ac)(H:Hp)(a:Addr)(xs:List V):Prop:=
 Rd H a (.tup xs) \/
  ∃(o:Obj)(χ:Array Value)(n:Nat),K.lookup a=some o/\o.cls=.type "tuple" /\ o.data=.seq χ n/\χ.size<=sizeLine/\xs.all V.pl=true/\Vals xs χ.toList
noncomputable def bm2:Value->Option V
 |.none=>some .non
 |.bool b=>some (.bl b)
 |.int i _=>some (.int i)
 |.str x _=>some (.str x)
 |.bytes b _=>some (.byt b)
 |.ref a=>some (.ref a)
 |.type n=>some (.ty n)
 |_=>none
theorem RelV.abs(r:RelV x u)(p:x.pl=true):bm2 u=some x:=by
 cases x with
 |non=>cases r;rfl
 |bl _=>cases r;rfl
 |int _=>obtain⟨t,rfl⟩:=r;rfl
 |str _=>obtain⟨t,rfl⟩:=r;rfl
 |byt _=>obtain⟨t,rfl⟩:=r;rfl
 |stk _ _ _=>cases p
 |ref _=>cases r;rfl
 |ty _=>cases r;rfl
theorem RelV.inj {x y:V}{u:Value}(r:RelV x u)(q:RelV y u)(p:x.pl=true)(p':y.pl=true):x=y:=aM ((r.abs p).symm.trans (q.abs p'))
theorem Vals.inj:∀ {xs ys:List V} {us:List Value},Vals xs us->Vals ys us->xs.all V.pl=true->ys.all V.pl=true->xs=ys
 |_,_,_,.nil,.nil,_,_=>rfl
 | _,_,_,.cons r t,.cons r' t',p,q=>by
  simp only[bv,ay] at p q
  rw[r.inj r' p.1 q.1,Vals.inj t t' p.2 q.2]
section
variable {X:Cx} {ξ:List (Addr×Obj)} {σ:St} {H:Hp} {s:aF} {a:Addr} {xs ys:List V}
theorem SqL.of {K:ac}(h:H a=some (.lst xs)):SqL K H a xs:=.inl (.inl h)
theorem SqT.of {K:ac}(h:H a=some (.tup xs)):SqT K H a xs:=.inl (.inl h)
theorem Inv.list(I:Inv X ξ σ H s)(h:SqL X.K H a xs):∃χ:List Value,Vals xs χ/\PlainL s.heap a χ.toArray/\xs.length<=sizeLine:=by
 rcases h with h|⟨o,χ,n,hk,hc,hd,hs,hz,_,r⟩
 .obtain⟨z,χ,n,r,e⟩:=h.ok I.hok
  exact⟨χ,r,⟨_,n,e,rfl,rfl,rfl⟩,z⟩
 .refine⟨χ.toList,r,⟨o,n,I.kIn a o hk,hc,hd,by simpa using hs⟩,?_⟩
  have e:=r.length
  simp only[d_] at e
  omega
theorem Inv.tuple(I:Inv X ξ σ H s)(h:SqT X.K H a xs):∃χ:List Value,Vals xs χ/\IsTup s.heap a χ.toArray/\xs.length<=sizeLine:=by
 rcases h with h|⟨o,χ,n,hk,hc,hs,hz,_,r⟩
 .obtain⟨z,χ,r,p⟩:=h.ok I.hok
  exact⟨χ,r,p,z⟩
 .refine⟨χ.toList,r,⟨o,I.kIn a o hk,hc,n,by simpa using hs⟩,?_⟩
  have e:=r.length
  simp only[d_] at e
  omega
theorem Inv.notK(I:Inv X ξ σ H s)(h:Rd H a o)(e:X.K.lookup a=some ob):False:=by
 have n:=(I.bs a ob (I.mod.kin a ob e)).2
 rcases h with h|⟨u,h⟩
 .rw[n] at h;cases h
 .rw[n] at h;cases h
theorem Inv.list_inj(I:Inv X ξ σ H s)(h:SqL X.K H a xs)(h':SqL X.K H a ys):xs=ys:=by
 rcases h with h|⟨o,χ,n,hk,hc,hd,hs,hz,p,r⟩
 .rcases h' with h'|⟨o',its',n',hk',hc',hd',hs',hz',p',r'⟩
  .rcases h with h|⟨u,h⟩ <;> rcases h' with h'|⟨u',h'⟩ <;> (rw[h] at h';first|(cases h';rfl)|cases h')
  .exact (I.notK h hk').elim
 .rcases h' with h'|⟨o',its',n',hk',hc',hd',hs',hz',p',r'⟩
  .exact (I.notK h' hk).elim
  .rw[hk] at hk';cases hk'
   rw[hs] at hs';cases hs'
   exact r.inj r' p p'
theorem Inv.tuple_inj(I:Inv X ξ σ H s)(h:SqT X.K H a xs)(h':SqT X.K H a ys):xs=ys:=by
 rcases h with h|⟨o,χ,n,hk,hc,hs,hz,p,r⟩
 .rcases h' with h'|⟨o',its',n',hk',hc',hs',hz',p',r'⟩
  .rcases h with h|⟨u,h⟩ <;> rcases h' with h'|⟨u',h'⟩ <;> (rw[h] at h';first|(cases h';rfl)|cases h')
  .exact (I.notK h hk').elim
 .rcases h' with h'|⟨o',its',n',hk',hc',hs',hz',p',r'⟩
  .exact (I.notK h' hk).elim
  .rw[hk] at hk';cases hk'
   rw[hs] at hs';cases hs'
   exact r.inj r' p p'
end
abbrev Cx.wish(X:Cx)(E:Value->aF->Prop):Cx:={ X with xe:=E }
abbrev Cx.nox(X:Cx):Cx:=X.wish λ_ _=>False
theorem Cx.Ok.wish {X:Cx}(ok:X.Ok)(E:Value->aF->Prop):(X.wish E).Ok:=
 ⟨ok.mod,ok.kind,ok.glob,ok.blt,ok.above,ok.inj,ok.has,ok.cab,ok.hd,ok.frames,ok.stk,ok.exf,ok.bs,ok.bsz,ok.noex,ok.exfs,ok.funs,ok.frf,ok.tk⟩
theorem Cx.Ok.unwish {X:Cx}{E:Value->aF->Prop}(ok:(X.wish E).Ok):X.Ok:=
 ⟨ok.mod,ok.kind,ok.glob,ok.blt,ok.above,ok.inj,ok.has,ok.cab,ok.hd,ok.frames,ok.stk,ok.exf,ok.bs,ok.bsz,ok.noex,ok.exfs,ok.funs,ok.frf,ok.tk⟩
section
variable {X:Cx} {ξ:List (Addr×Obj)} {σ:St} {H:Hp} {s:aF} {E:Value->aF->Prop}
theorem Inv.wish(I:Inv X ξ σ H s)(E:Value->aF->Prop):Inv (X.wish E) ξ σ H s:=⟨I.ok.wish E,I.os,I.bare,I.base,I.loc,I.cell,I.free,I.freeC,I.pin,I.hok,I.len⟩
theorem Inv.unwish(I:Inv (X.wish E) ξ σ H s):Inv X ξ σ H s:=⟨I.ok.unwish,I.os,I.bare,I.base,I.loc,I.cell,I.free,I.freeC,I.pin,I.hok,I.len⟩
theorem SP.unwish(h:SP (X.wish E) ξ D f s'):SP X ξ D f s':=by
 cases f with
 |next=>obtain⟨σ',H',I,q⟩:=h;exact⟨σ',H',I.unwish,q⟩
 |brk=>obtain⟨σ',H',I,q⟩:=h;exact⟨σ',H',I.unwish,q⟩
 |cont=>obtain⟨σ',H',I,q⟩:=h;exact⟨σ',H',I.unwish,q⟩
 |ret u=>obtain⟨v,σ',H',I,r,q⟩:=h;exact⟨v,σ',H',I.unwish,r,q⟩
theorem PSs.nox {st:List Stmt}{t:TS}(h:PSs X.nox st t):PSs X st t:=λξ s σ H D I hw=>
 cW (h ξ s σ H D (I.wish _) hw) (λ_ _ q=>q.unwish) λ_ _ z=>dt z
end
section
variable {X:Cx} {st:Stmt} {rest:List Stmt} {t u:TS} {e:Expr} {te:TE} {pos:Pos}
def bj5:TS:=λD σ H=>D.nx σ H
def cg8(t u:TS):TS:=λD σ H=>t { D with nx:=u D } σ H
theorem bc0:PSs X [] bj5:=λ_ _ σ H _ I h=>kq ⟨σ,H,I,h⟩
theorem aw7(h1:PS X st t)(h2:PSs X rest u):PSs X (st::rest) (cg8 t u):=by
 intro ξ s σ H D I h
 refine wpAny_execs_cons (thn (h1 ξ s σ H { D with nx:=u D } I h) λf s1 q=>?_)
 cases f with
 |next=>
  obtain⟨σ',H',I',q⟩:=q
  exact h2 ξ s1 σ' H' D I' q
 |ret v=>exact q
 |brk=>exact q
 |cont=>exact q
def bz7:TS:=λD σ H=>D.bk σ H
def ca0:TS:=λD σ H=>D.ct σ H
theorem bb8:PS X (.Pass pos) bj5:=λ_ _ σ H _ I h=>wpAny_Pass ⟨σ,H,I,h⟩
theorem aw5:PS X (.Break pos) bz7:=λ_ _ σ H _ I h=>wpAny_Break ⟨σ,H,I,h⟩
theorem Vt:PS X (.Continue pos) ca0:=λ_ _ σ H _ I h=>wpAny_Continue ⟨σ,H,I,h⟩
theorem Inv.quiet {ξ:List (Addr×Obj)}{σ:St}{H:Hp}{s:aF}(I:Inv X ξ σ H s):interactive X.env=false:=by simp[interactive,I.ok.kind]
def ca2(te:TE):TS:=λD σ H=>te σ H λ_ H1=>D.nx σ H1
theorem bb7(he:PE X e te)(hs:jr e none pos.line X.env=pure false:=by rfl):PS X (.Expr e pos) (ca2 te):=by
 intro ξ s σ H D I h
 exact wpAny_Expr_any (thn (he ξ s σ H _ I h) λv s1 ⟨x,H1,I1,r1,q1⟩=>⟨σ,H1,I1,q1⟩) I.quiet hs
def cg7(te:TE):TS:=λD σ H=>te σ H D.rt
theorem bv8(he:PE X e te):PS X (.Return (some e) pos) (cg7 te):=by
 intro ξ s σ H D I h
 exact wpAny_Return_some (thn (he ξ s σ H _ I h) λv s1 ⟨x,H1,I1,r1,q1⟩=>⟨x,σ,H1,I1,r1,q1⟩)
def ca3:TS:=λD _ H=>D.rt .non H
theorem bb9:PS X (.Return none pos) ca3:=λ_ _ σ H _ I h=>wpAny_Return_none ⟨.non,σ,H,I,rfl,h⟩
def cg3(c:TT)(t u:TS):TS:=λD σ H=>c σ H λb H1=>if b=true then t D σ H1 else u D σ H1
theorem b84 {c:Expr}{a b:List Stmt}{tc:TT}(hc:PT X c tc)(ha:PSs X a t)(hb:PSs X b u):PS X (.If c a b pos) (cg3 tc t u):=by
 intro ξ s σ H D I h
 refine wpAny_If (thn (hc ξ s σ H _ I h) λd s1 ⟨H1,I1,q1⟩=>?_)
 cases d with
 |true=>exact ha ξ s1 σ H1 D I1 q1
 |false=>exact hb ξ s1 σ H1 D I1 q1
end
abbrev TG:=V->St->Hp->(St->Hp->Prop)->Prop
abbrev TGs:=List V->St->Hp->(St->Hp->Prop)->Prop
noncomputable def PG(X:Cx)(target:Expr)(t:TG):Prop:=
 ∀(ξ:List (Addr×Obj))(s:aF)(σ:St)(H:Hp)(v:V)(u:Value)(Q:St->Hp->Prop),Inv X ξ σ H s->RelV v u->t v σ H Q ->
  aW (model X.prog X.w) X.A (lY target X.env u) (λ_ s'=>∃ σ' H',Inv X ξ σ' H' s'/\Q σ' H') X.xe s
noncomputable def PGs(X:Cx)(ts:List Expr)(t:TGs):Prop:=
 ∀(ξ:List (Addr×Obj))(s:aF)(σ:St)(H:Hp)(vs:List V)(us:List Value)(Q:St->Hp->Prop),Inv X ξ σ H s->Vals vs us->t vs σ H Q ->
  aW (model X.prog X.w) X.A (assignInOrder ((dv ts X.env).map (·.2)) us) (λ_ s'=>∃ σ' H',Inv X ξ σ' H' s'/\Q σ' H') X.xe s
abbrev bm1:=V->V->V->Hp->(Hp->Prop)->Prop
noncomputable def b16(X:Cx)(t:bm1):Prop:=
 ∀(ξ:List (Addr×Obj))(s:aF)(σ:St)(H:Hp)(o i v:V)(ov iv u:Value)(Q:Hp->Prop),Inv X ξ σ H s->RelV o ov->RelV i iv->RelV v u->t o i v H Q ->
  aW (model X.prog X.w) X.A (setItem ov iv u) (λ_ s'=>∃H',Inv X ξ σ H' s'/\Q H') X.xe s
section
variable {X:Cx} {pos:Pos}
def aq9(i:Nat):TG:=λv σ H Q=>Q (σ.set i (some v)) H
theorem bb3(hN:X.N.Nodup)(hi:X.N[i]?=some x)(hx:Loc X.env.scope x)(hf:X.fn x=true\/X.env.scope.names.lookup x=some .local:=by first|exact .inl rfl|exact .inr rfl|assumption):PG X (.Name x pos) (aq9 i):=by
 intro ξ s σ H v u Q I r h
 exact wpAny_assign_Name (Jg I hN hi hx r (λs' I'=>⟨_,H,I',h⟩) hf)
def ce6:TGs:=λvs σ H Q=>vs=[]/\Q σ H
def b31(t:TG)(u:TGs):TGs:=λvs σ H Q=>∃v r,vs=v::r/\t v σ H λσ' H'=>u r σ' H' Q
theorem bb4:PGs X [] ce6:=by
 intro ξ s σ H vs us Q I r h
 obtain⟨e,h⟩:=h
 subst e
 cases r
 exact assignInOrder_nil ⟨σ,H,I,h⟩
theorem av6 {e:Expr}{es:List Expr}{t:TG}{u:TGs}(h1:PG X e t)(h2:PGs X es u)(hs:(dv (e::es) X.env).map (·.2)=lY e X.env::(dv es X.env).map (·.2):=by rfl):PGs X (e::es) (b31 t u):=by
 intro ξ s σ H vs us Q I r h
 obtain⟨v,vr,e1,h⟩:=h
 subst e1
 cases r with
 |cons r rr=>
  rw[hs]
  refine assignInOrder_cons (thn (h1 ξ s σ H _ _ _ I r h) λ_ s1 ⟨σ1,H1,I1,q1⟩=>?_)
  exact h2 ξ s1 σ1 H1 _ _ Q I1 rr q1
noncomputable def ce8(K:ac)(n:Nat)(t:TGs):TG:=λv σ H Q=>∃a xs,v=.ref a/\SqT K H a xs/\xs.length=n/\t xs σ H Q
theorem bv5(hc:X.calm=true)(h:PGs X es t)(hn:(dv es X.env).length=n:=by rfl)(hst:(dv es X.env).findIdx? (·.1)=none:=by rfl):PG X (.Tuple es k pos) (ce8 X.K n t):=by
 intro ξ s σ H v u Q I r hw
 obtain⟨a,xs,e1,hq,hl,hw⟩:=hw
 subst e1
 cases r
 obtain⟨χ,rv,ht,hz⟩:=I.tuple hq
 refine assign_Tuple_tuple (I.ok.hd hc) ht (by simp[hn,<- hl,rv.length]) hst λh' hx=>?_
 have I1:Inv X ξ σ H { s with heap:=h' }:=I.kept (t':=s.toks) λb o e=>hx b o (aT (aH e)) e
 exact h ξ _ σ H xs _ Q I1 (by simpa using rv) hw
def ce7(to ti:TE)(t:bm1):TG:=λv σ H Q=>to σ H λo H1=>ti σ H1 λi H2=>t o i v H2 λH3=>Q σ H3
theorem bv4 {o i:Expr}{to ti:TE}{t:bm1}(ho:PE X o to)(hi:PE X i ti)(hs:b16 X t)(ha:∀v,lY (.Subscript o i pos) X.env v=(do
   let ov <- mJ [v] (eval o X.env)
   let iv <- mJ [v,ov] (eval i X.env)
   standAt pos
   mJ [v,ov,iv] (setItem ov iv v)
   release [v,ov,iv] []):=by intro _;rfl):PG X (.Subscript o i pos) (ce7 to ti t):=by
 intro ξ s σ H v u Q I r h
 rw[ha]
 refine ai (bJ (thn (ho ξ s σ H _ I h) λov s1 ⟨x,H1,I1,r1,q1⟩=>?_))
 refine ai (bJ (thn (hi ξ s1 σ H1 _ I1 q1) λiv s2 ⟨y,H2,I2,r2,q2⟩=>?_))
 refine ai (ff (ai (bJ (thn (hs ξ s2 σ H2 x y v ov iv u _ I2 r1 r2 r q2) λ_ s3 ⟨H3,I3,q3⟩=>?_))))
 exact wpAny_release ⟨σ,H3,I3,q3⟩
def bz6(te:TE)(g:TG):TS:=λD σ H=>te σ H λx H1=>g x σ H1 D.nx
theorem aw4 {tg e:Expr}{te:TE}{g:TG}(he:PE X e te)(hg:PG X tg g)(hs:lG [tg] e pos.line X.env=pure false:=by rfl)(hw:swappedStores [tg] e X.env=pure none:=by rfl)(h1:(dv [tg] X.env).map (·.2)=[lY tg X.env]:=by rfl):PS X (.Assign [tg] e pos) (bz6 te g):=by
 intro ξ s σ H D I h
 refine wpAny_Assign_stores (thn (he ξ s σ H _ I h) λv s1 ⟨x,H1,I1,r1,q1⟩=>?_) hs hw
 rw[h1]
 exact thn (hg ξ s1 σ H1 x v _ I1 r1 q1) λ_ s2 q=>q
theorem bv9 {i:Nat}{x:Str}{e:Expr}{te:TE}{pos':Pos}(hN:X.N.Nodup)(hi:X.N[i]?=some x)(hx:Loc X.env.scope x)(he:PE X e te)(hs:jr e (some (.Name x pos')) pos.line X.env=pure false:=by rfl)(hf:X.fn x=true\/X.env.scope.names.lookup x=some .local:=by first|exact .inl rfl|exact .inr rfl|assumption) :
  PS X (.Assign [.Name x pos'] e pos) (bz6 te (aq9 i)):=by
 intro ξ s σ H D I h
 refine wpAny_Assign_Name (thn (he ξ s σ H _ I h) λv s1 ⟨y,H1,I1,r1,q1⟩=>?_) hs
 exact Jg I1 hN hi hx r1 (λs2 I2=>⟨_,H1,I2,q1⟩) hf
end
structure It where
 go:Nat->Hp->Prop
 yld:Nat->Hp->V->Hp->Prop
 stop:Nat->Hp->Prop
noncomputable def Eu(X:Cx)(ξ:List (Addr×Obj))(H:Hp)(b:Addr):Prop:=
 H b=none/\b≠X.env.locals/\b∉X.fs/\(b∈X.ex\/X.s₀.heap.objs.size<=b)/\(∀x c,X.env.cells.lookup x=some c->c≠b)/\∀p∈X.pn++ξ,p.1≠b
theorem Inv.fpOk(I:Inv X ξ σ H s)(hb:s.heap.objs.size<=b)(hn:H' b=none):Eu X ξ H' b:=by
 refine⟨hn,cE (aL I.lt hb),I.nofs hb,.inr (aw I.sz hb),λx c e z=>?_,λp hp z=>?_⟩
 .obtain⟨v,q⟩:=I.cell x c e
  exact absurd (aL q.lt (by rw[z];exact hb)) (e9 _)
 .exact absurd (aL (aH (I.pin p hp).1) (by rw[z];exact hb)) (e9 _)
structure Ri (P:bq) (w:cb) (K:ac) (tg:Expr) (J:It) (fp:List Addr) (it:Addr) (tn:Nat->Heap->Prop):Prop where
 mem:it∈fp
 obj:∀i h,tn i h -> ∀b∈fp,∃o,h.get? b=some o/\∀v,o.data≠.cell v
 keep:∀i h h',tn i h->(∀b∈fp,∀o,h.get? b=some o->h'.get? b=some o)->tn i h'
 item:∀(X:Cx),X.prog=P->X.w=w->X.K=K->X.calm=true -> ∀(i:Nat)(ξ:List (Addr×Obj))(s:aF)(σ:St)(H:Hp)(E:Value->aF->Prop),Inv X ξ σ H s->(∀b∈fp,Eu X ξ H b)->tn i s.heap->J.go i H ->
  aW (model P w) X.A (iW (.ref it)) (λr s1=>∃u,r=some u /\
   aW (model P w) X.A (iK tg (.ref it) u) (λ_ s2=>∃x H',Inv X ξ σ H' s2/\RelV x u/\J.yld i H x H'/\tn (i+1) s2.heap/\∀b∈fp,H' b=none) E s1) E s
 done:∀(X:Cx),X.prog=P->X.w=w->X.K=K->X.calm=true -> ∀(i:Nat)(ξ:List (Addr×Obj))(s:aF)(σ:St)(H:Hp)(E:Value->aF->Prop),Inv X ξ σ H s->(∀b∈fp,Eu X ξ H b)->tn i s.heap->J.stop i H ->
  aW (model P w) X.A (iW (.ref it)) (λr s1=>r=none/\Inv X ξ σ H s1) E s
 self:∀(A:cj)(i:Nat)(s:aF)(Q:Value->aF->Prop)(E:Value->aF->Prop),tn i s.heap->Q (.ref it) s->aW (model P w) A (mB (.ref it)) Q E s
abbrev TI:=St->Hp->(It->Hp->Prop)->Prop
noncomputable def PIE(X:Cx)(ξ:List (Addr×Obj))(σ:St)(tg:Expr)(R:It->Hp->Prop)(itv:Value)(s2:aF):Prop:=
 ∃(it:Addr)(fp:List Addr)(tn:Nat->Heap->Prop)(J:It)(H':Hp),itv=.ref it/\Inv X ξ σ H' s2/\Ri X.prog X.w X.K tg J fp it tn/\tn 0 s2.heap/\(∀b∈fp,Eu X ξ H' b)/\R J H'
noncomputable def PI(X:Cx)(tg iter:Expr)(wi:TI):Prop:=
 ∀(ξ:List (Addr×Obj))(s:aF)(σ:St)(H:Hp)(R:It->Hp->Prop),Inv X ξ σ H s->wi σ H R ->
  aW (model X.prog X.w) X.A (eval iter X.env) (λv s1=>aW (model X.prog X.w) X.A (mB v) (PIE X ξ σ tg R) X.xe s1) X.xe s
theorem Qg(ho:s.heap.get? it=some o)(hc:o.cls=.type n)(hd:o.data=.fields vs)(hn:["enumerate", "zip", "dict_itemiterator", "dict_reverseitemiterator", "odict_iterator", "itertools.zip_longest", "itertools.pairwise"].contains n=false)(hQ:Q () s):aW M A (iK tg (.ref it) u) Q E s:=by
  unfold iK
  cases tg <;> first
    |exact aE hQ
    | (cases u <;> first
        |exact aE hQ
        | (refine ai (wpAny_load ho ?_)
           rw[hc,hd]
           show aW M A (if (["enumerate", "zip", "dict_itemiterator", "dict_reverseitemiterator", "odict_iterator", "itertools.zip_longest", "itertools.pairwise"].contains n&&vs[0]? == some (fP _))=true then _ else _) Q E s
           rw[if_neg (by intro h;rw[hn,iX] at h;cases h)]
           exact aE hQ))
noncomputable def Itl(K:ac)(a:Addr):It:=
 ⟨λi H=>∃xs x,SqL K H a xs/\xs[i]?=some x,λi H x H'=>H'=H/\∀xs,SqL K H a xs->xs[i]?=some x,λi H=>∃xs,SqL K H a xs/\xs.length<=i⟩
noncomputable def Itt(K:ac)(a:Addr):It:=
 ⟨λi H=>∃xs x,SqT K H a xs/\xs[i]?=some x,λi H x H'=>H'=H/\∀xs,SqT K H a xs->xs[i]?=some x,λi H=>∃xs,SqT K H a xs/\xs.length<=i⟩
def Itr(lo:Int)(n:Nat):It:=⟨λi _=>i<n,λi H x H'=>H'=H/\x=.int (lo+i),λi _=>n<=i⟩
theorem ai7 {P:bq}{w:cb}{K:ac}{tg:Expr}(a it:Addr):Ri P w K tg (Itl K a) [it] it (λi h=>h.IsListIter it a i) where
 mem:=by simp
 obj:=λi h st b hb=>by
  have e:b=it:=by simpa using hb
  subst e
  obtain⟨o,e,c,d⟩:=st
  exact⟨o,e,λv z=>by rw[d] at z;cases z⟩
 keep:=λi h h' st k=>st.at λo e=>k it (by simp) o e
 item:=by
  intro X hP hw hK hc i ξ s σ H E I hf st hg
  subst hP hw hK
  obtain⟨xs,x,hq,hx⟩:=hg
  obtain⟨χ,rv,p,hz⟩:=I.list hq
  obtain⟨u,hu,ru⟩:=rv.get hx
  obtain⟨f0,f1,f2,f3,f4,f5⟩:=hf it (by simp)
  refine wpAny_pyNext_list_item st p.isList (x:=u) (by simpa using hu) λh' st' sb=>?_
  have I1:Inv X ξ σ H { s with heap:=h' }:=I.turned (t':=s.toks) (λb o hb e=>(sb.2 b hb).trans e) f0 f1 f3 f4 f5
  obtain⟨o,e,c,d⟩:=id st'
  exact⟨u,rfl,Qg (s:={ s with heap:=h' }) e c d (by decide) ⟨x,H,I1,ru,⟨rfl,λys hy=>by rw[I.list_inj hy hq];exact hx⟩,st',λb hb=>(hf b hb).1⟩⟩
 done:=by
  intro X hP hw hK hc i ξ s σ H E I hf st hg
  subst hP hw hK
  obtain⟨xs,hq,hx⟩:=hg
  obtain⟨χ,rv,p,hz⟩:=I.list hq
  obtain⟨f0,f1,f2,f3,f4,f5⟩:=hf it (by simp)
  have hl:=rv.length
  exact wpAny_pyNext_list_end (I.ok.hd hc) st p.isList (by simp;omega) λh' eb=>⟨rfl,I.turned (t':=s.toks) (λb o hb e=>eb b o hb e) f0 f1 f3 f4 f5⟩
 self:=λ_ _ _ _ _ st h=>wpAny_pyIter_listiter st h
theorem Yz {P:bq}{w:cb}{K:ac}{tg:Expr}(a it:Addr):Ri P w K tg (Itt K a) [it] it (λi h=>h.IsTupleIter it a i) where
 mem:=by simp
 obj:=λi h st b hb=>by
  have e:b=it:=by simpa using hb
  subst e
  obtain⟨o,e,c,d⟩:=st
  exact⟨o,e,λv z=>by rw[d] at z;cases z⟩
 keep:=λi h h' st k=>st.at λo e=>k it (by simp) o e
 item:=by
  intro X hP hw hK hc i ξ s σ H E I hf st hg
  subst hP hw hK
  obtain⟨xs,x,hq,hx⟩:=hg
  obtain⟨χ,rv,p,hz⟩:=I.tuple hq
  obtain⟨u,hu,ru⟩:=rv.get hx
  obtain⟨f0,f1,f2,f3,f4,f5⟩:=hf it (by simp)
  refine wpAny_pyNext_tuple_item st (show s.heap.IsTuple a χ.toArray from p) (x:=u) (by simpa using hu) λh' st' sb=>?_
  have I1:Inv X ξ σ H { s with heap:=h' }:=I.turned (t':=s.toks) (λb o hb e=>(sb.2 b hb).trans e) f0 f1 f3 f4 f5
  obtain⟨o,e,c,d⟩:=id st'
  exact⟨u,rfl,Qg (s:={ s with heap:=h' }) e c d (by decide) ⟨x,H,I1,ru,⟨rfl,λys hy=>by rw[I.tuple_inj hy hq];exact hx⟩,st',λb hb=>(hf b hb).1⟩⟩
 done:=by
  intro X hP hw hK hc i ξ s σ H E I hf st hg
  subst hP hw hK
  obtain⟨xs,hq,hx⟩:=hg
  obtain⟨χ,rv,p,hz⟩:=I.tuple hq
  obtain⟨f0,f1,f2,f3,f4,f5⟩:=hf it (by simp)
  have hl:=rv.length
  exact wpAny_pyNext_tuple_end (I.ok.hd hc) st (show s.heap.IsTuple a χ.toArray from p) (by simp;omega) λh' eb=>⟨rfl,I.turned (t':=s.toks) (λb o hb e=>eb b o hb e) f0 f1 f3 f4 f5⟩
 self:=λ_ _ _ _ _ st h=>wpAny_pyIter_tupleiter st h
theorem Yy {P:bq}{w:cb}{K:ac}{tg:Expr}(it:Addr)(lo:Int)(n:Nat):Ri P w K tg (Itr lo n) [it] it (λi h=>kO h it (lo+(i:Nat) * 1) ((n:Int) - (i:Nat)) 1) where
 mem:=by simp
 obj:=λi h st b hb=>by
  have e:b=it:=by simpa using hb
  subst e
  exact⟨_,st,λv z=>by
   have z':Data.fields _=Data.cell v:=z
   cases z'⟩
 keep:=λi h h' st k=>k it (by simp) _ st
 item:=by
  intro X hP hw hK hc i ξ s σ H E I hf st hg
  subst hP hw hK
  obtain⟨f0,f1,f2,f3,f4,f5⟩:=hf it (by simp)
  have W:=Walks.range (prog:=X.prog) (w:=X.w) (I.ok.hd hc) it lo 1 n
  refine bD (ak _) (W.item i s _ _ hg st λv h' tk hv st' kk htk=>?_)
  obtain⟨t,rfl⟩:=hv
  have I1:Inv X ξ σ H { s with heap:=h',toks:=tk }:=I.turned (λb o hb e=>kk b o (by simpa using hb) e) f0 f1 f3 f4 f5
  refine⟨_,rfl,Qg (s:={ s with heap:=h',toks:=tk }) (n := "range_iterator") st' rfl rfl (by decide) ⟨.int (lo+i),H,I1,⟨t,?_⟩,⟨rfl,rfl⟩,st',λb hb=>(hf b hb).1⟩⟩
  rw[Int.mul_one]
 done:=by
  intro X hP hw hK hc i ξ s σ H E I hf st hg
  subst hP hw hK
  obtain⟨f0,f1,f2,f3,f4,f5⟩:=hf it (by simp)
  exact jY (I.ok.hd hc) st (by have:n<=i:=hg;omega) λh' eb=>⟨rfl,I.turned (t':=s.toks) (λb o hb e=>eb b o hb e) f0 f1 f3 f4 f5⟩
 self:=λ_ _ _ _ _ st h=>jW st h
section
variable {X:Cx} {tg:Expr}
theorem Vx {ξ:List (Addr×Obj)}{σ:St}{H:Hp}{s:aF}{R:It->Hp->Prop}{E:Value->aF->Prop}{lo hi:Int}{t u v:Tok}{tk:Nat}(I:Inv X ξ σ H s)(htk:s.toks<=tk)(h1:-(2 ^ 62)<=lo)(h2:lo<2 ^ 62)(h3:-(2 ^ 62)<=hi)(h4:hi<2 ^ 62)(q:R (Itr lo (hi - lo).toNat) H):aW (model X.prog X.w) X.A (mB (.ref s.heap.objs.size)) (PIE X ξ σ tg R) E { s with heap:=s.heap.push { cls:=.type "range", data:=.fields #[.int lo t,.int hi u,.int 1 v] },toks:=tk }:=by
 refine lI (IsRange.new ..) (small_one h1 h2 h3 h4) ?_
 have I1:Inv X ξ σ H { s with heap:=s.heap.push { cls:=.type "range", data:=.fields #[.int lo t,.int hi u,.int 1 v] },toks:=tk }:=I.kept λb o e=>ah _ e
 refine⟨(s.heap.push { cls:=.type "range", data:=.fields #[.int lo t,.int hi u,.int 1 v] }).objs.size,[(s.heap.push { cls:=.type "range", data:=.fields #[.int lo t,.int hi u,.int 1 v] }).objs.size],_,_,H,rfl,
  I1.kept (t':=tk) λb o e=>ah _ e,Yy _ lo (hi - lo).toNat,?_,λb hb=>?_,q⟩
 .have e1:lo+((0:Nat):Int) * 1=lo:=by simp
  have e2:(((hi - lo).toNat:Nat):Int) - ((0:Nat):Int)=cG lo hi 1:=by rw[rangeSize_one];split <;> omega
  show kO _ _ (lo+((0:Nat):Int) * 1) ((((hi - lo).toNat:Nat):Int) - ((0:Nat):Int)) 1
  rw[e1,e2]
  exact aK _ rfl
 .have e:b=(s.heap.push { cls:=.type "range", data:=.fields #[.int lo t,.int hi u,.int 1 v] }).objs.size:=by simpa using hb
  subst e
  exact I1.fpOk (ak _) (I1.hok.fresh (ak _))
noncomputable def cg2(wi:TI)(g:TG)(tb:TS):TS:=λD σ H=>wi σ H λJ H1=>∃W:Nat->Nat->St->Hp->Prop,(∃m,W 0 m σ H1)/\∀i m σ H,W i m σ H ->
 (J.stop i H/\D.nx σ H)\/(J.go i H/\∃N:St->Hp->Prop,(∀ σ' H',N σ' H' -> ∃m',m'<m/\W (i+1) m' σ' H')/\∀x H',J.yld i H x H'->g x σ H' λσ2 H2=>tb { D with nx:=N,ct:=N,bk:=D.nx } σ2 H2)
def J6(fp:List Addr)(h:Heap):List (Addr×Obj):=fp.filterMap λb=>(h.get? b).map λo=>(b,o)
theorem Fm(hb:b∈fp)(e:h.get? b=some o):(b,o)∈J6 fp h:=List.mem_filterMap.mpr ⟨b,hb,by rw[e];rfl⟩
theorem ag4(hp:p∈J6 fp h):p.1∈fp/\h.get? p.1=some p.2:=by
 obtain⟨b,hb,e⟩:=List.mem_filterMap.mp hp
 cases q:h.get? b with
 |none=>rw[q] at e;cases e
 |some o=>
  rw[q] at e
  have e':(b,o)=p:=aM e
  subst e'
  exact⟨hb,q⟩
theorem Inv.pinned(I:Inv X ξ σ H s)(hf:∀b∈fp,Eu X ξ H b)(ho:∀b∈fp,∃o,s.heap.get? b=some o/\∀v,o.data≠.cell v):Inv X (ξ++J6 fp s.heap) σ H s:=
 I.pins_of λp hp=>(List.mem_append.mp hp).elim (λz=>I.pin p (bc _ z)) λz=>by
  obtain⟨hb,e⟩:=ag4 z
  obtain⟨f0,f1,f2,_⟩:=hf p.1 hb
  obtain⟨o,e',d⟩:=ho p.1 hb
  rw[e] at e';cases e'
  exact⟨e,f0,f1,f2,d⟩
theorem Inv.unpinned(I:Inv X (ξ++pl) σ H s):Inv X ξ σ H s:=I.pins_of λp hp=>I.pin p (bc _ (bL _ hp))
theorem bv7(hp:iG (model X.prog X.w) X.A X.env X.xe)(hc:X.calm=true)(hi:PI X tg iter wi)(hg:PG X tg g)(hb:PSs X body tb)(hs:∀x,e_ iter X.env x=pure x:=by intro _;rfl):PS X (.For tg iter body [] pos) (cg2 wi g tb):=by
 intro ξ s σ H D I h
 refine wpAny_For (thn (hi ξ s σ H _ I h) λv s1 h1=>thn h1 λitv s2 h2=>?_) hs
 obtain⟨it,fp,tn,J,H2,e,I2,T,st2,f2,W,⟨m0,w0⟩,turn⟩:=h2
 subst e
 have stat:∀ {H':Hp},(∀b∈fp,H' b=none) -> ∀b∈fp,Eu X ξ H' b:=λhn b hb=>⟨hn b hb,(f2 b hb).2⟩
 refine codeAny_forLoop_any (λn s'=>∃i σ' H',Inv X ξ σ' H' s'/\tn i s'.heap/\(∀b∈fp,H' b=none)/\W i n σ' H') ?_ m0 ⟨0,σ,H2,I2,st2,λb hb=>(f2 b hb).1,w0⟩
 rintro n s3 ⟨i,σ3,H3,I3,st3,fr3,w3⟩
 rcases turn i n σ3 H3 w3 with ⟨stop,qn⟩|⟨go,N,hN,step⟩
 .refine gj hp (thn (T.done X rfl rfl rfl hc i ξ s3 σ3 H3 X.xe I3 (stat fr3) st3 stop) λr s4 ⟨hr,I4⟩=>?_)
  subst hr
  exact kq ⟨σ3,H3,I4,qn⟩
 .refine gj hp (thn (T.item X rfl rfl rfl hc i ξ s3 σ3 H3 X.xe I3 (stat fr3) st3 go) λr s4 ⟨u,hr,h4⟩=>?_)
  subst hr
  refine gj hp (thn h4 λ_ s5 ⟨x,H5,I5,r5,y5,st5,fr5⟩=>?_)
  have I5':=I5.pinned (stat fr5) (T.obj _ _ st5)
  refine gj hp (thn (hg _ s5 σ3 H5 x u _ I5' r5 (step x H5 y5)) λ_ s6 ⟨σ6,H6,I6,q6⟩=>?_)
  refine gj hp (thn (hb _ s6 σ6 H6 _ I6 q6) λf s7 q7=>?_)
  have again:∀ {σ7:St} {H7:Hp},Inv X (ξ++J6 fp s5.heap) σ7 H7 s7->N σ7 H7 -> ∃m,m<n/\∃i σ' H',Inv X ξ σ' H' s7/\tn i s7.heap/\(∀b∈fp,H' b=none)/\W i m σ' H':=λ{σ7 H7} I7 n7=>by
   obtain⟨m',hm,w7⟩:=hN σ7 H7 n7
   refine⟨m',hm,i+1,σ7,H7,I7.unpinned,T.keep _ _ _ st5 λb hb o e=>(I7.pin (b,o) (bc _ (bc _ (Fm hb e)))).1,λb hb=>?_,w7⟩
   obtain⟨o,e,d⟩:=T.obj _ _ st5 b hb
   exact (I7.pin (b,o) (bc _ (bc _ (Fm hb e)))).2.1
  cases f with
  |next=>obtain⟨σ7,H7,I7,n7⟩:=q7;exact again I7 n7
  |cont=>obtain⟨σ7,H7,I7,n7⟩:=q7;exact again I7 n7
  |brk=>obtain⟨σ7,H7,I7,q7⟩:=q7;exact⟨σ7,H7,I7.unpinned,q7⟩
  |ret v=>obtain⟨x7,σ7,H7,I7,r7,q7⟩:=q7;exact⟨x7,σ7,H7,I7.unpinned,r7,q7⟩
end
abbrev R2:=V->V->Hp->VK->Prop
noncomputable def OpR(X:Cx)(f:Value->Value->Sem Value)(r:R2):Prop:=
 ∀(ξ:List (Addr×Obj))(s:aF)(σ:St)(H:Hp)(x y:V)(v u:Value)(Q:VK),Inv X ξ σ H s->RelV x v->RelV y u->r x y H Q ->
  aW (model X.prog X.w) X.A (f v u) (EP X ξ σ Q) X.xe s
noncomputable def UnR(X:Cx)(f:Value->Sem Value)(r:V->Hp->VK->Prop):Prop:=
 ∀(ξ:List (Addr×Obj))(s:aF)(σ:St)(H:Hp)(x:V)(v:Value)(Q:VK),Inv X ξ σ H s->RelV x v->r x H Q ->
  aW (model X.prog X.w) X.A (f v) (EP X ξ σ Q) X.xe s
noncomputable def Cy(X:Cx)(f:Value)(r:List V->Hp->VK->Prop):Prop:=
 ∀(ξ:List (Addr×Obj))(s:aF)(σ:St)(H:Hp)(xs:List V)(us:List Value)(Q:VK),Inv X ξ σ H s->Vals xs us->r xs H Q ->
  aW (model X.prog X.w) X.A (call f us) (EP X ξ σ Q) X.xe s
noncomputable def b18(X:Cx)(r:V->Hp->(Bool->Hp->Prop)->Prop):Prop:=
 ∀(ξ:List (Addr×Obj))(s:aF)(σ:St)(H:Hp)(x:V)(v:Value)(Q:Bool->Hp->Prop),Inv X ξ σ H s->RelV x v->r x H Q ->
  aW (model X.prog X.w) X.A (truthy v) (TP X ξ σ Q) X.xe s
def tOp(r:R2)(ta tb:TE):TE:=λσ H Q=>ta σ H λx H1=>tb σ H1 λy H2=>r x y H2 Q
def tUn(r:V->Hp->VK->Prop)(ta:TE):TE:=λσ H Q=>ta σ H λx H1=>r x H1 Q
def rI(C:Int->Int->Prop)(g:Int->Int->V):R2:=λx y H Q=>∃i j,x=.int i/\y=.int j/\C i j/\Q (g i j) H
def rI0(g:Int->Int->V):R2:=λx y H Q=>∃i j,x=.int i/\y=.int j/\Q (g i j) H
def rU(g:Int->V):V->Hp->VK->Prop:=λx H Q=>∃i,x=.int i/\Q (g i) H
section
variable {X:Cx} {a b c:Expr} {ta tb tc:TE} {pos:Pos}
theorem bm4(ha:PE X a ta)(hb:PE X b tb){ξ:List (Addr×Obj)}{s:aF}{σ:St}{H:Hp}{R:V->V->Hp->Prop}(I:Inv X ξ σ H s)(h:ta σ H λx H1=>tb σ H1 λy H2=>R x y H2){Q:Value->aF->Prop}{f:Value->Value->Sem Value}(hf:∀v u s2 x y H2,Inv X ξ σ H2 s2->RelV x v->RelV y u->R x y H2->aW (model X.prog X.w) X.A (f v u) Q X.xe s2) :
  aW (model X.prog X.w) X.A (eval a X.env) (λv s₁=>aW (model X.prog X.w) X.A (eval b X.env) (λu s₂=>aW (model X.prog X.w) X.A (f v u) Q X.xe s₂) X.xe s₁) X.xe s:=by
 refine thn (ha ξ s σ H _ I h) λv s1 ⟨x,H1,I1,r1,q1⟩=>?_
 refine thn (hb ξ s1 σ H1 _ I1 q1) λu s2 ⟨y,H2,I2,r2,q2⟩=>?_
 exact hf v u s2 x y H2 I2 r1 r2 q2
theorem b81(ho:OpR X (dO op) r)(ha:PE X a ta)(hb:PE X b tb):PE X (.BinOp a op b pos) (tOp r ta tb):=by
 intro ξ s σ H Q I h
 exact wpAny_BinOp (bm4 ha hb I h λv u s2 x y H2 I2 rx ry q=>ho ξ s2 σ H2 x y v u Q I2 rx ry q)
theorem bi3(ho:UnR X (mK op) r)(ha:PE X a ta):PE X (.UnaryOp op a pos) (tUn r ta):=by
 intro ξ s σ H Q I h
 exact UnaryOp_ (thn (ha ξ s σ H _ I h) λv s1 ⟨x,H1,I1,r1,q1⟩=>ho ξ s1 σ H1 x v Q I1 r1 q1)
theorem opI {f:Value->Value->Sem Value}{C:Int->Int->Prop}{g:Int->Int->Int}(rule:∀(i j:Int)(t u:Tok)(s:aF)(Q:Value->aF->Prop)(E:Value->aF->Prop),C i j->Q (.int (g i j) s.toks) { s with toks:=s.toks+1 }->aW (model X.prog X.w) X.A (f (.int i t) (.int j u)) Q E s) :
  OpR X f (rI C λi j=>.int (g i j)):=by
 intro ξ s σ H x y v u Q I rx ry h
 obtain⟨i,j,rfl,rfl,hc,q⟩:=h
 obtain⟨t,rfl⟩:=rx
 obtain⟨t',rfl⟩:=ry
 exact rule i j t t' s _ _ hc ⟨.int (g i j),H,I.tok _,⟨_,rfl⟩,q⟩
theorem av2 {f:Value->Value->Sem Value}{g:Int->Int->Int}(rule:∀(i j:Int)(t u:Tok)(s:aF)(Q:Value->aF->Prop)(E:Value->aF->Prop),Q (.int (g i j) s.toks) { s with toks:=s.toks+1 }->aW (model X.prog X.w) X.A (f (.int i t) (.int j u)) Q E s) :
  OpR X f (rI0 λi j=>.int (g i j)):=by
 intro ξ s σ H x y v u Q I rx ry h
 obtain⟨i,j,rfl,rfl,q⟩:=h
 obtain⟨t,rfl⟩:=rx
 obtain⟨t',rfl⟩:=ry
 exact rule i j t t' s _ _ ⟨.int (g i j),H,I.tok _,⟨_,rfl⟩,q⟩
theorem ba2 {f:Value->Value->Sem Value}{g:Int->Int->Bool}(rule:∀(i j:Int)(t u:Tok)(s:aF)(Q:Value->aF->Prop)(E:Value->aF->Prop),Q (.bool (g i j)) s->aW (model X.prog X.w) X.A (f (.int i t) (.int j u)) Q E s) :
  OpR X f (rI0 λi j=>.bl (g i j)):=by
 intro ξ s σ H x y v u Q I rx ry h
 obtain⟨i,j,rfl,rfl,q⟩:=h
 obtain⟨t,rfl⟩:=rx
 obtain⟨t',rfl⟩:=ry
 exact rule i j t t' s _ _ ⟨.bl (g i j),H,I,rfl,q⟩
def b09(i j:Int):Prop:=0<j/\j<1073741824
def a37(i j:Int):Prop:=0<=j/\j<=1000000/\i.natAbs<2 ^ 64
def CMul(i j:Int):Prop:=(-(2 ^ 64)<i/\i<2 ^ 64)\/(-(2 ^ 64)<j/\j<2 ^ 64)
theorem CMul.ok(h:CMul i j):IntMulOk i j:=by
 rcases h with ⟨h1,h2⟩|⟨h1,h2⟩
 .exact .of_left (intBits_le_64 h1 h2)
 .exact .of_right (intBits_le_64 h1 h2)
theorem Y0(k:Nat):(0:Int)<=2 ^ k:=by
 rw[two_pow_cast]
 exact Int.natCast_nonneg _
theorem bt2:OpR X (dO .Add) (rI0 λi j=>.int (i+j)):=av2 λ_ _ _ _ _ _ _ q=>add_int q
theorem bu2:OpR X (dO .Sub) (rI0 λi j=>.int (i - j)):=av2 λ_ _ _ _ _ _ _ q=>sub_int q
theorem bt7:OpR X (dO .Mult) (rI CMul λi j=>.int (i * j)):=opI λ_ _ _ _ _ _ _ hc q=>mul_int q hc.ok
theorem ba4:OpR X (dO .FloorDiv) (rI b09 λi j=>.int (i / j)):=opI λi j _ _ _ _ _ hc q=>by
 have h1:(0:Int)<j:=hc.1
 have h2:j<1073741824:=hc.2
 exact floordiv_int (by omega) (by rw[iO i (by omega)];exact q) (.inl (jR (by omega)))
theorem bt6:OpR X (dO .Mod) (rI (λ_ j=>0<j) λi j=>.int (i % j)):=opI λi j _ _ _ _ _ hc q=>by
 have h1:(0:Int)<j:=hc
 exact mod_int' (by omega) (by rw[Int.fmod_eq_emod_of_nonneg i (by omega)];exact q)
theorem bt9:OpR X (dO .Pow) (rI a37 λi j=>.int (i ^ j.toNat)):=opI λ_ _ _ _ _ _ _ hc q=>pow_int_small hc.1 hc.2.1 hc.2.2 q
theorem bu0:OpR X (dO .LShift) (rI a37 λi j=>.int (i * 2 ^ j.toNat)):=opI λ_ _ _ _ _ _ _ hc q=>lshift_int_small hc.1 hc.2.1 hc.2.2 q
theorem bu1:OpR X (dO .RShift) (rI (λ_ j=>0<=j) λi j=>.int (i / 2 ^ j.toNat)):=opI λi j _ _ _ _ _ hc q=>
 rshift_int hc (by rw[iO i (Y0 _)];exact q)
theorem bt3:OpR X (dO .BitAnd) (rI0 λi j=>.int (aX i j)):=av2 λ_ _ _ _ _ _ _ q=>and_int q
theorem b77:OpR X (dO .BitOr) (rI0 λi j=>.int (cB i j)):=av2 λ_ _ _ _ _ _ _ q=>or_int q
theorem bu3:OpR X (dO .BitXor) (rI0 λi j=>.int (gH i j)):=av2 λ_ _ _ _ _ _ _ q=>xor_int q
theorem unI {f:Value->Sem Value}{g:Int->Int}(rule:∀(i:Int)(t:Tok)(s:aF)(Q:Value->aF->Prop)(E:Value->aF->Prop),Q (.int (g i) s.toks) { s with toks:=s.toks+1 }->aW (model X.prog X.w) X.A (f (.int i t)) Q E s) :
  UnR X f (rU λi=>.int (g i)):=by
 intro ξ s σ H x v Q I rx h
 obtain⟨i,rfl,q⟩:=h
 obtain⟨t,rfl⟩:=rx
 exact rule i t s _ _ ⟨.int (g i),H,I.tok _,⟨_,rfl⟩,q⟩
theorem b02:UnR X (mK .USub) (rU λi=>.int (-i)):=unI λ_ _ _ _ _ q=>neg_int q
theorem b01:UnR X (mK .Invert) (rU λi=>.int (bw i)):=unI λ_ _ _ _ _ q=>invert_int q
end
noncomputable def bz5:V->V->Bool
 |.non,.non=>true | .non,.int _=>true | .int _,.non=>true | .non,.bl _=>true | .bl _,.non=>true | .non,.str _=>true | .str _,.non=>true
 |.int _,.int _=>true | .bl _,.bl _=>true | .str _,.str _=>true | .byt _,.byt _=>true
 |.int _,.str _=>true | .str _,.int _=>true | .bl _,.str _=>true | .str _,.bl _=>true
 |_,_=>false
noncomputable def rEq:R2:=λx y H Q=>bz5 x y=true/\Q (.bl (decide (x=y))) H
noncomputable def rNe:R2:=λx y H Q=>bz5 x y=true/\Q (.bl (!decide (x=y))) H
theorem Ll:decide (V.int i=V.int j)=(i==j):=by
 rw[bu]
 simp
theorem Rz:decide (V.bl i=V.bl j)=(i==j):=by
 rw[bu]
 simp
theorem Lm:decide (V.str i=V.str j)=(i==j):=by
 rw[bu]
 simp
theorem Zn:decide (V.byt i=V.byt j)=(i.toList==j.toList):=by
 rw[bu]
 cases i
 cases j
 simp
section
variable {X:Cx} {a b c:Expr} {ta tb tc:TE} {pos:Pos}
theorem A8(I:Inv X ξ σ H s)(q:Q (.bl k) H)(e:k=k'):EP X ξ σ Q (.bool k') s:=by
 subst e
 exact⟨.bl k,H,I,rfl,q⟩
theorem Z1:OpR X (cV .Eq) rEq:=by
 intro ξ s σ H x y v u Q I rx ry h
 obtain⟨hs,q⟩:=h
 cases x with
 |non=>
  cases rx
  cases y with
  |non=>cases ry;exact PySem.EqNone.eq_none_none (A8 I q (by simp))
  |bl j=>cases ry;exact PySem.EqNone.eq_none_bool (A8 I q (by simp))
  |int j=>obtain⟨t',rfl⟩:=ry;exact PySem.EqNone.eq_none_int (A8 I q (by simp))
  |str j=>obtain⟨t',rfl⟩:=ry;exact PySem.EqNone.eq_none_str (A8 I q (by simp))
  |_=>exact absurd (show false=true from hs) av
 |bl i=>
  cases rx
  cases y with
  |non=>cases ry;exact PySem.EqNone.eq_bool_none (A8 I q (by simp))
  |bl j=>cases ry;exact eq_bool (A8 I q Rz)
  |str j=>obtain⟨t',rfl⟩:=ry;exact PySem.EqMixed.eq_bool_str (A8 I q (by simp))
  |_=>exact absurd (show false=true from hs) av
 |int i=>
  obtain⟨t,rfl⟩:=rx
  cases y with
  |non=>cases ry;exact PySem.EqNone.eq_int_none (A8 I q (by simp))
  |int j=>obtain⟨t',rfl⟩:=ry;exact eq_int (A8 I q Ll)
  |str j=>obtain⟨t',rfl⟩:=ry;exact PySem.EqMixed.eq_int_str (A8 I q (by simp))
  |_=>exact absurd (show false=true from hs) av
 |str i=>
  obtain⟨t,rfl⟩:=rx
  cases y with
  |non=>cases ry;exact PySem.EqNone.eq_str_none (A8 I q (by simp))
  |bl j=>cases ry;exact PySem.EqMixed.eq_str_bool (A8 I q (by simp))
  |int j=>obtain⟨t',rfl⟩:=ry;exact PySem.EqMixed.eq_str_int (A8 I q (by simp))
  |str j=>obtain⟨t',rfl⟩:=ry;exact eq_str (A8 I q Lm)
  |_=>exact absurd (show false=true from hs) av
 |byt i=>
  obtain⟨t,rfl⟩:=rx
  cases y with
  |byt j=>obtain⟨t',rfl⟩:=ry;exact PySem.W.eq_bytes (A8 I q Zn)
  |_=>exact absurd (show false=true from hs) av
 |_=>cases y <;> exact absurd (show false=true from hs) av
theorem Z2:OpR X (cV .NotEq) rNe:=by
 intro ξ s σ H x y v u Q I rx ry h
 obtain⟨hs,q⟩:=h
 cases x with
 |non=>
  cases rx
  cases y with
  |non=>cases ry;exact PySem.EqNone.ne_none_none (A8 I q (by simp))
  |bl j=>cases ry;exact PySem.EqNone.ne_none_bool (A8 I q (by simp))
  |int j=>obtain⟨t',rfl⟩:=ry;exact PySem.EqNone.ne_none_int (A8 I q (by simp))
  |str j=>obtain⟨t',rfl⟩:=ry;exact PySem.EqNone.ne_none_str (A8 I q (by simp))
  |_=>exact absurd (show false=true from hs) av
 |bl i=>
  cases rx
  cases y with
  |non=>cases ry;exact PySem.EqNone.ne_bool_none (A8 I q (by simp))
  |bl j=>cases ry;exact ne_bool (A8 I q (congrArg not Rz))
  |str j=>obtain⟨t',rfl⟩:=ry;exact PySem.EqMixed.ne_bool_str (A8 I q (by simp))
  |_=>exact absurd (show false=true from hs) av
 |int i=>
  obtain⟨t,rfl⟩:=rx
  cases y with
  |non=>cases ry;exact PySem.EqNone.ne_int_none (A8 I q (by simp))
  |int j=>obtain⟨t',rfl⟩:=ry;exact ne_int (A8 I q (congrArg not Ll))
  |str j=>obtain⟨t',rfl⟩:=ry;exact PySem.EqMixed.ne_int_str (A8 I q (by simp))
  |_=>exact absurd (show false=true from hs) av
 |str i=>
  obtain⟨t,rfl⟩:=rx
  cases y with
  |non=>cases ry;exact PySem.EqNone.ne_str_none (A8 I q (by simp))
  |bl j=>cases ry;exact PySem.EqMixed.ne_str_bool (A8 I q (by simp))
  |int j=>obtain⟨t',rfl⟩:=ry;exact PySem.EqMixed.ne_str_int (A8 I q (by simp))
  |str j=>obtain⟨t',rfl⟩:=ry;exact ne_str (A8 I q (congrArg not Lm))
  |_=>exact absurd (show false=true from hs) av
 |byt i=>
  obtain⟨t,rfl⟩:=rx
  cases y with
  |byt j=>obtain⟨t',rfl⟩:=ry;exact PySem.W.ne_bytes (A8 I q (congrArg not Zn))
  |_=>exact absurd (show false=true from hs) av
 |_=>cases y <;> exact absurd (show false=true from hs) av
theorem b76:OpR X (cV .Lt) (rI0 λi j=>.bl (decide (i<j))):=ba2 λ_ _ _ _ _ _ _ q=>lt_int q
theorem b75:OpR X (cV .LtE) (rI0 λi j=>.bl (decide (i<=j))):=ba2 λ_ _ _ _ _ _ _ q=>le_int q
theorem b74:OpR X (cV .Gt) (rI0 λi j=>.bl (decide (j<i))):=ba2 λ_ _ _ _ _ _ _ q=>gt_int q
theorem b73:OpR X (cV .GtE) (rI0 λi j=>.bl (decide (j<=i))):=ba2 λ_ _ _ _ _ _ _ q=>ge_int q
theorem ag7:OpR X (cV .Lt) (λx y H Q=>∃i j,x=.str i/\y=.str j/\Q (.bl (decide (i.cps.toList<j.cps.toList))) H):=by
 intro ξ s σ H x y v u Q I rx ry h
 obtain⟨i,j,rfl,rfl,q⟩:=h
 obtain⟨t,rfl⟩:=rx
 obtain⟨t',rfl⟩:=ry
 exact lt_str (A8 I q rfl)
theorem bt5:OpR X (cV .Is) (λx y H Q=>y=.non/\Q (.bl (decide (x=.non))) H):=by
 intro ξ s σ H x y v u Q I rx ry h
 obtain⟨rfl,q⟩:=h
 cases ry
 refine is_none_gen (A8 I q ?_)
 cases x <;> first
  |(cases rx;rfl)
  |(obtain⟨t,rfl⟩:=rx;rfl)
  |(obtain⟨t,rfl,_⟩:=rx;rfl)
theorem ba5:OpR X (cV .IsNot) (λx y H Q=>y=.non/\Q (.bl (!decide (x=.non))) H):=by
 intro ξ s σ H x y v u Q I rx ry h
 obtain⟨rfl,q⟩:=h
 cases ry
 refine isnot_none_gen (A8 I q ?_)
 cases x <;> first
  |(cases rx;rfl)
  |(obtain⟨t,rfl⟩:=rx;rfl)
  |(obtain⟨t,rfl,_⟩:=rx;rfl)
theorem OpR.or(h:OpR X f r)(h':OpR X f r'):OpR X f (λx y H Q=>r x y H Q\/r' x y H Q):=by
 intro ξ s σ H x y v u Q I rx ry q
 rcases q with q|q
 .exact h ξ s σ H x y v u Q I rx ry q
 .exact h' ξ s σ H x y v u Q I rx ry q
theorem bb1(ho:OpR X (cV op) r)(ha:PE X a ta)(hb:PE X b tb)(hm:jB op b=false):PE X (.Compare a [op] [b] pos) (tOp r ta tb):=by
 intro ξ s σ H Q I h
 exact wpAny_Compare1 (bm4 ha hb I h λv u s2 x y H2 I2 rx ry q=>ho ξ s2 σ H2 x y v u Q I2 rx ry q) hm
noncomputable def b19(K:ac)(x:V)(H:Hp)(k:Bool):Prop:=
 match x with
 |.non=>k=false
 |.bl b=>k=b
 |.int i=>k=(i != 0)
 |.str y=>y.length<=sizeLine/\k=((y.length:Int) != 0)
 |.byt y=>y.size<=sizeLine/\k=((y.size:Int) != 0)
 |.ref p=>(∃xs,SqL K H p xs/\k = !xs.isEmpty)\/(∃xs,SqT K H p xs/\k = !xs.isEmpty) \/ ∃kvs,H p=some (.dK kvs)/\k = !kvs.isEmpty
 |_=>False
theorem Xk {κ:Type}{kvs:List (κ×V)}{vs:List (κ×Value)}(r:KV kvs vs):(!vs.isEmpty) = !kvs.isEmpty:=by
 cases r <;> rfl
theorem Mx {xs:List V}{χ:List Value}(r:Vals xs χ):(!χ.toArray.isEmpty) = !xs.isEmpty:=by
 cases r <;> simp
theorem Jz:(sizeLine:Nat)<2 ^ 63:=by rw[ce];decide
theorem Oh:b18 X (λx H Q=>∃k,b19 X.K x H k/\Q k H):=by
 intro ξ s σ H x v Q I rx h
 obtain⟨k,e,q⟩:=h
 have hl:=Jz
 have hs:sizeLine=16777216:=ce
 cases x with
 |non=>
  cases rx
  have e':k=false:=e
  subst e'
  exact truthy_none ⟨H,I,q⟩
 |bl b=>
  cases rx
  have e':k=b:=e
  subst e'
  exact d8 ⟨H,I,q⟩
 |int i=>
  obtain⟨t,rfl⟩:=rx
  have e':k=(i != 0):=e
  subst e'
  exact PySem.P.truthy_int ⟨H,I,q⟩
 |str y=>
  obtain⟨t,rfl⟩:=rx
  obtain⟨hy,e'⟩:y.length<=sizeLine/\k=((y.length:Int) != 0):=e
  subst e'
  exact PySem.P.truthy_str (by omega) ⟨H,I.tok _,q⟩
 |byt y=>
  obtain⟨t,rfl⟩:=rx
  obtain⟨hy,e'⟩:y.size<=sizeLine/\k=((y.size:Int) != 0):=e
  subst e'
  exact PySem.W.truthy_bytes (by omega) ⟨H,I.tok _,q⟩
 |ref p=>
  cases rx
  have e':(∃xs,SqL X.K H p xs/\k = !xs.isEmpty)\/(∃xs,SqT X.K H p xs/\k = !xs.isEmpty) \/ ∃kvs,H p=some (.dK kvs)/\k = !kvs.isEmpty:=e
  rcases e' with ⟨xs,hx,e'⟩|⟨xs,hx,e'⟩|⟨kvs,hx,e'⟩
  .subst e'
   obtain⟨χ,r,pl,hz⟩:=I.list hx
   have ϖ:=r.length
   exact wpAny_truthy_list pl.isList (by simp only[aB];omega) ⟨H,I.tok _,by rw[Mx r];exact q⟩
  .subst e'
   obtain⟨χ,r,pl,hz⟩:=I.tuple hx
   have ϖ:=r.length
   exact truthy_tuple pl (by simp only[aB];omega) ⟨H,I.tok _,by rw[Mx r];exact q⟩
  .subst e'
   obtain⟨hz,hS,vs,r,m⟩:kvs.length<=sizeLine/\(p==dy)=false/\∃vs,KV kvs vs/\s.heap.DictOf (Bf X.prog X.w) p vs:=I.hok p _ hx
   have ϖ:kvs.length=vs.length:=ie r
   exact wpAny_truthy_dict hS m (by omega) ⟨H,I.tok _,by rw[Xk r];exact q⟩
 |_=>exact (show False from e).elim
theorem Xz:OpR X (dO .Add) (λx y H Q=>∃i j,x=.str i/\y=.str j/\i.length+j.length<=sizeLine/\Q (.str (i++j)) H):=by
 intro ξ s σ H x y v u Q I rx ry h
 obtain⟨i,j,rfl,rfl,hz,q⟩:=h
 obtain⟨t,rfl⟩:=rx
 obtain⟨t',rfl⟩:=ry
 exact bD (ak _) (add_str (λt' tk htk=>⟨.str (i++j),H,I.tok _ htk,⟨_,rfl⟩,q⟩) hz)
theorem Fy(r:Vals [x] us):∃u,us=[u]/\RelV x u:=by
 cases r with
 |cons r1 r2=>cases r2;exact⟨_,rfl,r1⟩
theorem cd8(r:Vals [x,y] us):∃u w',us=[u,w']/\RelV x u/\RelV y w':=by
 cases r with
 |cons r1 r2=>
  cases r2 with
  |cons r3 r4=>cases r4;exact⟨_,_,rfl,r1,r3⟩
theorem Px:Cy X (.type "int") (λxs H Q=>(∃i,xs=[.int i]/\Q (.int i) H) \/ ∃k,xs=[.bl k]/\Q (.int (if k then 1 else 0)) H):=by
 intro ξ s σ H xs us Q I r h
 rcases h with ⟨i,rfl,q⟩|⟨k,rfl,q⟩
 .obtain⟨u,rfl,t,rfl⟩:=Fy r
  exact call_int_int ⟨.int i,H,I,⟨_,rfl⟩,q⟩
 .obtain⟨u,rfl,r1⟩:=Fy r
  cases r1
  exact call_int_bool ⟨.int (if k then 1 else 0),H,I.tok _,⟨_,rfl⟩,q⟩
end
structure ObjM (h:Heap) (x dx C:Addr) (mA:Str->Option Value):Prop where
 obj:h.get? x=some (dI C dx)
 ns:h.Ns1 dx mA
 ne:dx≠x
theorem Qs {h:Heap}{dx:Addr}{mA:Str->Option Value}(n:h.Ns1 dx mA):∃od,h.get? dx=some od/\∀name,i7 name od=some (mA name):=by
 obtain⟨o,es,ep,ho,hd,hk,_,hm⟩:=n
 refine⟨o,ho,λname=>?_⟩
 have e:=hm name
 unfold nsFind findBy at e
 rw[<- Array.find?_toList] at e
 unfold i7
 rw[hd]
 dsimp only
 split
 .rename_i y q
  rw[q] at e
  exact congrArg some e
 .rename_i q
  rw[q] at e
  have a:es.toList.any (·.refKey)=false:=by
   rw[cH]
   intro y hy
   obtain⟨z,t,hkey⟩:=hk y (Array.mem_toList_iff.mp hy)
   simp[DictEntry.refKey,hkey]
  have a':¬ es.toList.any (·.refKey)=true:=by rw[a];exact av
  rw[if_neg a']
  exact congrArg some e
theorem ObjM.look(I:ObjM h x dx C mA):∃od,PySem.W.InstAt h x (dI C dx) C (some od)/\∀name,i7 name od=some (mA name):=
 let ⟨od,ho,hl⟩:=Qs I.ns
 ⟨od,⟨I.obj,rfl,rfl,ho⟩,hl⟩
section
variable {prog:bq} {w:cb} {A:cj} {E:Value->aF->Prop} {s:aF} {K:ac} {x dx C f:Addr} {mA:Str->Option Value} {name:Str} {v:Value}
theorem Ak(X:K.In s.heap)(I:ObjM s.heap x dx C mA)(hg:fC K C name=true)(hh:gx K C=true)(ha:bp K (.ref C) name=some none)(hv:mA name=some v)(hv':jH v=true)(h:Q v { s with toks:=s.toks+1 }) :
  aW (model prog w) A (getAttr (.ref x) name expr) Q E s:=by
 obtain⟨od,J,hl⟩:=I.look
 exact PySem.W.get_value X J (iH hg).1 (PySem.W.findObj_own hh ha rfl (by rw[hl,hv])) hv' h
theorem ar1(X:K.In s.heap)(I:ObjM s.heap x dx C mA)(hg:fC K C name=true)(hf:bp K (.ref C) name=some (some (.ref f)))(ht:dn K (.ref f)=true)(hv:mA name=none)(h:Q (.ref f,[.ref x]) s) :
  aW (model prog w) A (getMethod (.ref x) name pl) Q E s:=by
 obtain⟨od,J,hl⟩:=I.look
 exact PySem.W.method_fn X J (iH hg).1 (iH hg).2 hf (beq_iff_eq.mp ht) (by show (i7 name od).map (·.isSome)=some false;rw[hl,hv];rfl) h
theorem be7(X:K.In s.heap)(I:ObjM s.heap x dx C mA)(hs:bp K (.ref C) "__setattr__"=some (some (.builtin "object.__setattr__")))(hp:jn K C=true)(ht:kg K C name=some none)(hh:gx K C=true)(hw:gR mA ns)(hsz:ns.length<=sizeLine)(h:∀h',ObjM h' x dx C (λy=>if y=name then some v else mA y)->bE dx s.heap h'->Q () { s with heap:=h',toks:=s.toks+2 }) :
  aW (model prog w) A (setAttr (.ref x) name v) Q E s:=by
 obtain⟨od,J,hl⟩:=I.look
 refine PySem.W.set_plain X J hs (PySem.W.osa_open (s:={ s with toks:=s.toks+1 }) (r:=none) X J hp ht λb=>?_)
 obtain⟨cd,hc,hd'⟩:=PySem.W.any_some hh
 have hx:s.heap.get? x=some ⟨.ref C,some dx,.plain,#[]⟩:=I.obj
 refine ai (aE (ai (ai (wpAny_loadPart hx (ai (PySem.W.Looks.here (s:={ s with toks:=s.toks+1 }) (PySem.W.looks_clsIn X hc) ?_))))))
 rw[hd']
 refine aE (a:=some dx) (ai (aE (ai ?_)))
 refine wpAny_nsSet1 (s:={ s with toks:=s.toks+1 }) I.ns λh' hn2 hs2=>?_
 obtain⟨oD,esD,epD,hoD,hdD,hcD⟩:=hn2.count (PySem.Within.cons name v hw)
 refine ai (wpAny_lookBehind hoD (by rw[hdD];exact pastItsLine_dict (aw hcD (by rw[aN];omega))) ?_)
 exact aE (h _ ⟨(hs2.2 _ (cQ I.ne)).trans I.obj,hn2,I.ne⟩ hs2)
theorem at6(X:K.In s.heap)(hm:dJ K C=true)(hi:bp K (.ref C) "__init__"=some (some (.ref f)))(hf:PySem.W.typeIn K (.ref f)=some (.type "function"))(h:gA (model prog w) (A.under (.builtin "type.__call__" ⟨.ref C::vs,kw⟩)) (.call (.ref f) ⟨.ref (s.heap.objs.size+1)::vs,kw⟩) (PySem.W.InitBack (s.heap.objs.size+1) R)
   {s with heap:=(s.heap.push cU).push (dI C s.heap.objs.size) }) :
  gA (model prog w) A (.call (.ref C) ⟨vs,kw⟩) R s:=by
 obtain⟨hh,g,d,t,os⟩:=s
 exact PySem.W.make_core (PySem.W.makes_of X hm) (hV X hi) (λself=>PySem.W.bind_fn X self hf) (.inl rfl) h
end
def Gn(f:Str)(v:V):List (Str×V)->List (Str×V)
 |[]=>[(f,v)]
 |(g,x)::r=>if g=f then (g,v)::r else (g,x)::Gn f v r
theorem K4(f g:Str)(v:V):∀fs:List (Str×V),(Gn f v fs).lookup g=if g=f then some v else fs.lookup g
 | []=>by
  show gv g [(f,v)]=_
  by_cases h:g=f
  .have hb:(g==f)=true:=beq_iff_eq.mpr h
   simp only[gv,hb,if_pos h]
  .have hb:(g==f)=false:=beq_eq_false_iff_ne.mpr h
   simp only[gv,hb,if_neg h]
 | (k,x)::r=>by
  have ih:=K4 f g v r
  rw[show Gn f v ((k,x)::r)=(if k=f then (k,v)::r else (k,x)::Gn f v r) from rfl]
  by_cases hk:k=f
  .rw[if_pos hk]
   by_cases h:g=k
   .have hb:(g==k)=true:=beq_iff_eq.mpr h
    simp only[gv,hb,if_pos (h.trans hk)]
   .have hb:(g==k)=false:=beq_eq_false_iff_ne.mpr h
    simp only[gv,hb,if_neg (λe:g=f=>h (e.trans hk.symm))]
  .rw[if_neg hk]
   by_cases h:g=k
   .have hb:(g==k)=true:=beq_iff_eq.mpr h
    simp only[gv,hb,if_neg (λe:g=f=>hk (h.symm.trans e))]
   .have hb:(g==k)=false:=beq_eq_false_iff_ne.mpr h
    simp only[gv,hb]
    exact ih
theorem Jy(f:Str)(v:V):∀fs:List (Str×V),f∈(Gn f v fs).map (·.1)/\∀g,g∈fs.map (·.1)->g∈(Gn f v fs).map (·.1)
 |[]=>⟨by simp[Gn],λg h=>by simp at h⟩
 | (k,x)::r=>by
  obtain⟨i1,i2⟩:=Jy f v r
  rw[show Gn f v ((k,x)::r)=(if k=f then (k,v)::r else (k,x)::Gn f v r) from rfl]
  by_cases hk:k=f
  .rw[if_pos hk]
   subst hk
   exact⟨by simp,λg h=>by simpa using h⟩
  .rw[if_neg hk]
   refine⟨?_,λg h=>?_⟩
   .rw[aY]
    exact aq _ i1
   .rw[aY] at h ⊢
    rcases List.mem_cons.mp h with e|e
    .exact List.mem_cons.mpr (.inl e)
    .exact aq _ (i2 g e)
theorem K3(f:Str)(v:V):∀fs:List (Str×V),(Gn f v fs).length<=fs.length+1
 |[]=>by simp[Gn]
 | (k,x)::r=>by
  have ih:=K3 f v r
  rw[show Gn f v ((k,x)::r)=(if k=f then (k,v)::r else (k,x)::Gn f v r) from rfl]
  by_cases hk:k=f
  .rw[if_pos hk,aN,aN];omega
  .rw[if_neg hk,aN,aN];omega
theorem RelO.some_of(r:RelO (some v) o):∃u,o=some u/\RelV v u:=by
 cases o with
 |none=>exact (show False from r).elim
 |some u=>exact⟨u,rfl,r⟩
theorem RelO.none_of(r:RelO none o):o=none:=by
 cases o with
 |none=>rfl
 |some u=>exact (show False from r).elim
theorem ae8(r:RelV v u):jH u=true:=by
 cases v with
 |non=>cases (show u=bT from r);rfl
 |bl b=>cases (show u=lM b from r);rfl
 |int i=>obtain⟨t,e⟩:=(show ∃t,u=lC i t from r);cases e;rfl
 |str x=>obtain⟨t,e⟩:=(show ∃t,u=iI x t from r);cases e;rfl
 |byt b=>obtain⟨t,e⟩:=(show ∃t,u=Value.bytes b t from r);cases e;rfl
 |stk y n ex=>obtain⟨t,e,_⟩:=(show ∃t,u=iI y t/\(if ex=true then t=n else n<=t) from r);cases e;rfl
 |ref a=>cases (show u=bh a from r);rfl
 |ty n=>cases (show u=fO n from r);rfl
section
variable {P:bq} {w:cb} {H H':Hp} {h h':Heap} {a C dx:Addr} {fs fs':List (Str×V)}
theorem Lq(hok:HOk P w H h)(e:H a=some (.ins C dx fs)):∃mA,ObjM h a dx C mA/\(∀f,RelO (fs.lookup f) (mA f))/\gR mA (fs.map (·.1))/\fs.length<=1000/\H dx=some (.own a):=by
 obtain⟨d,z,ne,ob,mA,n,r,q⟩:=(show ObjOk P w H h a (.ins C dx fs) from hok a _ e)
 exact⟨mA,⟨ob,n,ne⟩,r,q,z,d⟩
end
structure Cls (K:ac) (C:Addr):Prop where
 pg:fC K C cJ=true
 hd:gx K C=true
 po:jn K C=true
 sa:bp K (.ref C) "__setattr__"=some (some (.builtin "object.__setattr__"))
theorem Cls.get {K:ac}{C:Addr}(c:Cls K C)(f:Str):fC K C f=true:=c.pg
def NoAttr(K:ac)(C:Addr)(f:Str):Prop:=bp K (.ref C) f=some none
theorem NoAttr.taker {K:ac}{C:Addr}{f:Str}(n:NoAttr K C f):kg K C f=some none:=by
 unfold kg
 rw[show bp K (.ref C) f=some none from n]
 rfl
structure Uj (K:ac) (C:Addr) (m:Str) (f:Addr):Prop where
 at_:bp K (.ref C) m=some (some (.ref f))
 fn:dn K (.ref f)=true
 kp:br K (.ref f)=true
section
variable {X:Cx} {ξ:List (Addr×Obj)} {σ:St} {H:Hp} {s:aF} {a C dx:Addr} {fs:List (Str×V)} {f:Str} {v:V} {A:cj} {E:Value->aF->Prop}
theorem Xh(I:Inv X ξ σ H s)(e:H a=some (.ins C dx fs))(c:Cls X.K C)(n:NoAttr X.K C f)(l:fs.lookup f=some v)(h:∀u s',Inv X ξ σ H s'->RelV v u->Q u s'):aW (model X.prog X.w) A (getAttr (.ref a) f b) Q E s:=by
 obtain⟨mA,O,r,_,_,_⟩:=Lq I.hok e
 obtain⟨u,hu,ru⟩:=RelO.some_of (v:=v) (o:=mA f) (by rw[<- l];exact r f)
 exact Ak I.kIn O (c.get f) c.hd n hu (ae8 ru) (h u _ (I.tok _) ru)
theorem Mu(I:Inv X ξ σ H s)(e:H a=some (.ins C dx fs))(c:Cls X.K C)(k:Uj X.K C m g)(l:fs.lookup m=none)(h:Q (.ref g,[.ref a]) s):aW (model X.prog X.w) A (getMethod (.ref a) m pl) Q E s:=by
 obtain⟨mA,O,r,_,_,_⟩:=Lq I.hok e
 have hn:mA m=none:=RelO.none_of (by rw[<- l];exact r m)
 exact ar1 I.kIn O (c.get m) k.at_ k.fn hn h
theorem Yb(I:Inv X ξ σ H s)(e:H a=some (.ins C dx fs))(c:Cls X.K C)(n:NoAttr X.K C f)(hl:fs.length<1000)(ry:RelV y u)(h:∀s',Inv X ξ σ (upd H a (.ins C dx (Gn f y fs))) s'->Q () s'):aW (model X.prog X.w) A (setAttr (.ref a) f u) Q E s:=by
 obtain⟨mA,O,r,wi,_,ho⟩:=Lq I.hok e
 have hz:(fs.map (·.1)).length<=sizeLine:=by rw[ae,ce];omega
 refine be7 I.kIn O c.sa c.po n.taker c.hd wi hz λh' O' sb=>h _ ?_
 have hd:∃o,h'.get? dx=some o:=let ⟨o,_,_,e',_⟩:=O'.ns;⟨o,e'⟩
 refine I.write (x:=a) (e:=dx) (by rw[e];exact ba) (.inr ho) (λb q hb z=>(sb.2 b hb).trans z) hd ?_
 refine⟨by rw[Ai O.ne];exact ho,?_,O.ne,O'.obj,_,O'.ns,λg=>?_,λg hg=>?_⟩
 .have:=K3 f y fs;omega
 .show RelO ((Gn f y fs).lookup g) (if g=f then some u else mA g)
  rw[K4]
  by_cases q:g=f
  .rw[if_pos q,if_pos q];exact ry
  .rw[if_neg q,if_neg q];exact r g
 .by_cases q:g=f
  .rw[q];exact (Jy f y fs).1
  .refine (Jy f y fs).2 g (wi g λz=>hg ?_)
   show (if g=f then some u else mA g)=none
   rw[if_neg q];exact z
theorem Inv.made(I:Inv X ξ σ H s):Inv X ξ σ (upd (upd H s.heap.objs.size (.own (s.heap.objs.size+1))) (s.heap.objs.size+1) (.ins C s.heap.objs.size []))
  {s with heap:=(s.heap.push cU).push (dI C s.heap.objs.size) }:=by
 have e1:(s.heap.push cU).get? s.heap.objs.size=some cU:=aK s.heap rfl
 have e2:((s.heap.push cU).push (dI C s.heap.objs.size)).get? (s.heap.objs.size+1)=some (dI C s.heap.objs.size):=by
  have:=aK (s.heap.push cU) (o:=dI C s.heap.objs.size) rfl
  rwa[cn] at this
 have e3:(s.heap.push cU).Ns s.heap.objs.size (λ_=>none):=⟨cU,#[],_,e1,rfl,(λe he=>absurd he (by simp)),λ_=>rfl⟩
 have I1:=I.laid (a:=s.heap.objs.size) (o:=.own (s.heap.objs.size+1)) (h':=s.heap.push cU) (t':=s.toks) (λb u q=>ah _ q) (ak _) ⟨_,e1⟩
 refine I1.laid (a:=s.heap.objs.size+1) (o:=.ins C s.heap.objs.size []) (t':=s.toks) (λb u q=>ah _ q) (lW (cn _ _)) ?_
 have ne:s.heap.objs.size≠s.heap.objs.size+1:=aT (dz _)
 refine⟨by rw[Ai ne,Ac],bZ _,ne,e2,λ_=>none,(Heap.Ns1.of_empty e3).at λo q=>ah _ q,λ_=>ba,λy hy=>absurd rfl hy⟩
theorem a59(hb:jA e f env (eval e env)=eval e env)(h:aW (model prog w) A (eval e env) (λo s₁=>aW (model prog w) A (getAttr o f true) Q E s₁) E s):aW (model prog w) A (eval (.Attribute e f pos) env) Q E s:=
 Attribute_any_ h (by rw[arm_eval_Attribute,hb])
end
section
variable {X:Cx} {ξ:List (Addr×Obj)} {σ:St} {H:Hp} {s:aF} {A:cj} {E:Value->aF->Prop} {Q:Value->aF->Prop} {c:Value} {b:Bool}
inductive TyOf (K:ac) (H:Hp):V->Value->Prop where
 |non:TyOf K H .non (.type "NoneType")
 |bl (x:Bool):TyOf K H (.bl x) (.type "bool")
 |int (i:Int):TyOf K H (.int i) (.type "int")
 |str (x:Str):TyOf K H (.str x) (.type "str")
 |stk (x:Str) (n:Nat) (ex:Bool):TyOf K H (.stk x n ex) (.type "str")
 |lst {a:Addr} {xs:List V} (e:H a=some (.lst xs)):TyOf K H (.ref a) (.type "list")
 |frz {a:Addr} {o:Obj} {xs:List V} (e:H a=some (.frz o (.lst xs))):TyOf K H (.ref a) (.type "list")
 |tup {a:Addr} {xs:List V} (e:H a=some (.tup xs)):TyOf K H (.ref a) (.type "tuple")
 |dK {a:Addr} {kvs:List (Key×V)} (e:H a=some (.dK kvs)):TyOf K H (.ref a) (.type "dict")
 |dT {a:Addr} {kvs:List (List Key×V)} (e:H a=some (.dT kvs)):TyOf K H (.ref a) (.type "dict")
 | ins {a C dx:Addr} {fs:List (Str×V)} (e:H a=some (.ins C dx fs)) (cl:Cls K C) (ha:bp K (.ref C) "__class__"=some (some (.builtin "object.__class__")))
   (hn:PySem.W.specialIn K (.builtin "object.__class__") "__get__"=some (some (.builtin "getset_descriptor.__get__"))) (htk:PySem.W.takesIn K (.builtin "object.__class__")=some true)
   (hm:ii K C (.type "object")=some true):TyOf K H (.ref a) (.ref C)
theorem Qm(I:Inv X ξ σ H s)(rx:RelV x u)(ty:TyOf X.K H x t)(e:dU X.K t c=some b)(h:∀tk,Q (.bool b) { s with toks:=tk }) :
  aW (model X.prog X.w) A (call (.builtin "isinstance") [u,c]) Q E s:=by
 cases ty with
 |non=>cases (show u=bT from rx);exact b_ PySem.W.kitx_none I.kIn ba e (λz=>nomatch z) h
 |bl y=>cases (show u=lM y from rx);exact b_ PySem.W.kitx_bool I.kIn ba e (λz=>nomatch z) h
 |int i=>obtain⟨t,q⟩:=(show ∃t,u=lC i t from rx);cases q;exact b_ PySem.W.kitx_int I.kIn ba e (λz=>nomatch z) h
 |str y=>obtain⟨t,q⟩:=(show ∃t,u=iI y t from rx);cases q;exact b_ PySem.W.kitx_str I.kIn ba e (λz=>nomatch z) h
 |stk y n ex=>obtain⟨t,q,_⟩:=(show ∃t,u=iI y t/\(if ex=true then t=n else n<=t) from rx);cases q;exact b_ PySem.W.kitx_str I.kIn ba e (λz=>nomatch z) h
 |@lst a xs ea=>
  cases (show u=bh a from rx)
  obtain⟨_,_,n,_,h1⟩:=(show ObjOk X.prog X.w H s.heap a (.lst xs) from I.hok a _ ea)
  exact b_ jl I.kIn ⟨_,h1,rfl⟩ e (λz=>nomatch z) h
 |@frz a ob xs ea=>
  cases (show u=bh a from rx)
  obtain⟨_,_,_,n,_,h1⟩:=(show ObjOk X.prog X.w H s.heap a (.frz ob (.lst xs)) from I.hok a _ ea)
  exact b_ jl I.kIn ⟨_,h1,rfl⟩ e (λz=>nomatch z) h
 |@tup a xs ea=>
  cases (show u=bh a from rx)
  obtain⟨_,_,_,p⟩:=(show ObjOk X.prog X.w H s.heap a (.tup xs) from I.hok a _ ea)
  obtain⟨o,h1,h2,_⟩:=p
  exact b_ lq I.kIn ⟨o,h1,h2⟩ e (λz=>nomatch z) h
 |@dK a kvs ea=>
  cases (show u=bh a from rx)
  obtain⟨_,_,vs,_,p⟩:=(show ObjOk X.prog X.w H s.heap a (.dK kvs) from I.hok a _ ea)
  obtain⟨o,es,ep,h1,h2,_⟩:=p
  exact b_ PySem.W.kitx_dict I.kIn ⟨o,h1,h2.1⟩ e (λz=>nomatch z) h
 |@dT a kvs ea=>
  cases (show u=bh a from rx)
  obtain⟨_,_,xs,_,o,es,ep,h1,h2,_⟩:=(show ObjOk X.prog X.w H s.heap a (.dT kvs) from I.hok a _ ea)
  exact b_ PySem.W.kitx_dict I.kIn ⟨o,h1,h2.1⟩ e (λz=>nomatch z) h
 |@ins a C dx fs ea cl ha hn htk hm=>
  cases (show u=bh a from rx)
  obtain⟨mA,O,_⟩:=Lq I.hok ea
  obtain⟨od,J,_⟩:=O.look
  exact b_ (PySem.W.kitx_own (cl.get _) cl.hd ha hn htk hm) I.kIn J e (λz=>nomatch z) h
end
structure Room (k:Nat) (A:cj):Prop where
 hd:A.handled=none
 dp:A.depth+3 * k+5<recursionLimit
 un:A.units+16 * k+200<cLine
theorem Room.mono(r:Room k A)(h:j<=k):Room j A:=⟨r.hd,by have:=r.dp;omega,by have:=r.un;omega⟩
theorem Room.deeper(r:Room (k+1) A)(env:Env):Room k (A.deeper env):=
 ⟨r.hd,by have:=r.dp;show A.depth+1+3 * k+5<_;omega,by have:=r.un;show A.units+3+16 * k+200<_;omega⟩
theorem Xr {A:cj}{C:Addr}{us:List Value}{kw:List (Str×Value)}:(A.under (.builtin "type.__call__" ⟨.ref C::us,kw⟩)).depth=A.depth+1:=by
 first|rfl|simp[lR,Code.weight,Code.isCreation,Code.isGuard,Code.isCaller,Code.frames,lS,guardIds]
theorem Xs {A:cj}{C:Addr}{us:List Value}{kw:List (Str×Value)}:(A.under (.builtin "type.__call__" ⟨.ref C::us,kw⟩)).units=A.units+1:=by
 first|rfl|simp[lR,Code.cUnits,Code.frames,lS]
theorem Room.make(r:Room (k+1) A)(C:Addr)(us:List Value)(kw:List (Str×Value)):Room k (A.under (.builtin "type.__call__" ⟨.ref C::us,kw⟩)):=
 ⟨r.hd,by have:=r.dp;rw[Xr];omega,by have:=r.un;rw[Xs];omega⟩
theorem Room.depth(r:Room k A):A.depth<recursionLimit:=by have:=r.dp;omega
theorem Room.units(r:Room k A):A.units+64<cLine:=by have:=r.un;omega
def cg5:TA:=λ_ H Q=>Q [] H
def b99(ta:TE)(tr:TA):TA:=λσ H Q=>ta σ H λx H1=>tr σ H1 λxs H2=>Q (x::xs) H2
section
variable {X:Cx} {e:Expr} {es:List Expr} {te:TE} {t:TA} {pos:Pos}
theorem bu6:PA X [] cg5:=λ_ _ _ _ H Q I h=>e8 ⟨[],H,I,.nil,h⟩
theorem ba8(ha:PE X e te)(hr:PA X es t)(hs:dw (e::es) X.env=(false,eval e X.env)::dw es X.env:=by rfl):PA X (e::es) (b99 te t):=by
 intro pos ξ s σ H Q I h
 rw[hs]
 show aW _ _ (spliced ((false,eval e X.env)::jI pos (dw es X.env))) _ _ s
 refine eN (thn (ha ξ s σ H _ I h) λu s1 ⟨x,H1,I1,r1,q1⟩=>?_)
 exact thn (hr pos ξ s1 σ H1 _ I1 q1) λus s2 ⟨xs,H2,I2,r2,q2⟩=>⟨x::xs,H2,I2,.cons r1 r2,q2⟩
def cg9(t:TA):TE:=λσ H Q=>t σ H λxs H1=>xs.length<=sizeLine/\∀p,H1 p=none->Q (.ref p) (upd H1 p (.tup xs))
def cg4(t:TA):TE:=λσ H Q=>t σ H λxs H1=>xs.length<=sizeLine/\∀p,H1 p=none->Q (.ref p) (upd H1 p (.lst xs))
theorem bv2 {x1}(h:PA X es t):PE X (.Tuple es x1 pos) (cg9 t):=by
 intro ξ s σ H Q I hq
 refine wpAny_Tuple_spliced (thn (h pos ξ s σ H _ I hq) λus s1 ⟨xs,H1,I1,r,z,q⟩=>⟨by rw[<- r.length];exact z,?_⟩)
 have hf:H1 s1.heap.objs.size=none:=I1.hok.fresh (ak _)
 refine⟨.ref s1.heap.objs.size,upd H1 s1.heap.objs.size (.tup xs),I1.laid (t':=s1.toks) (λb u e=>ah _ e) (ak _) ?_,rfl,q _ hf⟩
 exact⟨z,us,r,⟨_,aK _ rfl,rfl,_,rfl⟩⟩
theorem bu8(h:PA X es t):PE X (.List es pos) (cg4 t):=by
 intro ξ s σ H Q I hq
 refine wpAny_List_spliced (thn (h pos ξ s σ H _ I hq) λus s1 ⟨xs,H1,I1,r,z,q⟩=>⟨by rw[<- r.length];exact z,?_⟩)
 have hf:H1 s1.heap.objs.size=none:=I1.hok.fresh (ak _)
 refine⟨.ref s1.heap.objs.size,upd H1 s1.heap.objs.size (.lst xs),I1.laid (t':=s1.toks) (λb u e=>ah _ e) (ak _) ?_,rfl,q _ hf⟩
 exact⟨z,us,0,r,aK _ rfl⟩
end
abbrev Sp:=List V->Hp->VK->XK->Prop
abbrev CXT:=List Env->Hp->aF->XK->Value->aF->Prop
structure Env0 (P:bq) (w:cb) (K:ac) (mg:Str->Option Value) (base:Heap) (A:cj) (outer:List Env) (s:aF) (H:Hp):Prop where
 frames:A.frames=some outer
 mod:Mod K mg base
 bs:∀b o,base.get? b=some o->s.heap.get? b=some o/\H b=none
 bsz:base.objs.size<=s.heap.objs.size
 funs:s.heap.FunFrames base outer
 frf:∀b∈frs outer,H b=none
 hok:HOk P w H s.heap
 bare:jt s.gens
 tk:Y6 K s.toks
noncomputable def CE(outer:List Env)(P:bq)(w:cb)(H:Hp)(s:aF)(Q:VK)(u:Value)(s':aF):Prop:=
 ∃v H',(s'.os=s.os/\s.toks<=s'.toks)/\jt s'.gens/\Un (frs outer) [] H H' s.heap s'.heap/\HOk P w H' s'.heap/\RelV v u/\Q v H'
noncomputable def CR(CX:CXT)(outer:List Env)(P:bq)(w:cb)(H:Hp)(s:aF)(Q:VK)(E:XK)(r:mz)(s':aF):Prop:=
 match r with
 |.ok (.ret u)=>CE outer P w H s Q u s'
 |.ok _=>False
 |.error e=>CX outer H s E e s'
structure FnOk (P:bq) (w:cb) (K:ac) (mg:Str->Option Value) (base:Heap) (CX:CXT) (k:Nat) (f:Addr) (fd:bB) (ps:List Str) (sp:Sp):Prop where
 len:∀vs H Q E,sp vs H Q E->vs.length=ps.length
 run:∀(A:cj)(outer:List Env)(s:aF)(H:Hp)(args:Args)(us:List Value)(vs:List V)(Q:VK)(E:XK),Room k A->Env0 P w K mg base A outer s H->lK s fd args (ps.zip us)->Vals vs us->sp vs H Q E ->
  gA (model P w) A (.call (.ref f) args) (CR CX outer P w H s Q E) s
theorem FnOk.imp {P:bq}{w:cb}{K:ac}{mg:Str->Option Value}{base:Heap}{CX:CXT}{k:Nat}{f:Addr}{fd:bB}{ps:List Str}{sp sp':Sp}(F:FnOk P w K mg base CX k f fd ps sp)(h:∀vs H Q E,sp' vs H Q E->sp vs H Q E):FnOk P w K mg base CX k f fd ps sp':=
 ⟨λvs H Q E q=>F.len vs H Q E (h _ _ _ _ q),λA outer s H args us vs Q E hr he hb hv hs=>F.run A outer s H args us vs Q E hr he hb hv (h _ _ _ _ hs)⟩
theorem Env0.make {P:bq}{w:cb}{K:ac}{mg:Str->Option Value}{base:Heap}{A:cj}{outer:List Env}{s:aF}{H:Hp}(e:Env0 P w K mg base A outer s H)(C:Addr)(us:List Value)(kw:List (Str×Value)) :
  Env0 P w K mg base (A.under (.builtin "type.__call__" ⟨.ref C::us,kw⟩)) outer s H:=⟨by first|exact e.frames|(simpa [lR,Code.envs,lS,pushEnvs] using e.frames),e.mod,e.bs,e.bsz,e.funs,e.frf,e.hok,e.bare,e.tk⟩
section
variable {X:Cx} {ξ:List (Addr×Obj)} {σ:St} {H:Hp} {s s':aF}
theorem Inv.env0(I:Inv X ξ σ H s):Env0 X.prog X.w X.K X.mg X.base X.A X.stack s H:=
 ⟨I.ok.frames,I.ok.mod,I.bs,aw I.ok.bsz I.sz,I.stack,I.stkFree,I.hok,I.bare,ba⟩
theorem Inv.after(I:Inv X ξ σ H s)(h:CE X.stack X.prog X.w H s Q u s'):EP X ξ σ Q u s':=by
 obtain⟨v,H',os,bare,un,hok,r,q⟩:=h
 obtain⟨hh,g,d,t,os'⟩:=s'
 obtain rfl:os'=s.os:=os.1
 exact⟨v,H',I.call (h':=hh) (g':=g) (d':=d) (t':=t) (ch:=[]) un hok bare (λb z=>absurd z (by simp)) os.2,r,q⟩
end
noncomputable def Binds(K:ac)(fd:bB)(ps:List Str)(ds:List Value):Prop:=
 ∀(s:aF)(us:List Value),K.In s.heap->(us++ds).length=ps.length->lK s fd ⟨us,[]⟩ (ps.zip (us++ds))
theorem Binds.all {K:ac}{fd:bB}{ps:List Str}(h:∀us:List Value,us.length=ps.length->kz fd ⟨us,[]⟩=pure (ps.zip us)):Binds K fd ps []:=λs us _ hl=>by
 rw[b7] at hl ⊢
 exact .of_eq (h us hl)
section
variable {X:Cx} {CX:CXT} {k:Nat} {f C:Addr} {fd:bB} {ps:List Str} {sp:Sp} {dvs:List V} {ds:List Value} {E:XK} {x m:Str} {p pos apos:Pos} {e o:Expr} {es:List Expr} {ta:TE} {t:TA}
structure Mk (K:ac) (C f:Addr):Prop where
 makes:dJ K C=true
 init:bp K (.ref C) "__init__"=some (some (.ref f))
 fn:dn K (.ref f)=true
 kp:br K (.ref C)=true
end
structure Ec (N P:List Str) (sc:Scope):Prop where
 kind:sc.kind=.function
 co:sc.isCoroutine=false
 gen:sc.isGenerator=false
 nd:N.Nodup
 pre:N.take P.length=P
 par:∀x∈P,sc.names.lookup x=some .local\/sc.names.lookup x=some .cell
 nofree:∀y∈sc.names,y.2≠.free
theorem Pw {kindOf:Str->Option cO}{x:Str}:∀ {binds:List (Str×Value)} {m:Str->Option Value},(∀v,(x,v)∉binds)->bindL kindOf binds m x=m x
 |[],_,_=>rfl
 | (n,v)::r,m,h=>by
  unfold bindL
  rw[Pw λw hw=>h w (aq _ hw)]
  split
  .have:x≠n:=by rintro rfl;exact h v am
   simp[this]
  .rfl
theorem Pt {kindOf:Str->Option cO}{x:Str}:∀ {binds:List (Str×Value)} {m:Str->Option Value},(∀v,(x,v)∉binds)->bindC kindOf binds m x=m x
 |[],_,_=>rfl
 | (n,v)::r,m,h=>by
  unfold bindC
  rw[Pt λw hw=>h w (aq _ hw)]
  split
  .rfl
  .have:x≠n:=by rintro rfl;exact h v am
   simp[this]
theorem Pu {kindOf:Str->Option cO}{x:Str}{v:Value}:∀ {P:List Str} {vs:List Value} {i:Nat} {m:Str->Option Value},P.Nodup->P[i]?=some x->vs[i]?=some v->kindOf x=some .local ->
  bindL kindOf (P.zip vs) m x=some v
 |[],_,_,_,_,h,_,_=>by simp at h
 |_::_,[],_,_,_,_,h,_=>by simp at h
 | p::P,w::vs,0,m,nd,h1,h2,hk=>by
  simp at h1 h2;subst h1;subst h2
  show bindL kindOf ((p,w)::P.zip vs) m p=_
  unfold bindL
  rw[Pw λv hv=>(List.nodup_cons.mp nd).1 (j7 hv).1,if_pos hk]
  simp
 | p::P,w::vs,i+1,m,nd,h1,h2,hk=>by
  show bindL kindOf ((p,w)::P.zip vs) m x=_
  unfold bindL
  exact Pu (i:=i) (List.nodup_cons.mp nd).2 (by simpa using h1) (by simpa using h2) hk
theorem Ps {kindOf:Str->Option cO}{x:Str}{v:Value}:∀ {P:List Str} {vs:List Value} {i:Nat} {m:Str->Option Value},P.Nodup->P[i]?=some x->vs[i]?=some v->kindOf x≠some .local ->
  bindC kindOf (P.zip vs) m x=some v
 |[],_,_,_,_,h,_,_=>by simp at h
 |_::_,[],_,_,_,_,h,_=>by simp at h
 | p::P,w::vs,0,m,nd,h1,h2,hk=>by
  simp at h1 h2;subst h1;subst h2
  show bindC kindOf ((p,w)::P.zip vs) m p=_
  unfold bindC
  rw[Pt λv hv=>(List.nodup_cons.mp nd).1 (j7 hv).1,if_neg hk]
  simp
 | p::P,w::vs,i+1,m,nd,h1,h2,hk=>by
  show bindC kindOf ((p,w)::P.zip vs) m x=_
  unfold bindC
  exact Ps (i:=i) (List.nodup_cons.mp nd).2 (by simpa using h1) (by simpa using h2) hk
def start(N:List Str)(vs:List V):St:=vs.map some++i5 (N.length - vs.length) none
noncomputable def Mo(CX:CXT)(P:bq)(w:cb)(K:ac)(mg:Str->Option Value)(base:Heap)(N:List Str)(qual:Str)(scope:Scope)(f:Addr)(cd:Value)(A:cj)(outer:List Env)(s:aF)(H:Hp)(E:XK):Cx where
 prog:=P
 w:=w
 K:=K
 mg:=mg
 base:=base
 A:=A.deeper (l9 qual scope s.heap.objs.size f cd)
 N:=N
 s₀:=s
 H₀:=H
 env:=l9 qual scope s.heap.objs.size f cd
 outer:=outer
 stack:=l9 qual scope s.heap.objs.size f cd::outer
 ex:=[]
 calm:=true
 fn:=λ_=>true
 pn:=[]
 xe:=λe s'=>aW (model P w) (A.deeper (l9 qual scope s.heap.objs.size f cd)) (leaving (l9 qual scope s.heap.objs.size f cd) e) (λ_ s''=>CX outer H s E e s'') (λe' s''=>CX outer H s E e' s'') s'
theorem Ij {sc:Scope}{n:Nat}{x:Str}(h:sc.names.lookup x=some .cell):∃c,(cellsFrom n sc.names []).lookup x=some c:=by
 have q:=jT sc.names n [] (.inl h)
 exact Option.isSome_iff_exists.mp q
theorem af1 {CX:CXT}{P:bq}{w:cb}{K:ac}{mg:Str->Option Value}{base:Heap}{N ps:List Str}{qual:Str}{scope:Scope}{f:Addr}{cd:Value}{A:cj}{outer:List Env}{s s1:aF}{H:Hp}{E:XK}{us:List Value}{vs:List V}(S:Ec N ps scope)(hd:A.handled=none)(e0:Env0 P w K mg base A outer s H)(htk:s.toks<=s1.toks)(hl:vs.length=ps.length)(r:Vals vs us)(x:InCallC s s.heap.objs.size (bindL (l9 qual scope s.heap.objs.size f cd).kindOf (ps.zip us) λ_=>none) (cellsFrom (s.heap.objs.size+1) scope.names []) (bindC (l9 qual scope s.heap.objs.size f cd).kindOf (ps.zip us) λ_=>none) s1) :
  Inv (Mo CX P w K mg base N qual scope f cd A outer s H E) [] (start N vs) H s1:=by
 have hpl:ps.length<=N.length:=by have:=congrArg bH S.pre;rw[aJ] at this;omega
 obtain⟨h1,tk,rfl,hk⟩:=x.done
 have noA:∀b:Addr,b∉(Mo CX P w K mg base N qual scope f cd A outer s H E).ex:=λb z=>absurd (show b∈([]:List Addr) from z) (by simp)
 refine⟨⟨e0.mod,S.kind,rfl,rfl,ak _,λy z c h1 h2=>?_,λy hy=>?_,λy c _ h=>?_,λ_=>hd,Around.frames_deeper e0.frames,.inr ⟨rfl,rfl⟩,λb z=>absurd z (noA b),e0.bs,e0.bsz,λb _ _=>noA b,λb z=>absurd z (noA b),e0.funs,e0.frf,e0.tk⟩,
  ⟨rfl,htk⟩,e0.bare,Un.kept hk,⟨_,x.toInCall.ns,λi y v h1 h2 h3=>?_⟩,λy c h=>⟨_,x.cell y c h⟩,e0.hok.fresh (ak _),λy c h=>?_,λp hp=>absurd (show p∈([]:List (Addr×Obj)) from hp) (by simp),e0.hok.kept hk,?_⟩
 .exact name_of_addr x.apart (cv h1) (cv h2)
 .have hy:scope.names.lookup y=some .cell\/scope.names.lookup y=some .free:=hy
  rcases hy with hy|hy
  .exact Ij hy
  .exact absurd rfl (S.nofree _ (cv hy))
 .exact dD (x.above y c (cv h))
 .have hi:i<vs.length:=by
   unfold start at h2
   by_cases hi:i<vs.length
   .exact hi
   .rw[bU (by simpa using hi)] at h2
    rw[List.getElem?_replicate] at h2
    split at h2 <;> cases h2
  have ha:vs[i]?=some v:=by
   unfold start at h2
   rw[c_ (by simpa using hi),aj] at h2
   cases e:vs[i]? with
   |none=>rw[e] at h2;cases h2
   |some a=>rw[e] at h2;cases h2;rfl
  obtain⟨u,hu,rv⟩:=r.get ha
  have hp:ps[i]?=some y:=by
   rw[<- S.pre,List.getElem?_take_of_lt (by omega)];exact h1
  have ndP:ps.Nodup:=by rw[<- S.pre];exact S.nd.sublist (List.take_sublist _ _)
  refine⟨u,rv,?_⟩
  rcases S.par y (ag hp) with k|k
  .exact .inl ⟨k,Pu ndP hp hu k⟩
  .obtain⟨c,e⟩:=Ij (n:=s.heap.objs.size+1) k
   refine .inr ⟨.inl k,c,e,?_⟩
   have q:=x.cell y c e
   rw[Ps ndP hp hu (by show scope.names.lookup y≠_;rw[k];decide)] at q
   exact q
 .exact e0.hok.fresh (dD (x.above y c (cv h)))
 .unfold start
  show _=N.length
  rw[aP,ae,List.length_replicate]
  omega
theorem bh5 {CX:CXT}{P:bq}{w:cb}{K:ac}{mg:Str->Option Value}{base:Heap}{k:Nat}{f:Addr}{name qual:Str}{params:Arguments}{body:List Stmt}{scope:Scope}{dV kV doc pm θ ct oc:Value}{an od:Option Addr}{osl:Array (Option Value)}{N ps:List Str}{sp:Sp}(lk:K.lookup f=some ⟨oc,od,.func (cL name qual params body scope dV kV doc pm an θ ct),osl⟩)(hcd:dS K θ qual=true)(S:Ec N ps scope)(len:∀vs H Q E,sp vs H Q E->vs.length=ps.length)(hbody:∀(A:cj)(outer:List Env)(s:aF)(H:Hp)(vs:List V)(Q:VK)(E:XK),Room k (A.deeper (l9 qual scope s.heap.objs.size f θ))->sp vs H Q E ->
   ∃t,PSs (Mo CX P w K mg base N qual scope f θ A outer s H E) body t/\t { nx:=λ_ H'=>Q .non H',rt:=Q } (start N vs) H) :
  FnOk P w K mg base CX (k+1) f (cL name qual params body scope dV kV doc pm an θ ct) ps sp:=by
 refine⟨len,λA outer s H args us vs Q E hr e0 hb r hsp=>?_⟩
 have hl:=len _ _ _ _ hsp
 have KX:K.In s.heap:=e0.mod.kin.keeps λb o e=>(e0.bs b o e).1
 have lim:s.heap.NoLimit:=e0.mod.nolimit.keeps λb o e=>(e0.bs b o e).1
 have hkind:∀y∈ps.zip us,scope.names.lookup y.1=some .local\/(scope.names.lookup y.1=some .cell/\((cellsFrom (s.heap.objs.size+1) scope.names []).lookup y.1).isSome=true):=fun⟨n,v⟩ hy=>by
  rcases S.par n (j7 hy).1 with q|q
  .exact .inl q
  .exact .inr ⟨q,jT _ _ _ (.inl q)⟩
 refine codeAny_call_function hr.depth (KX _ _ lk) rfl S.co S.gen rfl (PySem.W.codeRec_of KX hcd) (hb _ _ _ _ ?_)
 refine bD (ak _) (wpAny_newFunctionEnv_cells S.kind hkind λenv he s1 x htk=>?_)
 subst he
 refine⟨lim.keeps x.toInCall.keep,codeAny_func ?_⟩
 obtain⟨t,ht,hq⟩:=hbody A outer s H vs Q E (hr.deeper _) hsp
 have I:Inv (Mo CX P w K mg base N qual scope f θ A outer s H E) [] (start N vs) H s1:=af1 S hr.hd e0 htk hl r x
 refine cW (ht [] s1 (start N vs) H _ I hq) (λfl s' hs=>?_) λe s' hs=>hs
 have fin:∀ {σ':St} {H':Hp} {v:V} {u:Value},Inv (Mo CX P w K mg base N qual scope f θ A outer s H E) [] σ' H' s'->RelV v u->Q v H'->CE outer P w H s Q u s':=
  λ{σ' H' v u} J rv q=>⟨v,H',J.os,J.bare,J.base,J.hok,rv,q⟩
 cases fl with
 |ret u=>
  obtain⟨v,σ',H',J,rv,q⟩:=hs
  exact fin J rv q
 |next=>
  obtain⟨σ',H',J,q⟩:=hs
  exact fin (v:=V.non) (u:=bT) J rfl q
 |brk=>
  obtain⟨_,_,_,q⟩:=hs
  exact dt q
 |cont=>
  obtain⟨_,_,_,q⟩:=hs
  exact dt q
section
variable {X:Cx} {x:Str} {p pos:Pos} {e:Expr} {es:List Expr} {t:TA} {id T:String} {r:List V->Hp->VK->Prop}
def tCB(r:List V->Hp->VK->Prop)(t:TA):TE:=λσ H Q=>t σ H λvs H1=>r vs H1 Q
theorem av4(hc:Cy X (.builtin id) r)(hg:Gl X x)(hm:X.mg x=none)(hv:dE x=some (.builtin id))(ha:PA X (e::es) t)(hn:x ≠ "__name__" := by decide)(hdb:(x==("__debug__" : Str))=false:=by decide)(he:dw (e::es) X.env=(false,eval e X.env)::dw es X.env:=by rfl)(hpl:(jI pos (dw es X.env)).any (·.1)=false:=by rfl):PE X (.Call (.Name x p) (e::es) [] pos) (tCB r t):=by
 intro ξ s σ H Q I h
 refine bO (E8 I hg hm hv ?_ hn hdb)
 exact gP (thn (ha pos ξ s σ H _ I h) λus s1 ⟨vs,H1,I1,r1,q1⟩=>hc ξ s1 σ H1 vs us Q I1 r1 q1) he hpl
theorem ag9(hc:Cy X (.type T) r)(hg:Gl X x)(hm:X.mg x=none)(hv:dE x=some (.type T))(ha:PA X (e::es) t)(hn:x ≠ "__name__" := by decide)(hdb:(x==("__debug__" : Str))=false:=by decide)(he:dw (e::es) X.env=(false,eval e X.env)::dw es X.env:=by rfl)(hpl:(jI pos (dw es X.env)).any (·.1)=false:=by rfl):PE X (.Call (.Name x p) (e::es) [] pos) (tCB r t):=by
 intro ξ s σ H Q I h
 refine bO (E8 I hg hm hv ?_ hn hdb)
 exact b9 (thn (ha pos ξ s σ H _ I h) λus s1 ⟨vs,H1,I1,r1,q1⟩=>hc ξ s1 σ H1 vs us Q I1 r1 q1) he hpl
end
end L2
namespace HT
open PySem PyProof.Rows
section
variable {prog:bq} {w:cb} {A:cj} {E:Value->aF->Prop} {s:aF}
theorem cat_tup(ht:IsTup s.heap t vs.toArray)(hb:IsTup s.heap b ws.toArray)(hv:vs≠[])(h1:ws=[]->Q (.ref t) s)(h2:ws≠[]->Q (.ref s.heap.objs.size) { s with heap:=s.heap.push { cls:=.type "tuple", data:=.seq (vs++ws).toArray } })(hsz:vs.length+ws.length<=sizeLine):aW (model prog w) A (dO .Add (.ref t) (.ref b)) Q E s:=by
 obtain⟨⟨cls,dd,data,sl⟩,ho,hc,n,hd⟩:=id ht
 obtain⟨⟨cls2,dd2,data2,sl2⟩,ho2,hc2,n2,hd2⟩:=id hb
 simp only at hc hd hc2 hd2
 subst hc hd hc2 hd2
 have e:vs.toArray++ws.toArray=(vs++ws).toArray:=by simp
 by_cases hw:ws=[]
 .exact l7 ⟨_,ho,rfl⟩ ⟨_,ho2,rfl⟩ jJ lE gu f9 (fK _ _)
   (tuple_addW1 t b vs.toArray ws.toArray n n2 dd dd2 sl sl2 (by simpa using hv) (by simp[hw])) ⟨ho,ho2,h1 hw⟩
 .refine l7 ⟨_,ho,rfl⟩ ⟨_,ho2,rfl⟩ jJ lE gu f9 (fK _ _)
   (tuple_addW2 t b vs.toArray ws.toArray n n2 dd dd2 sl sl2 (by simpa using hv) (by simpa using hw) (by rw[aB,aB];exact hsz)) ⟨ho,ho2,?_⟩
  rw[e]
  exact h2 hw
def sIx(n d:Nat):Option Int->Nat
 |none=>d
 |some v=>if v<0 then (v+(n:Int)).toNat else min v.toNat n
theorem sIx_none(n d:Nat):sIx n d none=d:=rfl
theorem sIx_nat(n d k:Nat):sIx n d (some (k:Int))=min k n:=by
 show (if (k:Int)<0 then ((k:Int)+(n:Int)).toNat else min (k:Int).toNat n)=min k n
 rw[if_neg (by omega),aI]
end
end HT
namespace L2
open PySem PySem.Spec PyProof.Rows
abbrev TO:=St->Hp->(Option Int->Hp->Prop)->Prop
noncomputable def PO(X:Cx)(e:Option Expr)(t:TO):Prop:=
 ∀(ξ:List (Addr×Obj))(s:aF)(σ:St)(H:Hp)(Q:Option Int->Hp->Prop),Inv X ξ σ H s->t σ H Q ->
  aW (model X.prog X.w) X.A (evalPart e X.env) (λu s'=>∃o H',Inv X ξ σ H' s'/\IsPart u o/\Q o H') X.xe s
def bf3:TO:=λ_ H Q=>Q none H
section
variable {X:Cx} {e:Expr} {te:TE} {lo hi:Option Expr} {tl th:TO} {pos p2:Pos}
theorem bb5:PO X none bf3:=by
 intro ξ s σ H Q I h
 rw[evalPart_none]
 exact aE ⟨none,H,I,.none,h⟩
noncomputable def SlR(X:Cx)(r:V->Option Int->Option Int->Hp->VK->Prop):Prop:=
 ∀(ξ:List (Addr×Obj))(s:aF)(σ:St)(H:Hp)(x:V)(v vl vu:Value)(lo hi:Option Int)(sl:Addr)(Q:VK),Inv X ξ σ H s->RelV x v->s.heap.IsSliceOf sl vl vu .none->IsPart vl lo->IsPart vu hi->r x lo hi H Q ->
  ∃T id,iq (.type T) "__getitem__"=pure (some (.builtin id))/\s.TypeIs v T/\aW (model X.prog X.w) X.A (getItem v (.ref sl)) (EP X ξ σ Q) X.xe s
def E6(xs:List V)(lo hi:Option Int):List V:=(xs.drop (HT.sIx xs.length 0 lo)).take (HT.sIx xs.length xs.length hi - HT.sIx xs.length 0 lo)
theorem U0(xs:List V)(lo hi:Option Int):(E6 xs lo hi).length<=xs.length:=by
 unfold E6
 rw[aJ,cN]
 omega
noncomputable def bi8(K:ac):R2:=λx y H Q=>∃a b xs ys,x=.ref a/\y=.ref b/\SqT K H a xs/\SqT K H b ys/\xs≠[]/\xs.length+ys.length<=sizeLine /\
 (ys=[]->Q (.ref a) H)/\(ys≠[] -> ∀p,H p=none->Q (.ref p) (upd H p (.tup (xs++ys))))
theorem Vals.nil_iff(r:Vals xs us):us=[] ↔ xs=[]:=by
 cases r with
 |nil=>simp
 |cons _ _=>simp
theorem op_catT:OpR X (dO .Add) (bi8 X.K):=by
 intro ξ s σ H x y v u Q I rx ry h
 obtain⟨a,b,xs,ys,rfl,rfl,ha,hb,hx,hz,q1,q2⟩:=h
 cases rx
 cases ry
 obtain⟨χ,r1,p1,_⟩:=I.tuple ha
 obtain⟨its2,r2,p2,_⟩:=I.tuple hb
 refine HT.cat_tup p1 p2 (λz=>hx (r1.nil_iff.mp z)) (λz=>⟨.ref a,H,I,rfl,q1 (r2.nil_iff.mp z)⟩) (λz=>?_) (by rw[<- r1.length,<- r2.length];exact hz)
 refine⟨.ref s.heap.objs.size,_,I.laid (t':=s.toks) (o:=.tup (xs++ys)) (λb ob q=>ah _ q) (ak _) ?_,rfl,q2 (λw=>z (r2.nil_iff.mpr w)) _ (I.hok.fresh (ak _))⟩
 exact⟨by rw[aP];exact hz,_,r1.append r2,IsTup.new _ _⟩
end
def ixN(n:Nat)(i:Int):Option Nat:=if 0<=i then (if i<n then some i.toNat else none) else if -(n:Int)<=i then some (i+n).toNat else none
def atI {α:Type}(xs:List α)(i:Int):Option α:=(ixN xs.length i).bind λj=>xs[j]?
theorem a85(h:ixN n i=some j):seqIndex? i n=some j/\j<n /\ -(n:Int)<=i/\i<n:=by
 unfold ixN at h
 by_cases h0:0<=i
 .rw[if_pos h0] at h
  by_cases h1:i<n
  .rw[if_pos h1] at h
   have e:i.toNat=j:=aM h
   exact⟨by rw[seqIndex_of h0 h1,e],by omega,by omega,h1⟩
  .rw[if_neg h1] at h;cases h
 .rw[if_neg h0] at h
  by_cases h1:-(n:Int)<=i
  .rw[if_pos h1] at h
   have e:(i+n).toNat=j:=aM h
   exact⟨by rw[seqIndex_neg (by omega) h1,e],by omega,h1,by omega⟩
  .rw[if_neg h1] at h;cases h
theorem Rk {α:Type}{xs:List α}{i:Int}{v:α}(h:atI xs i=some v):∃j,seqIndex? i xs.length=some j/\xs[j]?=some v/\j<xs.length /\ -(xs.length:Int)<=i/\i<xs.length:=by
 unfold atI at h
 cases e:ixN xs.length i with
 |none=>rw[e] at h;cases h
 |some j=>
  rw[e] at h
  obtain⟨h1,h2,h3,h4⟩:=a85 e
  exact⟨j,h1,h,h2,h3,h4⟩
theorem A3 {α:Type}{xs:List α}{j:Nat}{v:α}(h:xs[j]?=some v):atI xs (j:Int)=some v:=by
 have hj:j<xs.length:=(List.getElem?_eq_some_iff.mp h).1
 have e:ixN xs.length (j:Int)=some j:=by
  unfold ixN
  rw[if_pos (by omega),if_pos (by omega)];simp
 unfold atI;rw[e];exact h
def Y5(b:Expr):Prop:=∀o i,subscripted b false o i=operate [o,i] (getItem o i)
noncomputable def IxR(X:Cx)(r:R2):Prop:=
 ∀(value slice:Expr)(ξ:List (Addr×Obj))(s:aF)(σ:St)(H:Hp)(x y:V)(v u:Value)(Q:VK),Inv X ξ σ H s->RelV x v->RelV y u->r x y H Q ->
  subscripted slice false v u=operate [v,u] (getItem v u)->aW (model X.prog X.w) X.A (lF value slice v u) (EP X ξ σ Q) X.xe s
noncomputable def MtR(X:Cx)(id:String)(r:V->List V->Hp->VK->Prop):Prop:=
 ∀(ξ:List (Addr×Obj))(s:aF)(σ:St)(H:Hp)(x:V)(xs:List V)(v:Value)(us:List Value)(Q:VK),Inv X ξ σ H s->RelV x v->Vals xs us->r x xs H Q ->
  aW (model X.prog X.w) X.A (call (.builtin id) (v::us)) (EP X ξ σ Q) X.xe s
section
variable {X:Cx} {a b:Expr} {ta tb:TE} {pos:Pos}
theorem b80(hr:IxR X r)(ha:PE X a ta)(hb:PE X b tb)(hs:Y5 b):PE X (.Subscript a b pos) (tOp r ta tb):=by
 intro ξ s σ H Q I h
 exact Subscript_ (bm4 ha hb I h λv u s2 x y H2 I2 rx ry q=>hr a b ξ s2 σ H2 x y v u Q I2 rx ry q (hs _ _))
noncomputable def cf5(K:ac):R2:=λx y H Q=>∃p xs i v,x=.ref p/\y=.int i/\SqL K H p xs/\atI xs i=some v/\Q v H
noncomputable def cf7(K:ac):R2:=λx y H Q=>∃p xs i v,x=.ref p/\y=.int i/\SqT K H p xs/\atI xs i=some v/\Q v H
def cf6:R2:=λx y H Q=>∃z i c,x=.str z/\y=.int i/\z.length<=sizeLine/\atI z.cps.toList i=some c/\Q (.str ⟨#[c]⟩) H
theorem a86:IxR X (cf5 X.K):=by
 intro value slice ξ s σ H x y v u Q I rx ry h hs
 obtain⟨p,xs,i,z,rfl,rfl,hq,he,q⟩:=h
 cases rx
 obtain⟨t,rfl⟩:=ry
 obtain⟨χ,r,pl,hz⟩:=I.list hq
 obtain⟨j,h1,h2,h3,h4,h5⟩:=Rk he
 obtain⟨w,ew,rw'⟩:=r.get h2
 have hl:=r.length
 have hn:=Jz
 have fin:EP X ξ σ Q w s:=⟨z,H,I,rw',q⟩
 by_cases h0:0<=i
 .have hj:i.toNat=j:=by
   rw[seqIndex_of h0 h5] at h1
   exact aM h1
  exact item_listR pl.isList h0 (by omega) (by rw[hj];simpa using ew) fin hs
 .have hj:(i+(χ.toArray.size:Int)).toNat=j:=by
   rw[seqIndex_neg (by omega) h4] at h1
   rw[aB,<- hl]
   exact aM h1
  exact jU (x:=w) pl.isList.typeIs slot_list_getitem.lookup
   (wpAny_getItem_list_neg (Q:=λr s'=>r=w/\EP X ξ σ Q r s') pl.isList (by omega) (by rw[aB] <;> omega) (by omega) (by rw[hj];simpa using ew) ⟨rfl,fin⟩) hs
theorem bo7:IxR X (cf7 X.K):=by
 intro value slice ξ s σ H x y v u Q I rx ry h hs
 obtain⟨p,xs,i,z,rfl,rfl,hq,he,q⟩:=h
 cases rx
 obtain⟨t,rfl⟩:=ry
 obtain⟨χ,r,pl,hz⟩:=I.tuple hq
 obtain⟨j,h1,h2,h3,h4,h5⟩:=Rk he
 obtain⟨w,ew,rw'⟩:=r.get h2
 have hl:=r.length
 have hn:=Jz
 have fin:EP X ξ σ Q w s:=⟨z,H,I,rw',q⟩
 exact jU (x:=w) pl.typeIs slot_tuple_getitem.lookup
  (getItem_tuple (j:=j) (Q:=λr s'=>r=w/\EP X ξ σ Q r s') pl (by omega) (by omega) (by rw[aB,<- hl];exact h1) (by simpa using ew) ⟨rfl,fin⟩) hs
theorem bo6:IxR X cf6:=by
 intro value slice ξ s σ H x y v u Q I rx ry h hs
 obtain⟨z,i,c,rfl,rfl,hz,he,q⟩:=h
 obtain⟨t,rfl⟩:=rx
 obtain⟨t',rfl⟩:=ry
 obtain⟨j,h1,h2,h3,h4,h5⟩:=Rk he
 have hl:z.cps.toList.length=z.length:=by simp[Str.length]
 rw[hl] at h1 h4 h5
 have hn:=Jz
 exact tail_any (kA s z t) slot_str_getitem.lookup (getItem_str (c:=c) (by
  have e1:decide (i < -(2 ^ 63:Int))=false:=decide_eq_false (by omega)
  have e2:decide (i ≥ 2 ^ 63)=false:=decide_eq_false (by omega)
  rw[e1,e2,hZ]) (by rw[h1];simpa using h2) ⟨.str ⟨#[c]⟩,H,I.tok _,⟨_,rfl⟩,q⟩) hs
theorem Inv.lst(I:Inv X ξ σ H s)(h:H p=some (.lst xs)) :
  ∃(χ:List Value)(n:Nat),Vals xs χ/\s.heap.get? p=some { cls:=.type "list", data:=.seq χ.toArray n }/\xs.length<=sizeLine:=by
 obtain⟨z,χ,n,r,e⟩:=I.hok p _ h
 exact⟨χ,n,r,e,z⟩
theorem Ti(lo hi:Option Int)(n:Nat):(gC lo hi none n).1=((HT.sIx n 0 lo:Nat):Int)/\(gC lo hi none n).2.1=((HT.sIx n n hi:Nat):Int)/\(gC lo hi none n).2.2=1:=by
 refine⟨?_,?_,rfl⟩
 .cases lo with
  |none=>simp[gC,HT.sIx]
  |some i=>
   simp only[gC,HT.sIx,Option.getD_none,show (1:Int) > 0 by decide,if_true]
   by_cases h:i<0
   .simp only[h,if_true] <;> omega
   .simp only[h,if_false] <;> omega
 .cases hi with
  |none=>simp[gC,HT.sIx]
  |some i=>
   simp only[gC,HT.sIx,Option.getD_none,show (1:Int) > 0 by decide,if_true]
   by_cases h:i<0
   .simp only[h,if_true] <;> omega
   .simp only[h,if_false] <;> omega
theorem Oz(χ:List Value)(lo hi:Option Int):slicePick χ.toArray lo hi none=((χ.drop (HT.sIx χ.length 0 lo)).take (HT.sIx χ.length χ.length hi - HT.sIx χ.length 0 lo)).toArray:=by
 obtain⟨h1,h2,h3⟩:=Ti lo hi χ.toArray.size
 unfold slicePick
 rw[h1,h2,h3]
 simp only[sliceRange_one,pick_run,aB] <;> rfl
noncomputable def cf9(K:ac):V->Option Int->Option Int->Hp->VK->Prop:=λx lo hi H Q=>∃a xs,x=.ref a/\SqL K H a xs/\∀p,H p=none->Q (.ref p) (upd H p (.lst (E6 xs lo hi)))
theorem be8:SlR X (cf9 X.K):=by
 intro ξ s σ H x v vl vu lo hi sl Q I rx hs pl pu h
 obtain⟨a,xs,rfl,hx,q⟩:=h
 cases rx
 obtain⟨χ,r,ht,hz⟩:=I.list hx
 have ϖ:=r.length
 refine⟨"list", _,slot_list_getitem.lookup,ht.isList.typeIs,?_⟩
 refine wpAny_getItem_list_slice ht.isList hs pl pu .none (by simp) ?_ (by rw[aB] <;> omega)
 rw[Oz,<- ϖ]
 refine⟨.ref s.heap.objs.size,_,I.laid (t':=s.toks) (o:=.lst (E6 xs lo hi)) (λb ob q=>ah _ q) (ak _) ?_,rfl,q _ (I.hok.fresh (ak _))⟩
 exact⟨aw (U0 xs lo hi) hz,_,0,(r.drop (HT.sIx xs.length 0 lo)).take (HT.sIx xs.length xs.length hi - HT.sIx xs.length 0 lo),aK _ rfl⟩
noncomputable def Bv:V->Bool
 |.non=>true
 |.bl _=>true
 |.int _=>true
 |.str _=>true
 |_=>false
noncomputable def eqV:V->V->Bool
 |.non,.non=>true
 |.bl a,.bl b=>a==b
 |.bl a,.int b=>(if a then 1 else 0)==b
 |.int a,.bl b=>a==(if b then 1 else 0)
 |.int a,.int b=>a==b
 |.str a,.str b=>a==b
 |_,_=>false
theorem R0(ry:RelV y u)(rx:RelV x v)(fy:Bv y=true)(fx:Bv x=true):bG A s u v (eqV y x):=by
 cases y with
 |non=>
  cases ry
  cases x with
  |non=>cases rx;exact SeqAt.EqAt.same _
  |bl b=>cases rx;exact SeqAt.EqAt.none_bool b
  |int b=>obtain⟨t,rfl⟩:=rx;exact SeqAt.EqAt.none_int b t
  |str b=>obtain⟨t,rfl⟩:=rx;exact SeqAt.EqAt.none_str b t
  |_=>exact absurd (show false=true from fx) av
 |bl a=>
  cases ry
  cases x with
  |non=>cases rx;exact SeqAt.EqAt.bool_none a
  |bl b=>cases rx;exact SeqAt.EqAt.bool_bool a b
  |int b=>obtain⟨t,rfl⟩:=rx;exact SeqAt.EqAt.bool_int a b t
  |str b=>obtain⟨t,rfl⟩:=rx;exact SeqAt.EqAt.bool_str a b t
  |_=>exact absurd (show false=true from fx) av
 |int a=>
  obtain⟨t',rfl⟩:=ry
  cases x with
  |non=>cases rx;exact SeqAt.EqAt.int_none a t'
  |bl b=>cases rx;exact SeqAt.EqAt.int_bool a t' b
  |int b=>obtain⟨t,rfl⟩:=rx;exact lu a t' b t
  |str b=>obtain⟨t,rfl⟩:=rx;exact lz a t' b t
  |_=>exact absurd (show false=true from fx) av
 |str a=>
  obtain⟨t',rfl⟩:=ry
  cases x with
  |non=>cases rx;exact SeqAt.EqAt.str_none a t'
  |bl b=>cases rx;exact SeqAt.EqAt.str_bool a t' b
  |int b=>obtain⟨t,rfl⟩:=rx;exact lA a t' b t
  |str b=>obtain⟨t,rfl⟩:=rx;exact SeqAt.EqAt.str_str a t' b t
  |_=>exact absurd (show false=true from fx) av
 |_=>exact absurd (show false=true from fy) av
noncomputable def eqU(x:V)(u:Value):Bool:=match u with
 |.none=>eqV .non x
 |.bool b=>eqV (.bl b) x
 |.int i _=>eqV (.int i) x
 |.str z _=>eqV (.str z) x
 |_=>false
theorem aq1(r:RelV y u)(f:Bv y=true):eqU x u=eqV y x:=by
 cases y with
 |non=>cases r;rfl
 |bl b=>cases r;rfl
 |int i=>obtain⟨t,rfl⟩:=r;rfl
 |str z=>obtain⟨t,rfl⟩:=r;rfl
 |_=>exact absurd (show false=true from f) av
theorem Ig:∀ {xs:List V} {us:List Value},Vals xs us->xs.all Bv=true->us.any (eqU x)=xs.any λy=>eqV y x
 |_,_,.nil,_=>rfl
 | y::xs,u::us,.cons r t,f=>by
  rw[bv,ay] at f
  rw[eC,eC,aq1 r f.1,Ig t f.2]
theorem Gm(rx:RelV x v)(fx:Bv x=true):∀ {xs:List V} {us:List Value},Vals xs us->xs.all Bv=true -> ∀u∈us,bG A s u v (eqU x u)
 |_,_,.nil,_=>λu hu=>by cases hu
 | y::xs,u::us,.cons r t,f=>λu' hu=>by
  rw[bv,ay] at f
  rcases List.mem_cons.mp hu with rfl|hu
  .rw[aq1 r f.1];exact R0 r rx f.1 fx
  .exact Gm rx fx t f.2 u' hu
noncomputable def inV(x:V)(xs:List V):Bool:=xs.any λy=>eqV y x
noncomputable def rIn(K:ac)(neg:Bool):R2:=λx y H Q=>∃p xs,y=.ref p/\(SqL K H p xs\/SqT K H p xs)/\Bv x=true/\xs.all Bv=true/\Q (.bl (if neg then !inV x xs else inV x xs)) H
theorem ag5:OpR X (cV .In) (rIn X.K false):=by
 intro ξ s σ H x y v u Q I rx ry h
 obtain⟨p,xs,rfl,hq,fx,fs,q⟩:=h
 cases ry
 rcases hq with hq|hq
 .obtain⟨χ,r,pl,hz⟩:=I.list hq
  refine SeqAt.in_listAt (eqU x) pl.isList (λw hw=>Gm rx fx r fs w (by simpa using hw)) ⟨.bl _,H,I,rfl,?_⟩
  rw[show χ.toArray.any (eqU x)=χ.any (eqU x) by simp,Ig r fs]
  exact q
 .obtain⟨χ,r,pl,hz⟩:=I.tuple hq
  refine SeqAt.in_tupleAt (eqU x) pl (λw hw=>Gm rx fx r fs w (by simpa using hw)) ⟨.bl _,H,I,rfl,?_⟩
  rw[show χ.toArray.any (eqU x)=χ.any (eqU x) by simp,Ig r fs]
  exact q
theorem Sx:OpR X (cV .NotIn) (rIn X.K true):=by
 intro ξ s σ H x y v u Q I rx ry h
 obtain⟨p,xs,rfl,hq,fx,fs,q⟩:=h
 cases ry
 rcases hq with hq|hq
 .obtain⟨χ,r,pl,hz⟩:=I.list hq
  refine SeqAt.notIn_listAt (eqU x) pl.isList (λw hw=>Gm rx fx r fs w (by simpa using hw)) ⟨.bl _,H,I,rfl,?_⟩
  rw[show χ.toArray.any (eqU x)=χ.any (eqU x) by simp,Ig r fs]
  exact q
 .obtain⟨χ,r,pl,hz⟩:=I.tuple hq
  refine SeqAt.notIn_tupleAt (eqU x) pl (λw hw=>Gm rx fx r fs w (by simpa using hw)) ⟨.bl _,H,I,rfl,?_⟩
  rw[show χ.toArray.any (eqU x)=χ.any (eqU x) by simp,Ig r fs]
  exact q
theorem Rq:Cy X (.builtin "len") (λxs H Q=>∃p ys,xs=[.ref p]/\(SqL X.K H p ys\/SqT X.K H p ys)/\Q (.int ys.length) H):=by
 intro ξ s σ H xs us Q I r h
 obtain⟨p,ys,rfl,hq,q⟩:=h
 obtain⟨u,rfl,rx⟩:=Fy r
 cases rx
 have hn:=Jz
 rcases hq with hq|hq
 .obtain⟨χ,r',pl,hz⟩:=I.list hq
  have ϖ:=r'.length
  exact Calls.call_len_list pl.isList (by simp only[aB] <;> omega) ⟨.int ys.length,H,I.tok _,⟨s.toks+1,by rw[aB,ϖ]⟩,q⟩
 .obtain⟨χ,r',pl,hz⟩:=I.tuple hq
  have ϖ:=r'.length
  exact len_tuple pl (by simp only[aB] <;> omega) ⟨.int ys.length,H,I.tok _,⟨s.toks+1,by rw[aB,ϖ]⟩,q⟩
theorem Rr:Cy X (.builtin "len") (λxs H Q=>∃z,xs=[.str z]/\z.length<=sizeLine/\Q (.int z.length) H):=by
 intro ξ s σ H xs us Q I r h
 obtain⟨z,rfl,hz,q⟩:=h
 obtain⟨u,rfl,t,rfl⟩:=Fy r
 have hn:=Jz
 exact len_str (by omega) ⟨.int z.length,H,I.tok _,⟨_,rfl⟩,q⟩
theorem Rs:Cy X (.type "list") (λxs H Q=>∃p ys,xs=[.ref p]/\(SqL X.K H p ys\/SqT X.K H p ys)/\∀l,H l=none->Q (.ref l) (upd H l (.lst ys))):=by
 intro ξ s σ H xs us Q I r h
 obtain⟨p,ys,rfl,hq,q⟩:=h
 obtain⟨u,rfl,rx⟩:=Fy r
 cases rx
 have fin:∀(χ:List Value),Vals ys χ->ys.length<=sizeLine -> ∀(h':Heap)(c':Nat),(∀b o',s.heap.get? b=some o'->h'.get? b=some o') ->
   h'.get? s.heap.objs.size=some { cls:=.type "list", dict:=none,data:=.seq χ.toArray c',slots:=#[] }->EP X ξ σ Q (.ref s.heap.objs.size) { s with heap:=h' }:=λχ r' hz h' c' kp e=>
  ⟨.ref s.heap.objs.size,_,I.laid (t':=s.toks) kp (ak _) (show ObjOk X.prog X.w _ h' _ (.lst ys) from⟨hz,χ,c',r',e⟩),rfl,q _ (I.hok.fresh (ak _))⟩
 rcases hq with hq|hq
 .obtain⟨χ,r',pl,hz⟩:=I.list hq
  have ϖ:=r'.length
  obtain⟨o,ho,hc,n,hd⟩:=pl.isList
  exact call_list_seq p (.inl rfl) ho hc hd (λh' c' kp e=>fin χ r' hz h' c' kp e) (by simp only[aB] <;> omega)
 .obtain⟨χ,r',pl,hz⟩:=I.tuple hq
  have ϖ:=r'.length
  obtain⟨o,ho,hc,n,hd⟩:=pl
  exact call_list_seq p (.inr rfl) ho hc hd (λh' c' kp e=>fin χ r' hz h' c' kp e) (by simp only[aB] <;> omega)
theorem Op:Cy X (.type "tuple") (λxs H Q=>∃p ys,xs=[.ref p]/\((SqL X.K H p ys/\∀l,H l=none->Q (.ref l) (upd H l (.tup ys)))\/(SqT X.K H p ys/\Q (.ref p) H))):=by
 intro ξ s σ H xs us Q I r h
 obtain⟨p,ys,rfl,h⟩:=h
 obtain⟨u,rfl,rx⟩:=Fy r
 cases rx
 rcases h with ⟨hq,q⟩|⟨hq,q⟩
 .obtain⟨χ,r',pl,hz⟩:=I.list hq
  have ϖ:=r'.length
  refine call_tuple_list pl.isList (λh' kp=>?_) (by simp only[aB] <;> omega)
  have I1:Inv X ξ σ H { s with heap:=h' }:=I.kept (t':=s.toks) kp
  have I2:Inv X ξ σ (upd H h'.objs.size (.tup ys)) { s with heap:=h'.push { cls:=.type "tuple", data:=.seq χ.toArray } }:=
   I1.laid (t':=s.toks) (λb o e=>ah _ e) (ak _) (show ObjOk X.prog X.w _ _ _ (.tup ys) from⟨hz,χ,r',IsTup.new _ _⟩)
  exact⟨.ref h'.objs.size,_,I2,rfl,q _ (I1.hok.fresh (ak _))⟩
 .obtain⟨χ,r',pl,hz⟩:=I.tuple hq
  exact call_tuple_same pl ⟨.ref p,H,I,rfl,q⟩
noncomputable def tyV(K:ac)(T:String)(x:V)(H:Hp):Prop:=match x with
 |.str _=>T="str"
 |.int _=>T="int"
 | .ref p=>(T="list" /\ ∃xs,SqL K H p xs)\/(T="tuple" /\ ∃o,K.lookup p=some o/\o.cls=.type "tuple" /\ o.dict=none) \/
   (T="dict" /\ ((∃kvs,H p=some (.dK kvs)) \/ ∃kvs,H p=some (.dT kvs)))\/(T="set" /\ ∃S n,H p=some (.set S n))
 |_=>False
theorem a25(I:Inv X ξ σ H s)(r:RelV x v)(ty:tyV X.K T x H) :
  s.TypeIs v T/\∀a,v=.ref a -> ∃ob,s.heap.get? a=some ob/\ob.dict=none:=by
 cases x with
 |str z=>
  obtain⟨t,rfl⟩:=r
  cases (show T="str" from ty)
  exact⟨kA s z t,λ_ e=>nomatch e⟩
 |int i=>
  obtain⟨t,rfl⟩:=r
  cases (show T="int" from ty)
  exact⟨typeIs_int s i t,λ_ e=>nomatch e⟩
 |ref p=>
  cases r
  rcases ty with ⟨rfl,xs,hq⟩|⟨rfl,o,hk,hc,hd⟩|⟨rfl,hk⟩|⟨rfl,S,n,hk⟩
  .obtain⟨χ,_,pl,_⟩:=I.list hq
   refine⟨pl.isList.typeIs,λa e=>?_⟩
   cases e
   obtain⟨o,n,e,c,hd,_⟩:=pl
   exact⟨o,e,hd⟩
  .refine⟨⟨o,I.kIn p o hk,hc⟩,λa e=>?_⟩
   cases e
   exact⟨o,I.kIn _ o hk,hd⟩
  .have z:∃o,s.heap.get? p=some o/\o.ExactDict:=by
    rcases hk with ⟨kvs,hk⟩|⟨kvs,hk⟩
    .obtain⟨_,_,_,_,o,_,_,e,ex,_⟩:=I.hok p _ hk
     exact⟨o,e,ex⟩
    .obtain⟨_,_,_,_,o,_,_,e,ex,_⟩:=I.hok p _ hk
     exact⟨o,e,ex⟩
   obtain⟨o,e,ex⟩:=z
   refine⟨⟨o,e,ex.1⟩,λa e2=>?_⟩
   cases e2
   exact⟨o,e,ex.2.1⟩
  .obtain⟨o,_,_,_,e,ex,_⟩:=I.hok p _ hk
   refine⟨⟨o,e,ex.1⟩,λa e2=>?_⟩
   cases e2
   exact⟨o,e,ex.2.1⟩
 |_=>exact dt ty
variable {o e:Expr} {es:List Expr} {to:TE} {t:TA} {name:Str} {apos cpos:Pos} {T id:String} {r:V->List V->Hp->VK->Prop}
end
noncomputable def MtM(X:Cx)(id:String)(r:V->List V->Hp->VK->Prop):Prop:=
 ∀(ξ:List (Addr×Obj))(s:aF)(σ:St)(H:Hp)(x:V)(xs:List V)(v:Value)(us:List Value)(Q:VK),Inv X ξ σ H s->RelV x v->Vals xs us->r x xs H Q ->
  aW (model X.prog X.w) X.A (call (.builtin id) (v::us)) (EP X ξ σ Q) X.xe s
theorem Vals.one:∀ {x:V} {us:List Value},Vals [x] us -> ∃u,us=[u]/\RelV x u
 |_,_,.cons r .nil=>⟨_,rfl,r⟩
theorem Vals.two:∀ {x y:V} {us:List Value},Vals [x,y] us -> ∃u v,us=[u,v]/\RelV x u/\RelV y v
 |_,_,_,.cons r (.cons q .nil)=>⟨_,_,rfl,r,q⟩
section
variable {X:Cx} {ξ:List (Addr×Obj)} {σ:St} {H:Hp} {s:aF} {l b:Addr} {xs ys zs:List V}
theorem Inv.lset {χ its':List Value}{n:Nat}{f:Array Value->Array Value}{t':Nat}(I:Inv X ξ σ H s)(hH:H l=some (.lst xs))(e:s.heap.get? l=some { cls:=.type "list", data:=.seq χ.toArray n })(hf:f χ.toArray=its'.toArray)(hv:Vals ys its')(hz:ys.length<=sizeLine)(ht:s.toks<=t':=by first|exact ak _|exact aV _ _|assumption|omega|(dsimp only;omega)) :
  Inv X ξ σ (upd H l (.lst ys)) { s with heap:=s.heap.update l (bS f),toks:=t' }:=by
 have q:=PySem.IsL.update e f
 rw[hf] at q
 refine I.write (x:=l) (e:=l) (by rw[hH];exact trivial) (.inl rfl) (λb' u hb hu=>(bK s.heap (bS f) (cQ hb)).trans hu) ⟨_,q⟩ ?_
 exact⟨hz,its',_,hv,q⟩
theorem Inv.lnew(I:Inv X ξ σ H s)(hv:Vals ys χ)(hz:ys.length<=sizeLine)(ht:s.toks<=t':=by first|exact ak _|exact aV _ _|assumption|omega|(dsimp only;omega)) :
  Inv X ξ σ (upd H s.heap.objs.size (.lst ys)) { s with heap:=s.heap.push { cls:=.type "list", data:=.seq χ.toArray },toks:=t' }:=
 I.laid (λ_ _ q=>ah _ q) (ak _) ⟨hz,χ,0,hv,aK _ rfl⟩ ht
theorem Inv.fresh(I:Inv X ξ σ H s):H s.heap.objs.size=none:=I.hok.fresh (ak _)
theorem Inv.lstM(I:Inv X ξ σ H s)(hH:H l=some (.lst xs)):xs.length<=sizeLine/\∃(χ:List Value)(n:Nat),Vals xs χ/\xs.length=χ.length/\s.heap.get? l=some { cls:=.type "list", data:=.seq χ.toArray n }:=by
 obtain⟨z,χ,n,r,e⟩:=I.hok l _ hH
 exact⟨z,χ,n,r,r.length,e⟩
theorem au8 {n:Nat}(h:n<=sizeLine):fI n=false:=by
 unfold fI
 exact decide_eq_false (by omega)
end
section
variable {X:Cx}
def Dz:V->List V->Hp->VK->Prop:=λx vs H Q=>∃l xs y,x=.ref l/\vs=[y]/\H l=some (.lst xs)/\xs.length<sizeLine/\Q .non (upd H l (.lst (xs++[y])))
theorem Qw:MtM X "list.append" Dz:=by
 intro ξ s σ H x vs v us Q I rx rv h
 obtain⟨l,xs,y,rfl,rfl,hH,hz,q⟩:=h
 cases rx
 obtain⟨u,rfl,ru⟩:=rv.one
 obtain⟨z,χ,n,r,hl,e⟩:=I.lstM hH
 refine jq F.slot_list_append ⟨_,e,rfl⟩ F.entry_list_append (F.args_list_append_2 _ _) (PySem.list_append l χ.toArray n u (by rw[aB];omega)) ⟨e,?_⟩
 refine⟨.non,_,I.lset (its':=χ++[u]) hH e (by simp) (r.append (.cons ru .nil)) ?_,rfl,q⟩
 rw[aP,cS]
 omega
noncomputable def Fo:V->List V->Hp->VK->Prop:=λx vs H Q=>∃l b xs zs,x=.ref l/\vs=[.ref b]/\H l=some (.lst xs)/\H b=some (.lst zs)/\xs.length+zs.length<=sizeLine/\Q .non (upd H l (.lst (xs++zs)))
theorem ag0:MtM X "list.extend" Fo:=by
 intro ξ s σ H x vs v us Q I rx rv h
 obtain⟨l,b,xs,zs,rfl,rfl,hH,hB,hz,q⟩:=h
 cases rx
 obtain⟨u,rfl,ru⟩:=rv.one
 cases ru
 obtain⟨z,χ,n,r,hl,e⟩:=I.lstM hH
 obtain⟨z2,its2,n2,r2,hl2,e2⟩:=I.lstM hB
 have hsz:χ.toArray.size+its2.toArray.size<=sizeLine:=by rw[aB,aB];omega
 have hlong:¬ (!χ.toArray.isEmpty&&fI (χ.toArray.size+its2.toArray.size))=true:=by
  rw[au8 hsz,cw]
  exact av
 refine jq F.slot_list_extend ⟨_,e,rfl⟩ F.entry_list_extend (F.args_list_extend_2 _ _)
  (AutoSeq1.list_extend_list_list_0 l χ.toArray n b its2.toArray n2 hlong (by rw[aB];omega) (by omega)) ⟨e,e2,?_⟩
 refine⟨.non,_,I.lset (its':=χ++its2) hH e (by simp) (r.append r2) ?_,rfl,q⟩
 rw[aP]
 omega
noncomputable def b92:R2:=λx y H Q=>∃l b xs zs,x=.ref l/\y=.ref b/\H l=some (.lst xs)/\H b=some (.lst zs)/\xs.length+zs.length<=sizeLine/\∀p,H p=none->Q (.ref p) (upd H p (.lst (xs++zs)))
theorem op_cat:OpR X (dO .Add) b92:=by
 intro ξ s σ H x y v u Q I rx ry h
 obtain⟨l,b,xs,zs,rfl,rfl,hH,hB,hz,q⟩:=h
 cases rx
 cases ry
 obtain⟨z,χ,n,r,hl,e⟩:=I.lstM hH
 obtain⟨z2,its2,n2,r2,hl2,e2⟩:=I.lstM hB
 refine PySem.P.add_list e e2 ?_ (by rw[aB,aB];omega)
 have ea:χ.toArray++its2.toArray=(χ++its2).toArray:=by simp
 rw[ea]
 exact⟨.ref _,_,I.lnew (t':=s.toks) (r.append r2) (by rw[aP];omega),rfl,q _ I.fresh⟩
end
end L2
namespace Att
open PySem PySem.W PySem.Calls PyProof.Rows
theorem Le:∀(ns:List Int)(vs:List Value),WellAll P h vs (ns.map WData.int)->mC vs ns:=by
 intro ns
 induction ns with
 |nil=>
  intro vs w
  rw[gL] at w
  cases w
  exact .nil
 |cons n ns ih=>
  intro vs w
  rw[aY] at w
  cases w with
  |cons a b=>
   cases a
   exact .cons _ _ (ih _ b)
theorem ah6 {l:OpenLaw}{n:Nat}(hn:l.most=some n){P:Params}{h:Heap}{args:List WData}{vals:List Value}(hpre:l.row.toRowW.claim.pre args=true)(hwl:WellAll P h vals args) :
  ∃a vs ns,vals=[bh a]/\args=[WData.list (ns.map WData.int)]/\h.get? a=some { cls:=.type "list", data:=.seq vs.toArray }/\mC vs ns/\ns.length<=n:=by
 have hsh:WShape.hasAll [] args [.list .int]=true:=(pre_splitW hpre).1
 have hc:l.pre.holds [] { args:=args }=true:=(pre_splitW hpre).2
 obtain⟨d,r,rfl,h1,h2⟩:=hasAllW_cons hsh
 obtain rfl:=hasAllW_nil h2
 obtain⟨xs,rfl,h3⟩:=hasW_list h1
 obtain⟨ns,rfl⟩:=items_int h3
 have ϖ:ns.length<=n:=by
  unfold OpenLaw.pre at hc
  have h4:(WTm.not (.lt (.lit (.int (n:Int))) (.len (.arg 0)))).holds [] { args:=[.list (ns.map .int)] }=true:=by
   have h4:=(holds_andW hc).1
   rw[hn] at h4
   exact h4
  have h5:=condW_of h4 (w_not (w_lt w_lit (w_len_list (w_arg rfl))))
  rw[ae] at h5
  refine Nat.le_of_not_lt λq=>?_
  have q':(n:Int)<((ns.length:Nat):Int):=by omega
  first
   |(rw[decide_eq_true q'] at h5;exact absurd h5 (by decide))
   |(simp at h5;omega)
 cases hwl with
 |cons w1 w2=>
  cases w2
  cases w1 with
  |list ho hall=>exact⟨_,_,ns,rfl,rfl,ho,Le ns _ hall,ϖ⟩
theorem ah1(l:OpenLaw)(args:List WData):l.row.toRowW.claim.post args (.bool true) args=true:=
 postW_of (r:=l.row.toRowW) (X:=(true==true))
  (show WShape.has [] (.bool true) .bool=true by first|rfl|decide|simp[WShape.has,WShape.arms,WShape.armsAll])
  (show (WTm.eq .res (.lit (.bool true))).value [] { args:=args,res:=some (.bool true),after:=args }=some (.bool (true==true)) from w_eq_bool (w_res rfl) w_lit) rfl
theorem attach_call {l:OpenLaw}{n:Nat}{q:bq}{loose:List Str}{XP:(Str->Option Value)->Heap->Prop}{YP:cb->Heap->Prop}{d:DefRec}(hn:l.most=some n)(hdf:d.params.defaults=[])(call:∀(w:cb)(s₀ s₁:aF)(mg mb:Str->Option Value)(fa:Addr)(o:Obj)(pm cd doc:Value)(a:Addr)(vs:List Value)(ns:List Int),
   Ground q loose [] XP w s₀ mg mb s₁.heap->YP w s₁.heap ->
   s₁.heap.get? fa=some o->o.data=.func (docDef d.name d.params d.body d.scope pm cd doc)->s₁.heap.CodeRec cd d.name->mg d.name=some (.ref fa) ->
   s₁.heap.get? a=some { cls:=.type "list", data:=.seq vs.toArray }->mC vs ns->ns.length<=n->s₁.gens = #[] ->
   gA (model l.prog w) lN (.call (.ref fa) ⟨[.ref a],[]⟩) (λr s'=>r=.ok (.ret (.bool true))/\OldK s₁.heap s'.heap/\s'.os=s₁.os/\jt s'.gens) s₁) :
  WalkO q loose XP YP l.row.toRowW d [] (λf vs=>PySem.call f vs):=by
 intro w s₀ s₁ mg mb G Y fa o pm cd doc dV kV ho hd hcd hD hmg hg args vals as hpre hlay hrd hwl hlo
 obtain rfl:dV=.none:=Dflts.none hD hdf
 obtain rfl:kV=.none:=Dflts.noKw hD
 obtain⟨a,vs,ns,rfl,rfl,hobj,hints,ϖ⟩:=ah6 hn hpre hwl
 refine enter_call (gT (call w s₀ s₁ mg mb fa o pm cd doc a vs ns G Y ho (fd_plain hd) hcd hmg hobj hints ϖ hg) λr s' hq=>?_)
 obtain⟨rfl,h2,h3,h4⟩:=hq
 exact⟨.inl ⟨.bool true,.bool true,[],rfl,λ_=>rfl,.bool true,ah1 l _,λ_=>⟨List.Pairwise.nil,λ_ hm=>(nomatch hm)⟩⟩,h2,h3,h4⟩
end Att
namespace L2
open PySem PySem.Spec PyProof.Rows
theorem Rf:∀ {vs:List Value} {ns:List Int},mC vs ns->Vals (ns.map V.int) vs
 |_,_,.nil=>.nil
 |_,_,.cons n t h=>.cons ⟨t,rfl⟩ (Rf h)
def bl8(H:Hp):Prop:=∀b,H b=none \/ ∃o xs,H b=some (.frz o (.lst xs))
theorem as3 {P:bq}{w:cb}{K:ac}{mg mb:Str->Option Value}{CX:CXT}{k:Nat}{fa a:Addr}{fd:bB}{x:Str}{sp:Sp}{s₁:aF}{vs:List Value}{ns:List Int}(KX:K.In s₁.heap)(hns:s₁.heap.Ns bA mg)(hb:s₁.heap.Ns builtinsNs mb)(hbb:∀x:Str,x ≠ "__name__" -> mb x=dE x)(htk:Y6 K s₁.toks)(hlim:s₁.heap.NoLimit)(hg:s₁.gens = #[])(ha:s₁.heap.get? a=some { cls:=.type "list", data:=.seq vs.toArray })(hi:mC vs ns)(hl:ns.length<=sizeLine)(hr:Room k lN)(F:∀base:Heap,K.In base->base.Ns bA mg->FnOk P w K mg base CX k fa fd [x] sp)(hbind:∀(s:aF)(u:Value),lK s fd ⟨[u],[]⟩ [(x,u)])(hsp:∀H:Hp,bl8 H->SqL K H a (ns.map V.int)->sp [.ref a] H (λv _=>v=.bl true) λ_ _ _=>False)(hCX:∀H e s',CX [] H s₁ (λ_ _ _=>False) e s'->False) :
  gA (model P w) lN (.call (.ref fa) ⟨[.ref a],[]⟩) (λr s'=>r=.ok (.ret (.bool true))/\OldK s₁.heap s'.heap/\s'.os=s₁.os/\jt s'.gens) s₁:=by
 have rv:=Rf hi
 have lenV:=hi.length
 have core:∀H:Hp,bl8 H->SqL K H a (ns.map V.int)->HOk P w H s₁.heap->(∀b,H b≠none->b=a)->(H a≠none->K.lookup a=none) ->
   gA (model P w) lN (.call (.ref fa) ⟨[.ref a],[]⟩) (λr s'=>r=.ok (.ret (.bool true))/\OldK s₁.heap s'.heap/\s'.os=s₁.os/\jt s'.gens) s₁:=by
  intro H hO hS hok hA hK
  have base_of:∀ {b:Addr} {o:Obj},s₁.heap.get? b=some o->H b=none->(Sc s₁.heap H).get? b=some o:=λe n=>ar3 e n
  have noA:∀ {b:Addr} {o:Obj} {es:Array DictEntry} {ep:Nat},s₁.heap.get? b=some o->o.data=.dict es ep->H b=none:=λ{b o es ep} e d=>by
   cases q:H b with
   |none=>rfl
   |some u=>
    have e':b=a:=hA b (by rw[q];simp)
    subst e'
    rw[ha] at e;cases e
    have d':Data.seq vs.toArray _=Data.dict es ep:=d
    cases d'
  have nsK:∀ {b:Addr} {m:Str->Option Value},s₁.heap.Ns b m->(Sc s₁.heap H).Ns b m:=λ{b m} ⟨o,es,ep,e,d,r⟩=>⟨o,es,ep,base_of e (noA e d),d,r⟩
  have hKb:K.In (Sc s₁.heap H):=λb o e=>base_of (KX b o e) (by
   cases q:H b with
   |none=>rfl
   |some u=>
    have e':b=a:=hA b (by rw[q];simp)
    subst e'
    rw[hK (by rw[q];simp)] at e;cases e)
  have hM:Mod K mg (Sc s₁.heap H):=⟨hKb,nsK hns,⟨mb,nsK hb,hbb⟩,let ⟨mc,h1,h2⟩:=hlim;⟨mc,nsK h1,h2⟩⟩
  have e0:Env0 P w K mg (Sc s₁.heap H) lN [] s₁ H:=⟨rfl,hM,λb o e=>a98 e,lW (af0 _ _),trivial,λb hb=>absurd (show b∈([]:List Addr) from hb) (by simp),hok,.of_eq hg,htk⟩
  refine gT ((F _ hKb (nsK hns)).run lN [] s₁ H ⟨[.ref a],[]⟩ [.ref a] [.ref a] _ _ hr e0 (hbind s₁ (.ref a)) (.cons rfl .nil) (hsp H hO hS)) λr s' h=>?_
  cases r with
  |error e=>exact (hCX H e s' h).elim
  |ok fl=>
   cases fl with
   |next=>exact dt h
   |brk=>exact dt h
   |cont=>exact dt h
   |ret u=>
    obtain⟨v,H',os,bare,un,hok',r',q⟩:=h
    have q':v=.bl true:=q
    subst q'
    obtain rfl:u=lM true:=r'
    refine⟨rfl,OldK.of_keep λb o e=>?_,os.1,bare⟩
    cases q:H b with
    |none=>exact un.keep b o e q (by intro z;exact absurd (show b∈([]:List Addr) from z) (by simp)) (by simp)
    |some u=>
     rcases hO b with z|⟨ob,xs,z⟩
     .rw[q] at z;cases z
     .have z2:=un.frzs b ob _ z
      obtain⟨e1,_⟩:=hok b _ z
      obtain⟨e2,_⟩:=hok' b _ z2
      rw[e] at e1;cases e1
      exact e2
 cases hk:K.lookup a with
 |some o=>
  have e:=KX a o hk
  rw[ha] at e
  cases e
  refine core (λ_=>none) (λ_=>.inl rfl) (.inr ⟨_,vs.toArray,_,hk,rfl,rfl,rfl,by rw[aB,lenV];exact hl,by rw[aR];intro v hv;obtain⟨i,_,rfl⟩:=List.mem_map.mp hv;rfl,by simpa using rv⟩) (λb u z=>by have z':(none:Option HO)=some u:=z;cases z') (λb z=>absurd rfl z) λz=>absurd rfl z
 |none=>
  refine core (λb=>if b=a then some (.frz { cls:=.type "list", data:=.seq vs.toArray } (.lst (ns.map V.int))) else none) (λb=>?_) (.inl (.inr ⟨{ cls:=.type "list", data:=.seq vs.toArray },if_pos rfl⟩)) (λb u z=>?_) (λb z=>?_) λ_=>hk
  .by_cases hb:b=a
   .exact .inr ⟨_,_,if_pos hb⟩
   .exact .inl (if_neg hb)
  .by_cases hb:b=a
   .have z':=(if_pos hb).symm.trans z
    cases z'
    subst hb
    exact⟨ha,by rw[ae];exact hl,vs,_,rv,ha⟩
   .have z':=(if_neg hb).symm.trans z
    cases z'
  .by_cases hb:b=a
   .exact hb
   .exact absurd (if_neg hb) z
theorem walk_of {l:ke}{n k:Nat}{q:bq}{loose:List Str}{XP:(Str->Option Value)->Heap->Prop}{YP:cb->Heap->Prop}{d:DefRec}{K:Params->ac}{CX:cb->CXT}{sp:cb->Sp}{x:Str}(hT:∀(w:cb)(m:Nat),Y6 (K w.params) m)(hn:l.most=some n)(hn2:n<=sizeLine)(hdf:d.params.defaults=[])(hr:Room k lN)(hY:∀(w:cb)(h:Heap),YP w h->(K w.params).In h)(F:∀(w:cb)(mg:Str->Option Value)(fa:Addr)(h:Heap),(K w.params).In h->h.Ns bA mg->mg d.name=some (.ref fa) ->
   ∃fd:bB,(∀(s:aF)(u:Value),lK s fd ⟨[u],[]⟩ [(x,u)]) /\
    ∀base:Heap,(K w.params).In base->base.Ns bA mg->FnOk l.prog w (K w.params) mg base (CX w) k fa fd [x] (sp w))(hsp:∀(w:cb)(H:Hp)(a:Addr)(ns:List Int),ns.length<=n->bl8 H->SqL (K w.params) H a (ns.map V.int)->sp w [.ref a] H (λv _=>v=.bl true) λ_ _ _=>False)(hCX:∀(w:cb)(H:Hp)(s:aF)(e:Value)(s':aF),CX w [] H s (λ_ _ _=>False) e s'->False) :
  PySem.W.WalkO q loose XP YP l.row.toRowW d [] (λf vs=>PySem.call f vs):=by
 refine Att.attach_call hn hdf λw s₀ s₁ mg mb fa o pm cd doc a vs ns G Y ho hd hcd hmg hobj hints ϖ hg=>?_
 have KX:=hY w _ Y
 obtain⟨fd,hb,hF⟩:=F w mg fa _ KX G.T.g hmg
 exact as3 KX G.T.g G.T.b G.T.builtins (hT _ _) G.T.nolimit hg hobj hints (aw ϖ hn2) hr hF hb (λH hO hS=>hsp w H a ns ϖ hO hS) λH e s'=>hCX w H s₁ e s'
def Dh(s:Stmt)(j:Nat):Stmt:=match s with
 |.ClassDef _ _ _ body _ _ _ _ _ _ _=>body.getD j (.Pass ⟨0,0,0,0⟩)
 |_=>.Pass ⟨0,0,0,0⟩
noncomputable def Cs(s:Stmt):Arguments:=match s with
 |.FunctionDef _ a _ _ _ _ _ _ _ _=>a
 |_=>{ posonlyargs:=[],args:=[],vararg:=none,kwonlyargs:=[],kw_defaults:=[],kwarg:=none,defaults:=[] }
def Bb(s:Stmt):List Stmt:=match s with
 |.FunctionDef _ _ b _ _ _ _ _ _ _=>b
 |_=>[]
def Am(s:Stmt):Scope:=match s with
 |.FunctionDef _ _ _ _ _ _ sc _ _ _=>sc
 |_=>{ kind:=.function,names:=[],isGenerator:=false,isCoroutine:=false }
abbrev CX0:CXT:=λ_ _ _ _ _ _=>False
structure Fun (K:ac) (x qual:Str) (st:Stmt) (f:Addr) (fd:bB):Prop where
 ex:∃(oc:Value)(od:Option Addr)(kV doc pm:Value)(an:Option Addr)(θ ct:Value)(osl:Array (Option Value)),
  fd=cL x qual (Cs st) (Bb st) (Am st) .none kV doc pm an θ ct/\K.lookup f=some ⟨oc,od,.func fd,osl⟩/\dS K θ qual=true
 kp:br K (.ref f)=true
section
variable {P:bq} {w:cb} {K:ac} {mg:Str->Option Value} {base:Heap}
theorem Fun.binds {x qual:Str}{st:Stmt}{f:Addr}{fd:bB}{ps:List Str}(F:Fun K x qual st f fd)(h:∀(kV doc pm:Value)(an:Option Addr)(θ ct:Value)(us:List Value),us.length=ps.length->kz (cL x qual (Cs st) (Bb st) (Am st) .none kV doc pm an θ ct) ⟨us,[]⟩=pure (ps.zip us)):Binds K fd ps []:=by
 obtain⟨oc,od,kV,doc,pm,an,θ,ct,osl,rfl,lk,hcd⟩:=F.ex
 exact .all (h kV doc pm an θ ct)
theorem aq8 {x qual:Str}{st:Stmt}{f:Addr}{oc:Value}{od an:Option Addr}{osl:Array (Option Value)}{kV doc pm θ ct:Value}(l:K.lookup f=some ⟨oc,od,.func (cL x qual (Cs st) (Bb st) (Am st) .none kV doc pm an θ ct),osl⟩)(c:dS K θ qual=true)(k:br K (.ref f)=true):Fun K x qual st f (cL x qual (Cs st) (Bb st) (Am st) .none kV doc pm an θ ct):=⟨⟨oc,od,kV,doc,pm,an,θ,ct,osl,rfl,l,c⟩,k⟩
end
theorem Ew {A B:Prop}(h:B):if false=true then A else B:=by
 rw[if_neg av]
 exact h
theorem Fc {A B:Prop}(h:A):if true=true then A else B:=by
 rw[if_pos rfl]
 exact h
theorem Gj {c A B:Prop} [Decidable c](h1:c->A)(h2:¬ c->B):if c then A else B:=by
 by_cases h:c
 .rw[if_pos h]
  exact h1 h
 .rw[if_neg h]
  exact h2 h
def Same(H H':Hp):Prop:=∀b o,H b=some o->H' b=some o
theorem Same.refl(H:Hp):Same H H:=λ_ _ h=>h
theorem Same.trans(a:Same H H1)(b:Same H1 H2):Same H H2:=λc o h=>b c o (a c o h)
theorem Same.free(e:Same H H')(h:H' l=Option.none):H l=Option.none:=by
 cases q:H l with
 |none=>rfl
 |some o=>
  rw[e l o q] at h
  cases h
noncomputable def Cx.comp(X:Cx)(N':List Str)(scope:Scope)(cl:List (Str×Addr))(fp:List Addr)(C:Addr)(s:aF)(H:Hp)(xe:Value->aF->Prop):Cx:=
 {prog:=X.prog,w:=X.w,K:=X.K,mg:=X.mg,base:=X.base,A:=X.A,N:=N',s₀:=s,H₀:=H,env:=mG scope cl C X.env,outer:=X.stack,stack:=X.stack,
  ex:=fp,fn:=λx=>(cl.lookup x).isNone,calm:=X.calm,pn:=[],xe:=xe }
def W3(srcs:List (Option Nat))(σ:St):St:=srcs.map λo=>o.bind λj=>(σ[j]?).join
structure Ma (X:Cx) (N':List Str) (srcs:List (Option Nat)) (scope:Scope) (cl:List (Str×Addr)):Prop where
 clos:closureFor scope X.env=pure cl
 nocell:∀y∈scope.names,y.2≠.cell
 kind:scope.kind=.function
 names:∀y∈scope.names,y.2=.local->scope.names.lookup y.1=some .local
 sub:∀x c,cl.lookup x=some c->X.env.cells.lookup x=some c
 has:∀x,((i8 scope X.env).names.lookup x=some .cell\/(i8 scope X.env).names.lookup x=some .free) -> ∃c,cl.lookup x=some c
 len:srcs.length=N'.length
 src:∀(k j:Nat)(x:Str),N'[k]?=some x->srcs[k]?=some (some j)->X.N[j]?=some x/\(X.env.scope.names.lookup x=some .cell\/X.env.scope.names.lookup x=some .free) /\
  ((i8 scope X.env).names.lookup x=some .cell\/(i8 scope X.env).names.lookup x=some .free)
noncomputable def ac1(X:Cx)(ifs:List Expr)(t:TT):Prop:=
 ∀(ξ:List (Addr×Obj))(s:aF)(σ:St)(H:Hp)(Q:Bool->Hp->Prop),Inv X ξ σ H s->t σ H Q ->
  aW (model X.prog X.w) X.A (forIn ifs true λc r=>if r=true then do let ok <- isTrue c X.env (eval c X.env);pure (eX ok) else pure (eX r)) (TP X ξ σ Q) X.xe s
def ch1:TT:=λ_ H Q=>Q true H
theorem av8:ac1 X [] ch1:=λ_ _ _ H _ I h=>wpAny_tests_nil ⟨H,I,h⟩
theorem av9(h:PT X c t):ac1 X [c] t:=λξ s σ H Q I q=>wpAny_tests_one (h ξ s σ H Q I q)
noncomputable def a21(srcs:List (Option Nat))(wi:TI)(g:TG)(tc:TT)(te:TE):TE:=λσ H Q=>wi σ H λJ H1=>∀D,H1 D=none ->
 ∃W:Nat->Nat->St->Hp->Prop,(∃m,W 0 m (W3 srcs σ) (upd H1 D (.lst [])))/\∀i m σ' H',W i m σ' H' ->
  (J.stop i H'/\Q (.ref D) H')\/(J.go i H'/\∃N:St->Hp->Prop,(∀ σ2 H2,N σ2 H2 -> ∃m',m'<m/\W (i+1) m' σ2 H2)/\∀x H2,J.yld i H' x H2->g x σ' H2 λσ3 H3=>tc σ3 H3 λb H4=>if b=true then
    te σ3 H4 λv H5=>∃ys,H5 D=some (.lst ys)/\ys.length<sizeLine/\N σ3 (upd H5 D (.lst (ys++[v])))
   else N σ3 H4)
section
theorem Rw(I:Nat->aF->Prop)(turn:∀n s,I n s->aW (model prog w) A (iW it) (λr s₁=>match r with
   |none=>R (.ok .next) s₁
   |some v=>aW (model prog w) A (iK target it v) (λ_ s₀=>aW (model prog w) A (lY target env v) (λ_ s₂=>
     aW (model prog w) A (forIn ifs true λc r=>if r=true then do let ok <- isTrue c env (eval c env);pure (eX ok) else pure (eX r)) (λok s₃=>
      if ok=true then aW (model prog w) A (eval elt env) (λx s₄=>
       aW (model prog w) A (call (.builtin "list.append") [acc,x]) (λ_ s₅=>∃m,m<n/\I m s₅) (lO (model prog w) A env λe s'=>R (.error e) s') s₄) (lO (model prog w) A env λe s'=>R (.error e) s') s₃
      else ∃m,m<n/\I m s₃) (lO (model prog w) A env λe s'=>R (.error e) s') s₂) (lO (model prog w) A env λe s'=>R (.error e) s') s₀) (lO (model prog w) A env λe s'=>R (.error e) s') s₁) (lO (model prog w) A env λe s'=>R (.error e) s') s)(n:Nat)(h:I n s) :
  gA (model prog w) A (.compLoop (.ListComp elt [⟨target,iter,ifs,0⟩] scope pos) 0 it acc env) R s:=by
 refine codeAny_loop rfl I (λn s hI=>?_) n h
 show aW _ A ((compTurn (.ListComp elt [⟨target,iter,ifs,0⟩] scope pos) 0 it acc env).onRaise (λx=>do lD x env;theTreesLotGoes x)) _ _ s
 refine wpAny_noted ?_
 rw[compTurn_list]
 refine ai (ff (ai (cW (turn n s hI) (λr s₁ h₁=>?_) λ_ _ h'=>h')))
 cases r with
 |none=>exact aE h₁
 |some v=>
  refine ai (cW h₁ (λ_ s₀ h₀=>?_) λ_ _ h'=>h')
  refine ai (cW h₀ (λ_ s₂ h₂=>ai (cW h₂ (λok s₃ h₃=>?_) λ_ _ h'=>h')) λ_ _ h'=>h')
  cases ok with
  |false=>exact aE ⟨rfl,h₃⟩
  |true=>
   exact ai (ai (cW h₃ (λx s₄ h₄=>ai (cW h₄ (λ_ s₅ h₅=>aE (aE ⟨rfl,h₅⟩)) λ_ _ h'=>h')) λ_ _ h'=>h'))
end
section
theorem W4(S:Ma X N' srcs scope cl)(I:Inv X ξ σ H s)(f:∀b∈fp,Eu X ξ H b)(fo:∀b∈fp,b<s.heap.objs.size)(hD:s.heap.objs.size<=D)(hC:s.heap.objs.size<=C)(hDC:C≠D)(hns:∃m,h₁.Ns C m)(old:∀b o,s.heap.get? b=some o->h₁.get? b=some o)(hacc:∃n,h₁.get? D=some { cls:=.type "list", data:=.seq ([]:List Value).toArray n })(ht:s.toks<=tk:=by first|exact ak _|exact aV _ _|assumption|omega|(dsimp only;omega)) :
  Inv (X.comp N' scope cl fp C s H xe) [] (W3 srcs σ) (upd H D (.lst [])) { s with heap:=h₁,toks:=tk }:=by
 have hfD:=I.hok.fresh hD
 have ok:(X.comp N' scope cl fp C s H xe).Ok:=by
  refine⟨I.ok.mod,S.kind,I.ok.glob,I.ok.blt,hC,λx y c a b=>I.ok.inj x y c (S.sub x c a) (S.sub y c b),S.has,λx c hf hl=>?_,I.ok.hd,I.ok.frames,.inl rfl,λb hb=>⟨?_,λx c hl=>?_⟩,I.bs,aw I.ok.bsz I.sz,λb o e hb=>?_,λb hb hfs=>?_,I.stack,I.stkFree,ba⟩
  .have hl':cl.lookup x=some c:=hl
   have hf':(cl.lookup x).isNone=true:=hf
   rw[hl'] at hf'
   cases hf'
  .exact aT (aL (fo b hb) hC)
  .exact (f b hb).2.2.2.2.1 x c (S.sub x c hl)
  .rcases (f b hb).2.2.2.1 with z|z
   .exact I.ok.noex b o e z
   .exact absurd (aL (aH e) (aw I.ok.bsz z)) (e9 _)
  .rcases List.mem_cons.mp (I.stkSub b hfs) with z|z
   .exact (f b hb).2.1 z
   .exact (f b hb).2.2.1 z
 obtain⟨m0,hns⟩:=hns
 obtain⟨nn,hacc⟩:=hacc
 refine⟨ok,⟨rfl,ht⟩,I.bare,Un.laid old hD hfD,⟨m0,hns,λk x v e1 e2 e3=>?_⟩,λx c hl=>?_,?_,λx c hl=>?_,λp hp=>absurd (show p∈([]:List (Addr×Obj)) from hp) (by simp),I.hok.laid old hD ⟨bZ _,[],nn,.nil,hacc⟩,?_⟩
 ·-- the captured names
  have e1:N'[k]?=some x:=e1
  have e2:(srcs.map λo=>o.bind λj=>(σ[j]?).join)[k]?=some (some v):=e2
  rw[aj] at e2
  cases hk:srcs[k]? with
  |none=>rw[hk] at e2;cases e2
  |some o=>
   rw[hk] at e2
   cases o with
   |none=>cases e2
   |some j=>
    have e2':(σ[j]?).join=some v:=aM e2
    have e3':σ[j]?=some (some v):=by
     cases hj:σ[j]? with
     |none=>rw[hj] at e2';cases e2'
     |some y=>rw[hj] at e2';exact congrArg some e2'
    obtain⟨a1,a2,a3⟩:=S.src k j x e1 hk
    obtain⟨m,hn,hl⟩:=I.loc
    obtain⟨u,r,l⟩:=hl j x v a1 e3' (a2.elim (λz=>.inr (.inl z)) λz=>.inr (.inr z))
    refine⟨u,r,.inr ⟨a3,?_⟩⟩
    obtain⟨c,hc⟩:=S.has x a3
    refine⟨c,hc,?_⟩
    rcases l with ⟨z,_⟩|⟨_,c',hc',o,ho,hd⟩
    .have z':X.env.scope.names.lookup x=some .local:=z
     rcases a2 with q|q <;> rw[q] at z' <;> cases z'
    .have e:=S.sub x c hc
     rw[hc'] at e
     cases e
     exact⟨o,old _ o ho,hd⟩
 .obtain⟨v,o,ho,hd⟩:=I.cell x c (S.sub x c hl)
  exact⟨v,o,old _ o ho,hd⟩
 .show upd H D (.lst []) C=none
  rw[Ai hDC]
  exact I.hok.fresh hC
 .have hx:=S.sub x c hl
  obtain⟨v,o,ho,hd⟩:=I.cell x c hx
  rw[Ai (aT (aL (aH ho) hD))]
  exact I.freeC x c hx
 .show (W3 srcs σ).length=N'.length
  unfold W3
  rw[ae,S.len]
noncomputable def B3(X:Cx)(scope:Scope)(cl:List (Str×Addr))(use:Option (Value->Sem Unit))(Q2:Value->aF->Prop)(D C:Addr):Value->aF->Prop:=
 lO (model X.prog X.w) X.A (mG scope cl C X.env) λe s'=>compPost (model X.prog X.w) X.A X.xe use Q2 (.ref D) C (.error e) s'
theorem P3(hc:X.calm=true)(S:Ma X N' srcs scope cl)(hi:PI X tg iter wi)(hb:∀fp C D s2 H2,Inv X ξ σ H2 s2->(∀b∈fp,Eu X ξ H2 b)->s2.heap.objs.size<=C->PG (X.comp N' scope cl fp C s2 H2 (B3 X scope cl use Q2 D C)) tg g/\ac1 (X.comp N' scope cl fp C s2 H2 (B3 X scope cl use Q2 D C)) ifs tc/\PE (X.comp N' scope cl fp C s2 H2 (B3 X scope cl use Q2 D C)) elt te)(I:Inv X ξ σ H s)(h:a21 srcs wi g tc te σ H Q)(fin:∀(D C:Addr)(H':Hp)(s':aF),Inv X ξ σ H' s'->(∃m,s'.heap.Ns C m)->Eu X ξ H' C->Q (.ref D) H'->compPost (model X.prog X.w) X.A X.xe use Q2 (.ref D) C (.ok .next) s')(hs:∀x,e_ iter X.env x=pure x) :
  aW (model X.prog X.w) X.A (comprehension (.ListComp elt [⟨tg,iter,ifs,0⟩] scope pos) scope X.env (firstIterPos [⟨tg,iter,ifs,0⟩] pos) (newList []) false (eval iter X.env) use) Q2 X.xe s:=by
 refine wpAny_comprehension_free rfl hs S.clos S.kind S.names (thn (hi ξ s σ H _ I h) λv s1 h1=>thn h1 λitv s2 h2=>?_)
 obtain⟨it,fp,tn,J,H2,e,I2,T,st2,f2,q2⟩:=h2
 subst e
 refine gE (wpAny_newFunctionEnv S.nocell (by intro y hy;simp at hy) (λh₁ hns₁ hsb₁=>?_) S.kind)
 dsimp only at hns₁ hsb₁ ⊢
 generalize hH2:s2.heap.push { cls:=.type "list", dict:=none,data:=.seq ([]:List Value).toArray }=G2 at hns₁ hsb₁ ⊢
 have hCe:G2.objs.size=s2.heap.objs.size+1:=by rw[<- hH2,cn]
 have hDC:G2.objs.size≠s2.heap.objs.size:=by rw[hCe];exact cE (dz _)
 have hCle:s2.heap.objs.size<=G2.objs.size:=by rw[hCe];exact dQ _
 have old:∀b o,s2.heap.get? b=some o->h₁.get? b=some o:=λb o e=>
  hsb₁.extBut b o (aT (aL (aH e) hCle)) (ah _ (hH2▸ah _ e))
 have hacc:∃n,h₁.get? s2.heap.objs.size=some { cls:=.type "list", data:=.seq ([]:List Value).toArray n }:=⟨_,hsb₁.extBut _ _ (cQ hDC) (ah _ (hH2▸aK _ rfl))⟩
 have fo:∀b∈fp,b<s2.heap.objs.size:=λb hb=>by
  obtain⟨o,ho,_⟩:=T.obj _ _ st2 b hb
  exact aH ho
 have st3:tn 0 h₁:=T.keep _ _ _ st2 λb _ o e=>old b o e
 obtain⟨hg,ht,he⟩:=hb fp G2.objs.size s2.heap.objs.size s2 H2 I2 f2 hCle
 obtain⟨W,⟨m0,w0⟩,turn⟩:=q2 s2.heap.objs.size (I2.hok.fresh (ak _))
 have loop:∀s3:aF,s3={ s2 with heap:=h₁,toks:=s2.toks+([]:List (Str×Value)).length } ->
   gA (model X.prog X.w) X.A (.compLoop (.ListComp elt [⟨tg,iter,ifs,0⟩] scope pos) 0 (.ref it) (.ref s2.heap.objs.size) (mG scope cl G2.objs.size X.env))
    (compPost (model X.prog X.w) X.A X.xe use Q2 (.ref s2.heap.objs.size) G2.objs.size) s3:=by
  rintro s3 rfl
  have I3:Inv (X.comp N' scope cl fp G2.objs.size s2 H2 (B3 X scope cl use Q2 s2.heap.objs.size G2.objs.size)) [] (W3 srcs σ) (upd H2 s2.heap.objs.size (.lst [])) { s2 with heap:=h₁,toks:=s2.toks+([]:List (Str×Value)).length }:=
   W4 S I2 f2 fo (ak _) hCle hDC ⟨_,hns₁⟩ old hacc
  have stat:∀ {H':Hp},(∀b∈fp,H' b=none) -> ∀b∈fp,Eu (X.comp N' scope cl fp G2.objs.size s2 H2 (B3 X scope cl use Q2 s2.heap.objs.size G2.objs.size)) [] H' b:=λhn b hb=>
   ⟨hn b hb,aT (aL (fo b hb) hCle),(λz=>(List.mem_cons.mp (I2.stkSub b z)).elim (f2 b hb).2.1 (f2 b hb).2.2.1),.inl hb,λx c hl=>(f2 b hb).2.2.2.2.1 x c (S.sub x c hl),λp hp=>absurd (show p∈([]:List (Addr×Obj)) from hp) (by simp)⟩
  refine Rw (λn s'=>∃i σ' H',Inv (X.comp N' scope cl fp G2.objs.size s2 H2 (B3 X scope cl use Q2 s2.heap.objs.size G2.objs.size)) [] σ' H' s'/\tn i s'.heap/\(∀b∈fp,H' b=none)/\W i n σ' H') ?_ m0
   ⟨0,_,_,I3,st3,λb hb=>by rw[Ai (aT (fo b hb))];exact (f2 b hb).1,w0⟩
  rintro n s4 ⟨i,σ4,H4,I4,st4,fr4,w4⟩
  rcases turn i n σ4 H4 w4 with ⟨stop,qn⟩|⟨go,NN,hNN,step⟩
  .refine thn (T.done (X.comp N' scope cl fp G2.objs.size s2 H2 (B3 X scope cl use Q2 s2.heap.objs.size G2.objs.size)) rfl rfl rfl hc i [] s4 σ4 H4 _ I4 (stat fr4) st4 stop) λr s5 ⟨hr,I5⟩=>?_
   subst hr
   obtain⟨m5,hn5,_⟩:=id I5.loc
   have I6:Inv X ξ σ H4 s5:=I2.call' (ch:=fp) I5.os I5.base I5.hok I5.bare λb hb=>⟨(f2 b hb).2.2.2.1,(f2 b hb).2.1,(f2 b hb).2.2.2.2.1,(f2 b hb).2.2.2.2.2⟩
   exact fin _ _ H4 s5 I6 ⟨m5,hn5⟩ (I2.fpOk hCle I5.free) qn
  .refine thn (T.item (X.comp N' scope cl fp G2.objs.size s2 H2 (B3 X scope cl use Q2 s2.heap.objs.size G2.objs.size)) rfl rfl rfl hc i [] s4 σ4 H4 _ I4 (stat fr4) st4 go) λr s5 ⟨u,hr,h5⟩=>?_
   subst hr
   refine thn h5 λ_ s6 ⟨x,H6,I6,r6,y6,st6,fr6⟩=>?_
   have I6':=I6.pinned (stat fr6) (T.obj _ _ st6)
   refine thn (hg _ s6 σ4 H6 x u _ I6' r6 (step x H6 y6)) λ_ s7 ⟨σ7,H7,I7,q7⟩=>?_
   have again:∀ {s9:aF} {H9:Hp},Inv (X.comp N' scope cl fp G2.objs.size s2 H2 (B3 X scope cl use Q2 s2.heap.objs.size G2.objs.size)) ([]++J6 fp s6.heap) σ7 H9 s9->NN σ7 H9 ->
     ∃m,m<n/\∃i σ' H',Inv (X.comp N' scope cl fp G2.objs.size s2 H2 (B3 X scope cl use Q2 s2.heap.objs.size G2.objs.size)) [] σ' H' s9/\tn i s9.heap/\(∀b∈fp,H' b=none)/\W i m σ' H':=λ{s9 H9} I9 n9=>by
    obtain⟨m',hm,w9⟩:=hNN σ7 H9 n9
    refine⟨m',hm,i+1,σ7,H9,I9.unpinned,T.keep _ _ _ st6 λb hb o e=>(I9.pin (b,o) (bc _ (bc _ (Fm hb e)))).1,λb hb=>?_,w9⟩
    obtain⟨o,e,d⟩:=T.obj _ _ st6 b hb
    exact (I9.pin (b,o) (bc _ (bc _ (Fm hb e)))).2.1
   refine thn (ht _ s7 σ7 H7 _ I7 q7) λb s8 ⟨H8,I8,q8⟩=>?_
   cases b with
   |false=>
    rw[if_neg av] at q8
    exact again I8 q8
   |true=>
    rw[if_pos rfl] at q8
    refine thn (he _ s8 σ7 H8 _ I8 q8) λy s9 ⟨v9,H9,I9,r9,ys,hD,ϖ,w9⟩=>?_
    refine thn (Qw (X:=X.comp N' scope cl fp G2.objs.size s2 H2 (B3 X scope cl use Q2 s2.heap.objs.size G2.objs.size)) ([]++J6 fp s6.heap) s9 σ7 H9 (.ref s2.heap.objs.size) [v9] (.ref s2.heap.objs.size) [y] (λ_ H'=>H'=upd H9 s2.heap.objs.size (.lst (ys++[v9]))) I9 rfl (.cons r9 .nil)
     ⟨_,ys,v9,rfl,rfl,hD,ϖ,rfl⟩) λ_ s10 ⟨_,H10,I10,_,e10⟩=>?_
    subst e10
    exact again I10 w9
 exact codeAny_compStart_list (loop _ rfl) (T.self X.A 0 _ _ _ st3 (loop _ rfl))
theorem ao8(hc:X.calm=true)(S:Ma X N' srcs scope cl)(hi:PI X tg iter wi)(hb:∀Q2 fp C D s2 H2,Inv X ξ σ H2 s2->(∀b∈fp,Eu X ξ H2 b)->s2.heap.objs.size<=C->PG (X.comp N' scope cl fp C s2 H2 (B3 X scope cl none Q2 D C)) tg g/\ac1 (X.comp N' scope cl fp C s2 H2 (B3 X scope cl none Q2 D C)) ifs tc/\PE (X.comp N' scope cl fp C s2 H2 (B3 X scope cl none Q2 D C)) elt te)(I:Inv X ξ σ H s)(h:a21 srcs wi g tc te σ H Q)(hs:∀x,e_ iter X.env x=pure x) :
  aW (model X.prog X.w) X.A (eval (.ListComp elt [⟨tg,iter,ifs,0⟩] scope pos) X.env) (EP X ξ σ Q) X.xe s:=by
 rw[eval_ListComp]
 refine P3 (use:=none) hc S hi (λfp C D s2 H2=>hb _ fp C D s2 H2) I h (λD C H' s' I' ns fo q=>?_) hs
 obtain⟨m,hn⟩:=ns
 obtain⟨f0,f1,f2,f3,f4,f5⟩:=fo
 exact⟨m,hn,λh' sb=>⟨.ref D,H',I'.turned (t':=s'.toks) (λb o hb e=>(sb.2 b hb).trans e) f0 f1 f3 f4 f5,rfl,q⟩⟩
theorem ao7(hc:X.calm=true)(hN:X.N.Nodup)(hx:X.N[i]?=some x)(hl:X.env.scope.names.lookup x=some .local)(S:Ma X N' srcs scope cl)(hi:PI X tg iter wi)(hb:∀us Q2 fp C D s2 H2,Inv X ξ σ H2 s2->(∀b∈fp,Eu X ξ H2 b)->s2.heap.objs.size<=C->PG (X.comp N' scope cl fp C s2 H2 (B3 X scope cl us Q2 D C)) tg g/\ac1 (X.comp N' scope cl fp C s2 H2 (B3 X scope cl us Q2 D C)) ifs tc/\PE (X.comp N' scope cl fp C s2 H2 (B3 X scope cl us Q2 D C)) elt te)(I:Inv X ξ σ H s)(h:bz6 (a21 srcs wi g tc te) (aq9 i) D σ H)(hsw:jr (.ListComp elt [⟨tg,iter,ifs,0⟩] scope pos) (some (.Name x pos')) spos.line X.env=pure true)(hs:∀x,e_ iter X.env x=pure x) :
  aW (model X.prog X.w) X.A (exec (.Assign [.Name x pos'] (.ListComp elt [⟨tg,iter,ifs,0⟩] scope pos) spos) X.env) (SP X ξ D) X.xe s:=by
 rw[exec_Assign_Name_used _ _ _ _ hsw]
 refine ai (ff (ai ?_))
 show aW _ X.A (do let _ <- comprehension (.ListComp elt [⟨tg,iter,ifs,0⟩] scope pos) scope X.env _ (newList []) false (eval iter X.env) (some (lY (.Name x pos') X.env))) _ _ s
 refine ai (thn (P3 (use:=some (lY (.Name x pos') X.env)) (Q:=λv H'=>D.nx (σ.set i (some v)) H') (Q2:=λ_ s'=>SP X ξ D .next s') hc S hi (λfp C D s2 H2=>hb _ _ fp C D s2 H2) I h (λL C H' s' I' ns fo q=>?_) hs) λ_ s' hq=>aE (aE hq))
 obtain⟨m,hn⟩:=ns
 obtain⟨f0,f1,f2,f3,f4,f5⟩:=fo
 obtain⟨oC,es,ep,hoC,hd,hr⟩:=id hn
 have I2:Inv X (ξ++[(C,oC)]) σ H' s':=I'.pins_of λp hp=>(List.mem_append.mp hp).elim (λz=>I'.pin p (bc _ z)) λz=>by
  have z':p=(C,oC):=by simpa using z
  subst z'
  exact⟨hoC,f0,f1,f2,λv e=>by rw[hd] at e;cases e⟩
 refine wpAny_assign_Name (Jg (i:=i) (v:=.ref L) I2 hN hx (.inl hl) rfl (λs2 I3=>?_) (.inr hl))
 have hoC':=(I3.pin (C,oC) (bc _ (bc _ (by simp)))).1
 refine⟨m,⟨oC,es,ep,hoC',hd,hr⟩,λh' sb=>?_⟩
 exact⟨_,H',(I3.unpinned).turned (t':=s2.toks) (λb o hb e=>(sb.2 b hb).trans e) f0 f1 f3 f4 f5,q⟩
end
def Its(x:Str):It:=⟨λi _=>i<x.cps.size,λi H v H'=>H'=H/\∃c,x.cps[i]?=some c/\v=.str ⟨#[c]⟩,λi _=>i=x.cps.size⟩
theorem a24 {P:bq}{w:cb}{K:ac}{tg:Expr}(it:Addr)(x:Str)(t:Tok)(ty:String)(hty:ty="str_ascii_iterator" \/ ty="str_iterator") :
  Ri P w K tg (Its x) [it] it (λi h=>h.IsStrIter it ty x t i) where
 mem:=by simp
 obj:=λi h st b hb=>by
  have e:b=it:=by simpa using hb
  subst e
  obtain⟨o,e,c,d⟩:=st
  exact⟨o,e,λv z=>by rw[d] at z;cases z⟩
 keep:=λi h h' st k=>by
  obtain⟨o,e,r⟩:=st
  exact⟨o,k it (by simp) o e,r⟩
 item:=by
  intro X hP hw hK hc i ξ s σ H E I hf st hg
  subst hP hw hK
  obtain⟨f0,f1,f2,f3,f4,f5⟩:=hf it (by simp)
  have W:mE X.prog X.w X.A it [it] [it] x.cps.size (SignAt x) (λi h=>h.IsStrIter it ty x t i):=by
   rcases hty with rfl|rfl
   .exact Walks.strAscii (I.ok.hd hc) it x t
   .exact Walks.strWide (I.ok.hd hc) it x t
  refine bD (ak _) (W.item i s _ _ hg st λv h' tk hv st' kk htk=>?_)
  obtain⟨c,u,hcp,rfl⟩:=hv
  have I1:Inv X ξ σ H { s with heap:=h',toks:=tk }:=I.turned (λb o hb e=>kk b o (by simpa using hb) e) f0 f1 f3 f4 f5
  obtain⟨o,e,cc,d⟩:=id st'
  exact⟨_,rfl,Qg (s:={ s with heap:=h',toks:=tk }) e cc d (by rcases hty with rfl|rfl <;> decide) ⟨.str ⟨#[c]⟩,H,I1,⟨_,rfl⟩,⟨rfl,c,hcp,rfl⟩,st',λb hb=>(hf b hb).1⟩⟩
 done:=by
  intro X hP hw hK hc i ξ s σ H E I hf st hg
  subst hP hw hK
  obtain⟨f0,f1,f2,f3,f4,f5⟩:=hf it (by simp)
  have hg:i=x.cps.size:=hg
  subst hg
  have W:mE X.prog X.w X.A it [it] [it] x.cps.size (SignAt x) (λi h=>h.IsStrIter it ty x t i):=by
   rcases hty with rfl|rfl
   .exact Walks.strAscii (I.ok.hd hc) it x t
   .exact Walks.strWide (I.ok.hd hc) it x t
  exact bD (ak _) (W.done s _ _ st λh' tk kk htk=>⟨rfl,I.turned (λb o hb e=>kk b o (by simpa using hb) e) f0 f1 f3 f4 f5⟩)
 self:=by
  intro A i s Q E st h
  rcases hty with rfl|rfl
  .exact wpAny_pyIter_striter_ascii st h
  .exact wpAny_pyIter_striter_wide st h
section
variable {X:Cx} {ξ:List (Addr×Obj)} {σ:St} {H:Hp} {s:aF} {h':Heap} {ch:List Addr} {t':Nat}
theorem Inv.turnedL(I:Inv X ξ σ H s)(hf:∀b∈ch,Eu X ξ H b)(k:∀b o,b∉ch->s.heap.get? b=some o->h'.get? b=some o)(ht:s.toks<=t':=by first|exact ak _|exact aV _ _|assumption|omega|(dsimp only;omega)):Inv X ξ σ H { s with heap:=h',toks:=t' }:=by
 have tr:∀b ob,H b=some ob->b∉ch:=λb ob e hb=>by rw[(hf b hb).1] at e;cases e
 refine I.step (g':=s.gens) (d':=s.drawn) (ch:=ch) (λb hb=>⟨(hf b hb).2.2.2.1,(hf b hb).2.1,(hf b hb).2.2.2.2.1,(hf b hb).2.2.2.2.2⟩) (λb o _ _ hb e _=>k b o hb e) (λb o _ _ hb e _=>⟨o.slots,k b o hb e⟩) (λ_ _ _ _ n=>n) (λb o hb e=>⟨o,k b o hb e⟩)
  (λ_ _ e=>e) (λ_ _ _ e=>e) (λb ps e=>⟨#[],by rw[e];simp⟩) (λm hm=>?_) (λb ob e=>?_) I.bare
 .obtain⟨o,es,ep,ho,r⟩:=hm
  exact⟨o,es,ep,k _ o (λz=>(hf _ z).2.1 rfl) ho,r⟩
 .refine (I.hok b ob e).stay (λb' w' hc' q=>k b' w' ?_ q) (λ_ q=>q) λ_ _ q=>q
  rcases hc' with rfl|hc'
  .exact tr _ _ e
  .exact tr _ _ hc'
theorem Inv.turnedN(I:Inv X ξ σ H s)(hf:∀b∈ch,Eu X ξ H b)(k:∀b o,b∉ch->s.heap.get? b=some o->h'.get? b=some o)(hT:s.heap.objs.size<=T)(new:ObjOk X.prog X.w (upd H T o) h' T o)(ht:s.toks<=t':=by first|exact ak _|exact aV _ _|assumption|omega|(dsimp only;omega)) :
  Inv X ξ σ (upd H T o) { s with heap:=h',toks:=t' }:=by
 have tr:∀b ob,H b=some ob->b∉ch:=λb ob e hb=>by rw[(hf b hb).1] at e;cases e
 have hn:=I.hok.fresh hT
 have nT:∀ {b o},s.heap.get? b=some o->b≠T:=λe=>aT (aL (aH e) hT)
 refine I.step (g':=s.gens) (d':=s.drawn) (ch:=ch) (λb hb=>⟨(hf b hb).2.2.2.1,(hf b hb).2.1,(hf b hb).2.2.2.2.1,(hf b hb).2.2.2.2.2⟩) (λb o _ _ hb e _=>k b o hb e) (λb o _ _ hb e _=>⟨o.slots,k b o hb e⟩) (λb o _ e n=>by rw[Ai (nT e)];exact n) (λb o hb e=>⟨o,k b o hb e⟩)
  (λb zs e=>by rw[Ai (Aj e hn)];exact e) (λb o zs e=>by rw[Ai (Aj e hn)];exact e) (λb ps e=>⟨#[],by rw[Ai (Aj e hn),e];simp⟩) (λm hm=>?_) (λb ob e=>?_) I.bare
 .obtain⟨o,es,ep,ho,r⟩:=hm
  exact⟨o,es,ep,k _ o (λz=>(hf _ z).2.1 rfl) ho,r⟩
 .by_cases hb:b=T
  .subst hb
   rw[Ac] at e
   cases e
   exact new
  .rw[Ai hb] at e
   refine (I.hok b ob e).stay (λb' w' hc' q=>k b' w' ?_ q) (λb' q=>by rw[Ai (Aj q hn)];exact q) λb' zs q=>by rw[Ai (Aj q hn)];exact q
   rcases hc' with rfl|hc'
   .exact tr _ _ e
   .exact tr _ _ hc'
end
theorem ah4 {bs:List Bool}:(aD bs.length).all (λi=>bs.getD i true)=bs.all λb=>b:=by
 rw[bu,aR,aR]
 constructor
 .intro h b hb
  obtain⟨i,hi,e⟩:=List.mem_iff_getElem.mp hb
  have q:=h i (List.mem_range.mpr hi)
  rw[ar,af hi,e] at q
  exact q
 .intro h i hi
  have hi:=List.mem_range.mp hi
  rw[ar,af hi]
  exact h _ (bV hi)
section
theorem ao3(hc:X.calm=true):Cy X (.builtin "all") (λxs H Q=>∃(p:Addr)(bs:List Bool),xs=[.ref p]/\SqL X.K H p (bs.map V.bl)/\Q (.bl (bs.all λb=>b)) H):=by
 intro ξ s σ H xs us Q I r h
 obtain⟨p,bs,rfl,hq,q⟩:=h
 obtain⟨u,rfl,ru⟩:=r.one
 cases ru
 obtain⟨χ,rv,pl,hz⟩:=I.list hq
 have ϖ:=rv.length
 rw[ae] at ϖ
 obtain⟨o,n,e,c,hd,ds⟩:=id pl
 have plt:=aH e
 refine bD (ak _) (call_all_walk (gG pl.isList ?_))
 refine⟨s.heap.objs.size,_,_,_,_,_,(λi=>bs.getD i true),rfl,Walks.list (A:=X.A.in1) (show X.A.in1.handled=none from I.ok.hd hc) s.heap.objs.size p (aT plt) χ.toArray,⟨⟨_,aK _ rfl,rfl,rfl⟩,pl.isList.push _⟩,?_,λh' tk kk htk=>?_⟩
 .intro i v s' Q' E' hv hq'
  have hv:χ[i]?=some v:=by simpa using hv
  have hi:i<bs.length:=by rw[ϖ];exact (List.getElem?_eq_some_iff.mp hv).1
  have e1:(bs.map V.bl)[i]?=some (.bl bs[i]):=by simp[hi]
  obtain⟨u',hu',ru'⟩:=rv.get e1
  rw[hv] at hu'
  cases hu'
  cases ru'
  have e2:bs.getD i true=bs[i]:=by simp[ar,hi]
  have hq':Q' (bs.getD i true) s':=hq'
  rw[e2] at hq'
  exact d8 hq'
 .have e3:(aD χ.toArray.size).all (λi=>bs.getD i true)=bs.all λb=>b:=by
   rw[aB,<- ϖ]
   exact ah4
  rw[e3]
  refine⟨.bl _,H,I.kept (t':=tk) λb o' eb=>kk b o' ?_ (ah _ eb),rfl,q⟩
  have hb:b≠s.heap.objs.size:=aT (aH eb)
  simpa using hb
theorem ao4:Cy X (.builtin "isinstance") (λxs H Q=>∃x T t b,xs=[x,.ty T]/\TyOf X.K H x t/\dU X.K t (.type T)=some b/\Q (.bl b) H):=by
 intro ξ s σ H xs us Q I r h
 obtain⟨x,T,t,b,rfl,ty,e,q⟩:=h
 obtain⟨u,v,rfl,ru,rv⟩:=r.two
 cases rv
 exact bD (ak _) (Qm I ru ty e λtk htk=>⟨.bl b,H,I.tok tk htk,rfl,q⟩)
theorem ag6:OpR X (cV .LtE) (λx y H Q=>∃i j,x=.str i/\y=.str j/\Q (.bl (!decide (j.cps.toList<i.cps.toList))) H):=by
 intro ξ s σ H x y v u Q I rx ry h
 obtain⟨i,j,rfl,rfl,q⟩:=h
 obtain⟨t,rfl⟩:=rx
 obtain⟨t',rfl⟩:=ry
 exact PySem.P.le_str ⟨.bl _,H,I,rfl,q⟩
end
noncomputable def U7(xs ys:List V):Bool:=decide (xs.length=ys.length)&&(aD xs.length).all λj=>eqV (xs.getD j .non) (ys.getD j .non)
theorem Ip(h:xs.length≠ys.length):U7 xs ys=false:=by
 unfold U7
 rw[decide_eq_false h]
 rfl
noncomputable def bz3(K:ac)(neg:Bool):R2:=λx y H Q=>∃a b xs ys,x=.ref a/\y=.ref b/\SqL K H a xs/\SqL K H b ys/\xs.all Bv=true/\ys.all Bv=true/\Q (.bl (if neg then !U7 xs ys else U7 xs ys)) H
section
theorem M1(rx:Vals xs us)(ry:Vals ys ws)(fx:xs.all Bv=true)(fy:ys.all Bv=true)(j:Nat)(h1:j<us.toArray.size)(h2:j<ws.toArray.size) :
  bG A s us.toArray[j] ws.toArray[j] (eqV (xs.getD j .non) (ys.getD j .non)):=by
 have e1:=rx.length
 have e2:=ry.length
 have h1':j<us.length:=by simpa using h1
 have h2':j<ws.length:=by simpa using h2
 have a1:xs[j]?=some (xs[j]'(by omega)):=by simp
 have a2:ys[j]?=some (ys[j]'(by omega)):=by simp
 obtain⟨u,hu,ru⟩:=rx.get a1
 obtain⟨v,hv,rv⟩:=ry.get a2
 have b1:us.toArray[j]=u:=by
  have:us[j]?=some us[j]:=by simp
  rw[this] at hu
  simpa using aM hu
 have b2:ws.toArray[j]=v:=by
  have:ws[j]?=some ws[j]:=by simp
  rw[this] at hv
  simpa using aM hv
 have c1:xs.getD j .non=xs[j]'(by omega):=by rw[ar,a1];rfl
 have c2:ys.getD j .non=ys[j]'(by omega):=by rw[ar,a2];rfl
 rw[b1,b2,c1,c2]
 exact R0 ru rv (List.all_eq_true.mp fx _ (bV _)) (List.all_eq_true.mp fy _ (bV _))
theorem bt4(hu:X.A.units<cLine):OpR X (cV .Eq) (bz3 X.K false):=by
 intro ξ s σ H x y v u Q I rx ry h
 obtain⟨a,b,xs,ys,rfl,rfl,qa,qb,fx,fy,q⟩:=h
 cases rx
 cases ry
 obtain⟨χ,r,pl,hz⟩:=I.list qa
 obtain⟨its2,r2,pl2,hz2⟩:=I.list qb
 have e1:=r.length
 have e2:=r2.length
 by_cases hl:xs.length=ys.length
 .refine SeqAt.eq_listAt (e:=λj=>eqV (xs.getD j .non) (ys.getD j .non)) pl.isList pl2.isList (by simp;omega) hu (λj h1 h2=>M1 r r2 fx fy j h1 h2) ⟨.bl _,H,I,rfl,?_⟩
  have e:U7 xs ys=(aD χ.toArray.size).all λj=>eqV (xs.getD j .non) (ys.getD j .non):=by
   unfold U7
   rw[decide_eq_true hl,aB,<- e1]
   rfl
  rw[<- e]
  exact q
 .refine SeqAt.eq_list_lengthsAt pl.isList pl2.isList (by simp;omega) hu ⟨.bl _,H,I,rfl,?_⟩
  rw[Ip hl] at q
  exact q
theorem bt8(hu:X.A.units<cLine):OpR X (cV .NotEq) (bz3 X.K true):=by
 intro ξ s σ H x y v u Q I rx ry h
 obtain⟨a,b,xs,ys,rfl,rfl,qa,qb,fx,fy,q⟩:=h
 cases rx
 cases ry
 obtain⟨χ,r,pl,hz⟩:=I.list qa
 obtain⟨its2,r2,pl2,hz2⟩:=I.list qb
 have e1:=r.length
 have e2:=r2.length
 by_cases hl:xs.length=ys.length
 .refine SeqAt.RcNeAt.lists (e:=λj=>eqV (xs.getD j .non) (ys.getD j .non)) pl.isList pl2.isList (by simp;omega) hu (λj h1 h2=>M1 r r2 fx fy j h1 h2) _ _ _ _ ⟨.bl _,H,I,rfl,?_⟩
  have e:U7 xs ys=(aD χ.toArray.size).all λj=>eqV (xs.getD j .non) (ys.getD j .non):=by
   unfold U7
   rw[decide_eq_true hl,aB,<- e1]
   rfl
  rw[<- e]
  exact q
 .refine SeqAt.RcNeAt.lists_lengths pl.isList pl2.isList (by simp;omega) hu _ _ _ _ ⟨.bl _,H,I,rfl,?_⟩
  rw[Ip hl] at q
  exact q
end
theorem at7 {cl:List (Str×Addr)}{x:Str}(h:x∈cl.map (·.1)):∃c,cl.lookup x=some c:=by
 induction cl with
 |nil=>simp at h
 |cons p r ih=>
  obtain⟨n,a⟩:=p
  rw[gX]
  cases e:x==n with
  |true=>exact⟨a,rfl⟩
  |false=>
   refine ih ?_
   rcases List.mem_cons.mp h with q|q
   .rw[show x=n from q] at e;simp at e
   .exact q
section
variable {X:Cx} {e:Expr} {te:TE} {lo hi:Option Expr} {tl th:TO} {pos p2:Pos}
theorem Nw:∀ {us:List Value},Vals (ys.map V.str) us->StrsAre us ys:=by
 induction ys with
 |nil=>intro us r;rw[gL] at r;cases r;exact .nil
 |cons y ys ih=>
  intro us r
  rw[aY] at r
  cases r with
  |cons r1 r2=>
   obtain⟨t,e⟩:=r1
   subst e
   exact .cons y t (ih r2)
theorem a94:MtR X "str.join" (λx xs H Q=>∃z p ys,x=.str z/\xs=[.ref p]/\SqL X.K H p (ys.map V.str)/\(ys.map (·.length)).sum+ys.length * z.length<=16777216/\Q (.str (bI z ys)) H):=by
 intro ξ s σ H x xs v us Q I rx rs h
 obtain⟨z,p,ys,rfl,rfl,hq,hz,q⟩:=h
 obtain⟨t,rfl⟩:=rx
 obtain⟨u,rfl,ru⟩:=rs.one
 cases ru
 obtain⟨χ,rv,pl,_⟩:=I.list hq
 exact bD (ak _) (PyProof.Rows.join_list pl.isList (by simpa using Nw rv) hz λt' k htk=>⟨.str _,H,I.tok k htk,⟨_,rfl⟩,q⟩)
end
section
variable {κ:Type} [DecidableEq κ]
def Bp(kvs:List (κ×V))(k:κ):Option V:=(kvs.find? λkv=>decide (kv.1=k)).map (·.2)
noncomputable def Db(kvs:List (κ×V))(k:κ)(v:V):List (κ×V):=
 if (kvs.any λkv=>decide (kv.1=k))=true then kvs.map (λkv=>if kv.1=k then (kv.1,v) else kv) else kvs++[(k,v)]
theorem Ci {p:κ×V}{r:List (κ×V)}{k:κ}(e:p.1=k):Bp (p::r) k=some p.2:=by simp[Bp,bR,e]
theorem Ca {p:κ×V}{r:List (κ×V)}{k:κ}(e:¬ p.1=k):Bp (p::r) k=Bp r k:=by simp[Bp,bR,e]
theorem Gx(k:κ):∀kvs:List (κ×V),(kvs.any λkv=>decide (kv.1=k))=(Bp kvs k).isSome
 |[]=>rfl
 | p::r=>by
  rw[eC]
  by_cases e:p.1=k
  .simp only[Ci e,decide_eq_true e,Bool.true_or,Option.isSome_some]
  .rw[Ca e,decide_eq_false e,ju];exact Gx k r
theorem Wo(k j:κ)(y:V):∀kvs:List (κ×V),Bp (kvs.map λkv=>if kv.1=k then (kv.1,y) else kv) j=(Bp kvs j).map λx=>if j=k then y else x
 |[]=>rfl
 | p::r=>by
  have ih:=Wo k j y r
  rw[aY]
  by_cases h:p.1=k
  .rw[if_pos h]
   by_cases e:p.1=j
   .rw[Ci (p:=(p.1,y)) e,Ci e,iF,if_pos (e.symm.trans h)]
   .rw[Ca (p:=(p.1,y)) e,Ca e,ih]
  .rw[if_neg h]
   by_cases e:p.1=j
   .rw[Ci (p:=p) e,Ci e,iF,if_neg (λz=>h (e.trans z))]
   .rw[Ca (p:=p) e,Ca e,ih]
theorem Re(k j:κ)(y:V):∀kvs:List (κ×V),Bp kvs k=none->Bp (kvs++[(k,y)]) j=if j=k then some y else Bp kvs j
 | [],_=>by
  by_cases e:k=j
  .rw[if_pos e.symm];exact Ci (p:=(k,y)) e
  .rw[if_neg (λz=>e z.symm)];exact Ca (p:=(k,y)) e
 | p::r,hn=>by
  rw[eG]
  have hk:¬ p.1=k:=λz=>by rw[Ci z] at hn;cases hn
  rw[Ca hk] at hn
  have ih:=Re k j y r hn
  by_cases e:p.1=j
  .rw[Ci e,Ci e,if_neg (λz=>hk (e.trans z))]
  .rw[Ca e,Ca e,ih]
theorem a26(kvs:List (κ×V))(k j:κ)(y:V):Bp (Db kvs k y) j=if j=k then some y else Bp kvs j:=by
 unfold Db
 by_cases a:(kvs.any λkv=>decide (kv.1=k))=true
 .rw[if_pos a,Wo]
  rw[Gx] at a
  by_cases e:j=k
  .obtain⟨x,hx⟩:=Option.isSome_iff_exists.mp a
   rw[if_pos e,e,hx,iF,if_pos rfl]
  .rw[if_neg e]
   cases Bp kvs j with
   |none=>rfl
   |some x=>rw[iF,if_neg e]
 .rw[if_neg a]
  refine Re k j y kvs ?_
  rw[Gx] at a
  cases q:Bp kvs k with
  |none=>rfl
  |some x=>rw[q] at a;exact (a rfl).elim
theorem D5(kvs:List (κ×V))(k:κ)(v:V):(Db kvs k v).length<=kvs.length+1:=by
 unfold Db
 split
 .rw[ae];omega
 .rw[aP,aN,j5];omega
theorem Ff {kvs:List (κ×V)}{k:κ}(v:V)(h:Bp kvs k=none):Db kvs k v=kvs++[(k,v)]:=by
 unfold Db
 rw[Gx,h]
 exact if_neg (by decide)
theorem RelO.isSome_eq(r:RelO o u):o.isSome=u.isSome:=by
 cases o with
 | none=>cases u with
  |none=>rfl
  |some _=>exact (show False from r).elim
 | some _=>cases u with
  |none=>exact (show False from r).elim
  |some _=>rfl
theorem KV.val(r:KV kvs vs)(k:κ):RelO (Bp kvs k) (lP vs k):=by
 unfold KV at r
 induction r with
 |nil=>exact ba
 |@cons p q ps qs h t ih=>
  obtain⟨h1,h2⟩:=h
  by_cases e:p.1=k
  .have e':q.1=k:=h1.symm.trans e
   have b:lP (q::qs) k=some q.2:=by simp[lP,bR,e']
   rw[Ci e,b];exact h2
  .have e':¬ q.1=k:=λz=>e (h1.trans z)
   have b:lP (q::qs) k=lP qs k:=by simp[lP,bR,e']
   rw[Ca e,b];exact ih
theorem KV.any(r:KV kvs vs)(k:κ):(kvs.any λkv=>decide (kv.1=k))=vs.any λkv=>decide (kv.1=k):=by
 unfold KV at r
 induction r with
 |nil=>rfl
 |cons h t ih=>rw[eC,eC,ih,h.1]
theorem KV.repl(r:KV kvs vs)(k:κ)(ry:RelV y u) :
  KV (kvs.map λkv=>if kv.1=k then (kv.1,y) else kv) (vs.map λkv=>if kv.1=k then (kv.1,u) else kv):=by
 unfold KV at r ⊢
 induction r with
 |nil=>exact .nil
 |@cons p q ps qs h t ih=>
  rw[aY,aY]
  refine .cons ?_ ih
  obtain⟨h1,h2⟩:=h
  by_cases e:p.1=k
  .rw[if_pos e,if_pos (h1.symm.trans e)];exact⟨h1,ry⟩
  .rw[if_neg e,if_neg (λz=>e (h1.trans z))];exact⟨h1,h2⟩
theorem KV.put(r:KV kvs vs)(k:κ)(ry:RelV y u):KV (Db kvs k y) (stored vs k u):=by
 unfold Db stored
 rw[r.any k]
 by_cases e:(vs.any λkv=>decide (kv.1=k))=true
 .rw[if_pos e,if_pos e];exact r.repl k ry
 .rw[if_neg e,if_neg e];exact Paired.snoc r ⟨rfl,ry⟩
theorem KV.keys {kvs:List (κ×V)}{vs:List (κ×Value)}(r:KV kvs vs):kvs.map (·.1)=vs.map (·.1):=by
 unfold KV at r
 induction r with
 |nil=>rfl
 |cons h t ih=>rw[aY,aY,ih,h.1]
theorem KV.length(r:KV kvs vs):kvs.length=vs.length:=ie r
end
theorem M3(r:RelV (kV k) u):(Bf P w).is k u=true:=by
 cases k with
 |inl i=>obtain⟨t,e⟩:=(show ∃t,u=lC i t from r);subst e;exact Vg P w i t
 |inr x=>obtain⟨t,e⟩:=(show ∃t,u=iI x t from r);subst e;exact Vh P w x t
theorem Qn:∀ {ks:List Key} {us:List Value},Vals (ks.map kV) us->ItemsAre (Bf P w) ks us
 |[],_,r=>by rw[gL] at r;cases r;exact .nil
 | k::ks,_,r=>by
  rw[aY] at r
  cases r with
  |cons h t=>exact .cons (M3 h) (Qn t)
noncomputable abbrev KT(H:Hp):List (List Key×V)->List (List Key×Addr×Value)->Prop:=gr λp q=>p.1=q.1/\H q.2.1=some (.tup (p.1.map kV))/\RelV p.2 q.2.2
theorem KT.val(r:KT H kvs xs)(k:List Key):RelO (Bp kvs k) ((ma xs k).map (·.2)):=by
 induction r with
 |nil=>exact ba
 |@cons p q ps qs h t ih=>
  obtain⟨h1,_,h2⟩:=h
  by_cases e:p.1=k
  .have e':q.1=k:=h1.symm.trans e
   have b:ma (q::qs) k=some q.2:=by simp[ma,bR,e']
   rw[Ci e,b];exact h2
  .have e':¬ q.1=k:=λz=>e (h1.trans z)
   have b:ma (q::qs) k=ma qs k:=by simp[ma,bR,e']
   rw[Ca e,b];exact ih
theorem KT.repl(r:KT H kvs xs)(k:List Key)(ry:RelV y u) :
  KT H (kvs.map λkv=>if kv.1=k then (kv.1,y) else kv) (xs.map (putAt k u)):=by
 induction r with
 |nil=>exact .nil
 |@cons p q ps qs h t ih=>
  rw[aY,aY]
  refine .cons ?_ ih
  obtain⟨h1,h2,h3⟩:=h
  unfold putAt
  by_cases e:p.1=k
  .rw[if_pos e,if_pos (h1.symm.trans e)];exact⟨h1,h2,ry⟩
  .rw[if_neg e,if_neg (λz=>e (h1.trans z))];exact⟨h1,h2,h3⟩
theorem KT.put(r:KT H kvs xs)(k:List Key)(hb:H b=some (.tup (k.map kV)))(ry:RelV y u) :
  KT H (Db kvs k y) (storedH xs k b u):=by
 have e:(kvs.any λkv=>decide (kv.1=k))=(ma xs k).isSome:=by
  rw[Gx,(r.val k).isSome_eq,jh]
 unfold Db storedH
 rw[e]
 by_cases q:(ma xs k).isSome=true
 .rw[if_pos q,if_pos q];exact r.repl k ry
 .rw[if_neg q,if_neg q];exact Paired.snoc r ⟨rfl,hb,ry⟩
theorem KT.keeps(r:KT H kvs xs)(ht:∀b ys,H b=some (.tup ys)->H' b=some (.tup ys)):KT H' kvs xs:=
 Paired.mapP r λ_ _ z=>⟨z.1,ht _ _ z.2.1,z.2.2⟩
section
theorem bj1(ok:HOk P w H h)(e:Rd H a u):ObjOk P w H h a u:=e.ok ok
theorem Hj(ok:HOk P w H h)(e:Rd H a (.dK kvs)):kvs.length<=sizeLine/\(a==dy)=false/\∃vs,KV kvs vs/\h.DictOf (Bf P w) a vs:=
 show ObjOk P w H h a (.dK kvs) from bj1 ok e
theorem ap6(ok:HOk P w H h)(e:H a=some (.dK kvs)):kvs.length<=sizeLine/\(a==dy)=false/\∃vs,KV kvs vs/\h.DictOf (Bf P w) a vs:=Hj ok (.inl e)
theorem Jx(ok:HOk P w H h)(e:H a=some (.tup (ks.map kV))):(km (Bf P w)).is h ks a:=by
 obtain⟨_,χ,r,o,h1,h2,n,h3⟩:=(show ObjOk P w H h a (.tup (ks.map kV)) from ok a _ e)
 exact⟨o,χ.toArray,n,h1,h2,h3,by simpa using Qn r⟩
theorem U6(ok:HOk P w H h)(e:Rd H a (.dT kvs)):kvs.length<=sizeLine/\(a==dy)=false /\
  ∃xs,KT H kvs xs/\h.DictOfH (km (Bf P w)) a xs:=by
 obtain⟨z,y,xs,r,o,es,ep,h1,h2,h3,h4,h5⟩:=(show ObjOk P w H h a (.dT kvs) from bj1 ok e)
 refine⟨z,y,xs,r,o,es,ep,h1,h2,h3,h4,λx hx=>?_,h5⟩
 have all:∀ {l:List (List Key×V)} {m:List (List Key×Addr×Value)},KT H l m -> ∀x∈m,(km (Bf P w)).is h x.1 x.2.1:=by
  intro l m q
  induction q with
  |nil=>intro x hx;exact nomatch hx
  |@cons p q ps qs hq t ih=>
   intro x hx
   rcases List.mem_cons.mp hx with e|hx
   .subst e
    exact Jx ok (by rw[<- hq.1];exact hq.2.1)
   .exact ih x hx
 exact all r x hx
theorem bh3(ok:HOk P w H h)(e:H a=some (.dT kvs)):kvs.length<=sizeLine/\(a==dy)=false /\
  ∃xs,KT H kvs xs/\h.DictOfH (km (Bf P w)) a xs:=U6 ok (.inl e)
end
noncomputable def DGet(H:Hp)(a:Addr)(y:V)(r:Option V):Prop:=
 (∃kvs k,Rd H a (.dK kvs)/\y=kV k/\r=Bp kvs k) \/ ∃kvs k b,Rd H a (.dT kvs)/\y=.ref b/\H b=some (.tup (k.map kV))/\r=Bp kvs k
noncomputable def DPut(H:Hp)(a:Addr)(y v:V)(H':Hp):Prop:=
 (∃kvs k,H a=some (.dK kvs)/\y=kV k/\kvs.length<sizeLine/\H'=upd H a (.dK (Db kvs k v))) \/
 ∃kvs k b,H a=some (.dT kvs)/\y=.ref b/\H b=some (.tup (k.map kV))/\kvs.length<sizeLine/\H'=upd H a (.dT (Db kvs k v))
theorem DGet.k {H:Hp}{a:Addr}{kvs:List (Key×V)}{k:Key}(e:H a=some (.dK kvs)):DGet H a (kV k) (Bp kvs k):=.inl ⟨kvs,k,.inl e,rfl,rfl⟩
theorem DGet.t {H:Hp}{a b:Addr}{kvs:List (List Key×V)}{k:List Key}(e:H a=some (.dT kvs))(eb:H b=some (.tup (k.map kV))):DGet H a (.ref b) (Bp kvs k):=.inr ⟨kvs,k,b,.inl e,rfl,eb,rfl⟩
theorem DPut.k {H:Hp}{a:Addr}{kvs:List (Key×V)}{k:Key}{v:V}(e:H a=some (.dK kvs))(hl:kvs.length<sizeLine):DPut H a (kV k) v (upd H a (.dK (Db kvs k v))):=.inl ⟨kvs,k,e,rfl,hl,rfl⟩
theorem DPut.t {H:Hp}{a b:Addr}{kvs:List (List Key×V)}{k:List Key}{v:V}(e:H a=some (.dT kvs))(eb:H b=some (.tup (k.map kV)))(hl:kvs.length<sizeLine) :
  DPut H a (.ref b) v (upd H a (.dT (Db kvs k v))):=.inr ⟨kvs,k,b,e,rfl,eb,hl,rfl⟩
section
theorem Inv.big(I:Inv X ξ σ H s):dy<s.heap.objs.size:=by
 have h:bA<s.heap.objs.size:=(I.mod.glob.keeps I.bk).lt
 exact Nat.lt_trans (by decide) h
theorem ad6(hu:A.units+1<cLine)(I:Inv X ξ σ H s)(g:DGet H a y (some v))(ry:RelV y u)(h:∀w' s',Inv X ξ σ H s'->RelV v w'->Q w' s') :
  aW (model X.prog X.w) A (getItem (.ref a) u) Q E s:=by
 rcases g with ⟨kvs,k,e,ey,l⟩|⟨kvs,k,b,e,ey,eb,l⟩
 .subst ey
  obtain⟨z,hd,vs,rel,dd⟩:=Hj I.hok e
  obtain⟨w',hw,rw'⟩:=RelO.some_of (v:=v) (o:=lP vs k) (by rw[l];exact rel.val k)
  exact wpAny_getItem_of (M3 ry) dd.mapOf hw (h w' _ (I.tok _) rw')
 .subst ey
  cases (show u=bh b from ry)
  obtain⟨z,hd,xs,rel,dd⟩:=U6 I.hok e
  obtain⟨w',hw,rw'⟩:=RelO.some_of (v:=v) (o:=(ma xs k).map (·.2)) (by rw[l];exact rel.val k)
  obtain⟨p,hp,hp2⟩:=Option.map_eq_some_iff.mp hw
  refine wpAny_getItem_heap (eP hu) (Jx I.hok eb) dd hp ?_
  rw[hp2]
  exact h w' _ (I.tok _) rw'
theorem ce5(hu:A.units+1<cLine)(I:Inv X ξ σ H s)(g:DGet H a y o)(ry:RelV y u)(h:∀s',Inv X ξ σ H s'->Q (.bool o.isSome) s') :
  aW (model X.prog X.w) A (cV .In u (.ref a)) Q E s:=by
 rcases g with ⟨kvs,k,e,ey,l⟩|⟨kvs,k,b,e,ey,eb,l⟩
 .subst ey
  obtain⟨z,hd,vs,rel,dd⟩:=Hj I.hok e
  refine wpAny_in_of (M3 ry) hd dd.mapOf ?_
  rw[<- (rel.val k).isSome_eq,<- l]
  exact h _ (I.tok _)
 .subst ey
  cases (show u=bh b from ry)
  obtain⟨z,hd,xs,rel,dd⟩:=U6 I.hok e
  refine wpAny_in_heap (eP hu) (Jx I.hok eb) hd dd ?_
  have q:=(rel.val k).isSome_eq
  rw[jh] at q
  rw[<- q,<- l]
  exact h _ (I.tok _)
theorem a69(hu:A.units+1<cLine)(I:Inv X ξ σ H s)(g:DGet H a y o)(ry:RelV y u)(h:∀s',Inv X ξ σ H s'->Q (.bool (!o.isSome)) s') :
  aW (model X.prog X.w) A (cV .NotIn u (.ref a)) Q E s:=by
 rcases g with ⟨kvs,k,e,ey,l⟩|⟨kvs,k,b,e,ey,eb,l⟩
 .subst ey
  obtain⟨z,hd,vs,rel,dd⟩:=Hj I.hok e
  refine wpAny_notIn_of (M3 ry) hd dd.mapOf ?_
  rw[<- (rel.val k).isSome_eq,<- l]
  exact h _ (I.tok _)
 .subst ey
  cases (show u=bh b from ry)
  obtain⟨z,hd,xs,rel,dd⟩:=U6 I.hok e
  refine wpAny_notIn_heap (eP hu) (Jx I.hok eb) hd dd ?_
  have q:=(rel.val k).isSome_eq
  rw[jh] at q
  rw[<- q,<- l]
  exact h _ (I.tok _)
theorem Im(I:Inv X ξ σ H s)(mu:Mut (H a))(hs:bE a s.heap h')(he:∃q,h'.get? a=some q)(new:ObjOk X.prog X.w (upd H a ob) h' a ob)(ht:s.toks<=t':=by first|exact ak _|exact aV _ _|assumption|omega|(dsimp only;omega)) :
  Inv X ξ σ (upd H a ob) { s with heap:=h',toks:=t' }:=
 I.write (x:=a) (e:=a) mu (.inl rfl) (λb q hb z=>(hs.2 b hb).trans z) he new
theorem Xa(z:kvs.length<=sizeLine)(hd:(a==dy)=false)(rel:KV kvs vs)(dd:h'.DictOf (Bf P w) a vs) :
  ObjOk P w H' h' a (.dK kvs):=⟨z,hd,vs,rel,dd⟩
theorem ad7(hu:A.units+1<cLine)(I:Inv X ξ σ H s)(g:DPut H a y v H')(ry:RelV y u)(rv:RelV v r)(h:∀s',Inv X ξ σ H' s'->Q () s') :
  aW (model X.prog X.w) A (setItem (.ref a) u r) Q E s:=by
 rcases g with ⟨kvs,k,e,ey,l,eH⟩|⟨kvs,k,b,e,ey,eb,l,eH⟩
 .subst ey eH
  obtain⟨z,hd,vs,rel,dd⟩:=ap6 I.hok e
  have hz:vs.length<=sizeLine:=by rw[<- rel.length];exact z
  have hl:(Db kvs k v).length<=sizeLine:=by have:=D5 kvs k v;omega
  refine wpAny_setItem_pairs (hsz:=hz) (M3 ry) dd λh' dd' hs=>h _ ?_
  have he:∃q,h'.get? a=some q:=let ⟨q,_,_,hq,_⟩:=dd';⟨q,hq⟩
  exact Im I (by rw[e];exact ba) hs he (Xa hl hd (rel.put k rv) dd')
 .subst ey eH
  cases (show u=bh b from ry)
  obtain⟨z,hd,xs,rel,dd⟩:=bh3 I.hok e
  have hz:xs.length<=sizeLine:=by rw[<- ie rel];exact z
  have hl:(Db kvs k v).length<=sizeLine:=by have:=D5 kvs k v;omega
  refine wpAny_setItem_heap (hsz:=hz) (eP hu) (Jx I.hok eb) dd λh' dd' hs=>h _ ?_
  obtain⟨q,es,ep,hq,h2,h3,h4,_,h5⟩:=dd'
  refine Im I (by rw[e];exact ba) hs ⟨q,hq⟩ ⟨hl,hd,_,(rel.put k eb rv).keeps λc ys ec=>?_,q,es,ep,hq,h2,h3,h4,h5⟩
  rw[Ai (bh9 ec e (λz=>nomatch z))]
  exact ec
end
section
theorem b26(I:Inv X ξ σ H s)(e:Rd H a (.dK kvs))(h:∀t s',Inv X ξ σ H s'->Q (.int kvs.length t) s'):aW (model X.prog X.w) A (call (.builtin "len") [.ref a]) Q E s:=by
 obtain⟨z,hd,vs,rel,dd⟩:=Hj I.hok e
 refine call_len_dict hd dd (by rw[<- rel.length];rw[ce] at z;omega) ?_
 rw[<- rel.length]
 exact h _ _ (I.tok _)
end
theorem U4(I:Inv X ξ σ H s)(g:DGet H a y o):s.TypeIs (.ref a) "dict" := by
 rcases g with ⟨kvs,k,e,_,_⟩|⟨kvs,k,b,e,_,_,_⟩
 .obtain⟨_,_,vs,_,dd⟩:=Hj I.hok e
  exact dd.typeIs
 .obtain⟨_,_,xs,_,dd⟩:=U6 I.hok e
  exact dd.typeIs
theorem U5(h:Heap)(hb:dy<h.objs.size):ObjOk P w H (h.push { cls:=.type "dict", data:=.dict #[] }) h.objs.size (.dK []):=
 ⟨bZ _,beq_eq_false_iff_ne.mpr (cQ (aT hb)),[],.nil,Heap.DictOf.new h⟩
theorem ap7(h:Heap)(hb:dy<h.objs.size):ObjOk P w H (h.push { cls:=.type "dict", data:=.dict #[] }) h.objs.size (.dT []):=
 ⟨bZ _,beq_eq_false_iff_ne.mpr (cQ (aT hb)),[],.nil,_,#[],0,aK _ rfl,⟨rfl,rfl,rfl⟩,rfl,rfl,eI⟩
noncomputable def Tq:List (TE×TE)->St->Hp->(List (V×V)->Hp->Prop)->Prop
 |[],_,H,Q=>Q [] H
 |(tk,tv)::r,σ,H,Q=>tk σ H λx H1=>tv σ H1 λy H2=>Tq r σ H2 λps H3=>Q ((x,y)::ps) H3
noncomputable abbrev VV:List (V×V)->List (Value×Value)->Prop:=gr λp q=>RelV p.1 q.1/\RelV p.2 q.2
noncomputable def PPs(X:Cx)(pos:Pos)(keys:List (Option Expr))(values:List Expr)(trs:List (TE×TE)):Prop:=
 ∀(ξ:List (Addr×Obj))(s:aF)(σ:St)(H:Hp)(Q:List (V×V)->Hp->Prop),Inv X ξ σ H s->Tq trs σ H Q ->
  aW (model X.prog X.w) X.A (evalPairs (pairTrees keys values X.env pos)) (λvs s'=>∃ps H',Inv X ξ σ H' s'/\VV ps vs/\Q ps H') X.xe s
theorem bb6:PPs X pos [] [] []:=λξ s σ H Q I h=>pairTrees_nil_walk ⟨[],H,I,.nil,h⟩
theorem aw1(hk:PE X k tk)(hv:PE X v tv)(hr:PPs X pos ks vs trs) :
  PPs X pos (some k::ks) (v::vs) ((tk,tv)::trs):=λξ s σ H Q I h=>
 pairTrees_cons_walk (thn (hk ξ s σ H _ I h) λu s1 ⟨x,H1,I1,rx,q1⟩=>thn (hv ξ s1 σ H1 _ I1 q1) λw2 s2 ⟨y,H2,I2,ry,q2⟩=>
  thn (hr ξ s2 σ H2 _ I2 q2) λws s3 ⟨ps,H3,I3,rel,q3⟩=>⟨(x,y)::ps,H3,I3,.cons ⟨rx,ry⟩ rel,q3⟩)
noncomputable def Em(kvs more:List (Key×V)):List (Key×V):=more.foldl (λacc kv=>Db acc kv.1 kv.2) kvs
theorem KV.merge:∀ {more:List (Key×V)} {rs:List (Key×Value)} {kvs:List (Key×V)} {vs:List (Key×Value)},KV more rs->KV kvs vs->KV (Em kvs more) (merged vs rs):=by
 intro more rs kvs vs r
 unfold KV at r
 induction r generalizing kvs vs with
 |nil=>intro q;exact q
 |@cons p q ps qs h t ih=>
  intro r0
  have e:KV (Db kvs p.1 p.2) (stored vs q.1 q.2):=by
   have:=r0.put p.1 h.2
   rw[<- h.1];exact this
  exact ih e
theorem Hl:∀(more kvs:List (Key×V)),(Em kvs more).length<=kvs.length+more.length
 |[],kvs=>by show kvs.length<=kvs.length+0;omega
 | p::r,kvs=>by
  have h1:=Hl r (Db kvs p.1 p.2)
  have h2:=D5 kvs p.1 p.2
  show (Em (Db kvs p.1 p.2) r).length<=_
  rw[aN];omega
theorem Ml:∀ {kvs:List (Key×V)} {ws:List (Value×Value)},VV (kvs.map λkv=>(kV kv.1,kv.2)) ws -> ∃rs,Carries (Bf P w) ws rs/\KV kvs rs
 |[],_,r=>by rw[gL] at r;cases r;exact⟨[],ba,.nil⟩
 | p::kvs,_,r=>by
  rw[aY] at r
  cases r with
  |@cons a b as bs h t=>
   obtain⟨rs,c,q⟩:=Ml (P:=P) (w:=w) t
   obtain⟨b1,b2⟩:=b
   exact⟨(p.1,b2)::rs,⟨M3 h.1,rfl,c⟩,.cons ⟨rfl,h.2⟩ q⟩
noncomputable def ca1(trs:List (TE×TE)):TE:=λσ H Q=>∀p,H p=none->Tq trs σ (upd H p (.dK [])) λps H2=>H2 p=some (.dK [])/\∃kvs:List (Key×V),ps=kvs.map (λkv=>(kV kv.1,kv.2))/\kvs.length<=15/\Q (.ref p) (upd H2 p (.dK (Em [] kvs)))
theorem bb2(h:PPs X pos keys values trs)(hall:keys.all (·.isSome)=true)(hl:keys.length=values.length)(h0:keys≠[])(h15:keys.length<=15):PE X (.Dict keys values pos) (ca1 trs):=by
 intro ξ s σ H Q I q
 have hn:=I.hok.fresh (ak s.heap.objs.size)
 have I1:=I.laid (a:=s.heap.objs.size) (o:=.dK []) (h':=s.heap.push { cls:=.type "dict", data:=.dict #[] }) (t':=s.toks) (λ_ _ q=>ah _ q) (ak _) (U5 s.heap I.big)
 refine wpAny_Dict_walk (knd:=Bf X.prog X.w) hall hl h0 h15 (thn (h ξ _ σ _ _ I1 (q _ hn)) λws s2 ⟨ps,H2,I2,rel,e,kvs,ep,lk,q2⟩=>?_)
 subst ep
 obtain⟨rs,c,rk⟩:=Ml (P:=X.prog) (w:=X.w) rel
 obtain⟨z,hd,vs0,r0,dd⟩:=ap6 I2.hok e
 cases r0
 refine⟨rs,c,dd,λh' dd' hs=>⟨.ref s.heap.objs.size,_,?_,rfl,q2⟩⟩
 have hz:(Em [] kvs).length<=sizeLine:=by
  have h1:=Hl kvs []
  rw[j5] at h1
  rw[ce];omega
 have he:∃q,h'.get? s.heap.objs.size=some q:=let ⟨q,_,_,hq,_⟩:=dd';⟨q,hq⟩
 exact Im I2 (by rw[e];exact ba) hs he (Xa hz hd (rk.merge .nil) dd')
abbrev EK:=Addr->Hp->Prop
abbrev DE:=St->Hp->VK->EK->Prop
abbrev DT:=St->Hp->(Bool->Hp->Prop)->EK->Prop
abbrev DA:=St->Hp->(List V->Hp->Prop)->EK->Prop
structure Outs where
 nx:St->Hp->Prop
 rt:VK
 bk:St->Hp->Prop
 ct:St->Hp->Prop
 ex:St->EK
abbrev DS:=Outs->St->Hp->Prop
abbrev Bd(C:Addr)(dx:Option Addr)(vs:Array Value):Obj:={ cls:=.ref C,dict:=dx,data:=.fields vs }
def R5(a C:Addr)(dx:Option Addr):HO:=.ext λh=>∃vs:Array Value,h.get? a=some (Bd C dx vs)/\vs.size=6/\vs[1]?=some .none/\vs[2]?=some .none
def flO(a C:Addr)(dx:Option Addr):HO:=.ext λh=>∃vs:Array Value,h.get? a=some (Bd C dx vs)/\vs.size=6/\vs[2]?=some .none
def fcO(a C:Addr)(dx:Option Addr):HO:=.ext λh=>∃vs:Array Value,h.get? a=some (Bd C dx vs)/\vs.size=6
def FlO(H:Hp)(a C:Addr)(dx:Option Addr):Prop:=H a=some (flO a C dx)\/H a=some (fcO a C dx)
noncomputable def xdO(dx:Addr)(fs:List (Str×V)):HO:=.ext λh=>fs.length<=1000/\∃mA,h.Ns1 dx mA/\(∀f,RelO (fs.lookup f) (mA f))/\gR mA (fs.map (·.1))
noncomputable def Ic(X:Cx)(ξ:List (Addr×Obj))(H:Hp)(a:Addr)(s:aF):Prop:=
 ∃(C:Addr)(dx:Option Addr)(vs:Array Value),FlO H a C dx/\s.heap.get? a=some (Bd C dx vs)/\vs.size=6 /\
  (vs[1]?=some .none \/ ∃(T:Addr)(oT:Obj)(ts:Array Value),vs[1]?=some (.ref T)/\T≠a/\s.heap.get? T=some oT/\oT.data=.fields ts/\(∃z,ts[3]?=some z)/\Eu X ξ H T)
noncomputable def Meets(X:Cx)(Ex:St->EK):Prop:=
 ∀(ξ:List (Addr×Obj))(σ:St)(H:Hp)(s:aF)(a:Addr),Inv X ξ σ H s->Ic X ξ H a s->Ex σ a H->X.xe (.ref a) s
noncomputable def QE(X:Cx)(e:Expr)(t:DE):Prop:=∀Ex,Meets X Ex->PE X e (λσ H Q=>t σ H Q (Ex σ))
noncomputable def QT(X:Cx)(e:Expr)(t:DT):Prop:=∀Ex,Meets X Ex->PT X e (λσ H Q=>t σ H Q (Ex σ))
noncomputable def QW(X:Cx)(e:Expr)(t:DT):Prop:=∀Ex,Meets X Ex->PW X e (λσ H Q=>t σ H Q (Ex σ))
noncomputable def QA(X:Cx)(es:List Expr)(t:DA):Prop:=∀Ex,Meets X Ex->PA X es (λσ H Q=>t σ H Q (Ex σ))
def ba7(Ex:St->EK)(D:am7):Outs:=⟨D.nx,D.rt,D.bk,D.ct,Ex⟩
noncomputable def QS(X:Cx)(st:Stmt)(t:DS):Prop:=∀Ex,Meets X Ex->PS X st (λD σ H=>t (ba7 Ex D) σ H)
noncomputable def QSs(X:Cx)(st:List Stmt)(t:DS):Prop:=∀Ex,Meets X Ex->PSs X st (λD σ H=>t (ba7 Ex D) σ H)
noncomputable def dNo:DE:=λ_ _ _ _=>False
noncomputable def Aa(i:Nat):DE:=λσ H Q _=>match σ[i]? with
 |some (some v)=>Q v H
 |_=>False
noncomputable def dC(v:V):DE:=λ_ H Q _=>Q v H
noncomputable def Ad(r:R2)(a b:DE):DE:=λσ H Q E=>a σ H (λx H1=>b σ H1 (λy H2=>r x y H2 Q) E) E
noncomputable def dUn(r:V->Hp->VK->Prop)(a:DE):DE:=λσ H Q E=>a σ H (λx H1=>r x H1 Q) E
noncomputable def Ej(r r':R2)(a b c:DE):DE:=λσ H Q E=>a σ H (λx H1=>b σ H1 (λy H2=>r x y H2 λz H3=>match z with
 |.bl k=>if k=true then c σ H3 (λw H4=>r' y w H4 Q) E else Q (.bl false) H3
 |_=>False) E) E
noncomputable def Os(a b:DT):DT:=λσ H Q E=>a σ H (λk H1=>if k=true then b σ H1 Q E else Q false H1) E
noncomputable def dOr(a b:DT):DT:=λσ H Q E=>a σ H (λk H1=>if k=true then Q true H1 else b σ H1 Q E) E
noncomputable def Ed(a:DT):DT:=λσ H Q E=>a σ H (λk H1=>Q (!k) H1) E
noncomputable def b24(t:DT)(a b:DE):DE:=λσ H Q E=>t σ H (λk H1=>if k=true then a σ H1 Q E else b σ H1 Q E) E
noncomputable def a23(K:ac)(x:V)(H:Hp)(Q:Bool->Hp->Prop):Prop:=match x with
 |.bl k=>Q k H
 |.non=>Q false H
 |.int i=>Q (i != 0) H
 |.str y=>y.length<=sizeLine/\Q ((y.length:Int) != 0) H
 |.ref p=>∃k,b19 K (.ref p) H k/\Q k H
 |_=>False
noncomputable def Ku(K:ac)(a b:DE):DE:=λσ H Q E=>a σ H (λx H1=>a23 K x H1 λk H2=>if k=true then b σ H2 Q E else Q x H2) E
noncomputable def b25(K:ac)(a b:DE):DE:=λσ H Q E=>a σ H (λx H1=>a23 K x H1 λk H2=>if k=true then Q x H2 else b σ H2 Q E) E
noncomputable def ap1(K:ac)(a:DE):DE:=λσ H Q E=>a σ H (λx H1=>a23 K x H1 λk H2=>Q (.bl (!k)) H2) E
noncomputable def Ee(K:ac)(a:DE):DT:=λσ H Q E=>a σ H (λx H1=>a23 K x H1 Q) E
noncomputable def Au(a:DE):DT:=λσ H Q E=>a σ H (λx H1=>match x with
 |.bl k=>Q k H1
 |_=>False) E
noncomputable def Ah:DA:=λ_ H Q _=>Q [] H
noncomputable def Ab(a:DE)(r:DA):DA:=λσ H Q E=>a σ H (λx H1=>r σ H1 (λxs H2=>Q (x::xs) H2) E) E
noncomputable def Gc(t:DA):DE:=λσ H Q E=>t σ H (λxs H1=>xs.length<=sizeLine/\∀p,H1 p=none->Q (.ref p) (upd H1 p (.tup xs))) E
noncomputable def Cp(t:DA):DE:=λσ H Q E=>t σ H (λxs H1=>xs.length<=sizeLine/\∀p,H1 p=none->Q (.ref p) (upd H1 p (.lst xs))) E
noncomputable def dFn(r:List V->Hp->VK->EK->Prop)(t:DA):DE:=λσ H Q E=>t σ H (λvs H1=>r vs H1 Q E) E
noncomputable def dMt(r:V->Hp->(Hp->(List V->Hp->Prop)->Prop)->VK->Prop)(o:DE)(t:DA):DE:=λσ H Q E=>o σ H (λx H1=>r x H1 (λH2 R=>t σ H2 R E) Q) E
noncomputable def Af:DS:=λD σ H=>D.nx σ H
noncomputable def De:DS:=λ_ _ _=>False
def Outs.thn(D:Outs)(f:St->Hp->Prop):Outs:={ D with nx:=f }
def Outs.lp(D:Outs)(P:St->Hp->Prop):Outs:={ D with nx:=P,ct:=P,bk:=D.nx }
noncomputable def Ag(t u:DS):DS:=λD σ H=>t (D.thn (u D)) σ H
noncomputable def Ap(e:DE):DS:=λD σ H=>e σ H D.rt (D.ex σ)
noncomputable def ap2:DS:=λD _ H=>D.rt .non H
noncomputable def Do(e:DE):DS:=λD σ H=>e σ H (λ_ H1=>D.nx σ H1) (D.ex σ)
noncomputable def dIf(c:DT)(t u:DS):DS:=λD σ H=>c σ H (λb H1=>if b=true then t D σ H1 else u D σ H1) (D.ex σ)
noncomputable def b22:DS:=λD σ H=>D.bk σ H
noncomputable def b23:DS:=λD σ H=>D.ct σ H
noncomputable def Ao(i:Nat)(e:DE):DS:=λD σ H=>e σ H (λv H1=>D.nx (σ.set i (some v)) H1) (D.ex σ)
abbrev DG:=TG
noncomputable def Lc(e:DE)(g:DG):DS:=λD σ H=>e σ H (λv H1=>g v σ H1 D.nx) (D.ex σ)
abbrev DI:=St->Hp->(It->Hp->Prop)->EK->Prop
noncomputable def Mb(J:It)(g:DG)(tb:DS)(D:Outs)(σ:St)(H:Hp):Prop:=∃W:Nat->Nat->St->Hp->Prop,(∃m,W 0 m σ H)/\∀i m σ H,W i m σ H ->
 (J.stop i H/\D.nx σ H)\/(J.go i H/\∃N:St->Hp->Prop,(∀ σ' H',N σ' H' -> ∃m',m'<m/\W (i+1) m' σ' H')/\∀x H',J.yld i H x H'->g x σ H' (λσ2 H2=>tb (D.lp N) σ2 H2))
def Thaw(H0 H:Hp)(P:Hp->Prop):Prop:=P H \/ ∃p o kvs,H0 p=some (.dK kvs)/\H p=some (.frz o (.dK kvs))/\P (upd H p (.dK kvs))
def Outs.thw(D:Outs)(H:Hp):Outs:={ D with nx:=λσ' H'=>Thaw H H' (D.nx σ') }
noncomputable def Ck(wi:DI)(g:DG)(tb:DS):DS:=λD σ H=>wi σ H (λJ H1=>Mb J g tb (D.thw H) σ H1) (D.ex σ)
noncomputable def Fa(J:It)(g:DG)(tc:DT)(te:DE)(D:Addr)(R:Hp->Prop)(σ:St)(H:Hp)(E:EK):Prop:=
 ∃W:Nat->Nat->St->Hp->Prop,(∃m,W 0 m σ H)/\∀i m σ' H',W i m σ' H' ->
  (J.stop i H'/\R H')\/(J.go i H'/\∃N:St->Hp->Prop,(∀ σ2 H2,N σ2 H2 -> ∃m',m'<m/\W (i+1) m' σ2 H2)/\∀x H2,J.yld i H' x H2->g x σ' H2 (λσ3 H3=>tc σ3 H3 (λb H4=>if b=true then
    te σ3 H4 (λv H5=>∃ys,H5 D=some (.lst ys)/\ys.length<sizeLine/\N σ3 (upd H5 D (.lst (ys++[v])))) E
   else N σ3 H4) E))
noncomputable def Bj(srcs:List (Option Nat))(wi:DI)(g:DG)(tc:DT)(te:DE):DE:=λσ H Q E=>wi σ H (λJ H1=>∀D,H1 D=none->Fa J g tc te D (λH'=>Q (.ref D) H') (W3 srcs σ) (upd H1 D (.lst [])) E) E
noncomputable def Bt:DT:=λ_ H Q _=>Q true H
noncomputable def gdN(i:Nat):DG:=λv σ H Q=>Q (σ.set i (some v)) H
open PySem.W
section
variable {prog:bq} {w:cb} {A:cj} {E:Value->aF->Prop} {s:aF} {K:ac} {x C:Addr} {ox:Obj} {od:Option Obj} {name:Str} {expr:Bool} {Q:Value->aF->Prop}
theorem an4(self:Value):bindSpecial (.builtin "BaseException.__getattribute__") self=pure (.builtin "BaseException.__getattribute__", [self]):=by
 have hop:withoutEnding? "BaseException.__getattribute__" "#opaque"=none:=by decide +kernel
 have hdat:withoutEnding? "BaseException.__getattribute__" "#data"=none:=by decide +kernel
 have hk:builtinKind "BaseException.__getattribute__"=some .slot:=by decide +kernel
 simp only[bindSpecial,typeOf,builtinType,hop,hdat,hk];rfl
end
open Builtin Builtin.ObjectAttr
noncomputable def Br:List Value->Bool
 |[.type a,.type b,.type c,.type d]=>a == "ValueError" && b == "Exception" && c == "BaseException" && d == "object"
 |.ref _::r=>Br r
 |_=>false
def valTail:List Value:=[.type "ValueError", .type "Exception", .type "BaseException", .type "object"]
theorem Fk:∀ {l:List Value},Br l=true -> ∃rs:List Addr,l=rs.map bh++valTail
 | [.type a,.type b,.type c,.type d],e=>by
  have e:(a == "ValueError" && b == "Exception" && c == "BaseException" && d == "object")=true:=e
  simp only[ay,beq_iff_eq] at e
  obtain⟨⟨⟨rfl,rfl⟩,rfl⟩,rfl⟩:=e
  exact⟨[],rfl⟩
 | .ref a::r,e=>by
  have e:Br r=true:=by cases r <;> first|exact e|cases e
  obtain⟨rs,h⟩:=Fk e
  exact⟨a::rs,by rw[h];rfl⟩
theorem a22(rs:List Addr)(h:valTail.contains (.type T)=true):(rs.map bh++valTail).contains (.type T)=true:=by
 induction rs with
 |nil=>exact h
 |cons a r ih=>rw[aY,eG,bX,ih,fH]
end L2
namespace L2
open PySem PySem.Spec PySem.W Builtin Builtin.ObjectAttr
open Sem (wp)
structure ECls (K:ac) (C:Addr):Prop where
 obj:∃nm q N bs bm hdct sn sub ab col dd k0 k1 k2 k3 k5,K.lookup C=some (gB nm q C N bs bm hdct sn sub ab col dd k0 k1 k2 k3 k5 "ValueError.__new__")/\Br bm=true/\hdct=true
 sa:findIn K (.ref C) "__setattr__"=some (some (.builtin "object.__setattr__"))
 ga:findIn K (.ref C) "__getattribute__"=some (some (.builtin "BaseException.__getattribute__"))
 gt:findIn K (.ref C) "__getattr__"=some none
 ca:findIn K (.ref C) "__class__"=some (some (.builtin "object.__class__"))
 hn:specialIn K (.builtin "object.__class__") "__get__"=some (some (.builtin "getset_descriptor.__get__"))
 htk:takesIn K (.builtin "object.__class__")=some true
theorem Cq(h:Br bm=true)(hb:valTail.contains (.type T)=b):bm.contains (.type T)=b:=by
 obtain⟨rs,rfl⟩:=Fk h
 induction rs with
 |nil=>exact hb
 |cons a r ih=>
  have h':Br (r.map bh++valTail)=true:=by
   cases r <;> exact h
  rw[aY,eG,bX,ih h']
  rfl
section
variable {M:Model} {A:cj} {E:Value->aF->Prop} {h:Heap} {g:Array k8} {d:Drawn} {t:Nat} {os:OsState}
variable {nm q:Str} {C N:Addr} {bs bm:List Value} {hdct:Bool} {sn:List Str} {sub:List Value} {ab:Bool} {col:Option Bool} {dd:Option Addr} {k0 k1 k2 k3 k5:Option Value}
theorem Jo(T:Br bm=true){rest:List Value}{Q:Unit->aF->Prop}(hC:h.get? C=some (gB nm q C N bs bm hdct sn sub ab col dd k0 k1 k2 k3 k5 "ValueError.__new__"))(hq:Q () ⟨h,g,d,t,os⟩):aW M A (gZ "ValueError.__new__" ⟨.ref C::rest,[]⟩) Q E ⟨h,g,d,t,os⟩:=by
 have F:=fh
 have hcont:(bh C::bm).contains (.type "ValueError")=true:=by rw[bX,Cq T (show valTail.contains (.type "ValueError")=true by decide +kernel),fH]
 have hstar:=F.noStar
 simp only[gZ,F.newKind,F.newSplit,F.newRow]
 repeat (first|refine cy hC ?_|(refine c9 hC ?_;rw[hcont])|refine wpAny_staticBase_exc hC ?_|refine wpAny_madeBy_exc hC ?_|simp only[bne_self_eq_false,ck,if_false] | wp_step)
 exact hq
end
section
variable {prog:bq} {w:cb} {A:cj} {R:mz->aF->Prop} {h:Heap} {g:Array k8} {d:Drawn} {t:Nat} {os:OsState}
variable {nm q:Str} {C N:Addr} {bs bm:List Value} {hdct:Bool} {sn:List Str} {sub:List Value} {ab:Bool} {col:Option Bool} {dd:Option Addr} {k0 k1 k2 k3 k5:Option Value}
theorem Il(T:Br bm=true){rest:List Value}(hC:h.get? C=some (gB nm q C N bs bm hdct sn sub ab col dd k0 k1 k2 k3 k5 "ValueError.__new__"))(hq:R (.ok (.ret (.ref (h.objs.size+1)))) ⟨(h.push { cls:=.type "tuple", data:=.seq rest.toArray }).push
   {cls:=.ref C,data:=.fields #[.ref h.objs.size,.none,.none,.none,.bool false,.none] },g,d,t,os⟩)(hrest:rest.length<=sizeLine) :
  gA (model prog w) A (.builtin "ValueError.__new__" ⟨.ref C::rest,[]⟩) R ⟨h,g,d,t,os⟩:=by
 have F:=fh
 have hends:=F.ends
 have hcB:(bh C::bm).contains (.type "ValueError")=true:=by rw[bX,Cq T (show valTail.contains (.type "ValueError")=true by decide +kernel),fH]
 have hcA:(bh C::bm).contains (.type "AttributeError")=false:=by rw[bX,Cq T (show valTail.contains (.type "AttributeError")=false by decide +kernel)];rfl
 have hcN:(bh C::bm).contains (.type "NameError")=false:=by rw[bX,Cq T (show valTail.contains (.type "NameError")=false by decide +kernel)];rfl
 refine codeAny_builtinAt F.entry ?_
 unfold az.«BaseException.__new__»
 refine wpAt_bind ?_
 show wpAt _ _ _ (stack >>= _) _ _ _
 refine wpAt_bind (wpAt_stack λp below=>wpAt_of_wpAny ?_)
 wp_walk
 refine wpAt_of_wpAny ?_
 rw[F.owner]
 repeat (first|with_reducible refine wpAny_madeHere_exc F.canon hC ?_|with_reducible refine cy hC ?_|(with_reducible refine c9 hC ?_;first|rw[hcB] | rw[hcA] | rw[hcN])|wp_step)
 show R _ _
 rw[cn]
 exact hq
end
end L2
namespace L2
open PySem PySem.Spec PySem.W Builtin Builtin.ObjectAttr
open Sem (wp)
section
variable {prog:bq} {w:cb} {A:cj} {E:Value->aF->Prop} {h:Heap} {g:Array k8} {d:Drawn} {t:Nat} {os:OsState}
variable {nm q:Str} {C N f:Addr} {bs bm:List Value} {hdct:Bool} {sn:List Str} {sub:List Value} {ab:Bool} {col:Option Bool} {dd:Option Addr} {k0 k1 k2 k3 k5:Option Value}
noncomputable abbrev Lp(h:Heap)(C:Addr)(rest:List Value):Heap:=(h.push { cls:=.type "tuple", data:=.seq rest.toArray }).push { cls:=.ref C,data:=.fields #[.ref h.objs.size,.none,.none,.none,.bool false,.none] }
theorem Ia(T:Br bm=true){rest:List Value}{Q:Fin->aF->Prop}(hC:h.get? C=some (gB nm q C N bs bm hdct sn sub ab col dd k0 k1 k2 k3 k5 "ValueError.__new__"))(hi:Looks (model prog w) h (iq (.ref C) "__init__") (some (.builtin "ValueError.__init__")))(hq:∀h' e,Heap.MadeExcOf h h' e (.ref C) rest->e=h.objs.size+1->Q (.done (.ret (.ref e))) ⟨h',g,d,t,os⟩)(hrest:rest.length<=sizeLine) :
  aW (model prog w) A (az.«type.__call__» ⟨.ref C::rest,[]⟩) Q E ⟨h,g,d,t,os⟩:=by
 have F:=fh
 repeat (first|with_reducible refine cy hC ?_|with_reducible refine wpAny_madeBy_exc hC ?_|wp_step)
 refine codeAny_call_builtin_code (fR _ F.quiet) (Jo T hC ?_)
 refine Il T hC ?_ hrest
 show aW _ _ _ _ _ _
 have kp:∀b o,h.get? b=some o->(Lp h C rest).get? b=some o:=λb o e=>ah _ (ah _ e)
 have hC₁:=kp _ _ hC
 have hget:(Lp h C rest).get? (h.objs.size+1)=some { cls:=.ref C,data:=.fields #[.ref h.objs.size,.none,.none,.none,.bool false,.none] }:=by heap_get
 have hcC:(bh C::bm).contains (.ref C)=true:=by simp
 have hcB:(bh C::bm).contains (.type "ValueError")=true:=by rw[bX,Cq T (show valTail.contains (.type "ValueError")=true by decide +kernel),fH]
 unfold isInstance
 repeat (first|with_reducible refine cy hget ?_|(with_reducible refine c9 hC₁ ?_;rw[hcC])|wp_step)
 show aW _ _ (iq (.ref C) _) _ _ _
 refine (hi.keeps kp).at ?_
 refine bJ (ai (wpAny_of_eq (F.init.bind _) ?_))
 have chk:∀ {Q':Unit->aF->Prop} {E':Value->aF->Prop} {A':cj},Q' () ⟨Lp h C rest,g,d,t,os⟩->aW (model prog w) A' (gZ "ValueError.__init__" ⟨.ref (h.objs.size+1)::rest,[]⟩) Q' E' ⟨Lp h C rest,g,d,t,os⟩:=λ{Q' E' A'} hq'=>by
  have hshort:=F.noStar
  simp only[gZ,F.initKind,F.initSplit,F.initRow]
  repeat (first|with_reducible refine cy hget ?_|with_reducible refine cy hC₁ ?_|(with_reducible refine c9 hC₁ ?_;rw[hcB])|wp_step)
  refine lH ?_
  rw[show ∀(a b:String)(n:Nat),Bind.check ⟨.positional, "*", "ValueError", .self,[⟨"args", .varPos,false⟩]⟩ a b n (fw (λx=>x.fst) ({ pos:=bh (h.objs.size+1)::rest }:Args).kw)=pure () from
   λa b n=>check_star_args _ _ _ _ _ _]
  exact aE hq'
 refine ai (ir (hX F.init.plain F.initEntry (chk ?_)))
 wp_walk
 refine hq _ _ ⟨λb o hb=>?_,g7 (dQ _),h.objs.size+2,?_,g7 (by omega),?_⟩ rfl
 .rw[bK _ _ (cE (d7 (aH hb)))]
  exact ah _ (ah _ (ah _ hb))
 .rw[cr _ (ah _ hget) rfl]
  simp only[cn]
  rfl
 .rw[bK _ _ (show h.objs.size+1≠h.objs.size+2 by omega)]
  exact Heap.get?_push_at (by simp only[cn]) rfl
theorem af7(T:Br bm=true){rest:List Value}{R:mz->aF->Prop}(hC:h.get? C=some (gB nm q C N bs bm hdct sn sub ab col dd k0 k1 k2 k3 k5 "ValueError.__new__"))(hi:Looks (model prog w) h (iq (.ref C) "__init__") (some (.builtin "ValueError.__init__")))(hq:∀h' e,Heap.MadeExcOf h h' e (.ref C) rest->e=h.objs.size+1->R (.ok (.ret (.ref e))) ⟨h',g,d,t,os⟩)(hrest:rest.length<=sizeLine) :
  gA (model prog w) A (.call (.ref C) ⟨rest,[]⟩) R ⟨h,g,d,t,os⟩:=by
 have f1:=tc_lookup
 have f2:=tc_bind (.ref C)
 have hT:(⟨h,g,d,t,os⟩:aF).TypeIs (.ref C) "type" := ⟨_,hC,rfl⟩
 refine codeAny_of_tree ?_
 show aW _ _ (callAny (.ref C) _) _ _ _
 repeat (any_goals (first|assumption|with_reducible refine cy hC ?_|wp_step))
 refine⟨rfl,?_⟩
 exact codeAny_call_builtin_at (fR _ (by decide +kernel)) entry_typeCall (wpAny_check_type_call_sub hC (Ia T hC hi hq hrest))
end
end L2
namespace L2
open PySem PySem.Spec PySem.W PyProof.Rows
theorem ECls.cls {K:ac}{C:Addr}(c:ECls K C):∃cd,mM K C=some cd/\Br cd.mro=true/\cd.hasDict=true:=by
 obtain⟨nm,q,N,bs,bm,hdct,sn,sub,ab,col,dd,k0,k1,k2,k3,k5,hl,ht,hd⟩:=c.obj
 refine⟨_,by unfold mM;rw[hl],?_,hd⟩
 obtain⟨rs,e⟩:=Fk ht
 show Br (bh C::bm)=true
 rw[e]
 clear e
 show Br (fw bh (C::rs)++valTail)=true
 have:∀l:List Addr,Br (fw bh l++valTail)=true:=λl=>by
  induction l with
  |nil=>decide +kernel
  |cons a r ih=>cases r <;> exact ih
 exact this _
theorem ECls.sub {K:ac}{C:Addr}(c:ECls K C){T:String}(h:valTail.contains (.type T)=true):mroIn K C (.type T)=some true:=by
 obtain⟨cd,h1,h2,_⟩:=c.cls
 obtain⟨rs,e⟩:=Fk h2
 unfold mroIn
 rw[h1,fA,e,a22 rs h,if_neg]
 cases rs <;> exact av
section
variable {prog:bq} {w:cb} {A:cj} {E:Value->aF->Prop} {s:aF} {K:ac} {x C:Addr} {ox:Obj} {od:Option Obj} {name:Str}
theorem ar0(X:K.In s.heap)(I:PySem.W.InstAt s.heap x ox C od)(hga:bp K (.ref C) "__getattribute__"=some (some (.builtin "BaseException.__getattribute__")))(hgt:bp K (.ref C) "__getattr__"=some none)(hB:ii K C (.type "BaseException")=some true)(hf:PySem.W.findObj K C od name=some (.bind g a))(hh:jH v=true)(h:∀ {A':cj} {R:mz->aF->Prop},R (.ok (.ret v)) { s with toks:=s.toks+1 }->gA (model prog w) A' (.call g ⟨[a,.ref x,.ref C],[]⟩) R { s with toks:=s.toks+1 })(hq:Q (some v) { s with toks:=s.toks+1 }) :
  aW (model prog w) A (getAttr? (.ref x) name) Q E s:=by
 obtain⟨hp,gg,d,t,os⟩:=s
 have L0:=I.type (M:=model prog w)
 have L1:=hV (M:=model prog w) X hga
 have L2:=hV (M:=model prog w) X hgt
 have L3:=PySem.W.looks_find (M:=model prog w) X I hf
 have L4:=PySem.W.looks_mroIn (M:=model prog w) X hB
 unfold getAttr? getAttrBy? getAttrBy
 refine ai (wpAny_mkText (ai (io (bJ (ai (L0.at (ai (L1.at ?_))))))))
 have hx2:(ij "BaseException.__getattribute__" == ij "object.__getattribute__")=false:=by decide +kernel
 have hx1:(onTheHeap (bh C)&&ij "BaseException.__getattribute__" == ij "object.__getattribute__")=false:=by rw[hx2];rfl
 dsimp only
 rw[hx1,if_neg av]
 unfold getAttrByItsOwn
 refine ai (show aW _ _ (iq (.ref C) "__getattr__") _ _ _ from L2.at ?_)
 refine ai (io (bJ ?_))
 have hx0:(false&&onTheHeap (ij "BaseException.__getattribute__"))=false:=rfl
 unfold callGetattribute
 rw[hx0,if_neg av]
 unfold boundAndCalled
 rw[an4]
 refine ai (aE ?_)
 refine ir (hX (by decide +kernel) F.entry_bexc_ga (check_slot (i := "BaseException.__getattribute__") (owner := "BaseException") (n := "__getattribute__") (by decide +kernel) (by decide +kernel) (L0.andThen L4) (F.args_bexc_ga _ _) ?_))
 unfold az.«object.__getattribute__»
 refine ai (aE (ai (aE (ai (L0.at (ai (L3.at ?_)))))))
 refine ai (bJ (ir (h ?_)))
 refine aE ?_
 show aW _ _ (handedOut v) _ _ _
 rw[PySem.W.handedOut_of hh]
 exact aE (aE hq)
theorem Ou(hc:(mM K C).isSome=true)(ha:findIn K (.ref C) name=some (some a))(hg:specialIn K a "__get__"=some (some g))(ht:takesIn K a=some true):findObj K C od name=some (.bind g a):=by
 obtain⟨cd,hc⟩:=Option.isSome_iff_exists.mp hc
 unfold findObj
 rw[hc,fA,ha,fA]
 simp[hg,ht]
theorem ae3 {Q:Option Value->aF->Prop}(c:ECls K C)(X:K.In s.heap)(I:InstAt s.heap x ox C od)(h:Q (some (.ref C)) { s with toks:=s.toks+1 }):aW (model prog w) A (getAttr? (.ref x) "__class__") Q E s:=by
 have hf:findObj K C od "__class__"=some (.bind (.builtin "getset_descriptor.__get__") (.builtin "object.__class__")):=Ou (by obtain⟨cd,hc,_⟩:=c.cls;rw[hc];rfl) c.ca c.hn c.htk
 exact ar0 (v:=.ref C) X I c.ga c.gt (c.sub (by decide +kernel)) hf rfl (λq=>class_get (s:={ s with toks:=s.toks+1 }) (ox:=ox) (od:=od) X I (c.sub (by decide +kernel)) q) h
end
theorem as1 {K:ac}{x D:Addr}(c:ECls K D):KitX K (.ref x) (.ref D) (λh=>∃ox od,InstAt h x ox D od) where
 ty:=λ_ _ _ ⟨_,_,I⟩=>I.type
 it:=λ_ _ X _=>by
  obtain⟨cdD,hcD,_⟩:=c.cls
  unfold mM at hcD
  split at hcD
  .rename_i c' d' cd' sl' ho
   intro A' Q' E' s' k q
   unfold isType loadHead
   exact ai (wpAny_loadPart (k _ _ (X _ _ ho)) (aE q))
  .cases hcD
 ne:=λh tp dd χ n sl X htp=>by
  obtain⟨cdD,hcD,_⟩:=c.cls
  refine Bool.eq_false_iff.mpr λq=>?_
  have e:D=tp:=Value.ref.inj (beq_iff_eq.mp q)
  subst e
  unfold mM at hcD
  split at hcD
  .rename_i c' d' cd' sl' ho
   have z:=(X _ _ ho).symm.trans htp
   cases z
  .cases hcD
 ca:=λX ⟨_,_,I⟩ k=>ae3 c X I k
noncomputable def ExcAt(H:Hp)(a C:Addr)(fs:List (Str×V)):Prop:=(fs=[]/\(H a=some (R5 a C none)\/FlO H a C none)) \/ ∃dx,dx≠a/\(H a=some (R5 a C (some dx))\/FlO H a C (some dx))/\H dx=some (xdO dx fs)
inductive TyX (K:ac) (H:Hp) (x:V) (t:Value):Prop where
 |of (h:TyOf K H x t)
 |exc {a C:Addr} {fs:List (Str×V)} (ex:x=.ref a) (e:ExcAt H a C fs) (c:ECls K C) (et:t=.ref C)
 |sqT {a:Addr} {xs:List V} (ex:x=.ref a) (e:SqT K H a xs) (et:t=.type "tuple")
 |sqL {a:Addr} {xs:List V} (ex:x=.ref a) (e:SqL K H a xs) (et:t=.type "list")
section
theorem aq4(I:Inv X ξ σ H s)(e:H a=some (R5 a C dx)):∃vs:Array Value,s.heap.get? a=some (Bd C dx vs)/\vs.size=6/\vs[1]?=some .none/\vs[2]?=some .none:=(I.hok a _ e).1
theorem bh4(I:Inv X ξ σ H s)(e:H a=some (flO a C dx)):∃vs:Array Value,s.heap.get? a=some (Bd C dx vs)/\vs.size=6/\vs[2]?=some .none:=(I.hok a _ e).1
theorem aq3(I:Inv X ξ σ H s)(e:H a=some (R5 a C dx)\/FlO H a C dx):∃vs:Array Value,s.heap.get? a=some (Bd C dx vs)/\vs.size=6:=by
 rcases e with e|e|e
 .obtain⟨vs,h1,h2,_⟩:=aq4 I e;exact⟨vs,h1,h2⟩
 .obtain⟨vs,h1,h2,_⟩:=bh4 I e;exact⟨vs,h1,h2⟩
 .exact (I.hok a _ e).1
theorem ce0(I:Inv X ξ σ H s)(e:H dx=some (xdO dx fs)):fs.length<=1000/\∃mA,s.heap.Ns1 dx mA/\(∀f,RelO (fs.lookup f) (mA f))/\gR mA (fs.map (·.1)):=(I.hok dx _ e).1
theorem ExcAt.inst(I:Inv X ξ σ H s)(e:ExcAt H a C fs):∃vs dx od,InstAt s.heap a (Bd C dx vs) C od/\(∀o,od=some o -> ∀name,∃v,lookIn name o=some v/\RelO (fs.lookup name) v)/\(od=none->fs=[]):=by
 rcases e with ⟨rfl,e⟩|⟨dx,ne,e,ed⟩
 .obtain⟨vs,h1,_⟩:=aq3 I e
  exact⟨vs,none,none,⟨h1,rfl,rfl,ba⟩,λo z=>(nomatch z),λ_=>rfl⟩
 .obtain⟨vs,h1,_⟩:=aq3 I e
  obtain⟨_,mA,hn,hr,_⟩:=ce0 I ed
  obtain⟨od,ho,hl⟩:=Qs hn
  refine⟨vs,some dx,some od,⟨h1,rfl,rfl,ho⟩,λo z name=>?_,λz=>nomatch z⟩
  cases z
  exact⟨_,hl name,hr name⟩
theorem M0(I:Inv X ξ σ H s)(rx:RelV x u)(ty:TyX X.K H x t)(e:dU X.K t c=some b)(h:∀tk,Q (.bool b) { s with toks:=tk }) :
  aW (model X.prog X.w) A (call (.builtin "isinstance") [u,c]) Q E s:=by
 cases ty with
 |of ty=>exact Qm I rx ty e h
 |@exc a C fs ex ea cl et=>
  subst ex et
  cases (show u=bh a from rx)
  obtain⟨vs,dx,od,J,_⟩:=ea.inst I
  exact b_ (as1 cl) I.kIn ⟨_,_,J⟩ e (λz=>nomatch z) h
 |@sqT a xs ex q et=>
  subst ex et
  cases (show u=bh a from rx)
  obtain⟨_,_,⟨o,h1,h2,_⟩,_⟩:=I.tuple q
  exact b_ lq I.kIn ⟨o,h1,h2⟩ e (λz=>nomatch z) h
 |@sqL a xs ex q et=>
  subst ex et
  cases (show u=bh a from rx)
  obtain⟨_,_,⟨o,_,h1,h2,_⟩,_⟩:=I.list q
  exact b_ jl I.kIn ⟨o,h1,h2⟩ e (λz=>nomatch z) h
theorem a81(h1:h.get? a=some (Bd C dx vs))(h2:vs.size=6)(h3:vs[1]?=some .none)(h4:vs[2]?=some .none):ObjOk P w H h a (R5 a C dx):=
 ⟨⟨vs,h1,h2,h3,h4⟩,⟨_,h1⟩,λ_ _ ⟨vs',q1,q2⟩ k=>⟨vs',k _ q1,q2⟩⟩
theorem aq6(h1:h.get? a=some (Bd C dx vs))(h2:vs.size=6)(h4:vs[2]?=some .none):ObjOk P w H h a (flO a C dx):=
 ⟨⟨vs,h1,h2,h4⟩,⟨_,h1⟩,λ_ _ ⟨vs',q1,q2⟩ k=>⟨vs',k _ q1,q2⟩⟩
theorem bn7(h1:h.get? a=some (Bd C dx vs))(h2:vs.size=6):ObjOk P w H h a (fcO a C dx):=
 ⟨⟨vs,h1,h2⟩,⟨_,h1⟩,λ_ _ ⟨vs',q1,q2⟩ k=>⟨vs',k _ q1,q2⟩⟩
theorem X9(c:ECls X.K C)(hi:findIn X.K (.ref C) "__init__"=some (some (.builtin "ValueError.__init__")))(I:Inv X ξ σ H s)(r:Vals vs us)(hl:vs.length<=1000)(h:∀a,H a=none->Q (.ref a) (upd H a (R5 a C none))) :
  aW (model X.prog X.w) X.A (call (.ref C) us) (EP X ξ σ Q) X.xe s:=by
 obtain⟨nm,q,N,bs,bm,hdct,sn,sub,ab,col,dd,k0,k1,k2,k3,k5,hC,ht,_⟩:=c.obj
 obtain⟨hh,g,d,t,os⟩:=s
 refine ir (af7 ht (I.kIn _ _ hC) (looks_findIn I.kIn hi) (λh' e M ee=>?_) (by rw[<- r.length,ce];omega))
 subst ee
 obtain⟨kp,_,t0,q1,_,_⟩:=M
 refine⟨.ref (hh.objs.size+1),upd H (hh.objs.size+1) (R5 (hh.objs.size+1) C none),?_,rfl,h _ (I.hok.fresh (dQ _))⟩
 exact I.laid (t':=t) kp (dQ _) (a81 q1 rfl rfl rfl)
end
end L2
namespace L2
open PySem PySem.Spec PyProof.Rows
noncomputable def Ite(K:ac)(l:Addr):It:=
  ⟨λi H=>∃xs x,SqL K H l xs/\xs[i]?=some x,
   λi H v H'=>∃T x,H T=none/\v=.ref T/\(∀xs,SqL K H l xs->xs[i]?=some x)/\H'=upd H T (.tup [.int i,x]),
   λi H=>∃xs,SqL K H l xs/\xs.length<=i⟩
theorem ai6 {P:bq}{w:cb}{K:ac}{elts:List Expr}{kt:Nat}{pt:Pos}{e it l:Addr}(ne:e≠it) :
  Ri P w K (.Tuple elts kt pt) (Ite K l) [e,it] e (λi h=>(∃old,IsEnum h e it (i:Int) old)/\h.IsListIter it l i) where
 mem:=by simp
 obj:=λi h st b hb=>by
  obtain⟨⟨old,he⟩,⟨o1,e1,c1,d1⟩⟩:=st
  have hb:b=e\/b=it:=by simpa using hb
  rcases hb with rfl|rfl
  .exact⟨_,he,λv q=>nomatch q⟩
  .exact⟨o1,e1,λv q=>by rw[d1] at q;cases q⟩
 keep:=λi h h' st k=>by
  obtain⟨⟨old,he⟩,h1⟩:=st
  exact⟨⟨old,k e (by simp) _ he⟩,h1.at λo q=>k it (by simp) o q⟩
 item:=by
  intro X hP hw hK hc i ξ s σ H E I hf st hg
  subst hP hw hK
  obtain⟨xs,x,q1,hx⟩:=hg
  obtain⟨its1,r1,p1,z1⟩:=I.list q1
  obtain⟨u,hu,ru⟩:=r1.get hx
  obtain⟨⟨old,he⟩,h1⟩:=st
  refine wpAny_pyNext_enum_item he h1 p1.isList (x:=u) (by simpa using hu) ne λh' a1 a2 a3 a4 hk=>?_
  refine⟨_,rfl,iQ a1 λh'' hz' hs'=>?_⟩
  have hT:=I.hok.fresh (ak s.heap.objs.size)
  have up':∀b o,b∉[e,it]->s.heap.get? b=some o->h''.get? b=some o:=λb o hb q=>by
   have b1:b≠e:=by rintro rfl;exact hb (by simp)
   have b2:b≠it:=by rintro rfl;exact hb (by simp)
   exact hs'.extBut b o b1 (hk b o b1 b2 q)
  have nT:∀ {b o},s.heap.get? b=some o->b≠s.heap.objs.size:=λq=>aT (aH q)
  have Tnew:h''.get? s.heap.objs.size=some { cls:=.type "tuple", data:=.seq #[.int i s.toks,u] }:=hs'.extBut _ _ (cQ (nT he)) a3
  have I1:Inv X ξ σ (upd H s.heap.objs.size (.tup [.int i,x])) { s with heap:=h'',toks:=s.toks+1 }:=
   I.turnedN (t':=s.toks+1) (ch:=[e,it]) (λb hb=>hf b hb) up' (ak _) ⟨by show 2<=sizeLine;decide,[.int i s.toks,u],.cons ⟨_,rfl⟩ (.cons ru .nil),⟨_,Tnew,rfl,_,rfl⟩⟩
  refine⟨.ref s.heap.objs.size,_,I1,rfl,⟨s.heap.objs.size,x,hT,rfl,λxs' h'=>by rw[I.list_inj h' q1];exact hx,rfl⟩,⟨⟨_,hz'⟩,a2.at λo q=>hs'.extBut _ o (cQ ne) q⟩,λb hb=>?_⟩
  have q:=(hf b hb).1
  rw[Ai ?_]
  .exact q
  .have hb:b=e\/b=it:=by simpa using hb
   rcases hb with rfl|rfl
   .exact nT he
   .obtain⟨_,q,_⟩:=h1;exact nT q
 done:=by
  intro X hP hw hK hc i ξ s σ H E I hf st hg
  subst hP hw hK
  obtain⟨xs,q1,hx⟩:=hg
  obtain⟨its1,r1,p1,z1⟩:=I.list q1
  have e1:=r1.length
  obtain⟨⟨old,he⟩,h1⟩:=st
  refine wpAny_pyNext_enum_end (I.ok.hd hc) he h1 p1.isList (by simp;omega) λh' hk=>⟨rfl,?_⟩
  refine I.turnedL (t':=s.toks) (ch:=[e,it]) (λb hb=>hf b hb) λb o hb q=>?_
  have b2:b≠it:=by rintro rfl;exact hb (by simp)
  exact hk b o b2 q
 self:=λA i s Q E st h=>let ⟨_,he⟩:=st.1;gF he h
section
def ab9(o:Obj)(ep:Nat):Prop:=∃es,o.data=.dict es ep
theorem Inv.froze(I:Inv X ξ σ H s)(h:H p=some (.dK kvs)):∃ob ep,s.heap.get? p=some ob/\ab9 ob ep/\Inv X ξ σ (upd H p (.frz ob (.dK kvs))) s:=by
 have K:=I.hok p _ h
 obtain⟨z,y,vs,r,ob,es,ep,e,c,d,q⟩:=id K
 refine⟨ob,ep,e,⟨es,d⟩,?_⟩
 exact I.write (x:=p) (e:=p) (t':=s.toks) (h':=s.heap) (by rw[h];trivial) (.inl rfl) (λb u _ q=>q) ⟨ob,e⟩ ⟨e,K⟩
theorem Inv.thaw(I0:Inv X ξ σ0 H0 s0)(h0:H0 p=some (.dK kvs))(I:Inv X ξ σ H s)(h:H p=some (.frz o (.dK kvs))):Inv X ξ σ (upd H p (.dK kvs)) s:=by
 have ne:∀b,H b=none->b≠p:=λb e z=>by rw[z,h] at e;cases e
 have ntup:∀b xs,H b=some (.tup xs)->b≠p:=λb xs e z=>by rw[z,h] at e;cases e
 have nown:∀b c,H b=some (.own c)->b≠p:=λb c e z=>by rw[z,h] at e;cases e
 refine⟨I.ok,I.os,I.bare,⟨I.base.keep,I.base.slot,λb ob e n hx=>?_,I.base.there,λb xs e=>?_,λb ob u e=>?_,λb ps e=>?_⟩,I.loc,I.cell,?_,λx c e=>?_,λq hq=>?_,λb u e=>?_,I.len⟩
 .have q:=I.base.free b ob e n hx
  rw[Ai (ne b q)];exact q
 .have q:=I.base.tups b xs e
  rw[Ai (ntup b xs q)];exact q
 .have q:=I.base.frzs b ob u e
  have n:b≠p:=λz=>by
   have q0:=I0.base.frzs b ob u e
   rw[z,h0] at q0;cases q0
  rw[Ai n];exact q
 .obtain⟨more,q⟩:=I.base.tbls b ps e
  have n:b≠p:=λz=>by rw[z,h] at q;cases q
  exact⟨more,by rw[Ai n];exact q⟩
 .rw[Ai (ne _ I.free)];exact I.free
 .have q:=I.freeC x c e
  rw[Ai (ne _ q)];exact q
 .obtain⟨a,b,c⟩:=I.pin q hq
  exact⟨a,by rw[Ai (ne _ b)];exact b,c⟩
 .by_cases z:b=p
  .subst z
   rw[Ac] at e
   cases e
   exact (I.hok b _ h).2
  .rw[Ai z] at e
   exact (I.hok b u e).stay (λ_ _ _ q=>q) (λc q=>by rw[Ai (nown c b q)];exact q) λc xs q=>by rw[Ai (ntup c xs q)];exact q
theorem Thaw.inv(I0:Inv X ξ σ0 H0 s0)(I:Inv X ξ σ H s)(t:Thaw H0 H P):∃H',Inv X ξ σ H' s/\P H':=by
 rcases t with t|⟨p,o,kvs,h0,h,t⟩
 .exact⟨H,I,t⟩
 .exact⟨_,I0.thaw h0 I h,t⟩
theorem Inv.kdict(I:Inv X ξ σ H s)(h:H p=some (.frz o (.dK kvs)))(he:ab9 o ep):∃vs,KV kvs vs/\s.heap.DictAt (Bf X.prog X.w) p vs ep/\(p==dy)=false:=by
 obtain⟨e1,z,y,vs,r,ob,es,ep',e,c,d,q⟩:=I.hok p _ h
 obtain⟨es',d'⟩:=he
 rw[e1] at e
 cases e
 have d2:=d
 rw[d'] at d2
 cases d2
 exact⟨vs,r,⟨o,_,e1,c,d,q⟩,y⟩
end
noncomputable def Itd(p:Addr)(o:Obj)(kvs:List (Key×V)):It:=
 ⟨λi H=>H p=some (.frz o (.dK kvs))/\i<kvs.length,λi H x H'=>H'=H/\∃k v,kvs[i]?=some (k,v)/\x=kV k,λi H=>H p=some (.frz o (.dK kvs))/\kvs.length<=i⟩
theorem as2:∀ {kvs:List (Key×V)} {vs:List (Key×Value)} {i:Nat} {k:Key} {v:V},KV kvs vs->kvs[i]?=some (k,v) -> ∃u,vs[i]?=some (k,u)/\RelV v u
 | _,_,0,k,v,.cons (b:=q) r _,e=>by
  simp only[dA,jj] at e
  subst e
  exact⟨q.2,congrArg some (Prod.ext r.1.symm rfl),r.2⟩
 | _,_,i+1,k,v,.cons r t,e=>by
  simp only[cu] at e ⊢
  exact as2 t e
theorem bh7(h:(Bf P w).is k u=true):RelV (kV k) u:=by
 cases k with
 |inl i=>obtain⟨t,rfl⟩:=Value.isInt_shape (show mo i u=true from h);exact⟨t,rfl⟩
 |inr z=>obtain⟨t,rfl⟩:=kX (show im z u=true from h);exact⟨t,rfl⟩
theorem ai5 {P:bq}{w:cb}{K:ac}{tg:Expr}(p it:Addr)(o:Obj)(kvs:List (Key×V)){ep:Nat}(he:ab9 o ep):Ri P w K tg (Itd p o kvs) [it] it (λi h=>h.IsKeyIter it p i kvs.length ep) where
 mem:=by simp
 obj:=λi h st b hb=>by
  have e:b=it:=by simpa using hb
  subst e
  obtain⟨o,e,c,d⟩:=st
  exact⟨o,e,λv z=>by rw[d] at z;cases z⟩
 keep:=λi h h' st k=>st.at λo e=>k it (by simp) o e
 item:=by
  intro X hP hw hK hc i ξ s σ H E I hf st hg
  subst hP hw hK
  obtain⟨hH,hi⟩:=hg
  obtain⟨vs,rel,hd,hm⟩:=I.kdict hH he
  obtain⟨f0,f1,f2,f3,f4,f5⟩:=hf it (by simp)
  obtain⟨⟨k,v⟩,hx⟩:∃q,kvs[i]?=some q:=⟨kvs[i],by simp[hi]⟩
  obtain⟨u,hu,_⟩:=as2 rel hx
  have hl:kvs.length=vs.length:=rel.length
  rw[hl] at st
  refine jX st hd hu λkey h' hk st' sb=>?_
  have I1:Inv X ξ σ H { s with heap:=h' }:=I.turned (t':=s.toks) (λb o hb e=>sb.extBut b o hb e) f0 f1 f3 f4 f5
  obtain⟨o1,e,c,d⟩:=id st'
  exact⟨key,rfl,Qg (s:={ s with heap:=h' }) e c d (by decide) ⟨kV k,H,I1,bh7 hk,⟨rfl,k,v,hx,rfl⟩,by rw[hl];exact st',λb hb=>(hf b hb).1⟩⟩
 done:=by
  intro X hP hw hK hc i ξ s σ H E I hf st hg
  subst hP hw hK
  obtain⟨hH,hi⟩:=hg
  obtain⟨vs,rel,hd,hm⟩:=I.kdict hH he
  obtain⟨f0,f1,f2,f3,f4,f5⟩:=hf it (by simp)
  have hl:kvs.length=vs.length:=rel.length
  rw[hl] at st
  exact wpAny_pyNext_dict_end (I.ok.hd hc) st hd (by simp;omega) λh' eb=>⟨rfl,I.turned (t':=s.toks) (λb o hb e=>eb b o hb e) f0 f1 f3 f4 f5⟩
 self:=λ_ _ _ _ _ st h=>wpAny_pyIter_keyiter st h
theorem a73 {X:Cx}{tg:Expr}{ξ:List (Addr×Obj)}{σ:St}{H:Hp}{s:aF}{R:It->Hp->Prop}{E:Value->aF->Prop}{p:Addr}{o:Obj}{kvs:List (Key×V)}(I:Inv X ξ σ H s)(h:H p=some (.frz o (.dK kvs)))(q:R (Itd p o kvs) H):aW (model X.prog X.w) X.A (mB (.ref p)) (PIE X ξ σ tg R) E s:=by
 have he:∃ep,ab9 o ep:=by
  obtain⟨e1,z,y,vs,r,ob,es,ep,e,c,d,_⟩:=I.hok p _ h
  rw[e1] at e;cases e
  exact⟨ep,es,d⟩
 obtain⟨ep,he⟩:=he
 obtain⟨vs,rel,hd,hm⟩:=I.kdict h he
 refine fc hm hd ?_
 refine⟨s.heap.objs.size,[s.heap.objs.size],_,_,H,rfl,I.kept (t':=s.toks) λb o e=>ah _ e,ai5 p _ o kvs he,⟨_,aK _ rfl,rfl,by rw[rel.length];rfl⟩,λb hb=>?_,q⟩
 have e:b=s.heap.objs.size:=by simpa using hb
 subst e
 exact I.fpOk (ak _) (I.hok.fresh (ak _))
end L2
namespace PySem
theorem Sem.wp_never {α:Type}(M:Model)(Γ:Ctx):∀(t:Sem α)(p:Pos)(s:aF),Sem.wp M Γ t (λ_ _ _=>False) (λ_ _ _=>False) p s->False:=by
 intro t
 induction t with
 |pure a=>intro p s h;exact h
 |raise e=>intro p s h;exact h
 |unsupported w=>intro p s h;exact h
 |finish e=>intro p s h;exact h
 |rule tag k ih=>intro p s h;exact ih () p s h
 |«at» q k ih=>intro p s h;exact ih () q s h
 |load a part k ih=>intro p s h;obtain⟨o,_,h⟩:=h;exact ih o p s h
 |update a part f k ih=>intro p s h;exact ih () p _ h.2
 |alloc o k ih=>intro p s h;exact ih _ p _ h
 |loadIfAlive a k ih=>intro p s h;exact ih _ p s h
 |point l k ih=>intro p s h;exact ih () p s h
 |register a k ih=>intro p s h;exact h
 |fresh k ih=>intro p s h;exact ih _ p _ h
 |ask k ih=>intro p s h;exact ih _ p s h
 |choose src n k ih=>intro p s h;exact ih _ p _ h.2
 |os q l k ih=>intro p s h;exact ih _ p _ h
 |call c hd g l k ih=>intro p s h;obtain⟨r,s',_,h⟩:=h;exact ih r p s' h
 |handled own k ih=>intro p s h;exact ih _ p s h
 |newGen c k ih=>intro p s h;exact ih _ p _ h
 |genState g k ih=>intro p s h;obtain⟨st,_,h⟩:=h;exact ih _ p s h
 |resume g r l k ih=>intro p s h;obtain⟨res,s',_,h⟩:=h;exact ih res p s' h
 |yield v g l k ih=>intro p s h;exact h
 |stack k ih=>intro p s h;exact ih _ p s h
 |fork c k ih=>intro p s h;exact h
 |thread k ih=>intro p s h;first|exact ih _ p s h|exact h
 |await a tk d l k ih=>intro p s h;first|exact h|exact ih _ p s h
section
theorem ag3(h:aW (model prog w) A (iW v) (λr s'=>∃u,r=some u/\P u s') (λ_ _=>False) s):aW (model prog w) A (bj v) P E s:=by
 intro Γ p hΓ
 have h:=h Γ p hΓ
 unfold iW Sem.attempt at h
 unfold bj
 rw[lX,Sem.wp_tryCatch,Sem.wp_bind] at h
 rw[lX]
 refine Sem.wp_mono _ _ _ (λo p' s' q=>?_) (λe p' s' q=>?_) p s h
 .cases o with
  |none=>exact (show False from q).elim
  |some u=>
   obtain⟨u',e,q⟩:=q
   cases e
   exact q
 .refine (Sem.wp_never (model prog w) Γ (isInstance e (.type "StopIteration")) p' s' ?_).elim
  have q:Sem.wp (model prog w) Γ (isInstance e (.type "StopIteration") >>= λb=>if b=true then pure none else throw e) (λr _ s'=>∃u,r=some u/\P u s') (λ_ _ _=>False) p' s':=q
  rw[lX] at q
  refine Sem.wp_mono _ _ _ (λb p2 s2 q=>?_) (λ_ _ _ z=>z) p' s' q
  cases b with
  |true=>obtain⟨u,z,_⟩:=q;cases z
  |false=>exact q
variable {κ:Type} [DecidableEq κ] {knd:KeyKind prog w κ} {d it:Addr} {ep i:Nat} {kvs:List (κ×Value)}
theorem Ft(hh:A.handled=none)(hit:s.heap.IsKeyIter it d i kvs.length ep)(hm:s.heap.DictAt knd d kvs ep)(hx:kvs[i]?=none)(hE:∀h' x,Heap.ExtBut it s.heap h'->(∃o,h'.get? x=some o/\o.cls=.type "StopIteration")->E (.ref x) { s with heap:=h' }):aW (model prog w) A (bj (.ref it)) Q E s:=by
 have ⟨oi,ei,ci,di⟩:=hit
 have ⟨od,es,ed,_,dd,_,pr,_⟩:=hm
 have size:es.size=kvs.length:=pr.length▸(by simp)
 have past:es.size<=i:=by rw[size];simpa using hx
 have own:Builtin.Dict_items.ownsTuple "dict_keyiterator"=false:=by decide
 have nx:¬ ((i:Int)<0):=by omega
 have noNone:¬ ((bh d==bT)=true):=av
 unfold bj
 refine ai (dB (name:=cM "__next__") hit.typeIs h_ (dM h_ hit.typeIs F.entry_dict_keyiterator_next ?_ (F.args_dict_keyiterator_next_1 _)))
 refine ai (aE (ai (ai ?_)))
 first|refine ai (g6 hit.typeIs (aE (ai (wpAny_fieldsOf ei di ?_))))|refine ai (js hit.typeIs (aE (ai (wpAny_fieldsOf ei di ?_))))
 simp only[own,ck,if_false]
 show aW _ _ (if (bh d==bT)=true then _ else _) _ _ s
 rw[if_neg noNone]
 refine ai (aE (ai (wpAny_dictEntries ed dd ?_)))
 rw[if_neg (show ¬ _ by rw[size];simp)]
 refine ai (aE (ai (wpAny_dictEpoch ed dd ?_)))
 rw[if_neg (show ¬ _ by simp)]
 refine aE ?_
 simp only[nx,if_false,aI,Array.getElem?_eq_none past]
 refine ai ?_
 first|refine ai (g6 hit.typeIs (aE ?_))|refine ai (js hit.typeIs (aE ?_))
 show aW _ _ (setField (.ref it) 0 .none >>= λ_=>newExc (.type "StopIteration") [] >>= _) _ _ s
 refine ai (gI ei di (by simp) (ai ?_))
 simp only[newExc,newTuple]
 refine ai (gE (ai (m:=firstArgMember _ _) (wpAny_of_eq (a:=bT) (by first|rfl|(simp only[firstArgMember];rfl)) (gE ?_ (by size_fits)))) (by size_fits))
 simp only[raiseNew]
 refine ai (wpAny_handled ?_)
 rw[show A.in1.handled=none from hh]
 refine ai (aE (wpAny_throw ?_))
 exact hE _ _ (((cC ..).extBut.push _).push _) ⟨_,aK _ rfl,rfl⟩
theorem J1(hit:s.heap.IsKeyIter it d i kvs.length ep)(hm:s.heap.DictAt knd d kvs ep)(hx:kvs[i]?=some (k,v))(hQ:∀key h',knd.is k key=true->h'.IsKeyIter it d (i+1) kvs.length ep->bE it s.heap h'->Q key { s with heap:=h' }):aW (model prog w) A (bj (.ref it)) Q E s:=
 ag3 (jX hit hm hx λkey h' a b c=>⟨key,rfl,hQ key h' a b c⟩)
theorem bn3(hh:A.handled=none)(ne:d≠it):Draws prog w A it [it,d] kvs.length (λi v=>∃k x,kvs[i]?=some (k,x)/\knd.is k v=true) (λi h=>h.IsKeyIter it d i kvs.length ep/\h.DictAt knd d kvs ep) where
 live:=λ_ _ h=>let ⟨o,e,_⟩:=h.1;⟨o,e⟩
 frame:=λ_ _ _ h k=>⟨h.1.at λo q=>k it (by simp) o q,h.2.at' λo q=>k d (by simp) o q⟩
 item:=λi s Q E hi h hQ=>J1 h.1 h.2 (k:=kvs[i].1) (v:=kvs[i].2) (af hi) λkey h' a b c=>hQ key h' s.toks ⟨_,_,af hi,a⟩ ⟨b,h.2.at' λo q=>c.extBut d o ne q⟩ c
 done:=λs Q E h hE=>Ft hh h.1 h.2 (dN (ak _)) hE
theorem J7(hh:A.handled=none)(he:IsEnum s.heap e it i old)(hit:s.heap.IsKeyIter it d i kvs.length ep)(hm:s.heap.DictAt knd d kvs ep)(hx:kvs[i]?=none)(hQ:∀h',Heap.ExtBut it s.heap h'->Q none { s with heap:=h' }):aW (model prog w) A (iW (.ref e)) Q E s:=by
 have ty:s.TypeIs (.ref e) "enumerate" := ⟨_,he,rfl⟩
 unfold iW
 refine ai (io (dB (name:=cM "__next__") ty jZ (dM jZ ty F.entry_enumerate_next ?_ (F.args_enumerate_next_1 _))))
 show aW _ _ (mN (.ref e) 2 >>= λz=>bj z >>= _) _ _ _
 refine ai (b5 he rfl (x:=.ref it) rfl (ai (Ft hh hit hm hx λh' x hk ⟨o,ho,hc⟩=>?_)))
 exact ai (wpAny_isInstance (T := "StopIteration") (b:=true) ⟨o,ho,hc⟩ isSubtype_stop (aE (hQ _ hk)))
theorem Wy(hd:(d==dy)=false)(hm:s.heap.DictAt knd d kvs ep)(h:∀h',IsEnum h' (s.heap.objs.size+1) s.heap.objs.size 0 .none->h'.IsKeyIter s.heap.objs.size d 0 kvs.length ep->(∀b o,s.heap.get? b=some o->h'.get? b=some o)->Q (.ref (s.heap.objs.size+1)) { s with heap:=h' }) :
  aW (model prog w) A (call (.type "enumerate") [.ref d]) Q E s:=by
 have g:MeetsIn prog w (az.«enumerate.__new__» ⟨[.type "enumerate", .ref d],[]⟩) (λ_ R s=>s.heap.DictAt knd d kvs ep /\
   R (.ok (.ret (.ref (s.heap.objs.size+1)))) { s with heap:=(s.heap.push { cls:=.type "dict_keyiterator", data:=.fields #[.ref d,.int 0 0,.int kvs.length 0,.int ep 0] }).push { cls:=.type "enumerate", data:=.fields #[.none,.bool false,.ref s.heap.objs.size,fP 0,.none,.none] } }):=by
  refine .of_wp λA R s h=>?_
  obtain⟨hp,g,d',tk,os⟩:=s
  obtain⟨hm,h⟩:=h
  have hsub:=sub_enumerate
  obtain⟨o,es,ho,hcl,hdat,q⟩:=id hm
  have hz:(hp.push { cls:=.type "dict_keyiterator", data:=.fields #[.ref d,.int 0 0,.int kvs.length 0,.int ep 0] }).objs.size=hp.objs.size+1:=cn ..
  wp_walk using fc hd hm
  refine wpAny_stack_any λst=>aE ?_
  have h2:R (.ok (.ret (.ref (hp.push { cls:=.type "dict_keyiterator", data:=.fields #[.ref d,.int 0 0,.int kvs.length 0,.int ep 0] }).objs.size))) ⟨(hp.push { cls:=.type "dict_keyiterator", data:=.fields #[.ref d,.int 0 0,.int kvs.length 0,.int ep 0] }).push { cls:=.type "enumerate", data:=.fields #[.none,.bool false,.ref hp.objs.size,fP 0,.none,.none] },g,d',tk,os⟩:=by rw[hz];exact h
  split
  .rename_i c _ _ _ _ _
   cases (c==fO "enumerate")
   .wp_walk using fc hd hm
    exact⟨_,rfl,h2⟩
   .wp_walk using fc hd hm
    exact⟨_,rfl,h2⟩
  .wp_walk using fc hd hm
   exact⟨_,rfl,h2⟩
 refine callType_newIn F.called_enumerate (by decide) (F.typeCall_enumerate_1 _) (F.newCall_enumerate_1 _) (λobj=>F.args_object_init_2 obj _) F.entry_enumerate_new g ⟨hm,?_⟩
 have hz:(s.heap.push { cls:=.type "dict_keyiterator", data:=.fields #[.ref d,.int 0 0,.int kvs.length 0,.int ep 0] }).objs.size=s.heap.objs.size+1:=cn ..
 have he:IsEnum ((s.heap.push { cls:=.type "dict_keyiterator", data:=.fields #[.ref d,.int 0 0,.int kvs.length 0,.int ep 0] }).push { cls:=.type "enumerate", data:=.fields #[.none,.bool false,.ref s.heap.objs.size,fP 0,.none,.none] }) (s.heap.objs.size+1) s.heap.objs.size 0 .none:=hz▸aK _ rfl
 exact⟨⟨_,he,rfl⟩,h _ he ⟨_,ah _ (aK _ rfl),rfl,rfl⟩ λb o x=>ah _ (ah _ x)⟩
end
end PySem
namespace L2
open PySem PySem.Spec PyProof.Rows
noncomputable def am8(p:Addr)(o:Obj)(kvs:List (Key×V)):It:=
  ⟨λi H=>H p=some (.frz o (.dK kvs))/\i<kvs.length,
   λi H x H'=>∃T k v,H T=none/\x=.ref T/\kvs[i]?=some (k,v)/\H'=upd H T (.tup [.int i,kV k]),
   λi H=>H p=some (.frz o (.dK kvs))/\kvs.length<=i⟩
theorem Yx {P:bq}{w:cb}{K:ac}{elts:List Expr}{kt:Nat}{pt:Pos}{e it p:Addr}{o:Obj}{kvs:List (Key×V)}{ep:Nat}(ne:e≠it)(he:ab9 o ep) :
  Ri P w K (.Tuple elts kt pt) (am8 p o kvs) [e,it] e (λi h=>(∃old,IsEnum h e it (i:Int) old)/\h.IsKeyIter it p i kvs.length ep) where
 mem:=by simp
 obj:=λi h st b hb=>by
  obtain⟨⟨old,he⟩,⟨o1,e1,c1,d1⟩⟩:=st
  rcases List.mem_cons.mp hb with rfl|hb
  .exact⟨_,he,λv q=>nomatch q⟩
  .rw[List.mem_singleton.mp hb];exact⟨o1,e1,λv q=>by rw[d1] at q;cases q⟩
 keep:=λi h h' st k=>let ⟨⟨old,he⟩,h1⟩:=st;⟨⟨old,k e (by simp) _ he⟩,h1.at λo q=>k it (by simp) o q⟩
 item:=by
  intro X hP hw hK hc i ξ s σ H E I hf st hg
  subst hP hw hK
  obtain⟨hH,hi⟩:=hg
  obtain⟨vs,rel,hd,hm⟩:=I.kdict hH he
  obtain⟨⟨k,v⟩,hx⟩:∃q,kvs[i]?=some q:=⟨kvs[i],by simp[hi]⟩
  obtain⟨u,hu,_⟩:=as2 rel hx
  have hl:kvs.length=vs.length:=rel.length
  obtain⟨⟨old,en⟩,h1⟩:=st
  rw[hl] at h1
  have np:p≠e:=Aj hH (hf e (by simp)).1
  have ni:p≠it:=Aj hH (hf it (by simp)).1
  refine bD (ak _) (wpAny_pyNext_enum_itemD (bn3 (by simp[I.ok.hd hc]) ni) en ⟨h1,hd⟩ (by omega) ne (by simp[ne,np.symm]) λkey h' tk ⟨k',x',hx',hk⟩ a1 ⟨a2,_⟩ a3 _ hk' htk=>?_)
  rw[hu] at hx'
  cases hx'
  refine⟨_,rfl,iQ a1 λh'' hz' hs'=>?_⟩
  have hT:=I.hok.fresh (ak s.heap.objs.size)
  have nT:∀ {b ob},s.heap.get? b=some ob->b≠s.heap.objs.size:=λq=>aT (aH q)
  have up:∀b ob,b∉[e,it]->s.heap.get? b=some ob->h''.get? b=some ob:=λb ob hb q=>by
   have b1:b≠e:=by rintro rfl;exact hb (by simp)
   have b2:b≠it:=by rintro rfl;exact hb (by simp)
   exact hs'.extBut b ob b1 (hk' b ob b1 b2 q)
  have Tnew:h''.get? s.heap.objs.size=some { cls:=.type "tuple", data:=.seq #[.int i tk,key] }:=hs'.extBut _ _ (cQ (nT en)) a3
  have I1:Inv X ξ σ (upd H s.heap.objs.size (.tup [.int i,kV k])) { s with heap:=h'',toks:=tk+1 }:=
   I.turnedN (t':=tk+1) (ch:=[e,it]) (λb hb=>hf b hb) up (ak _) ⟨by show 2<=sizeLine;decide,[.int i tk,key],.cons ⟨_,rfl⟩ (.cons (bh7 hk) .nil),⟨_,Tnew,rfl,_,rfl⟩⟩
  refine⟨.ref s.heap.objs.size,_,I1,rfl,⟨s.heap.objs.size,k,v,hT,rfl,hx,rfl⟩,⟨⟨_,hz'⟩,by rw[hl];exact a2.at λo q=>hs'.extBut _ o (cQ ne) q⟩,λb hb=>?_⟩
  have q:=(hf b hb).1
  rw[Ai ?_]
  .exact q
  .rcases List.mem_cons.mp hb with rfl|hb
   .exact nT en
   .rw[List.mem_singleton.mp hb];obtain⟨_,q,_⟩:=h1;exact nT q
 done:=by
  intro X hP hw hK hc i ξ s σ H E I hf st hg
  subst hP hw hK
  obtain⟨hH,hi⟩:=hg
  obtain⟨vs,rel,hd,hm⟩:=I.kdict hH he
  have hl:kvs.length=vs.length:=rel.length
  obtain⟨⟨old,en⟩,h1⟩:=st
  rw[hl] at h1
  refine J7 (I.ok.hd hc) en h1 hd (by simp;omega) λh' hk=>⟨rfl,?_⟩
  refine I.turnedL (t':=s.toks) (ch:=[e,it]) (λb hb=>hf b hb) λb o hb q=>hk b o (by rintro rfl;exact hb (by simp)) q
 self:=λA i s Q E st h=>let ⟨_,he⟩:=st.1;gF he h
theorem ap9 {X:Cx}{elts:List Expr}{kt:Nat}{pt:Pos}{ξ:List (Addr×Obj)}{σ:St}{H:Hp}{s:aF}{R:It->Hp->Prop}{E:Value->aF->Prop}{p:Addr}{o:Obj}{kvs:List (Key×V)}(I:Inv X ξ σ H s)(h:H p=some (.frz o (.dK kvs)))(q:R (am8 p o kvs) H):aW (model X.prog X.w) X.A (call (.type "enumerate") [.ref p]) (λv s1=>aW (model X.prog X.w) X.A (mB v) (PIE X ξ σ (.Tuple elts kt pt) R) E s1) E s:=by
 have he:∃ep,ab9 o ep:=by
  obtain⟨e1,z,y,vs,r,ob,es,ep,e,c,d,_⟩:=I.hok p _ h
  rw[e1] at e;cases e
  exact⟨ep,es,d⟩
 obtain⟨ep,he⟩:=he
 obtain⟨vs,rel,hd,hm⟩:=I.kdict h he
 refine Wy hm hd λh' en hit hk=>gF en ?_
 refine⟨_,_,_,_,H,rfl,I.kept (t':=s.toks) hk,Yx (Nat.succ_ne_self _) he,⟨⟨_,en⟩,by rw[rel.length];exact hit⟩,λb hb=>?_,q⟩
 have hb:b=s.heap.objs.size+1\/b=s.heap.objs.size:=by simpa using hb
 have le:s.heap.objs.size<=b:=hb.elim (λe=>e▸aV _ 1) λe=>e▸ak _
 exact I.fpOk le (I.hok.fresh le)
end L2
namespace PySem
open PyProof.Rows
section
variable {κ:Type} [DecidableEq κ]
def Fd(xs:List κ):List κ:=xs.foldl (λσ k=>if σ.any (λj=>decide (j=k)) then σ else σ++[k]) []
theorem Qv(xs:List κ)(k:κ):Fd (xs++[k])=if (Fd xs).any (λj=>decide (j=k)) then Fd xs else Fd xs++[k]:=by
 unfold Fd
 rw[d6]
 rfl
theorem at8(xs:List κ)(k j:κ):(Fd (xs++[k])).any (λi=>decide (i=j))=((Fd xs).any (λi=>decide (i=j))||decide (j=k)):=by
 rw[Qv]
 by_cases h:(Fd xs).any (λi=>decide (i=k))=true
 .rw[if_pos h]
  by_cases e:j=k
  .subst e;rw[h];rfl
  .simp[e]
 .rw[if_neg h,List.any_append]
  congr 1
  simp[eq_comm]
theorem Vf(xs:List κ):(Fd xs).length<=xs.length:=by
 have:∀(ys acc:List κ),(ys.foldl (λσ k=>if σ.any (λj=>decide (j=k)) then σ else σ++[k]) acc).length<=acc.length+ys.length:=by
  intro ys
  induction ys with
  |nil=>intro acc;exact ak _
  |cons y ys ih=>
   intro acc
   refine aw (ih _) ?_
   rw[aN]
   dsimp only
   split
   .omega
   .rw[aP,cS];omega
 exact aw (this xs []) (by simp)
end
section
variable {prog:bq} {w:cb} {A:cj} {R:mz->aF->Prop} {I:Addr} {fp wr:List Addr} {G:Array k8->Array k8->Prop} {P:Nat->Value->Prop} {St:Nat->aF->Prop} {κ:Type} [DecidableEq κ] {knd:KeyKind prog w κ} {ks:List κ}
abbrev F7(knd:KeyKind prog w κ)(h:Heap)(S:Addr)(ks:List κ):Prop:=h.SetOf knd S (λk=>(Fd ks).any (λj=>decide (j=k))) (Fd ks).length
theorem P7(x:F7 knd h S ks)(k:∀o,h.get? S=some o->h'.get? S=some o):F7 knd h' S ks:=
 let ⟨o,es,ep,t,ho,r⟩:=x;⟨o,es,ep,t,k o ho,r⟩
theorem V2(W:WalksS prog w A.in1 I fp wr G ks.length P St)(S:Addr)(out:S∉fp)(hv:∀i v,P i v -> ∃k,ks[i]?=some k/\knd.is k v=true/\v.scannable=true)(few:ks.length+1<scanBound)(left:Nat) :
  ∀(i:Nat)(s:aF),i+left=ks.length->St i s->F7 knd s.heap S (ks.take i)->(∀s',Moved (S::wr) G s s'->F7 knd s'.heap S ks->R (.ok (.ret .none)) s') ->
   gA (model prog w) A (.builtin "set.update.loop" ⟨[.ref S,.ref I],[]⟩) R s:=by
 have outw:S∉wr:=λz=>out (W.sub _ z)
 have into:∀b∈wr,b∈S::wr:=λb z=>.tail _ z
 induction left with
 |zero=>
  intro i s hi st fl hR
  have ei:i=ks.length:=hi
  subst ei
  rw[aO] at fl
  refine dq jv (cZ fU _ ▸ ?_)
  show aW _ A.in1 (iW (.ref I) >>= _) _ _ s
  exact ai (W.done s _ _ st λs' mv=>aE (hR s' (mv.mono into) (P7 fl λo e=>mv.heap S o outw e)))
 |succ left ih=>
  intro i s hi st fl hR
  have lt:i<ks.length:=by omega
  refine dq jv (cZ fU _ ▸ ?_)
  show aW _ A.in1 (iW (.ref I) >>= _) _ _ s
  refine ai (W.item i s _ _ lt st λv s1 pv st1 mv=>?_)
  obtain⟨k,ek,ik,sk⟩:=hv i v pv
  have fl1:F7 knd s1.heap S (ks.take i):=P7 fl λo e=>mv.heap S o outw e
  have tk:ks.take (i+1)=ks.take i++[k]:=by rw[List.take_succ,ek];rfl
  show aW _ A.in1 (mJ [v] (setAdd S v) >>= _) _ _ s1
  refine ai (bJ ?_)
  unfold setAdd
  refine bJ (ai (knd.pyHash (k:=k) ik ?_))
  have room:(Fd (ks.take i)).length+1<scanBound:=by
   have:=Vf (ks.take i)
   rw[aJ] at this
   omega
  refine wpAny_setAddHashed_of (knd:=knd) (s:={ s1 with toks:=s1.toks+1 }) ik sk fl1 room λh' sb fl2=>?_
  have fl3:F7 knd h' S (ks.take (i+1)):=by
   have eS:(λj=>(Fd (ks.take i)).any (λm=>decide (m=j))||decide (j=k))=λj=>(Fd (ks.take i++[k])).any (λm=>decide (m=j)):=funext λj=>(at8 (ks.take i) k j).symm
   have en:(if (Fd (ks.take i)).any (λm=>decide (m=k))=true then (Fd (ks.take i)).length else (Fd (ks.take i)).length+1)=(Fd (ks.take i++[k])).length:=by
    rw[Qv];split <;> simp
   rw[tk]
   show h'.SetOf knd S _ _
   rw[<- eS,<- en]
   exact fl2
  refine aE ⟨gh fU _,ih (i+1) _ (by omega) (W.frame _ s1 _ _ st1 (dQ _) λb hb o e=>?_) fl3 λs2 mv2 fl4=>?_⟩
  .exact (sb.2 b λz=>out (z▸hb)).trans e
  .exact hR s2 (Moved.trans W.gtrans ((mv.mono into).then_heap (dQ _) λb o hb e=>(sb.2 b λz=>hb (z▸am)).trans e) mv2) fl4
end
section
variable {prog:bq} {w:cb} {A:cj} {E:Value->aF->Prop} {s:aF} {κ:Type} [DecidableEq κ] {knd:KeyKind prog w κ} {ks:List κ}
abbrev Dv(led:Bool):Obj:={ cls:=.type "set", dict:=none,data:=.set #[] 0 (.fresh 0 0 led) }
theorem V3(hh:A.handled=none)(hl:s.heap.IsList l ψ)(hv:∀(i:Nat)(v:Value),ψ[i]?=some v -> ∃k,ks[i]?=some k/\knd.is k v=true/\v.scannable=true)(hs:ψ.size=ks.length)(few:ks.length+1<scanBound)(h:∀(h':Heap)(tk:Nat),F7 knd h' s.heap.objs.size ks->(∀b o,b<s.heap.objs.size->s.heap.get? b=some o->h'.get? b=some o)->Q (.ref s.heap.objs.size) { s with heap:=h',toks:=tk }) :
  aW (model prog w) A (call (.type "set") [.ref l]) Q E s:=by
 obtain⟨c,tl,hmro⟩:=F.called_set.mro
 have m1:=F.called_set.made
 have m2:=F.called_set.sub
 have m3:=F.called_set.notType
 have m4:=F.called_set.canCreate
 have m5:=F.typeCall_set_1 (.ref l)
 refine ir (codeAny_of_tree (show aW _ _ (callAny (.type "set") _) _ _ _ from aE ⟨fR _ (by decide +kernel),dq F.entry_type_call ?_⟩))
 rw[Around.under_plain (weight_type_call_type "set" [.ref l] []) rfl]
 repeat (any_goals (first|assumption|wp_step))
 refine gT (code_set_new_1 (.ref l) (E:=E) (Q₁:=λobj s₁=>∃led:Bool,obj=.ref s.heap.objs.size/\s₁={ s with heap:=s.heap.push (Dv led) }) λled=>⟨led,rfl,rfl⟩) λr s₁ hr=>?_
 cases r with
 |error e=>exact hr
 |ok fl=>
  cases fl with
  |ret obj=>
   obtain⟨led,rfl,rfl⟩:=hr
   have new:(s.heap.push (Dv led)).get? s.heap.objs.size=some (Dv led):=aK _ rfl
   have ty:Shared.TypeIs { s with heap:=s.heap.push (Dv led) } (.ref s.heap.objs.size) "set" := ⟨_,new,rfl⟩
   have m6:=F.called_set.init.lookup
   have m7:=F.called_set.init.bind (.ref s.heap.objs.size)
   repeat (any_goals (first|assumption|wp_step))
   refine gT (hX (R:=wants (λr s₂=>r=.none/\∃h' tk,s₂={ s with heap:=h',toks:=tk }/\F7 knd h' s.heap.objs.size ks/\(∀b o,b<s.heap.objs.size->s.heap.get? b=some o->h'.get? b=some o)) E) F.called_set.init.plain F.entry_set_init (check_set_init_1 ty ?_)) λr2 s2 hr2=>?_
   .obtain⟨⟨oc,odict,od,osl⟩,ol,hc,n,hd⟩:=hl
    simp only at hc hd
    subst hc;subst hd
    have lt:l<s.heap.objs.size:=aH ol
    have ol2:(s.heap.push (Dv led)).get? l=some { cls:=.type "list", dict:=odict,data:=.seq ψ n,slots:=osl }:=ah _ ol
    have m8:=F.sub_list_set
    have m9:=F.sub_list_frozenset
    have m10:(fO "list" == fO "dict")=false:=by decide
    have isl:(s.heap.push (Dv led)).IsList l ψ:=⟨_,ol2,rfl,n,rfl⟩
    have size:(s.heap.push (Dv led)).objs.size=s.heap.objs.size+1:=cn ..
    unfold az.«set.__init__» noKeywords Builtin.Frozenset.updateFrom
    generalize hPI:mB=PI
    wp_walk
    subst hPI
    refine gG isl (ai (wpAny_runValue ?_))
    have quiet:A.in1.in1.in1.handled=none:=by simp[hh]
    have ne1:l≠(s.heap.push (Dv led)).objs.size:=size▸aT (d7 lt)
    have out:s.heap.objs.size∉[(s.heap.push (Dv led)).objs.size,l]:=by
     simp only[size,aS,c6,or_false,not_or]
     exact⟨aT (dz _),cE lt⟩
    have W:=(Walks.list (prog:=prog) (w:=w) quiet (s.heap.push (Dv led)).objs.size l ne1 ψ).toS
    rw[hs] at W
    refine V2 (ks:=ks) W s.heap.objs.size out hv few ks.length 0 _ (cT _) ⟨⟨_,aK _ rfl,rfl,rfl⟩,isl.push _⟩ ?_ λs' mv fl=>?_
    .exact (setObjOf_fresh (knd:=knd) led).setOf (ah _ new) (by unfold scanBound;omega)
    .obtain⟨h',g',d',tk',os'⟩:=s'
     have e1:g'=s.gens:=mv.gens
     have e2:d'=s.drawn:=mv.drawn
     have e3:os'=s.os:=mv.os
     subst e1;subst e2;subst e3
     refine (show aW _ _ _ _ _ _ from aE (show aW _ _ (ret bT) _ _ _ from aE ⟨rfl,h',tk',rfl,fl,λb o hb e=>?_⟩))
     refine mv.heap b o ?_ (ah _ (ah _ e))
     simp only[size,aS,c6,or_false,not_or]
     exact⟨aT hb,aT (d7 hb)⟩
   .cases r2 with
    |error e=>exact hr2
    |ok f2=>
     cases f2 with
     |ret r=>
      obtain⟨rfl,h',tk,rfl,fl,kept⟩:=hr2
      repeat (any_goals (first|assumption|wp_step))
      exact h _ _ fl kept
     |_=>exact hr2.elim
  |_=>exact hr.elim
end
end PySem
namespace L2
open PySem PySem.Spec PyProof.Rows
section
variable {X:Cx} {e:Expr} {de:DE} {p p2 pos pos2:Pos}
noncomputable def Lv(K:ac):V->Hp->VK->Prop:=λx H Q=>match x with
 |.ref l=>∃ys:List Str,SqL K H l (ys.map V.str)/\ys.length<30/\Q (.int (Fd ys).length) H
 |_=>False
theorem aa8:∀ {ys:List Str} {us:List Value} {i:Nat} {v:Value},Vals (ys.map V.str) us->us[i]?=some v -> ∃k t,ys[i]?=some k/\v=.str k t
 |[],_,i,v,r,e=>by rw[gL] at r;cases r;simp at e
 | y::ys,_,i,v,r,e=>by
  rw[aY] at r
  cases r with
  |cons r1 r2=>
   obtain⟨t,rfl⟩:=r1
   cases i with
   |zero=>simp only[dA,jj] at e;exact⟨y,t,rfl,e.symm⟩
   |succ i=>simp only[cu] at e ⊢;exact aa8 r2 e
theorem a91(hc:X.calm=true)(I:Inv X ξ σ H s)(rx:RelV x u)(h:Lv X.K x H Q) :
  aW (model X.prog X.w) X.A (call (.type "set") [u]) (λv s1=>aW (model X.prog X.w) X.A (call (.builtin "len") [v]) (EP X ξ σ Q) X.xe s1) X.xe s:=by
 cases x with
 |ref l=>
  cases rx
  obtain⟨ys,hq,few,q⟩:=h
  obtain⟨χ,rv,pl,hz⟩:=I.list hq
  have hl:χ.length=ys.length:=by rw[<- rv.length,ae]
  refine bD (ak _) (V3 (knd:=PySem.strKind X.prog X.w) (ks:=ys) (I.ok.hd hc) pl.isList (λi v e=>?_) (by simpa using hl) (by unfold scanBound;omega) λh' tk fl kept htk=>?_)
  .obtain⟨k,t,ek,rfl⟩:=aa8 rv (by simpa using e)
   exact⟨k,ek,by show im k (.str k t)=true;simp[im],rfl⟩
  .have I1:Inv X ξ σ H { s with heap:=h',toks:=tk }:=I.kept (t':=tk) λb o e=>kept b o (aH e) e
   obtain⟨o,es,ep,t,ho,hex,hd,hel,hmem,hb,hf,hn⟩:=fl
   refine call_len_set ho hex hd hf ?_ ?_
   .have:=Vf ys
    rw[hn];omega
   .rw[hn]
    exact⟨.int _,H,I1.tok _,⟨_,rfl⟩,q⟩
 |_=>exact (show False from h).elim
end
abbrev Ko(H H':Hp):Prop:=∀b o,H b=some o->H' b=some o
def b15(H0 H:Hp)(kvs:List (Key×V))(Ts:List Addr):Prop:=∀(j:Nat) k v T,kvs[j]?=some (k,v)->Ts[j]?=some T->H0 T=none/\H T=some (.tup [kV k,v])
theorem bi4 {α β:Type}{F:α->β->Prop}:∀ {l:List α} {m:List β} {j:Nat} {a:α} {b:β},gr F l m->l[j]?=some a->m[j]?=some b->F a b
 |_,_,0,_,_,.cons r _,h,g=>by cases h;cases g;exact r
 |_,_,j+1,_,_,.cons _ t,h,g=>bi4 (j:=j) t h g
theorem Rg:∀as:List Addr,Vals (as.map V.ref) (as.map bh)
 |[]=>.nil
 |_::r=>.cons rfl (Rg r)
section
variable {β:Type}
theorem Sj:∀ {as:List Addr} {ks:List β} {b:Addr} {kv:β},(as.zip ks).lookup b=some kv -> ∃j:Nat,as[j]?=some b/\ks[j]?=some kv
 |[],_,_,_,h=>nomatch h
 |_::_,[],_,_,h=>nomatch h
 | a::as,k::ks,b,kv,h=>by
  rw[iV,gX] at h
  by_cases e:b=a
  .subst e
   rw[beq_self_eq_true] at h
   exact⟨0,rfl,h⟩
  .rw[beq_false_of_ne e] at h
   obtain⟨j,x,y⟩:=Sj h
   exact⟨j+1,x,y⟩
theorem bh8:∀ {as:List Addr} {ks:List β} {j:Nat} {b:Addr} {kv:β},as.Pairwise (· < ·)->as[j]?=some b->ks[j]?=some kv->(as.zip ks).lookup b=some kv
 |_::_,_::_,0,_,_,_,x,y=>by cases x;cases y;rw[iV,gX,beq_self_eq_true]
 | a::as,_::ks,j+1,b,_,p,x,y=>by
  have q:=List.pairwise_cons.mp p
  have:a<b:=q.1 b (ag x)
  rw[iV,gX,beq_false_of_ne (cE this)]
  exact bh8 (j:=j) q.2 x y
end
section
theorem Inv.lay(I:Inv X ξ σ H s)(k:∀b u,s.heap.get? b=some u->h'.get? b=some u)(up:Ko H H')(fr:∀b o,s.heap.get? b=some o->H b=none->H' b=none)(new:∀b o,H b=none->H' b=some o->ObjOk X.prog X.w H' h' b o)(ht:s.toks<=t'):Inv X ξ σ H' { s with heap:=h',toks:=t' }:=
 I.un ⟨λb u q _ _ _=>k b u q,λb u q _ _ _=>⟨u.slots,k b u q⟩,λb u q n _=>fr b u q n,λb u q _=>⟨u,k b u q⟩,λb xs q=>up _ _ q,λb o u q=>up _ _ q,λb ps q=>⟨#[],by rw[Array.append_empty];exact up _ _ q⟩⟩ (λb u e=>by
  cases hb:H b with
  |none=>exact new b u hb e
  |some u'=>
   have g:=up b u' hb
   rw[e] at g
   cases g
   exact (I.hok b u hb).stay (λc v _ q=>k c v q) (λc q=>up _ _ q) λc xs q=>up _ _ q) ht
noncomputable def K8(H:Hp)(l:Addr)(as:List Addr)(vs:List (V×V)):Hp:=λb=>if b=l then some (.lst (as.map V.ref)) else match (as.zip vs).lookup b with
 |some kv=>some (.tup [kv.1,kv.2])
 |none=>H b
theorem Inv.pairs(I:Inv X ξ σ H s)(k:∀b u,s.heap.get? b=some u->h'.get? b=some u)(hl:s.heap.objs.size<=l)(ab:∀a∈as,l<a)(few:as.length<=sizeLine)(hS:h'.get? l=some { cls:=.type "list", data:=.seq acc c })(hacc:acc.toList=as.map bh)(pr:∀(j:Nat) a kv,as[j]?=some a->vs[j]?=some kv -> ∃x y,RelV kv.1 x/\RelV kv.2 y/\h'.get? a=some { cls:=.type "tuple", data:=.seq #[x,y] })(ht:s.toks<=tk) :
  Inv X ξ σ (K8 H l as vs) { s with heap:=h',toks:=tk }/\Ko H (K8 H l as vs):=by
 have ln:∀(b:Addr) kv,(as.zip vs).lookup b=some kv->l<b:=λb kv q=>let ⟨j,x,_⟩:=Sj q;ab b (ag x)
 have low:∀b:Addr,b<s.heap.objs.size->K8 H l as vs b=H b:=λb lt=>by
  have lt:=aL lt hl
  unfold K8
  rw[if_neg (aT lt)]
  split
  .rename_i kv e
   exact absurd (ln b kv e) (Nat.not_lt.mpr (dD lt))
  .rfl
 have top:Ko H (K8 H l as vs):=λb o q=>by
  rw[low b (Nat.lt_of_not_le λz=>by rw[I.hok.fresh z] at q;cases q)]
  exact q
 refine⟨I.lay k top (λb o q n=>by rw[low b (aH q)];exact n) (λb o n q=>?_) ht,top⟩
 .unfold K8 at q
  split at q
  .rename_i e
   cases q
   subst e
   exact⟨by rw[ae];exact few,acc.toList,c,by rw[hacc];exact Rg as,by simpa using hS⟩
  .split at q
   .rename_i kv e
    cases q
    obtain⟨j,x,y⟩:=Sj e
    obtain⟨u,v,r1,r2,g⟩:=pr j b kv x y
    exact⟨(show 2<=sizeLine by decide),[u,v],.cons r1 (.cons r2 .nil),_,g,rfl,_,rfl⟩
   .rw[n] at q;cases q
theorem ba9 {l T:Addr}{as:List Addr}{vs:List (V×V)}{j:Nat}{kv:V×V}(ab:∀a∈as,l<a)(ri:as.Pairwise (· < ·))(x:as[j]?=some T)(y:vs[j]?=some kv):K8 H l as vs T=some (.tup [kv.1,kv.2]):=by
 have:=ab T (ag x)
 unfold K8
 rw[if_neg (cE this),bh8 ri x y]
theorem Xp {p:Addr}{kvs:List (Key×V)}{Q:Value->aF->Prop}(hc:X.calm=true)(I:Inv X ξ σ H s)(e:Rd H p (.dK kvs))(few:kvs.length<1000)(h:∀l Ts H' s',Inv X ξ σ H' s'->Ko H H'->H l=none->H' l=some (.lst (Ts.map V.ref))->Ts.length=kvs.length->b15 H H' kvs Ts->Q (.ref l) s') :
  aW (model X.prog X.w) X.A (call (.builtin "dict.items") [.ref p]) (λv s1=>aW (model X.prog X.w) X.A (call (.type "list") [v]) Q X.xe s1) X.xe s:=by
 obtain⟨z,lo,vs,rel,dof⟩:=Hj I.hok e
 obtain⟨ep,dat⟩:=dof.dictAt
 refine lZ jy dof.typeIs PySem.F.entry_dict_items (PySem.F.args_dict_items_1 _) (meets_dict_items _ p lo) ⟨⟨vs,dof⟩,?_⟩
 have zv:(s.heap.push { cls:=.type "dict_items", data:=.fields #[.ref p] }).objs.size=s.heap.objs.size+1:=cn ..
 have view:(s.heap.push { cls:=.type "dict_items", data:=.fields #[.ref p] }).get? s.heap.objs.size=some { cls:=.type "dict_items", data:=.fields #[.ref p] }:=aK _ rfl
 have on1:∀b o,s.heap.get? b=some o->(s.heap.push { cls:=.type "dict_items", data:=.fields #[.ref p] }).get? b=some o:=λb o q=>ah _ q
 generalize s.heap.push { cls:=.type "dict_items", data:=.fields #[.ref p] }=h1 at zv view on1 ⊢
 refine bD (ak _) (PySem.W.kdx_call (s:={ s with heap:=h1 }) (knd:=Bf X.prog X.w) (kvs:=vs) (ep:=ep) (I.ok.hd hc) ⟨_,view,rfl,rfl⟩ (dat.keep on1) (by rw[<- rel.length];exact z) λh' tk acc c as hk hS hl hG hacc htk=>?_)
 have le:s.heap.objs.size<=h1.objs.size:=by omega
 obtain⟨I',top⟩:=I.pairs (tk:=tk) (vs:=kvs.map λkv=>(kV kv.1,kv.2)) (λb u q=>hk b u (on1 b u q)) le hG.above (by rw[hl,<- rel.length];exact z) hS hacc (λj a kv x y=>by
  rw[aj] at y
  obtain⟨q,hq,rfl⟩:=Option.map_eq_some_iff.mp y
  obtain⟨key,k,v,e1,e2,e3⟩:=hG.pairs j a x
  obtain⟨r1,r2⟩:=bi4 rel hq e1
  refine⟨key,v,?_,r2,e3⟩
  show RelV (kV q.1) key
  rw[r1]
  rcases Bl (show K2 k key=true from e2) with ⟨i,t,rfl,rfl⟩|⟨x,t,rfl,rfl⟩
  .exact⟨t,rfl⟩
  .exact⟨t,rfl⟩) htk
 refine h _ as _ _ I' top (I.hok.fresh le) (if_pos rfl) (by rw[hl,rel.length]) λj k v T x y=>⟨I.hok.fresh (aw le (dD (hG.above T (ag y)))),?_⟩
 exact ba9 (kv:=(kV k,v)) hG.above hG.rise y (by rw[aj,x];rfl)
end
section
noncomputable def bi7(K:ac):R2:=λx y H Q=>∃a b ys,x=.ref a/\y=.ref b/\SqT K H a []/\SqT K H b ys/\Q (.ref b) H
theorem ba3:OpR X (dO .Add) (bi7 X.K):=by
 intro ξ s σ H x y v u Q I rx ry h
 obtain⟨a,b,ys,rfl,rfl,ha,hb,q⟩:=h
 cases rx
 cases ry
 obtain⟨χ,r1,p1,_⟩:=I.tuple ha
 obtain⟨its2,r2,p2,_⟩:=I.tuple hb
 cases r1
 obtain⟨⟨c1,d1,da1,s1⟩,ho,hc,n,hd⟩:=id p1
 obtain⟨⟨c2,d2,da2,s2⟩,ho2,hc2,n2,hd2⟩:=id p2
 simp only at hc hd hc2 hd2
 subst hc hd hc2 hd2
 exact l7 ⟨_,ho,rfl⟩ ⟨_,ho2,rfl⟩ jJ lE gu f9 (fK _ _)
   (tuple_addW0 a b _ _ n n2 d1 d2 s1 s2 rfl) ⟨ho,ho2,⟨.ref b,H,I,rfl,q⟩⟩
theorem Zt(hu:X.A.units+64<cLine):IxR X (λx y H Q=>∃a v,x=.ref a/\DGet H a y (some v)/\Q v H):=by
 intro value slice ξ s σ H x y v u Q I rx ry h hs
 obtain⟨a,w',rfl,g,q⟩:=h
 cases rx
 exact tail_any (U4 I g) PySem.F.slot_dict_getitem.lookup (ad6 (by omega) I g ry λw1 s' I' r'=>⟨w',H,I',r',q⟩) hs
end
end L2
namespace PySem
open PyProof.Rows
section
theorem C9 {it t:Addr}{i:Nat}{ψ}{x:Value}{Q:Value->aF->Prop}(hit:s.heap.IsTupleIter it t i)(ht:s.heap.IsTuple t ψ)(hx:ψ[i]?=some x)(hQ:∀h',h'.IsTupleIter it t (i+1)->bE it s.heap h'->Q x { s with heap:=h' }) :
  aW (model prog w) A (bj (.ref it)) Q E s:=by
 obtain⟨o,ho,hc,hd⟩:=id hit
 obtain⟨ol,hol,_,nl,hdl⟩:=ht
 unfold bj
 refine ai (dB (name:=cM "__next__") hit.typeIs iN
  (dM iN hit.typeIs F.entry_tuple_iterator_next ?_ (F.args_tuple_iterator_next_1 _)))
 show aW _ _ (mN (.ref it) 0 >>= _) _ _ s
 refine ai (b5 ho hd (x:=.ref t) rfl ?_)
 show aW _ _ (if (bh t==bT)=true then _ else _) _ _ s
 rw[if_neg (show ¬ ((bh t==bT)=true) from av)]
 show aW _ _ (mN (.ref it) 1 >>= _) _ _ s
 refine ai (b5 ho hd (x:=.int i 0) rfl ?_)
 show aW _ _ (mq (.ref t) >>= _) _ _ s
 refine ai (dW hol hdl ?_)
 simp only[aI,hx]
 refine ai (gI ho hd (by simp) (aE ⟨x,rfl,aE (hQ _ ?_ (cC ..))⟩))
 exact⟨_,cr _ ho (gO (lh hd _)),(Obj.cls_mapFields ..).trans hc,by
  rw[lh hd];simp[fP]⟩
noncomputable def ZipAt(h:Heap)(z TI TO i1 i2 l t:Addr)(k:Nat):Prop:=
 kF h TI (.ref i1) (.ref i2)/\(∃a b,kF h TO a b)/\h.IsListIter i1 l k/\h.IsTupleIter i2 t k/\(l_ h z TI TO .none \/
  ∃(c:Nat)(f1:Value)(o:Obj),h.get? z=some { cls:=.type "zip", dict:=none,data:=.fields #[fP c,f1,.bool false,.ref TI,.ref TO],slots:=#[] }/\c≠z/\c≠i1/\c≠i2/\h.get? c=some o)
theorem ZipAt.on(x:ZipAt h z TI TO i1 i2 l t k)(hk:∀b o,b≠S->h.get? b=some o->h'.get? b=some o)(hS:∀o,h.get? S=some o -> ∃o',h'.get? S=some o')(n1:z≠S)(n2:TI≠S)(n3:TO≠S)(n4:i1≠S)(n5:i2≠S):ZipAt h' z TI TO i1 i2 l t k:=by
 obtain⟨a,⟨u,v,q⟩,b,c,d⟩:=x
 refine⟨hk _ _ n2 a,⟨u,v,hk _ _ n3 q⟩,b.at λo e=>hk _ o n4 e,?_,?_⟩
 .obtain⟨o,e,r⟩:=c;exact⟨o,hk _ o n5 e,r⟩
 .rcases d with p|⟨c,f1,o,p,q1,q2,q3,q4⟩
  .exact .inl (hk _ _ n1 p)
  .by_cases e:c=S
   .subst e
    obtain⟨o',e'⟩:=hS o q4
    exact .inr ⟨_,f1,o',hk _ _ n1 p,q1,q2,q3,e'⟩
   .exact .inr ⟨c,f1,o,hk _ _ n1 p,q1,q2,q3,hk _ o e q4⟩
theorem Qz {h:Heap}{z TI TO:Addr}{c:Int}{f1 f2 f3 f4:Value}(e:h.get? z=some { cls:=.type "zip", dict:=none,data:=.fields #[fP c,f1,f2,f3,f4],slots:=#[] }):¬ l_ h z TI TO .none:=λq=>by
 have q:h.get? z=some { cls:=.type "zip", dict:=none,data:=.fields #[.none,.bool false,.bool false,.ref TI,.ref TO],slots:=#[] }:=q
 rw[e] at q
 simp[fP] at q
theorem Wt {c:Nat}{oc:Obj}{α:Type}{k:Option Obj->Sem α}{Q':α->aF->Prop}(hc:s.heap.get? c=some oc)(h:aW (model prog w) A (k (some oc)) Q' E s):aW (model prog w) A (loadIfAlive (c:Int).toNat >>= k) Q' E s:=λΓ p hΓ=>by
 have z:=h Γ p hΓ
 show Sem.wp _ _ (Sem.loadIfAlive (c:Int).toNat λx=>k x) _ _ _ _
 rw[Sem.wp_loadIfAlive,aI,hc]
 exact z
theorem aj1 {z TI TO i1 i2 l t:Addr}{k:Nat}{xs ys:Array Value}{x y:Value}{Q:Value->aF->Prop}(D:md z TI TO i1 i2 l t)(hz:ZipAt s.heap z TI TO i1 i2 l t k)(hl1:s.heap.IsList l xs)(hl2:s.heap.IsTuple t ys)(hx:xs[k]?=some x)(hy:ys[k]?=some y)(hQ:∀h',ZipAt h' z TI TO i1 i2 l t (k+1) -> ¬ l_ h' z TI TO .none->kF h' s.heap.objs.size x y->(∀c o,c≠z->c≠TO->c≠i1->c≠i2->s.heap.get? c=some o->h'.get? c=some o)->Q (.ref s.heap.objs.size) { s with heap:=h' }) :
  aW (model prog w) A (az.«zip.__next__» ⟨[.ref z],[]⟩) (λfin s'=>∃v,fin=.done (.ret v)/\Q v s') E s:=by
 obtain⟨hTI,⟨a,b,hTO⟩,h1,h2,hz⟩:=hz
 have tup:∀ {h:Heap} {h':Heap} {c:Addr},h.IsTuple t ys->bE c h h'->t≠c->h'.IsTuple t ys:=λa b n=>by obtain⟨o,e,r⟩:=a;exact⟨o,(b.2 t n).trans e,r⟩
 have ti:∀ {h:Heap} {h':Heap} {c:Addr} {k:Nat},h.IsTupleIter i2 t k->bE c h h'->i2≠c->h'.IsTupleIter i2 t k:=λa b n=>by obtain⟨o,e,r⟩:=a;exact⟨o,(b.2 i2 n).trans e,r⟩
 rcases hz with hz|⟨c,f1,oc,hz,nc1,nc2,nc3,hc⟩
 .show aW _ _ (mN (.ref z) 2 >>= _) _ _ _
  refine ai (b5 hz rfl (x:=.bool false) rfl ?_)
  show aW _ _ (mN (.ref z) 3 >>= _) _ _ _
  refine ai (b5 hz rfl (x:=.ref TI) rfl ?_)
  refine ai (dW hTI rfl ?_)
  show aW _ _ (bP (.ref z) >>= _) _ _ _
  refine ai ?_
  unfold bP
  refine ai (b5 hz rfl (x:=.none) rfl (aE ?_))
  simp only[if_true]
  refine ai (lQ ?_)
  refine ai (b5 hz rfl (x:=.ref TO) rfl ?_)
  refine ai (eQ hz (by simp) λh₁ hz₁ hs₁=>?_)
  replace hz₁:l_ h₁ z TI TO .ellipsis:=hz₁
  refine ai ?_
  simp only[List.zipIdx_cons,List.zipIdx_nil,fX,i3]
  refine ai (ai (lH ?_))
  show aW _ _ (bj (.ref i1) >>= _) _ _ _
  refine ai (jV (h1.extBut hs₁.extBut D.i1z) (hl1.extBut hs₁.extBut D.l1z) hx λh₂ h1₂ hs₂=>aE ?_)
  have hTO₂:kF h₂ TO a b:=hs₂.extBut _ _ D.TOi1 (hs₁.extBut _ _ D.TOz hTO)
  refine ai (dW hTO₂ rfl ?_)
  refine ai (kE hTO₂ λh₃ hTO₃ hs₃=>?_)
  replace hTO₃:kF h₃ TO x b:=hTO₃
  refine ai (my (aE ?_))
  refine ai (ai (lH ?_))
  show aW _ _ (bj (.ref i2) >>= _) _ _ _
  refine ai (C9 (ti (ti (ti h2 hs₁ D.i2z) hs₂ D.i12.symm) hs₃ D.TOi2.symm) (tup (tup (tup hl2 hs₁ D.l2z) hs₂ D.l2i1) hs₃ D.l2TO) hy λh₄ h2₄ hs₄=>aE ?_)
  have hTO₄:kF h₄ TO x b:=hs₄.extBut _ _ D.TOi2 hTO₃
  refine ai (dW hTO₄ rfl ?_)
  refine ai (kE hTO₄ λh₅ hTO₅ hs₅=>?_)
  replace hTO₅:kF h₅ TO x y:=hTO₅
  refine ai (my (aE (aE ?_)))
  refine ai (dW hTO₅ rfl ?_)
  refine ai (i_ ?_)
  have hsz:h₅.objs.size=s.heap.objs.size:=by rw[hs₅.1,hs₄.1,hs₃.1,hs₂.1,hs₁.1]
  have hz₅:l_ h₅ z TI TO .ellipsis:=hs₅.extBut _ _ D.TOz.symm (hs₄.extBut _ _ D.i2z.symm (hs₃.extBut _ _ D.TOz.symm (hs₂.extBut _ _ D.i1z.symm hz₁)))
  have hk₅:∀c o,c≠z->c≠TO->c≠i1->c≠i2->s.heap.get? c=some o->h₅.get? c=some o:=λc o c1 c2 c3 c4 e=>
   hs₅.extBut _ _ c2 (hs₄.extBut _ _ c4 (hs₃.extBut _ _ c2 (hs₂.extBut _ _ c3 (hs₁.extBut _ _ c1 e))))
  have h1₅:h₅.IsListIter i1 l (k+1):=((h1₂.extBut hs₃.extBut D.TOi1.symm).extBut hs₄.extBut D.i12).extBut hs₅.extBut D.TOi1.symm
  have h2₅:h₅.IsTupleIter i2 t (k+1):=ti h2₄ hs₅ D.TOi2.symm
  have hzlt:z<h₅.objs.size:=aH hz₅
  have hTOlt:TO<h₅.objs.size:=aH hTO₅
  have hi1lt:i1<h₅.objs.size:=by obtain⟨_,e,_⟩:=h1₅;exact aH e
  have hi2lt:i2<h₅.objs.size:=by obtain⟨_,e,_⟩:=h2₅;exact aH e
  show aW _ _ (fm (.ref z) (.ref h₅.objs.size) >>= _) _ _ _
  refine ai ?_
  unfold fm
  have hz₆:l_ (h₅.push { cls:=.type "tuple", data:=.seq #[x,y] }) z TI TO .ellipsis:=ah _ hz₅
  refine ai (eQ hz₆ (by simp) λh₇ hz₇ hs₇=>?_)
  replace hz₇:l_ h₇ z TI TO (fP h₅.objs.size):=hz₇
  refine eQ hz₇ (by simp) λh₈ hz₈ hs₈=>?_
  replace hz₈:l_ h₈ z TI TO (fP h₅.objs.size):=hz₈
  have up:∀c o,c≠z->h₅.get? c=some o->h₈.get? c=some o:=λc o c1 e=>hs₈.extBut _ _ c1 (hs₇.extBut _ _ c1 (ah _ e))
  have hT₈:kF h₈ h₅.objs.size x y:=hs₈.extBut _ _ (cE hzlt) (hs₇.extBut _ _ (cE hzlt) (aK _ rfl))
  rw[hsz] at hz₈ hT₈
  refine aE ⟨_,rfl,?_⟩
  show Q (.ref h₅.objs.size) _
  rw[hsz]
  rw[hsz] at hzlt hi1lt hi2lt
  refine hQ h₈ ⟨up _ _ D.TIz (hk₅ _ _ D.TIz D.TITO D.TIi1 D.TIi2 hTI),⟨_,_,up _ _ D.TOz hTO₅⟩,h1₅.at λo e=>up _ o D.i1z e,?_,.inr ⟨s.heap.objs.size,_,_,hz₈,cE hzlt,cE hi1lt,cE hi2lt,hT₈⟩⟩ (Qz hz₈) hT₈ λc o c1 c2 c3 c4 e=>up c o c1 (hk₅ c o c1 c2 c3 c4 e)
  obtain⟨o,e,r⟩:=h2₅
  exact⟨o,up _ o D.i2z e,r⟩
 .show aW _ _ (mN (.ref z) 2 >>= _) _ _ _
  refine ai (b5 hz rfl (x:=.bool false) rfl ?_)
  show aW _ _ (mN (.ref z) 3 >>= _) _ _ _
  refine ai (b5 hz rfl (x:=.ref TI) rfl ?_)
  refine ai (dW hTI rfl ?_)
  show aW _ _ (bP (.ref z) >>= _) _ _ _
  refine ai ?_
  unfold bP
  refine ai (b5 hz rfl (x:=fP c) rfl ?_)
  show aW _ _ (loadIfAlive (c:Int).toNat >>= _) _ _ s
  refine Wt hc ?_
  simp only[ll,ck,if_false]
  refine ai (b5 hz rfl (x:=f1) rfl ?_)
  refine ku (λcf=>ai (eQ hz (by simp) λh₁ hz₁ hs₁=>aE ?_)) (λcf=>aE ?_)
  rotate_left
  have hs₁:bE z s.heap s.heap:=⟨rfl,λ_ _=>rfl⟩
  have hz₁:=hz
  obtain⟨h₁,eh⟩:∃h₁,h₁=s.heap:=⟨_,rfl⟩
  rw[show s={ s with heap:=h₁ } by rw[eh]]
  rw[<- eh] at hz₁
  replace hs₁:bE z s.heap h₁:=by rw[eh];exact hs₁
  clear eh
  all_goals
   simp only[ck,if_false]
   rw[<- iR]
   simp only[fX,i3]
   refine ai (ai (ai (bJ ?_)))
   show aW _ _ (bj (.ref i1) >>= _) _ _ _
   refine ai (jV (h1.extBut hs₁.extBut D.i1z) (hl1.extBut hs₁.extBut D.l1z) hx λh₂ h1₂ hs₂=>aE ?_)
   refine aE ?_
   dsimp only
   refine ai (ai (bJ ?_))
   show aW _ _ (bj (.ref i2) >>= _) _ _ _
   refine ai (C9 (ti (ti h2 hs₁ D.i2z) hs₂ D.i12.symm) (tup (tup hl2 hs₁ D.l2z) hs₂ D.l2i1) hy λh₄ h2₄ hs₄=>aE ?_)
   refine aE (aE ?_)
   dsimp only
   refine ai (i_ ?_ (by show 2<=_;rw[ce];decide))
   have hs₂:bE i1 h₁ h₂:=hs₂
   have hs₄:bE i2 h₂ h₄:=hs₄
   have hsz:h₄.objs.size=s.heap.objs.size:=by rw[hs₄.1,hs₂.1,hs₁.1]
   show aW _ _ (ret (.ref h₄.objs.size)) _ _ { s with heap:=h₄.push { cls:=.type "tuple", data:=.seq #[x,y] } }
   refine aE ⟨_,rfl,?_⟩
   have up:∀c o,c≠z->c≠i1->c≠i2->s.heap.get? c=some o->(h₄.push { cls:=.type "tuple", data:=.seq #[x,y] }).get? c=some o:=λc o n1 n3 n4 e=>ah _ (hs₄.extBut _ _ n4 (hs₂.extBut _ _ n3 (hs₁.extBut _ _ n1 e)))
   have tp:(h₄.push { cls:=.type "tuple", data:=.seq #[x,y] }).get? h₄.objs.size=some { cls:=.type "tuple", data:=.seq #[x,y] }:=aK _ rfl
   rw[hsz] at tp ⊢
   refine hQ _ ⟨up _ _ D.TIz D.TIi1 D.TIi2 hTI,⟨_,_,up _ _ D.TOz D.TOi1 D.TOi2 hTO⟩,?_,?_,.inr ⟨c,_,oc,ah _ (hs₄.extBut _ _ D.i2z.symm (hs₂.extBut _ _ D.i1z.symm hz₁)),nc1,nc2,nc3,up _ _ nc1 nc2 nc3 hc⟩⟩ (Qz (ah _ (hs₄.extBut _ _ D.i2z.symm (hs₂.extBut _ _ D.i1z.symm hz₁)))) tp λc o n1 n2 n3 n4 e=>up c o n1 n3 n4 e
   .exact (h1₂.extBut hs₄.extBut D.i12).at λo e=>ah _ e
   .obtain⟨o,e,r⟩:=h2₄
    exact⟨o,ah _ e,r⟩
theorem a34 {z TI TO i1 i2 l t:Addr}{k:Nat}{xs:Array Value}{Q:Fin->aF->Prop}(hh:A.handled=none)(D:md z TI TO i1 i2 l t)(hz:ZipAt s.heap z TI TO i1 i2 l t k)(hn:¬ l_ s.heap z TI TO .none)(hl1:s.heap.IsList l xs)(hx:xs[k]?=none)(hE:∀h' e,(∀c o,c≠z->c≠i1->s.heap.get? c=some o->h'.get? c=some o)->(∃o,h'.get? e=some o/\o.cls=.type "StopIteration")->E (.ref e) { s with heap:=h' }) :
  aW (model prog w) A (az.«zip.__next__» ⟨[.ref z],[]⟩) Q E s:=by
 obtain⟨hTI,_,h1,h2,hz⟩:=hz
 rcases hz with hz|⟨c,f1,oc,hz,nc1,nc2,nc3,hc⟩
 .exact absurd hz hn
 .show aW _ _ (mN (.ref z) 2 >>= _) _ _ _
  refine ai (b5 hz rfl (x:=.bool false) rfl ?_)
  show aW _ _ (mN (.ref z) 3 >>= _) _ _ _
  refine ai (b5 hz rfl (x:=.ref TI) rfl ?_)
  refine ai (dW hTI rfl ?_)
  show aW _ _ (bP (.ref z) >>= _) _ _ _
  refine ai ?_
  unfold bP
  refine ai (b5 hz rfl (x:=fP c) rfl ?_)
  show aW _ _ (loadIfAlive (c:Int).toNat >>= _) _ _ s
  refine Wt hc ?_
  simp only[ll,ck,if_false]
  refine ai (b5 hz rfl (x:=f1) rfl ?_)
  refine ku (λcf=>ai (eQ hz (by simp) λh₁ hz₁ hs₁=>aE ?_)) (λcf=>aE ?_)
  rotate_left
  .have hs₁:bE z s.heap s.heap:=⟨rfl,λ_ _=>rfl⟩
   revert hs₁
   rcases s with ⟨h₁,g,d,tk,os⟩
   intro hs₁
   simp only[ck,if_false]
   rw[<- iR]
   simp only[fX,i3]
   refine ai (ai (ai (bJ ?_)))
   show aW _ _ (bj (.ref i1) >>= _) _ _ _
   exact ai (ky hh (h1.extBut hs₁.extBut D.i1z) (hl1.extBut hs₁.extBut D.l1z) hx λh₂ e hs₂ he=>hE h₂ e (λc o n1 n3 q=>hs₂ _ _ n3 (hs₁.extBut _ _ n1 q)) he)
  .simp only[ck,if_false]
   rw[<- iR]
   simp only[fX,i3]
   refine ai (ai (ai (bJ ?_)))
   show aW _ _ (bj (.ref i1) >>= _) _ _ _
   exact ai (ky hh (h1.extBut hs₁.extBut D.i1z) (hl1.extBut hs₁.extBut D.l1z) hx λh₂ e hs₂ he=>hE h₂ e (λc o n1 n3 q=>hs₂ _ _ n3 (hs₁.extBut _ _ n1 q)) he)
theorem aj3(D:md z TI TO i1 i2 l t)(hz:ZipAt s.heap z TI TO i1 i2 l t k)(hl1:s.heap.IsList l xs)(hl2:s.heap.IsTuple t ys)(hx:xs[k]?=some x)(hy:ys[k]?=some y)(hQ:∀h',ZipAt h' z TI TO i1 i2 l t (k+1) -> ¬ l_ h' z TI TO .none->kF h' s.heap.objs.size x y->(∀c o,c≠z->c≠TO->c≠i1->c≠i2->s.heap.get? c=some o->h'.get? c=some o)->Q (some (.ref s.heap.objs.size)) { s with heap:=h' }) :
  aW (model prog w) A (iW (.ref z)) Q E s:=by
 have hT:s.TypeIs (.ref z) "zip" := by
  obtain⟨_,_,_,_,e|⟨c,f1,oc,e,_⟩⟩:=hz
  .exact⟨_,e,rfl⟩
  .exact⟨_,e,rfl⟩
 unfold iW
 exact ai (io (dB (name:=cM "__next__") hT iy
  (dM iy hT F.entry_zip_next
   (aj1 D hz hl1 hl2 hx hy λh' a1 a2 a3 a4=>aE (hQ h' a1 a2 a3 a4)) (F.args_zip_next_1 _))))
theorem aj2(hh:A.handled=none)(D:md z TI TO i1 i2 l t)(hz:ZipAt s.heap z TI TO i1 i2 l t k)(hn:¬ l_ s.heap z TI TO .none)(hl1:s.heap.IsList l xs)(hx:xs[k]?=none)(hQ:∀h',(∀c o,c≠z->c≠i1->s.heap.get? c=some o->h'.get? c=some o)->Q none { s with heap:=h' }):aW (model prog w) A (iW (.ref z)) Q E s:=by
 have hT:s.TypeIs (.ref z) "zip" := by
  obtain⟨_,_,_,_,e|⟨c,f1,oc,e,_⟩⟩:=hz
  .exact⟨_,e,rfl⟩
  .exact⟨_,e,rfl⟩
 unfold iW
 refine ai (io (dB (name:=cM "__next__") hT iy
  (dM iy hT F.entry_zip_next (a34 hh D hz hn hl1 hx λh' e hk he=>?_) (F.args_zip_next_1 _))))
 obtain⟨o,ho,hc⟩:=he
 refine ai (wpAny_isInstance (T := "StopIteration") (b:=true) ⟨o,ho,hc⟩ isSubtype_stop ?_)
 exact aE (hQ _ hk)
end
abbrev ab6(h:Heap)(l1 l2:Addr):Heap:=(zipH1 h l1).push { cls:=.type "tuple_iterator", data:=.fields #[.ref l2,.int 0 0] }
abbrev ab7(h:Heap)(l1 l2:Addr):Heap:=(ab6 h l1 l2).push { cls:=.type "tuple", data:=.seq #[.ref h.objs.size,.ref (zipH1 h l1).objs.size] }
abbrev ab8(h:Heap)(l1 l2:Addr):Heap:=(ab7 h l1 l2).push { cls:=.type "tuple", data:=.seq #[.none,.none] }
noncomputable abbrev Oo(h:Heap)(l1 l2:Addr):Heap:=(ab8 h l1 l2).push { cls:=.type "zip", data:=.fields #[.none,.bool false,.bool false,.ref (ab6 h l1 l2).objs.size,.ref (ab7 h l1 l2).objs.size] }
theorem M8(l1 l2:Addr)(xs ys:Array Value) :
  Meets (az.«zip.__new__» ⟨[.type "zip", .ref l1,.ref l2],[]⟩) (λ_ R s=>s.heap.IsList l1 xs/\s.heap.IsTuple l2 ys /\
   R (.ok (.ret (.ref (ab8 s.heap l1 l2).objs.size))) { s with heap:=Oo s.heap l1 l2 }):=
 .of_wp λprog w A R s h=>by
  obtain⟨hp,g,d,tk,os⟩:=s;obtain⟨hl1,hl2,h⟩:=h
  have hsub:=sub_zip
  have hL1:Heap.IsList (Shared.heap ⟨hp,g,d,tk,os⟩) l1 xs:=hl1
  have hL2:Heap.IsTuple (Shared.heap ⟨hp.push { cls:=.type "list_iterator", data:=.fields #[.ref l1,.int 0 0] },g,d,tk,os⟩) l2 ys:=by obtain⟨o,e,r⟩:=hl2;exact⟨o,ah _ e,r⟩
  wp_walk using gG hL1,lJ hL2
  exact⟨_,rfl,h⟩
section
theorem ac9(hl1:s.heap.IsList l1 xs)(hl2:s.heap.IsTuple l2 ys)(h:∀h',l_ h' (s.heap.objs.size+4) (s.heap.objs.size+2) (s.heap.objs.size+3) .none->kF h' (s.heap.objs.size+2) (.ref s.heap.objs.size) (.ref (s.heap.objs.size+1)) ->
   kF h' (s.heap.objs.size+3) .none .none->h'.IsListIter s.heap.objs.size l1 0->h'.IsTupleIter (s.heap.objs.size+1) l2 0->h'.objs.size=s.heap.objs.size+5 ->
   (∀c o,s.heap.get? c=some o->h'.get? c=some o)->Q (.ref (s.heap.objs.size+4)) { s with heap:=h' }) :
  aW (model prog w) A (call (.type "zip") [.ref l1,.ref l2]) Q E s:=by
 refine callType_new F.called_zip (by decide) (F.typeCall_zip_2 _ _) (F.newCall_zip_2 _ _) (λobj=>F.args_object_init_3 obj _ _) F.entry_zip_new
  (M8 l1 l2 xs ys) ⟨hl1,hl2,?_⟩
 have z1:(zipH1 s.heap l1).objs.size=s.heap.objs.size+1:=cn ..
 have z2:(ab6 s.heap l1 l2).objs.size=s.heap.objs.size+2:=by rw[cn,z1]
 have z3:(ab7 s.heap l1 l2).objs.size=s.heap.objs.size+3:=by rw[cn,z2]
 have z4:(ab8 s.heap l1 l2).objs.size=s.heap.objs.size+4:=by rw[cn,z3]
 have z5:(Oo s.heap l1 l2).objs.size=s.heap.objs.size+5:=by rw[cn,z4]
 have g5:(Oo s.heap l1 l2).get? (ab8 s.heap l1 l2).objs.size=some _:=aK _ rfl
 have g4:(Oo s.heap l1 l2).get? (ab7 s.heap l1 l2).objs.size=some _:=ah _ (aK _ rfl)
 have g3:(Oo s.heap l1 l2).get? (ab6 s.heap l1 l2).objs.size=some _:=ah _ (ah _ (aK _ rfl))
 have g2:(Oo s.heap l1 l2).get? (zipH1 s.heap l1).objs.size=some _:=ah _ (ah _ (ah _ (aK _ rfl)))
 have g1:(Oo s.heap l1 l2).get? s.heap.objs.size=some _:=ah _ (ah _ (ah _ (ah _ (aK _ rfl))))
 show _/\_
 rw[z2,z3,z4] at g5
 rw[z1,z2] at g3
 rw[z3] at g4
 rw[z1] at g2
 rw[z4]
 exact⟨⟨_,g5,rfl⟩,h _ g5 g3 g4 ⟨_,g1,rfl,rfl⟩ ⟨_,g2,rfl,rfl⟩ z5 λc o x=>
  ah _ (ah _ (ah _ (ah _ (ah _ x))))⟩
end
end PySem
namespace L2
open PySem PySem.Spec PyProof.Rows
section
variable {X:Cx} {ξ:List (Addr×Obj)} {σ:St} {A:cj} {E:Value->aF->Prop} {R:mz->aF->Prop} {z TI TO i1 i2 l t S:Addr} {xs ys:List V} {res:Value}
def Y3(H0 H:Hp)(xs ys:List V)(Ts:List Addr):Prop:=∀(j:Nat) x y T,xs[j]?=some x->ys[j]?=some y->Ts[j]?=some T->H0 T=none/\H T=some (.tup [x,y])
theorem a36(H0:Hp)(hh:A.handled=none)(D:md z TI TO i1 i2 l t)(nS:z≠S/\TI≠S/\TO≠S/\i1≠S/\i2≠S/\∀o,¬ H0 S=some o)(hl0:H0 l=some (.lst xs))(ht0:H0 t=some (.tup ys))(len:xs.length=ys.length)(pos:0<xs.length)(small:xs.length<sizeLine)(left:Nat) :
  ∀(i:Nat)(s:aF)(H:Hp)(Ts:List Addr),i+left=xs.length->Inv X ξ σ H s->(∀b∈[z,TO,i1,i2],Eu X ξ H b)->(∀b o,b≠S->H0 b=some o->H b=some o)->H S=some (.lst (Ts.map V.ref))->H0 S=none->ZipAt s.heap z TI TO i1 i2 l t i->(0<i -> ¬ l_ s.heap z TI TO .none)->Ts.length=i ->
   Y3 H0 H xs ys Ts->(∀s' H' Ts',Inv X ξ σ H' s'->Ko H0 H'->H' S=some (.lst (Ts'.map V.ref))->Ts'.length=xs.length->Y3 H0 H' xs ys Ts'->R (.ok (.ret res)) s') ->
   gA (model X.prog X.w) A (.builtin "list.extend.loop" ⟨[.ref S,.ref z,res],[]⟩) R s:=by
 have nl:l≠S:=λe=>by rw[e] at hl0;exact nS.2.2.2.2.2 _ hl0
 have nt:t≠S:=λe=>by rw[e] at ht0;exact nS.2.2.2.2.2 _ ht0
 have off:∀ {b:Addr},b∉[z,TO,i1,i2]->b≠z/\b≠TO/\b≠i1/\b≠i2:=λhb=>by
  simpa using hb
 induction left with
 |zero=>
  intro i s H Ts hi I fp top hS h0 at1 nz hl laid hR
  refine dq kN (cZ ix _ ▸ ?_)
  show aW _ A.in1 (iW (.ref z) >>= _) _ _ s
  obtain⟨χ,ri,pl,_⟩:=I.list (SqL.of (top l _ nl hl0))
  have e1:=ri.length
  refine ai (aj2 hh D at1 (nz (by omega)) pl.isList (by simp;omega) λh' ext=>aE (hR _ H Ts ?_ (λb o e=>top b o (λz=>by rw[z,h0] at e;cases e) e) hS (by omega) laid))
  exact I.turnedL (t':=s.toks) (ch:=[z,TO,i1,i2]) fp λb o hb e=>ext b o (off hb).1 (off hb).2.2.1 e
 |succ left ih=>
  intro i s H Ts hi I fp top hS h0 at1 nz hl laid hR
  obtain⟨χ,ri,pl,_⟩:=I.list (SqL.of (top l _ nl hl0))
  obtain⟨its2,ri2,pl2,_⟩:=I.tuple (SqT.of (top t _ nt ht0))
  have hx:xs[i]?=some (xs[i]'(by omega)):=af _
  have hy:ys[i]?=some (ys[i]'(by omega)):=af _
  generalize xs[i]'(by omega)=x at hx
  generalize ys[i]'(by omega)=y at hy
  obtain⟨u,hu,ru⟩:=ri.get hx
  obtain⟨v,hv,rv⟩:=ri2.get hy
  refine dq kN (cZ ix _ ▸ ?_)
  show aW _ A.in1 (iW (.ref z) >>= _) _ _ s
  refine ai (aj3 D at1 pl.isList pl2 (x:=u) (y:=v) (by simpa using hu) (by simpa using hv) λh' at2 nz2 t2 all2=>?_)
  have fresh:H s.heap.objs.size=none:=I.hok.fresh (ak _)
  have ltS:S<s.heap.objs.size:=(I.hok S _ hS).lt
  have lts:∀b∈[z,TO,i1,i2],b≠s.heap.objs.size:=λb hb=>by
   obtain⟨q1,⟨_,_,q0⟩,⟨o1,q2,_⟩,⟨o2,q3,_⟩,q4⟩:=at1
   have hb:b=z\/b=TO\/b=i1\/b=i2:=by simpa using hb
   rcases hb with rfl|rfl|rfl|rfl
   .rcases q4 with q|⟨_,_,_,q,_⟩
    .exact aT (aH q)
    .exact aT (aH q)
   .exact aT (aH q0)
   .exact aT (aH q2)
   .exact aT (aH q3)
  have I1:Inv X ξ σ (upd H s.heap.objs.size (.tup [x,y])) { s with heap:=h' }:=
   I.turnedN (t':=s.toks) (ch:=[z,TO,i1,i2]) fp (λb o hb e=>all2 b o (off hb).1 (off hb).2.1 (off hb).2.2.1 (off hb).2.2.2 e) (ak _) ⟨by show 2<=sizeLine;decide,[u,v],.cons ru (.cons rv .nil),⟨_,t2,rfl,_,rfl⟩⟩
  have S1:upd H s.heap.objs.size (.tup [x,y]) S=some (.lst (Ts.map V.ref)):=by rw[Ai (aT ltS)];exact hS
  obtain⟨its3,n,r,ho,hz⟩:=I1.lst S1
  have li:its3.length=i:=by rw[<- r.length,ae];exact hl
  show aW _ A.in1 (mw S (·.push (.ref s.heap.objs.size)) >>= _) _ _ { s with heap:=h' }
  refine ai ?_
  refine iL ho rfl (aE ⟨gh ix _,?_⟩) (by rw[aB,li];omega) (by show (its3.toArray.push _).size<=sizeLine+1;rw[Array.size_push,aB,li];omega)
  have I2:=I1.lset (t':=s.toks) (f:=λz=>z.push (.ref s.heap.objs.size)) (its':=its3++[.ref s.heap.objs.size]) (ys:=(Ts++[s.heap.objs.size]).map V.ref) S1 ho (by simp) (by rw[au];exact r.append (.cons rfl .nil)) (by rw[ae,aP,cS,hl];omega)
  have nSb:∀b,b≠S->(h'.update S (bS λz=>z.push (.ref s.heap.objs.size))).get? b=h'.get? b:=λb n=>bK _ _ (cQ n)
  refine ih (i+1) _ _ (Ts++[s.heap.objs.size]) (by omega) I2 (λb hb=>?_) (λb o n e=>?_) Ac h0 (at2.on (λb o n e=>(nSb b n).trans e) (λo e=>⟨_,cr _ e (by rw[ho] at e;cases e;rfl)⟩) nS.1 nS.2.1 nS.2.2.1 nS.2.2.2.1 nS.2.2.2.2.1) (λ_ q=>nz2 ?_) (by rw[aP,cS,hl]) (λj x' y' T e1 e2 e3=>?_) hR
  .obtain⟨f0,f1,f2,f3,f4,f5⟩:=fp b hb
   have nb:b≠S:=by
    have hb:b=z\/b=TO\/b=i1\/b=i2:=by simpa using hb
    rcases hb with rfl|rfl|rfl|rfl
    .exact nS.1
    .exact nS.2.2.1
    .exact nS.2.2.2.1
    .exact nS.2.2.2.2.1
   exact⟨by rw[Ai nb,Ai (lts b hb)];exact f0,f1,f2,f3,f4,f5⟩
  .rw[Ai n,Ai (Aj (top b o n e) fresh)];exact top b o n e
  .exact (nSb z nS.1).symm.trans q
  .by_cases hj:j<Ts.length
   .rw[c_ hj] at e3
    obtain⟨q1,q2⟩:=laid j x' y' T e1 e2 e3
    refine⟨q1,?_⟩
    have nT:T≠S:=λz=>by rw[z,hS] at q2;cases q2
    rw[Ai nT,Ai (Aj q2 fresh)];exact q2
   .have hj2:j=i:=by
     have:j<(Ts++[s.heap.objs.size]).length:=by
      rcases eY j (Ts++[s.heap.objs.size]).length with h|h
      .exact h
      .rw[dN h] at e3;cases e3
     rw[aP,cS] at this
     omega
    subst hj2
    rw[bU (by omega),hl,gN] at e3
    cases e3
    rw[hx] at e1
    rw[hy] at e2
    cases e1
    cases e2
    refine⟨?_,by rw[Ai (cE ltS)];exact Ac⟩
    cases q:H0 s.heap.objs.size with
    |none=>rfl
    |some o=>exact absurd (top _ o (cE ltS) q) (by rw[fresh];intro z;cases z)
theorem bg7:iq (.type "zip") "__len__"=pure none:=by rw[typeLookup_type,kh];kernel_rfl
theorem a35:iq (.type "zip") "__length_hint__"=pure none:=by rw[typeLookup_type,kh];kernel_rfl
theorem ar4(ty:s.TypeIs (.ref r) "zip")(h:Q true s):aW (model prog w) A (iu (.ref r)) Q E s:=by
 unfold iu
 refine ai (wpAny_specialOf ty bg7 ?_)
 wp_delta
 refine ai (wpAny_specialOf ty a35 ?_)
 wp_delta
 exact aE h
theorem as5(hc:X.calm=true)(I:Inv X ξ σ H s)(hl0:H l=some (.lst xs))(ht0:H t=some (.tup ys))(len:xs.length=ys.length)(pos:0<xs.length)(few:xs.length<1000)(h:∀D Ts H' s',Inv X ξ σ H' s'->Ko H H'->H D=none->H' D=some (.lst (Ts.map V.ref))->Ts.length=xs.length->Y3 H H' xs ys Ts->Q (.ref D) s') :
  aW (model X.prog X.w) X.A (call (.type "zip") [.ref l,.ref t]) (λv s1=>aW (model X.prog X.w) X.A (call (.type "list") [v]) Q X.xe s1) X.xe s:=by
 obtain⟨χ,ri,pl,_⟩:=I.list (SqL.of hl0)
 obtain⟨its2,ri2,pl2,_⟩:=I.tuple (SqT.of ht0)
 have l1:l<s.heap.objs.size:=(I.hok l _ hl0).lt
 have l2:t<s.heap.objs.size:=(I.hok t _ ht0).lt
 refine ac9 pl.isList pl2 λh1 hz hTI hTO hi1 hi2 zv on1=>?_
 refine callType_codes (s:={ s with heap:=h1 }) (Q₁:=λobj s2=>obj=.ref (s.heap.objs.size+5)/\s2={ s with heap:=h1.push { cls:=.type "list", data:=.seq #[] } }) PySem.F.called_list (PySem.F.typeCall_list_1 _) PySem.F.entry_list_init
  (code_list_new _ ⟨by show bh h1.objs.size=_;rw[zv],rfl⟩) λobj s2 hs=>?_
 obtain⟨rfl,rfl⟩:=hs
 have S2:(h1.push { cls:=.type "list", data:=.seq #[] }).get? (s.heap.objs.size+5)=some { cls:=.type "list", data:=.seq #[] }:=zv▸aK _ rfl
 have on2:∀b o,h1.get? b=some o->(h1.push { cls:=.type "list", data:=.seq #[] }).get? b=some o:=λb o q=>ah _ q
 generalize h1.push { cls:=.type "list", data:=.seq #[] }=h2 at S2 on2 ⊢
 refine⟨⟨_,S2,rfl⟩,PySem.F.args_list_init_2 _ _,?_⟩
 show aW _ _ (do let old <- jK (.ref (s.heap.objs.size+5));Builtin.List.listUpdate (.ref (s.heap.objs.size+5)) (λ_=>#[]);letGo old.toList.reverse;dG (.ref (s.heap.objs.size+5)) (.ref (s.heap.objs.size+4)) .none) _ _ { s with heap:=h2 }
 refine ai ?_
 unfold jK
 refine ai (dW (s:={ s with heap:=h2 }) S2 rfl (aE ?_))
 show aW _ _ (mw (s.heap.objs.size+5) (λ_=>#[]) >>= λ_=>letGo (#[]:Array Value).toList.reverse >>= λ_=>dG (.ref (s.heap.objs.size+5)) (.ref (s.heap.objs.size+4)) .none) _ _ { s with heap:=h2 }
 refine ai (iL (s:={ s with heap:=h2 }) S2 rfl (ai (my ?_)))
 have S3:∃c,(h2.update (s.heap.objs.size+5) (bS (λ_=>(#[]:Array Value)))).get? (s.heap.objs.size+5)=some { cls:=.type "list", data:=.seq #[] c }:=⟨_,cr _ S2 rfl⟩
 have o3:∀b o,b≠s.heap.objs.size+5->h2.get? b=some o->(h2.update (s.heap.objs.size+5) (bS (λ_=>(#[]:Array Value)))).get? b=some o:=λb o n q=>(bK _ _ (cQ n)).trans q
 generalize h2.update (s.heap.objs.size+5) (bS (λ_=>(#[]:Array Value)))=h3 at S3 o3 ⊢
 obtain⟨c3,S3⟩:=S3
 have k3:∀b o,b<s.heap.objs.size+5->h1.get? b=some o->h3.get? b=some o:=λb o hb q=>o3 b o (aT hb) (on2 b o q)
 have hz3:=k3 _ _ (dz _) hz
 have on3:∀b o,s.heap.get? b=some o->h3.get? b=some o:=λb o q=>k3 b o (aL (aH q) (aV _ 5)) (on1 b o q)
 have at3:ZipAt h3 (s.heap.objs.size+4) (s.heap.objs.size+2) (s.heap.objs.size+3) s.heap.objs.size (s.heap.objs.size+1) l t 0:=by
  refine⟨k3 _ _ (by omega) hTI,⟨_,_,k3 _ _ (by omega) hTO⟩,?_,?_,.inl hz3⟩
  .obtain⟨o,e,r⟩:=hi1;exact⟨o,k3 _ o (by omega) e,r⟩
  .obtain⟨o,e,r⟩:=hi2;exact⟨o,k3 _ o (by omega) e,r⟩
 unfold dG
 have ty3:Shared.TypeIs { s with heap:=h3 } (.ref (s.heap.objs.size+4)) "zip" := ⟨_,hz3,rfl⟩
 refine ai (wpAny_typeOf (s:={ s with heap:=h3 }) (T := "zip") ty3 ?_)
 have t1:jb (.ref (s.heap.objs.size+5)) (.ref (s.heap.objs.size+4))=false:=by simp[jb]
 have t2:(fO "zip" == fO "list")=false:=by decide
 have t3:(fO "zip" == fO "tuple")=false:=by decide
 simp only[t1,t2,t3,hZ,ck,if_false]
 refine ai (wpAny_pyIter_zip (s:={ s with heap:=h3 }) hz3 ?_)
 refine ai (bJ (ar4 (s:={ s with heap:=h3 }) ty3 ?_))
 have loop:∀(hh:Heap)(c tk:Nat),s.toks<=tk->(∀b o,b≠s.heap.objs.size+5->h3.get? b=some o->hh.get? b=some o)->hh.get? (s.heap.objs.size+5)=some { cls:=.type "list", data:=.seq #[] c } ->
   gA (model X.prog X.w) X.A.in1 (.builtin "list.extend.loop" ⟨[.ref (s.heap.objs.size+5),.ref (s.heap.objs.size+4),.none],[]⟩) (wants (λr s₂=>r=.none/\Q (.ref (s.heap.objs.size+5)) s₂) X.xe) { s with heap:=hh,toks:=tk }:=by
  intro hh c tk htk k5 S5
  have on5:∀b o,s.heap.get? b=some o->hh.get? b=some o:=λb o q=>k5 b o (aT (aL (aH q) (aV _ 5))) (on3 b o q)
  have fr:H (s.heap.objs.size+5)=none:=I.hok.fresh (aV _ 5)
  have I5:Inv X ξ σ (upd H (s.heap.objs.size+5) (.lst [])) { s with heap:=hh,toks:=tk }:=I.laid (t':=tk) on5 (aV _ 5) ⟨bZ _,[],c,.nil,S5⟩
  have m4:s.heap.objs.size+4≠s.heap.objs.size+5:=by omega
  have m3:s.heap.objs.size+3≠s.heap.objs.size+5:=by omega
  have m2:s.heap.objs.size+2≠s.heap.objs.size+5:=by omega
  have m1:s.heap.objs.size+1≠s.heap.objs.size+5:=by omega
  have m0:s.heap.objs.size≠s.heap.objs.size+5:=by omega
  refine a36 (X:=X) (ξ:=ξ) (σ:=σ) (A:=X.A.in1) (xs:=xs) (ys:=ys) H (by simp[I.ok.hd hc]) (PyProof.Rows.zipApart_new l1 l2) ⟨m4,m2,m3,m0,m1,λo e=>by rw[fr] at e;cases e⟩ hl0 ht0 len pos (by rw[ce];omega) xs.length 0 _ _ [] (cT _) I5
   (λb hb=>?_) (λb o n q=>by rw[Ai n];exact q) Ac fr (at3.on (S:=s.heap.objs.size+5) k5 (λo _=>⟨_,S5⟩) m4 m2 m3 m0 m1) (λz=>absurd z (by omega)) rfl (λj x y T _ _ e3=>by simp at e3) λs' H' Ts' I' top hS hl laid=>⟨rfl,h _ Ts' H' s' I' top fr hS hl laid⟩
  have hb:b=s.heap.objs.size+4\/b=s.heap.objs.size+3\/b=s.heap.objs.size\/b=s.heap.objs.size+1:=by simpa using hb
  have le:s.heap.objs.size<=b/\b≠s.heap.objs.size+5:=by
   rcases hb with e|e|e|e <;> (rw[e];first|exact⟨aV _ _,m4⟩|exact⟨aV _ _,m3⟩|exact⟨aV _ _,m1⟩|exact⟨ak _,m0⟩)
  exact I.fpOk le.1 (by rw[Ai le.2];exact I.hok.fresh le.1)
 refine ku (λ_=>?_) (λ_=>aE ⟨gh ix _,loop h3 c3 s.toks (ak _) (λb o _ q=>q) S3⟩)
 refine ai (lQ (ai ?_))
 show aW _ _ (mw (s.heap.objs.size+5) (·.push .none) >>= λ_=>mw (s.heap.objs.size+5) (·.pop)) _ _ _
 have S5:=cr (bS (·.push bT)) S3 rfl
 refine ai (iL (s:={ s with heap:=h3 }) S3 rfl (iL (hz:=by seq_fits) S5 rfl (aE ⟨gh ix _,loop _ _ s.toks (ak _) (λb o n q=>?_) (cr (bS (·.pop)) S5 rfl)⟩)))
 exact (bK _ _ (cQ n)).trans ((bK _ _ (cQ n)).trans q)
end
section
theorem Gy:∀l:List (Str×Tok),Vals ((l.map (·.1)).map V.str) (strValues l)
 |[]=>.nil
 |p::r=>.cons ⟨p.2,rfl⟩ (Gy r)
noncomputable def Dk:V->List V->Hp->VK->Prop:=λx xs H Q=>∃z y,x=.str z/\xs=[.str y]/\(y.length==0)=false/\z.length<=1000000/\∀D,H D=none->Q (.ref D) (upd H D (.lst ((gf z y).map V.str)))
theorem au5:MtR X "str.split" Dk:=by
 intro ξ s σ H x xs v us Q I rx rs h
 obtain⟨z,y,rfl,rfl,hy,hz,q⟩:=h
 obtain⟨t,rfl⟩:=rx
 obtain⟨u,rfl,ru⟩:=rs.one
 obtain⟨t',rfl⟩:=ru
 have big:1000002<=sizeLine:=by decide
 have fin:∀(l:List (Str×Tok))(k:Nat),l.map (·.1)=gf z y->s.toks<=k->EP X ξ σ Q (.ref s.heap.objs.size) { s with toks:=k,heap:=s.heap.push { cls:=.type "list", data:=.seq (strValues l).toArray } }:=λl k e htk=>by
  have hv:=Gy l
  rw[e] at hv
  have hl:((gf z y).map V.str).length<=sizeLine:=by
   rw[ae]
   have:=split_le z y
   omega
  exact⟨.ref s.heap.objs.size,_,I.laid (t':=k) (a:=s.heap.objs.size) (λb o q=>ah _ q) (ak _) (show ObjOk X.prog X.w _ _ _ (.lst ((gf z y).map V.str)) from⟨hl,_,0,hv,aK _ rfl⟩),rfl,q _ (I.hok.fresh (ak _))⟩
 have hn:(jd z (fQ z y 0 z.length (z.length+1)) y.length).length<=sizeLine:=by
  have e1:=StrLaws.occ_length_le z y 0 z.length (z.length+1)
  rw[length_partsBetween];omega
 cases h1:(decide (z.length<y.length)||decide (kM z<kM y))
 .cases hf:(fQ z y 0 z.length (z.length+1)).isEmpty
  .refine jq jF (kA _ _ _) je (iS _ _) (meets_str_split_sep z y t t' h1 hy hf (by omega) hn) ?_
   show EP X ξ σ Q _ { s with toks:=_,heap:=s.heap.push { cls:=.type "list", data:=.seq (strsFrom s.toks (jd z (fQ z y 0 z.length (z.length+1)) y.length)).toArray } }
   rw[strsFrom_eq]
   exact fin (numbered s.toks _) _ ((numbered_texts _ _).trans ((if_neg (ne_true_of_eq_false h1)).trans (if_neg (ne_true_of_eq_false hf))).symm) (by first|exact ak _|exact aV _ _|(dsimp only;omega))
  .exact jq jF (kA _ _ _) je (iS _ _) (meets_str_split_not_found z y t t' h1 hy hf) (fin [(z,t)] _ ((if_neg (ne_true_of_eq_false h1)).trans (if_pos hf)).symm (by first|exact ak _|exact aV _ _|(dsimp only;omega)))
 .exact jq jF (kA _ _ _) je (iS _ _) (meets_str_split_cannot_occur z y t t' h1) (fin [(z,t)] _ (if_pos h1).symm (by first|exact ak _|exact aV _ _|(dsimp only;omega)))
theorem a53(r:RelV y v)(f:Bv y=true):bm2 v=some y:=by
 cases y with
 |non=>cases r;rfl
 |bl b=>cases r;rfl
 |int i=>obtain⟨t,rfl⟩:=r;rfl
 |str z=>obtain⟨t,rfl⟩:=r;rfl
 |_=>cases f
noncomputable def eqF(y:V)(v:Value):Bool:=match bm2 v with
 |some x=>eqV x y
 |none=>false
theorem bg4(r:Vals ys us):∀ {i:Nat} {u:Value},us[i]?=some u -> ∃y,ys[i]?=some y/\RelV y u:=by
 induction r with
 |nil=>intro i u e;simp at e
 |@cons y v ys us h t ih=>
  intro i u e
  cases i with
  |zero=>rw[dA] at e;cases e;exact⟨y,rfl,h⟩
  |succ i=>rw[cu] at e;exact ih e
noncomputable def Hs:V->List V->Hp->VK->Prop:=λx xs H Q=>∃p ys y,x=.ref p/\xs=[y]/\H p=some (.lst ys)/\Bv y=true/\ys.all Bv=true/\∃j:Nat,j<ys.length/\eqV (ys.getD j .non) y=true/\(∀m,m<j->eqV (ys.getD m .non) y=false)/\Q (.int j) H
theorem au2:MtR X "list.index" Hs:=by
 intro ξ s σ H x xs v us Q I rx rs h
 obtain⟨p,ys,y,rfl,rfl,hp,fy,fs,j,hj,e1,e2,q⟩:=h
 cases rx
 obtain⟨u,rfl,ru⟩:=rs.one
 obtain⟨hz,χ,n,r,e⟩:=I.hok p _ hp
 have hl:=r.length
 have at_:∀(m:Nat)(hm:m<χ.toArray.size),eqF y χ.toArray[m]=eqV (ys.getD m .non) y/\RelV (ys.getD m .non) χ.toArray[m]/\Bv (ys.getD m .non)=true:=λm hm=>by
  have hm':m<χ.length:=by simpa using hm
  obtain⟨y',h1,h2⟩:=bg4 r (i:=m) (u:=χ[m]) (af hm')
  have f':Bv y'=true:=List.all_eq_true.mp fs y' (ag h1)
  have g:ys.getD m .non=y':=by rw[ar,h1];rfl
  rw[g]
  have e3:χ.toArray[m]=χ[m]:=by simp
  rw[e3]
  refine⟨?_,h2,f'⟩
  unfold eqF
  rw[a53 h2 f']
 have hs:χ.toArray.size=ys.length:=by rw[aB];omega
 refine jq jz ⟨_,e,rfl⟩ PySem.F.entry_list_index (PySem.F.args_list_index_2 _ _)
  (MeetsSeq.list_index p χ.toArray n u (eqF y) (λz hz=>?_) j (by omega) ?_ (by rw[(at_ j (by omega)).1];exact e1) (λm hm hlt=>by rw[(at_ m hm).1];exact e2 m hlt)) ⟨e,?_⟩
 .obtain⟨m,hm,rfl⟩:=Array.mem_iff_getElem.mp hz
  obtain⟨a1,a2,a3⟩:=at_ m hm
  rw[a1]
  exact λprog w A E s Q hq=>R0 (A:=A) (s:=s) a2 ru a3 fy prog w E Q hq
 .have:=ce
  have h3:(sizeLine:Int)<2 ^ 63 - 1:=by decide
  omega
 .exact⟨.int j,H,I.tok _,⟨_,rfl⟩,q⟩
end
open Sem (wp)
section
def ay3(K:ac)(R:EK):VK:=λx H=>match x with
 |.ref a=>∃C dx,H a=some (R5 a C dx)/\ECls K C/\R a (upd H a (flO a C dx))
 |_=>False
theorem aw6(m:Meets X Ex)(hh:X.A.handled=none)(he:PE X e te):PS X (.Raise (some e) none pos) (λ_ σ H=>te σ H (ay3 X.K (Ex σ))):=by
 intro ξ s σ H D I h
 rw[arm_exec_Raise]
 show aW _ _ (do standAt pos;raiseStmt X.env (some (do let v <- eval e X.env;standAt pos;pure v)) none) _ _ s
 refine ai (ff ?_)
 unfold raiseStmt
 refine ai (ai (thn (he ξ s σ H _ I h) λv s1 ⟨x,H1,I1,r1,q1⟩=>ai (ff (aE ?_))))
 cases x with
 |ref a=>
  cases r1
  obtain⟨C,dx,ea,c,q⟩:=q1
  obtain⟨vs,g1,g2,g3,g4⟩:=aq4 I1 ea
  obtain⟨nm,qn,N,bs,bm,hdct,sn,sub,ab,col,dd,k0,k1,k2,k3,k5,hl,ht,hd⟩:=c.obj
  have hC:=I1.kIn _ _ hl
  have hb:bm.contains (.type "BaseException")=true:=Cq ht (by decide +kernel)
  have I2:Inv X ξ σ (upd H1 a (flO a C dx)) s1:=by
   have:=I1.write (x:=a) (e:=a) (h':=s1.heap) (t':=s1.toks) (o:=flO a C dx) (by rw[ea];exact ba) (.inl rfl) (λb u _ z=>z) ⟨_,g1⟩ (aq6 g1 g2 g4)
   exact this
  have hx:=m ξ σ _ s1 a I2 ⟨C,dx,vs,.inl Ac,g1,g2,.inl g3⟩ q
  have hcB:(bh C::bm).contains (.type "BaseException")=true:=by rw[bX,hb,fH]
  obtain⟨hp,g,d,tk,os⟩:=s1
  repeat (first|with_reducible refine b5 g1 rfl g3 ?_|with_reducible refine cy g1 ?_|with_reducible refine cy hC ?_|(with_reducible refine c9 hC ?_;rw[hcB])|wp_step)
  exact wpAny_raiseNew_none hh hx
 |_=>exact (show False from q1).elim
end
end L2
namespace L2
open PySem PySem.Spec PyProof.Rows
inductive Dt where
 |at_ (v:V)
 |lst (l:List Dt)
 |tup (l:List Dt)
mutual
noncomputable def deq:Dt->Dt->Bool
 |.at_ v,.at_ w=>eqV v w
 |.lst xs,.lst ys=>D4 xs ys
 |.tup xs,.tup ys=>D4 xs ys
 |_,_=>false
noncomputable def D4:List Dt->List Dt->Bool
 |[],[]=>true
 |x::xs,y::ys=>deq x y&&D4 xs ys
 |_,_=>false
end
mutual
def dep:Dt->Nat
 |.at_ _=>0
 |.lst l=>Fj l+1
 |.tup l=>Fj l+1
def Fj:List Dt->Nat
 |[]=>0
 |x::xs=>mD (dep x) (Fj xs)
end
mutual
noncomputable def At(K:ac)(H:Hp):Dt->V->Prop
 |.at_ v,x=>x=v/\Bv v=true
 |.lst ds,x=>∃a xs,x=.ref a/\SqL K H a xs/\AtL K H ds xs
 |.tup ds,x=>∃a xs,x=.ref a/\SqT K H a xs/\AtL K H ds xs
noncomputable def AtL(K:ac)(H:Hp):List Dt->List V->Prop
 |[],xs=>xs=[]
 |d::ds,xs=>∃y ys,xs=y::ys/\At K H d y/\AtL K H ds ys
end
theorem AtL.length {K:ac}{H:Hp}:∀ {ds:List Dt} {xs:List V},AtL K H ds xs->xs.length=ds.length
 |[],xs,h=>by unfold AtL at h;subst h;rfl
 | d::ds,xs,h=>by
  unfold AtL at h
  obtain⟨y,ys,rfl,_,h2⟩:=h
  rw[aN,aN,AtL.length h2]
theorem aq2(h:Bv v=true):eqV v v=true:=by
 cases v <;> first|rfl|(exact beq_self_eq_true _)|exact absurd (show false=true from h) av
mutual
theorem Mq {K:ac}{H:Hp}:∀ {d:Dt} {x:V},At K H d x->deq d d=true
 |.at_ v,x,h=>by unfold At at h;unfold deq;exact aq2 h.2
 |.lst l,x,h=>by unfold At at h;obtain⟨a,xs,_,_,h⟩:=h;unfold deq;exact Js h
 |.tup l,x,h=>by unfold At at h;obtain⟨a,xs,_,_,h⟩:=h;unfold deq;exact Js h
theorem Js {K:ac}{H:Hp}:∀ {ds:List Dt} {xs:List V},AtL K H ds xs->D4 ds ds=true
 |[],xs,h=>by unfold D4;rfl
 | d::ds,xs,h=>by
  unfold AtL at h
  obtain⟨y,ys,rfl,h1,h2⟩:=h
  unfold D4
  rw[Mq h1,Js h2]
  rfl
end
theorem Ge:∀ {xs ys:List Dt},xs.length≠ys.length->D4 xs ys=false
 |[],[],h=>absurd rfl h
 |[],_::_,_=>by unfold D4;rfl
 |_::_,[],_=>by unfold D4;rfl
 | x::xs,y::ys,h=>by
  unfold D4
  rw[Ge (xs:=xs) (ys:=ys) (λe=>h (by rw[aN,aN,e])),cw]
theorem Ek(z:Dt):∀ {xs ys:List Dt},xs.length=ys.length->D4 xs ys=(aD xs.length).all λj=>deq (xs.getD j z) (ys.getD j z)
 |[],[],_=>by unfold D4;rfl
 |[],_::_,h=>by simp at h
 |_::_,[],h=>by simp at h
 | x::xs,y::ys,h=>by
  unfold D4
  rw[aN,jO,bv,d9,Ek z (xs:=xs) (ys:=ys) (by simpa using h)]
  rfl
section
theorem Vk(I:Inv X ξ σ H s)(h:SqL X.K H a xs)(h':SqT X.K H a ys):False:=by
 obtain⟨χ,r,⟨o,n,e,c,_,d⟩,_⟩:=I.list h
 obtain⟨its',r',⟨o',e',c',n',d'⟩,_⟩:=I.tuple h'
 rw[e] at e';cases e'
 rw[c] at c'
 injection c' with c'
 exact absurd c' (by decide)
mutual
theorem Wu(I:Inv X ξ σ H s):∀ {d d':Dt} {x:V},At X.K H d x->At X.K H d' x->d=d'
 |.at_ v,.at_ w,x,h,h'=>by unfold At at h h';rw[<- h.1,<- h'.1]
 | .at_ v,.lst l,x,h,h'=>by
  unfold At at h h'
  obtain⟨a,xs,rfl,_⟩:=h'
  rw[<- h.1] at h
  exact absurd (show false=true from h.2) av
 | .at_ v,.tup l,x,h,h'=>by
  unfold At at h h'
  obtain⟨a,xs,rfl,_⟩:=h'
  rw[<- h.1] at h
  exact absurd (show false=true from h.2) av
 | .lst l,.at_ v,x,h,h'=>by
  unfold At at h h'
  obtain⟨a,xs,rfl,_⟩:=h
  rw[<- h'.1] at h'
  exact absurd (show false=true from h'.2) av
 | .tup l,.at_ v,x,h,h'=>by
  unfold At at h h'
  obtain⟨a,xs,rfl,_⟩:=h
  rw[<- h'.1] at h'
  exact absurd (show false=true from h'.2) av
 | .lst l,.lst l',x,h,h'=>by
  unfold At at h h'
  obtain⟨a,xs,rfl,q,h⟩:=h
  obtain⟨a',xs',e,q',h'⟩:=h'
  cases e
  rw[I.list_inj q q'] at h
  rw[Rl I h h']
 | .tup l,.tup l',x,h,h'=>by
  unfold At at h h'
  obtain⟨a,xs,rfl,q,h⟩:=h
  obtain⟨a',xs',e,q',h'⟩:=h'
  cases e
  rw[I.tuple_inj q q'] at h
  rw[Rl I h h']
 | .lst l,.tup l',x,h,h'=>by
  unfold At at h h'
  obtain⟨a,xs,rfl,q,h⟩:=h
  obtain⟨a',xs',e,q',h'⟩:=h'
  cases e
  exact (Vk I q q').elim
 | .tup l,.lst l',x,h,h'=>by
  unfold At at h h'
  obtain⟨a,xs,rfl,q,h⟩:=h
  obtain⟨a',xs',e,q',h'⟩:=h'
  cases e
  exact (Vk I q' q).elim
theorem Rl(I:Inv X ξ σ H s):∀ {ds ds':List Dt} {xs:List V},AtL X.K H ds xs->AtL X.K H ds' xs->ds=ds'
 |[],[],_,_,_=>rfl
 |[],_::_,_,h,h'=>by unfold AtL at h h';obtain⟨y,ys,e,_⟩:=h';rw[h] at e;cases e
 |_::_,[],_,h,h'=>by unfold AtL at h h';obtain⟨y,ys,e,_⟩:=h;rw[h'] at e;cases e
 | d::ds,d'::ds',xs,h,h'=>by
  unfold AtL at h h'
  obtain⟨y,ys,rfl,h1,h2⟩:=h
  obtain⟨y',ys',e,h1',h2'⟩:=h'
  cases e
  rw[Wu I h1 h1',Rl I h2 h2']
end
theorem Qa {A:cj}{v:V}{u:Value}{a:Addr}{χ:Array Value}(f:Bv v=true)(r:RelV v u)(hl:s.heap.IsList a χ)(hu:A.units<cLine):bG A s u (.ref a) false/\bG A s (.ref a) u false:=by
 cases v with
 |non=>cases r;exact⟨.none_list hl hu,.list_none hl hu⟩
 |bl b=>cases r;exact⟨.bool_list b hl hu,.list_bool b hl hu⟩
 |int i=>obtain⟨t,rfl⟩:=r;exact⟨.int_list i t hl hu,.list_int i t hl hu⟩
 |str i=>obtain⟨t,rfl⟩:=r;exact⟨.str_list i t hl hu,.list_str i t hl hu⟩
 |_=>exact absurd (show false=true from f) av
theorem Mt {A:cj}{v:V}{u:Value}{a:Addr}{χ:Array Value}(f:Bv v=true)(r:RelV v u)(hl:s.heap.IsTuple a χ)(hu:A.units<cLine):bG A s u (.ref a) false/\bG A s (.ref a) u false:=by
 cases v with
 |non=>cases r;exact⟨.none_tuple hl hu,.tuple_none hl hu⟩
 |bl b=>cases r;exact⟨.bool_tuple b hl hu,.tuple_bool b hl hu⟩
 |int i=>obtain⟨t,rfl⟩:=r;exact⟨.int_tuple i t hl hu,.tuple_int i t hl hu⟩
 |str i=>obtain⟨t,rfl⟩:=r;exact⟨.str_tuple i t hl hu,.tuple_str i t hl hu⟩
 |_=>exact absurd (show false=true from f) av
mutual
theorem aq0(I:Inv X ξ σ H s):∀(d d':Dt)(A:cj)(x y:V)(u v:Value),At X.K H d x->At X.K H d' y->RelV x u->RelV y v->A.units+dep d<cLine->bG A s u v (deq d d')
 | .at_ p,.at_ q,A,x,y,u,v,h,h',r,r',hu=>by
  unfold At at h h';unfold deq
  obtain⟨rfl,f⟩:=h
  obtain⟨rfl,f'⟩:=h'
  exact R0 r r' f f'
 | .at_ p,.lst l,A,x,y,u,v,h,h',r,r',hu=>by
  unfold At at h h';unfold deq
  obtain⟨rfl,f⟩:=h
  obtain⟨a,xs,rfl,q,_⟩:=h'
  obtain⟨χ,_,pl,_⟩:=I.list q
  cases r'
  exact (Qa f r pl.isList (by omega)).1
 | .at_ p,.tup l,A,x,y,u,v,h,h',r,r',hu=>by
  unfold At at h h';unfold deq
  obtain⟨rfl,f⟩:=h
  obtain⟨a,xs,rfl,q,_⟩:=h'
  obtain⟨χ,_,pl,_⟩:=I.tuple q
  cases r'
  exact (Mt f r pl (by omega)).1
 | .lst l,.at_ p,A,x,y,u,v,h,h',r,r',hu=>by
  unfold At at h h';unfold deq
  obtain⟨rfl,f⟩:=h'
  obtain⟨a,xs,rfl,q,_⟩:=h
  obtain⟨χ,_,pl,_⟩:=I.list q
  cases r
  exact (Qa f r' pl.isList (by omega)).2
 | .tup l,.at_ p,A,x,y,u,v,h,h',r,r',hu=>by
  unfold At at h h';unfold deq
  obtain⟨rfl,f⟩:=h'
  obtain⟨a,xs,rfl,q,_⟩:=h
  obtain⟨χ,_,pl,_⟩:=I.tuple q
  cases r
  exact (Mt f r' pl (by omega)).2
 | .lst l,.tup l',A,x,y,u,v,h,h',r,r',hu=>by
  unfold At at h h';unfold deq
  obtain⟨a,xs,rfl,q,_⟩:=h
  obtain⟨b,ys,rfl,q',_⟩:=h'
  obtain⟨χ,_,pl,_⟩:=I.list q
  obtain⟨its',_,pl',_⟩:=I.tuple q'
  cases r;cases r'
  exact .list_tuple pl.isList pl' (by omega)
 | .tup l,.lst l',A,x,y,u,v,h,h',r,r',hu=>by
  unfold At at h h';unfold deq
  obtain⟨a,xs,rfl,q,_⟩:=h
  obtain⟨b,ys,rfl,q',_⟩:=h'
  obtain⟨χ,_,pl,_⟩:=I.tuple q
  obtain⟨its',_,pl',_⟩:=I.list q'
  cases r;cases r'
  exact .tuple_list pl pl'.isList (by omega)
 | .lst l,.lst l',A,x,y,u,v,h,h',r,r',hu=>by
  by_cases e:x=y
  .subst e
   have:=Wu I h h'
   rw[<- this,Mq h]
   have hx:∃a,x=.ref a:=by unfold At at h;obtain⟨a,_,e,_⟩:=h;exact⟨a,e⟩
   obtain⟨a,rfl⟩:=hx
   cases r;cases r'
   exact .same _
  .unfold At at h h';unfold deq
   unfold dep at hu
   obtain⟨a,xs,rfl,q,h⟩:=h
   obtain⟨b,ys,rfl,q',h'⟩:=h'
   obtain⟨χ,ri,pl,_⟩:=I.list q
   obtain⟨its',ri',pl',_⟩:=I.list q'
   cases r;cases r'
   have ne:a≠b:=λz=>e (by rw[z])
   have e1:=h.length
   have e2:=h'.length
   have e3:=ri.length
   have e4:=ri'.length
   refine .of_refs ne ?_
   by_cases hl:l.length=l'.length
   .rw[Ek (.lst []) hl]
    have hsz:χ.toArray.size=l.length:=by simp;omega
    rw[<- hsz]
    exact .lists pl.isList pl'.isList (by simp;omega) (by omega) λj h1 h2=>by
     have:=Io I l l' A.in1 xs ys χ its' h h' ri ri' (by show A.units+1+Fj l<cLine;omega) j (by simpa using h1) (by simpa using h2)
     simpa using this
   .rw[Ge hl]
    exact .lists_lengths pl.isList pl'.isList (by simp;omega) (by omega)
 | .tup l,.tup l',A,x,y,u,v,h,h',r,r',hu=>by
  by_cases e:x=y
  .subst e
   have:=Wu I h h'
   rw[<- this,Mq h]
   have hx:∃a,x=.ref a:=by unfold At at h;obtain⟨a,_,e,_⟩:=h;exact⟨a,e⟩
   obtain⟨a,rfl⟩:=hx
   cases r;cases r'
   exact .same _
  .unfold At at h h';unfold deq
   unfold dep at hu
   obtain⟨a,xs,rfl,q,h⟩:=h
   obtain⟨b,ys,rfl,q',h'⟩:=h'
   obtain⟨χ,ri,pl,_⟩:=I.tuple q
   obtain⟨its',ri',pl',_⟩:=I.tuple q'
   cases r;cases r'
   have ne:a≠b:=λz=>e (by rw[z])
   have e1:=h.length
   have e2:=h'.length
   have e3:=ri.length
   have e4:=ri'.length
   refine .of_refs ne ?_
   have T:=SeqAt.RcAt.tuples (A:=A) (s:=s) (e:=λj=>deq (l.getD j (.lst [])) (l'.getD j (.lst []))) pl pl' (by omega) λj h1 h2=>by
     have:=Io I l l' A.in1 xs ys χ its' h h' ri ri' (by show A.units+1+Fj l<cLine;omega) j (by simpa using h1) (by simpa using h2)
     simpa using this
   by_cases hl:l.length=l'.length
   .rw[Ek (.lst []) hl]
    have hsz:χ.toArray.size=l.length:=by simp;omega
    have hsz':its'.toArray.size=l.length:=by simp;omega
    rw[hsz,hsz',Nat.min_self,beq_self_eq_true,ez] at T
    exact T
   .rw[Ge hl]
    have hne:(χ.toArray.size==its'.toArray.size)=false:=by
     rw[beq_eq_false_iff_ne];simp;omega
    rw[hne,cw] at T
    exact T
theorem Io(I:Inv X ξ σ H s):∀(ds ds':List Dt)(A:cj)(xs ys:List V)(us vs:List Value),AtL X.K H ds xs->AtL X.K H ds' ys->Vals xs us->Vals ys vs->A.units+Fj ds<cLine ->
  ∀(j:Nat)(h1:j<us.length)(h2:j<vs.length),bG A s us[j] vs[j] (deq (ds.getD j (.lst [])) (ds'.getD j (.lst [])))
 | [],_,A,xs,ys,us,vs,h,h',r,r',hu=>λj h1 h2=>by
  unfold AtL at h
  subst h
  cases r
  cases h1
 | _::_,[],A,xs,ys,us,vs,h,h',r,r',hu=>λj h1 h2=>by
  unfold AtL at h'
  subst h'
  cases r'
  cases h2
 | d::ds,d'::ds',A,xs,ys,us,vs,h,h',r,r',hu=>λj h1 h2=>by
  unfold AtL at h h'
  obtain⟨y,ys,rfl,q1,q2⟩:=h
  obtain⟨z,zs,rfl,q1',q2'⟩:=h'
  cases r with
  |cons r1 r2=>
   cases r' with
   |cons r1' r2'=>
    unfold Fj at hu
    have m1:dep d<=mD (dep d) (Fj ds):=Nat.le_max_left _ _
    have m2:Fj ds<=mD (dep d) (Fj ds):=Nat.le_max_right _ _
    cases j with
    |zero=>exact aq0 I d d' A _ _ _ _ q1 q1' r1 r1' (by omega)
    |succ j=>exact Io I ds ds' A _ _ _ _ q2 q2' r2 r2' (by omega) j (by simpa using h1) (by simpa using h2)
end
theorem G3 {K:ac}{d:Dt}{a:Addr}(h:At K H d (.ref a)):(∃l xs,d=.lst l/\SqL K H a xs/\AtL K H l xs)\/(∃l xs,d=.tup l/\SqT K H a xs/\AtL K H l xs):=by
 cases d with
 |at_ v=>
  unfold At at h
  rw[<- h.1] at h
  exact absurd (show false=true from h.2) av
 |lst l=>unfold At at h;obtain⟨b,xs,e,q,h⟩:=h;cases e;exact .inl ⟨l,xs,rfl,q,h⟩
 |tup l=>unfold At at h;obtain⟨b,xs,e,q,h⟩:=h;cases e;exact .inr ⟨l,xs,rfl,q,h⟩
theorem Vj {K:ac}{d:Dt}{x:V}(h:At K H d x)(f:∀a,x≠.ref a):d=.at_ x/\Bv x=true:=by
 cases d with
 |at_ v=>unfold At at h;rw[h.1];exact⟨rfl,h.2⟩
 |lst l=>unfold At at h;obtain⟨b,xs,e,_⟩:=h;exact absurd e (f b)
 |tup l=>unfold At at h;obtain⟨b,xs,e,_⟩:=h;exact absurd e (f b)
theorem cg0(I:Inv X ξ σ H s){A:cj}{d d':Dt}{a b:Addr}(h:At X.K H d (.ref a))(h':At X.K H d' (.ref b))(hu:A.units+dep d<cLine):jo A s (.ref a) (.ref b) (deq d d')/\fM A s (.ref a) (.ref b) (!deq d d'):=by
 rcases G3 h with ⟨l,xs,rfl,q,h⟩|⟨l,xs,rfl,q,h⟩
 .rcases G3 h' with ⟨l',ys,rfl,q',h'⟩|⟨l',ys,rfl,q',h'⟩
  .unfold deq
   unfold dep at hu
   obtain⟨χ,ri,pl,_⟩:=I.list q
   obtain⟨its',ri',pl',_⟩:=I.list q'
   have e1:=h.length
   have e2:=h'.length
   have e3:=ri.length
   have e4:=ri'.length
   have it:∀j (h1:j<χ.toArray.size) (h2:j<its'.toArray.size),bG A.in1 s χ.toArray[j] its'.toArray[j] (deq (l.getD j (.lst [])) (l'.getD j (.lst []))):=λj h1 h2=>by
    have:=Io I l l' A.in1 xs ys χ its' h h' ri ri' (by show A.units+1+Fj l<cLine;omega) j (by simpa using h1) (by simpa using h2)
    simpa using this
   by_cases hl:l.length=l'.length
   .rw[Ek (.lst []) hl]
    have hsz:χ.toArray.size=l.length:=by simp;omega
    rw[<- hsz]
    exact⟨.lists pl.isList pl'.isList (by simp;omega) (by omega) it,.lists pl.isList pl'.isList (by simp;omega) (by omega) it⟩
   .rw[Ge hl]
    exact⟨.lists_lengths pl.isList pl'.isList (by simp;omega) (by omega),.lists_lengths pl.isList pl'.isList (by simp;omega) (by omega)⟩
  .unfold deq
   obtain⟨χ,ri,pl,_⟩:=I.list q
   obtain⟨its',ri',pl',_⟩:=I.tuple q'
   exact⟨.list_tuple pl.isList pl' (by omega),.list_tuple pl.isList pl' (by omega)⟩
 .rcases G3 h' with ⟨l',ys,rfl,q',h'⟩|⟨l',ys,rfl,q',h'⟩
  .unfold deq
   obtain⟨χ,ri,pl,_⟩:=I.tuple q
   obtain⟨its',ri',pl',_⟩:=I.list q'
   exact⟨.tuple_list pl pl'.isList (by omega),.tuple_list pl pl'.isList (by omega)⟩
  .unfold deq
   unfold dep at hu
   obtain⟨χ,ri,pl,_⟩:=I.tuple q
   obtain⟨its',ri',pl',_⟩:=I.tuple q'
   have e1:=h.length
   have e2:=h'.length
   have e3:=ri.length
   have e4:=ri'.length
   have it:∀j (h1:j<χ.toArray.size) (h2:j<its'.toArray.size),bG A.in1 s χ.toArray[j] its'.toArray[j] (deq (l.getD j (.lst [])) (l'.getD j (.lst []))):=λj h1 h2=>by
    have:=Io I l l' A.in1 xs ys χ its' h h' ri ri' (by show A.units+1+Fj l<cLine;omega) j (by simpa using h1) (by simpa using h2)
    simpa using this
   have T:=SeqAt.RcAt.tuples pl pl' (by omega) it
   have T':=SeqAt.RcNeAt.tuples pl pl' (by omega) it
   by_cases hl:l.length=l'.length
   .rw[Ek (.lst []) hl]
    have hsz:χ.toArray.size=l.length:=by simp;omega
    have hsz':its'.toArray.size=l.length:=by simp;omega
    rw[hsz,hsz',Nat.min_self,beq_self_eq_true,ez] at T T'
    exact⟨T,T'⟩
   .rw[Ge hl]
    have hne:(χ.toArray.size==its'.toArray.size)=false:=by
     rw[beq_eq_false_iff_ne];simp;omega
    rw[hne,cw] at T T'
    exact⟨T,T'⟩
theorem Z9(I:Inv X ξ σ H s){A:cj}{d:Dt}{a:Addr}{v:V}{u:Value}(h:At X.K H d (.ref a))(f:Bv v=true)(r:RelV v u)(hu:A.units<cLine) :
  jo A s (.ref a) u false/\fM A s (.ref a) u true/\jo A s u (.ref a) false/\fM A s u (.ref a) true:=by
 rcases G3 h with ⟨l,xs,rfl,q,h⟩|⟨l,xs,rfl,q,h⟩
 .obtain⟨χ,ri,pl,_⟩:=I.list q
  cases v with
  |non=>cases r;exact⟨.list_none pl.isList hu,.list_none pl.isList hu,.none_list pl.isList hu,.none_list pl.isList hu⟩
  |bl b=>cases r;exact⟨.list_bool b pl.isList hu,.list_bool b pl.isList hu,.bool_list b pl.isList hu,.bool_list b pl.isList hu⟩
  |int b=>obtain⟨t,rfl⟩:=r;exact⟨.list_int b t pl.isList hu,.list_int b t pl.isList hu,.int_list b t pl.isList hu,.int_list b t pl.isList hu⟩
  |str b=>obtain⟨t,rfl⟩:=r;exact⟨.list_str b t pl.isList hu,.list_str b t pl.isList hu,.str_list b t pl.isList hu,.str_list b t pl.isList hu⟩
  |_=>exact absurd (show false=true from f) av
 .obtain⟨χ,ri,pl,_⟩:=I.tuple q
  cases v with
  |non=>cases r;exact⟨.tuple_none pl hu,.tuple_none pl hu,.none_tuple pl hu,.none_tuple pl hu⟩
  |bl b=>cases r;exact⟨.tuple_bool b pl hu,.tuple_bool b pl hu,.bool_tuple b pl hu,.bool_tuple b pl hu⟩
  |int b=>obtain⟨t,rfl⟩:=r;exact⟨.tuple_int b t pl hu,.tuple_int b t pl hu,.int_tuple b t pl hu,.int_tuple b t pl hu⟩
  |str b=>obtain⟨t,rfl⟩:=r;exact⟨.tuple_str b t pl hu,.tuple_str b t pl hu,.str_tuple b t pl hu,.str_tuple b t pl hu⟩
  |_=>exact absurd (show false=true from f) av
noncomputable def ay0(K:ac)(neg:Bool):R2:=λx y H Q=>∃d d',At K H d x/\At K H d' y/\dep d<=40/\Q (.bl (if neg then !deq d d' else deq d d')) H
theorem ay7(I:Inv X ξ σ H s){A:cj}{d d':Dt}{x y:V}{u v:Value}(h:At X.K H d x)(h':At X.K H d' y)(r:RelV x u)(r':RelV y v)(hr:(∃a,x=.ref a) \/ ∃b,y=.ref b)(hu:A.units+dep d<cLine) :
  jo A s u v (deq d d')/\fM A s u v (!deq d d'):=by
 by_cases hx:∃a,x=.ref a
 .obtain⟨a,rfl⟩:=hx
  cases r
  by_cases hy:∃b,y=.ref b
  .obtain⟨b,rfl⟩:=hy
   cases r'
   exact cg0 I h h' hu
  .obtain⟨rfl,f⟩:=Vj h' (λb e=>hy ⟨b,e⟩)
   obtain⟨q1,q2,_⟩:=Z9 I h f r' (show A.units<cLine by omega)
   have e:deq d (.at_ y)=false:=by
    rcases G3 h with ⟨l,xs,rfl,_⟩|⟨l,xs,rfl,_⟩ <;> (unfold deq;rfl)
   rw[e]
   exact⟨q1,q2⟩
 .have hy:∃b,y=.ref b:=hr.resolve_left hx
  obtain⟨b,rfl⟩:=hy
  cases r'
  obtain⟨rfl,f⟩:=Vj h (λb e=>hx ⟨b,e⟩)
  obtain⟨_,_,q1,q2⟩:=Z9 I h' f r (show A.units<cLine by omega)
  have e:deq (.at_ x) d'=false:=by
   rcases G3 h' with ⟨l,xs,rfl,_⟩|⟨l,xs,rfl,_⟩ <;> (unfold deq;rfl)
  rw[e]
  exact⟨q1,q2⟩
theorem X0(hu:X.A.units+64<cLine)(I:Inv X ξ σ H s)(rx:RelV x u)(ry:RelV y v)(hr:(∃a,x=.ref a) \/ ∃b,y=.ref b)(h:ay0 X.K false x y H Q):aW (model X.prog X.w) X.A (cV .Eq u v) (EP X ξ σ Q) X.xe s:=by
 obtain⟨d,d',h1,h2,hd,q⟩:=h
 exact (ay7 I h1 h2 rx ry hr (A:=X.A) (by omega)).1 _ _ _ _ ⟨.bl _,H,I,rfl,q⟩
theorem X1(hu:X.A.units+64<cLine)(I:Inv X ξ σ H s)(rx:RelV x u)(ry:RelV y v)(hr:(∃a,x=.ref a) \/ ∃b,y=.ref b)(h:ay0 X.K true x y H Q):aW (model X.prog X.w) X.A (cV .NotEq u v) (EP X ξ σ Q) X.xe s:=by
 obtain⟨d,d',h1,h2,hd,q⟩:=h
 exact (ay7 I h1 h2 rx ry hr (A:=X.A) (by omega)).2 _ _ _ _ ⟨.bl _,H,I,rfl,q⟩
end
def rNo:R2:=λ_ _ _ _=>False
noncomputable def Bg(K:ac):R2:=λx y H Q=>match x,y with
 |.int i,.int j=>Q (.int (i+j)) H
 |.str a,.str b=>a.length+b.length<=sizeLine/\Q (.str (a++b)) H
 |.ref a,.ref b=>b92 (.ref a) (.ref b) H Q\/bi8 K (.ref a) (.ref b) H Q\/bi7 K (.ref a) (.ref b) H Q
 |_,_=>False
def Nl:R2:=λx y H Q=>match x,y with
 |.int i,.int j=>Q (.int (i - j)) H
 |_,_=>False
def Cu(K:ac):R2:=λx y H Q=>match x,y with
 |.int i,.int j=>CMul i j/\Q (.int (i * j)) H
 |_,_=>False
def Cm:R2:=λx y H Q=>match x,y with
 |.int i,.int j=>b09 i j/\Q (.int (i / j)) H
 |_,_=>False
def Ay:R2:=λx y H Q=>match x,y with
 |.int i,.int j=>0<j/\Q (.int (i % j)) H
 |_,_=>False
def Q7:R2:=λx y H Q=>match x,y with
 |.int i,.int j=>a37 i j/\Q (.int (i ^ j.toNat)) H
 |_,_=>False
def Fu:R2:=λx y H Q=>match x,y with
 |.int i,.int j=>a37 i j/\Q (.int (i * 2 ^ j.toNat)) H
 |_,_=>False
def E3:R2:=λx y H Q=>match x,y with
 |.int i,.int j=>0<=j/\Q (.int (i / 2 ^ j.toNat)) H
 |_,_=>False
def By:R2:=λx y H Q=>match x,y with
 |.int i,.int j=>Q (.int (aX i j)) H
 |_,_=>False
def Vw:R2:=λx y H Q=>match x,y with
 |.int i,.int j=>Q (.int (cB i j)) H
 |_,_=>False
def bj0:R2:=λx y H Q=>match x,y with
 |.int i,.int j=>Q (.int (gH i j)) H
 |_,_=>False
noncomputable def rOp(K:ac):Operator->R2
 |.Add=>Bg K
 |.Sub=>Nl
 |.Mult=>Cu K
 |.FloorDiv=>Cm
 |.Mod=>Ay
 |.Pow=>Q7
 |.LShift=>Fu
 |.RShift=>E3
 |.BitAnd=>By
 |.BitOr=>Vw
 |.BitXor=>bj0
 |_=>rNo
section
theorem cf1(op:Operator):OpR X (dO op) (rOp X.K op):=by
 intro ξ s σ H x y v u Q I rx ry h
 cases op with
 |Add=>
  cases x <;> cases y <;> first
   |exact (show False from h).elim
   |exact bt2 ξ s σ H _ _ v u Q I rx ry ⟨_,_,rfl,rfl,h⟩
   |exact Xz ξ s σ H _ _ v u Q I rx ry ⟨_,_,rfl,rfl,h⟩
   |exact (op_cat.or (op_catT.or ba3)) ξ s σ H _ _ v u Q I rx ry h
 |Sub=>cases x <;> cases y <;> first|exact (show False from h).elim|exact bu2 ξ s σ H _ _ v u Q I rx ry ⟨_,_,rfl,rfl,h⟩
 |Mult=>cases x <;> cases y <;> first|exact (show False from h).elim|exact bt7 ξ s σ H _ _ v u Q I rx ry ⟨_,_,rfl,rfl,h⟩
 |FloorDiv=>cases x <;> cases y <;> first|exact (show False from h).elim|exact ba4 ξ s σ H _ _ v u Q I rx ry ⟨_,_,rfl,rfl,h⟩
 |Mod=>cases x <;> cases y <;> first|exact (show False from h).elim|exact bt6 ξ s σ H _ _ v u Q I rx ry ⟨_,_,rfl,rfl,h⟩
 |Pow=>cases x <;> cases y <;> first|exact (show False from h).elim|exact bt9 ξ s σ H _ _ v u Q I rx ry ⟨_,_,rfl,rfl,h⟩
 |LShift=>cases x <;> cases y <;> first|exact (show False from h).elim|exact bu0 ξ s σ H _ _ v u Q I rx ry ⟨_,_,rfl,rfl,h⟩
 |RShift=>cases x <;> cases y <;> first|exact (show False from h).elim|exact bu1 ξ s σ H _ _ v u Q I rx ry ⟨_,_,rfl,rfl,h⟩
 |BitAnd=>cases x <;> cases y <;> first|exact (show False from h).elim|exact bt3 ξ s σ H _ _ v u Q I rx ry ⟨_,_,rfl,rfl,h⟩
 |BitOr=>cases x <;> cases y <;> first|exact (show False from h).elim|exact b77 ξ s σ H _ _ v u Q I rx ry ⟨_,_,rfl,rfl,h⟩
 |BitXor=>cases x <;> cases y <;> first|exact (show False from h).elim|exact bu3 ξ s σ H _ _ v u Q I rx ry ⟨_,_,rfl,rfl,h⟩
 |_=>exact (show False from h).elim
end
noncomputable def Av(K:ac)(neg:Bool):R2:=λx y H Q=>match x,y with
 |.ref a,.ref b=>bz3 K neg (.ref a) (.ref b) H Q\/ay0 K neg (.ref a) (.ref b) H Q\/False\/False\/False
 |.ref a,y=>ay0 K neg (.ref a) y H Q\/False
 |x,.ref b=>ay0 K neg x (.ref b) H Q
 |.int i,.int j=>Q (.bl (if neg then !decide (i=j) else decide (i=j))) H
 |.str i,.str j=>Q (.bl (if neg then !decide (i=j) else decide (i=j))) H
 |.bl i,.bl j=>Q (.bl (if neg then !(i==j) else (i==j))) H
 |x,y=>bz5 x y=true/\Q (.bl (if neg then !decide (x=y) else decide (x=y))) H
noncomputable def ay2:R2:=λx y H Q=>match x,y with
 |.int i,.int j=>Q (.bl (decide (i<j))) H
 |.str i,.str j=>Q (.bl (decide (i.cps.toList<j.cps.toList))) H
 |_,_=>False
noncomputable def Hi:R2:=λx y H Q=>match x,y with
 |.int i,.int j=>Q (.bl (decide (i<=j))) H
 |.str i,.str j=>Q (.bl (!decide (j.cps.toList<i.cps.toList))) H
 |_,_=>False
noncomputable def ah3:R2:=λx y H Q=>match x,y with
 |.int i,.int j=>Q (.bl (decide (j<i))) H
 |_,_=>False
noncomputable def cf4:R2:=λx y H Q=>match x,y with
 |.int i,.int j=>Q (.bl (decide (j<=i))) H
 |_,_=>False
noncomputable def Iz(K:ac)(neg:Bool):R2:=λx y H Q=>match x,y with
 |.non,_=>False
 |x,.ref p=>rIn K neg x (.ref p) H Q \/ ∃o,DGet H p x o/\Q (.bl (if neg then !o.isSome else o.isSome)) H
 |_,_=>False
noncomputable def be3(neg:Bool):R2:=λx y H Q=>match y with
 |.non=>Q (.bl (if neg then !decide (x=.non) else decide (x=.non))) H
 | .bl d=>(match x with
  |.bl c=>Q (.bl (if neg then !(c==d) else (c==d))) H
  |_=>False)
 |_=>False
noncomputable def Oy(K:ac):mL->R2
 |.Eq=>Av K false
 |.NotEq=>Av K true
 |.Lt=>ay2
 |.LtE=>Hi
 |.Gt=>ah3
 |.GtE=>cf4
 |.In=>Iz K false
 |.NotIn=>Iz K true
 |.Is=>be3 false
 |.IsNot=>be3 true
section
theorem P1(hu:X.A.units+64<cLine)(op:mL):OpR X (cV op) (Oy X.K op):=by
  intro ξ s σ H x y v u Q I rx ry h
  cases op with
  |Eq=>
    cases x <;> cases y <;> first
      | (rcases h with h|h|h|h|h
         . exact bt4 (by omega) ξ s σ H _ _ v u Q I rx ry h
         . exact X0 hu I rx ry (.inl ⟨_,rfl⟩) h
         . exact h.elim
         . exact h.elim
         . exact h.elim)
      | (rcases h with h|h
         . exact X0 hu I rx ry (.inl ⟨_,rfl⟩) h
         . exact h.elim)
      |exact X0 hu I rx ry (.inr ⟨_,rfl⟩) h
      |exact Z1 ξ s σ H _ _ v u Q I rx ry h
      |exact Z1 ξ s σ H _ _ v u Q I rx ry ⟨rfl,by rw[Ll,cR];exact h⟩
      |exact Z1 ξ s σ H _ _ v u Q I rx ry ⟨rfl,by rw[Lm,cR];exact h⟩
      |exact Z1 ξ s σ H _ _ v u Q I rx ry ⟨rfl,by rw[Rz];exact h⟩
  |NotEq=>
    cases x <;> cases y <;> first
      | (rcases h with h|h|h|h|h
         . exact bt8 (by omega) ξ s σ H _ _ v u Q I rx ry h
         . exact X1 hu I rx ry (.inl ⟨_,rfl⟩) h
         . exact h.elim
         . exact h.elim
         . exact h.elim)
      | (rcases h with h|h
         . exact X1 hu I rx ry (.inl ⟨_,rfl⟩) h
         . exact h.elim)
      |exact X1 hu I rx ry (.inr ⟨_,rfl⟩) h
      |exact Z2 ξ s σ H _ _ v u Q I rx ry h
      |exact Z2 ξ s σ H _ _ v u Q I rx ry ⟨rfl,by rw[Ll,cR];exact h⟩
      |exact Z2 ξ s σ H _ _ v u Q I rx ry ⟨rfl,by rw[Lm,cR];exact h⟩
      |exact Z2 ξ s σ H _ _ v u Q I rx ry ⟨rfl,by rw[Rz];exact h⟩
  |Lt=>cases x <;> cases y <;> first|exact (show False from h).elim|exact b76 ξ s σ H _ _ v u Q I rx ry ⟨_,_,rfl,rfl,h⟩|exact ag7 ξ s σ H _ _ v u Q I rx ry ⟨_,_,rfl,rfl,h⟩
  |LtE=>cases x <;> cases y <;> first|exact (show False from h).elim|exact b75 ξ s σ H _ _ v u Q I rx ry ⟨_,_,rfl,rfl,h⟩|exact ag6 ξ s σ H _ _ v u Q I rx ry ⟨_,_,rfl,rfl,h⟩
  |Gt=>cases x <;> cases y <;> first|exact (show False from h).elim|exact b74 ξ s σ H _ _ v u Q I rx ry ⟨_,_,rfl,rfl,h⟩
  |GtE=>cases x <;> cases y <;> first|exact (show False from h).elim|exact b73 ξ s σ H _ _ v u Q I rx ry ⟨_,_,rfl,rfl,h⟩
  |In=>cases x <;> cases y <;> first|exact (show False from h).elim|exact h.elim (ag5 ξ s σ H _ _ v u Q I rx ry) (fun⟨o,g,q⟩=>by cases ry;exact ce5 (by omega) I g rx λs' I'=>⟨.bl _,H,I',rfl,q⟩)
  |NotIn=>cases x <;> cases y <;> first|exact (show False from h).elim|exact h.elim (Sx ξ s σ H _ _ v u Q I rx ry) (fun⟨o,g,q⟩=>by cases ry;exact a69 (by omega) I g rx λs' I'=>⟨.bl _,H,I',rfl,q⟩)
  |Is=>cases y <;> first|exact (show False from h).elim|exact bt5 ξ s σ H _ _ v u Q I rx ry ⟨rfl,h⟩|(cases x <;> first|exact (show False from h).elim|(cases rx;cases ry;exact is_bool ⟨.bl _,H,I,rfl,h⟩))
  |IsNot=>cases y <;> first|exact (show False from h).elim|exact ba5 ξ s σ H _ _ v u Q I rx ry ⟨rfl,h⟩|(cases x <;> first|exact (show False from h).elim|(cases rx;cases ry;exact isnot_bool ⟨.bl _,H,I,rfl,h⟩))
end
def Ja:V->Hp->VK->Prop:=λx H Q=>match x with
 |.int i=>Q (.int (-i)) H
 |_=>False
theorem cj8:UnR X (mK .USub) Ja:=by
 intro ξ s σ H x v Q I rx h
 cases x <;> first|exact (show False from h).elim|exact b02 ξ s σ H _ v Q I rx ⟨_,rfl,h⟩
def Q6:V->Hp->VK->Prop:=λx H Q=>match x with
 |.int i=>Q (.int (bw i)) H
 |_=>False
theorem b39:UnR X (mK .Invert) Q6:=by
 intro ξ s σ H x v Q I rx h
 cases x <;> first|exact (show False from h).elim|exact b01 ξ s σ H _ v Q I rx ⟨_,rfl,h⟩
theorem ab3:b18 X (a23 X.K):=by
 intro ξ s σ H x v Q I rx h
 cases x with
 |non=>exact Oh ξ s σ H _ v Q I rx ⟨_,rfl,h⟩
 |bl b=>exact Oh ξ s σ H _ v Q I rx ⟨_,rfl,h⟩
 |int i=>exact Oh ξ s σ H _ v Q I rx ⟨_,rfl,h⟩
 |str y=>exact Oh ξ s σ H _ v Q I rx ⟨_,⟨h.1,rfl⟩,h.2⟩
 |ref p=>exact Oh ξ s σ H _ v Q I rx h
 |_=>exact (show False from h).elim
inductive SqX (K:ac) (H:Hp) (p:Addr) (i:Int) (xs:List V):Prop where
 |inl (h:SqL K H p xs)
 |inr (h:SqT K H p xs)
 |dk (h:∀v,atI xs i=some v->DGet H p (.int i) (some v))
noncomputable def An(K:ac):R2:=λx y H Q=>match x,y with
 |.str z,.int i=>z.length<=sizeLine/\∃c,atI z.cps.toList i=some c/\Q (.str ⟨#[c]⟩) H
 |.ref p,.int i=>∃xs v,SqX K H p i xs/\atI xs i=some v/\Q v H
 |.ref p,.str k=>∃v,DGet H p (.str k) (some v)/\Q v H
 |.ref p,.ref b=>∃v,DGet H p (.ref b) (some v)/\Q v H
 |_,_=>False
theorem ce9(hu:X.A.units+64<cLine):IxR X (An X.K):=by
  intro value slice ξ s σ H x y v u Q I rx ry h hs
  cases x <;> cases y <;> first
    |exact (show False from h).elim
    |(obtain⟨h1,c,h2,h3⟩:=h;exact bo6 value slice ξ s σ H _ _ v u Q I rx ry ⟨_,_,c,rfl,rfl,h1,h2,h3⟩ hs)
    | (obtain⟨xs,w,h1|h1|h1,h2,h3⟩:=h
       . exact a86 value slice ξ s σ H _ _ v u Q I rx ry ⟨_,_,_,_,rfl,rfl,h1,h2,h3⟩ hs
       . exact bo7 value slice ξ s σ H _ _ v u Q I rx ry ⟨_,_,_,_,rfl,rfl,h1,h2,h3⟩ hs
       . exact Zt hu value slice ξ s σ H _ _ v u Q I rx ry ⟨_,w,rfl,h1 w h2,h3⟩ hs)
    |(obtain⟨w,h1,h2⟩:=h;exact Zt hu value slice ξ s σ H _ _ v u Q I rx ry ⟨_,w,rfl,h1,h2⟩ hs)
noncomputable def bi9:V->V->V->Hp->(Hp->Prop)->Prop:=λo i v H N=>match o,i with
 |.ref p,.int k=>False \/ ∃H',DPut H p (.int k) v H'/\N H'
 |.ref p,i=>∃H',DPut H p i v H'/\N H'
 |_,_=>False
theorem b98(hu:X.A.units+64<cLine):b16 X bi9:=by
 intro ξ s σ H o i v ov iv u Q I ro ri rv h
 cases o with
 |ref p=>
  have dp:∀ {H'},DPut H p i v H'->Q H'->aW (model X.prog X.w) X.A (setItem ov iv u) (λ_ s'=>∃H',Inv X ξ σ H' s'/\Q H') X.xe s:=λ{H'} g q=>by
   cases ro
   exact ad7 (by omega) I g ri rv λs' I'=>⟨H',I',q⟩
  cases i with
  |int k=>
   rcases h with h|⟨H',g,q⟩
   .exact h.elim
   .exact dp g q
  |_=>obtain⟨H',g,q⟩:=h;exact dp g q
 |_=>exact (show False from h).elim
noncomputable def D7(K:ac)(f:Str):V->Hp->VK->Prop:=λx H Q=>match x with
 |.ref a=>(∃C dx fs v,H a=some (.ins C dx fs)/\Cls K C/\NoAttr K C f/\fs.lookup f=some v/\Q v H)\/False
 |_=>False
noncomputable def ay4(K:ac)(f:Str):V->V->Hp->(Hp->Prop)->Prop:=λx y H N=>match x with
 |.ref a=>(∃C dx fs,H a=some (.ins C dx fs)/\Cls K C/\NoAttr K C f/\fs.length<1000/\N (upd H a (.ins C dx (Gn f y fs))))\/False
 |_=>False
section
theorem b32(I:Inv X ξ σ H s)(rx:RelV x u)(h:D7 X.K f x H Q):aW (model X.prog X.w) A (getAttr u f b) (EP X ξ σ Q) E s:=by
 cases x with
 |ref a=>
  cases rx
  rcases h with ⟨C,dx,fs,v,ea,c,n,l,q⟩|h
  .exact Xh I ea c n l λu' s2 I2 ru=>⟨v,H,I2,ru,q⟩
  .exact h.elim
 |_=>exact (show False from h).elim
theorem b97(I:Inv X ξ σ H s)(rx:RelV x u)(ry:RelV y v)(h:ay4 X.K f x y H N)(hQ:∀H' s',Inv X ξ σ H' s'->N H'->Q () s') :
  aW (model X.prog X.w) A (setAttr u f v) Q E s:=by
 cases x with
 |ref a=>
  cases rx
  rcases h with ⟨C,dx,fs,ea,c,n,l,q⟩|h
  .exact Yb I ea c n l ry λs3 I3=>hQ _ _ I3 q
  .exact h.elim
 |_=>exact (show False from h).elim
end
structure FI where
 f:Addr
 fd:bB
 ps:List Str
 k:Nat
 sp:Sp
 dfs:List V
 ds:List Value
structure MI where
 C:Addr
 i:FI
inductive GB where
 |fn (i:FI)
 |cls (C:Addr) (i:Option FI)
 |met (m:Str) (l:List MI)
 |val (v:V) (u:Value)
 |exc (C:Addr) (i:Option FI)
def Dw:List (Str×GB)->Str->Option (List MI)
 |[],_=>none
 |(_,.met m l)::r,x=>if m=x then some l else Dw r x
 |_::r,x=>Dw r x
theorem C6:∀ {gb:List (Str×GB)} {x:Str} {l:List MI},Dw gb x=some l -> ∃k,(k,GB.met x l)∈gb
 | (k,.met m l')::r,x,l,h=>by
  unfold Dw at h
  by_cases e:m=x
  .rw[if_pos e] at h;cases h;subst e;exact⟨k,by simp⟩
  .rw[if_neg e] at h;obtain⟨k,q⟩:=C6 h;exact⟨k,aq _ q⟩
 |(_,.fn _)::r,x,l,h=>by unfold Dw at h;obtain⟨k,q⟩:=C6 h;exact⟨k,aq _ q⟩
 |(_,.cls _ _)::r,x,l,h=>by unfold Dw at h;obtain⟨k,q⟩:=C6 h;exact⟨k,aq _ q⟩
 |(_,.val _ _)::r,x,l,h=>by unfold Dw at h;obtain⟨k,q⟩:=C6 h;exact⟨k,aq _ q⟩
 |(_,.exc _ _)::r,x,l,h=>by unfold Dw at h;obtain⟨k,q⟩:=C6 h;exact⟨k,aq _ q⟩
structure Sg where
 K:ac
 N:List Str
 sc:List (Str×cO)
 gb:List (Str×GB)
 bl:List Str
 top:Bool
 calm:Bool
def C8:List Str->Str->Nat->Option Nat
 |[],_,_=>none
 |y::r,x,i=>if y=x then some i else C8 r x (i+1)
theorem Q9:∀ {N:List Str} {x:Str} {i j:Nat},C8 N x j=some i->j<=i/\N[i - j]?=some x
 |[],_,_,_,h=>by cases h
 | y::r,x,i,j,h=>by
  unfold C8 at h
  by_cases e:y=x
  .rw[if_pos e] at h
   cases h
   refine⟨ak _,?_⟩
   rw[gN,e]
   rfl
  .rw[if_neg e] at h
   obtain⟨h1,h2⟩:=Q9 h
   refine⟨by omega,?_⟩
   have:i - j=(i - (j+1))+1:=by omega
   rw[this,cu]
   exact h2
theorem Fg(h:C8 N x 0=some i):N[i]?=some x:=(Q9 h).2
def Fe(x:Str):Bool:=!(x==("__debug__" : Str)) && !(x==("__classdict__" : Str)) && !(x==("__name__" : Str))
def Mz(G:Sg)(x:Str):Bool:=(G.sc.lookup x==some .globalImplicit)&&Fe x
noncomputable def Y1(x:Str):Option String:=
 if x="int" then some "int" else if x="bool" then some "bool" else if x="str" then some "str" else if x="list" then some "list" else if x="tuple" then some "tuple" else if x="dict" then some "dict" else if x="ValueError" then some "ValueError" else none
theorem a62:dE "ValueError"=some (.type "ValueError"):=by decide +kernel
theorem ai9(h:Y1 x=some T):dE x=some (.type T):=by
 unfold Y1 at h
 by_cases e1:x="int"
 .rw[if_pos e1] at h;cases h;rw[e1];exact j_
 rw[if_neg e1] at h
 by_cases e2:x="bool"
 .rw[if_pos e2] at h;cases h;rw[e2];exact PyProof.Rows.boot_bool
 rw[if_neg e2] at h
 by_cases e3:x="str"
 .rw[if_pos e3] at h;cases h;rw[e3];exact ka
 rw[if_neg e3] at h
 by_cases e4:x="list"
 .rw[if_pos e4] at h;cases h;rw[e4];exact eK
 rw[if_neg e4] at h
 by_cases e5:x="tuple"
 .rw[if_pos e5] at h;cases h;rw[e5];exact jw
 rw[if_neg e5] at h
 by_cases e6:x="dict"
 .rw[if_pos e6] at h;cases h;rw[e6];exact PyProof.Rows.boot_dict
 rw[if_neg e6] at h
 by_cases e7:x="ValueError"
 .rw[if_pos e7] at h;cases h;rw[e7];exact a62
 rw[if_neg e7] at h
 cases h
noncomputable def Kq(CX:CXT)(X:Cx):Prop:=∀Ex,Meets X Ex -> ∀(ξ:List (Addr×Obj))(σ:St)(H:Hp)(s:aF)(e:Value)(s':aF),Inv X ξ σ H s->CX X.stack H s (λv _ H'=>∃a,v=.ref a/\Ex σ a H') e s'->X.xe e s'
structure Ib (X:Cx) (i:FI):Prop where
 kp:br X.K (.ref i.f)=true
 ok:∃CX,(∀X':Cx,X'.prog=X.prog->X'.w=X.w->Kq CX X')/\FnOk X.prog X.w X.K X.mg X.base CX i.k i.f i.fd i.ps i.sp
 room:Room i.k X.A
 binds:∀j,j<=i.dfs.length->Binds X.K i.fd i.ps (i.ds.drop j)
 vals:Vals i.dfs i.ds
noncomputable def Mc(X:Cx)(C:Addr):Option FI->Prop
 |none=>bp X.K (.ref C) "__init__"=some (some (.builtin "ValueError.__init__"))
 |some i=>bp X.K (.ref C) "__init__"=some (some (.ref i.f))/\dn X.K (.ref i.f)=true/\Ib X i/\Room (i.k+1) X.A
noncomputable def am9(X:Cx)(C:Addr):Option FI->Prop
 |none=>dJ X.K C=true/\bp X.K (.ref C) "__init__"=some (some (.builtin "object.__init__"))
 |some i=>dJ X.K C=true/\bp X.K (.ref C) "__init__"=some (some (.ref i.f))/\dn X.K (.ref i.f)=true/\Ib X i/\Room (i.k+1) X.A
noncomputable def GBOk(X:Cx)(x:Str):GB->Prop
 |.fn i=>X.mg x=some (.ref i.f)/\Ib X i
 |.val v u=>X.mg x=some u/\RelV v u
 |.exc C oi=>X.mg x=some (.ref C)/\br X.K (.ref C)=true/\ECls X.K C/\Mc X C oi
 |.cls C oi=>X.mg x=some (.ref C)/\br X.K (.ref C)=true/\am9 X C oi
 |.met m l=>∀mi∈l,Cls X.K mi.C/\Uj X.K mi.C m mi.i.f/\Ib X mi.i
theorem GBOk.to(hm:X'.mg=X.mg)(hK:X'.K=X.K)(hP:X'.prog=X.prog)(hw:X'.w=X.w)(hA:∀k,Room k X.A->Room k X'.A)(hf:∀i,Ib X i->Ib X' i)(h:GBOk X x g):GBOk X' x g:=by
 cases g with
 |fn i=>exact⟨hm▸h.1,hf i h.2⟩
 |val v u=>exact⟨hm▸h.1,h.2⟩
 |exc C oi=>
  obtain⟨a,b,c,d⟩:=h
  refine⟨hm▸a,hK▸b,hK▸c,?_⟩
  cases oi with
  |none=>unfold Mc at d ⊢;rw[hK];exact d
  |some i=>obtain⟨d1,d2,d3,d4⟩:=d;exact⟨hK▸d1,hK▸d2,hf i d3,hA _ d4⟩
 |cls C oi=>
  obtain⟨a,b,d⟩:=h
  refine⟨hm▸a,hK▸b,?_⟩
  cases oi with
  |none=>unfold am9 at d ⊢;rw[hK];exact d
  |some i=>obtain⟨d1,d2,d3,d4,d5⟩:=d;exact⟨hK▸d1,hK▸d2,hK▸d3,hf i d4,hA _ d5⟩
 |met m l=>exact λmi hi=>⟨hK▸(h mi hi).1,hK▸(h mi hi).2.1,hf _ (h mi hi).2.2⟩
def FrH(X:Cx):Prop:=∃(e0:Env)(o0:List Env)(L:Addr),X.stack=e0::o0/\e0.frame=some L/\X.env.frame=some L
structure GOk (X:Cx) (G:Sg):Prop where
 K:X.K=G.K
 kind:X.env.scope.kind=.function
 own:G.top=true->iG (model X.prog X.w) X.A X.env X.xe
 N:X.N=G.N
 nd:G.N.Nodup
 sc:∀x,X.env.scope.names.lookup x=G.sc.lookup x
 vis:∀x∈G.N,Vis X.env.scope x
 top:G.top=true -> ∀x,X.fn x=true
 calm:G.calm=X.calm
 hd:X.calm=true->X.A.handled=none
 units:X.A.units+64<cLine
 cel:∀x,(X.env.scope.names.lookup x=some .cell\/X.env.scope.names.lookup x=some .free) -> ∃c,X.env.cells.lookup x=some c
 gb:∀x g,(x,g)∈G.gb->GBOk X x g
 bl:∀x,G.bl.contains x=true->X.mg x=none
 frm:G.top=true->X.stack=X.env::X.outer/\X.env.frame=some X.env.locals
 fr:FrH X
section
variable {X:Cx} {G:Sg}
theorem GOk.at_(O:GOk X G)(x:Str)(g:GB)(e:G.gb.lookup x=some g):GBOk X x g:=O.gb x g (cv e)
theorem GOk.met(O:GOk X G)(m:Str)(l:List MI)(e:Dw G.gb m=some l):∀mi∈l,Cls X.K mi.C/\Uj X.K mi.C m mi.i.f/\Ib X mi.i:=by
 obtain⟨x,hx⟩:=C6 e
 exact O.gb x _ hx
theorem GOk.gl(O:GOk X G)(h:Mz G x=true):Gl X x:=by
 unfold Mz at h
 rw[ay] at h
 have:=cK h.1
 unfold Gl
 show X.env.scope.names.lookup x=_
 rw[O.sc x]
 exact this
theorem Sz(h:Fe x=true):(x==("__debug__" : Str))=false/\(x==("__classdict__" : Str))=false/\x ≠ "__name__" := by
 unfold Fe at h
 simp only[ay,eZ] at h
 exact⟨h.1.1,h.1.2,λe=>by rw[e] at h;simp at h⟩
theorem Xl(h:Mz G x=true):(x==("__debug__" : Str))=false/\(x==("__classdict__" : Str))=false/\x ≠ "__name__" := by
 unfold Mz at h
 rw[ay] at h
 exact Sz h.2
noncomputable def a30(G:Sg)(x:Str):DE:=
 match C8 G.N x 0 with
 |some i=>if Fe x=true then Aa i else dNo
 | none=>if Mz G x=true then (match G.gb.lookup x with
   |some (.val v _)=>dC v
   |some (.exc C _)=>dC (.ref C)
   |some (.cls C _)=>dC (.ref C)
   |some _=>dNo
   | none=>if G.bl.contains x=true then (match Y1 x with
    |some T=>dC (.ty T)
    |none=>dNo) else dNo) else dNo
theorem Bx:QE X e dNo:=λ_ _ _ _ _ _ _ _ h=>h.elim
theorem bx9(hN:X.N[i]?=some x)(hv:Vis X.env.scope x)(hp:Fe x=true):QE X (.Name x pos) (Aa i):=by
 intro Ex _ ξ s σ H Q I h
 unfold Aa at h
 split at h
 .rename_i v e
  exact bv3 hN hv (Sz hp).1 (Sz hp).2.1 ξ s σ H Q I ⟨v,e,h⟩
 .exact h.elim
theorem bd1(O:GOk X G)(x:Str)(pos:Pos):QE X (.Name x pos) (a30 G x):=by
 unfold a30
 split
 .rename_i i e
  split
  .rename_i hp
   have hi:=Fg e
   exact bx9 (by rw[O.N];exact hi) (O.vis x (ag hi)) hp
  .exact Bx
 .split
  .rename_i hg
   have dd:=Xl hg
   split
   .rename_i v u e
    obtain⟨h1,h2⟩:=O.at_ x _ e
    exact λ_ _=>Sy (O.gl hg) h1 h2 dd.1
   .rename_i C oi e
    exact λ_ _=>Sy (v:=.ref C) (O.gl hg) (O.at_ x _ e).1 rfl dd.1
   .rename_i C oi e
    exact λ_ _=>Sy (v:=.ref C) (O.gl hg) (O.at_ x _ e).1 rfl dd.1
   .exact Bx
   .split
    .rename_i hb
     split
     .rename_i T e
      exact λ_ _=>bb0 (O.gl hg) (O.bl x hb) (ai9 e) rfl dd.2.2 dd.1
     .exact Bx
    .exact Bx
  .exact Bx
noncomputable def a28:Const->DE
 |.int i=>dC (.int i)
 |.bool b=>dC (.bl b)
 |.none=>dC .non
 |.str x=>dC (.str x)
 |_=>dNo
theorem ax1(c:Const)(j:Nat)(pos:Pos):QE X (.Constant c j pos) (a28 c):=by
 cases c with
 |int i=>exact λ_ _=>bu7
 |bool b=>exact λ_ _=>b79
 |none=>exact λ_ _=>bu9
 |str x=>exact λ_ _=>bv1
 |_=>exact Bx
variable {a b c:Expr} {da db dc:DE} {ta tb:DT} {es:List Expr} {r:DA} {pos:Pos}
theorem bw5(op:Operator)(ha:QE X a da)(hb:QE X b db):QE X (.BinOp a op b pos) (Ad (rOp X.K op) da db):=λEx m=>b81 (cf1 op) (ha Ex m) (hb Ex m)
theorem bx4(ha:QE X a da):QE X (.UnaryOp .USub a pos) (dUn Ja da):=λEx m=>bi3 cj8 (ha Ex m)
theorem bw9(ha:QE X a da):QE X (.UnaryOp .Invert a pos) (dUn Q6 da):=λEx m=>bi3 b39 (ha Ex m)
theorem bw7(hu:X.A.units+64<cLine)(op:mL)(ha:QE X a da)(hb:QE X b db)(hm:jB op b=false):QE X (.Compare a [op] [b] pos) (Ad (Oy X.K op) da db):=λEx m=>bb1 (P1 hu op) (ha Ex m) (hb Ex m) hm
theorem by8(hu:X.A.units+64<cLine)(op:mL)(ha:QE X a da)(hb:QE X b db)(hm:jB op b=false):QT X (.Compare a [op] [b] pos) (Au (Ad (Oy X.K op) da db)):=by
 intro Ex m ξ s σ H Q I h
 refine wpAny_isTrue_Compare1 (thn (ha Ex m ξ s σ H _ I h) λv s1 ⟨x,H1,I1,r1,q1⟩=>thn (hb Ex m ξ s1 σ H1 _ I1 q1) λu s2 ⟨y,H2,I2,r2,q2⟩=>
  thn (P1 hu op ξ s2 σ H2 x y v u _ I2 r1 r2 q2) λc s3 ⟨z,H3,I3,r3,q3⟩=>?_) hm
 cases z with
 |bl k=>cases r3;exact d8 ⟨H3,I3,q3⟩
 |_=>exact (show False from q3).elim
theorem ax0(hu:X.A.units+64<cLine)(op op':mL)(ha:QE X a da)(hb:QE X b db)(hc:QE X c dc)(hm:lastMarks [op,op'] [b,c]=false) :
  QE X (.Compare a [op,op'] [b,c] pos) (Ej (Oy X.K op) (Oy X.K op') da db dc):=by
 intro Ex m ξ s σ H Q I h
 refine Compare_chain (thn (ha Ex m ξ s σ H _ I h) λv s1 ⟨x,H1,I1,r1,q1⟩=>chain_link (thn (hb Ex m ξ s1 σ H1 _ I1 q1) λu s2 ⟨y,H2,I2,r2,q2⟩=>
  thn (P1 hu op ξ s2 σ H2 x y v u _ I2 r1 r2 q2) λd s3 ⟨z,H3,I3,r3,q3⟩=>?_)) hm
 cases z with
 |bl k=>
  cases r3
  refine d8 ?_
  cases k with
  |false=>exact ite_ff ⟨.bl false,H3,I3,rfl,q3⟩
  |true=>exact ite_tt (chain_last (thn (hc Ex m ξ s3 σ H3 _ I3 q3) λw' s4 ⟨z',H4,I4,r4,q4⟩=>P1 hu op' ξ s4 σ H4 y z' u w' Q I4 r2 r4 q4))
 |_=>exact (show False from q3).elim
theorem ax9(hu:X.A.units+64<cLine)(op op':mL)(ha:QE X a da)(hb:QE X b db)(hc:QE X c dc)(hm:lastMarks [op,op'] [b,c]=false) :
  QT X (.Compare a [op,op'] [b,c] pos) (Au (Ej (Oy X.K op) (Oy X.K op') da db dc)):=by
 intro Ex m ξ s σ H Q I h
 refine isTrue_chain (thn (ha Ex m ξ s σ H _ I h) λv s1 ⟨x,H1,I1,r1,q1⟩=>test_link (thn (hb Ex m ξ s1 σ H1 _ I1 q1) λu s2 ⟨y,H2,I2,r2,q2⟩=>
  thn (P1 hu op ξ s2 σ H2 x y v u _ I2 r1 r2 q2) λd s3 ⟨z,H3,I3,r3,q3⟩=>?_)) hm
 cases z with
 |bl k=>
  cases r3
  refine d8 ?_
  cases k with
  |false=>exact ite_ff ⟨H3,I3,q3⟩
  |true=>
   refine ite_tt (test_last (thn (hc Ex m ξ s3 σ H3 _ I3 q3) λw' s4 ⟨z',H4,I4,r4,q4⟩=>thn (P1 hu op' ξ s4 σ H4 y z' u w' _ I4 r2 r4 q4) λd' s5 ⟨z2,H5,I5,r5,q5⟩=>?_))
   cases z2 with
   |bl k2=>cases r5;exact d8 ⟨H5,I5,q5⟩
   |_=>exact (show False from q5).elim
 |_=>exact (show False from q3).elim
def aw0:Expr->Bool
 |.UnaryOp .Not _ _=>false
 |.BoolOp _ _ _=>false
 |.IfExp _ _ _ _=>false
 |.Compare _ _ _ _=>false
 |_=>true
theorem ah0(h:aw0 e=true)(whole:Sem Value):isTrue e X.env whole=(do let v <- whole;standAt e.pos;mJ [v] (truthy v)):=by
 cases e with
 |UnaryOp op _ _=>cases op <;> first|rfl|cases h
 |BoolOp _ _ _=>cases h
 |IfExp _ _ _ _=>cases h
 |Compare _ _ _ _=>cases h
 |_=>rfl
theorem bz0(ha:QE X a da)(h:aw0 a=true):QT X a (Ee X.K da):=by
 intro Ex m ξ s σ H Q I hw
 exact isTrue_plain (thn (ha Ex m ξ s σ H _ I hw) λv s1 ⟨x,H1,I1,r1,q1⟩=>ab3 ξ s1 σ H1 x v Q I1 r1 q1) (ah0 h _)
theorem by9(ha:QT X a ta):QT X (.UnaryOp .Not a pos) (Ed ta):=λEx m=>bw0 (ha Ex m)
theorem be0(ha:QT X a ta):QW X (.BoolOp .And [a] pos) ta:=λEx m=>bc1 (ha Ex m)
theorem bz2(ha:QT X a ta):QW X (.BoolOp .Or [a] pos) ta:=λEx m=>bw2 (ha Ex m)
theorem bz1(ha:QT X a ta)(hb:QW X (.BoolOp .And (b::es) pos) tb):QW X (.BoolOp .And (a::b::es) pos) (Os ta tb):=λEx m=>bw1 (ha Ex m) (hb Ex m)
theorem b91(ha:QT X a ta)(hb:QW X (.BoolOp .Or (b::es) pos) tb):QW X (.BoolOp .Or (a::b::es) pos) (dOr ta tb):=λEx m=>b85 (ha Ex m) (hb Ex m)
theorem bx6(ha:QE X a da):QE X (.BoolOp op [a] pos) da:=λEx m=>bv0 (ha Ex m)
theorem bw4(ha:QE X a da)(hb:QE X (.BoolOp .And (b::es) pos) db):QE X (.BoolOp .And (a::b::es) pos) (Ku X.K da db):=by
 intro Ex m ξ s σ H Q I h
 refine BoolOp_and (thn (ha Ex m ξ s σ H _ I h) λv s1 ⟨x,H1,I1,r1,q1⟩=>thn (ab3 ξ s1 σ H1 x v _ I1 r1 q1) λk s2 ⟨H2,I2,q2⟩=>?_)
 cases k with
 |true=>exact hb Ex m ξ s2 σ H2 Q I2 q2
 |false=>exact⟨x,H2,I2,r1,q2⟩
theorem b89(ha:QE X a da)(hb:QE X (.BoolOp .Or (b::es) pos) db):QE X (.BoolOp .Or (a::b::es) pos) (b25 X.K da db):=by
 intro Ex m ξ s σ H Q I h
 refine BoolOp_or (thn (ha Ex m ξ s σ H _ I h) λv s1 ⟨x,H1,I1,r1,q1⟩=>thn (ab3 ξ s1 σ H1 x v _ I1 r1 q1) λk s2 ⟨H2,I2,q2⟩=>?_)
 cases k with
 |false=>exact hb Ex m ξ s2 σ H2 Q I2 q2
 |true=>exact⟨x,H2,I2,r1,q2⟩
theorem bx5(ha:QE X a da):QE X (.UnaryOp .Not a pos) (ap1 X.K da):=by
 intro Ex m ξ s σ H Q I h
 refine UnaryOp_ (thn (ha Ex m ξ s σ H _ I h) λv s1 ⟨x,H1,I1,r1,q1⟩=>not_of (thn (ab3 ξ s1 σ H1 x v _ I1 r1 q1) λk s2 ⟨H2,I2,q2⟩=>?_))
 exact⟨.bl (!k),H2,I2,rfl,q2⟩
theorem b86(ht:QT X t ta)(ha:QE X a da)(hb:QE X b db):QE X (.IfExp t a b pos) (b24 ta da db):=λEx m=>av5 (ht Ex m) (ha Ex m) (hb Ex m)
def noStar:Expr->Bool
 |.Starred _ _=>false
 |_=>true
theorem Bi(h:noStar e=true)(es:List Expr)(env:Env):dw (e::es) env=(false,eval e env)::dw es env:=by
 cases e with
 |Starred _ _=>cases h
 |_=>rfl
theorem Bo(h:es.all noStar=true)(env:Env)(pos:Pos):(jI pos (dw es env)).any (·.1)=false:=by
 induction es with
 |nil=>rfl
 |cons e es ih=>
  rw[bv,ay] at h
  rw[Bi h.1]
  show (false||(jI pos (dw es env)).any (·.1))=false
  rw[ih h.2]
  rfl
theorem K7(h:es.all noStar=true)(env:Env)(pos:Pos):(jI pos (dw es env)).all (λx=>!x.1)=true:=by
 induction es with
 |nil=>rfl
 |cons e es ih=>
  rw[bv,ay] at h
  rw[Bi h.1]
  show (true&&(jI pos (dw es env)).all (λx=>!x.1))=true
  rw[ih h.2]
  rfl
theorem bw3:QA X [] Ah:=λ_ _=>bu6
theorem bc2(ha:QE X a da)(hr:QA X es r)(hs:noStar a=true):QA X (a::es) (Ab da r):=λEx m=>ba8 (ha Ex m) (hr Ex m) (Bi hs es X.env)
theorem bx8(h:QA X es r):QE X (.Tuple es k pos) (Gc r):=λEx m=>bv2 (h Ex m)
theorem bx0(h:QA X es r):QE X (.List es pos) (Cp r):=λEx m=>bu8 (h Ex m)
def Ix:Expr->Bool
 |.Slice _ _ _ _=>false
 |_=>true
theorem Xx(h:Ix e=true):Y5 e:=by
 intro o i
 cases e with
 |Slice _ _ _ _=>cases h
 |_=>rfl
theorem b87(hu:X.A.units+64<cLine)(ha:QE X a da)(hb:QE X b db)(h:Ix b=true):QE X (.Subscript a b pos) (Ad (An X.K) da db):=λEx m=>b80 (ce9 hu) (ha Ex m) (hb Ex m) (Xx h)
theorem bc3(ha:QE X a da)(h:jA a f X.env (eval a X.env)=eval a X.env):QE X (.Attribute a f pos) (dUn (D7 X.K f) da):=by
 intro Ex m ξ s σ H Q I hw
 exact a59 h (thn (ha Ex m ξ s σ H _ I hw) λu s1 ⟨x,H1,I1,rx,q⟩=>b32 I1 rx q)
end
end L2
namespace PySem.SeqAt
open AutoSeq1 (wpAny_loadPart')
open MeetsSeq MeetsSeq2 MeetsSeq3
theorem af6(l b:Addr)(ψ ω:Array Value)(n n2:Nat)(dd dd2:Option Addr)(sl sl2:Array (Option Value))(e:Nat->Bool)(lt:Nat->Bool)(k:Nat) :
  ∀i:Nat,ψ.size - i=k->Meets (az.«list.__eq__.loop» ⟨[.ref l,.ref b,fP i,fP 0],[]⟩)
   (λA R s=>s.heap.get? l=some { cls:=.type "list", dict:=dd,data:=.seq ψ n,slots:=sl }/\s.heap.get? b=some { cls:=.type "list", dict:=dd2,data:=.seq ω n2,slots:=sl2 } /\
    (∀j (h1:j<ψ.size) (h2:j<ω.size),EqAt A.in1 s ψ[j] ω[j] (e j)) /\
    (∀j (h1:j<ψ.size) (h2:j<ω.size),∀(prog:bq)(w:cb)(E:Value->aF->Prop)(Q:Value->aF->Prop),Q (.bool (lt j)) s->aW (model prog w) A.in1 (kZ .Lt ψ[j] ω[j]) Q E s) /\
    R (.ok (.ret (.bool (match ((aD (min ψ.size ω.size)).drop i).find? (λj=>!e j) with|some j=>lt j|none=>decide (ψ.size<ω.size))))) s):=by
 induction k with
 |zero=>
  intro i hk prog w A R s h
  obtain⟨hp,g,d,tk,os⟩:=s;obtain⟨hl,hb,he,hr,h⟩:=h
  wp_walk using cg hl,cg hb
  have hi1:ψ[((i:Nat):Int).toNat]?=none:=by simp;omega
  have hd:(aD (min ψ.size ω.size)).drop i=[]:=by simp;omega
  rw[hd] at h
  rw[hi1]
  wp_walk using cg hl,cg hb
  exact h
 |succ k ih=>
  intro i hk prog w A R s h
  obtain⟨hp,g,d,tk,os⟩:=s;obtain⟨hl,hb,he,hr,h⟩:=h
  wp_walk using cg hl,cg hb
  have hlt:i<ψ.size:=by omega
  have hi1:ψ[((i:Nat):Int).toNat]?=some ψ[i]:=by simp[hlt]
  by_cases hlt2:i<ω.size
  .have hi2:ω[((i:Nat):Int).toNat]?=some ω[i]:=by simp[hlt2]
   have hm:i<min ψ.size ω.size:=by omega
   have hd:(aD (min ψ.size ω.size)).drop i=i::(aD (min ψ.size ω.size)).drop (i+1):=by rw[i0 (by simpa using hm)];simp
   have hc:((i:Int)+1)=((i+1:Nat):Int):=by push_cast;rfl
   rw[hd,bR] at h
   rw[hi1,hi2]
   refine ai (he i hlt hlt2 prog w _ _ ?_)
   cases hb':e i with
   |true=>
    rw[hb'] at h
    wp_walk
    rw[hc]
    exact⟨gh jD _,dq entry_eq_loop (by
     rw[cZ jD _]
     exact ih (i+1) (by omega) prog w A R _ ⟨hl,hb,he,hr,h⟩)⟩
   |false=>
    rw[hb'] at h
    wp_walk using cg hl,cg hb
    rw[hi1,hi2]
    refine ai (hr i hlt hlt2 prog w _ _ ?_)
    wp_walk
    exact h
  .have hi2:ω[((i:Nat):Int).toNat]?=none:=by simp;omega
   have hd:(aD (min ψ.size ω.size)).drop i=[]:=by simp;omega
   rw[hd] at h
   rw[hi1,hi2]
   wp_walk using cg hl,cg hb
   exact h
theorem af5(l b:Addr)(ψ ω:Array Value)(n n2:Nat)(dd dd2:Option Addr)(sl sl2:Array (Option Value))(e lt:Nat->Bool) :
  Meets (az.«list.__lt__» ⟨[.ref l,.ref b],[]⟩)
   (λA R s=>s.heap.get? l=some { cls:=.type "list", dict:=dd,data:=.seq ψ n,slots:=sl }/\s.heap.get? b=some { cls:=.type "list", dict:=dd2,data:=.seq ω n2,slots:=sl2 } /\
    (∀j (h1:j<ψ.size) (h2:j<ω.size),EqAt A.in1 s ψ[j] ω[j] (e j)) /\
    (∀j (h1:j<ψ.size) (h2:j<ω.size),∀(prog:bq)(w:cb)(E:Value->aF->Prop)(Q:Value->aF->Prop),Q (.bool (lt j)) s->aW (model prog w) A.in1 (kZ .Lt ψ[j] ω[j]) Q E s) /\
    R (.ok (.ret (.bool (match (aD (min ψ.size ω.size)).find? (λj=>!e j) with|some j=>lt j|none=>decide (ψ.size<ω.size))))) s):=by
 intro prog w A R s h
 obtain⟨hp,g,d,tk,os⟩:=s;obtain⟨hl,hb,he,hr,h⟩:=h
 have f3:=AutoSeq1.sub_list_list
 wp_walk using cg hl,cg hb
 exact⟨gh jD _,dq entry_eq_loop (by
  rw[cZ jD _]
  exact af6 l b ψ ω n n2 dd dd2 sl sl2 e lt _ 0 rfl prog w A R _ ⟨hl,hb,he,hr,by simpa using h⟩)⟩
theorem lt_lists {A:cj}{s:aF}{l b:Addr}{ψ ω:Array Value}{e lt:Nat->Bool}(hl:s.heap.IsList l ψ)(hb:s.heap.IsList b ω)(hu:A.units<cLine)(he:∀j (h1:j<ψ.size) (h2:j<ω.size),EqAt A.in1 s ψ[j] ω[j] (e j))(hr:∀j (h1:j<ψ.size) (h2:j<ω.size),∀(prog:bq)(w:cb)(E:Value->aF->Prop)(Q:Value->aF->Prop),Q (.bool (lt j)) s->aW (model prog w) A.in1 (kZ .Lt ψ[j] ω[j]) Q E s){prog:bq}{w:cb}{E:Value->aF->Prop}{Q:Value->aF->Prop}(h:Q (.bool (match (aD (min ψ.size ω.size)).find? (λj=>!e j) with|some j=>lt j|none=>decide (ψ.size<ω.size))) s) :
  aW (model prog w) A (kZ .Lt (.ref l) (.ref b)) Q E s:=by
 obtain⟨⟨cls,dd,data,sl⟩,ho,hc,n,hd⟩:=id hl
 obtain⟨⟨cls2,dd2,data2,sl2⟩,ho2,hc2,n2,hd2⟩:=id hb
 simp only at hc hd hc2 hd2
 subst hc hd hc2 hd2
 exact richCompare_meets_room (op:=.Lt) ⟨_,ho,rfl⟩ ⟨_,ho2,rfl⟩ F.slot_list_lt F.entry_list_lt (F.args_list_lt_2 _ _) (af5 l b ψ ω n n2 dd dd2 sl sl2 e lt)
  ⟨ho,ho2,he,hr,⟨(λx=>nomatch x),h⟩⟩ hu
end PySem.SeqAt
namespace PySem.W
open PySem PySem.Calls PyProof.Rows
def kRun {α:Type}(n:Nat)(lt:Nat->Nat->Bool):KasT α->Option α
 |.ret a=>some a
 |.ask i j k=>if i<n/\j<n then kRun n lt (k (lt i j)) else none
theorem kRun_wp {α:Type}{n:Nat}{lt:Nat->Nat->Bool}{cmp:Nat->Nat->(Bool->aF->Prop)->aF->Prop}{G:α->aF->Prop}{s:aF}(h:∀i j C,i<n->j<n->C (lt i j) s->cmp i j C s) :
  ∀ {t:KasT α} {a:α},kRun n lt t=some a->G a s->t.kasWp cmp G s
 | .ret b,a,e,g=>by
  have:b=a:=aM e
  subst this
  exact g
 | .ask i j k,a,e,g=>by
  unfold kRun at e
  split at e
  .rename_i hij
   exact h i j _ hij.1 hij.2 (kRun_wp h e g)
  .cases e
section
noncomputable def SoFin(a:Addr)(e:Nat)(out:List Value)(C:aF->Prop)(s:aF):Prop:=
 s.heap.get? a=some (cP "list" #[] e)/\∀h' c,h'.get? a=some (cP "list" (gM out) c)->bE a s.heap h'->C { s with heap:=h' }
theorem SoFin.mono(h:SoFin a e out C s)(hc:∀s,C s->C' s):SoFin a e out C' s:=⟨h.1,λh' c x y=>hc _ (h.2 h' c x y)⟩
theorem Jf(ho:s.heap.get? a=some (cP "list" vs.toArray n))(h2:2<=vs.length)(h64:vs.length<64)(h:∀e1 h',h'.get? a=some (cP "list" #[] e1)->(∀b o,b≠a->s.heap.get? b=some o->h'.get? b=some o) ->
   aW (model prog w) A (keyKind' vs.toArray) (λκ s'=>(kas_sort vs.length).kasWp (kas_ask prog w A κ vs) (λp s''=>SoFin a e1 (p.toList.map λi=>vs.getD i bT) (λs3=>P (.done (.ret .none)) s3) s'') s') (λ_ _=>False) { s with heap:=h' }) :
  aW (model prog w) A (az.«list.sort» ⟨[.ref a],[]⟩) P E s:=by
 have ha:a<s.heap.objs.size:=aH ho
 have s1:=cC s.heap a (bS λ_=>(#[]:Array Value))
 obtain⟨e1,ho1⟩:∃e1,(s.heap.update a (bS λ_=>(#[]:Array Value))).get? a=some (cP "list" #[] e1):=⟨_,iJ ho λ_=>#[]⟩
 have ask:=h e1 (((s.heap.update a (bS λ_=>(#[]:Array Value))).push (cP "tuple" vs.toArray 0)).push (cP "list" #[] 0)) (ah _ (ah _ ho1))
  (λb o nb e=>ah _ (ah _ ((s1.2 b nb).trans e)))
 rw[list_sort_plain]
 refine ai (listItems_at ho rfl ?_)
 refine ai (jC ho rfl ?_ (by rw[aB,ce];omega) (bZ _))
 refine ai (k6 ho1 rfl ?_)
 refine ai (i_ ?_ (by show vs.length<=_;rw[ce];omega))
 refine ai (ip ?_ (bZ _))
 refine bJ ?_
 show aW (model prog w) A _ P E { s with heap:=((s.heap.update a (bS λ_=>(#[]:Array Value))).push (cP "tuple" vs.toArray 0)).push (cP "list" #[] 0) }
 dsimp only
 have hn2:¬ vs.toArray.size<2:=by rw[aB];omega
 rw[if_neg hn2,if_neg hn2]
 refine ai (cW ask (λκ s0 hk=>?_) λ_ _ x=>x.elim)
 refine ai (cW (kat_run (Q:=λst' s'=>∃p:Array Nat,p.size=vs.length/\arrOf st'=p.map (kas_item (vs.toArray.zip vs.toArray))/\failedOf st'=none/\SoFin a e1 (p.toList.map λi=>vs.getD i bT) (λs''=>P (.done (.ret .none)) s'') s')
  rfl h2 h64 (λp' st' s' a1 a2 a3 a4=>⟨p',a1,a2,a3,a4⟩) hk) ?_ λ_ _ e=>e)
 rintro⟨⟨⟩,st'⟩ s' ⟨p,hp,har,hf,na,k⟩
 dsimp only
 have hout:=kat_snds rfl har
 have hsz:(gM (p.toList.map λi=>vs.getD i bT)).size=vs.length:=by rw[aB,ae,d_,hp]
 rw[hout]
 have s2:=cC s'.heap a (bS λ_=>gM (p.toList.map λi=>vs.getD i bT))
 obtain⟨c2,hc2⟩:∃c2,(s'.heap.update a (bS λ_=>gM (p.toList.map λi=>vs.getD i bT))).get? a=some (cP "list" (gM (p.toList.map λi=>vs.getD i bT)) c2):=⟨_,iJ na λ_=>gM (p.toList.map λi=>vs.getD i bT)⟩
 refine ai (k6 na rfl ?_)
 refine ai (jC na rfl ?_ (bZ _) (aw (lW hsz) (by rw[ce];omega)))
 rw[hf]
 simp only[bne_self_eq_false,ck,if_false]
 exact aE (k _ c2 hc2 s2)
theorem so_sorted(hl:s.heap.IsList l vs.toArray)(h2:2<=vs.length)(h64:vs.length<64)(h:∀D e1 h',s.heap.objs.size<=D->h'.get? D=some (cP "list" #[] e1)->(∀b o,s.heap.get? b=some o->h'.get? b=some o) ->
   aW (model prog w) A.in1.in1 (keyKind' vs.toArray) (λκ s'=>(kas_sort vs.length).kasWp (kas_ask prog w A.in1.in1 κ vs) (λp s''=>SoFin D e1 (p.toList.map λi=>vs.getD i bT) (λs3=>Q (.ref D) s3) s'') s') (λ_ _=>False) { s with heap:=h' }) :
  aW (model prog w) A (call (.builtin "sorted") [.ref l]) Q E s:=by
 refine iY kind_sorted plain_sorted entry_sorted (args_sorted1 _) ?_
 unfold az.«sorted»
 refine ai (m:=checkCount "sorted" 1 1 _) (aE ?_)
 refine ai (collect_list hl ?_ (by rw[ce];omega))
 refine ai (ip ?_ (by rw[ce];omega))
 have hsz:((s.heap.push (cP "list" #[] 0)).update s.heap.objs.size (bS (· ++ vs.toArray))).objs.size=s.heap.objs.size+1:=by
  rw[Heap.size_update,size_push']
 have hoL:(((s.heap.push (cP "list" #[] 0)).update s.heap.objs.size (bS (· ++ vs.toArray))).push (cP "list" vs.toArray 0)).get? (s.heap.objs.size+1)=some (cP "list" vs.toArray 0):=by
  rw[<- hsz];exact aK _ rfl
 have keep:∀b o,s.heap.get? b=some o->(((s.heap.push (cP "list" #[] 0)).update s.heap.objs.size (bS (· ++ vs.toArray))).push (cP "list" vs.toArray 0)).get? b=some o:=λb o q=>by
  have hlt:b<s.heap.objs.size:=aH q
  rw[Heap.get?_push_ne _ _ _ (by rw[hsz];exact aT (d7 hlt)),Heap.get?_update_ne _ _ _ _ (aT hlt),Heap.get?_push_ne _ _ _ (aT hlt)]
  exact q
 show aW _ _ _ _ _ { s with heap:=((s.heap.push (cP "list" #[] 0)).update s.heap.objs.size (bS (· ++ vs.toArray))).push (cP "list" vs.toArray 0) }
 rw[hsz]
 refine ai (bJ (dM slot_list_sort ⟨_,hoL,rfl⟩ entry_list_sort ?body (args_list_sort _)))
 case body=>
  refine Jf (s:={ s with heap:=((s.heap.push (cP "list" #[] 0)).update s.heap.objs.size (bS (· ++ vs.toArray))).push (cP "list" vs.toArray 0) }) hoL h2 h64 λe1 h' g k=>?_
  refine cW (h _ e1 h' (dQ _) g λb o q=>k b o (aT (d7 (aH q))) (keep b o q)) (λκ s' hk=>?_) λ_ _ x=>x
  rw[kat_ask_eq rfl] at hk ⊢
  exact kas_wp_mono hk λp s'' hk'=>hk'.mono λs3 hq=>⟨_,rfl,aE ⟨_,rfl,hq⟩⟩
end
end PySem.W
namespace L2
open PySem PySem.Spec PyProof.Rows
def ltL:List Int->List Int->Bool
 |[],[]=>false
 |[],_::_=>true
 |_::_,[]=>false
 |x::xs,y::ys=>if x=y then ltL xs ys else decide (x<y)
def ltP(p q:Int×List Int):Bool:=if p.1=q.1 then ltL p.2 q.2 else decide (p.1<q.1)
def at5(ps:List (Int×List Int))(i j:Nat):Bool:=ltP (ps.getD i (0,[])) (ps.getD j (0,[]))
theorem Vd:∀xs:List Int,ltL xs xs=false
 |[]=>rfl
 |x::xs=>by unfold ltL;rw[if_pos rfl];exact Vd xs
theorem Ld(n:Nat)(p:Nat->Bool):(aD (n+1)).find? p=if p 0=true then some 0 else ((aD n).find? λj=>p (j+1)).map (· + 1):=by
 rw[jO,bR]
 cases e:p 0 with
 |true=>simp
 |false=>simp[List.find?_map,Function.comp_def]
theorem Vc:∀xs ys:List Int,(match (aD (min xs.length ys.length)).find? (λj=>!(xs.getD j 0==ys.getD j 0)) with|some j=>decide (xs.getD j 0<ys.getD j 0)|none=>decide (xs.length<ys.length))=ltL xs ys
 |[],[]=>rfl
 |[],_::_=>by simp[ltL]
 |_::_,[]=>by simp[ltL]
 | x::xs,y::ys=>by
  have ih:=Vc xs ys
  have e:min (x::xs).length (y::ys).length=min xs.length ys.length+1:=by simp only[aN];omega
  rw[e,Ld]
  unfold ltL
  by_cases h:x=y
  .subst h
   have c:(!((x::xs).getD 0 0==(x::ys).getD 0 0))=false:=by simp
   rw[c,if_neg av,if_pos rfl,<- ih]
   have f:(λj=>!((x::xs).getD (j+1) 0==(x::ys).getD (j+1) 0))=λj=>!(xs.getD j 0==ys.getD j 0):=by funext j;simp
   rw[f]
   cases (aD (min xs.length ys.length)).find? (λj=>!(xs.getD j 0==ys.getD j 0)) with
   |none=>simp
   |some j=>simp
  .have c:(!((x::xs).getD 0 0==(y::ys).getD 0 0))=true:=by simp[h]
   rw[c,if_pos rfl,if_neg h]
   rfl
abbrev soV(ds:List ((Int×List Int)×Addr×Addr)):List V:=ds.map λd=>V.ref d.2.1
noncomputable def Tg(K:ac):List V->Hp->VK->Prop:=λxs H Q=>match xs with
 | [.ref a]=>∃(ds:List ((Int×List Int)×Addr×Addr))(p:Array Nat),SqL K H a (soV ds)/\(∀d∈ds,H d.2.1=some (.tup [.int d.1.1,.ref d.2.2])/\H d.2.2=some (.lst (d.1.2.map V.int)))/\2<=ds.length/\ds.length<64 /\
   PySem.W.kRun ds.length (at5 (ds.map (·.1))) (fB ds.length)=some p/\p.toList.length=ds.length/\(p.toList.all λi=>decide (i<ds.length))=true/\∀D,H D=none->Q (.ref D) (upd H D (.lst (p.toList.map λi=>(soV ds).getD i .non)))
 |_=>False
section
theorem a92(I:Inv X ξ σ H s)(ha:H a=some (.lst (xs.map V.int)))(hb:H b=some (.lst (ys.map V.int)))(hu:A.units<cLine)(h:Q (ltL xs ys) s):aW (model X.prog X.w) A (cV .Lt (.ref a) (.ref b)) (PySem.W.BoolBack Q) E s:=by
  obtain⟨χ,r,pl,_⟩:=I.list (SqL.of ha)
  obtain⟨its2,r2,pl2,_⟩:=I.list (SqL.of hb)
  have e1:xs.length=χ.length:=by have:=r.length;simpa using this
  have e2:ys.length=its2.length:=by have:=r2.length;simpa using this
  have g1:∀j (hj:j<χ.length),∃t,χ[j]=.int (xs.getD j 0) t:=λj hj=>by
    obtain⟨u,hu,ru⟩:=r.get (i:=j) (x:=.int (xs.getD j 0)) (by rw[aj,af (by omega),ar,af (by omega)];rfl)
    rw[af hj] at hu
    obtain⟨t,rfl⟩:=ru
    exact⟨t,aM hu⟩
  have g2:∀j (hj:j<its2.length),∃t,its2[j]=.int (ys.getD j 0) t:=λj hj=>by
    obtain⟨u,hu,ru⟩:=r2.get (i:=j) (x:=.int (ys.getD j 0)) (by rw[aj,af (by omega),ar,af (by omega)];rfl)
    rw[af hj] at hu
    obtain⟨t,rfl⟩:=ru
    exact⟨t,aM hu⟩
  refine SeqAt.lt_lists (e:=λj=>xs.getD j 0==ys.getD j 0) (lt:=λj=>decide (xs.getD j 0<ys.getD j 0)) pl.isList pl2.isList hu (λj j1 j2=>?_) (λj j1 j2 prog w E Q hq=>?_) ?_
  . obtain⟨t,e⟩:=g1 j (by simpa using j1)
    obtain⟨t',e'⟩:=g2 j (by simpa using j2)
    simp only[kB]
    rw[e,e']
    exact lu _ _ _ _
  . obtain⟨t,e⟩:=g1 j (by simpa using j1)
    obtain⟨t',e'⟩:=g2 j (by simpa using j2)
    simp only[kB]
    rw[e,e']
    exact lt_int hq
  . have:=Vc xs ys
    rw[aB,aB,<- e1,<- e2,this]
    exact h
theorem P6:∀xs ys:List Int,D4 (xs.map λi=>Dt.at_ (.int i)) (ys.map λi=>Dt.at_ (.int i))=decide (xs=ys)
 |[],[]=>by simp[D4]
 |[],_::_=>by simp[D4]
 |_::_,[]=>by simp[D4]
 | x::xs,y::ys=>by
  rw[aY,aY]
  unfold D4
  rw[P6 xs ys]
  unfold deq
  show ((x==y)&&decide (xs=ys))=_
  by_cases h:x=y <;> by_cases h2:xs=ys <;> simp[h,h2]
theorem P5:∀xs:List Int,Fj (xs.map λi=>Dt.at_ (.int i))=0
 |[]=>by simp[Fj]
 |x::xs=>by rw[aY];unfold Fj;rw[P5 xs];unfold dep;rfl
theorem Mi {K:ac}:∀xs:List Int,AtL K H (xs.map λi=>Dt.at_ (.int i)) (xs.map V.int)
 |[]=>by simp[AtL]
 |x::xs=>by rw[aY,aY];unfold AtL;exact⟨_,_,rfl,by unfold At;exact⟨rfl,rfl⟩,Mi xs⟩
theorem a80 {A:cj}{a b:Addr}{xs ys:List Int}(I:Inv X ξ σ H s)(ha:H a=some (.lst (xs.map V.int)))(hb:H b=some (.lst (ys.map V.int)))(hu:A.units+1<cLine) :
  bG A s (.ref a) (.ref b) (decide (xs=ys)):=by
 have:=aq0 I (.lst (xs.map λi=>Dt.at_ (.int i))) (.lst (ys.map λi=>Dt.at_ (.int i))) A (.ref a) (.ref b) _ _ (by unfold At;exact⟨_,_,rfl,SqL.of ha,Mi xs⟩) (by unfold At;exact⟨_,_,rfl,SqL.of hb,Mi ys⟩) rfl rfl (by unfold dep;rw[P5];exact hu)
 unfold deq at this
 rwa[P6] at this
theorem Jn(r:Vals xs us)(h:i<us.length):∃x,xs[i]?=some x/\RelV x (us.getD i bT):=by
 have hl:=r.length
 obtain⟨u,hu,ru⟩:=r.get (i:=i) (x:=xs[i]'(by omega)) (af (by omega))
 refine⟨_,af (by omega),?_⟩
 rw[ar,hu]
 exact ru
theorem aa2(I:Inv X ξ σ H s):∀(ds:List ((Int×List Int)×Addr×Addr))(vs:List Value),Vals (soV ds) vs->(∀d∈ds,H d.2.1=some (.tup [.int d.1.1,.ref d.2.2])) -> ∃fs,kc s.heap vs fs/\fs.length=ds.length/\∀v∈fs,∃i t,v=.int i t
 |[],vs,r,_=>by cases r;exact⟨[],PySem.W.KatTups.nil,rfl,λv hv=>by cases hv⟩
 | d::ds,vs,r,h=>by
  cases r with
  |cons r1 r2=>
   obtain⟨fs,k,hl,hi⟩:=aa2 I ds _ r2 λx hx=>h x (aq _ hx)
   cases r1
   obtain⟨χ,ri,⟨o,e,c,n,dd⟩,_⟩:=I.tuple (SqT.of (h d am))
   cases ri with
   |cons ra rr=>
    obtain⟨t,rfl⟩:=ra
    exact⟨_::fs,PySem.W.KatTups.cons e c dd rfl k,by rw[aN,aN,hl],λv hv=>(List.mem_cons.mp hv).elim (λz=>⟨_,_,z⟩) (hi v)⟩
theorem Kn(r:Vals xs us):∀(p:List Nat),(∀i∈p,i<us.length)->Vals (p.map λi=>xs.getD i .non) (p.map λi=>us.getD i bT)
 |[],_=>.nil
 | i::p,h=>by
  obtain⟨x,hx,rx⟩:=Jn r (h i am)
  refine .cons ?_ (Kn r p λj hj=>h j (aq _ hj))
  show RelV (xs.getD i .non) _
  rw[ar,hx]
  exact rx
end
theorem ar9(h:PySem.W.kRun n lt (fB n)=some p)(hp:(p.toList.all λi=>decide (i<n))=true):∀i∈p.toList,i<n:=λi hi=>by
 simpa using List.all_eq_true.mp hp i hi
theorem Us:dE "sorted"=some (.builtin "sorted"):=by decide +kernel
theorem Rt {X:Cx}(hu:X.A.units+64<cLine):Cy X (.builtin "sorted") (Tg X.K):=by
 intro ξ s σ H xs us Q I r h
 unfold Tg at h
 split at h
 .rename_i a
  obtain⟨ds,p,hq,hd,h2,h64,hr,hz,hp,q⟩:=h
  obtain⟨u,rfl,ru⟩:=Fy r
  cases ru
  obtain⟨χ,ri,pl,_⟩:=I.list hq
  have hl:χ.length=ds.length:=by have:=ri.length;simpa using this.symm
  refine PySem.W.so_sorted (vs:=χ) pl.isList (by omega) (by omega) λD e1 h' hD gD keep=>?_
  have I1:Inv X ξ σ H { s with heap:=h' }:=I.kept (t':=s.toks) keep
  obtain⟨fs,kt,kl,ki⟩:=aa2 I1 ds χ ri λd hx=>(hd d hx).1
  refine PySem.W.kat_kind (T:=.type "int") kt (by omega) (λv hv=>by obtain⟨i,t,rfl⟩:=ki v hv;exact .now) rfl ?_
  refine PySem.W.kRun_wp (n:=χ.length) (lt:=at5 (ds.map (·.1))) (a:=p) (λi j C hi hj hC=>?_) (by rw[hl];exact hr) ⟨gD,λh2 c g2 sb=>?_⟩
  .unfold PySem.W.kas_ask
   obtain⟨x,hx,rx⟩:=Jn ri hi
   obtain⟨y,hy,ry⟩:=Jn ri hj
   rw[hl] at hi hj
   have ex:x=.ref (ds[i]'hi).2.1:=by rw[aj,af hi] at hx;exact (aM hx).symm
   have ey:y=.ref (ds[j]'hj).2.1:=by rw[aj,af hj] at hy;exact (aM hy).symm
   subst ex ey
   have lt:at5 (ds.map (·.1)) i j=ltP (ds[i]'hi).1 (ds[j]'hj).1:=by
    unfold at5
    rw[ar,ar,aj,aj,af hi,af hj]
    rfl
   rw[lt] at hC
   obtain⟨t1,l1⟩:=hd _ (bV hi)
   obtain⟨t2,l2⟩:=hd _ (bV hj)
   generalize (ds[i]'hi)=d1 at rx t1 l1 hC
   generalize (ds[j]'hj)=d2 at ry t2 l2 hC
   obtain⟨⟨n1,x1⟩,a1,b1⟩:=d1
   obtain⟨⟨n2,x2⟩,a2,b2⟩:=d2
   rw[show χ.getD i bT=bh a1 from rx,show χ.getD j bT=bh a2 from ry]
   obtain⟨i1,r1,⟨o1,e1,c1,m1,d1⟩,_⟩:=I1.tuple (SqT.of t1)
   obtain⟨i2,r2,⟨o2,e2,c2,m2,d2⟩,_⟩:=I1.tuple (SqT.of t2)
   obtain⟨u1,v1,rfl,⟨tk1,rfl⟩,rfl⟩:=r1.two
   obtain⟨u2,v2,rfl,⟨tk2,rfl⟩,rfl⟩:=r2.two
   refine PySem.W.kat_lt e1 d1 e2 d2 ?_
   refine PySem.W.kat_cons (wpAny_eqBool_int ?_)
   unfold ltP at hC
   refine PySem.W.kat_go (λe=>?_) (λe=>?_)
   .have e:n1=n2:=by simpa using e
    rw[if_pos e] at hC
    refine PySem.W.kat_yes (PySem.W.kat_cons (a80 I1 l1 l2 (by show X.A.units+1+1+1<cLine;omega) _ _ _ _ ?_))
    refine PySem.W.kat_go (λe=>?_) (λe=>?_)
    .have e:x1=x2:=by simpa using e
     subst e
     rw[Vd] at hC
     exact PySem.W.kat_yes (PySem.W.kat_nil hC)
    .exact PySem.W.kat_no (PySem.W.kat_one _ _ (a92 I1 l1 l2 (by show X.A.units+1+1<cLine;omega) hC))
   .have e:¬ n1=n2:=by simpa using e
    rw[if_neg e] at hC
    exact PySem.W.kat_no (oneLt_int hC)
  .refine⟨.ref D,upd H D (.lst (p.toList.map λi=>(soV ds).getD i .non)),?_,rfl,q D (I.hok.fresh hD)⟩
   refine I.laid (t':=s.toks) (λb u e=>(sb.2 b (aT (aL (aH e) hD))).trans (keep b u e)) hD ⟨?_,_,c,Kn ri p.toList (λi hi=>by rw[hl];exact ar9 hr hp i hi),g2⟩
   rw[ae,hz,ce]
   omega
 .exact h.elim
end L2
namespace PySem.W
open PySem PySem.Calls PyProof.Rows
section
variable {prog:bq} {w:cb} {A:cj} {E:Value->aF->Prop} {s:aF} {vs:List Value}
theorem collect_src {T:String}{r d:Addr}{n:Nat}{P:Nat->Value->Prop}{OK:Heap->Prop}{Q:List Value->aF->Prop}(K:KdlSrc prog w T r d n P OK)(hh:A.handled=none)(hok:OK s.heap)(hn:n<=sizeLine)(h:∀h' tk (us:List Value),(∀b o,s.heap.get? b=some o->h'.get? b=some o)->s.heap.objs.size<h'.objs.size->us.length=n->(∀j v,us[j]?=some v->P j v)->Q us { s with heap:=h',toks:=tk }) :
  aW (model prog w) A (collect (.ref r)) Q E s:=by
 have hlt:=K.there _ hok
 unfold collect
 refine ai (wpAny_runValue (dq entry_proto_collect' ?_))
 show aW _ _ (do again (.builtin "list.__iadd__" ⟨[<- newList [],.ref r],[]⟩)) _ _ s
 refine ai (ip (aE ⟨fR _ (by decide +kernel),dq entry_list_iadd' ?_⟩))
 show aW _ _ (dG (.ref s.heap.objs.size) (.ref r) (.ref s.heap.objs.size)) _ _ { s with heap:=s.heap.push (cP "list" #[] 0) }
 rw[cZ PySem.F.plain_list_iadd _]
 refine kdl_extend (A:=A) (R:=wants _ _) (s:={ s with heap:=s.heap.push (cP "list" #[] 0) }) K hh (K.keep _ _ hok λb _ o e=>ah _ e) s.heap.objs.size (cE hlt.1) (cE hlt.2) _ 0 (aK _ rfl) (λh' tk acc' c' hk hS' hacc=>?_) hn
 show aW (model prog w) A (do
   let o <- load s.heap.objs.size
   match o.data with
   |.seq xs _=>pure xs.toList
   |_=>unsupported "internal:collect") Q E { s with heap:=h',toks:=tk }
 refine ai (wpAny_load hS' ?_)
 exact aE (h h' tk acc'.toList (λb o e=>hk b o (aT (aH e)) (ah _ e)) (aH hS') (by rw[d_];exact hacc.1) λj v e=>hacc.2 j v (by rw[<- gJ];exact e))
theorem O7(ho:s.heap.get? a=some (cP "list" vs.toArray n))(h2:vs.length<2)(h:∀h' c,h'.get? a=some (cP "list" vs.toArray c)->(∀b o,b≠a->s.heap.get? b=some o->h'.get? b=some o)->P (.done (.ret .none)) { s with heap:=h' }) :
  aW (model prog w) A (az.«list.sort» ⟨[.ref a],[]⟩) P E s:=by
 have ha:a<s.heap.objs.size:=aH ho
 have s1:=cC s.heap a (bS λ_=>(#[]:Array Value))
 obtain⟨e1,ho1⟩:∃e1,(s.heap.update a (bS λ_=>(#[]:Array Value))).get? a=some (cP "list" #[] e1):=⟨_,iJ ho λ_=>#[]⟩
 rw[list_sort_plain]
 refine ai (listItems_at ho rfl ?_)
 refine ai (jC ho rfl ?_ (by rw[aB,ce];omega) (bZ _))
 refine ai (k6 ho1 rfl ?_)
 refine ai (i_ ?_ (by show vs.length<=_;rw[ce];omega))
 refine ai (ip ?_ (bZ _))
 refine bJ ?_
 show aW (model prog w) A _ P E { s with heap:=((s.heap.update a (bS λ_=>(#[]:Array Value))).push (cP "tuple" vs.toArray 0)).push (cP "list" #[] 0) }
 dsimp only
 have hn2:vs.toArray.size<2:=by rw[aB];omega
 rw[if_pos hn2,if_pos hn2]
 refine ai (aE ?_)
 rw[StateT.run_pure]
 refine ai (aE ?_)
 dsimp only
 have ho6:(((s.heap.update a (bS λ_=>(#[]:Array Value))).push (cP "tuple" vs.toArray 0)).push (cP "list" #[] 0)).get? a=some (cP "list" #[] e1):=ah _ (ah _ ho1)
 have o6:∀b o,b≠a->s.heap.get? b=some o->(((s.heap.update a (bS λ_=>(#[]:Array Value))).push (cP "tuple" vs.toArray 0)).push (cP "list" #[] 0)).get? b=some o:=λb o nb e=>ah _ (ah _ ((s1.2 b nb).trans e))
 generalize ((s.heap.update a (bS λ_=>(#[]:Array Value))).push (cP "tuple" vs.toArray 0)).push (cP "list" #[] 0)=h6 at ho6 o6 ⊢
 have hout:k7 (λx:Keyed=>x.snd) (arrOf (lL mI (vs.toArray.zip vs.toArray) #[] 7 none))=vs.toArray:=by
  show k7 (λx:Keyed=>x.snd) (vs.toArray.zip vs.toArray)=vs.toArray
  apply Array.ext'
  simp only[Array.toList_map,Array.toList_zip]
  exact List.map_snd_zip (ak _)
 refine ai (k6 (s:={ s with heap:=h6 }) ho6 rfl ?_)
 refine ai (jC (s:={ s with heap:=h6 }) ho6 rfl ?_ (bZ _) (by rw[hout,aB,ce];omega))
 have s2:=cC h6 a (bS λ_=>k7 (λx:Keyed=>x.snd) (arrOf (lL mI (vs.toArray.zip vs.toArray) #[] 7 none)))
 obtain⟨c2,hc2⟩:∃c2,(h6.update a (bS λ_=>k7 (λx:Keyed=>x.snd) (arrOf (lL mI (vs.toArray.zip vs.toArray) #[] 7 none)))).get? a=some (cP "list" (k7 (λx:Keyed=>x.snd) (arrOf (lL mI (vs.toArray.zip vs.toArray) #[] 7 none))) c2):=⟨_,iJ ho6 λ_=>_⟩
 rw[hout] at hc2 s2 ⊢
 simp only[bne_self_eq_false,ck,if_false]
 exact aE (h _ c2 hc2 λb o nb e=>(s2.2 b nb).trans (o6 b o nb e))
theorem so_sortedG {x:Value}{OKQ:List Value->aF->Prop}{Q:Value->aF->Prop}(hc:∀R:List Value->aF->Prop,(∀us s',OKQ us s'->R us s')->aW (model prog w) A.in1 (collect x) R (λ_ _=>False) s)(h:∀us s',OKQ us s'->us.length<64/\((us.length<2 -> ∀h2 c,h2.get? s'.heap.objs.size=some (cP "list" us.toArray c)->(∀b o,s'.heap.get? b=some o->h2.get? b=some o)->Q (.ref s'.heap.objs.size) { s' with heap:=h2 })/\(2<=us.length -> ∀D e1 h2,s'.heap.objs.size<=D->h2.get? D=some (cP "list" #[] e1)->(∀b o,s'.heap.get? b=some o->h2.get? b=some o) ->
   aW (model prog w) A.in1.in1 (keyKind' us.toArray) (λκ s''=>(kas_sort us.length).kasWp (kas_ask prog w A.in1.in1 κ us) (λp s3=>SoFin D e1 (p.toList.map λi=>us.getD i bT) (λs4=>Q (.ref D) s4) s3) s'') (λ_ _=>False) { s' with heap:=h2 }))) :
  aW (model prog w) A (call (.builtin "sorted") [x]) Q E s:=by
 refine iY kind_sorted plain_sorted entry_sorted (args_sorted1 _) ?_
 unfold az.«sorted»
 refine ai (m:=checkCount "sorted" 1 1 _) (aE ?_)
 refine ai (cW (hc _ λus s' ok=>?_) (λ_ _ z=>z) λ_ _ z=>z.elim)
 obtain⟨h64,hs,hb⟩:=h us s' ok
 refine ai (ip ?_ (by rw[ce];omega))
 have hoL:(s'.heap.push (cP "list" us.toArray 0)).get? s'.heap.objs.size=some (cP "list" us.toArray 0):=aK _ rfl
 show aW _ _ _ _ _ { s' with heap:=s'.heap.push (cP "list" us.toArray 0) }
 refine ai (bJ (dM slot_list_sort ⟨_,hoL,rfl⟩ entry_list_sort ?body (args_list_sort _)))
 case body=>
  by_cases h2:2<=us.length
  .refine Jf (s:={ s' with heap:=s'.heap.push (cP "list" us.toArray 0) }) hoL h2 h64 λe1 h2' g k=>?_
   refine cW (hb h2 _ e1 h2' (ak _) g λb o q=>k b o (aT (aH q)) (ah _ q)) (λκ s' hk=>?_) λ_ _ x=>x
   rw[kat_ask_eq rfl] at hk ⊢
   exact kas_wp_mono hk λp s'' hk'=>hk'.mono λs3 hq=>⟨_,rfl,aE ⟨_,rfl,hq⟩⟩
  .have h2:us.length<2:=by omega
   refine O7 (s:={ s' with heap:=s'.heap.push (cP "list" us.toArray 0) }) hoL h2 λh3 c g k=>?_
   exact⟨_,rfl,aE ⟨_,rfl,hs h2 h3 c g λb o q=>k b o (aT (aH q)) (ah _ q)⟩⟩
end
end PySem.W
namespace L2
open PySem PySem.Spec PyProof.Rows
theorem ab5:∀ {xs:List V} {us:List Value},xs.length=us.length->(∀(i:Nat) x u,xs[i]?=some x->us[i]?=some u->RelV x u)->Vals xs us
 |[],[],_,_=>.nil
 |[],_::_,h,_=>by simp at h
 |_::_,[],h,_=>by simp at h
 |x::xs,u::us,h,g=>.cons (g 0 x u rfl rfl) (ab5 (by simpa using h) λi a b ha hb=>g (i+1) a b ha hb)
theorem a88(h:(Bf P w).is k v=true):RelV (kV k) v:=by
 rcases Bl (show K2 k v=true from h) with ⟨i,t,rfl,rfl⟩|⟨x,t,rfl,rfl⟩
 .exact⟨t,rfl⟩
 .exact⟨t,rfl⟩
theorem Qo {P:bq}{w:cb}{kvs:List (Key×V)}{vs:List (Key×Value)}{us:List Value}(rel:KV kvs vs)(hl:us.length=vs.length)(h:∀(j:Nat) v,us[j]?=some v -> ∃k x,vs[j]?=some (k,x)/\(Bf P w).is k v=true):Vals (kvs.map λkv=>kV kv.1) us:=by
 refine ab5 (by rw[ae,rel.length,hl]) λi x u hx hu=>?_
 obtain⟨k,y,hk,his⟩:=h i u hu
 have e:(kvs.map (·.1))[i]?=some k:=by rw[rel.keys,aj,hk];rfl
 rw[aj] at hx e
 obtain⟨kv,hkv,rfl⟩:=Option.map_eq_some_iff.mp hx
 rw[hkv] at e
 cases e
 exact a88 his
section
noncomputable def ay1:List V->Hp->VK->Prop:=λxs H Q=>∃p kvs,xs=[.ref p]/\Rd H p (.dK kvs)/\kvs.length<=1000/\∀l,H l=none->Q (.ref l) (upd H l (.lst (kvs.map λkv=>kV kv.1)))
theorem W0(hc:X.calm=true):Cy X (.type "list") ay1:=by
 intro ξ s σ H xs us Q I r h
 obtain⟨p,kvs,rfl,e,few,q⟩:=h
 obtain⟨u,rfl,ru⟩:=Fy r
 cases ru
 obtain⟨z,lo,vs,rel,dof⟩:=Hj I.hok e
 obtain⟨ep,dat⟩:=dof.dictAt
 refine bD (ak _) (PySem.W.kdl_call (PySem.W.kdl_dict lo) (I.ok.hd hc) dat (by rw[<- rel.length];exact z) λh' tk acc' c' hk hS' hacc htk=>?_)
 refine⟨.ref s.heap.objs.size,_,I.laid (t':=tk) hk (ak _) (o:=.lst (kvs.map λkv=>kV kv.1)) ⟨by rw[ae];exact z,acc'.toList,c',?_,by simpa using hS'⟩,rfl,q _ (I.hok.fresh (ak _))⟩
 exact Qo rel (by rw[d_];exact hacc.1) λj v e=>hacc.2 j v (by rw[<- gJ];exact e)
def ltI(a b:Int):Bool:=decide (a<b)
noncomputable def ay6(_:ac):List V->Hp->VK->Prop:=λxs H Q=>∃(p:Addr)(zs:List Int)(kvs:List (Key×V)),xs=[.ref p]/\Rd H p (.dK kvs)/\kvs.map (·.1)=zs.map ge/\zs.length<64/\((zs.length<2/\∀D,H D=none->Q (.ref D) (upd H D (.lst (zs.map V.int))))\/(2<=zs.length/\∃pp:Array Nat,PySem.W.kRun zs.length (λi j=>ltI (zs.getD i (0:Int)) (zs.getD j (0:Int))) (fB zs.length)=some pp/\pp.toList.length<=64/\(∀i∈pp.toList,i<zs.length)/\∀D,H D=none->Q (.ref D) (upd H D (.lst (pp.toList.map λi=>V.int (zs.getD i (0:Int)))))))
theorem B8 {zs:List Int}{us:List Value}(r:Vals (zs.map V.int) us){i:Nat}(h:i<zs.length):∃t,us.getD i bT=.int (zs.getD i (0:Int)) t:=by
 have hl:us.length=zs.length:=by have:=r.length;simpa using this.symm
 obtain⟨x,hx,rx⟩:=Jn r (i:=i) (by omega)
 rw[aj,af h] at hx
 cases hx
 obtain⟨t,e⟩:=rx
 refine⟨t,?_⟩
 rw[ar (l:=zs),af h]
 exact e
theorem W2(hc:X.calm=true):Cy X (.builtin "sorted") (ay6 X.K):=by
 intro ξ s σ H xs us Q I r h
 obtain⟨p,zs,kvs,rfl,hp,ek,h64,q⟩:=h
 obtain⟨u,rfl,ru⟩:=Fy r
 cases ru
 refine PySem.W.so_sortedG (OKQ:=λus s'=>∃(h':Heap)(tk:Nat),s'={ s with heap:=h',toks:=tk }/\(∀b o,s.heap.get? b=some o->h'.get? b=some o)/\s.heap.objs.size<=h'.objs.size/\s.toks<=tk/\Vals (zs.map V.int) us) (λR hR=>?_) ?_
 .obtain⟨z,lo,vs,rel,dof⟩:=Hj I.hok hp
  obtain⟨ep,dat⟩:=dof.dictAt
  refine bD (ak _) (PySem.W.collect_src (PySem.W.kdl_dict lo) (by simp[I.ok.hd hc]) dat (by rw[<- rel.length];exact z) λh' tk us hk hs hl hi htk=>?_)
  refine hR us _ ⟨h',tk,rfl,hk,dD hs,htk,?_⟩
  have v:=Qo rel hl hi
  have e:(kvs.map λkv=>kV kv.1)=zs.map V.int:=by
   have:=congrArg (fw kV) ek
   rw[a_,a_] at this
   exact this
  rwa[e] at v
 .rintro us s' ⟨h',tk,rfl,keep,hD,ht,rv⟩
  have hl:us.length=zs.length:=by have:=rv.length;simpa using this.symm
  refine⟨by omega,λh2 h2' c g k=>?_,λh2 D e1 h2' hD2 gD k=>?_⟩
  .obtain⟨_,q⟩:=q.resolve_right λz=>by have:=z.1;omega
   exact⟨.ref h'.objs.size,_,I.laid (t':=tk) (λb o e=>k b o (keep b o e)) hD (o:=.lst (zs.map V.int)) ⟨by rw[ae,ce];omega,us,c,rv,g⟩,rfl,q _ (I.hok.fresh hD)⟩
  .obtain⟨_,pp,h1,h3,h4,q⟩:=q.resolve_left λz=>by have:=z.1;omega
   refine PySem.W.kas_kind (T:=.type "int") h2 (λv hv=>?_) rfl rfl ?_
   .obtain⟨i,hi,rfl⟩:=List.getElem_of_mem hv
    obtain⟨t,e⟩:=B8 rv (i:=i) (by omega)
    rw[ar,af hi] at e
    rw[show us[i]=_ from e]
    exact .now
   .refine PySem.W.kRun_wp (n:=us.length) (lt:=λi j=>ltI (zs.getD i (0:Int)) (zs.getD j (0:Int))) (a:=pp) (λi j C hi hj hC=>?_) (by rw[hl];exact h1) ⟨gD,λh3' c g2 sb=>?_⟩
    .unfold PySem.W.kas_ask
     obtain⟨t1,e1⟩:=B8 rv (i:=i) (by omega)
     obtain⟨t2,e2⟩:=B8 rv (i:=j) (by omega)
     rw[e1,e2]
     exact PySem.W.kat_lt_int hC
    .refine⟨.ref D,_,I.laid (t':=tk) (λb o e=>(sb.2 b (aT (aL (aH e) (aw hD hD2)))).trans (k b o (keep b o e))) (aw hD hD2) (o:=.lst (pp.toList.map λi=>V.int (zs.getD i (0:Int)))) ⟨by rw[ae,ce];omega,_,c,?_,g2⟩,rfl,q D (I.hok.fresh (aw hD hD2))⟩
     have v:=Kn rv pp.toList (λi hi=>by rw[hl];exact h4 i hi)
     have e:(pp.toList.map λi=>(zs.map V.int).getD i .non)=pp.toList.map λi=>V.int (zs.getD i (0:Int)):=bY λi hi=>by
      rw[ar,aj,af (h4 i hi),ar,af (h4 i hi)];rfl
     rwa[e] at v
end
end L2
namespace PySem
section
variable {prog:bq} {w:cb} {K:Type} [DecidableEq K] {knd:HeapKind prog w K} {A:cj} {E:Value->aF->Prop} {s:aF}
theorem Ey(hu:knd.room A)(hkey:knd.is s.heap k a)(hm:s.heap.DictOfH knd d xs)(h1:∀p,ma xs k=some p->Q p.2 { s with toks:=s.toks+knd.draws k })(h2:ma xs k=none -> ∀h',h'.DictOfH knd d (storedH xs k a v)->bE d s.heap h'->Q v { s with heap:=h',toks:=s.toks+knd.draws k })(hsz:xs.length<=sizeLine):aW (model prog w) A (kI d (.ref a) v) Q E s:=by
 obtain⟨o,es,ep,ho,hc,hd,he,his,hn⟩:=hm
 unfold kI
 try with_reducible refine bJ ?_
 refine ai (knd.pyHash hu hkey ?_)
 refine ai (wpAny_dictFind_heap (s:={ s with toks:=s.toks+knd.draws k }) hu hkey ho hd he his hn ?_ ?_)
 .intro hno
  have hnot:k∉xs.map (·.1):=not_mem_keys_of_get hno
  refine ai (lQ (ai (wpAny_updateDictKeys (hz:=by have e:=size_of_entries he;omega) (s:={ s with toks:=s.toks+knd.draws k }) ho hd (aE (h2 (gz hno) _ ⟨_,_,ep+1,cr _ ho (Obj.isFreed_of_dict (kC hd _)),
   hc.mapDictKeys _,kC hd _,?_,?_,?_⟩ (cC ..))))))
  .rw[mr (gz hno)]
   simp[he,entryOfKey]
  .rw[mr (gz hno)]
   intro x hx
   rcases List.mem_append.mp hx with hx|hx
   .exact knd.keeps (his x hx) ho hd (cC ..)
   .simp only[aU] at hx
    subst hx
    exact knd.keeps hkey ho hd (cC ..)
  .rw[mr (gz hno)]
   rw[au,c8]
   refine⟨hn,by simp,?_⟩
   intro x hx y hy
   simp only[aY,gL,aU] at hy
   subst hy
   exact λe=>hnot (e▸hx)
 .intro j p hj
  refine ai (wpAny_dictEntries (s:={ s with toks:=s.toks+knd.draws k }) ho hd ?_)
  rw[entry_at he j,hj]
  exact ai (lQ (aE (h1 p (atKey_of_get hn hj))))
theorem Iv(knd:HeapKind prog w K)(d a:Addr)(hd:(d==dy)=false)(dflt:Value) :
  MeetsIn prog w (az.«dict.setdefault» ⟨[.ref d,.ref a,dflt],[]⟩) (λA R s=>knd.room A.in1/\∃k xs,knd.is s.heap k a/\s.heap.DictOfH knd d xs/\xs.length<=sizeLine /\
   (∀p,ma xs k=some p->R (.ok (.ret p.2)) { s with toks:=s.toks+knd.draws k }) /\
   (ma xs k=none -> ∀h',h'.DictOfH knd d (storedH xs k a dflt)->bE d s.heap h'->R (.ok (.ret dflt)) { s with heap:=h',toks:=s.toks+knd.draws k })):=
 .of_wp λA R s ⟨hu,k,xs,hkey,hm,hz,h1,h2⟩=>by
  unfold az.«dict.setdefault»
  refine ai ?_
  unfold Builtin.Dict.keyAndDefault
  refine ai (wpAny_notOrdered_dict hm.typeIs ?_)
  show aW _ _ (pure (d,bh a,some dflt)) _ _ s
  refine aE ?_
  show aW _ _ (if (d==dy)=true then _ else (kI d (.ref a) dflt >>= _)) _ _ s
  rw[if_neg (by rw[hd];exact av)]
  exact ai (Ey hu hkey hm (λp hp=>aE ⟨_,rfl,h1 p hp⟩) (λhn h' hm' hs'=>aE ⟨dflt,rfl,h2 hn h' hm' hs'⟩) hz)
end
end PySem
namespace L2
open PySem PySem.Spec PyProof.Rows
noncomputable def Z8:V->List V->Hp->VK->Prop:=λx xs H Q=>∃p b kvs ks v,x=.ref p/\xs=[.ref b,v]/\H p=some (.dT kvs)/\H b=some (.tup (fw kV ks))/\kvs.length<sizeLine/\(match Bp kvs ks with
 |some w=>Q w H
 |none=>Q v (upd H p (.dT (Db kvs ks v))))
theorem ag1(hu:X.A.units+64<cLine):MtR X "dict.setdefault" Z8:=by
 intro ξ s σ H x xs v us Q I rx rs h
 obtain⟨p,b,kvs,ks,y,rfl,rfl,e,eb,hl,q⟩:=h
 cases rx
 obtain⟨u1,u2,rfl,ru,rv⟩:=rs.two
 cases ru
 obtain⟨z,hd,ms,rel,dd⟩:=bh3 I.hok e
 have hz:ms.length<=sizeLine:=by rw[<- ie rel];exact z
 have hv:=rel.val ks
 refine lZ eO dd.typeIs gY (gQ _ _ _) (Iv (km (Bf X.prog X.w)) p b hd u2) ⟨eP (by omega),ks,ms,Jx I.hok eb,dd,hz,λr hr=>?_,λhr h' dd' hs=>?_⟩
 .rw[hr] at hv
  cases e2:Bp kvs ks with
  |none=>rw[e2] at hv;cases hv
  |some w=>rw[e2] at hv q;exact⟨w,H,I.tok _,hv,q⟩
 .rw[hr] at hv
  cases e2:Bp kvs ks with
  |some w=>rw[e2] at hv;cases hv
  |none=>
   rw[e2] at q
   have hl2:(Db kvs ks y).length<=sizeLine:=by have:=D5 kvs ks y;omega
   refine⟨y,_,?_,rv,q⟩
   obtain⟨q,es,ep,hq,h2,h3,h4,_,h5⟩:=dd'
   refine Im I (by rw[e];exact ba) hs ⟨q,hq⟩ ⟨hl2,hd,_,(rel.put ks eb rv).keeps λc ys ec=>?_,q,es,ep,hq,h2,h3,h4,h5⟩
   rw[Ai (bh9 ec e (λz=>nomatch z))]
   exact ec
abbrev RF:=List V->Hp->VK->Prop
noncomputable def Ql(x:V)(T:String):Bool:=match x with
 |.int _=>T == "int"
 |.bl _=>T == "bool" || T == "int"
 |.str _=>T == "str"
 |_=>false
def okT(T:String):Bool:=["int", "bool", "str", "list", "tuple", "dict"].contains T
noncomputable def F4(K:ac):RF:=λxs H Q=>match xs with
 |[.int i,.ty T]=>okT T=true/\Q (.bl (Ql (.int i) T)) H
 |[.bl i,.ty T]=>okT T=true/\Q (.bl (Ql (.bl i) T)) H
 |[.str i,.ty T]=>okT T=true/\Q (.bl (Ql (.str i) T)) H
 |[.non,.ty T]=>okT T=true/\Q (.bl (Ql .non T)) H
 |[x,.ty T]=>∃t b,TyX K H x t/\dU K t (.type T)=some b/\Q (.bl b) H
 |[x,.ref C]=>(∃t b,TyX K H x t/\dU K t (.ref C)=some b/\Q (.bl b) H)\/False
 |_=>False
noncomputable def B9(K:ac):RF:=λxs H Q=>match xs with
 |[.str z]=>z.length<=sizeLine/\Q (.int z.length) H
 |[.ref p]=>(∃ys,(SqL K H p ys\/SqT K H p ys)/\Q (.int ys.length) H) \/ ∃kvs,Rd H p (.dK kvs)/\Q (.int kvs.length) H
 |_=>False
noncomputable def X6(K:ac):RF:=λxs H Q=>match xs with
 |[.ref p]=>∃bs:List Bool,SqL K H p (bs.map V.bl)/\Q (.bl (bs.all λb=>b)) H
 |_=>False
noncomputable def be2:RF:=λxs H Q=>match xs with
 |[.int i]=>Q (.int i) H
 |[.bl k]=>Q (.int (if k then 1 else 0)) H
 |_=>False
noncomputable def Td(K:ac):RF:=λxs H Q=>match xs with
 |[.ref p]=>∃ys,(SqL K H p ys\/SqT K H p ys)/\∀l,H l=none->Q (.ref l) (upd H l (.lst ys))
 |_=>False
noncomputable def Ht(K:ac):RF:=λxs H Q=>match xs with
 |[.ref p]=>∃ys,(SqL K H p ys/\∀l,H l=none->Q (.ref l) (upd H l (.tup ys)))\/(SqT K H p ys/\Q (.ref p) H)
 |_=>False
def Th:RF:=λxs H Q=>match xs with
 |[.int i]=>i.natAbs.log2<1920/\Q (.str (toString i)) H
 |[.str z]=>Q (.str z) H
 |_=>False
noncomputable def Nj(K:ac)(calm:Bool):RF:=λxs H Q=>Td K xs H Q\/(calm=true/\ay1 xs H Q)
noncomputable def Tf(K:ac)(calm:Bool):RF:=λxs H Q=>((Tg K xs H Q\/False)\/False)\/(calm=true/\ay6 K xs H Q)
inductive BF where
 |bf (id:String)|ty (T:String)
noncomputable def bm5(K:ac)(calm:Bool)(x:Str):Option (BF×RF):=
 if x="len" then some (.bf "len", B9 K) else
 if x="isinstance" then some (.bf "isinstance", F4 K) else
 if x="all" then (if calm=true then some (.bf "all", X6 K) else none) else
 if x="int" then some (.ty "int", be2) else
 if x="list" then some (.ty "list", Nj K calm) else
 if x="tuple" then some (.ty "tuple", Ht K) else
 if x="sorted" then some (.bf "sorted", Tf K calm) else
 if x="str" then some (.ty "str", Th) else none
def BF.val:BF->Value
 |.bf id=>.builtin id
 |.ty T=>.type T
section
variable {X:Cx}
theorem Xn {K:ac}{x:V}{T:String}(hx:Bv x=true)(h:okT T=true):∃t,(∀H,TyOf K H x t)/\dU K t (.type T)=some (Ql x T):=by
 have hT:T="int" \/ T="bool" \/ T="str" \/ T="list" \/ T="tuple" \/ T="dict" := by
  unfold okT at h
  simpa using h
 cases x with
 |int i=>refine⟨_,λH=>TyOf.int i,?_⟩;rcases hT with rfl|rfl|rfl|rfl|rfl|rfl <;> rfl
 |bl i=>refine⟨_,λH=>TyOf.bl i,?_⟩;rcases hT with rfl|rfl|rfl|rfl|rfl|rfl <;> rfl
 |str i=>refine⟨_,λH=>TyOf.str i,?_⟩;rcases hT with rfl|rfl|rfl|rfl|rfl|rfl <;> rfl
 |non=>refine⟨_,λH=>TyOf.non,?_⟩;rcases hT with rfl|rfl|rfl|rfl|rfl|rfl <;> rfl
 |_=>cases hx
theorem ao5:Cy X (.builtin "isinstance") (F4 X.K):=by
 intro ξ s σ H xs us Q I r h
 have sc:∀x T,xs=[x,.ty T]->Bv x=true->okT T=true->Q (.bl (Ql x T)) H->aW (model X.prog X.w) X.A (call (.builtin "isinstance") us) (EP X ξ σ Q) X.xe s:=λx T e hx hT q=>by
  subst e
  obtain⟨t,ht,hk⟩:=Xn (K:=X.K) hx hT
  exact ao4 ξ s σ H _ us Q I r ⟨x,T,t,_,rfl,ht H,hk,q⟩
 unfold F4 at h
 split at h
 .exact sc _ _ rfl rfl h.1 h.2
 .exact sc _ _ rfl rfl h.1 h.2
 .exact sc _ _ rfl rfl h.1 h.2
 .exact sc _ _ rfl rfl h.1 h.2
 .obtain⟨t,b,ty,e,q⟩:=h
  obtain⟨u,v,rfl,ru,rv⟩:=r.two
  cases rv
  exact bD (ak _) (M0 I ru ty e λtk htk=>⟨.bl b,H,I.tok tk htk,rfl,q⟩)
 .obtain⟨u,v,rfl,ru,rv⟩:=r.two
  rcases h with ⟨t,b,ty,e,q⟩|h
  .cases rv
   exact bD (ak _) (M0 I ru ty e λtk htk=>⟨.bl b,H,I.tok tk htk,rfl,q⟩)
  .exact h.elim
 .exact h.elim
theorem ac6:Cy X (.builtin "len") (B9 X.K):=by
 intro ξ s σ H xs us Q I r h
 unfold B9 at h
 split at h
 .exact Rr ξ s σ H _ us Q I r ⟨_,rfl,h.1,h.2⟩
 .rcases h with ⟨ys,h1,h2⟩|⟨kvs,h1,h2⟩
  .exact Rq ξ s σ H _ us Q I r ⟨_,ys,rfl,h1,h2⟩
  .obtain⟨u,rfl,ru⟩:=Fy r
   cases ru
   exact b26 I h1 λt s' I'=>⟨.int _,H,I',⟨t,rfl⟩,h2⟩
 .exact h.elim
theorem ac4(hc:X.calm=true):Cy X (.builtin "all") (X6 X.K):=by
 intro ξ s σ H xs us Q I r h
 unfold X6 at h
 split at h
 .obtain⟨bs,h1,h2⟩:=h
  exact ao3 hc ξ s σ H _ us Q I r ⟨_,bs,rfl,h1,h2⟩
 .exact h.elim
theorem ac5:Cy X (.type "int") be2:=by
 intro ξ s σ H xs us Q I r h
 unfold be2 at h
 split at h
 .exact Px ξ s σ H _ us Q I r (.inl ⟨_,rfl,h⟩)
 .exact Px ξ s σ H _ us Q I r (.inr ⟨_,rfl,h⟩)
 .exact h.elim
theorem Wz:Cy X (.type "list") (Td X.K):=by
 intro ξ s σ H xs us Q I r h
 unfold Td at h
 split at h
 .obtain⟨ys,h1,h2⟩:=h
  exact Rs ξ s σ H _ us Q I r ⟨_,ys,rfl,h1,h2⟩
 .exact h.elim
theorem ac8:Cy X (.type "tuple") (Ht X.K):=by
 intro ξ s σ H xs us Q I r h
 unfold Ht at h
 split at h
 .obtain⟨ys,h1⟩:=h
  exact Op ξ s σ H _ us Q I r ⟨_,ys,rfl,h1⟩
 .exact h.elim
theorem ac7:Cy X (.type "str") Th:=by
 intro ξ s σ H xs us Q I r h
 unfold Th at h
 split at h
 .cases r with
  |cons r1 t=>cases t;obtain⟨tk,rfl⟩:=r1;exact PySem.P.str_of_int h.1 ⟨.str _,H,I.tok _,⟨_,rfl⟩,h.2⟩
 .cases r with
  |cons r1 t=>cases t;obtain⟨tk,rfl⟩:=r1;exact PySem.P.str_of_str ⟨.str _,H,I,⟨_,rfl⟩,h⟩
 .exact h.elim
theorem a61(hu:X.A.units+64<cLine)(h:bm5 X.K c x=some (f,r))(hc:c=X.calm):dE x=some f.val/\Cy X f.val r:=by
 unfold bm5 at h
 by_cases e:x="len"
 .rw[if_pos e] at h;cases h;rw[e];exact⟨PySem.boot_len,ac6⟩
 rw[if_neg e] at h
 by_cases e:x="isinstance"
 .rw[if_pos e] at h;cases h;rw[e];exact⟨PyProof.Rows.boot_isinstance,ao5⟩
 rw[if_neg e] at h
 by_cases e:x="all"
 .rw[if_pos e] at h
  by_cases ec:c=true
  .rw[if_pos ec] at h;cases h;rw[e];exact⟨PyProof.Rows.boot_all,ac4 (hc▸ec)⟩
  .rw[if_neg ec] at h;cases h
 rw[if_neg e] at h
 by_cases e:x="int"
 .rw[if_pos e] at h;cases h;rw[e];exact⟨j_,ac5⟩
 rw[if_neg e] at h
 by_cases e:x="list"
 .rw[if_pos e] at h;cases h;rw[e];exact⟨eK,λξ s σ H xs us Q I r h=>h.elim (Wz ξ s σ H xs us Q I r) λz=>W0 (hc▸z.1) ξ s σ H xs us Q I r z.2⟩
 rw[if_neg e] at h
 by_cases e:x="tuple"
 .rw[if_pos e] at h;cases h;rw[e];exact⟨jw,ac8⟩
 rw[if_neg e] at h
 by_cases e:x="sorted"
 .rw[if_pos e] at h;cases h;rw[e];exact⟨Us,λξ s σ H xs us Q I r h=>h.elim (λh=>h.elim (λh=>h.elim (Rt hu ξ s σ H xs us Q I r) dt) dt) λz=>W2 (hc▸z.1) ξ s σ H xs us Q I r z.2⟩
 rw[if_neg e] at h
 by_cases e:x="str"
 .rw[if_pos e] at h;cases h;rw[e];exact⟨ka,ac7⟩
 rw[if_neg e] at h
 cases h
abbrev RM:=V->List V->Hp->VK->Prop
structure BM where
 T:String
 id:String
 r:RM
noncomputable def rMt(K:ac)(bs:List BM):V->Hp->(Hp->(List V->Hp->Prop)->Prop)->VK->Prop:=λx H1 ta Q=>
 match bs with
 |[]=>False
 |[b]=>tyV K b.T x H1/\ta H1 λxs H2=>b.r x xs H2 Q
 |b::rest=>(tyV K b.T x H1/\ta H1 λxs H2=>b.r x xs H2 Q)\/rMt K rest x H1 ta Q
structure bk1 (X:Cx) (m:Str) (b:BM):Prop where
 pa:PlainAttrs b.T
 slot:Slot b.T m b.id
 ty:typeOf (.builtin b.id)=pure (.type "method_descriptor")
 mt:MtR X b.id b.r
noncomputable def K9(K:ac):RM:=λx xs H Q=>∃z p ys,x=.str z/\xs=[.ref p]/\(SqL K H p (ys.map V.str)\/SqT K H p (ys.map V.str))/\(ys.map (·.length)).sum+ys.length * z.length<=16777216/\Q (.str (bI z ys)) H
theorem au3:MtR X "str.join" (K9 X.K):=by
 intro ξ s σ H x xs v us Q I rx rs h
 obtain⟨z,p,ys,rfl,rfl,hq,hz,q⟩:=h
 rcases hq with hq|hq
 .exact a94 ξ s σ H _ _ v us Q I rx rs ⟨z,p,ys,rfl,rfl,hq,hz,q⟩
 obtain⟨t,rfl⟩:=rx
 obtain⟨u,rfl,ru⟩:=rs.one
 cases ru
 obtain⟨χ,rv,pl,_⟩:=I.tuple hq
 exact bD (ak _) (PyProof.Rows.join_tuple pl (by simpa using Nw rv) hz λt' k htk=>⟨.str _,H,I.tok k htk,⟨_,rfl⟩,q⟩)
noncomputable def ay5:RM:=λx xs H Q=>∃p k v kvs,x=.ref p/\xs=[kV k,v]/\H p=some (.dK kvs)/\kvs.length<sizeLine/\(match Bp kvs k with
 |some w=>Q w H
 |none=>Q v (upd H p (.dK (Db kvs k v))))
theorem au4:MtR X "dict.setdefault" ay5:=by
 intro ξ s σ H x xs v us Q I rx rs h
 obtain⟨p,k,y,kvs,rfl,rfl,e,hl,q⟩:=h
 cases rx
 obtain⟨u1,u2,rfl,ru,rv⟩:=rs.two
 obtain⟨z,hd,vs,rel,dd⟩:=ap6 I.hok e
 have hv:=rel.val k
 refine lZ eO dd.typeIs gY (gQ _ _ _) (kt_meets_setdefault (Bf X.prog X.w) p (M3 ru) hd u2) ⟨vs,dd,by rw[<- rel.length];exact z,λr hr=>?_,λhr h' dd' hs=>?_⟩
 .rw[hr] at hv
  cases e2:Bp kvs k with
  |none=>rw[e2] at hv;cases hv
  |some w=>rw[e2] at hv q;exact⟨w,H,I.tok _,hv,q⟩
 .rw[hr] at hv
  cases e2:Bp kvs k with
  |some w=>rw[e2] at hv;cases hv
  |none=>
   rw[e2] at q
   have hl2:(Db kvs k y).length<=sizeLine:=by have:=D5 kvs k y;omega
   have he:∃q,h'.get? p=some q:=let ⟨q,_,_,hq,_⟩:=dd';⟨q,hq⟩
   exact⟨y,_,Im I (by rw[e];exact ba) hs he (Xa hl2 hd (rel.put k rv) dd'),rv,q⟩
noncomputable def Nk:RM:=λx vs H Q=>Z8 x vs H Q\/ay5 x vs H Q
noncomputable def mtR(K:ac)(m:Str):List BM:=
 if m="append" then [⟨"list", "list.append", Dz⟩] else
 if m="extend" then [⟨"list", "list.extend", Fo⟩] else
 if m="join" then [⟨"str", "str.join", K9 K⟩] else
 if m="split" then [⟨"str", "str.split", Dk⟩] else
 if m="index" then [⟨"list", "list.index", Hs⟩] else
 if m="setdefault" then [⟨"dict", "dict.setdefault", Nk⟩] else []
theorem au1(hu:X.A.units+64<cLine)(h:b∈mtR X.K m):bk1 X m b:=by
 unfold mtR at h
 by_cases e:m="append"
 .rw[if_pos e] at h
  have:b=⟨"list", "list.append", Dz⟩:=by simpa using h
  subst this;subst e
  exact⟨f_,PySem.F.slot_list_append,PySem.F.type_list_append,Qw⟩
 rw[if_neg e] at h
 by_cases e:m="extend"
 .rw[if_pos e] at h
  have:b=⟨"list", "list.extend", Fo⟩:=by simpa using h
  subst this;subst e
  exact⟨f_,PySem.F.slot_list_extend,PySem.F.type_list_extend,ag0⟩
 rw[if_neg e] at h
 by_cases e:m="join"
 .rw[if_pos e] at h
  have:b=⟨"str", "str.join", K9 X.K⟩:=by simpa using h
  subst this;subst e
  exact⟨jS,PySem.F.slot_str_join,PySem.F.type_str_join,au3⟩
 rw[if_neg e] at h
 by_cases e:m="split"
 .rw[if_pos e] at h
  have:b=⟨"str", "str.split", Dk⟩:=by simpa using h
  subst this;subst e
  exact⟨jS,PySem.F.slot_str_split,PySem.F.type_str_split,au5⟩
 rw[if_neg e] at h
 by_cases e:m="index"
 .rw[if_pos e] at h
  have:b=⟨"list", "list.index", Hs⟩:=by simpa using h
  subst this;subst e
  exact⟨f_,jz,PySem.F.type_list_index,au2⟩
 rw[if_neg e] at h
 by_cases e:m="setdefault"
 .rw[if_pos e] at h
  have:b=⟨"dict", "dict.setdefault", Nk⟩:=by simpa using h
  subst this;subst e
  exact⟨jx,eO,PySem.F.type_dict_setdefault,λξ s σ H x vs v us Q I rx rv h=>h.elim (ag1 hu ξ s σ H x vs v us Q I rx rv) (au4 ξ s σ H x vs v us Q I rx rv)⟩
 rw[if_neg e] at h
 cases h
theorem Te {K:ac}:∀ {bs:List BM} {x:V} {H1:Hp} {ta:Hp->(List V->Hp->Prop)->Prop} {Q:VK},rMt K bs x H1 ta Q -> ∃b∈bs,tyV K b.T x H1/\ta H1 λxs H2=>b.r x xs H2 Q
 |[],_,_,_,_,h=>h.elim
 |[b],_,_,_,_,h=>⟨b,by simp,h⟩
 | b::c::rest,x,H1,ta,Q,h=>by
  rcases h with h|h
  .exact⟨b,by simp,h⟩
  .obtain⟨d,hd,q⟩:=Te h
   exact⟨d,aq _ hd,q⟩
def Dy:Expr->Bool
 |.Call (.Name x _) [] [] _=>!(x==("super" : Str))
 |_=>true
theorem Eo(h:Dy e=true)(f:Str)(env:Env)(whole:Sem Value):jA e f env whole=whole:=by
 unfold jA
 split
 .rename_i id p pos
  have:(id==("super" : Str))=false:=by
   have h':(!(id==("super" : Str)))=true:=h
   simpa using h'
  have e2:(id != "super")=true:=by
   show (!(id == "super"))=true
   rw[this]
   rfl
  rw[e2]
  simp
 .rfl
variable {o:Expr} {do':DE} {es:List Expr} {r:DA} {m:Str} {apos cpos:Pos}
theorem bx3 {bs:List BM}(hb:∀b∈bs,bk1 X m b)(ho:QE X o do')(h1:Dy o=true)(h4:(apos.endLine==cpos.line)=true) :
  QE X (.Call (.Attribute o m apos) [] [] cpos) (dMt (rMt X.K bs) do' Ah):=by
 intro Ex mt ξ s σ H Q I h
 refine jE (Eo h1 m X.env _) h4 (thn (ho Ex mt ξ s σ H _ I h) λv s1 ⟨x,H1,I1,r1,q1⟩=>?_)
 obtain⟨b,hbm,ty,q⟩:=Te q1
 obtain⟨k1,k2⟩:=a25 I1 r1 ty
 have B:=hb b hbm
 exact⟨b.T,b.id,B.pa,B.slot,B.ty,k1,k2,gk rfl (kU (B.mt ξ s1 σ H1 x [] v [] Q I1 r1 .nil q))⟩
theorem b88 {bs:List BM}{e:Expr}(hb:∀b∈bs,bk1 X m b)(ho:QE X o do')(ha:QA X (e::es) r)(h1:Dy o=true)(h2:(e::es).all noStar=true)(h3:(e::es).length<30)(h4:(apos.endLine==cpos.line)=true) :
  QE X (.Call (.Attribute o m apos) (e::es) [] cpos) (dMt (rMt X.K bs) do' r):=by
 intro Ex mt ξ s σ H Q I h
 have hs:=bv▸h2
 rw[ay] at hs
 have hfew:((jI cpos (dw (e::es) X.env)).all (λx=>!x.1)&&(mF cpos (kY [] X.env)).all (λx=>x.1.isSome)
   && decide ((e::es).length+([]:List me).length+(if ([]:List me).isEmpty then 0 else 1)<30))=true:=by
  rw[K7 h2]
  have:decide ((e::es).length+([]:List me).length+(if ([]:List me).isEmpty then 0 else 1)<30)=true:=by
   rw[decide_eq_true_iff]
   simpa using h3
  rw[this]
  rfl
 refine wpAny_Call_method_late (Eo h1 m X.env _) hfew h4 rfl (thn (ho Ex mt ξ s σ H _ I h) λv s1 ⟨x,H1,I1,r1,q1⟩=>?_)
 obtain⟨b,hbm,ty,q⟩:=Te q1
 obtain⟨k1,k2⟩:=a25 I1 r1 ty
 have B:=hb b hbm
 refine⟨b.T,b.id,B.pa,B.slot,B.ty,k1,k2,?_⟩
 have hA:=ha Ex mt cpos ξ s1 σ H1 _ I1 q
 rw[Bi hs.1] at hA ⊢
 refine gk (by show (false||(jI cpos (dw es X.env)).any (·.1))=false;rw[Bo hs.2] <;> rfl) (Calls.evalArgs_plain ?_)
 exact thn hA λus s2 ⟨vs,H2,I2,r2,q2⟩=>B.mt ξ s2 σ H2 x vs v us Q I2 r1 r2 q2
variable {x:Str} {p pos:Pos} {G:Sg}
theorem bw6 {f:BF}{rf:RF}{e:Expr}(hc:Cy X f.val rf)(hg:Gl X x)(hm:X.mg x=none)(hv:dE x=some f.val)(ha:QA X (e::es) r)(hs:(e::es).all noStar=true)(hn:x ≠ "__name__")(hdb:(x==("__debug__" : Str))=false) :
  QE X (.Call (.Name x p) (e::es) [] pos) (dFn (λvs H Q _=>rf vs H Q) r):=by
 intro Ex mt
 have h:=bv▸hs
 rw[ay] at h
 cases f with
 |bf id=>exact av4 hc hg hm hv (ha Ex mt) hn hdb (Bi h.1 es X.env) (Bo h.2 X.env pos)
 |ty T=>exact ag9 hc hg hm hv (ha Ex mt) hn hdb (Bi h.1 es X.env) (Bo h.2 X.env pos)
def spE(sp:Sp)(dvs:List V):List V->Hp->VK->EK->Prop:=λvs H Q E=>sp (vs++dvs) H Q (λv _ H'=>∃a,v=.ref a/\E a H')
theorem Lw(F:Ib X i)(hj:j<=i.dfs.length)(mt:Meets X Ex)(I:Inv X ξ σ H s)(r:Vals vs us)(h:spE i.sp (i.dfs.drop j) vs H Q (Ex σ)):aW (model X.prog X.w) X.A (call (.ref i.f) us) (EP X ξ σ Q) X.xe s:=by
 obtain⟨CX,hx,FO⟩:=F.ok
 have r2:Vals (vs++i.dfs.drop j) (us++i.ds.drop j):=r.append (F.vals.drop j)
 have hl:(us++i.ds.drop j).length=i.ps.length:=by rw[<- r2.length];exact FO.len _ _ _ _ h
 refine ir (gT (FO.run X.A X.stack s H ⟨us,[]⟩ (us++i.ds.drop j) (vs++i.dfs.drop j) Q _ F.room I.env0 (F.binds j hj s us I.kIn hl) r2 h) λr s' hq=>?_)
 cases r with
 |error e=>exact hx X rfl rfl Ex mt ξ σ H s e s' I hq
 |ok fl=>
  cases fl with
  |ret u=>exact I.after hq
  |next=>exact dt hq
  |brk=>exact dt hq
  |cont=>exact dt hq
theorem aw8(F:Ib X i)(hj:j<=i.dfs.length)(hg:Gl X x)(hm:X.mg x=some (.ref i.f))(hdb:(x==("__debug__" : Str))=false) :
  QE X (.Call (.Name x p) [] [] pos) (dFn (spE i.sp (i.dfs.drop j)) Ah):=by
 intro Ex mt ξ s σ H Q I h
 refine bO (E2 I hg hm ?_ hdb)
 exact fG I.kIn F.kp (Lw (us:=[]) F hj mt I .nil h)
theorem bc4(F:Ib X i)(hj:j<=i.dfs.length)(hg:Gl X x)(hm:X.mg x=some (.ref i.f))(ha:QA X (e::es) r)(hs:(e::es).all noStar=true)(hdb:(x==("__debug__" : Str))=false) :
  QE X (.Call (.Name x p) (e::es) [] pos) (dFn (spE i.sp (i.dfs.drop j)) r):=by
 intro Ex mt ξ s σ H Q I h
 have h2:=bv▸hs
 rw[ay] at h2
 refine bO (E2 I hg hm ?_ hdb)
 refine gd (h₀:=X.base) I.ok.mod.kin F.kp (thn (ha Ex mt pos ξ s σ H _ I h) λus s1 ⟨vs,H1,I1,r,q⟩=>⟨I1.kIn,?_⟩) (Bi h2.1 es X.env) (Bo h2.2 X.env pos)
 exact Lw F hj mt I1 r q
noncomputable def mkX(C:Addr):Option FI->Nat->List V->Hp->VK->EK->Prop
 |none,_=>λ_ H Q _=>∀a,H a=none->Q (.ref a) (upd H a (R5 a C none))
 |some _,_=>λ_ _ _ _=>False
theorem aa1(c:ECls X.K C)(hi:Mc X C oi)(hj:∀i,oi=some i->j<=i.dfs.length)(mt:Meets X Ex)(I:Inv X ξ σ H s)(rv:Vals vs us)(hl:vs.length<=1000)(h:mkX C oi j vs H Q (Ex σ)):aW (model X.prog X.w) X.A (call (.ref C) us) (EP X ξ σ Q) X.xe s:=by
 cases oi with
 |none=>exact X9 c hi I rv hl h
 |some i=>exact h.elim
theorem bd0(c:ECls X.K C)(hi:Mc X C oi)(hj:∀i,oi=some i->j<=i.dfs.length)(kp:br X.K (.ref C)=true)(hg:Gl X x)(hm:X.mg x=some (.ref C))(hdb:(x==("__debug__" : Str))=false) :
  QE X (.Call (.Name x p) [] [] pos) (dFn (mkX C oi j) Ah):=by
 intro Ex mt ξ s σ H Q I h
 refine bO (E2 I hg hm ?_ hdb)
 exact fG I.kIn kp (aa1 (us:=[]) c hi hj mt I .nil (by simp) h)
theorem bx2(c:ECls X.K C)(hi:Mc X C oi)(hj:∀i,oi=some i->j<=i.dfs.length)(kp:br X.K (.ref C)=true)(hg:Gl X x)(hm:X.mg x=some (.ref C))(ha:QA X (e::es) r)(hs:(e::es).all noStar=true)(hdb:(x==("__debug__" : Str))=false) :
  QE X (.Call (.Name x p) (e::es) [] pos) (dFn (λvs H Q E=>vs.length<=1000/\mkX C oi j vs H Q E) r):=by
 intro Ex mt ξ s σ H Q I h
 have h2:=bv▸hs
 rw[ay] at h2
 refine bO (E2 I hg hm ?_ hdb)
 refine gd (h₀:=X.base) I.ok.mod.kin kp (thn (ha Ex mt pos ξ s σ H _ I h) λus s1 ⟨vs,H1,I1,r,q⟩=>⟨I1.kIn,?_⟩) (Bi h2.1 es X.env) (Bo h2.2 X.env pos)
 exact aa1 c hi hj mt I1 r q.1 q.2
noncomputable def mkC(C:Addr):Option FI->Nat->List V->Hp->VK->EK->Prop
 |none,_=>λ_ _ _ _=>False
 | some i,j=>λvs H Q E=>∀a dx,H a=none->H dx=none->dx≠a ->
   i.sp (.ref a::(vs++i.dfs.drop j)) (upd (upd H dx (.own a)) a (.ins C dx [])) (λv H2=>v=.non/\Q (.ref a) H2) (λv _ H'=>∃b,v=.ref b/\E b H')
theorem be5(M:Mk X.K C f)(F:FnOk X.prog X.w X.K X.mg X.base CX k f fd ps sp)(hr:Room (k+1) X.A)(hb:Binds X.K fd ps ds)(hd:Vals dvs ds)(hx:∀H1 s1 e s',Inv X ξ σ H1 s1->CX X.stack H1 s1 E e s'->X.xe e s')(I:Inv X ξ σ H s)(r:Vals vs us)(h:∀x dx,H x=none->H dx=none->dx≠x->sp (.ref x::(vs++dvs)) (upd (upd H dx (.own x)) x (.ins C dx [])) (λv H2=>v=.non/\Q (.ref x) H2) E) :
  aW (model X.prog X.w) X.A (call (.ref C) us) (EP X ξ σ Q) X.xe s:=by
 have hq:=h (s.heap.objs.size+1) s.heap.objs.size (I.hok.fresh (dQ _)) (I.hok.fresh (ak _)) (aT (dz _))
 have I2:=Inv.made (C:=C) I
 have r2:Vals (V.ref (s.heap.objs.size+1)::(vs++dvs)) (bh (s.heap.objs.size+1)::(us++ds)):=.cons rfl (r.append hd)
 have hl:(bh (s.heap.objs.size+1)::us++ds).length=ps.length:=by
  have e:=r2.length
  rw[F.len _ _ _ _ hq] at e
  exact e.symm
 refine ir (at6 (f:=f) I.kIn M.makes M.init (beq_iff_eq.mp M.fn) (gT (F.run _ X.stack _ _ ⟨bh (s.heap.objs.size+1)::us,[]⟩ (bh (s.heap.objs.size+1)::(us++ds)) _ _ E (hr.make C us [])
  (I2.env0.make C us []) (hb _ (bh (s.heap.objs.size+1)::us) I2.kIn hl) r2 hq) λr s' hq'=>?_))
 cases r with
 |error e=>exact hx _ _ e s' I2 hq'
 |ok fl=>
  cases fl with
  |ret u=>
   obtain⟨v,H',I3,rv,ev,q3⟩:=I2.after hq'
   subst ev
   exact⟨rv,⟨V.ref (s.heap.objs.size+1),H',I3,rfl,q3⟩⟩
  |next=>exact dt hq'
  |brk=>exact dt hq'
  |cont=>exact dt hq'
theorem aa0(hi:am9 X C oi)(hj:∀i,oi=some i->j<=i.dfs.length)(mt:Meets X Ex)(I:Inv X ξ σ H s)(rv:Vals vs us)(kp:br X.K (.ref C)=true)(h:mkC C oi j vs H Q (Ex σ)):aW (model X.prog X.w) X.A (call (.ref C) us) (EP X ξ σ Q) X.xe s:=by
 cases oi with
 |none=>exact h.elim
 |some i=>
  obtain⟨h0,h1,h2,F,hr⟩:=hi
  obtain⟨CX,hx,FO⟩:=F.ok
  exact be5 ⟨h0,h1,h2,kp⟩ FO hr (F.binds j (hj i rfl)) (F.vals.drop j) (λH1 s1 e s' I1 q=>hx X rfl rfl Ex mt ξ σ H1 s1 e s' I1 q) I rv h
theorem Z5(hi:am9 X C oi)(hj:∀i,oi=some i->j<=i.dfs.length)(kp:br X.K (.ref C)=true)(hg:Gl X x)(hm:X.mg x=some (.ref C))(hdb:(x==("__debug__" : Str))=false) :
  QE X (.Call (.Name x p) [] [] pos) (dFn (mkC C oi j) Ah):=by
 intro Ex mt ξ s σ H Q I h
 refine bO (E2 I hg hm ?_ hdb)
 exact fG I.kIn kp (aa0 (us:=[]) hi hj mt I .nil kp h)
theorem bx1(hi:am9 X C oi)(hj:∀i,oi=some i->j<=i.dfs.length)(kp:br X.K (.ref C)=true)(hg:Gl X x)(hm:X.mg x=some (.ref C))(ha:QA X (e::es) r)(hs:(e::es).all noStar=true)(hdb:(x==("__debug__" : Str))=false) :
  QE X (.Call (.Name x p) (e::es) [] pos) (dFn (mkC C oi j) r):=by
 intro Ex mt ξ s σ H Q I h
 have h2:=bv▸hs
 rw[ay] at h2
 refine bO (E2 I hg hm ?_ hdb)
 refine gd (h₀:=X.base) I.ok.mod.kin kp (thn (ha Ex mt pos ξ s σ H _ I h) λus s1 ⟨vs,H1,I1,r,q⟩=>⟨I1.kIn,?_⟩) (Bi h2.1 es X.env) (Bo h2.2 X.env pos)
 exact aa0 hi hj mt I1 r kp q
noncomputable def Ev(m:Str)(n:Nat)(l:List MI)(o:DE)(t:DA):DE:=λσ H Q E=>o σ H (λx H1=>∃a dx fs mi,x=.ref a/\mi∈l/\H1 a=some (.ins mi.C dx fs)/\fs.lookup m=none/\(n+1<=mi.i.ps.length/\mi.i.ps.length<=n+1+mi.i.dfs.length) /\
 t σ H1 (λvs H2=>spE mi.i.sp (mi.i.dfs.drop (n+1+mi.i.dfs.length - mi.i.ps.length)) (.ref a::vs) H2 Q E) E) E
theorem Vo(h1:Dy o=true)(h2:es.all noStar=true)(h3:es.length<30)(h4:(apos.endLine==cpos.line)=true)(h:aW (model X.prog X.w) X.A (eval o X.env) (λov s1=>∀pl,aW (model X.prog X.w) X.A (getMethod ov m pl) (λfx s2=>aW (model X.prog X.w) X.A (callWith cpos fx.1 fx.2 (jI cpos (dw es X.env)) (mF cpos (kY [] X.env))) P X.xe s2) X.xe s1) X.xe s) :
  aW (model X.prog X.w) X.A (eval (.Call (.Attribute o m apos) es [] cpos) X.env) P X.xe s:=by
 have few:methodCallForm (es.length+([]:List me).length) (jI cpos (dw es X.env)) (mF cpos (kY [] X.env))=true:=by
  unfold methodCallForm
  rw[K7 h2]
  simpa [mF,kY] using h3
 rw[arm_eval_Call,Eo h1]
 refine ai (thn h λov s1 h1=>ai (ff ?_))
 unfold methodCall calleeOf
 rw[few,if_pos rfl]
 refine ai (bJ (thn (h1 _) λfx s2 h2=>?_))
 have hp:methodCallPos true o X.env apos cpos=pure cpos:=by unfold methodCallPos;rw[h4];rfl
 rw[hp]
 exact ai (aE h2)
theorem bd2(hl:∀mi∈l,Cls X.K mi.C/\Uj X.K mi.C m mi.i.f/\Ib X mi.i)(ho:QE X o do')(h1:Dy o=true)(h4:(apos.endLine==cpos.line)=true) :
  QE X (.Call (.Attribute o m apos) [] [] cpos) (Ev m 0 l do' Ah):=by
 intro Ex mt ξ s σ H Q I h
 refine Vo (es:=[]) h1 rfl (by decide) h4 (thn (ho Ex mt ξ s σ H _ I h) λu s1 ⟨x,H1,I1,rx,a,dx,fs,mi,ex,hm,ea,hf,hn,q⟩ pl=>?_)
 subst ex
 obtain rfl:u=bh a:=rx
 obtain⟨c,k,F⟩:=hl mi hm
 refine Mu I1 ea c k hf ?_
 exact fG (first:=[.ref a]) I1.kIn k.kp (Lw (us:=[.ref a]) (vs:=[.ref a]) F (by omega) mt I1 (.cons rfl .nil) q)
theorem bx7(hl:∀mi∈l,Cls X.K mi.C/\Uj X.K mi.C m mi.i.f/\Ib X mi.i)(ho:QE X o do')(ha:QA X (e::es) r)(h1:Dy o=true)(h2:(e::es).all noStar=true)(h3:(e::es).length<30)(h4:(apos.endLine==cpos.line)=true) :
  QE X (.Call (.Attribute o m apos) (e::es) [] cpos) (Ev m (es.length+1) l do' r):=by
 intro Ex mt ξ s σ H Q I h
 refine Vo h1 h2 h3 h4 (thn (ho Ex mt ξ s σ H _ I h) λu s1 ⟨x,H1,I1,rx,a,dx,fs,mi,ex,hm,ea,hf,hn,q⟩ pl=>?_)
 subst ex
 obtain rfl:u=bh a:=rx
 obtain⟨c,k,F⟩:=hl mi hm
 refine Mu I1 ea c k hf ?_
 have hs:=bv▸h2
 rw[ay] at hs
 refine gd (first:=[.ref a]) (h₀:=X.base) I.ok.mod.kin k.kp (thn (ha Ex mt cpos ξ s1 σ H1 _ I1 q) λus s2 ⟨vs,H2,I2,r2,q2⟩=>⟨I2.kIn,?_⟩) (Bi hs.1 es X.env) (Bo hs.2 X.env cpos)
 exact Lw (us:=.ref a::us) (vs:=.ref a::vs) F (by omega) mt I2 (.cons rfl r2) q2
noncomputable def be1:V->Hp->VK->Prop:=λx H Q=>match x with
 |.int i=>i.natAbs.log2<1920/\Q (.str (toString i)) H
 |.str z=>z.length<=sizeLine/\Q (.str z) H
 |_=>False
noncomputable def Zm:Str->List DE->DE
 |out,[]=>λ_ H Q _=>out.length<=sizeLine/\Q (.str out) H
 | out,d::ds=>λσ H Q E=>d σ H (λx H1=>match x with
  |.str y=>(out++y).length<=sizeLine/\Zm (out++y) ds σ H1 Q E
  |_=>False) E
theorem bw8(ho:QE X o do'):QE X (.FormattedValue o (-1) none pos) (dUn be1 do'):=by
 intro Ex mt ξ s σ H Q I h
 refine FormattedValue_plain (thn (ho Ex mt ξ s σ H _ I h) λu s1 ⟨x,H1,I1,rx,q⟩=>?_)
 cases x with
 |int i=>obtain⟨t,rfl⟩:=rx;exact formatField_int_small q.1 ⟨.str _,H1,I1.tok _,⟨_,rfl⟩,q.2⟩
 |str z=>obtain⟨t,rfl⟩:=rx;exact bD (ak _) (formatField_str (λt' tk htk=>⟨.str _,H1,I1.tok _ htk,⟨_,rfl⟩,q.2⟩) q.1)
 |_=>exact (show False from q).elim
theorem Zu(h:∀e,QE X e (w e))(mt:Meets X Ex):∀ {es:List Expr} {out:Str} {s:aF} {H:Hp},Inv X ξ σ H s->Zm out (es.map w) σ H Q (Ex σ) ->
  aW (model X.prog X.w) X.A (joinParts out (evalEach es X.env)) (EP X ξ σ Q) X.xe s
 |[],out,s,H,I,q=>joinParts_nil ⟨.str _,H,I.tok _,⟨_,rfl⟩,q.2⟩ q.1
 | e::es,out,s,H,I,q=>joinParts_cons (thn (h e Ex mt ξ s σ H _ I q) λu s1 ⟨x,H1,I1,rx,q⟩=>by
  cases x with
  |str y=>obtain⟨t,rfl⟩:=rx;exact⟨q.1,Zu h mt I1 q.2⟩
  |_=>exact (show False from q).elim)
noncomputable def bj7(w:Expr->DE):List Expr->DE
 |[]=>dNo
 |[e]=>w e
 |e::f::es=>Zm cJ ((e::f::es).map w)
theorem bc9(h:∀e,QE X e (w e)):∀(es:List Expr),QE X (.JoinedStr es pos) (bj7 w es)
 |[]=>Bx
 |[e]=>λEx mt ξ s σ H Q I q=>JoinedStr_one (h e Ex mt ξ s σ H Q I q)
 |e::f::es=>λEx mt ξ s σ H Q I q=>JoinedStr_many (Zu (es:=e::f::es) h mt I q)
noncomputable def Gb:DE:=λ_ H Q _=>∀p,H p=none->Q (.ref p) (upd H p (.dK []))\/Q (.ref p) (upd H p (.dT []))
theorem bc7:QE X (.Dict [] [] pos) Gb:=λEx mt ξ s σ H Q I h=>by
 have fr:=I.hok.fresh (ak s.heap.objs.size)
 rcases h _ fr with q|q
 .exact wpAny_Dict_empty ⟨.ref _,_,I.laid (a:=s.heap.objs.size) (o:=.dK []) (t':=s.toks) (λ_ _ q=>ah _ q) (ak _) (U5 s.heap I.big),rfl,q⟩
 .exact wpAny_Dict_empty ⟨.ref _,_,I.laid (a:=s.heap.objs.size) (o:=.dT []) (t':=s.toks) (λ_ _ q=>ah _ q) (ak _) (ap7 s.heap I.big),rfl,q⟩
noncomputable def W7:List (DE×DE)->St->Hp->(List (V×V)->Hp->Prop)->EK->Prop
 |[],_,H,Q,_=>Q [] H
 |(k,v)::r,σ,H,Q,E=>k σ H (λx H1=>v σ H1 (λy H2=>W7 r σ H2 (λps H3=>Q ((x,y)::ps) H3) E) E) E
noncomputable def ap0(trs:List (DE×DE)):DE:=λσ H Q E=>∀p,H p=none->W7 trs σ (upd H p (.dK [])) (λps H2=>H2 p=some (.dK [])/\∃kvs:List (Key×V),ps=kvs.map (λkv=>(kV kv.1,kv.2))/\kvs.length<=15/\Q (.ref p) (upd H2 p (.dK (Em [] kvs)))) E
theorem aw2 {w:Expr->DE}(h:∀e,QE X e (w e)){Ex:St->EK}(mt:Meets X Ex)(pos:Pos):∀(ks vs:List Expr),ks.length=vs.length->PPs X pos (ks.map some) vs ((ks.zip vs).map λp=>((λσ H Q=>w p.1 σ H Q (Ex σ)),λσ H Q=>w p.2 σ H Q (Ex σ)))
 |[],[],_=>bb6
 |k::ks,v::vs,hl=>aw1 (h k Ex mt) (h v Ex mt) (aw2 h mt pos ks vs (by simpa using hl))
 |[],_::_,hl=>by simp at hl
 |_::_,[],hl=>by simp at hl
theorem U1 {Ex:St->EK}{w:Expr->DE}:∀(l:List (Expr×Expr))(σ:St)(H:Hp)(Q:List (V×V)->Hp->Prop),W7 (l.map λp=>(w p.1,w p.2)) σ H Q (Ex σ)=Tq (l.map λp=>((λσ H Q=>w p.1 σ H Q (Ex σ)),λσ H Q=>w p.2 σ H Q (Ex σ))) σ H Q
 |[],_,_,_=>rfl
 | (k,v)::r,σ,H,Q=>by
  show w k σ H _ _=w k σ H _ _
  congr 1
  funext x H1
  congr 1
  funext y H2
  exact U1 r σ H2 _
theorem bc6 {w:Expr->DE}(h:∀e,QE X e (w e)){ks vs:List Expr}(hl:ks.length=vs.length)(h0:ks≠[])(h15:ks.length<=15):QE X (.Dict (ks.map some) vs pos) (ap0 ((ks.zip vs).map λp=>(w p.1,w p.2))):=by
 intro Ex mt ξ s σ H Q I q
 refine bb2 (aw2 h mt pos ks vs hl) (by simp) (by simpa using hl) (by simpa using h0) (by simpa using h15) ξ s σ H Q I ?_
 intro p hp
 have q:=q p hp
 rw[U1] at q
 exact q
theorem ah2(hc:X.calm=true)(hg:Gl X "len")(hm:X.mg "len"=none)(hg2:Gl X "set")(hm2:X.mg "set"=none)(ha:QE X a da)(hs:noStar a=true) :
  QE X (.Call (.Name "len" p) [.Call (.Name "set" p2) [a] [] pos2] [] pos) (dUn (Lv X.K) da):=by
 intro Ex mt ξ s σ H Q I h
 refine bO (E8 I hg hm PySem.boot_len (gP (eN ?_) rfl rfl) (by decide) (by decide))
 refine bO (E8 I hg2 hm2 PyProof.Rows.boot_set (b9 ?_ (Bi hs [] X.env) rfl) (by decide) (by decide))
 rw[Bi hs]
 show aW _ _ (spliced ((false,eval a X.env)::jI pos2 (dw [] X.env))) _ _ s
 refine eN (thn (ha Ex mt ξ s σ H _ I h) λu s1 ⟨x,H1,I1,r1,q1⟩=>e8 ?_)
 exact thn (a91 hc I1 r1 q1) λv s2 q=>e8 q
noncomputable def Go:RF:=λvs H Q=>match vs with
 |[.ref l,.ref t]=>∃xs ys,H l=some (.lst xs)/\H t=some (.tup ys)/\xs.length=ys.length/\0<xs.length/\xs.length<1000/\∀D Ts H',Ko H H'->H D=none->H' D=some (.lst (Ts.map V.ref))->Ts.length=xs.length->Y3 H H' xs ys Ts->Q (.ref D) H'
 |_=>False
theorem X4(hc:X.calm=true)(hg:Gl X "list")(hm:X.mg "list"=none)(hg2:Gl X "zip")(hm2:X.mg "zip"=none)(ha:QA X [a,b] r)(hs:[a,b].all noStar=true) :
  QE X (.Call (.Name "list" p) [.Call (.Name "zip" p2) [a,b] [] pos2] [] pos) (dFn (λvs H Q _=>Go vs H Q) r):=by
 intro Ex mt ξ s σ H Q I h
 have h2:=bv▸hs
 rw[ay] at h2
 refine bO (E8 I hg hm eK (b9 (eN ?_) rfl rfl) (by decide) (by decide))
 refine bO (E8 I hg2 hm2 boot_zip (b9 (thn (ha Ex mt pos2 ξ s σ H _ I h) λus s1 ⟨vs,H1,I1,r1,q1⟩=>?_) (Bi h2.1 [b] X.env) (Bo h2.2 X.env pos2)) (by decide) (by decide))
 have q1:Go vs H1 Q:=q1
 unfold Go at q1
 split at q1
 .obtain⟨xs,ys,e1,e2,len,pos,few,q⟩:=q1
  obtain⟨u,v,rfl,ru,rv⟩:=r1.two
  cases ru
  cases rv
  exact thn (as5 hc I1 e1 e2 len pos few λD Ts H' s' I' top fr hl ln laid=>⟨.ref D,H',I',rfl,q D Ts H' top fr hl ln laid⟩) λv s2 q=>e8 q
 .exact q1.elim
noncomputable def Fp(K:ac):V->Hp->VK->Prop:=λx H Q=>match x with
 |.ref p=>∃kvs,Rd H p (.dK kvs)/\kvs.length<1000/\∀l Ts H',Ko H H'->H l=none->H' l=some (.lst (Ts.map V.ref))->Ts.length=kvs.length->b15 H H' kvs Ts->Q (.ref l) H'
 |_=>False
theorem Tb(hc:X.calm=true)(hg:Gl X "list")(hm:X.mg "list"=none)(ho:QE X o do')(h1:Dy o=true)(h4:(ap.endLine==cp.line)=true) :
  QE X (.Call (.Name "list" p) [.Call (.Attribute o "items" ap) [] [] cp] [] pos) (dUn (Fp X.K) do'):=by
 intro Ex mt ξ s σ H Q I h
 refine bO (E8 I hg hm eK (b9 (eN ?_) rfl rfl) (by decide) (by decide))
 refine jE (Eo h1 "items" X.env _) h4 (thn (ho Ex mt ξ s σ H _ I h) λv s1 ⟨x,H1,I1,r1,q1⟩=>?_)
 cases x with
 |ref a=>
  cases r1
  obtain⟨kvs,rd,few,q⟩:=q1
  obtain⟨_,lo,vs,rel,dof⟩:=Hj I1.hok rd
  obtain⟨ob,es,ep,e,c,_⟩:=id dof
  refine⟨"dict", "dict.items", jx,jy,PySem.F.type_dict_items,dof.typeIs,λa' e'=>?_,gk rfl (kU ?_)⟩
  .cases e';exact⟨ob,e,c.2.1⟩
  .exact thn (Xp hc I1 rd few λl Ts H' s' I' top fr hl len laid=>⟨.ref l,H',I',rfl,q l Ts H' top fr hl len laid⟩) λv s2 q=>e8 q
 |_=>exact (show False from q1).elim
end
def bl7(lo st:Int)(n:Nat):It:=⟨λi _=>i<n,λi H x H'=>H'=H/\x=.int (lo+(i:Int) * st),λi _=>n<=i⟩
theorem ai8 {P:bq}{w:cb}{K:ac}{tg:Expr}(it:Addr)(lo st:Int)(n:Nat):Ri P w K tg (bl7 lo st n) [it] it (λi h=>kO h it (lo+(i:Nat) * st) ((n:Int) - (i:Nat)) st) where
 mem:=List.mem_singleton.mpr rfl
 obj:=λi h q b hb=>by
  obtain rfl:=List.mem_singleton.mp hb
  exact⟨_,q,λv z=>by cases (show Data.fields _=Data.cell v from z)⟩
 keep:=λi h h' q k=>k it (List.mem_singleton.mpr rfl) _ q
 item:=by
  intro X hP hw hK hc i ξ s σ H E I hf q go
  subst hP hw hK
  obtain⟨g0,g1,_,g3,g4,g5⟩:=hf it (List.mem_singleton.mpr rfl)
  refine bD (ak _) ((Walks.range (prog:=X.prog) (w:=X.w) (I.ok.hd hc) it lo st n).item i s _ _ go q λv h' tk hv q' kk htk=>?_)
  obtain⟨t,rfl⟩:=hv
  have I1:Inv X ξ σ H { s with heap:=h',toks:=tk }:=I.turned (λb o nb e=>kk b o (λz=>nb (List.mem_singleton.mp z)) e) g0 g1 g3 g4 g5
  exact⟨_,rfl,Qg (s:={ s with heap:=h',toks:=tk }) (n := "range_iterator") q' rfl rfl (by decide) ⟨.int (lo+(i:Int) * st),H,I1,⟨t,rfl⟩,⟨rfl,rfl⟩,q',λb hb=>(hf b hb).1⟩⟩
 done:=by
  intro X hP hw hK hc i ξ s σ H E I hf q go
  subst hP hw hK
  obtain⟨g0,g1,_,g3,g4,g5⟩:=hf it (List.mem_singleton.mpr rfl)
  exact jY (I.ok.hd hc) q (by have:n<=i:=go;omega) λh' eb=>⟨rfl,I.turned (t':=s.toks) (λb o nb e=>eb b o nb e) g0 g1 g3 g4 g5⟩
 self:=λ_ _ _ _ _ q h=>jW q h
section
theorem bf1 {ξ:List (Addr×Obj)}{σ:St}{H:Hp}{s:aF}{R:It->Hp->Prop}{E:Value->aF->Prop}{lo hi st:Int}{t u v:Tok}{tk:Nat}(I:Inv X ξ σ H s)(htk:s.toks<=tk)(sm:kL lo hi st=true)(q:R (bl7 lo st (cG lo hi st).toNat) H):aW (model X.prog X.w) X.A (mB (.ref s.heap.objs.size)) (PIE X ξ σ tg R) E { s with heap:=s.heap.push { cls:=.type "range", data:=.fields #[.int lo t,.int hi u,.int st v] },toks:=tk }:=by
 refine lI (IsRange.new ..) sm ?_
 have I1:Inv X ξ σ H { s with heap:=s.heap.push { cls:=.type "range", data:=.fields #[.int lo t,.int hi u,.int st v] },toks:=tk }:=I.kept λb o e=>ah _ e
 generalize s.heap.push { cls:=.type "range", data:=.fields #[.int lo t,.int hi u,.int st v] }=h1 at I1 ⊢
 refine⟨h1.objs.size,[h1.objs.size],_,_,H,rfl,I1.kept (t':=tk) λb o e=>ah _ e,ai8 _ lo st (cG lo hi st).toNat,?_,λb hb=>?_,q⟩
 .have e:lo+((0:Nat):Int) * st=lo:=by rw[Int.natCast_zero,Int.zero_mul,Int.add_zero]
  have f:(((cG lo hi st).toNat:Nat):Int) - ((0:Nat):Int)=cG lo hi st:=by
   rw[<- rangeSize_toNat,Int.natCast_zero,Int.sub_zero]
  show kO _ _ (lo+((0:Nat):Int) * st) ((((cG lo hi st).toNat:Nat):Int) - ((0:Nat):Int)) st
  rw[e,f]
  exact aK _ rfl
 .obtain rfl:=List.mem_singleton.mp hb
  exact I1.fpOk (ak _) (I1.hok.fresh (ak _))
end
noncomputable def QI(X:Cx)(tg e:Expr)(t:DI):Prop:=∀Ex,Meets X Ex->PI X tg e (λσ H R=>t σ H R (Ex σ))
noncomputable def iNo:DI:=λ_ _ _ _=>False
noncomputable def onD(p:Addr)(H:Hp)(R:Obj->List (Key×V)->Hp->Prop):Prop:=(∃kvs,H p=some (.dK kvs)/\∀o,R o kvs (upd H p (.frz o (.dK kvs)))) \/ ∃o kvs,H p=some (.frz o (.dK kvs))/\R o kvs H
theorem av0(I:Inv X ξ σ H s)(h:onD p H R):∃o kvs H',Inv X ξ σ H' s/\H' p=some (.frz o (.dK kvs))/\R o kvs H':=by
 rcases h with ⟨kvs,e,q⟩|⟨o,kvs,e,q⟩
 .obtain⟨o,ep,_,_,I'⟩:=I.froze e
  exact⟨o,kvs,_,I',Ac,q o⟩
 .exact⟨o,kvs,H,I,e,q⟩
noncomputable def Bk(K:ac)(a:DE):DI:=λσ H R E=>a σ H (λx H1=>match x with
 |.str z=>R (Its z) H1
 |.ref p=>((∃xs,SqL K H1 p xs)/\R (Itl K p) H1)\/((∃xs,SqT K H1 p xs)/\R (Itt K p) H1)\/onD p H1 λo kvs H2=>R (Itd p o kvs) H2
 |_=>False) E
noncomputable def Gh(t:DA):DI:=λσ H R E=>t σ H (λvs H1=>match vs with
 |[.int j]=>(-(2 ^ 62)<=j/\j<2 ^ 62)/\R (Itr 0 j.toNat) H1
 |[.int i,.int j]=>(-(2 ^ 62)<=i/\i<2 ^ 62 /\ -(2 ^ 62)<=j/\j<2 ^ 62)/\R (Itr i (j - i).toNat) H1
 |[.int i,.int j,.int k]=>(kL i j k=true/\1<=k/\k<=1000)/\R (bl7 i k (cG i j k).toNat) H1
 |_=>False) E
noncomputable def iEn(K:ac)(t:DA):DI:=λσ H R E=>t σ H (λvs H1=>match vs with
 |[.ref a]=>((∃xs,SqL K H1 a xs)/\R (Ite K a) H1)\/onD a H1 λo kvs H2=>R (am8 a o kvs) H2
 |_=>False) E
section
theorem bi5:QI X tg e iNo:=λ_ _ _ _ _ _ _ _ h=>h.elim
theorem ax5(ha:QE X e da):QI X tg e (Bk X.K da):=by
 intro Ex mt ξ s σ H R I h
 refine thn (ha Ex mt ξ s σ H _ I h) λv s1 ⟨x,H1,I1,r1,q1⟩=>?_
 cases x with
 |str z=>
  obtain⟨t,rfl⟩:=r1
  refine wpAny_pyIter_strU ?_
  refine⟨s1.heap.objs.size,[s1.heap.objs.size],_,_,H1,rfl,I1.kept (t':=s1.toks) λb o e=>ah _ e,a24 s1.heap.objs.size z t (strIterType z) (by unfold strIterType;split <;> simp),⟨_,aK _ rfl,rfl,rfl⟩,λb hb=>?_,q1⟩
  have e:b=s1.heap.objs.size:=by simpa using hb
  subst e
  exact I1.fpOk (ak _) (I1.hok.fresh (ak _))
 |ref a=>
  cases r1
  rcases q1 with ⟨⟨xs,hq⟩,q⟩|⟨⟨xs,hq⟩,q⟩|q
  .obtain⟨χ,rv,p,hz⟩:=I1.list hq
   refine gG p.isList ?_
   refine⟨s1.heap.objs.size,[s1.heap.objs.size],_,_,H1,rfl,I1.kept (t':=s1.toks) λb o e=>ah _ e,ai7 a _,⟨_,aK _ rfl,rfl,rfl⟩,λb hb=>?_,q⟩
   have e:b=s1.heap.objs.size:=by simpa using hb
   subst e
   exact I1.fpOk (ak _) (I1.hok.fresh (ak _))
  .obtain⟨χ,rv,p,hz⟩:=I1.tuple hq
   refine lJ (show s1.heap.IsTuple a χ.toArray from p) ?_
   refine⟨s1.heap.objs.size,[s1.heap.objs.size],_,_,H1,rfl,I1.kept (t':=s1.toks) λb o e=>ah _ e,Yz a _,⟨_,aK _ rfl,rfl,rfl⟩,λb hb=>?_,q⟩
   have e:b=s1.heap.objs.size:=by simpa using hb
   subst e
   exact I1.fpOk (ak _) (I1.hok.fresh (ak _))
  .obtain⟨o,kvs,H2,I2,e,q⟩:=av0 I1 q
   exact a73 I2 e q
 |_=>exact (show False from q1).elim
theorem ax4(hg:Gl X "range")(hm:X.mg "range"=none)(ha:QA X (a::es) r)(hs:(a::es).all noStar=true):QI X tg (.Call (.Name "range" p) (a::es) [] pos) (Gh r):=by
 intro Ex mt ξ s σ H R I h
 have h2:=bv▸hs
 rw[ay] at h2
 refine Call_ (E8 I hg hm boot_range (b9 (thn (ha Ex mt pos ξ s σ H _ I h) λus s1 ⟨vs,H1,I1,r1,q1⟩=>?_) (Bi h2.1 es X.env) (Bo h2.2 X.env pos)))
 dsimp only at q1
 split at q1
 .obtain⟨⟨h1,h2⟩,q⟩:=q1
  obtain⟨u,rfl,t,rfl⟩:=Fy r1
  exact call_range_1 (Vx I1 (by first|exact ak _|exact aV _ _|omega|(dsimp only;omega)) (by omega) (by omega) h1 h2 (by simpa using q))
 .obtain⟨⟨h1,h2,h3,h4⟩,q⟩:=q1
  obtain⟨u,v,rfl,⟨t,rfl⟩,⟨t',rfl⟩⟩:=cd8 r1
  exact call_range_2 (Vx I1 (by first|exact ak _|exact aV _ _|omega|(dsimp only;omega)) h1 h2 h3 h4 q)
 .obtain⟨⟨h1,h2,h3⟩,q⟩:=q1
  cases r1 with
  | cons ra rr=>cases rr with
   | cons rb rr=>cases rr with
    |cons rc rr=>
     cases rr
     obtain⟨t,rfl⟩:=ra
     obtain⟨t',rfl⟩:=rb
     obtain⟨t2,rfl⟩:=rc
     exact call_range_3 (by omega) (bf1 I1 (by first|exact ak _|exact aV _ _|omega|(dsimp only;omega)) h1 q) (.inl (jR (by omega)))
 .exact q1.elim
theorem bd4(hg:Gl X "enumerate")(hm:X.mg "enumerate"=none)(ha:QA X (a::es) r)(hs:(a::es).all noStar=true):QI X (.Tuple elts kt pt) (.Call (.Name "enumerate" p) (a::es) [] pos) (iEn X.K r):=by
 intro Ex mt ξ s σ H R I h
 have hh:=bv▸hs
 rw[ay] at hh
 refine Call_ (E8 I hg hm boot_enumerate (b9 (thn (ha Ex mt pos ξ s σ H _ I h) λus s1 ⟨vs,H1,I1,r1,q1⟩=>?_) (Bi hh.1 es X.env) (Bo hh.2 X.env pos)))
 dsimp only at q1
 split at q1
 .rename_i l
  obtain⟨u,rfl,ru⟩:=Fy r1
  cases ru
  rcases q1 with ⟨⟨xs,q1⟩,q⟩|q
  case inr=>
   obtain⟨o,kvs,H2,I2,e,q⟩:=av0 I1 q
   exact ap9 I2 e q
  obtain⟨its1,t1,p1,z1⟩:=I1.list q1
  refine call_enumerate_list p1.isList λh' he hit hsz hk=>?_
  refine gF he ?_
  refine⟨_,_,_,_,H1,rfl,I1.kept (t':=s1.toks) hk,ai6 (Nat.succ_ne_self _),⟨⟨_,he⟩,hit⟩,λb hb=>?_,q⟩
  have hb:b=s1.heap.objs.size+1\/b=s1.heap.objs.size:=by simpa using hb
  have le:s1.heap.objs.size<=b:=by
   rcases hb with e|e
   .rw[e];exact aV _ 1
   .rw[e];exact ak _
  exact I1.fpOk le (I1.hok.fresh le)
 .exact q1.elim
noncomputable def gNo:DG:=λ_ _ _ _=>False
noncomputable def gdS:List DG->List V->St->Hp->(St->Hp->Prop)->Prop
 |[],[],σ,H,Q=>Q σ H
 |g::gs,v::vs,σ,H,Q=>g v σ H λσ' H'=>gdS gs vs σ' H' Q
 |_,_,_,_,_=>False
noncomputable def gdT(K:ac)(n:Nat)(gs:List DG):DG:=λv σ H Q=>match v with
 |.ref a=>∃xs,(SqT K H a xs\/SqL K H a xs)/\xs.length=n/\gdS gs xs σ H Q
 |_=>False
theorem Vr:PG X tg gNo:=λ_ _ _ _ _ _ _ _ _ h=>h.elim
theorem b83:PGs X [] (gdS []):=by
 intro ξ s σ H vs us Q I r h
 cases vs with
 |nil=>exact bb4 ξ s σ H [] us Q I r ⟨rfl,h⟩
 |cons v vs=>exact (show False from h).elim
theorem b82(h1:PG X tg g)(h2:PGs X ts (gdS gs))(hs:(dv (tg::ts) X.env).map (·.2)=lY tg X.env::(dv ts X.env).map (·.2)):PGs X (tg::ts) (gdS (g::gs)):=by
 intro ξ s σ H vs us Q I r h
 cases vs with
 |nil=>exact (show False from h).elim
 |cons v vs=>exact av6 h1 h2 hs ξ s σ H (v::vs) us Q I r ⟨v,vs,rfl,h⟩
theorem cf2(hc:X.calm=true)(h:PGs X ts (gdS gs))(hn:(dv ts X.env).length=n)(hst:(dv ts X.env).findIdx? (·.1)=none):PG X (.Tuple ts k pos) (gdT X.K n gs):=by
 intro ξ s σ H v u Q I r hw
 cases v with
 |ref a=>
  obtain⟨xs,h1|h1,h2,h3⟩:=hw
  .exact bv5 hc h hn hst ξ s σ H _ u Q I r ⟨a,xs,rfl,h1,h2,h3⟩
  cases r
  obtain⟨χ,rv,pl,_⟩:=I.list h1
  rw[assign_Tuple]
  refine ai (ff ?_)
  unfold unpack
  rw[hst,show (dv ts X.env).length=χ.toArray.size by rw[hn,<- h2,rv.length];rfl]
  refine ai (bJ (PySem.W.kun_itemsOf (I.ok.hd hc) pl.isList λh' hx=>?_))
  have I1:Inv X ξ σ H { s with heap:=h' }:=I.kept (t':=s.toks) λb o e=>hx b o (aT (aH e)) e
  exact h ξ _ σ H xs _ Q I1 (by simpa using rv) h3
 |_=>exact (show False from hw).elim
end
noncomputable def Dm(cs:List (Str×Addr)):List (Str×cO)->List (Str×Addr)->List (Str×Addr)
 |[],acc=>acc
 |(n,k)::r,acc=>if k==.free then Dm cs r ((n,(cs.lookup n).getD 0)::acc) else Dm cs r acc
theorem Oq(h:∀y∈scope.names,y.2=.free -> ∃c,env.cells.lookup y.1=some c):closureFor scope env=pure (Dm env.cells scope.names []):=by
 unfold closureFor
 generalize scope.names=names at h
 suffices ∀acc,(forIn names acc λ(x:Str×cO) cs=>do
   if (x.2==.free)=true then do
    let c <- cellOf env x.1
    pure (eX ((x.1,c)::cs))
   else pure (eX cs):Sem (List (Str×Addr)))=pure (Dm env.cells names acc) by
  have:=this []
  simp only[bind_pure]
  exact this
 induction names with
 |nil=>intro acc;rfl
 |cons y r ih=>
  intro acc
  obtain⟨n,k⟩:=y
  rw[fX]
  unfold Dm
  by_cases e:(k==eF)=true
  .obtain⟨c,hc⟩:=h (n,k) (by simp) (cK e)
   have ec:cellOf env n=pure c:=by
    unfold cellOf
    rw[show env.cells.lookup n=some c from hc]
   simp only[e,if_true,ec,pure_bind]
   rw[ih (λy hy=>h y (aq _ hy))]
   rw[show env.cells.lookup n=some c from hc]
   rfl
  .have e':(k==eF)=false:=by simpa using e
   simp only[e',ck,if_false,pure_bind]
   rw[ih (λy hy=>h y (aq _ hy))]
theorem Jr:∀ {names:List (Str×cO)} {acc:List (Str×Addr)} {p:Str×Addr},p∈Dm cs names acc->p∈acc\/((p.1,eF)∈names/\p.2=(cs.lookup p.1).getD 0)
 |[],_,_,h=>.inl h
 | (n,k)::r,acc,p,h=>by
  unfold Dm at h
  by_cases e:(k==eF)=true
  .rw[if_pos e] at h
   rcases Jr h with h|⟨h1,h2⟩
   .rcases List.mem_cons.mp h with h|h
    .subst h
     exact .inr ⟨by rw[cK e];simp,rfl⟩
    .exact .inl h
   .exact .inr ⟨aq _ h1,h2⟩
  .rw[if_neg e] at h
   rcases Jr h with h|⟨h1,h2⟩
   .exact .inl h
   .exact .inr ⟨aq _ h1,h2⟩
theorem Jq:∀ {names:List (Str×cO)} {acc:List (Str×Addr)} {p:Str×Addr},p∈acc->p∈Dm cs names acc
 |[],_,_,h=>h
 | (n,k)::r,acc,p,h=>by
  unfold Dm
  split
  .exact Jq (aq _ h)
  .exact Jq h
theorem P0:∀ {names:List (Str×cO)} {acc:List (Str×Addr)} {n:Str},(n,eF)∈names->n∈(Dm cs names acc).map (·.1)
 |[],_,_,h=>by cases h
 | (m,k)::r,acc,n,h=>by
  unfold Dm
  rcases List.mem_cons.mp h with e|h
  .cases e
   rw[if_pos (show (eF==eF)=true from rfl)]
   exact List.mem_map.mpr ⟨_,Jq (am),rfl⟩
  .split <;> exact P0 h
def Vy(sc:List (Str×cO))(names:List (Str×cO)):List (Str×cO):=names.map λ(n,k)=>if (k==.free&&sc.lookup n==some .cell) then (n,.cell) else (n,k)
def Vb(names:List (Str×cO)):List Str:=(names.filter λy=>(y.2==.local) && !(y.1==(".0" : Str))).map (·.1)
def Xf(names:List (Str×cO)):List Str:=(names.filter λy=>y.2==.free).map (·.1)
def cfV(o:Option cO):Bool:=o==some .cell||o==some .free
def Dn(G:Sg)(names:List (Str×cO)):Sg:={ G with N:=Vb names++Xf names,sc:=Vy G.sc names,top:=false }
def Gz(G:Sg)(names:List (Str×cO)):List (Option Nat):=(Vb names).map (λ_=>none)++(Xf names).map (λx=>C8 G.N x 0)
noncomputable def Ga(G:Sg)(sc:Scope):Bool:=
 (sc.names.all λy=>!(y.2==.cell))&&(sc.names.all λy=>!(y.2==.local)||(sc.names.lookup y.1==some .local))&&(sc.kind==.function) &&
 decide (Vb sc.names++Xf sc.names).Nodup&&((Xf sc.names).all λx=>(C8 G.N x 0).isSome&&cfV (G.sc.lookup x)&&cfV ((Vy G.sc sc.names).lookup x)) &&
 ((Vb sc.names).all λx=>(Vy G.sc sc.names).lookup x==some .local)
section
theorem Ik(h:cfV o=true):o=some .cell\/o=some .free:=by
 unfold cfV at h
 rw[dY] at h
 exact h.elim (λe=>.inl (cK e)) λe=>.inr (cK e)
theorem Hu(O:GOk X G):(i8 sc X.env).names=Vy G.sc sc.names:=by
 unfold i8 Vy
 apply bY
 rintro⟨n,k⟩ _
 have e:X.env.kindOf n=G.sc.lookup n:=O.sc n
 dsimp only
 rw[e,O.kind]
 simp
theorem Rx(O:GOk X G)(h:Ga G sc=true):Ma X (Dn G sc.names).N (Gz G sc.names) sc (Dm X.env.cells sc.names []):=by
 unfold Ga at h
 simp only[ay,aR,eZ,decide_eq_true_eq,dY] at h
 obtain⟨⟨⟨⟨⟨h1,h2⟩,h3⟩,h4⟩,h5⟩,h6⟩:=h
 have fr:∀y∈sc.names,y.2=.free -> ∃c,X.env.cells.lookup y.1=some c:=λy hy hf=>by
  refine O.cel y.1 ?_
  rw[O.sc]
  refine Ik (h5 y.1 ?_).1.2
  exact List.mem_map.mpr ⟨y,List.mem_filter.mpr ⟨hy,by rw[hf];rfl⟩,rfl⟩
 have nc:∀y∈sc.names,y.2≠.cell:=λy hy e=>by
  have:=h1 y hy
  rw[e] at this
  cases this
 refine⟨Oq fr,nc,cK h3,λy hy hl=>?_,λx c hx=>?_,λx hx=>?_,?_,λk j x e1 e2=>?_⟩
 .rcases h2 y hy with z|z
  .rw[hl] at z;cases z
  .exact cK z
 .have hm:=cv hx
  rcases Jr hm with z|⟨z1,z2⟩
  .cases z
  .obtain⟨c',hc'⟩:=fr _ z1 rfl
   have z2':c=(X.env.cells.lookup x).getD 0:=z2
   rw[show X.env.cells.lookup x=some c' from hc'] at z2' ⊢
   rw[z2']
   rfl
 .have hn:(i8 sc X.env).names=Vy G.sc sc.names:=Hu O
  have key:∀kd,(i8 sc X.env).names.lookup x=some kd->cfV (some kd)=true -> ∃c,(Dm X.env.cells sc.names []).lookup x=some c:=λkd hkd hc=>by
   rw[hn] at hkd
   have hm:=cv hkd
   unfold Vy at hm
   obtain⟨⟨n,k⟩,hy,e⟩:=List.mem_map.mp hm
   dsimp only at e
   have hfree:k=.free/\n=x:=by
    have hkc:=nc _ hy
    by_cases e1:(k==eF&&G.sc.lookup n==some .cell)=true
    .rw[if_pos e1] at e
     rw[ay] at e1
     exact⟨cK e1.1,congrArg Prod.fst e⟩
    .rw[if_neg e1] at e
     cases e
     rcases Ik hc with z|z
     .exact absurd (aM z) hkc
     .exact⟨aM z,rfl⟩
   obtain⟨rfl,rfl⟩:=hfree
   exact at7 (P0 hy)
  rcases hx with hx|hx
  .exact key _ hx rfl
  .exact key _ hx rfl
 .unfold Gz Dn
  simp
 .have e1':(Vb sc.names++Xf sc.names)[k]?=some x:=e1
  have e2':((Vb sc.names).map (λ_=>(none:Option Nat))++(Xf sc.names).map (λx=>C8 G.N x 0))[k]?=some (some j):=e2
  by_cases hlt:k<(Vb sc.names).length
  .rw[c_ (by simpa using hlt),aj] at e2'
   cases q:(Vb sc.names)[k]? with
   |none=>rw[q] at e2';cases e2'
   |some z=>rw[q] at e2';cases e2'
  .rw[bU (by simpa using hlt)] at e1' 
   rw[bU (by simpa using hlt),ae,aj,e1'] at e2'
   have hs:C8 G.N x 0=some j:=aM e2'
   have hx:x∈Xf sc.names:=ag e1'
   obtain⟨⟨_,c1⟩,c2⟩:=h5 x hx
   refine⟨by rw[O.N];exact Fg hs,?_,?_⟩
   .rw[O.sc];exact Ik c1
   .rw[Hu O];exact Ik c2
theorem Zj(O:GOk X G)(h:Ga G sc=true)(fp:List Addr)(C:Addr)(s:aF)(H:Hp)(xe:Value->aF->Prop) :
  GOk (X.comp (Dn G sc.names).N sc (Dm X.env.cells sc.names []) fp C s H xe) (Dn G sc.names):=by
 have S:=Rx O h
 unfold Ga at h
 simp only[ay,aR,eZ,decide_eq_true_eq,dY] at h
 obtain⟨⟨⟨⟨⟨h1,h2⟩,h3⟩,h4⟩,h5⟩,h6⟩:=h
 have hn:(i8 sc X.env).names=Vy G.sc sc.names:=Hu O
 refine⟨O.K,cK h3,(λz=>by cases z),rfl,h4,λx=>?_,λx hx=>?_,λz=>(by cases z),O.calm,O.hd,O.units,λx hx=>S.has x hx,λx g e=>?_,O.bl,λz=>(by cases z),O.fr⟩
 .show (i8 sc X.env).names.lookup x=_
  rw[hn]
  rfl
 .show Vis (i8 sc X.env) x
  unfold Vis
  rw[hn]
  rcases List.mem_append.mp hx with q|q
  .exact .inl (cK (h6 x q))
  .exact .inr (Ik (h5 x q).2)
 .refine GBOk.to (X:=X) ?_ ?_ ?_ ?_ ?_ ?_ (O.gb x g e)
  .rfl
  .rfl
  .rfl
  .rfl
  .exact λ_ r=>r
  .exact λi F=>⟨F.kp,F.ok,F.room,F.binds,F.vals⟩
end
def Cl:St->Hp->(Option Int->Hp->Prop)->EK->Prop:=λ_ H Q _=>Q none H
def Dp(a:DE):St->Hp->(Option Int->Hp->Prop)->EK->Prop:=λσ H Q E=>a σ H (λx H1=>match x with
 |.int i=>Q (some i) H1
 |_=>False) E
abbrev DO:=St->Hp->(Option Int->Hp->Prop)->EK->Prop
noncomputable def cf8(K:ac):V->Option Int->Option Int->Hp->VK->Prop:=λx lo hi H Q=>match x with
 |.str z=>z.length<=sizeLine/\Q (.str (jp z lo hi)) H
 | .ref a=>(∃xs,SqL K H a xs/\∀p,H p=none->Q (.ref p) (upd H p (.lst (E6 xs lo hi)))) \/
   False
 |_=>False
noncomputable def dSl(K:ac)(a:DE)(l h:DO):DE:=λσ H Q E=>a σ H (λx H1=>l σ H1 (λlo H2=>h σ H2 (λhi H3=>cf8 K x lo hi H3 Q) E) E) E
noncomputable def QO(X:Cx)(e:Option Expr)(t:DO):Prop:=∀Ex,Meets X Ex->PO X e (λσ H Q=>t σ H Q (Ex σ))
section
variable {X:Cx} {G:Sg} {e:Expr} {de:DE} {lo hi:Option Expr} {dl dh:DO} {pos p2:Pos}
theorem Z6:QO X none Cl:=λ_ _=>bb5
theorem Z7(h:QE X e de):QO X (some e) (Dp de):=by
 intro Ex m ξ s σ H Q I hw
 rw[evalPart_some]
 refine thn (h Ex m ξ s σ H _ I hw) λu s1 ⟨x,H1,I1,r1,q1⟩=>?_
 cases x with
 |int i=>obtain⟨t,rfl⟩:=r1;exact⟨some i,H1,I1,.int i t,q1⟩
 |_=>exact (show False from q1).elim
theorem Sn(e:Expr)(z:Str)(t:Tok)(r:Value):letTemporaryGo e (.str z t) r=pure ():=by
 cases e <;> rfl
theorem ax3(he:QE X e de)(hl:QO X lo dl)(hh:QO X hi dh):QE X (.Subscript e (.Slice lo hi none p2) pos) (dSl X.K de dl dh):=by
 intro Ex m ξ s σ H Q I h
 refine Subscript_ (thn (he Ex m ξ s σ H _ I h) λv s1 ⟨x,H1,I1,r1,q1⟩=>?_)
 refine wpAny_Slice (thn (hl Ex m ξ s1 σ H1 _ I1 q1) λvl s2 ⟨l,H2,I2,pl,q2⟩=>thn (hh Ex m ξ s2 σ H2 _ I2 q2) λvu s3 ⟨u,H3,I3,pu,q3⟩=>?_)
 rw[evalPart_none]
 refine aE ?_
 show aW (model X.prog X.w) X.A (lF e (.Slice lo hi none p2) v (.ref s3.heap.objs.size)) (EP X ξ σ Q) X.xe { s3 with heap:=s3.heap.push { cls:=.type "slice", data:=.fields #[vl,vu,.none] } }
 have I4:Inv X ξ σ H3 { s3 with heap:=s3.heap.push { cls:=.type "slice", data:=.fields #[vl,vu,.none] } }:=I3.kept (t':=s3.toks) λb ob q=>ah _ q
 have gen:∀r,SlR X r->r x l u H3 Q->aW (model X.prog X.w) X.A (lF e (.Slice lo hi none p2) v (.ref s3.heap.objs.size)) (EP X ξ σ Q) X.xe { s3 with heap:=s3.heap.push { cls:=.type "slice", data:=.fields #[vl,vu,.none] } }:=λr hr q=>by
  obtain⟨T,id,hT,ht,hg⟩:=hr ξ _ σ H3 x v vl vu l u s3.heap.objs.size Q I4 r1 (Heap.IsSliceOf.new ..) pl pu q
  exact tail_any (ops:=[.ref s3.heap.objs.size,v]) ht hT hg (by with_unfolding_all rfl)
 cases x with
 |str z=>
  obtain⟨hz,q⟩:=q3
  obtain⟨t,rfl⟩:=r1
  have hk:KeptH (λh=>Inv X ξ σ H3 { s3 with heap:=h }):=λh ob J=>J.kept (t':=s3.toks) λb o eb=>ah _ eb
  have fin:∀h' t' k,Inv X ξ σ H3 { s3 with heap:=h' }->(λ(a:Value) (s':aF)=>s3.toks<=s'.toks->EP X ξ σ Q a s') (.str (jp z l u) t') { s3 with heap:=h',toks:=k }:=λh' t' k J htk=>⟨.str _,H3,J.tok k htk,⟨_,rfl⟩,q⟩
  refine bD (n:=s3.toks) (ak _) ?_
  cases pl with
  |none=>
   cases pu with
   |none=>exact i9 (SBH.sliceItem_nn hk I3 fin hz) (by with_unfolding_all rfl) (Sn e z t)
   |int j uj=>exact i9 (SBH.sliceItem_ns hk I3 fin hz) (by with_unfolding_all rfl) (Sn e z t)
  |int i ui=>
   cases pu with
   |none=>exact i9 (SBH.sliceItem_sn hk I3 fin hz) (by with_unfolding_all rfl) (Sn e z t)
   |int j uj=>exact i9 (SBH.sliceItem_ss hk I3 fin hz) (by with_unfolding_all rfl) (Sn e z t)
 |ref a=>
  rcases q3 with ⟨xs,h1,h2⟩|h
  .exact gen _ be8 ⟨a,xs,rfl,h1,h2⟩
  .exact h.elim
 |_=>exact (show False from q3).elim
def Nb:Expr->Bool
 |.Set _ _ _=>false
 |_=>true
theorem Nc(h:Nb e=true)(env:Env)(x:Value):e_ e env x=pure x:=by
 cases e with
 |Set _ _ _=>cases h
 |_=>rfl
theorem Iw:Meets X (λ_ _ _=>False):=λ_ _ _ _ _ _ _ h=>h.elim
def Xy(G:Sg)(x:Str):Bool:=(G.sc.lookup x==some .local)||(G.top&&(G.sc.lookup x==some .cell))
noncomputable def wG:Nat->Sg->Expr->DG
 |0,_,_=>gNo
 | n+1,G,e=>match e with
  | .Name x _=>match C8 G.N x 0 with
   |some i=>if Xy G x=true then gdN i else gNo
   |none=>gNo
  |.Tuple ts _ _=>if G.calm=true/\ts.all noStar=true then gdT G.K ts.length (ts.map (wG n G)) else gNo
  |_=>gNo
theorem Ss(O:GOk X G)(h:Xy G x=true):Loc X.env.scope x/\(X.fn x=true\/X.env.scope.names.lookup x=some .local):=by
 unfold Xy at h
 rw[dY,ay] at h
 rcases h with h|⟨h1,h2⟩
 .have:X.env.scope.names.lookup x=some .local:=by rw[O.sc];exact cK h
  exact⟨.inl this,.inr this⟩
 .have:X.env.scope.names.lookup x=some .cell:=by rw[O.sc];exact cK h2
  exact⟨.inr this,.inl (O.top h1 x)⟩
theorem Fs(h:noStar e=true)(es:List Expr)(env:Env):dv (e::es) env=(false,lY e env)::dv es env:=by
 cases e with
 |Starred _ _=>cases h
 |_=>rfl
theorem Mh(h:es.all noStar=true)(env:Env):(dv es env).length=es.length/\(dv es env).findIdx? (·.1)=none:=by
 induction es with
 |nil=>exact⟨rfl,rfl⟩
 |cons e es ih=>
  rw[bv,ay] at h
  obtain⟨h1,h2⟩:=ih h.2
  rw[Fs h.1]
  refine⟨by rw[aN,aN,h1],?_⟩
  rw[List.findIdx?_cons,h2]
  rfl
theorem Wq:∀(n:Nat)(X:Cx)(G:Sg),GOk X G -> ∀e,PG X e (wG n G e)
 |0,_,_,_,_=>Vr
 | n+1,X,G,O,e=>by
  cases e with
  |Name x p=>
   unfold wG
   dsimp only
   split
   .rename_i i e
    split
    .rename_i h
     obtain⟨h1,h2⟩:=Ss O h
     exact bb3 (by rw[O.N];exact O.nd) (by rw[O.N];exact Fg e) h1 h2
    .exact Vr
   .exact Vr
  |Tuple ts k p=>
   unfold wG
   dsimp only
   split
   .rename_i h
    obtain⟨h1,h2⟩:=h
    obtain⟨h3,h4⟩:=Mh h2 X.env
    rw[<- O.K]
    refine cf2 (O.calm▸h1) ?_ h3 h4
    clear h3 h4
    induction ts with
    |nil=>exact b83
    |cons t ts ih=>
     rw[bv,ay] at h2
     refine b82 (Wq n X G O t) (ih h2.2) ?_
     rw[Fs h2.1]
     rfl
   .exact Vr
  |_=>exact Vr
end
end L2
namespace L2
open PySem PySem.Spec
structure Y4 (l:List Addr) (e C:Addr) (dx:Option Addr) (h h':Heap):Prop where
 exc:∃(vs':Array Value)(T:Addr)(oT:Obj)(ts':Array Value),h'.get? e=some (Bd C dx vs')/\vs'.size=6/\vs'[1]?=some (.ref T)/\h.objs.size<=T/\T≠e/\h'.get? T=some oT/\oT.data=.fields ts'/\3<ts'.size/\∀vs,h.get? e=some (Bd C dx vs)->vs'[2]?=vs[2]?
 keep:∀b o,b≠e->b∉l->h.get? b=some o->h'.get? b=some o
 slot:∀b o,b≠e->h.get? b=some o -> ∃sl,h'.get? b=some { o with slots:=sl }
abbrev tbO(fs:Array Value):Obj:={ cls:=.type "traceback", dict:=none,data:=.fields fs }
abbrev M6(T:Addr):Obj->Obj:=f8 (·.setIfInBounds 1 (.ref T))
abbrev Lo(h:Heap)(e:Addr)(fs:Array Value):Heap:=(h.push (tbO fs)).update e (M6 h.objs.size)
section
variable {h:Heap} {e C:Addr} {dx:Option Addr} {vs fs:Array Value}
theorem apart(q:h.get? e=some (Bd C dx vs)):h.objs.size≠e:=cE (aH q)
theorem Va(T:Addr):(M6 T (Bd C dx vs)).data=.fields (vs.setIfInBounds 1 (.ref T)):=rfl
theorem Xb(q:h.get? e=some (Bd C dx vs)):(Lo h e fs).get? e=some (Bd C dx (vs.setIfInBounds 1 (.ref h.objs.size))):=
 cr (M6 h.objs.size) (ah (tbO fs) q) (gO (Va h.objs.size))
theorem Xc(q:h.get? e=some (Bd C dx vs)):(Lo h e fs).get? h.objs.size=some (tbO fs):=
 (bK (h.push (tbO fs)) (M6 h.objs.size) (apart q).symm).trans (aK h rfl)
theorem Kx(ne:b≠e)(q:h.get? b=some o):(Lo h e fs).get? b=some o:=
 (bK (h.push (tbO fs)) (M6 h.objs.size) ne.symm).trans (ah (tbO fs) q)
theorem Xo(hz:h.objs.size=h0.objs.size)(k1:∀b,b∉l->h.get? b=h0.get? b)(k2:∀b o,h0.get? b=some o -> ∃sl,h.get? b=some { o with slots:=sl })(q:h.get? e=some (Bd C dx vs))(hs:vs.size=6)(hf:3<fs.size) :
  Y4 l e C dx h0 (Lo h e fs) where
 exc:=⟨_,h.objs.size,_,_,Xb q,by rw[Array.size_setIfInBounds];exact hs,eR (by omega),by omega,apart q,Xc q,rfl,hf,λvs0 q0=>by
  obtain⟨sl,z⟩:=k2 e _ q0
  rw[q] at z
  cases z
  exact Array.getElem?_setIfInBounds_ne (by decide)⟩
 keep:=λb o ne nl hb=>Kx ne ((k1 b nl).trans hb)
 slot:=λb o ne hb=>let ⟨sl,z⟩:=k2 b o hb;⟨sl,Kx ne z⟩
end
section
theorem ag2(hfr:A.frames=some (env0::outer))(hl:s.heap.FunFrames base (env0::outer))(h0:env0.frame=some L)(hf:env.frame=some L)(q:s.heap.get? e=some (Bd C dx vs))(hs:vs.size=6)(k:∀h',Y4 (frs (env0::outer)) e C dx s.heap h'->Q () { s with heap:=h' }) :
  aW M A ((mH env >>= λa=>entryPlaceOf L hadNext >>= λpl=>iw head a .none (fP L) .none pl >>= λb=>setField (.ref e) 1 b)) Q E s:=by
 have off:e∉frs (env0::outer):=λz=>by
  obtain⟨_,o,z1,z2⟩:=hl.mem z
  rw[q] at z1
  cases z1
  exact z2 vs rfl
 have fe:mH env=mH env0:=by unfold mH;rw[hf,h0]
 rw[fe]
 refine ai (wpAny_frameOf_fun hfr hl h0 λh1 ⟨a1,a2,a3⟩=>ai (wpAny_entryPlaceOf λpl hpl=>?_))
 unfold iw newFields
 refine ai (gE ?_ (hpl.sizeOk5 _ _ _ _ _))
 have q1:h1.get? e=some (Bd C dx vs):=(a2 e off).trans q
 have lt:3<([head,.ref L,.none,fP L,.none]++(if pl.isEmpty then i5 6 bT else pl)).toArray.size:=by rw[aB,aP];simp only[aN,j5];omega
 generalize ([head,.ref L,.none,fP L,.none]++(if pl.isEmpty then i5 6 bT else pl)).toArray=fs at lt ⊢
 exact gI (ah (tbO fs) q1) rfl (show 1<vs.size by omega) (k _ (Xo a1 a2 a3 q1 hs lt))
end
open PyProof.Rows
open Sem (wp)
noncomputable def b13(n:Nat)(a:Addr)(H':Hp)(s':aF):Prop:=
 ∃(C:Addr)(dx:Option Addr)(vs:Array Value)(T:Addr)(oT:Obj)(ts:Array Value),FlO H' a C dx/\s'.heap.get? a=some (Bd C dx vs)/\vs.size=6/\vs[1]?=some (.ref T)/\T≠a/\s'.heap.get? T=some oT/\oT.data=.fields ts/\ts[3]?=some .none/\n<=T/\H' T=none
noncomputable def CXE(P:bq)(w:cb):CXT:=λouter H s E e s'=>
 ∃(a:Addr)(H':Hp),e=.ref a/\(s'.os=s.os/\s.toks<=s'.toks)/\jt s'.gens/\Un (frs outer) [] H H' s.heap s'.heap/\HOk P w H' s'.heap/\b13 s.heap.objs.size a H' s'/\E e none H'
section
theorem a90(I:Inv X ξ σ H s)(ea:FlO H a C dx)(L:Y4 (frs X.stack) a C dx s.heap h'):Un (frs X.stack) [] H H s.heap h' where
 keep:=λb o q n hb _=>L.keep b o (λz=>by rw[z] at n;rcases ea with ea|ea <;> (rw[ea] at n;cases n)) hb q
 slot:=λb o q n _ _=>L.slot b o (λz=>by rw[z] at n;rcases ea with ea|ea <;> (rw[ea] at n;cases n)) q
 free:=λb o _ n _=>n
 there:=λb o q _=>by
  by_cases hb:b=a
  .obtain⟨vs',T,oT,ts',h1,_⟩:=L.exc
   exact⟨_,by rw[hb];exact h1⟩
  .obtain⟨sl,h1⟩:=L.slot b o hb q
   exact⟨_,h1⟩
 tups:=λ_ _ e=>e
 frzs:=λ_ _ _ e=>e
 tbls:=λb ps e=>⟨#[],by rw[e];simp⟩
theorem a89(I:Inv X ξ σ H s)(ea:FlO H a C dx)(L:Y4 (frs X.stack) a C dx s.heap h'):HOk X.prog X.w H h':=λb o e=>by
 by_cases hb:b=a
 .subst hb
  obtain⟨vs',T,oT,ts',h1,h2,_,_,_,_,_,_,hc⟩:=L.exc
  rcases ea with ea|ea
  .obtain⟨vs,g1,_,g3⟩:=bh4 I ea
   rw[ea] at e
   cases e
   exact aq6 h1 h2 ((hc vs g1).trans g3)
  .rw[ea] at e
   cases e
   exact bn7 h1 h2
 .refine (I.hok b o e).stay (λc u hc q=>L.keep c u ?_ ?_ q) (λ_ q=>q) λ_ _ q=>q
  .rcases hc with rfl|hc
   .exact hb
   .rintro rfl
    rcases ea with ea|ea <;> (rw[ea] at hc;cases hc)
  .intro hm
   have n:=I.stkFree c hm
   rcases hc with rfl|hc
   .rw[n] at e;cases e
   .rw[n] at hc;cases hc
end
end L2
namespace L2
open PySem PySem.Spec PyProof.Rows
open Sem (wp)
section
noncomputable def FlyT(X:Cx)(ξ:List (Addr×Obj))(H:Hp)(a:Addr)(s:aF)(z:Value):Prop:=
 ∃(C:Addr)(dx:Option Addr)(vs:Array Value)(T:Addr)(oT:Obj)(ts:Array Value),FlO H a C dx/\s.heap.get? a=some (Bd C dx vs)/\vs.size=6/\vs[1]?=some (.ref T)/\T≠a/\s.heap.get? T=some oT/\oT.data=.fields ts/\ts[3]?=some z/\Eu X ξ H T
theorem FlyT.at(F:FlyT X ξ H a s z):Ic X ξ H a s:=by
 obtain⟨C,dx,vs,T,oT,ts,h1,h2,h3,q1,q2,q3,q4,q5,q6⟩:=F
 exact⟨C,dx,vs,h1,h2,h3,.inr ⟨T,oT,ts,q1,q2,q3,q4,⟨z,q5⟩,q6⟩⟩
theorem b96(I:Inv X ξ σ H s)(h1:FlO H a C dx)(h2:s.heap.get? a=some (Bd C dx vs))(h3:vs.size=6)(q1:vs[1]?=some (.ref T))(q2:T≠a)(q3:s.heap.get? T=some oT)(q4:oT.data=.fields ts)(q5:ts[3]?=some y)(q6:Eu X ξ H T)(v:Value) :
  Inv X ξ σ H { s with heap:=s.heap.update T (f8 (·.setIfInBounds 3 v)) }/\FlyT X ξ H a { s with heap:=s.heap.update T (f8 (·.setIfInBounds 3 v)) } v/\(s.heap.update T (f8 (·.setIfInBounds 3 v))).get? a=some (Bd C dx vs):=by
 have ha:(s.heap.update T (f8 (·.setIfInBounds 3 v))).get? a=some (Bd C dx vs):=(bK _ _ q2).trans h2
 obtain⟨c0,d0,dt0,sl0⟩:=oT
 cases (show dt0=.fields ts from q4)
 have hT:(s.heap.update T (f8 (·.setIfInBounds 3 v))).get? T=some ⟨c0,d0,.fields (ts.setIfInBounds 3 v),sl0⟩:=cr _ q3 (gO (vs:=ts.setIfInBounds 3 v) rfl)
 exact⟨I.turned (t':=s.toks) (λb o ne e=>(bK _ _ (cQ ne)).trans e) q6.1 q6.2.1 q6.2.2.2.1 q6.2.2.2.2.1 q6.2.2.2.2.2,⟨C,dx,vs,T,_,_,h1,ha,h3,q1,q2,hT,rfl,eR (Array.getElem?_eq_some_iff.mp q5).1,q6⟩,ha⟩
theorem az1(I:Inv X ξ σ H s)(F:FlyT X ξ H a s z)(h:∀s',Inv X ξ σ H s'->FlyT X ξ H a s' (fr.elim .none λf=>fP f)->Q () s'):aW (model X.prog X.w) A (kj (.ref a) fr) Q E s:=by
 obtain⟨C,dx,vs,T,oT,ts,h1,h2,h3,q1,q2,q3,q4,q5,q6⟩:=F
 obtain⟨I',F',_⟩:=b96 I h1 h2 h3 q1 q2 q3 q4 q5 q6 (fr.elim .none λf=>fP f)
 unfold kj
 refine ai (b5 h2 rfl q1 ?_)
 rw[if_pos (by simp)]
 exact gI q3 q4 (Array.getElem?_eq_some_iff.mp q5).1 (h _ I' F')
theorem bi0(I:Inv X ξ σ H s)(hs:X.stack=e0::o0)(h0:e0.frame=some L)(hf:env.frame=some L)(F:Ic X ξ H a s)(h:∀s' z,Inv X ξ σ H s'->FlyT X ξ H a s' z->Q () s') :
  aW (model X.prog X.w) X.A (lD (.ref a) env) Q E s:=by
 obtain⟨C,dx,vs,h1,h2,h3,h4⟩:=F
 have fr:X.A.frames=some (e0::o0):=hs▸I.ok.frames
 have new:∀ {s1:aF} {head:Value} {hadNext:Bool},Inv X ξ σ H s1->s1.heap.get? a=some (Bd C dx vs)->aW (model X.prog X.w) X.A ((mH env >>= λy=>entryPlaceOf L hadNext >>= λpl=>iw head y .none (fP L) .none pl >>= λb=>setField (.ref a) 1 b)) Q E s1:=λ{s1 head hadNext} I1 q=>by
  have fn:s1.heap.FunFrames X.base (e0::o0):=hs▸I1.stack
  refine ag2 (base:=X.base) fr fn h0 hf q h3 λh' L=>?_
  rw[<- hs] at L
  have I':=I1.call (h':=h') (g':=s1.gens) (t':=s1.toks) (d':=s1.drawn) (ch:=[]) (a90 I1 h1 L) (a89 I1 h1 L) I1.bare (λb z=>absurd z (by simp))
  obtain⟨vs',T,oT,ts',a1,a2,a3,a4,a5,a6,a7,a8,_⟩:=L.exc
  exact h _ _ I' ⟨C,dx,vs',T,oT,ts',h1,a1,a2,a3,a5,a6,a7,Array.getElem?_eq_getElem a8,I1.fpOk a4 (I1.hok.fresh a4)⟩
 unfold lD
 simp only[hf]
 rcases h4 with c|⟨T,oT,ts,c,ne,hT,hd,⟨z,hz⟩,fp⟩
 .refine ai (b5 h2 rfl c ?_)
  rw[if_neg (by decide)]
  exact new I h2
 .refine ai (b5 h2 rfl c ?_)
  rw[if_pos (by simp)]
  refine ai (b5 hT hd hz ?_)
  by_cases e:(z==fP L)=true
  .rw[if_pos e]
   exact aE (h s z I ⟨C,dx,vs,T,oT,ts,h1,h2,h3,c,ne,hT,hd,hz,fp⟩)
  .rw[if_neg e]
   obtain⟨I',_,ha⟩:=b96 I h1 h2 h3 c ne hT hd hz fp .none
   exact ai (gI hT hd (Array.getElem?_eq_some_iff.mp hz).1 (new I' ha))
theorem Zy(I:Inv X ξ σ H s)(hs:X.stack=X.env::X.outer)(hf:X.env.frame=some X.env.locals)(F:Ic X ξ H a s)(h:∀s',Inv X ξ σ H s'->FlyT X ξ H a s' .none->Q () s') :
  aW (model X.prog X.w) X.A (lD (.ref a) X.env) (λ_ s1=>aW (model X.prog X.w) X.A (kj (.ref a) none) Q E s1) E s:=
 bi0 I hs hf hf F λs1 z I1 F1=>az1 I1 F1 h
theorem Qb(I:Inv X ξ σ H s)(F:Ic X ξ H a s)(h:∀s',Inv X ξ σ H s'->Ic X ξ H a s'->Q () s'):aW (model X.prog X.w) A (kj (.ref a) none) Q E s:=by
 obtain⟨C,dx,vs,h1,h2,h3,h4⟩:=F
 rcases h4 with h4|⟨T,oT,ts,q1,q2,q3,q4,⟨z,q5⟩,q6⟩
 .unfold kj
  refine ai (b5 h2 rfl h4 ?_)
  rw[if_neg (by decide)]
  exact aE (h s I ⟨C,dx,vs,h1,h2,h3,.inl h4⟩)
 .exact az1 I ⟨C,dx,vs,T,oT,ts,h1,h2,h3,q1,q2,q3,q4,q5,q6⟩ λs' I' F'=>h s' I' F'.at
end
section
variable {prog:bq} {w:cb} {A:cj} {E:Value->aF->Prop} {s:aF} {K:ac} {a C D:Addr} {dx:Option Addr} {vs:Array Value} {b:Bool} {Q:Bool->aF->Prop}
open PySem.W in
theorem Xt(X:K.In s.heap)(c:ECls K C)(d:ECls K D)(ha:s.heap.get? a=some (Bd C dx vs))(m:mroIn K C (.ref D)=some b)(h:Q b s) :
  aW (model prog w) A (excMatches (.ref a) (.ref D)) Q E s:=by
 obtain⟨nm,qn,N,bs,bm,hdct,sn,sub,ab,col,dd,k0,k1,k2,k3,k5,hl,ht,hd⟩:=c.obj
 obtain⟨nm',qn',N',bs',bm',hdct',sn',sub',ab',col',dd',k0',k1',k2',k3',k5',hl',ht',hd'⟩:=d.obj
 have hC:=X _ _ hl
 have hD:=X _ _ hl'
 have hcB:(bh D::bm').contains (.type "BaseException")=true:=by rw[bX,Cq ht' (show valTail.contains (.type "BaseException")=true by decide +kernel),fH]
 have hcD:(bh C::bm).contains (.ref D)=b:=by
  unfold mroIn at m
  obtain⟨cd,e,em⟩:∃cd,mM K C=some cd/\cd.mro=.ref C::bm:=⟨_,by unfold mM;rw[hl],rfl⟩
  rw[e,fA,em] at m
  exact aM m
 have f:=tc_notTuple
 obtain⟨hp,g,dr,tk,os⟩:=s
 unfold excMatches
 repeat (first|with_reducible refine cy ha ?_|with_reducible refine cy hD ?_|(with_reducible refine c9 hD ?_;rw[hcB])|(with_reducible refine c9 hC ?_;rw[hcD])|wp_step)
 cases b <;> (wp_walk;exact h)
end
end L2
namespace L2
open PySem PySem.Spec PyProof.Rows
section
theorem b30(I2:Inv X ξ σ H2 s2)(f2:∀b∈fp,Eu X ξ H2 b)(F:Eu (X.comp N' sc cl fp C s2 H2 xe) pins' H' T):Eu X ξ H' T:=by
 obtain⟨r1,r2,r3,r4,r5,r6⟩:=F
 rcases r4 with r4|r4
 .exact⟨r1,(f2 T r4).2⟩
 .exact I2.fpOk r4 r1
theorem M7(m:Meets X Ex)(fr:FrH X)(I2:Inv X ξ σ H2 s2)(f2:∀b∈fp,Eu X ξ H2 b)(hC:s2.heap.objs.size<=C):Meets (X.comp N' sc cl fp C s2 H2 (B3 X sc cl us Q2 D C)) (λ_ a H'=>Ex σ a H'):=by
 intro pins' σ' H' s' a I' F' hE
 obtain⟨e0,o0,L,f1,f3,f4⟩:=fr
 refine bi0 (X:=X.comp N' sc cl fp C s2 H2 (B3 X sc cl us Q2 D C)) (env:=mG sc cl C X.env) I' f1 f3 f4 F' λs3 z I3 F3=>?_
 obtain⟨mm,hn,_⟩:=id I3.loc
 refine⟨mm,hn,λh' sb cenv hce=>?_⟩
 have I4:Inv X ξ σ H' s3:=I2.call' (ch:=fp) I3.os I3.base I3.hok I3.bare λb hb=>⟨(f2 b hb).2.2.2.1,(f2 b hb).2.1,(f2 b hb).2.2.2.2.1,(f2 b hb).2.2.2.2.2⟩
 have fo:=I2.fpOk hC I3.free
 obtain⟨g0,g1,g2,g3,g4,g5⟩:=id fo
 have I5:Inv X ξ σ H' { s3 with heap:=h' }:=I4.turned (t':=s3.toks) (λb o hb e=>(sb.2 b hb).trans e) g0 g1 g3 g4 g5
 obtain⟨C0,dx,vs,T,oT,ts,h1,h2,h3,q1,q2,q3,q4,q5,q6⟩:=F3
 have na:a≠C:=λz=>by rcases h1 with h1|h1 <;> (rw[z,g0] at h1;cases h1)
 have nT:T≠C:=q6.2.1
 have F5:FlyT X ξ H' a { s3 with heap:=h' } z:=⟨C0,dx,vs,T,oT,ts,h1,(sb.2 a na).trans h2,h3,q1,q2,(sb.2 T nT).trans q3,q4,q5,b30 I2 f2 q6⟩
 unfold PySem.passOn
 refine ai (b5 (s:={ s3 with heap:=h' }) ((sb.2 a na).trans h2) rfl q1 ?_)
 rw[if_neg (by simp)]
 refine ai (az1 I5 F5 λs6 I6 F6=>?_)
 exact wpAny_throw (m ξ σ H' s6 a I6 F6.at hE)
noncomputable def a52(X:Cx)(ifs:List Expr)(t:DT):Prop:=∀Ex,Meets X Ex->ac1 X ifs (λσ H Q=>t σ H Q (Ex σ))
theorem Vu:a52 X [] Bt:=λ_ _=>av8
theorem Vv(h:QT X c t):a52 X [c] t:=λEx m=>av9 (h Ex m)
theorem Z4(O:GOk X G)(hc:X.calm=true)(hk:Ga G sc=true)(hs:Nb iter=true)(hi:QI X tg iter wi)(hg:∀X',GOk X' (Dn G sc.names)->PG X' tg g)(ht:∀X',GOk X' (Dn G sc.names)->a52 X' ifs tc)(he:∀X',GOk X' (Dn G sc.names)->QE X' elt de) :
  QE X (.ListComp elt [⟨tg,iter,ifs,0⟩] sc pos) (Bj (Gz G sc.names) wi g tc de):=by
 intro Ex m ξ s σ H Q I h
 exact ao8 hc (Rx O hk) (hi Ex m) (λQ2 fp C D s2 H2 I2 f2 hC=>
  have M:=M7 (N':=(Dn G sc.names).N) (cl:=Dm X.env.cells sc.names []) (us:=none) (Q2:=Q2) (D:=D) m O.fr I2 f2 hC
  have K:=Zj O hk fp C s2 H2 (B3 X sc (Dm X.env.cells sc.names []) none Q2 D C)
  ⟨hg _ K,ht _ K _ M,he _ K _ M⟩) I h (λx=>Nc hs X.env x)
end
noncomputable def Zf(K:ac)(op:BoolOp):List DE->DE
 |[]=>dNo
 |[a]=>a
 | a::r=>match op with
  |.And=>Ku K a (Zf K op r)
  |.Or=>b25 K a (Zf K op r)
noncomputable def Ze(op:BoolOp):List DT->DT
 |[]=>λ_ _ _ _=>False
 |[a]=>a
 | a::r=>match op with
  |.And=>Os a (Ze op r)
  |.Or=>dOr a (Ze op r)
noncomputable def Ei:List DE->DA
 |[]=>Ah
 |a::r=>Ab a (Ei r)
noncomputable def tNo:DT:=λ_ _ _ _=>False
noncomputable def aj0(G:Sg)(ops:List mL)(bs:List Expr)(a:DE)(ds:List DE):DE:=match ops,bs,ds with
 |[op],[b],[d]=>if jB op b=false then Ad (Oy G.K op) a d else dNo
 |[op,op'],[b,c],[d,d']=>if lastMarks [op,op'] [b,c]=false then Ej (Oy G.K op) (Oy G.K op') a d d' else dNo
 |_,_,_=>dNo
noncomputable def a27(G:Sg)(x:Str)(es:List Expr)(ds:List DE):DE:=
 if Mz G x=true/\(C8 G.N x 0)=none/\es.all noStar=true then (match G.gb.lookup x with
  |some (.fn i)=>if es.length<=i.ps.length/\i.ps.length<=es.length+i.dfs.length then dFn (spE i.sp (i.dfs.drop (es.length+i.dfs.length - i.ps.length))) (Ei ds) else dNo
  | some (.exc C oi)=>(match oi with
   |none=>if es.isEmpty=true then dFn (mkX C none 0) (Ei ds) else dFn (λvs H Q E=>vs.length<=1000/\mkX C none 0 vs H Q E) (Ei ds)
   |some _=>dNo)
  | some (.cls C oi)=>(match oi with
   |none=>if es.isEmpty=true then dFn (mkC C none 0) (Ei ds) else dNo
   |some i=>if es.length+1<=i.ps.length/\i.ps.length<=es.length+1+i.dfs.length then dFn (mkC C (some i) (es.length+1+i.dfs.length - i.ps.length)) (Ei ds) else dNo)
  |some _=>dNo
  | none=>if G.bl.contains x=true then (match bm5 G.K G.calm x with
   |some (_,r)=>if es.isEmpty=true then dNo else dFn (λvs H Q _=>r vs H Q) (Ei ds)
   |none=>dNo) else dNo) else dNo
noncomputable def a29(G:Sg)(o:Expr)(m:Str)(es:List Expr)(ap cp:Pos)(d:DE)(ds:List DE):DE:=
 if Dy o=true/\es.all noStar=true/\es.length<30/\(ap.endLine==cp.line)=true then (match Dw G.gb m with
  |none=>dMt (rMt G.K (mtR G.K m)) d (Ei ds)
  |some l=>Ev m es.length l d (Ei ds)) else dNo
noncomputable def bh2(d:DE):DE:=λσ H Q E=>d σ H (λv H'=>Thaw H H' (Q v)) E
theorem bd3(h:QE X e d):QE X e (bh2 d):=λEx mt ξ s σ H Q I q=>
 thn (h Ex mt ξ s σ H _ I q) λv s1 ⟨x,H1,I1,r1,q1⟩=>
  let ⟨H2,I2,q2⟩:=Thaw.inv I I1 q1
  ⟨x,H2,I2,r1,q2⟩
inductive Fz where
 |lenSet (a:Expr)|listItems (o:Expr)|zipList (a b:Expr)
noncomputable def fzD(K:ac)(w:Expr->DE):Fz->DE
 |.lenSet a=>dUn (Lv K) (w a)
 |.listItems o=>dUn (Fp K) (w o)
 |.zipList a b=>dFn (λvs H Q _=>Go vs H Q) (Ei ([a,b].map w))
noncomputable def Xj(G:Sg)(x:Str):Bool:=Mz G x&&(G.gb.lookup x).isNone&&G.bl.contains x
noncomputable def Xg(G:Sg)(x:Str)(es:List Expr):Option Fz:=match es with
 |[.Call (.Name y _) [a] [] _]=>if x="len" /\ y="set" /\ Xj G x=true/\Xj G y=true/\noStar a=true/\G.calm=true then some (.lenSet a) else none
 |[.Call (.Name y _) [a,b] [] _]=>if x="list" /\ y="zip" /\ Xj G x=true/\Xj G y=true/\[a,b].all noStar=true/\G.calm=true then some (.zipList a b) else none
 |[.Call (.Attribute o m ap) [] [] cp]=>if x="list" /\ m="items" /\ Xj G x=true/\Dy o=true/\(ap.endLine==cp.line)=true/\G.calm=true then some (.listItems o) else none
 |_=>none
mutual
noncomputable def wE:Nat->Sg->Expr->DE
 |0,_,_=>dNo
 | n+1,G,e=>match e with
  |.Constant c _ _=>a28 c
  |.Name x _=>a30 G x
  |.BinOp a op b _=>Ad (rOp G.K op) (wE n G a) (wE n G b)
  |.UnaryOp .USub a _=>dUn Ja (wE n G a)
  |.UnaryOp .Not a _=>ap1 G.K (wE n G a)
  |.UnaryOp .Invert a _=>dUn Q6 (wE n G a)
  |.BoolOp op es _=>Zf G.K op (es.map (wE n G))
  |.Compare a ops bs _=>aj0 G ops bs (wE n G a) (bs.map (wE n G))
  |.IfExp t a b _=>b24 (wT n G t) (wE n G a) (wE n G b)
  |.List es _=>if es.all noStar=true then Cp (Ei (es.map (wE n G))) else dNo
  |.Tuple es _ _=>if es.all noStar=true then Gc (Ei (es.map (wE n G))) else dNo
  |.Subscript a (.Slice lo hi none _) _=>dSl G.K (wE n G a) (match lo with|none=>Cl|some l=>Dp (wE n G l)) (match hi with|none=>Cl|some h=>Dp (wE n G h))
  |.Subscript a b _=>if Ix b=true then Ad (An G.K) (wE n G a) (wE n G b) else dNo
  |.Attribute o f _=>if Dy o=true then dUn (D7 G.K f) (wE n G o) else dNo
  |.JoinedStr es _=>bj7 (wE n G) es
  |.FormattedValue a (-1) none _=>dUn be1 (wE n G a)
  | .Call (.Name x _) es [] _=>match Xg G x es with
   |some z=>fzD G.K (wE n G) z
   |none=>a27 G x es (es.map (wE n G))
  |.Dict ks vs _=>if ks.isEmpty=true/\vs.isEmpty=true then Gb else if (ks.all (·.isSome))=true/\ks.length=vs.length/\ks.length<=15/\ks.isEmpty=false then ap0 (((ks.filterMap id).zip vs).map λp=>(wE n G p.1,wE n G p.2)) else dNo
  |.Call (.Attribute o m ap) es [] cp=>a29 G o m es ap cp (wE n G o) (es.map (wE n G))
  | .ListComp elt [⟨tg,iter,ifs,0⟩] sc _=>if G.calm=true/\Ga G sc=true/\Nb iter=true then
    Bj (Gz G sc.names) (wI n G tg iter) (wG n (Dn G sc.names) tg) (match ifs with | []=>Bt | [c]=>wT n (Dn G sc.names) c|_=>tNo) (wE n (Dn G sc.names) elt) else dNo
  |_=>dNo
noncomputable def wT:Nat->Sg->Expr->DT
 |0,_,_=>tNo
 | n+1,G,e=>match e with
  |.UnaryOp .Not a _=>Ed (wT n G a)
  |.BoolOp op es _=>Ze op (es.map (wT n G))
  |.Compare a ops bs _=>Au (aj0 G ops bs (wE n G a) (bs.map (wE n G)))
  |.IfExp _ _ _ _=>tNo
  |e=>Ee G.K (wE n G e)
noncomputable def wI:Nat->Sg->Expr->Expr->DI
 |0,_,_,_=>iNo
 | n+1,G,tg,e=>match e with
  |.Call (.Name x _) (a::es) [] _=>
   if x="range" /\ Mz G x=true/\G.gb.lookup x=none/\G.bl.contains x=true/\(a::es).all noStar=true then Gh (Ei ((a::es).map (wE n G)))
   else if x="enumerate" /\ Mz G x=true/\G.gb.lookup x=none/\G.bl.contains x=true/\(a::es).all noStar=true then (match tg with
    |.Tuple _ _ _=>iEn G.K (Ei ((a::es).map (wE n G)))
    |_=>iNo)
   else Bk G.K (wE n G e)
  |.ListComp a b c d=>Bk G.K (bh2 (wE n G (.ListComp a b c d)))
  |e=>Bk G.K (wE n G e)
end
theorem bi6:QT X e tNo:=λ_ _ _ _ _ _ _ _ h=>h.elim
theorem C3(h:∀e,QE X e (w e)):∀ {es:List Expr},es.all noStar=true->QA X es (Ei (es.map w))
 |[],_=>bw3
 | e::es,hs=>by
  rw[bv,ay] at hs
  exact bc2 (h e) (C3 h hs.2) hs.1
theorem Ta(h:∀e,QE X e (w e)):∀ {es:List Expr},QE X (.BoolOp op es pos) (Zf X.K op (es.map w))
 |[]=>Bx
 |[e]=>bx6 (h e)
 | e::e'::es=>by
  cases op with
  |And=>exact bw4 (h e) (Ta h)
  |Or=>exact b89 (h e) (Ta h)
theorem Tc(h:∀e,QT X e (w e)):∀ {es:List Expr},QW X (.BoolOp op es pos) (Ze op (es.map w))
 |[]=>λ_ _ _ _ _ _ _ _ _ h=>h.elim
 | [e]=>by
  cases op with
  |And=>exact be0 (h e)
  |Or=>exact bz2 (h e)
 | e::e'::es=>by
  cases op with
  |And=>exact bz1 (h e) (Tc h)
  |Or=>exact b91 (h e) (Tc h)
section
theorem bc5(O:GOk X G)(h:∀e,QE X e (w e))(a:Expr)(ops:List mL)(bs:List Expr)(pos:Pos):QE X (.Compare a ops bs pos) (aj0 G ops bs (w a) (bs.map w)):=by
 unfold aj0
 rw[<- O.K]
 split
 .rename_i op b d e
  have:d=w b:=by simpa using e.symm
  subst this
  split
  .exact bw7 O.units op (h a) (h b) ‹_›
  .exact Bx
 .rename_i op op' b c d d' e
  have:w b=d/\w c=d':=by simpa using e
  obtain⟨rfl,rfl⟩:=this
  split
  .exact ax0 O.units op op' (h a) (h b) (h c) ‹_›
  .exact Bx
 .exact Bx
theorem bd9(O:GOk X G)(h:∀e,QE X e (w e))(a:Expr)(ops:List mL)(bs:List Expr)(pos:Pos):QT X (.Compare a ops bs pos) (Au (aj0 G ops bs (w a) (bs.map w))):=by
 unfold aj0
 rw[<- O.K]
 split
 .rename_i op b d e
  have:d=w b:=by simpa using e.symm
  subst this
  split
  .exact by8 O.units op (h a) (h b) ‹_›
  .exact λ_ _ _ _ _ _ _ _ h=>h.elim
 .rename_i op op' b c d d' e
  have:w b=d/\w c=d':=by simpa using e
  obtain⟨rfl,rfl⟩:=this
  split
  .exact ax9 O.units op op' (h a) (h b) (h c) ‹_›
  .exact λ_ _ _ _ _ _ _ _ h=>h.elim
 .exact λ_ _ _ _ _ _ _ _ h=>h.elim
theorem aw9(O:GOk X G)(h:∀e,QE X e (w e))(x:Str)(es:List Expr)(p pos:Pos):QE X (.Call (.Name x p) es [] pos) (a27 G x es (es.map w)):=by
 unfold a27
 split
 .rename_i hh
  obtain⟨hg,_,hs⟩:=hh
  have dd:=Xl hg
  split
  .rename_i i e
   obtain⟨hm,F⟩:=O.at_ x _ e
   split
   .rename_i hl
    cases es with
    |nil=>exact aw8 F (by have:=hl.1;omega) (O.gl hg) hm dd.1
    |cons e es=>exact bc4 F (by have:=hl.1;omega) (O.gl hg) hm (C3 h hs) hs dd.1
   .exact Bx
  .rename_i C oi e
   obtain⟨hm,kp,c,hi⟩:=O.at_ x _ e
   split
   .cases es with
    |nil=>exact bd0 (j:=0) c hi (λi z=>nomatch z) kp (O.gl hg) hm dd.1
    |cons e es=>exact bx2 (j:=0) c hi (λi z=>nomatch z) kp (O.gl hg) hm (C3 h hs) hs dd.1
   .exact Bx
  .rename_i C oi e
   obtain⟨hm,kp,hi⟩:=O.at_ x _ e
   split
   .cases es with
    |nil=>exact Z5 (j:=0) hi (λi z=>nomatch z) kp (O.gl hg) hm dd.1
    |cons e es=>exact Bx
   .rename_i i
    split
    .rename_i hl
     cases es with
     |nil=>exact Z5 hi (λi z=>by cases z;have:=hl.1;omega) kp (O.gl hg) hm dd.1
     |cons e es=>exact bx1 hi (λi z=>by cases z;have:=hl.1;omega) kp (O.gl hg) hm (C3 h hs) hs dd.1
    .exact Bx
  .exact Bx
  .rename_i e
   split
   .rename_i hb
    split
    .rename_i f r er
     split
     .exact Bx
     .rename_i hne
      cases es with
      |nil=>exact absurd rfl hne
      |cons e es=>
       rw[<- O.K] at er
       obtain⟨b1,b2⟩:=a61 O.units er O.calm
       exact bw6 b2 (O.gl hg) (O.bl x hb) b1 (C3 h hs) hs dd.2.2 dd.1
    .exact Bx
   .exact Bx
 .exact Bx
theorem ax2(O:GOk X G)(h:∀e,QE X e (w e))(o:Expr)(m:Str)(es:List Expr)(ap cp:Pos):QE X (.Call (.Attribute o m ap) es [] cp) (a29 G o m es ap cp (w o) (es.map w)):=by
 unfold a29
 rw[<- O.K]
 split
 .rename_i hh
  obtain⟨h1,h2,h3,h4⟩:=hh
  split
  .cases es with
   |nil=>exact bx3 (λb hb=>au1 O.units hb) (h o) h1 h4
   |cons e es=>exact b88 (λb hb=>au1 O.units hb) (h o) (C3 h h2) h1 h2 h3 h4
  .rename_i l e
   cases es with
   |nil=>exact bd2 (O.met m l e) (h o) h1 h4
   |cons e es=>exact bx7 (O.met m l ‹_›) (h o) (C3 h h2) h1 h2 h3 h4
 .exact Bx
end
theorem Dx(O:GOk X G)(h:Xj G x=true):Gl X x/\X.mg x=none:=by
 unfold Xj at h
 rw[ay,ay] at h
 exact⟨O.gl h.1.1,O.bl _ h.2⟩
theorem bc8(O:GOk X G)(h:∀e,QE X e (w e))(e:Xg G x es=some z) :
  QE X (.Call (.Name x p) es [] pos) (fzD G.K w z):=by
 unfold Xg at e
 split at e
 .split at e
  .rename_i hh
   obtain⟨rfl,rfl,h1,h2,h3,h4⟩:=hh
   cases e
   rw[<- O.K]
   exact ah2 (O.calm▸h4) (Dx O h1).1 (Dx O h1).2 (Dx O h2).1 (Dx O h2).2 (h _) h3
  .cases e
 .split at e
  .rename_i hh
   obtain⟨rfl,rfl,h1,h2,h3,h4⟩:=hh
   cases e
   exact X4 (O.calm▸h4) (Dx O h1).1 (Dx O h1).2 (Dx O h2).1 (Dx O h2).2 (C3 h h3) h3
  .cases e
 .split at e
  .rename_i hh
   obtain⟨rfl,rfl,h1,h2,h3,h4⟩:=hh
   cases e
   rw[<- O.K]
   exact Tb (O.calm▸h4) (Dx O h1).1 (Dx O h1).2 (h _) h2 h3
  .cases e
 .cases e
theorem Uq {α:Type}:∀ {ks:List (Option α)},ks.all (·.isSome)=true->(ks.filterMap id).map some=ks
 |[],_=>rfl
 |none::_,h=>by simp at h
 | some k::ks,h=>by
  rw[bv,ay] at h
  show some k::(ks.filterMap id).map some=_
  rw[Uq h.2]
theorem b05:∀(n:Nat)(X:Cx)(G:Sg),GOk X G->(∀e,QE X e (wE n G e))/\(∀e,QT X e (wT n G e))/\(∀tg e,QI X tg e (wI n G tg e)):=by
 intro n
 induction n with
 |zero=>
  intro X G O
  refine⟨λe=>?_,λe=>?_,λtg e=>?_⟩
  .unfold wE;exact Bx
  .unfold wT;exact bi6
  .unfold wI;exact bi5
 |succ n ih=>
  intro X G O
  obtain⟨hE,hT,hI⟩:=ih X G O
  have hv:∀tg e,QI X tg e (Bk G.K (wE n G e)):=λtg e=>by rw[<- O.K];exact ax5 (hE e)
  refine⟨λe=>?_,λe=>?_,λtg e=>?_⟩
  .unfold wE
   split
   .exact ax1 _ _ _
   .exact bd1 O _ _
   .rw[<- O.K];exact bw5 _ (hE _) (hE _)
   .exact bx4 (hE _)
   .rw[<- O.K];exact bx5 (hE _)
   .exact bw9 (hE _)
   .rw[<- O.K];exact Ta hE
   .exact bc5 O hE _ _ _ _
   .exact b86 (hT _) (hE _) (hE _)
   .split
    .exact bx0 (C3 hE ‹_›)
    .exact Bx
   .split
    .exact bx8 (C3 hE ‹_›)
    .exact Bx
   .rw[<- O.K]
    refine ax3 (hE _) ?_ ?_
    .split
     .exact Z6
     .exact Z7 (hE _)
    .split
     .exact Z6
     .exact Z7 (hE _)
   .split
    .rename_i hs
     rw[<- O.K];exact b87 O.units (hE _) (hE _) hs
    .exact Bx
   .split
    .rw[<- O.K];exact bc3 (hE _) (Eo ‹_› _ X.env _)
    .exact Bx
   .exact bc9 hE _
   .exact bw8 (hE _)
   .split
    .exact bc8 O hE ‹_›
    .exact aw9 O hE _ _ _ _
   .rename_i ks vs p0
    split
    .rename_i hh
     have e1:ks=[]:=by simpa using hh.1
     have e2:vs=[]:=by simpa using hh.2
     subst e1 e2
     exact bc7
    .split
     .rename_i hh
      obtain⟨h1,h2,h3,h4⟩:=hh
      have e:=Uq h1
      have hl:(ks.filterMap id).length=ks.length:=by rw[<- ae (f:=some),e]
      have q:=bc6 (X:=X) (pos:=p0) hE (ks:=ks.filterMap id) (vs:=vs) (by rw[hl];exact h2) (λz=>by rw[z] at e;rw[<- e] at h4;simp at h4) (by rw[hl];exact h3)
      rw[e] at q
      exact q
     .exact Bx
   .exact ax2 O hE _ _ _ _ _
   .split
    .rename_i hh
     obtain⟨h1,h2,h3⟩:=hh
     refine Z4 O (O.calm▸h1) h2 h3 (hI _ _) (λX' O'=>Wq n X' _ O' _) (λX' O'=>?_) (λX' O'=>(ih X' _ O').1 _)
     split
     .exact Vu
     .exact Vv ((ih X' _ O').2.1 _)
     .exact λ_ _ _ _ _ _ _ _ h=>h.elim
    .exact Bx
   .exact Bx
  .unfold wT
   split
   .exact by9 (hT _)
   .exact λEx m=>PW.pt (Tc hT Ex m)
   .exact bd9 O hE _ _ _ _
   .exact bi6
   .rename_i h1 h2 h3 h4
    rw[<- O.K]
    refine bz0 (hE _) ?_
    cases e with
    |UnaryOp op a p=>cases op <;> first|rfl|exact absurd rfl (h1 _ _)
    |BoolOp op es p=>exact absurd rfl (h2 _ _ _)
    |Compare a b c p=>exact absurd rfl (h3 _ _ _ _)
    |IfExp a b c p=>exact absurd rfl (h4 _ _ _ _)
    |_=>rfl
  .unfold wI
   split
   .split
    .rename_i hh
     obtain⟨rfl,h1,_,h2,h3⟩:=hh
     exact ax4 (O.gl h1) (O.bl _ h2) (C3 hE h3) h3
    .split
     .rename_i hh
      obtain⟨rfl,h1,_,h2,h3⟩:=hh
      split
      .rw[<- O.K];exact bd4 (O.gl h1) (O.bl _ h2) (C3 hE h3) h3
      .exact bi5
     .exact hv _ _
   .rw[<- O.K];exact ax5 (bd3 (hE _))
   .exact hv _ _
def Cx.tr(X:Cx)(pn:List (Addr×Obj))(xe:Value->aF->Prop):Cx:={ X with pn:=pn,xe:=xe }
def Cx.hd(X:Cx)(a:Addr):Cx:={ X with A:=X.A.mark (some (.ref a)),calm:=false,xe:=λ_ _=>False }
section
variable {X:Cx} {ξ pins':List (Addr×Obj)} {σ:St} {H:Hp} {s:aF} {a C:Addr} {dx:Option Addr} {xe:Value->aF->Prop}
theorem b47(o:X.Ok):(X.tr pn xe).Ok:=⟨o.mod,o.kind,o.glob,o.blt,o.above,o.inj,o.has,o.cab,o.hd,o.frames,o.stk,o.exf,o.bs,o.bsz,o.noex,o.exfs,o.funs,o.frf,o.tk⟩
theorem ba1(o:(X.tr pn xe).Ok):X.Ok:=⟨o.mod,o.kind,o.glob,o.blt,o.above,o.inj,o.has,o.cab,o.hd,o.frames,o.stk,o.exf,o.bs,o.bsz,o.noex,o.exfs,o.funs,o.frf,o.tk⟩
theorem bo5(I:Inv X ξ σ H s):Inv (X.tr (X.pn++ξ) xe) [] σ H s:=
 ⟨b47 I.ok,I.os,I.bare,I.base,I.loc,I.cell,I.free,I.freeC,λp hp=>I.pin p (by rw[b7] at hp;exact hp),I.hok,I.len⟩
theorem Gi(I:Inv (X.tr (X.pn++ξ) xe) pins' σ H s):Inv X ξ σ H s:=
 ⟨ba1 I.ok,I.os,I.bare,I.base,I.loc,I.cell,I.free,I.freeC,λp hp=>I.pin p (bL _ hp),I.hok,I.len⟩
theorem aq7(F:Ic (X.tr (X.pn++ξ) xe) pins' H a s):Ic X ξ H a s:=by
 obtain⟨C,dx,vs,h1,h2,h3,h4⟩:=F
 refine⟨C,dx,vs,h1,h2,h3,h4.imp id fun⟨T,oT,ts,q1,q2,q3,q4,q5,q6⟩=>⟨T,oT,ts,q1,q2,q3,q4,q5,?_⟩⟩
 obtain⟨r1,r2,r3,r4,r5,r6⟩:=q6
 exact⟨r1,r2,r3,r4,r5,λp hp=>r6 p (bL _ hp)⟩
theorem bf0(h:SP (X.tr (X.pn++ξ) xe) pins' D f s):SP X ξ D f s:=by
 cases f with
 |next=>obtain⟨σ',H',I,q⟩:=h;exact⟨σ',H',Gi I,q⟩
 |brk=>obtain⟨σ',H',I,q⟩:=h;exact⟨σ',H',Gi I,q⟩
 |cont=>obtain⟨σ',H',I,q⟩:=h;exact⟨σ',H',Gi I,q⟩
 |ret u=>obtain⟨v,σ',H',I,r,q⟩:=h;exact⟨v,σ',H',Gi I,r,q⟩
theorem Xi(I:Inv X ξ σ H s):Inv (X.hd a) ξ σ H s:=
 ⟨⟨I.ok.mod,I.ok.kind,I.ok.glob,I.ok.blt,I.ok.above,I.ok.inj,I.ok.has,I.ok.cab,(λz=>by cases z),I.ok.frames,I.ok.stk,I.ok.exf,I.ok.bs,I.ok.bsz,I.ok.noex,I.ok.exfs,I.ok.funs,I.ok.frf,I.ok.tk⟩,I.os,I.bare,I.base,I.loc,I.cell,I.free,I.freeC,I.pin,I.hok,I.len⟩
theorem Ir(o:X.Ok)(I:Inv (X.hd a) ξ σ H s):Inv X ξ σ H s:=⟨o,I.os,I.bare,I.base,I.loc,I.cell,I.free,I.freeC,I.pin,I.hok,I.len⟩
theorem aa3(o:X.Ok)(h:SP (X.hd a) ξ D f s):SP X ξ D f s:=by
 cases f with
 |next=>obtain⟨σ',H',I,q⟩:=h;exact⟨σ',H',Ir o I,q⟩
 |brk=>obtain⟨σ',H',I,q⟩:=h;exact⟨σ',H',Ir o I,q⟩
 |cont=>obtain⟨σ',H',I,q⟩:=h;exact⟨σ',H',Ir o I,q⟩
 |ret u=>obtain⟨v,σ',H',I,r,q⟩:=h;exact⟨v,σ',H',Ir o I,r,q⟩
end
inductive HK where
 |no
 |as (i:Nat)
noncomputable def asD(a:Addr)(u:DS):HK->DS
 |.no=>λD σ H=>u { D with ex:=λ_ _ _=>False } σ H
 |.as i=>λD σ H=>u ⟨λσ' H'=>D.nx (σ'.set i none) H',D.rt,λσ' H'=>D.bk (σ'.set i none) H',λσ' H'=>D.ct (σ'.set i none) H',λ_ _ _=>False⟩ (σ.set i (some (.ref a))) H
noncomputable def Ru(K:ac)(C a:Addr):List (Addr×HK×DS)->Outs->St->Hp->Prop
 |[],_,_,_=>False
 |(T,oi,u)::r,D,σ,H=>∃b,ii K C (.ref T)=some b/\(if b=true then asD a u oi D σ H else Ru K C a r D σ H)
noncomputable def a68(K:ac)(tb:DS)(us:List (Addr×HK×DS)):DS:=λD σ H=>tb { D with ex:=λσ' a H'=>∃C dx,FlO H' a C dx/\ECls K C/\Ru K C a us D σ' H' } σ H
inductive aj8 (X:Cx):Option Str->HK->Prop where
 |no:aj8 X none .no
 |as {n:Str} {i:Nat} (hN:X.N.Nodup) (hi:X.N[i]?=some n) (hl:X.env.scope.names.lookup n=some .local):aj8 X (some n) (.as i)
inductive ac0 (X:Cx):List ExceptHandler->List (Addr×HK×DS)->Prop where
 |nil {hl:List ExceptHandler}:ac0 X hl []
 | cons {x:Str} {p pos:Pos} {nm:Option Str} {oi:HK} {b:Stmt} {suite:List Stmt} {rest:List ExceptHandler} {T:Addr} {u:DS} {us:List (Addr×HK×DS)} (hg:Gl X x) (hm:X.mg x=some (.ref T)) (hd:(x==("__debug__" : Str))=false) (ec:ECls X.K T) (ha:aj8 X nm oi) (hs:∀a,QSs (X.hd a) (b::suite) u) (r:ac0 X rest us) :
   ac0 X (.ExceptHandler (some (.Name x p)) nm (b::suite) pos::rest) ((T,oi,u)::us)
section
theorem G9(I:Inv X ξ σ H s)(hN:X.N.Nodup)(hi:X.N[i]?=some x)(hk:X.env.scope.names.lookup x=some .local)(h:∀s',Inv X ξ (σ.set i none) H s'->Q () s'):aW M A (do bindName X.env x .none;unbindBehindTheSuite X.env x pos) Q E s:=by
 obtain⟨m,hn,hl⟩:=id I.loc
 refine wpAny_nameGoes_keeps hk hn (by rw[I.ok.kind];rfl) λh' v hn' sb=>h _ ?_
 have old:∀ {b o},X.s₀.heap.get? b=some o->h'.get? b=s.heap.get? b:=λ{b o} e=>sb.2 b (aT (aL (aH e) I.ok.above))
 exact {
  ok:=I.ok
  os:=⟨I.os.1,gw I.os.2⟩
  bare:=I.bare
  base:={ I.base with
   keep:=λb o e n hb hx=>by show h'.get? b=_;rw[old e];exact I.base.keep b o e n hb hx
   slot:=λb o e n hb hx=>by show ∃sl,h'.get? b=_;rw[old e];exact I.base.slot b o e n hb hx
   there:=λb o e hx=>by show ∃o',h'.get? b=_;rw[old e];exact I.base.there b o e hx }
  loc:=⟨_,hn',λj y w e1 e2 e3=>by
   have hj:j≠i:=λz=>by
    have lt:i<σ.length:=by rw[I.len];exact (List.getElem?_eq_some_iff.mp hi).1
    rw[z,gn lt] at e2
    cases e2
   rw[g8 (cQ hj)] at e2
   obtain⟨u,r,q⟩:=hl j y w e1 e2 e3
   have ny:y≠x:=λz=>hj (Nd hN e1 (z▸hi))
   refine⟨u,r,q.imp (fun⟨k,e⟩=>⟨k,(if_neg ny).trans e⟩) fun⟨k,c,e,z⟩=>⟨k,c,e,z.sameBut sb (I.cne y c e)⟩⟩⟩
  cell:=λy c e=>let ⟨w,z⟩:=I.cell y c e;⟨w,z.sameBut sb (I.cne y c e)⟩
  free:=I.free
  freeC:=I.freeC
  pin:=λp hp=>let ⟨e,n,ne,nf,d⟩:=I.pin p hp;⟨(sb.2 p.1 ne).trans e,n,ne,nf,d⟩
  hok:=λb ob e=>(I.hok b ob e).stay (λc w hc q=>(sb.2 c (by
   rintro rfl
   have f:=I.free
   rcases hc with rfl|hc
   .rw[f] at e;cases e
   .rw[f] at hc;cases hc)).trans q) (λ_ q=>q) λ_ _ q=>q
  len:=by rw[j6];exact I.len }
theorem ae9(hst:X.stack=X.env::X.outer)(hfr:X.env.frame=some X.env.locals)(mt:Meets X Ex)(K:ac0 X hl us):∀ {σ:St} {H:Hp} {s:aF} {a C:Addr} {dx:Option Addr},Inv X ξ σ H s->Ic X ξ H a s->FlO H a C dx->ECls X.K C->Ru X.K C a us (ba7 Ex D) σ H ->
  aW (model X.prog X.w) X.A (handleBy (.ref a) X.env hl) (SP X ξ D) X.xe s:=by
 induction K with
 |nil=>intro σ H s a C dx I F e ec h;exact h.elim
 |@cons x p pos nm oi b suite rest T u us hg hm hd ecT ha hs r ih=>
  intro σ H s a C dx I F e ec h
  obtain⟨m,hm2,h⟩:=h
  have hx:∃vs:Array Value,s.heap.get? a=some (Bd C dx vs):=by
   obtain⟨vs,z,_⟩:=aq3 I (.inr e)
   exact⟨vs,z⟩
  obtain⟨vs,hx⟩:=hx
  refine wpAny_handleBy_cons (codeAny_handlers_test (E2 (X:=X.hd a) (Xi I) hg hm ?_ hd)) (by intro q;cases q)
  refine Xt (A:=(X.hd a).A) I.kIn ec ecT hx hm2 ?_
  cases m with
  |false=>exact ih I F e ec h
  |true=>
   cases ha with
   |no=>
    refine codeAny_handlers_suite (Qb (A:=(X.hd a).A) I F λs1 I1 F1=>?_)
    exact cW (hs a (λ_ _ _=>False) Iw ξ s1 σ H D (Xi I1) h) (λf s2 q=>aa3 I.ok q) λ_ _ z=>z.elim
   |@as n i hN hi hlo=>
    refine codeAny_handlers_suite_as (Qb (A:=(X.hd a).A) I F λs1 I1 F1=>?_)
    refine Jg (i:=i) (v:=.ref a) I1 hN hi (.inl hlo) rfl (λs2 I2=>?_) (.inr hlo)
    refine cW (hs a (λ_ _ _=>False) Iw ξ s2 (σ.set i (some (.ref a))) H ⟨λσ' H'=>D.nx (σ'.set i none) H',D.rt,λσ' H'=>D.bk (σ'.set i none) H',λσ' H'=>D.ct (σ'.set i none) H'⟩ (Xi I2) h) (λf s3 q=>?_) λ_ _ z=>z.elim
    have q:=aa3 I.ok q
    cases f with
    |next=>obtain⟨σ',H',I',q⟩:=q;exact G9 I' hN hi hlo λs4 I4=>⟨_,H',I4,q⟩
    |brk=>obtain⟨σ',H',I',q⟩:=q;exact G9 I' hN hi hlo λs4 I4=>⟨_,H',I4,q⟩
    |cont=>obtain⟨σ',H',I',q⟩:=q;exact G9 I' hN hi hlo λs4 I4=>⟨_,H',I4,q⟩
    |ret w=>obtain⟨v,σ',H',I',r,q⟩:=q;exact G9 I' hN hi hlo λs4 I4=>⟨v,_,H',I4,r,q⟩
theorem by7(hst:Y.stack=Y.env::Y.outer)(hfr:Y.env.frame=some Y.env.locals)(hb:∀pn xe,iG (model Y.prog Y.w) Y.A Y.env xe->QSs (Y.tr pn xe) body tb)(hh:ac0 Y (h0::hs) us):QS Y (.Try body (h0::hs) [] [] pos) (a68 Y.K tb us):=by
 intro Ex m ξ s σ H D I hw
 refine wpAny_Try_except ?_
 refine cW (hb (Y.pn++ξ) (λe s1=>aW (model Y.prog Y.w) Y.A (lD e Y.env) (λ_ s2=>aW (model Y.prog Y.w) Y.A (kj e none) (λ_ s3=>aW (model Y.prog Y.w) Y.A (handleBy e Y.env (h0::hs)) (SP Y ξ D) Y.xe s3) Y.xe s2) Y.xe s1) PassesOwn.looking
  (λσ' a H'=>∃C dx,FlO H' a C dx/\ECls Y.K C/\Ru Y.K C a us (ba7 Ex D) σ' H') ?_ [] s σ H D (bo5 I) hw) (λf s1 q=>?_) λ_ _ z=>z
 .intro pins' σ' H' s' a I' F' ⟨C,dx,e,ec,h⟩
  exact Zy (Gi I') hst hfr (aq7 F') λs2 I2 F2=>ae9 hst hfr m hh I2 F2.at e ec h
 .have q:=bf0 q
  cases f with
  |next=>exact kq q
  |_=>exact q
end
def J2:Expr->Bool
 |.ListComp _ _ _ _=>false
 |.SetComp _ _ _ _=>false
 |.DictComp _ _ _ _ _=>false
 |_=>true
theorem J3(h:J2 e=true)(t:Option Expr)(l:Nat)(env:Env):jr e t l env=pure false:=by
 cases e with
 |ListComp _ _ _ _=>cases h
 |SetComp _ _ _ _=>cases h
 |DictComp _ _ _ _ _=>cases h
 |_=>rfl
section
variable {X:Cx} {G:Sg} {st:Stmt} {rest:List Stmt} {t u:DS} {e:Expr} {de:DE} {pos p':Pos}
theorem Cg:QS X st De:=λ_ _ _ _ _ _ _ _ h=>h.elim
theorem bd8:QSs X [] Af:=λ_ _=>bc0
theorem ax8(h1:QS X st t)(h2:QSs X rest u):QSs X (st::rest) (Ag t u):=λEx m=>aw7 (h1 Ex m) (h2 Ex m)
theorem bd6:QS X (.Pass pos) Af:=λ_ _=>bb8
theorem by1:QS X (.Break pos) b22:=λ_ _=>aw5
theorem by2:QS X (.Continue pos) b23:=λ_ _=>Vt
theorem by5(h:QE X e de):QS X (.Return (some e) pos) (Ap de):=λEx m=>bv8 (h Ex m)
theorem bd7:QS X (.Return none pos) ap2:=λ_ _=>bb9
theorem bd5(h:QE X e de)(hn:J2 e=true):QS X (.Expr e pos) (Do de):=λEx m=>bb7 (h Ex m) (J3 hn _ _ _)
theorem b90(hc:QT X c tc)(ha:QSs X a t)(hb:QSs X b u):QS X (.If c a b pos) (dIf tc t u):=λEx m=>b84 (hc Ex m) (ha Ex m) (hb Ex m)
theorem ax7(O:GOk X G)(hi:C8 G.N x 0=some i)(hx:Xy G x=true)(h:QE X e de)(hn:jr e (some (.Name x p')) pos.line X.env=pure false):QS X (.Assign [.Name x p'] e pos) (Ao i de):=by
 obtain⟨h1,h2⟩:=Ss O hx
 exact λEx m=>bv9 (by rw[O.N];exact O.nd) (by rw[O.N];exact Fg hi) h1 (h Ex m) hn h2
theorem X5(O:GOk X G)(hi:C8 G.N x 0=some i)(hx:Xy G x=true)(hc:X.calm=true)(hk:Ga G sc=true)(hs:Nb iter=true)(hq:QI X tg iter wi)(hg:∀X',GOk X' (Dn G sc.names)->PG X' tg g)(ht:∀X',GOk X' (Dn G sc.names)->a52 X' ifs tc)(he:∀X',GOk X' (Dn G sc.names)->QE X' elt de) :
  QS X (.Assign [.Name x p'] (.ListComp elt [⟨tg,iter,ifs,0⟩] sc cp) pos) (Ao i (Bj (Gz G sc.names) wi g tc de)):=by
 obtain⟨h1,h2⟩:=Ss O hx
 have sw:jr (.ListComp elt [⟨tg,iter,ifs,0⟩] sc cp) (some (.Name x p')) pos.line X.env=pure (X.env.blockKind==.function&&X.env.kindOf x==some .local&&p'.line==(Expr.ListComp elt [⟨tg,iter,ifs,0⟩] sc cp).pos.line
   && !(sc.names.any λ(n,k)=>n==x&&(k==.local||k==.cell))):=rfl
 cases hb:(X.env.blockKind==.function&&X.env.kindOf x==some .local&&p'.line==(Expr.ListComp elt [⟨tg,iter,ifs,0⟩] sc cp).pos.line
   && !(sc.names.any λ(n,k)=>n==x&&(k==.local||k==.cell))) with
 |false=>
  rw[hb] at sw
  exact ax7 O hi hx (Z4 O hc hk hs hq hg ht he) sw
 |true=>
  rw[hb] at sw
  simp only[ay] at hb
  have hl:X.env.scope.names.lookup x=some .local:=cK hb.1.1.2
  intro Ex m ξ s σ H D I h
  exact ao7 hc (by rw[O.N];exact O.nd) (by rw[O.N];exact Fg hi) hl (Rx O hk) (hq Ex m) (λus Q2 fp C D s2 H2 I2 f2 hC=>
   have M:=M7 (N':=(Dn G sc.names).N) (cl:=Dm X.env.cells sc.names []) (us:=us) (Q2:=Q2) (D:=D) m O.fr I2 f2 hC
   have K:=Zj O hk fp C s2 H2 (B3 X sc (Dm X.env.cells sc.names []) us Q2 D C)
   ⟨hg _ K,ht _ K _ M,he _ K _ M⟩) I h sw (λx=>Nc hs X.env x)
theorem by4(O:GOk X G)(ht:G.top=true)(hc:X.calm=true)(hi:QI X tg iter wi)(hg:PG X tg g)(hb:QSs X body t)(hs:Nb iter=true):QS X (.For tg iter body [] pos) (Ck wi g t):=by
 intro Ex m ξ s σ H D I h
 refine cW (bv7 (O.own ht) hc (hi Ex m) hg (hb Ex m) (λx=>Nc hs X.env x) ξ s σ H { D with nx:=λσ' H'=>Thaw H H' (D.nx σ') } I h) (λf s' q=>?_) λ_ _ z=>z
 cases f with
 |next=>
  obtain⟨σ',H',I',q⟩:=q
  obtain⟨H2,I2,q2⟩:=Thaw.inv I I' q
  exact⟨σ',H2,I2,q2⟩
 |_=>exact q
noncomputable def Cv(K:ac)(e:DE):DS:=λD σ H=>e σ H (ay3 K (D.ex σ)) (D.ex σ)
theorem ax6(O:GOk X G)(hc:X.A.handled=none)(h:QE X e de):QS X (.Raise (some e) none pos) (Cv X.K de):=λEx m=>aw6 m hc (h Ex m)
def au6:Expr->Bool
 |.Tuple _ _ _=>false
 |_=>true
theorem au7(h:au6 e=true)(tg:Expr)(env:Env):swappedStores [tg] e env=pure none:=by
 cases e with
 |Tuple _ _ _=>cases h
 |_=>cases tg <;> rfl
theorem by0(h:QE X e de)(hg:PG X (.Tuple ts kt pt) g)(hn:J2 e=true)(ht:au6 e=true):QS X (.Assign [.Tuple ts kt pt] e pos) (Lc de g):=
 λEx m=>aw4 (h Ex m) hg (show lG [.Tuple ts kt pt] e pos.line X.env=pure false from J3 hn (some (.Tuple ts kt pt)) pos.line X.env) (au7 ht _ _)
noncomputable def Eb(K:ac)(o i:DE):DG:=λv σ H Q=>o σ H (λx H1=>i σ H1 (λy H2=>bi9 x y v H2 (Q σ)) λ_ _=>False) λ_ _=>False
theorem by6(hu:X.A.units+64<cLine)(ho:QE X o do')(hi:QE X i di)(h:QE X e de)(hsl:Ix i=true):QS X (.Assign [.Subscript o i p'] e pos) (Lc de (Eb X.K do' di)):=by
 intro Ex m
 have hg:PG X (.Subscript o i p') (Eb X.K do' di):=bv4 (ho _ Iw) (hi _ Iw) (b98 hu) (by
  intro v
  cases i with
  |Slice _ _ _ _=>cases hsl
  |_=>rfl)
 exact aw4 (h Ex m) hg (show lG [.Subscript o i p'] e pos.line X.env=pure false from by show jr e (some (.Subscript o i p')) pos.line X.env=pure false;cases e <;> rfl) (by cases e <;> rfl)
noncomputable def Ry(K:ac)(f:Str)(o e:DE):DS:=λD σ H=>e σ H (λy H1=>o σ H1 (λx H2=>ay4 K f x y H2 (D.nx σ)) (D.ex σ)) (D.ex σ)
theorem by3(ho:QE X o do')(h:QE X e de):QS X (.Assign [.Attribute o f p'] e pos) (Ry X.K f do' de):=by
 intro Ex m ξ s σ H D I hw
 refine plainObj_wpAny_Assign_Attribute (thn (h Ex m ξ s σ H _ I hw) λu s1 ⟨y,H1,I1,ry,q⟩=>thn (ho Ex m ξ s1 σ H1 _ I1 q) λov s2 ⟨x,H2,I2,rx,q2⟩=>?_) (by cases e <;> rfl)
 exact b97 I2 rx ry q2 λH' s' I' hN=>⟨σ,H',I',hN⟩
end
def cd7:GB->GB
 |.val v u=>.val v u
 |.exc C _=>.val (.ref C) (.ref C)
 |.cls C _=>.val (.ref C) (.ref C)
 |_=>.met "" []
def b04(gb:List (Str×GB)):List (Str×GB):=gb.map λp=>(p.1,cd7 p.2)
def hdG(G:Sg):Sg:={ G with gb:=b04 G.gb,calm:=false }
def U8(gb:List (Str×GB))(x:Str):Option Addr:=match gb.lookup x with
 |some (.exc T _)=>some T
 |_=>none
noncomputable def okH(G:Sg):ExceptHandler->Bool
 | .ExceptHandler (some (.Name x _)) nm (_::_) _=>Mz G x&&(U8 G.gb x).isSome&&(match nm with
  |none=>true
  |some n=>(C8 G.N n 0).isSome&&(G.sc.lookup n==some .local))
 |_=>false
def b46(G:Sg):ExceptHandler->Option Nat
 |.ExceptHandler _ (some n) _ _=>C8 G.N n 0
 |_=>none
def as0(G:Sg)(h:ExceptHandler):HK:=match b46 G h with
 |some i=>.as i
 |none=>.no
def b21(G:Sg):ExceptHandler->Addr
 |.ExceptHandler (some (.Name x _)) _ _ _=>(U8 G.gb x).getD 0
 |_=>0
def b20:ExceptHandler->List Stmt
 |.ExceptHandler _ _ b _=>b
theorem bo0(O:GOk X G)(a:Addr):GOk (X.hd a) (hdG G) where
 K:=O.K
 kind:=O.kind
 own:=λ_=>PassesOwn.never
 N:=O.N
 nd:=O.nd
 sc:=O.sc
 vis:=O.vis
 top:=O.top
 calm:=rfl
 hd:=λz=>by cases z
 units:=O.units
 cel:=O.cel
 gb:=λx g e=>by
  obtain⟨⟨y,g'⟩,hg,z⟩:=List.mem_map.mp (show (x,g)∈G.gb.map λp=>(p.1,cd7 p.2) from e)
  cases z
  have h:=O.gb _ g' hg
  cases g' with
  |val v u=>exact h
  |exc C i=>exact⟨h.1,rfl⟩
  |cls C i=>exact⟨h.1,rfl⟩
  |fn i=>exact λmi hm=>by cases hm
  |met m l=>exact λmi hm=>by cases hm
 bl:=O.bl
 frm:=O.frm
 fr:=O.fr
theorem cd4(F:Ib X i):Ib (X.tr pn xe) i:=⟨F.kp,F.ok,F.room,F.binds,F.vals⟩
theorem bz9(O:GOk X G)(ho:iG (model X.prog X.w) X.A X.env xe):GOk (X.tr pn xe) G where
 K:=O.K
 kind:=O.kind
 own:=λ_=>ho
 N:=O.N
 nd:=O.nd
 sc:=O.sc
 vis:=O.vis
 top:=O.top
 calm:=O.calm
 hd:=O.hd
 units:=O.units
 cel:=O.cel
 gb:=λx g e=>by
  refine GBOk.to (X:=X) ?_ ?_ ?_ ?_ ?_ ?_ (O.gb x g e)
  .rfl
  .rfl
  .rfl
  .rfl
  .exact λ_ r=>r
  .exact λi F=>cd4 F
 bl:=O.bl
 frm:=O.frm
 fr:=O.fr
theorem au9(hh:okH G h=true):∃x p nm b suite pos,h=.ExceptHandler (some (.Name x p)) nm (b::suite) pos/\Mz G x=true/\(U8 G.gb x).isSome=true/\∀n,nm=some n->(C8 G.N n 0).isSome=true/\G.sc.lookup n=some .local:=by
 unfold okH at hh
 split at hh
 .rw[ay,ay] at hh
  refine⟨_,_,_,_,_,_,rfl,hh.1.1,hh.1.2,λn e=>?_⟩
  have h2:=hh.2
  rw[e] at h2
  have h2:((C8 G.N n 0).isSome&&(G.sc.lookup n==some .local))=true:=h2
  rw[ay] at h2
  exact⟨h2.1,cK h2.2⟩
 .cases hh
noncomputable def hsD(G:Sg)(w:List Stmt->DS)(hl:List ExceptHandler):List (Addr×HK×DS):=(hl.takeWhile (okH G)).map λh=>(b21 G h,as0 G h,w (b20 h))
theorem bh6(O:GOk X G)(h:∀a ss,QSs (X.hd a) ss (w ss)):∀hl:List ExceptHandler,ac0 X hl (hsD G w hl)
 |[]=>.nil
 | e0::r=>by
  unfold hsD
  rw[List.takeWhile_cons]
  cases h1:okH G e0 with
  |false=>exact .nil
  |true=>
  obtain⟨x,p,nm,b,suite,pos,rfl,hg,hs,hnm⟩:=au9 h1
  obtain⟨T,hT⟩:=Option.isSome_iff_exists.mp hs
  have hl:∃oi,G.gb.lookup x=some (.exc T oi):=by
   unfold U8 at hT
   split at hT
   .rename_i T' oi e;cases hT;exact⟨oi,e⟩
   .cases hT
  obtain⟨oi,hl⟩:=hl
  obtain⟨m,kp,ec,_⟩:=O.at_ x _ hl
  have e:b21 G (.ExceptHandler (some (.Name x p)) nm (b::suite) pos)=T:=by show (U8 G.gb x).getD 0=T;rw[hT];rfl
  simp only[if_true,aY]
  rw[e]
  have ao:aj8 X nm (as0 G (.ExceptHandler (some (.Name x p)) nm (b::suite) pos)):=by
   unfold as0
   cases nm with
   |none=>exact .no
   |some n=>
    obtain⟨z1,z2⟩:=hnm n rfl
    obtain⟨i,hi⟩:=Option.isSome_iff_exists.mp z1
    show aj8 X (some n) (match C8 G.N n 0 with|some i=>HK.as i|none=>HK.no)
    rw[hi]
    exact .as (by rw[O.N];exact O.nd) (by rw[O.N];exact Fg hi) (by rw[O.sc];exact z2)
  exact .cons (O.gl hg) m (Xl hg).1 ec ao (λa=>h a _) (bh6 O h r)
mutual
noncomputable def wS:Nat->Sg->Stmt->DS
 |0,_,_=>De
 | n+1,G,st=>match st with
  |.Pass _=>Af
  |.Break _=>b22
  |.Continue _=>b23
  |.Return (some e) _=>Ap (wE n G e)
  |.Return none _=>ap2
  |.Expr e _=>if J2 e=true then Do (wE n G e) else De
  |.If c a b _=>dIf (wT n G c) (wSs n G a) (wSs n G b)
  | .Assign [.Name x _] (.ListComp elt [⟨tg,iter,ifs,0⟩] sc _) _=>match C8 G.N x 0 with
   | some i=>if Xy G x=true/\G.calm=true/\Ga G sc=true/\Nb iter=true then
     Ao i (Bj (Gz G sc.names) (wI n G tg iter) (wG n (Dn G sc.names) tg) (match ifs with | []=>Bt | [c]=>wT n (Dn G sc.names) c|_=>tNo) (wE n (Dn G sc.names) elt)) else De
   |none=>De
  | .Assign [.Name x _] e _=>match C8 G.N x 0 with
   |some i=>if Xy G x=true/\J2 e=true then Ao i (wE n G e) else De
   |none=>De
  |.Assign [.Tuple ts kt pt] e _=>if J2 e=true/\au6 e=true then Lc (wE n G e) (wG n G (.Tuple ts kt pt)) else De
  |.Assign [.Attribute o f _] e _=>Ry G.K f (wE n G o) (wE n G e)
  |.Assign [.Subscript o i _] e _=>if Ix i=true then Lc (wE n G e) (Eb G.K (wE n G o) (wE n G i)) else De
  |.Raise (some e) none _=>if G.calm=true then Cv G.K (wE n G e) else De
  |.For tg iter body [] _=>if G.calm=true/\Nb iter=true/\G.top=true then Ck (wI n G tg iter) (wG n G tg) (wSs n G body) else De
  |.Try body (h::hs) [] [] _=>if G.top=true then a68 G.K (wSs n G body) (hsD G (wSs n (hdG G)) (h::hs)) else De
  |_=>De
noncomputable def wSs:Nat->Sg->List Stmt->DS
 |0,_,_=>De
 |_+1,_,[]=>Af
 |n+1,G,s::r=>Ag (wS n G s) (wSs n G r)
end
theorem bj8:∀(n:Nat)(X:Cx)(G:Sg),GOk X G->(∀s,QS X s (wS n G s))/\(∀ss,QSs X ss (wSs n G ss)):=by
 intro n
 induction n with
 |zero=>
  intro X G O
  refine⟨λs=>?_,λs=>?_⟩
  .unfold wS;exact Cg
  .unfold wSs;exact λ_ _ _ _ _ _ _ _ h=>h.elim
 |succ n ih=>
  intro X G O
  obtain⟨hS,hSs⟩:=ih X G O
  obtain⟨hE,hT,hI⟩:=b05 n X G O
  refine⟨λs=>?_,λs=>?_⟩
  .unfold wS
   split
   .exact bd6
   .exact by1
   .exact by2
   .exact by5 (hE _)
   .exact bd7
   .split
    .exact bd5 (hE _) ‹_›
    .exact Cg
   .exact b90 (hT _) (hSs _) (hSs _)
   .split
    .rename_i i e
     split
     .rename_i hh
      obtain⟨h1,h2,h3,h4⟩:=hh
      refine X5 O e h1 (O.calm▸h2) h3 h4 (hI _ _) (λX' O'=>Wq n X' _ O' _) (λX' O'=>?_) (λX' O'=>(b05 n X' _ O').1 _)
      split
      .exact Vu
      .exact Vv ((b05 n X' _ O').2.1 _)
      .exact λ_ _ _ _ _ _ _ _ h=>h.elim
     .exact Cg
    .exact Cg
   .split
    .rename_i i e
     split
     .rename_i hh
      exact ax7 O e hh.1 (hE _) (J3 hh.2 _ _ _)
     .exact Cg
    .exact Cg
   .split
    .rename_i hh
     exact by0 (hE _) (Wq n X G O _) hh.1 hh.2
    .exact Cg
   .rw[<- O.K];exact by3 (hE _) (hE _)
   .split
    .rename_i hh
     rw[<- O.K];exact by6 O.units (hE _) (hE _) (hE _) hh
    .exact Cg
   .split
    .rename_i hcm
     rw[<- O.K];exact ax6 O (O.hd (O.calm▸hcm)) (hE _)
    .exact Cg
   .split
    .rename_i hh
     exact by4 O hh.2.2 (O.calm▸hh.1) (hI _ _) (Wq n X G O _) (hSs _) hh.2.1
    .exact Cg
   .split
    .rename_i hh
     rw[<- O.K]
     exact by7 (O.frm hh).1 (O.frm hh).2 (λpn xe ho=>(ih _ _ (bz9 O ho)).2 _) (bh6 O (λa ss=>(ih _ _ (bo0 O a)).2 ss) _)
    .exact Cg
   .exact Cg
  .cases s with
   |nil=>unfold wSs;exact bd8
   |cons a r=>unfold wSs;exact ax8 (hS a) (hSs r)
section
variable {P:bq} {w:cb} {K:ac} {mg:Str->Option Value} {base:Heap}
structure FnIn (P:bq) (w:cb) (K:ac) (mg:Str->Option Value) (base:Heap) (k:Nat) (x:Str) (i:FI):Prop where
 at_:mg x=some (.ref i.f)
 kp:br K (.ref i.f)=true
 ok:∃CX,(∀X':Cx,X'.prog=P->X'.w=w->Kq CX X')/\FnOk P w K mg base CX i.k i.f i.fd i.ps i.sp
 le:i.k<=k
 binds:∀j,j<=i.dfs.length->Binds K i.fd i.ps (i.ds.drop j)
 vals:Vals i.dfs i.ds
noncomputable def bl6(P:bq)(w:cb)(K:ac)(mg:Str->Option Value)(base:Heap)(k:Nat)(C:Addr):Option FI->Prop
 |none=>bp K (.ref C) "__init__"=some (some (.builtin "ValueError.__init__"))
 | some i=>bp K (.ref C) "__init__"=some (some (.ref i.f))/\dn K (.ref i.f)=true/\br K (.ref i.f)=true/\(∃CX,(∀X':Cx,X'.prog=P->X'.w=w->Kq CX X')/\FnOk P w K mg base CX i.k i.f i.fd i.ps i.sp) /\
   i.k+1<=k/\(∀j,j<=i.dfs.length->Binds K i.fd i.ps (i.ds.drop j))/\Vals i.dfs i.ds
structure ExcIn (P:bq) (w:cb) (K:ac) (mg:Str->Option Value) (base:Heap) (k:Nat) (x:Str) (C:Addr) (oi:Option FI):Prop where
 at_:mg x=some (.ref C)
 kp:br K (.ref C)=true
 cls:ECls K C
 init:bl6 P w K mg base k C oi
structure FiIn (P:bq) (w:cb) (K:ac) (mg:Str->Option Value) (base:Heap) (k:Nat) (i:FI):Prop where
 kp:br K (.ref i.f)=true
 ok:∃CX,(∀X':Cx,X'.prog=P->X'.w=w->Kq CX X')/\FnOk P w K mg base CX i.k i.f i.fd i.ps i.sp
 le:i.k<=k
 binds:∀j,j<=i.dfs.length->Binds K i.fd i.ps (i.ds.drop j)
 vals:Vals i.dfs i.ds
theorem FiIn.mono(F:FiIn P w K mg base k i)(h:k<=k'):FiIn P w K mg base k' i:=⟨F.kp,F.ok,aw F.le h,F.binds,F.vals⟩
noncomputable def ce2(P:bq)(w:cb)(K:ac)(mg:Str->Option Value)(base:Heap)(k:Nat)(C:Addr):Option FI->Prop
 |none=>dJ K C=true/\bp K (.ref C) "__init__"=some (some (.builtin "object.__init__"))
 |some i=>dJ K C=true/\bp K (.ref C) "__init__"=some (some (.ref i.f))/\dn K (.ref i.f)=true/\FiIn P w K mg base k i/\i.k+1<=k
structure ClsIn (P:bq) (w:cb) (K:ac) (mg:Str->Option Value) (base:Heap) (k:Nat) (x:Str) (C:Addr) (oi:Option FI):Prop where
 at_:mg x=some (.ref C)
 kp:br K (.ref C)=true
 made:ce2 P w K mg base k C oi
theorem ClsIn.mono(F:ClsIn P w K mg base k x C oi)(h:k<=k'):ClsIn P w K mg base k' x C oi:=by
 refine⟨F.at_,F.kp,?_⟩
 cases oi with
 |none=>exact F.made
 |some i=>obtain⟨a,b,c,d,e⟩:=F.made;exact⟨a,b,c,d.mono h,aw e h⟩
structure MetIn (P:bq) (w:cb) (K:ac) (mg:Str->Option Value) (base:Heap) (k:Nat) (m:Str) (mi:MI):Prop where
 cls:Cls K mi.C
 at_:Uj K mi.C m mi.i.f
 fi:FiIn P w K mg base k mi.i
theorem MetIn.mono(F:MetIn P w K mg base k m mi)(h:k<=k'):MetIn P w K mg base k' m mi:=⟨F.cls,F.at_,F.fi.mono h⟩
theorem ExcIn.mono(F:ExcIn P w K mg base k x C oi)(h:k<=k'):ExcIn P w K mg base k' x C oi:=by
 refine⟨F.at_,F.kp,F.cls,?_⟩
 cases oi with
 |none=>exact F.init
 |some i=>obtain⟨a,b,c,d,e,f⟩:=F.init;exact⟨a,b,c,d,aw e h,f⟩
noncomputable def GBIn(P:bq)(w:cb)(K:ac)(mg:Str->Option Value)(base:Heap)(k:Nat)(x:Str):GB->Prop
 |.fn i=>FnIn P w K mg base k x i
 |.val v u=>mg x=some u/\RelV v u
 |.exc C oi=>ExcIn P w K mg base k x C oi
 |.cls C oi=>ClsIn P w K mg base k x C oi
 |.met m l=>∀mi∈l,MetIn P w K mg base k m mi
structure Tab (P:bq) (w:cb) (K:ac) (mg:Str->Option Value) (base:Heap) (k:Nat) (gb:List (Str×GB)) (bl:List Str):Prop where
 all:∀x g,(x,g)∈gb->GBIn P w K mg base k x g
 bl:∀x∈bl,mg x=none
theorem FnIn.mono(F:FnIn P w K mg base k x i)(h:k<=k'):FnIn P w K mg base k' x i:=⟨F.at_,F.kp,F.ok,aw F.le h,F.binds,F.vals⟩
theorem GBIn.mono(F:GBIn P w K mg base k x g)(h:k<=k'):GBIn P w K mg base k' x g:=by
 cases g with
 |fn i=>exact FnIn.mono F h
 |val v u=>exact F
 |exc C oi=>exact ExcIn.mono F h
 |cls C oi=>exact ClsIn.mono F h
 |met m l=>exact λmi hm=>(F mi hm).mono h
theorem Tab.mono {k k':Nat}{gb:List (Str×GB)}{bl:List Str}(T:Tab P w K mg base k gb bl)(h:k<=k'):Tab P w K mg base k' gb bl:=⟨λx g hx=>(T.all x g hx).mono h,T.bl⟩
theorem Tab.put {k:Nat}{gb:List (Str×GB)}{bl:List Str}{x:Str}{g:GB}(T:Tab P w K mg base k gb bl)(F:GBIn P w K mg base k x g):Tab P w K mg base k ((x,g)::gb) bl:=
 ⟨λy j hy=>by
  rcases List.mem_cons.mp hy with e|e
  .cases e;exact F
  .exact T.all y j e,T.bl⟩
theorem Tab.cons {k:Nat}{gb:List (Str×GB)}{bl:List Str}{x:Str}{i:FI}(T:Tab P w K mg base k gb bl)(F:FnIn P w K mg base k x i):Tab P w K mg base k ((x,.fn i)::gb) bl:=T.put F
theorem GBIn.there(F:GBIn X.prog X.w X.K X.mg X.base k x g)(hr:Room k X.A):GBOk X x g:=by
 cases g with
 |fn i=>exact⟨F.at_,F.kp,F.ok,hr.mono F.le,F.binds,F.vals⟩
 |val v u=>exact F
 |exc C oi=>
  refine⟨F.at_,F.kp,F.cls,?_⟩
  cases oi with
  |none=>exact F.init
  |some i=>obtain⟨a,b,c,d,e,f,g⟩:=F.init;exact⟨a,b,⟨c,d,hr.mono (by omega),f,g⟩,hr.mono e⟩
 |cls C oi=>
  refine⟨F.at_,F.kp,?_⟩
  cases oi with
  |none=>exact F.made
  |some i=>obtain⟨a,b,c,d,e⟩:=F.made;exact⟨a,b,c,⟨d.kp,d.ok,hr.mono d.le,d.binds,d.vals⟩,hr.mono e⟩
 |met m l=>exact λmi hm=>⟨(F mi hm).cls,(F mi hm).at_,⟨(F mi hm).fi.kp,(F mi hm).fi.ok,hr.mono (F mi hm).fi.le,(F mi hm).fi.binds,(F mi hm).fi.vals⟩⟩
theorem Er(X:Cx):Kq CX0 X:=λ_ _ _ _ _ _ _ _ _ h=>h.elim
noncomputable def Mp(K:ac)(N:List Str)(sc:Scope)(gb:List (Str×GB))(bl:List Str):Sg:=⟨K,N,sc.names,gb,bl,true,true⟩
def Rh(N:List Str)(sc:Scope):Bool:=N.all λx=>(sc.names.lookup x==some .local)||(sc.names.lookup x==some .cell)
def Ju(Q:VK)(E:EK):Outs:=⟨λ_ H'=>Q .non H',Q,λ_ _=>False,λ_ _=>False,λ_=>E⟩
structure FunD (K:ac) (x qual:Str) (st:Stmt) (f:Addr) (fd:bB) (dV:Value):Prop where
 ex:∃(oc:Value)(od:Option Addr)(kV doc pm:Value)(an:Option Addr)(θ ct:Value)(osl:Array (Option Value)),
  fd=cL x qual (Cs st) (Bb st) (Am st) dV kV doc pm an θ ct/\K.lookup f=some ⟨oc,od,.func fd,osl⟩/\dS K θ qual=true
 kp:br K (.ref f)=true
theorem Fun.toD {x qual:Str}{st:Stmt}{f:Addr}{fd:bB}(F:Fun K x qual st f fd):FunD K x qual st f fd .none:=⟨F.ex,F.kp⟩
theorem a82 {x qual:Str}{st:Stmt}{f:Addr}{oc:Value}{od an:Option Addr}{osl:Array (Option Value)}{dV kV doc pm θ ct:Value}(l:K.lookup f=some ⟨oc,od,.func (cL x qual (Cs st) (Bb st) (Am st) dV kV doc pm an θ ct),osl⟩)(c:dS K θ qual=true)(k:br K (.ref f)=true):FunD K x qual st f (cL x qual (Cs st) (Bb st) (Am st) dV kV doc pm an θ ct) dV:=⟨⟨oc,od,kV,doc,pm,an,θ,ct,osl,rfl,l,c⟩,k⟩
theorem FunD.ok {x qual:Str}{st:Stmt}{f:Addr}{fd:bB}{dV:Value}{N ps:List Str}{k:Nat}{sp:Sp}(F:FunD K x qual st f fd dV)(S:Ec N ps (Am st))(len:∀vs H Q E,sp vs H Q E->vs.length=ps.length)(hbody:∀(θ:Value)(A:cj)(outer:List Env)(s:aF)(H:Hp)(vs:List V)(Q:VK)(E:XK),Room k (A.deeper (l9 qual (Am st) s.heap.objs.size f θ))->sp vs H Q E ->
   ∃t,PSs (Mo CX0 P w K mg base N qual (Am st) f θ A outer s H E).nox (Bb st) t/\t { nx:=λ_ H'=>Q .non H',rt:=Q } (start N vs) H):FnOk P w K mg base CX0 (k+1) f fd ps sp:=by
 obtain⟨oc,od,kV,doc,pm,an,θ,ct,osl,rfl,lk,hcd⟩:=F.ex
 refine bh5 lk hcd S len λA outer s H vs Q E hr hsp=>?_
 obtain⟨t,h,q⟩:=hbody θ A outer s H vs Q E hr hsp
 exact⟨t,h.nox,q⟩
theorem Ww(hd:fd.defaults=.ref T)(ho:K.lookup T=some o)(hs:o.data=.seq ψ n)(h:∀us:List Value,(us++ds).length=ps.length -> ∃k:Option (Array Value)->Sem (List (Str×Value)),kz fd ⟨us,[]⟩=mq fd.defaults >>= k/\k (some ψ)=pure (ps.zip (us++ds))):Binds K fd ps ds:=λs us X hl=>by
 obtain⟨k,h1,h2⟩:=h us hl
 exact PySem.W.binds_K X hd ho hs h1 h2
theorem FunD.okW0 {x qual:Str}{st:Stmt}{f:Addr}{fd:bB}{N ps:List Str}{k n:Nat}{sp:Sp}{gb:List (Str×GB)}{bl:List Str}{t:DS}{dV:Value}(F:FunD K x qual st f fd dV)(S:Ec N ps (Am st))(hv:Rh N (Am st)=true)(T:Tab P w K mg base k gb bl)(rd:wSs n (Mp K N (Am st) gb bl) (Bb st)=t)(len:∀vs H Q E,sp vs H Q E->vs.length=ps.length)(hbody:∀(vs:List V)(H:Hp)(Q:VK)(E:XK),sp vs H Q E->t (Ju Q λ_ _=>False) (start N vs) H):FnOk P w K mg base CX0 (k+1) f fd ps sp:=by
 refine F.ok S len λθ A outer s H vs Q E hr h=>?_
 have O:GOk (Mo CX0 P w K mg base N qual (Am st) f θ A outer s H E).nox (Mp K N (Am st) gb bl):=by
  refine⟨rfl,S.kind,(λ_=>PassesOwn.never),rfl,S.nd,λx=>rfl,λx hx=>?_,λ_ _=>rfl,rfl,(λ_=>hr.hd),hr.units,λx hx=>?_,λx g e=>?_,λx hx=>?_,(λ_=>⟨rfl,rfl⟩),⟨_,_,_,rfl,rfl,rfl⟩⟩
  .have:=List.all_eq_true.mp hv x hx
   rw[dY] at this
   exact this.elim (λz=>.inl (cK z)) λz=>.inr (.inl (cK z))
  .rcases hx with hx|hx
   .exact Ij hx
   .exact absurd rfl (S.nofree _ (cv hx))
  .exact (T.all x g e).there hr
  .exact T.bl x (by have hx':bl.contains x=true:=hx;simpa using hx')
 refine⟨_,(bj8 n _ _ O).2 (Bb st) (λ_ _ _=>False) (λ_ _ _ _ _ _ _ h=>h.elim),?_⟩
 rw[rd]
 exact hbody vs H Q E h
end
theorem Same.upd(h:H a=none):Same H (upd H a o):=λb u e=>by rw[Ai (Aj e h)];exact e
theorem Same.set(s:Same H H')(h:H a=none):Same H (L2.upd H' a o):=λb u e=>by rw[Ai (Aj e h)];exact s b u e
theorem Same.seqT {K:ac}{H H':Hp}{a:Addr}{xs:List V}(e:Same H H')(h:SqT K H a xs):SqT K H' a xs:=by
 rcases h with (h|⟨o,h⟩)|h
 .exact .inl (.inl (e _ _ h))
 .exact .inl (.inr ⟨o,e _ _ h⟩)
 .exact .inr h
structure E5 (J:It) (χ:List V) (ok:Hp->Prop):Prop where
 go:∀i H,ok H->i<χ.length->J.go i H
 stop:∀H,ok H->J.stop χ.length H
 yld:∀i H x H',ok H->i<χ.length->J.yld i H x H'->H'=H/\χ[i]?=some x
structure Lg (J:It) (χ:List (V×V)) (ok:Hp->Prop):Prop where
 go:∀i H,ok H->i<χ.length->J.go i H
 stop:∀H,ok H->J.stop χ.length H
 yld:∀i H v H',ok H->i<χ.length->J.yld i H v H' -> ∃T x y,H T=none/\v=.ref T/\χ[i]?=some (x,y)/\H'=upd H T (.tup [x,y])
def Gq(z:Str):List V:=z.cps.toList.map λc=>V.str ⟨#[c]⟩
theorem b07(z:Str):E5 (Its z) (Gq z) (λ_=>True):=by
 have e:(Gq z).length=z.cps.size:=by unfold Gq;simp
 refine⟨λi H _ h=>?_,λH _=>?_,λi H x H' _ _ h=>?_⟩
 .show i<z.cps.size;omega
 .show (Gq z).length=z.cps.size;exact e
 .obtain⟨h1,c,h2,h3⟩:=h
  refine⟨h1,?_⟩
  unfold Gq
  rw[aj,gJ,h2,h3]
  rfl
theorem Aq {K:ac}{a:Addr}(xs:List V):E5 (Itl K a) xs (λH=>SqL K H a xs):=by
 refine⟨λi H q h=>⟨xs,xs[i],q,by simp[h]⟩,λH q=>⟨xs,q,ak _⟩,λi H x H' q _ h=>?_⟩
 obtain⟨h1,h2⟩:=h
 exact⟨h1,h2 xs q⟩
theorem a33 {K:ac}{a:Addr}(xs:List V):E5 (Itt K a) xs (λH=>SqT K H a xs):=by
 refine⟨λi H q h=>⟨xs,xs[i],q,by simp[h]⟩,λH q=>⟨xs,q,ak _⟩,λi H x H' q _ h=>?_⟩
 obtain⟨h1,h2⟩:=h
 exact⟨h1,h2 xs q⟩
def Vz(lo:Int)(n:Nat):List V:=(aD n).map λ(i:Nat)=>V.int (lo+(i:Int))
theorem Bh(lo:Int)(n:Nat):(Vz lo n).length=n:=by unfold Vz;simp
theorem Nm {lo:Int}{n i:Nat}(h:i<n):(Vz lo n)[i]?=some (.int (lo+(i:Int))):=by unfold Vz;simp[h]
theorem Bz(lo:Int)(n:Nat):E5 (Itr lo n) (Vz lo n) (λ_=>True):=by
 refine⟨λi H _ h=>?_,λH _=>?_,λi H x H' _ hi h=>?_⟩
 .rw[Bh] at h;exact h
 .show n<=(Vz lo n).length;rw[Bh];exact ak _
 .obtain⟨h1,h2⟩:=h
  rw[Bh] at hi
  exact⟨h1,by rw[Nm hi,h2]⟩
def Fb:Nat->List V->List (V×V)
 |_,[]=>[]
 |k,x::r=>(.int k,x)::Fb (k+1) r
theorem Cj:∀(k:Nat)(xs:List V),(Fb k xs).length=xs.length
 |_,[]=>rfl
 |k,_::r=>by rw[Fb,aN,aN,Cj (k+1) r]
theorem Dr:∀ {k i:Nat} {xs:List V} {x:V},xs[i]?=some x->(Fb k xs)[i]?=some (.int ((k+i:Nat):Int),x)
 |_,_,[],_,h=>by simp at h
 | k,0,y::r,x,h=>by
  simp only[dA,jj] at h
  subst h
  rfl
 | k,i+1,y::r,x,h=>by
  rw[cu] at h
  rw[Fb,cu,Dr h]
  congr 4
  omega
theorem Ui {K:ac}{a:Addr}(xs:List V):Lg (Ite K a) (Fb 0 xs) (λH=>SqL K H a xs):=by
 have e:=Cj 0 xs
 refine⟨λi H q h=>⟨xs,xs[i]'(by omega),q,by simp⟩,λH q=>⟨xs,q,by omega⟩,λi H v H' q _ h=>?_⟩
 obtain⟨T,x,hT,h1,h2,h4⟩:=h
 refine⟨T,.int i,x,hT,h1,?_,h4⟩
 have:=Dr (k:=0) (h2 xs q)
 rw[cT] at this
 exact this
section
theorem Ba(Y:E5 J χ ok)(Pv:Nat->St->Hp->Prop)(h0:Pv 0 σ H)(hok:∀i σ H,i<=χ.length->Pv i σ H->ok H)(hs:∀i x σ H,χ[i]?=some x->Pv i σ H->g x σ H λσ2 H2=>tb (D.lp (Pv (i+1))) σ2 H2)(hd:∀ σ H,Pv χ.length σ H->D.nx σ H):Mb J g tb D σ H:=by
 refine⟨λi m σ H=>m=χ.length - i/\i<=χ.length/\Pv i σ H,⟨χ.length,by simp,bZ _,h0⟩,?_⟩
 rintro i m σ H ⟨rfl,hi,p⟩
 by_cases hlt:i<χ.length
 .refine .inr ⟨Y.go i H (hok i σ H hi p) hlt,Pv (i+1),λσ' H' p'=>⟨χ.length - (i+1),by omega,rfl,hlt,p'⟩,λx H' y=>?_⟩
  obtain⟨e,y2⟩:=Y.yld i H x H' (hok i σ H hi p) hlt y
  subst e
  exact hs i x σ _ y2 p
 .have e:i=χ.length:=by omega
  subst e
  exact .inl ⟨Y.stop H (hok _ σ H hi p),hd σ H p⟩
theorem R7 {χ:List (V×V)}(Y:Lg J χ ok)(Pv:Nat->St->Hp->Prop)(h0:Pv 0 σ H)(hok:∀i σ H,i<=χ.length->Pv i σ H->ok H)(hs:∀i x y T σ H,χ[i]?=some (x,y)->H T=none->Pv i σ H->g (.ref T) σ (upd H T (.tup [x,y])) λσ2 H2=>tb (D.lp (Pv (i+1))) σ2 H2)(hd:∀ σ H,Pv χ.length σ H->D.nx σ H):Mb J g tb D σ H:=by
 refine⟨λi m σ H=>m=χ.length - i/\i<=χ.length/\Pv i σ H,⟨χ.length,by simp,bZ _,h0⟩,?_⟩
 rintro i m σ H ⟨rfl,hi,p⟩
 by_cases hlt:i<χ.length
 .refine .inr ⟨Y.go i H (hok i σ H hi p) hlt,Pv (i+1),λσ' H' p'=>⟨χ.length - (i+1),by omega,rfl,hlt,p'⟩,λx H' y=>?_⟩
  obtain⟨T,u,v,hT,e1,e2,e3⟩:=Y.yld i H x H' (hok i σ H hi p) hlt y
  subst e1 e3
  exact hs i u v T σ _ e2 hT p
 .have e:i=χ.length:=by omega
  subst e
  exact .inl ⟨Y.stop H (hok _ σ H hi p),hd σ H p⟩
theorem B0(Y:E5 J χ ok)(Pv:Nat->St->Hp->Prop)(h0:Pv 0 σ H)(hok:∀i σ H,i<=χ.length->Pv i σ H->ok H)(hs:∀i x σ H,χ[i]?=some x->Pv i σ H->g x σ H λσ3 H3=>tc σ3 H3 (λb H4=>if b=true then te σ3 H4 (λv H5=>∃ys,H5 L=some (.lst ys)/\ys.length<sizeLine/\Pv (i+1) σ3 (upd H5 L (.lst (ys++[v])))) E else Pv (i+1) σ3 H4) E)(hd:∀ σ H,Pv χ.length σ H->R H):Fa J g tc te L R σ H E:=by
 refine⟨λi m σ H=>m=χ.length - i/\i<=χ.length/\Pv i σ H,⟨χ.length,by simp,bZ _,h0⟩,?_⟩
 rintro i m σ H ⟨rfl,hi,p⟩
 by_cases hlt:i<χ.length
 .refine .inr ⟨Y.go i H (hok i σ H hi p) hlt,Pv (i+1),λσ' H' p'=>⟨χ.length - (i+1),by omega,rfl,hlt,p'⟩,λx H' y=>?_⟩
  obtain⟨e,y2⟩:=Y.yld i H x H' (hok i σ H hi p) hlt y
  subst e
  exact hs i x σ _ y2 p
 .have e:i=χ.length:=by omega
  subst e
  exact .inl ⟨Y.stop H (hok _ σ H hi p),hd σ H p⟩
theorem a67 {χ:List (V×V)}(Y:Lg J χ ok)(Pv:Nat->St->Hp->Prop)(h0:Pv 0 σ H)(hok:∀i σ H,i<=χ.length->Pv i σ H->ok H)(hs:∀i x y T σ H,χ[i]?=some (x,y)->H T=none->Pv i σ H->g (.ref T) σ (upd H T (.tup [x,y])) λσ3 H3=>tc σ3 H3 (λb H4=>if b=true then te σ3 H4 (λv H5=>∃ys,H5 L=some (.lst ys)/\ys.length<sizeLine/\Pv (i+1) σ3 (upd H5 L (.lst (ys++[v])))) E else Pv (i+1) σ3 H4) E)(hd:∀ σ H,Pv χ.length σ H->R H):Fa J g tc te L R σ H E:=by
 refine⟨λi m σ H=>m=χ.length - i/\i<=χ.length/\Pv i σ H,⟨χ.length,by simp,bZ _,h0⟩,?_⟩
 rintro i m σ H ⟨rfl,hi,p⟩
 by_cases hlt:i<χ.length
 .refine .inr ⟨Y.go i H (hok i σ H hi p) hlt,Pv (i+1),λσ' H' p'=>⟨χ.length - (i+1),by omega,rfl,hlt,p'⟩,λx H' y=>?_⟩
  obtain⟨T,u,v,hT,e1,e2,e3⟩:=Y.yld i H x H' (hok i σ H hi p) hlt y
  subst e1 e3
  exact hs i u v T σ _ e2 hT p
 .have e:i=χ.length:=by omega
  subst e
  exact .inl ⟨Y.stop H (hok _ σ H hi p),hd σ H p⟩
theorem Fx {α β:Type}{χ:List α}{i:Nat}{x:α}(h:χ[i]?=some x)(p:α->Bool)(f:α->β):((χ.take (i+1)).filter p).map f=((χ.take i).filter p).map f++(if p x=true then [f x] else []):=by
 rw[bF,h]
 simp only[cq,k9,au]
 congr 1
 cases e:p x <;> simp[e]
theorem Rv(Y:E5 J χ ok)(Sg:St->Prop)(p:V->Bool)(f:V->V)(h0:H L=none)(hok:∀H1,Same H H1->ok H1)(hn:χ.length<sizeLine)(hσ:Sg σ)(hs:∀x σ H1,x∈χ->Sg σ->Same H H1 -> ∀(Fin:V->St->Hp->Prop)(Skip:St->Hp->Prop),(∀v σ3 H5,Sg σ3->Same H1 H5->p x=true->v=f x->Fin v σ3 H5)->(∀ σ3 H4,Sg σ3->Same H1 H4->p x=false->Skip σ3 H4) ->
   g x σ H1 λσ3 H3=>tc σ3 H3 (λb H4=>if b=true then te σ3 H4 (λv H5=>Fin v σ3 H5) E else Skip σ3 H4) E)(hd:∀H',Same H H'->H' L=some (.lst ((χ.filter p).map f))->R H'):Fa J g tc te L R σ (upd H L (.lst [])) E:=by
 refine B0 Y (λi σ' H'=>Sg σ'/\Same H H'/\H' L=some (.lst (((χ.take i).filter p).map f))) ⟨hσ,Same.upd h0,Ac⟩ (λi σ' H' _ q=>hok H' q.2.1) ?_ ?_
 .rintro i x σ' H' hx ⟨q1,q2,q3⟩
  have hi:i<χ.length:=(List.getElem?_eq_some_iff.mp hx).1
  refine hs x σ' H' (ag hx) q1 q2 (λv σ3 H5=>∃ys,H5 L=some (.lst ys)/\ys.length<sizeLine/\Sg σ3/\Same H (upd H5 L (.lst (ys++[v])))/\upd H5 L (.lst (ys++[v])) L=some (.lst (((χ.take (i+1)).filter p).map f)))
   (λσ3 H4=>Sg σ3/\Same H H4/\H4 L=some (.lst (((χ.take (i+1)).filter p).map f))) (λv σ3 H5 s1 s2 hp hv=>?_) (λσ3 H4 s1 s2 hp=>?_)
  .refine⟨_,s2 _ _ q3,?_,s1,(q2.trans s2).set h0,?_⟩
   .rw[ae]
    have h1:=j4 p (χ.take i)
    have h2:(χ.take i).length<=i:=by rw[aJ];omega
    omega
   .rw[Ac,Fx hx,if_pos hp,hv]
  .refine⟨s1,q2.trans s2,?_⟩
   rw[s2 _ _ q3,Fx hx,if_neg (by rw[hp];exact av),b7]
 .rintro σ' H' ⟨_,q2,q3⟩
  rw[aO] at q3
  exact hd H' q2 q3
end
section
variable {K:ac} {H H':Hp}
theorem Same.seqL(e:Same H H')(h:SqL K H a xs):SqL K H' a xs:=by
 rcases h with (h|⟨o,h⟩)|h
 .exact .inl (.inl (e _ _ h))
 .exact .inl (.inr ⟨o,e _ _ h⟩)
 .exact .inr h
theorem Rm:AtL K H [] []:=by unfold AtL;rfl
theorem Ih(h:At K H d x)(t:AtL K H ds xs):AtL K H (d::ds) (x::xs):=by unfold AtL;exact⟨x,xs,rfl,h,t⟩
def Ka(z:Str):Dt:=.at_ (.str z)
theorem Zd:At K H (Ka z) (.str z):=by unfold Ka At;exact⟨rfl,rfl⟩
theorem Ur:∀ {r:List Str},AtL K H (r.map Ka) (r.map V.str)
 |[]=>Rm
 |_::_=>Ih Zd Ur
theorem a58 {a:Addr}{r:List Str}(h:SqT K H a (r.map V.str)):At K H (.tup (r.map Ka)) (.ref a):=by unfold At;exact⟨a,_,rfl,h,Ur⟩
theorem bm3(h:SqT K H a xs)(g:AtL K H ds xs):At K H (.tup ds) (.ref a):=by unfold At;exact⟨a,xs,rfl,h,g⟩
theorem Wv(h:SqL K H a xs)(g:AtL K H ds xs):At K H (.lst ds) (.ref a):=by unfold At;exact⟨a,xs,rfl,h,g⟩
theorem a56(f:Bv v=true):At K H (.at_ v) v:=by unfold At;exact⟨rfl,f⟩
end
theorem U3(a b:Str):deq (Ka a) (Ka b)=decide (a=b):=by
 unfold Ka deq
 show (a==b)=_
 rw[cR]
theorem Gf {α:Type} [DecidableEq α]{f:α->Dt}(h:∀a b,deq (f a) (f b)=decide (a=b)):∀(l l':List α),D4 (l.map f) (l'.map f)=decide (l=l')
 |[],[]=>by unfold fw D4;rfl
 |[],_::_=>by unfold fw D4;rfl
 |_::_,[]=>by unfold fw D4;rfl
 | a::l,b::l'=>by
  rw[aY,aY]
  unfold D4
  rw[h,Gf h l l',bu,ay,decide_eq_true_iff,decide_eq_true_iff,decide_eq_true_iff,List.cons.injEq]
theorem Gd {α:Type}{f:α->Dt}{n:Nat}(h:∀a,dep (f a)<=n):∀(l:List α),Fj (l.map f)<=n
 |[]=>by unfold fw Fj;exact bZ _
 | a::l=>by
  rw[aY]
  unfold Fj
  exact Nat.max_le.mpr ⟨h a,Gd h l⟩
theorem U2(z:Str):dep (Ka z)<=0:=by unfold Ka dep;exact ak _
section
variable {K:ac} {H H':Hp}
theorem an3(Y:E5 J χ ok)(Sg:St->Prop)(hD:H D=none)(hok:∀H1,Same H H1->ok H1)(hn:χ.length<sizeLine)(hσ:Sg σ)(hS:∀ σ x,Sg σ->Sg (σ.set 0 (some x)))(he:∀x σ H1 Q1,x∈χ->Sg σ->Same H H1->(∀H2,Same H1 H2->Q1 (.bl true) H2)->te (σ.set 0 (some x)) H1 Q1 E)(k:∀H',Same H H'->SqL K H' D ((χ.map λ_=>true).map V.bl)->R H') :
  Fa J (gdN 0) Bt te D R σ (upd H D (.lst [])) E:=by
 refine Rv Y Sg (λ_=>true) (λ_=>.bl true) hD hok hn hσ ?_ ?_
 .intro x σ H1 hx hs S Fin Skip hF hK
  exact he x σ H1 _ hx hs S λH2 S2=>hF _ _ _ (hS _ _ hs) S2 rfl rfl
 .intro H' S hD'
  exact k H' S (SqL.of (hD'.trans (by rw[List.filter_eq_self.mpr (λ_ _=>rfl),a_];rfl)))
theorem Zc(χ:List V):((χ.map λ_=>true).all λb=>b)=true:=by rw[d9,aR];exact λ_ _=>rfl
end
end L2
namespace L2
open PySem PySem.Spec PySem.W
structure XC (K:ac) (C:Addr) (bm:List Value):Prop where
 lk:∃nm q N bs sn sub ab col dd k0 k1 k2 k3 k5,K.lookup C=some (gB nm q C N bs bm true sn sub ab col dd k0 k1 k2 k3 k5 "ValueError.__new__")
 ty:typeIn K (.ref C)=some (.type "type")
 sa:findIn K (.ref C) "__setattr__"=some (some (.builtin "object.__setattr__"))
 ga:findIn K (.ref C) "__getattribute__"=some (some (.builtin "BaseException.__getattribute__"))
 gt:findIn K (.ref C) "__getattr__"=some none
 ca:findIn K (.ref C) "__class__"=some (some (.builtin "object.__class__"))
 hn:specialIn K (.builtin "object.__class__") "__get__"=some (some (.builtin "getset_descriptor.__get__"))
 htk:takesIn K (.builtin "object.__class__")=some true
theorem xc_mk {K:ac}{C N:Addr}{bm bs:List Value}{nm q:Str}{sn:List Str}{sub:List Value}{ab:Bool}{col:Option Bool}{dd:Option Addr}{k0 k1 k2 k3 k5:Option Value}(lk:K.lookup C=some (gB nm q C N bs bm true sn sub ab col dd k0 k1 k2 k3 k5 "ValueError.__new__"))(ty:typeIn K (.ref C)=some (.type "type"))(sa:findIn K (.ref C) "__setattr__"=some (some (.builtin "object.__setattr__")))(ga:findIn K (.ref C) "__getattribute__"=some (some (.builtin "BaseException.__getattribute__")))(gt:findIn K (.ref C) "__getattr__"=some none)(ca:findIn K (.ref C) "__class__"=some (some (.builtin "object.__class__")))(hn:specialIn K (.builtin "object.__class__") "__get__"=some (some (.builtin "getset_descriptor.__get__")))(htk:takesIn K (.builtin "object.__class__")=some true):XC K C bm:=⟨⟨_,_,_,_,_,_,_,_,_,_,_,_,_,_,lk⟩,ty,sa,ga,gt,ca,hn,htk⟩
theorem XC.ecls(x:XC K C bm)(h:Br bm=true):ECls K C:=by
 obtain⟨nm,q,N,bs,sn,sub,ab,col,dd,k0,k1,k2,k3,k5,lk⟩:=x.lk
 exact⟨⟨_,_,_,_,bm,true,_,_,_,_,_,_,_,_,_,_,lk,h,rfl⟩,x.sa,x.ga,x.gt,x.ca,x.hn,x.htk⟩
theorem XC.cls(x:XC K C bm):∃cd,mM K C=some cd/\cd.mro=.ref C::bm:=by
 obtain⟨nm,q,N,bs,sn,sub,ab,col,dd,k0,k1,k2,k3,k5,lk⟩:=x.lk
 exact⟨_,by unfold mM;rw[lk],rfl⟩
theorem XC.kit(x:XC K C bm)(y:XC K D bd)(h:(bh C::bm).contains (.ref D)=b):kitOne K (.ref C) (.ref D)=some b:=by
 obtain⟨cd,h1,h2⟩:=x.cls
 obtain⟨cd',h3,_⟩:=y.cls
 unfold kitOne
 by_cases e:(bh C==bh D)=true
 .rw[if_pos e]
  have e':bh D=bh C:=(cK e).symm
  rw[<- h,bX,e']
  simp
 .rw[if_neg e]
  unfold kitCls
  dsimp only
  rw[h3,y.ty,if_pos (by rfl)]
  show mroIn K C (.ref D)=_
  unfold mroIn
  rw[h1,fA,h2,h]
  rfl
theorem XC.kitV(x:XC K C bm)(h:Br bm=true):kitOne K (.ref C) (.type "ValueError")=some true:=by
 unfold kitOne
 rw[if_neg (by intro z;cases z)]
 unfold kitCls
 dsimp only
 rw[if_pos (by decide +kernel)]
 exact (x.ecls h).sub (by decide +kernel)
theorem Kt(m:Nat)(hd:fd.defaults=.ref T)(ho:K.lookup T=some o)(hs:o.data=.seq ψ n)(hm:m+ds.length=ps.length)(h:∀us:List Value,us.length=m -> ∃k:Option (Array Value)->Sem (List (Str×Value)),kz fd ⟨us,[]⟩=mq fd.defaults >>= k/\k (some ψ)=pure (ps.zip (us++ds))):Binds K fd ps ds:=
 Ww hd ho hs λus hl=>h us (by rw[aP] at hl;omega)
end L2
namespace L2
open PySem PySem.Spec PyProof.Rows
open Sem (wp)
section
theorem Vq(X:Cx):Kq (CXE X.prog X.w) X:=by
 intro Ex m ξ σ H s e s' I h
 obtain⟨a,H',rfl,os,bare,u,hok,F,a',e',hE⟩:=h
 cases e'
 have I':=I.call' os u hok bare (λb z=>absurd z (by simp))
 obtain⟨C,dx,vs,T,oT,ts,h1,h2,h3,h4,h5,h6,h7,h8,h9,h10⟩:=F
 exact m ξ σ H' s' a I' ⟨C,dx,vs,h1,h2,h3,.inr ⟨T,oT,ts,h4,h5,h6,h7,⟨_,h8⟩,I.fpOk h9 h10⟩⟩ hE
end
section
variable {P:bq} {w:cb} {K:ac} {mg:Str->Option Value} {base:Heap}
theorem af8 :
  Meets (Mo (CXE P w) P w K mg base N qual scope f θ A outer s H E) (λ_ a H'=>E (.ref a) none H'):=by
 intro ξ σ H1 s1 a I F hE
 refine ai (Zy (X:=Mo (CXE P w) P w K mg base N qual scope f θ A outer s H E) I rfl rfl F λs' I' F'=>?_)
 obtain⟨C,dx,vs,T,oT,ts,h1,h2,h3,q1,q2,q3,q4,q5,q6⟩:=F'
 exact⟨a,H1,rfl,I'.os,I'.bare,I'.base,I'.hok,⟨C,dx,vs,T,oT,ts,h1,h2,h3,q1,q2,q3,q4,q5,q6.2.2.2.1.elim (λz=>absurd z (by simp[Mo])) id,q6.1⟩,hE⟩
def Zo(Q:VK)(E:XK):Outs:=⟨λ_ H'=>Q .non H',Q,λ_ _=>False,λ_ _=>False,λ_ a H'=>E (.ref a) none H'⟩
theorem FunD.okWX {x qual:Str}{st:Stmt}{f:Addr}{fd:bB}{N ps:List Str}{k n:Nat}{sp:Sp}{gb:List (Str×GB)}{bl:List Str}{t:DS}{dV:Value}(F:FunD K x qual st f fd dV)(S:Ec N ps (Am st))(hv:Rh N (Am st)=true)(T:Tab P w K mg base k gb bl)(rd:wSs n (Mp K N (Am st) gb bl) (Bb st)=t)(len:∀vs H Q E,sp vs H Q E->vs.length=ps.length)(hbody:∀(vs:List V)(H:Hp)(Q:VK)(E:XK),sp vs H Q E->t (Zo Q E) (start N vs) H):FnOk P w K mg base (CXE P w) (k+1) f fd ps sp:=by
 obtain⟨oc,od,kV,doc,pm,an,θ,ct,osl,rfl,lk,hcd⟩:=F.ex
 refine bh5 lk hcd S len λA outer s H vs Q E hr h=>?_
 have O:GOk (Mo (CXE P w) P w K mg base N qual (Am st) f θ A outer s H E) (Mp K N (Am st) gb bl):=by
  refine⟨rfl,S.kind,(λ_=>PassesOwn.leaving),rfl,S.nd,λx=>rfl,λx hx=>?_,λ_ _=>rfl,rfl,(λ_=>hr.hd),hr.units,λx hx=>?_,λx g e=>?_,λx hx=>?_,(λ_=>⟨rfl,rfl⟩),⟨_,_,_,rfl,rfl,rfl⟩⟩
  .have:=List.all_eq_true.mp hv x hx
   rw[dY] at this
   exact this.elim (λz=>.inl (cK z)) λz=>.inr (.inl (cK z))
  .rcases hx with hx|hx
   .exact Ij hx
   .exact absurd rfl (S.nofree _ (cv hx))
  .exact (T.all x g e).there hr
  .exact T.bl x (by have hx':bl.contains x=true:=hx;simpa using hx')
 refine⟨_,(bj8 n _ _ O).2 (Bb st) (λ_ a H'=>E (.ref a) none H') af8,?_⟩
 rw[rd]
 exact hbody vs H Q E h
end
end L2
namespace Pn
open PySem L2
abbrev Sw:=List (Str×List Str)
def Bw(c:Nat):Bool:=decide (97<=c)&&decide (c<=122)
def okW(z:Str):Prop:=1<=z.length/\z.length<=8/\z.cps.toList.all Bw=true
def okL(l:List Str):Prop:=(∀z∈l,okW z)/\l.Nodup/\l.length<=8
def Iy(l:List Str):Prop:=okL l/\2<=l.length/\l.length<=4
def B6(sw:Sw):Nat:=sw.foldl (λn x=>n * x.2.length) 1
def okSw(sw:Sw):Prop:=1<=sw.length/\sw.length<=5/\(sw.map (·.1)).Nodup/\(∀x∈sw,okW x.1/\Iy x.2)/\B6 sw<=256
def D8(acc:List (List Str))(x:Str×List Str):List (List Str):=acc.flatMap λa=>x.2.map λz=>a++[z]
def Ae(sw:Sw):List (List Str):=sw.foldl D8 [[]]
def ah7(ns:List Nat):Int:=ns.foldl (λ(c:Int) n=>cB c (2 ^ n)) 0
def Hx(ms:List Int):Int:=ms.foldl (λc m=>cB c m) 0
def El(p:Nat)(z:Str):Nat->List (List Str)->List Nat
 |_,[]=>[]
 |k,r::rs=>if r[p]?=some z then k::El p z (k+1) rs else El p z (k+1) rs
def Cr(rows:List (List Str))(p:Nat)(z:Str):Int:=ah7 (El p z 0 rows)
def As(sw:Sw)(w:Str):Nat:=sw.findIdx λx=>decide (x.1=w)
def Lb(sw:Sw)(e:Str×List Str):Int:=Hx (e.2.map (Cr (Ae sw) (As sw e.1)))
def Rj(sw:Sw):Int:=2 ^ (Ae sw).length - 1
def an5(sw:Sw)(rule:Sw):Int:=rule.foldl (λc e=>aX c (Lb sw e)) (Rj sw)
def Ks(sw:Sw)(ζ:List Sw):List Int:=ζ.map (an5 sw)
def Hk(sw:Sw)(ζ:List Sw):Int:=aX (Rj sw) (bw (Hx (Ks sw ζ)))
def Hq(sw:Sw)(e:Str×List Str):Prop:=e.2≠[]/\okL e.2/\∃x∈sw,x.1=e.1/\∀z∈e.2,z∈x.2
def Ho(sw:Sw)(rule:Sw):Prop:=rule≠[]/\rule.length<=100/\(rule.map (·.1)).Nodup/\∀e∈rule,Hq sw e
theorem Rb(acc:List (List Str))(x:Str×List Str):(D8 acc x).length=acc.length * x.2.length:=by
 unfold D8
 induction acc with
 |nil=>simp
 |cons a acc ih=>rw[dF,aP,ih,ae,aN,mf,mh,j8]
theorem Jb:∀(sw:Sw)(acc:List (List Str)),(sw.foldl D8 acc).length=sw.foldl (λn x=>n * x.2.length) acc.length
 |[],_=>rfl
 |x::sw,acc=>by rw[bC,bC,Jb sw,Rb]
theorem Nn(sw:Sw):(Ae sw).length=B6 sw:=Jb sw [[]]
def Ng(k:Nat)(rs:List (List Str)):Prop:=rs.Nodup/\(∀r∈rs,r.length=k)/\∀r∈rs,∀z∈r,okW z
theorem a20(h:Ng k acc)(hx:Iy x.2):Ng (k+1) (D8 acc x):=by
 obtain⟨h1,h2,h3⟩:=h
 refine⟨?_,?_,?_⟩
 .unfold D8
  clear h3
  induction acc with
  |nil=>exact eI
  |cons a acc ih=>
   rw[dF,c8]
   rw[cY] at h1
   refine⟨?_,ih h1.2 (λr hr=>h2 r (aq _ hr)),?_⟩
   .refine List.Pairwise.map _ ?_ hx.1.2.1
    intro y z ne e
    exact ne (by simpa using e)
   .intro r hr q hq e
    subst e
    obtain⟨y,hy,rfl⟩:=List.mem_map.mp hr
    obtain⟨b,hb,hq⟩:=List.mem_flatMap.mp hq
    obtain⟨z,hz,e⟩:=List.mem_map.mp hq
    have:b=a/\z=y:=by simpa using e
    rw[this.1] at hb
    exact h1.1 hb
 .intro r hr
  obtain⟨b,hb,hq⟩:=List.mem_flatMap.mp hr
  obtain⟨z,hz,rfl⟩:=List.mem_map.mp hq
  rw[aP,h2 b hb]
  rfl
 .intro r hr y hy
  obtain⟨b,hb,hq⟩:=List.mem_flatMap.mp hr
  obtain⟨z,hz,rfl⟩:=List.mem_map.mp hq
  rcases List.mem_append.mp hy with hy|hy
  .exact h3 b hb y hy
  .have:y=z:=by simpa using hy
   subst this
   exact hx.1.1 _ hz
theorem La:∀ {sw:Sw} {k:Nat} {acc:List (List Str)},Ng k acc->(∀x∈sw,Iy x.2)->Ng (k+sw.length) (sw.foldl D8 acc)
 |[],_,_,h,_=>h
 | x::sw,k,acc,h,hs=>by
  have:=La (a20 h (hs x (am))) (λy hy=>hs y (aq _ hy))
  rw[bC,aN,show k+(sw.length+1)=k+1+sw.length by omega]
  exact this
theorem Hb(h:∀x∈sw,Iy x.2):Ng sw.length (Ae sw):=by
 have:=La (sw:=sw) (k:=0) (acc:=[[]]) ⟨by simp,by simp,by simp⟩ h
 rwa[cT] at this
theorem Cz:∀ {sw:Sw} {n:Nat},1<=n->(∀x∈sw,Iy x.2)->n<=sw.foldl (λn x=>n * x.2.length) n
 |[],n,_,_=>ak _
 | x::sw,n,h,hs=>by
  rw[bC]
  have h2:2<=x.2.length:=(hs x am).2.1
  have:n<=n * x.2.length:=Nat.le_mul_of_pos_right _ (by omega)
  exact aw this (Cz (by omega) (λy hy=>hs y (aq _ hy)))
theorem okSw.sets(h:okSw sw):∀x∈sw,Iy x.2:=λx hx=>(h.2.2.2.1 x hx).2
theorem okSw.len(h:okSw sw):(Ae sw).length<=256:=by rw[Nn];exact h.2.2.2.2
theorem okSw.pos(h:okSw sw):1<=(Ae sw).length:=by rw[Nn];exact Cz (ak 1) h.sets
theorem Q5(h:okSw sw)(i:Nat):B6 (sw.take i)<=B6 sw:=by
 conv=>rhs;rw[<- List.take_append_drop i sw]
 unfold B6
 rw[d6]
 exact Cz (Cz (ak 1) λx hx=>h.sets x (fj hx)) λx hx=>h.sets x (g9 hx)
theorem C4 {α β:Type}{l:List α}{i:Nat}{x:α}(h:l[i]?=some x)(f:β->α->β)(b:β):(l.take (i+1)).foldl f b=f ((l.take i).foldl f b) x:=by
 rw[bF,h,cq,d6]
 rfl
theorem Ax {α β:Type}{l:List α}{i:Nat}{x:α}(h:l[i]?=some x)(f:α->β):(l.take (i+1)).map f=(l.take i).map f++[f x]:=by
 rw[bF,h,cq,au]
 rfl
abbrev Own(ok:Addr->Prop)(H:Hp)(a:Addr)(o:HO):Prop:=ok a/\H a=some o
abbrev Kp(ok:Addr->Prop)(H:Hp)(ok':Addr->Prop)(H':Hp):Prop:=∀a o,Own ok H a o->Own ok' H' a o
abbrev fresh(H:Hp):Addr->Prop:=λa=>H a=none
abbrev any:Addr->Prop:=λ_=>True
theorem Kp.same(S:Same H H'):Kp ok H ok H':=λa o h=>⟨h.1,S _ _ h.2⟩
theorem Kp.any:Kp ok H Pn.any H:=λa o h=>⟨trivial,h.2⟩
theorem Kp.weak(h:∀a,ok a->ok' a):Kp ok H ok' H:=λa o q=>⟨h a q.1,q.2⟩
theorem Kp.trans(h:Kp ok1 H1 ok2 H2)(g:Kp ok2 H2 ok3 H3):Kp ok1 H1 ok3 H3:=λa o q=>g a o (h a o q)
theorem ah5(S:Same H H')(h:H' a=none):H a=none:=by
 cases e:H a with
 |none=>rfl
 |some o=>rw[S _ _ e] at h;cases h
theorem Kp.fresh(S:Same H1 H2):Kp (fresh H2) H (Pn.fresh H1) H:=Kp.weak λa h=>ah5 S h
theorem Kp.off(h:¬ ok p):Kp ok H ok (upd H p o):=λa u q=>⟨q.1,by
 have n:a≠p:=λe=>h (by rw[<- e];exact q.1)
 rw[Ai n];exact q.2⟩
abbrev kR(x:(Str×List Str)×Addr):Key×V:=(.inr x.1.1,.ref x.2)
abbrev Dc(r:List Str):HO:=.tup (r.map V.str)
abbrev A5(r:List Str):HO:=.lst (r.map V.str)
noncomputable def SwAt(ok:Addr->Prop)(H:Hp)(d:Addr)(sw:Sw):Prop:=∃ds:List ((Str×List Str)×Addr),ds.map (·.1)=sw/\Own ok H d (.dK (ds.map kR))/\∀x∈ds,Own ok H x.2 (Dc x.1.2)
noncomputable def RuleAt(ok:Addr->Prop)(H:Hp)(d:Addr)(sw:Sw):Prop:=∃ds:List ((Str×List Str)×Addr),ds.map (·.1)=sw/\Own ok H d (.dK (ds.map kR))/\∀x∈ds,Own ok H x.2 (A5 x.1.2)
noncomputable def TupsAt(ok:Addr->Prop)(H:Hp)(l:Addr)(rows:List (List Str)):Prop:=∃ds:List (List Str×Addr),ds.map (·.1)=rows/\Own ok H l (.lst (ds.map λx=>.ref x.2))/\∀x∈ds,Own ok H x.2 (Dc x.1)
noncomputable def bm0(ok:Addr->Prop)(H:Hp)(l:Addr)(rows:List (List Str)):Prop:=∃ds:List (List Str×Addr),ds.map (·.1)=rows/\Own ok H l (.lst (ds.map λx=>.ref x.2))/\∀x∈ds,Own ok H x.2 (A5 x.1)
noncomputable def SwIn(ok:Addr->Prop)(H:Hp)(l:Addr)(sw:Sw):Prop:=∃ds:List (((Str×List Str)×Addr)×Addr),ds.map (·.1.1)=sw/\Own ok H l (.lst (ds.map λx=>.ref x.2))/\∀x∈ds,Own ok H x.2 (.tup [.str x.1.1.1,.ref x.1.2])/\Own ok H x.1.2 (A5 x.1.1.2)
def Nf(k:Nat):List (List Str)->List (List Key×V)
 |[]=>[]
 |r::rs=>(r.map .inr,.int (k:Int))::Nf (k+1) rs
def NumAt(ok:Addr->Prop)(H:Hp)(n:Addr)(rows:List (List Str)):Prop:=Own ok H n (.dT (Nf 0 rows))
def Ya(rows:List (List Str))(i:Nat)(l:List Str):HO:=.dK (l.map λz=>(.inr z,.int (Cr rows i z)))
noncomputable def SetsAt(ok:Addr->Prop)(H:Hp)(d:Addr)(sw:Sw):Prop:=∃ds:List ((Str×List Str)×Addr),ds.map (·.1)=sw/\Own ok H d (.dK (ds.map kR))/\∀i x,ds[i]?=some x->Own ok H x.2 (Ya (Ae sw) i x.1.2)
noncomputable def RulesAt(ok:Addr->Prop)(H:Hp)(k:Addr)(ζ:List Sw):Prop:=∃ds:List (Sw×Addr),ds.map (·.1)=ζ/\Own ok H k (.lst (ds.map λx=>.ref x.2))/\∀x∈ds,RuleAt ok H x.2 x.1
section
theorem SwAt.mono(h:SwAt ok H d sw)(k:Kp ok H ok' H'):SwAt ok' H' d sw:=by
 obtain⟨ds,e,o,q⟩:=h;exact⟨ds,e,k _ _ o,λx hx=>k _ _ (q x hx)⟩
theorem RuleAt.mono(h:RuleAt ok H d sw)(k:Kp ok H ok' H'):RuleAt ok' H' d sw:=by
 obtain⟨ds,e,o,q⟩:=h;exact⟨ds,e,k _ _ o,λx hx=>k _ _ (q x hx)⟩
theorem TupsAt.mono(h:TupsAt ok H d rows)(k:Kp ok H ok' H'):TupsAt ok' H' d rows:=by
 obtain⟨ds,e,o,q⟩:=h;exact⟨ds,e,k _ _ o,λx hx=>k _ _ (q x hx)⟩
theorem SwIn.mono(h:SwIn ok H d sw)(k:Kp ok H ok' H'):SwIn ok' H' d sw:=by
 obtain⟨ds,e,o,q⟩:=h;exact⟨ds,e,k _ _ o,λx hx=>⟨k _ _ (q x hx).1,k _ _ (q x hx).2⟩⟩
theorem SetsAt.mono(h:SetsAt ok H d sw)(k:Kp ok H ok' H'):SetsAt ok' H' d sw:=by
 obtain⟨ds,e,o,q⟩:=h;exact⟨ds,e,k _ _ o,λi x hx=>k _ _ (q i x hx)⟩
theorem RulesAt.mono(h:RulesAt ok H d ζ)(k:Kp ok H ok' H'):RulesAt ok' H' d ζ:=by
 obtain⟨ds,e,o,q⟩:=h;exact⟨ds,e,k _ _ o,λx hx=>(q x hx).mono k⟩
theorem NumAt.mono(h:NumAt ok H d rows)(k:Kp ok H ok' H'):NumAt ok' H' d rows:=k _ _ h
end
noncomputable def b28(d l n s k b:Addr)(f:Int):List (Str×V):=[("settings", .ref d),("tuples", .ref l),("numbers", .ref n),("sets", .ref s),("kept_rules", .ref k),("bars", .ref b),("free", .int f)]
structure PanAt (C:Addr) (ok:Addr->Prop) (H:Hp) (p:Addr) (sw:Sw) (ζ:List Sw) (dx d l n s k b:Addr):Prop where
 ins:Own ok H p (.ins C dx (b28 d l n s k b (Hk sw ζ)))
 sws:SwAt ok H d sw
 tps:TupsAt ok H l (Ae sw)
 nms:NumAt ok H n (Ae sw)
 sts:SetsAt ok H s sw
 rls:RulesAt ok H k ζ
 brs:Own ok H b (.lst ((Ks sw ζ).map V.int))
def PanelAt(C:Addr)(ok:Addr->Prop)(H:Hp)(p:Addr)(sw:Sw)(ζ:List Sw):Prop:=∃dx d l n s k b,PanAt C ok H p sw ζ dx d l n s k b
theorem PanelAt.mono(h:PanelAt C ok H p sw ζ)(k:Kp ok H ok' H'):PanelAt C ok' H' p sw ζ:=by
 obtain⟨dx,d,l,n,s,kk,b,h⟩:=h
 exact⟨dx,d,l,n,s,kk,b,⟨k _ _ h.ins,h.sws.mono k,h.tps.mono k,h.nms.mono k,h.sts.mono k,h.rls.mono k,k _ _ h.brs⟩⟩
noncomputable def SelfAt(C:Addr)(ok:Addr->Prop)(H:Hp)(p l s:Addr):Prop:=∃dx fs,Own ok H p (.ins C dx fs)/\fs.lookup ("tuples" : Str)=some (.ref l)/\fs.lookup ("sets" : Str)=some (.ref s)/\∀m∈(["all_choices", "box", "many", "term", "read_rule", "read_rules"]:List Str),fs.lookup m=none
theorem SelfAt.mono(h:SelfAt C ok H p l s)(k:Kp ok H ok' H'):SelfAt C ok' H' p l s:=by
 obtain⟨dx,fs,o,q⟩:=h;exact⟨dx,fs,k _ _ o,q⟩
structure bl9 (K:ac) (C X:Addr):Prop where
 cl:Cls K C
 na:∀f∈(["settings", "tuples", "numbers", "sets", "kept_rules", "bars", "free"]:List Str),NoAttr K C f
 en:ECls K X
 mn:ii K X (.ref X)=some true
theorem L9(kvs:List (Key×V)):E5 (Itd p o kvs) (kvs.map λkv=>kV kv.1) (λH=>H p=some (.frz o (.dK kvs))):=by
 refine⟨λi H q h=>⟨q,by simpa using h⟩,λH q=>⟨q,by simp⟩,λi H x H' q hi h=>?_⟩
 obtain⟨h1,k,v,h2,h3⟩:=h
 refine⟨h1,?_⟩
 rw[aj,h2,h3]
 rfl
theorem a32(kvs:List (Key×V)):Lg (am8 p o kvs) (Fb 0 (kvs.map λkv=>kV kv.1)) (λH=>H p=some (.frz o (.dK kvs))):=by
 have e:(Fb 0 (kvs.map λkv=>kV kv.1)).length=kvs.length:=by rw[Cj];simp
 refine⟨λi H q h=>⟨q,by omega⟩,λH q=>⟨q,by omega⟩,λi H x H' q hi h=>?_⟩
 obtain⟨T,k,v,hT,h1,h2,h3⟩:=h
 refine⟨T,.int i,kV k,hT,h1,?_,h3⟩
 have:=Dr (k:=0) (xs:=kvs.map λkv=>kV kv.1) (i:=i) (x:=kV k) (by rw[aj,h2];rfl)
 rw[cT] at this
 exact this
theorem Same.thaw(h:H p=some (.dK kvs))(S:Same (upd H p (.frz o (.dK kvs))) H'):Same H (upd H' p (.dK kvs)):=by
 intro b u e
 by_cases hb:b=p
 .subst hb;rw[Ac,<- h,e]
 .rw[Ai hb];exact S _ _ (by rw[Ai hb];exact e)
theorem Ha(h:H d=some u):¬ Pn.fresh H d:=λe=>by
 have e:H d=none:=e
 rw[h] at e
 cases e
theorem B4 {A B:Prop}(e:b=false)(h:B):if b=true then A else B:=by subst e;exact Ew h
theorem K0 {A B:Prop}(e:b=true)(h:A):if b=true then A else B:=by subst e;exact Fc h
theorem Ak {α β:Type}{l:List α}{f:α->β}{i:Nat}{x:β}(h:(l.map f)[i]?=some x):∃m,l[i]?=some m/\x=f m:=by
 rw[aj] at h
 cases e:l[i]? with
 |none=>rw[e] at h;cases h
 |some m=>rw[e] at h;exact⟨m,rfl,by simpa using h.symm⟩
theorem Al {α:Type}{l:List α}{i:Nat}{x:α}(h:l[i]?=some x):i<l.length:=(List.getElem?_eq_some_iff.mp h).1
theorem Ds {n i:Nat}{x:V}(h:(Vz 0 n)[i]?=some x):i<n/\x=.int (i:Int):=by
 have hi:=Al h
 rw[Bh] at hi
 rw[Nm hi] at h
 refine⟨hi,?_⟩
 have:V.int (0+(i:Int))=x:=by simpa using h
 rw[<- this,Int.zero_add]
theorem Dd(a b:Str):(a++b).length=a.length+b.length:=PySem.strLen_append a b
theorem bf2(z:Str):z.cps.toList.length=z.length:=by simp[Str.length]
theorem av1(a c:Nat):decide ([c]<[a])=decide (c<a):=by
 rw[bu,decide_eq_true_iff,decide_eq_true_iff,List.cons_lt_cons_iff]
 simp
theorem leL {s:Str}{a c:Nat}(h:s.cps.toList=[a]):(!decide ((⟨#[c]⟩:Str).cps.toList<s.cps.toList))=decide (a<=c):=by
 rw[h]
 show (!decide ([c]<[a]))=_
 rw[av1,<- decide_not]
 exact decide_eq_decide.mpr Nat.not_lt
theorem leR {s:Str}{a c:Nat}(h:s.cps.toList=[a]):(!decide (s.cps.toList<(⟨#[c]⟩:Str).cps.toList))=decide (c<=a):=by
 rw[h]
 show (!decide ([a]<[c]))=_
 rw[av1,<- decide_not]
 exact decide_eq_decide.mpr Nat.not_lt
theorem ad1 {s1 s2:Str}{a b c:Nat}{Q:VK}{H:Hp}(h1:s1.cps.toList=[a])(h2:s2.cps.toList=[b])(k:Q (.bl (decide (a<=c)&&decide (c<=b))) H) :
  if (!decide ((⟨#[c]⟩:Str).cps.toList<s1.cps.toList))=true then Q (.bl (!decide (s2.cps.toList<(⟨#[c]⟩:Str).cps.toList))) H else Q (.bl false) H:=by
 rw[leL h1,leR h2]
 cases e:decide (a<=c) with
 |true=>rw[e,cX] at k;exact Fc k
 |false=>rw[e,iX] at k;exact Ew k
theorem Pz {a b c:Int}{Q:VK}{H:Hp}(k:Q (.bl (decide (a<=c)&&decide (c<=b))) H):if decide (a<=c)=true then Q (.bl (decide (c<=b))) H else Q (.bl false) H:=by
 cases e:decide (a<=c) with
 |true=>rw[e,cX] at k;exact Fc k
 |false=>rw[e,iX] at k;exact Ew k
theorem a70(h1:s1.cps.toList=[a])(h2:s2.cps.toList=[b])(hv:σ[i]?=some (some (.str ⟨#[c]⟩)))(k:Q (.bl (decide (a<=c)&&decide (c<=b))) H) :
  Ej Hi Hi (dC (.str s1)) (Aa i) (dC (.str s2)) σ H Q E:=by
 unfold Ej dC Aa
 rw[hv]
 exact ad1 h1 h2 k
theorem ac3(hz:z.length<=1000)(he:∀(c:Nat)(σ:St)(H1:Hp)(Q1:VK),σ.length=1->Q1 (.bl (p c)) H1->te (σ.set 0 (some (.str ⟨#[c]⟩))) H1 Q1 E)(k:∀H',Same H H'->Q (.bl (z.cps.toList.all p)) H') :
  ∀D,H D=none->Fa (Its z) (gdN 0) Bt te D (λH'=>X6 K [.ref D] H' Q) (W3 [none] [some (.str z)]) (upd H D (.lst [])) E:=by
 intro D hD
 refine Rv (b07 z) (λσ=>σ.length=1) (λ_=>true) (λv=>match v with | .str y=>.bl (p (y.cps.getD 0 0))|_=>.non) hD (λ_ _=>ba) ?_ rfl ?_ ?_
 .unfold Gq
  rw[ae]
  exact aG (show z.cps.toList.length<=1000 from by have:z.cps.size<=1000:=hz;simpa using this) (by decide)
 .intro x σ H1 hx hσ S Fin Skip hF hS
  obtain⟨c,hc,rfl⟩:=List.mem_map.mp hx
  refine he c σ H1 _ hσ ?_
  exact hF _ _ _ (by rw[j6];exact hσ) (Same.refl _) rfl rfl
 .intro H' S hD'
  have e:((Gq z).filter λ_=>true).map (λv=>match v with | .str y=>V.bl (p (y.cps.getD 0 0))|_=>.non)=(z.cps.toList.map p).map V.bl:=by
   unfold Gq
   rw[List.filter_eq_self.mpr (λ_ _=>rfl),a_,a_]
   rfl
  refine⟨z.cps.toList.map p,SqL.of (hD'.trans (by rw[e])),?_⟩
  have e2:(z.cps.toList.map p).all (λb=>b)=z.cps.toList.all p:=by rw[d9];rfl
  rw[e2]
  exact k H' S
theorem Up {K:ac}{J:It}{χ:List V}{ok:Hp->Prop}{te:DE}{σ:St}{H:Hp}{R:Hp->Addr->Prop}{E:EK}(Y:E5 J χ ok)(Sg:St->Prop)(hok:∀H1,Same H H1->ok H1)(hn:χ.length<sizeLine)(hσ:Sg σ)(hS:∀ σ x,Sg σ->Sg (σ.set 0 (some x)))(he:∀x σ H1 Q1,x∈χ->Sg σ->Same H H1->(∀H2,Same H1 H2->Q1 (.bl true) H2)->te (σ.set 0 (some x)) H1 Q1 E)(k:∀D H',Same H H'->SqL K H' D ((χ.map λ_=>true).map V.bl)->R H' D) :
  ∀D,H D=none->Fa J (gdN 0) Bt te D (λH'=>R H' D) σ (upd H D (.lst [])) E:=λD hD=>an3 (K:=K) Y Sg hD hok hn hσ hS he (k D)
theorem Ve:∀(xs acc:List Str),(acc++xs).Nodup->xs.foldl (λσ k=>if σ.any (λj=>decide (j=k)) then σ else σ++[k]) acc=acc++xs
 |[],acc,_=>by rw[List.foldl_nil,b7]
 | x::xs,acc,h=>by
  have hx:(acc.any λj=>decide (j=x))=false:=by
   rw[cH]
   intro j hj e
   have e:j=x:=by simpa using e
   subst e
   exact (List.nodup_append.mp h).2.2 j hj j am rfl
  rw[bC,hx]
  have h2:(acc++[x]++xs).Nodup:=by simpa using h
  show List.foldl _ (acc++[x]) xs=_
  rw[Ve xs (acc++[x]) h2]
  simp
theorem a93 {xs:List Str}(h:xs.Nodup):Fd xs=xs:=Ve xs [] (by simpa using h)
theorem C2 {κ:Type} [DecidableEq κ]:∀ {kvs:List (κ×V)} {i:Nat} {k:κ} {v:V},(kvs.map (·.1)).Nodup->kvs[i]?=some (k,v)->Bp kvs k=some v
 |[],_,_,_,_,e=>by simp at e
 | p::r,0,k,v,_,e=>by
  rw[dA] at e
  cases e
  exact Ci rfl
 | p::r,i+1,k,v,h,e=>by
  rw[cu] at e
  rw[aY,cY] at h
  have ne:¬ p.1=k:=λz=>h.1 (List.mem_map.mpr ⟨(k,v),ag e,z.symm⟩)
  rw[Ca ne]
  exact C2 h.2 e
theorem Eh {κ:Type} [DecidableEq κ]:∀ {kvs:List (κ×V)} {k:κ},¬ k∈kvs.map (·.1)->Bp kvs k=none
 |[],_,_=>rfl
 | p::r,k,h=>by
  rw[aY,aS,not_or] at h
  rw[Ca (λe=>h.1 e.symm)]
  exact Eh h.2
theorem Qy {l:List Str}(h:l.Nodup):(l.map (gy:Str->Key)).Nodup:=List.Pairwise.map _ (λa b ne e=>ne (by injection e)) h
theorem Zw(ds:List ((Str×List Str)×Addr)):(ds.map kR).map (·.1)=((ds.map (·.1)).map (·.1)).map (gy:Str->Key):=by simp[a_]
theorem Fl {ds:List ((Str×List Str)×Addr)}{sw:Sw}(e:ds.map (·.1)=sw)(h:(sw.map (·.1)).Nodup):((ds.map kR).map (·.1)).Nodup:=by
 rw[Zw,e]
 exact Qy h
theorem C5(x y:Nat):cB (x:Int) (y:Int)=((x ||| y:Nat):Int):=by
 unfold cB
 have hx:¬ (0:Int)<=bw (x:Int):=by unfold bw;omega
 have hy:¬ (0:Int)<=bw (y:Int):=by unfold bw;omega
 rw[PyProof.Rows.bitAnd_nn hx hy]
 have e:∀z:Nat,(bw (bw (z:Int)))=(z:Int):=λz=>by unfold bw;omega
 rw[e,e,e,aI,aI]
theorem A7(x y:Nat):aX (x:Int) (y:Int)=((x &&& y:Nat):Int):=by
 rw[PyProof.Rows.bitAnd_pp (by omega) (by omega),aI,aI]
theorem C1(n:Nat):(2:Int) ^ n=((2 ^ n:Nat):Int):=by simp
def be6(ns:List Nat):Nat:=ns.foldl (λc n=>c ||| 2 ^ n) 0
theorem V0:∀(ns:List Nat)(c:Nat),ns.foldl (λ(c:Int) n=>cB c (2 ^ n)) (c:Int)=((ns.foldl (λc n=>c ||| 2 ^ n) c:Nat):Int)
 |[],c=>rfl
 |n::ns,c=>by rw[bC,bC,C1,C5,V0 ns]
theorem az2(ns:List Nat):ah7 ns=(be6 ns:Nat):=V0 ns 0
theorem V1:∀(ns:List Nat)(c k:Nat),(ns.foldl (λc n=>c ||| 2 ^ n) c).testBit k=(c.testBit k||decide (k∈ns))
 |[],c,k=>by simp
 | n::ns,c,k=>by
  rw[bC,V1 ns,dR,fF,Bool.or_assoc]
  congr 1
  rw[bu,dY,decide_eq_true_iff,decide_eq_true_iff,decide_eq_true_iff,aS]
  exact or_congr ⟨Eq.symm,Eq.symm⟩ Iff.rfl
theorem az3(ns:List Nat)(k:Nat):(be6 ns).testBit k=decide (k∈ns):=by
 unfold be6
 rw[V1,cF,ju]
def E9(ms:List Nat):Nat:=ms.foldl (λc m=>c ||| m) 0
theorem Ol:∀(ms:List Nat)(c:Nat),(ms.map λm:Nat=>(m:Int)).foldl (λc m=>cB c m) (c:Int)=((ms.foldl (λc m=>c ||| m) c:Nat):Int)
 |[],c=>rfl
 |n::ns,c=>by rw[aY,bC,bC,C5,Ol ns]
theorem Hy(ms:List Nat):Hx (ms.map λm:Nat=>(m:Int))=(E9 ms:Nat):=Ol ms 0
theorem Om:∀(ms:List Nat)(c k:Nat),(ms.foldl (λc m=>c ||| m) c).testBit k=(c.testBit k||ms.any λm=>m.testBit k)
 |[],c,k=>by simp
 |n::ns,c,k=>by rw[bC,Om ns,dR,eC,Bool.or_assoc]
theorem Hz(ms:List Nat)(k:Nat):(E9 ms).testBit k=ms.any λm=>m.testBit k:=by
 unfold E9
 rw[Om,cF,ju]
def Jw(rows:List (List Str))(p:Nat)(z:Str)(k:Nat):Bool:=decide ((rows[k]?.bind λr=>r[p]?)=some z)
theorem Zr(p:Nat)(z:Str):∀(rows:List (List Str))(j n:Nat),n∈El p z j rows ↔ j<=n/\(rows[n - j]?.bind λr=>r[p]?)=some z
 |[],j,n=>by simp[El]
 | r::rows,j,n=>by
  have ih:=Zr p z rows (j+1) n
  have e:∀b,(n=j/\b)\/(j+1<=n/\(rows[n - (j+1)]?.bind λr=>r[p]?)=some z) ↔ j<=n/\((n=j/\b)\/(n≠j/\(rows[n - (j+1)]?.bind λr=>r[p]?)=some z)):=λb=>by
   constructor
   .rintro (⟨h1,h2⟩|⟨h1,h2⟩)
    .exact⟨by omega,.inl ⟨h1,h2⟩⟩
    .exact⟨by omega,.inr ⟨by omega,h2⟩⟩
   .rintro⟨h0,⟨h1,h2⟩|⟨h1,h2⟩⟩
    .exact .inl ⟨h1,h2⟩
    .exact .inr ⟨by omega,h2⟩
  have g:j<=n->(((r::rows)[n - j]?.bind λr=>r[p]?)=some z ↔ ((n=j/\r[p]?=some z)\/(n≠j/\(rows[n - (j+1)]?.bind λr=>r[p]?)=some z))):=λh=>by
   by_cases hn:n=j
   .subst hn
    simp
   .have e2:n - j=(n - (j+1))+1:=by omega
    rw[e2,cu]
    simp[hn]
  rw[El]
  by_cases hr:r[p]?=some z
  .rw[if_pos hr,aS,ih]
   have:=e (r[p]?=some z)
   constructor
   .intro h
    have h2:=this.mp (h.imp (λx=>⟨x,hr⟩) id)
    exact⟨h2.1,(g h2.1).mpr h2.2⟩
   .rintro⟨h1,h2⟩
    exact (this.mpr ⟨h1,(g h1).mp h2⟩).imp (λx=>x.1) id
  .rw[if_neg hr,ih]
   have:=e (r[p]?=some z)
   constructor
   .intro h
    have h2:=this.mp (.inr h)
    exact⟨h2.1,(g h2.1).mpr h2.2⟩
   .rintro⟨h1,h2⟩
    rcases this.mpr ⟨h1,(g h1).mp h2⟩ with h|h
    .exact absurd h.2 hr
    .exact h
def Be(rows:List (List Str))(p:Nat)(z:Str):Nat:=be6 (El p z 0 rows)
theorem J0(rows:List (List Str))(p:Nat)(z:Str):Cr rows p z=(Be rows p z:Nat):=az2 _
theorem Eg(rows:List (List Str))(p:Nat)(z:Str)(k:Nat):(Be rows p z).testBit k=Jw rows p z k:=by
 unfold Be Jw
 rw[az3]
 refine decide_eq_decide.mpr ?_
 rw[Zr]
 simp
def Oe(sw:Sw)(e:Str×List Str):Nat:=E9 (e.2.map (Be (Ae sw) (As sw e.1)))
theorem ai2(sw:Sw)(e:Str×List Str):Lb sw e=(Oe sw e:Nat):=by
 unfold Lb Oe
 rw[<- Hy,a_]
 congr 1
 exact bY λz _=>J0 _ _ _
theorem ai3(sw:Sw)(e:Str×List Str)(k:Nat):(Oe sw e).testBit k=e.2.any λz=>Jw (Ae sw) (As sw e.1) z k:=by
 unfold Oe
 rw[Hz,iT]
 congr 1
 funext z
 exact Eg _ _ _ _
def Hm(sw:Sw):Nat:=2 ^ (Ae sw).length - 1
theorem F8(sw:Sw):Rj sw=(Hm sw:Nat):=by
 unfold Rj Hm
 rw[C1]
 have:0<2 ^ (Ae sw).length:=f7 _
 omega
theorem Mf(sw:Sw)(k:Nat):(Hm sw).testBit k=decide (k<(Ae sw).length):=by
 unfold Hm
 rw[Nat.testBit_two_pow_sub_one]
def D9(sw:Sw)(rule:Sw):Nat:=rule.foldl (λc e=>c &&& Oe sw e) (Hm sw)
theorem Uu(sw:Sw):∀(rule:Sw)(c:Nat),rule.foldl (λc e=>aX c (Lb sw e)) (c:Int)=((rule.foldl (λc e=>c &&& Oe sw e) c:Nat):Int)
 |[],c=>rfl
 |e::rule,c=>by rw[bC,bC,ai2,A7,Uu sw rule]
theorem Uv(sw rule:Sw):an5 sw rule=(D9 sw rule:Nat):=by
 unfold an5 D9
 rw[F8,Uu]
theorem Uw(sw:Sw):∀(rule:Sw)(c k:Nat),(rule.foldl (λc e=>c &&& Oe sw e) c).testBit k=(c.testBit k&&rule.all λe=>e.2.any λz=>Jw (Ae sw) (As sw e.1) z k)
 |[],c,k=>by simp
 |e::rule,c,k=>by rw[bC,Uw sw rule,bi,ai3,bv,Bool.and_assoc]
theorem Ii(sw rule:Sw)(k:Nat):(D9 sw rule).testBit k=(decide (k<(Ae sw).length)&&rule.all λe=>e.2.any λz=>Jw (Ae sw) (As sw e.1) z k):=by
 unfold D9
 rw[Uw,Mf]
def Kz(sw:Sw)(ζ:List Sw):Nat:=Hm sw - (Hm sw &&& E9 (ζ.map (D9 sw)))
theorem Qc(sw:Sw)(ζ:List Sw):Hk sw ζ=(Kz sw ζ:Nat):=by
 unfold Hk Kz Ks
 have e:ζ.map (an5 sw)=(ζ.map (D9 sw)).map λm:Nat=>(m:Int):=by
  rw[a_]
  exact bY λr _=>Uv sw r
 rw[e,Hy,F8,jQ (by omega) (by unfold bw;omega),show bw (bw ((E9 (ζ.map (D9 sw)):Nat):Int))=((E9 (ζ.map (D9 sw)):Nat):Int) by unfold bw;omega,aI,aI]
 have:=f6 (n:=Hm sw) (m:=E9 (ζ.map (D9 sw)))
 omega
theorem aa9(a b:Nat):a - (a &&& b)=a ^^^ (a &&& b):=by
 have h:(a ^^^ (a &&& b)) &&& (a &&& b)=0:=by
  refine cz λk=>?_
  rw[bi,iE,bi,cF]
  cases a.testBit k <;> cases b.testBit k <;> rfl
 have h2:(a ^^^ (a &&& b)) ||| (a &&& b)=a:=by
  refine cz λk=>?_
  rw[dR,iE,bi]
  cases a.testBit k <;> cases b.testBit k <;> rfl
 have h3:(a ^^^ (a &&& b))+(a &&& b)=(a ^^^ (a &&& b)) ||| (a &&& b):=by
  have e:=PyProof.Rows.bitOr_and ((a ^^^ (a &&& b):Nat):Int) ((a &&& b:Nat):Int)
  rw[C5,A7,h] at e
  omega
 omega
theorem Qd(sw:Sw)(ζ:List Sw)(k:Nat):(Kz sw ζ).testBit k=(decide (k<(Ae sw).length) && !ζ.any λr=>(D9 sw r).testBit k):=by
 unfold Kz
 rw[aa9,iE,bi,Mf,Hz,iT]
 show (_ ^^ (_&&ζ.any λr=>(D9 sw r).testBit k))=_
 cases decide (k<(Ae sw).length) <;> cases ζ.any (λr=>(D9 sw r).testBit k) <;> rfl
def Di(c:Nat):List (List Nat)->List Nat
 |[]=>[]
 |[a]=>a
 |a::r=>a++c::Di c r
theorem Gk(c:Nat):∀ps:List Str,(lB ⟨#[c]⟩ ps).cps.toList=Di c (ps.map λp=>p.cps.toList)
 |[]=>rfl
 |[a]=>rfl
 | a::b::r=>by
  show (a++(⟨#[c]⟩:Str)++lB ⟨#[c]⟩ (b::r)).cps.toList=_
  have ih:=Gk c (b::r)
  rw[kH,kH,kK,kK,ih]
  show a.cps.toList++[c]++Di c ((b::r).map λp=>p.cps.toList)=a.cps.toList++c::Di c ((b::r).map λp=>p.cps.toList)
  rw[dZ]
  rfl
theorem Zl:∀ {a b X Y:List Nat},c∉a->c∉b->a++c::X=b++c::Y->a=b/\X=Y
 |[],[],_,_,_,_,h=>by simpa using h
 | [],y::b,_,_,_,hb,h=>by
  have:c=y:=by simpa using (eE h).1
  exact absurd (this▸am) hb
 | x::a,[],_,_,ha,_,h=>by
  have:x=c:=by simpa using (eE h).1
  exact absurd (this▸am) ha
 | x::a,y::b,X,Y,ha,hb,h=>by
  have h1:x=y:=(eE h).1
  have h2:a++c::X=b++c::Y:=(eE h).2
  obtain⟨e1,e2⟩:=Zl (λz=>ha (aq _ z)) (λz=>hb (aq _ z)) h2
  exact⟨by rw[h1,e1],e2⟩
theorem Qk:∀ {as bs:List (List Nat)},as≠[]->bs≠[]->(∀a∈as,c∉a)->(∀b∈bs,c∉b)->Di c as=Di c bs->as=bs
 |[],_,h,_,_,_,_=>absurd rfl h
 |_,[],_,h,_,_,_=>absurd rfl h
 |[a],[b],_,_,_,_,h=>by rw[show a=b from h]
 | [a],b::b'::r,_,_,ha,_,h=>by
  have h:a=b++c::Di c (b'::r):=h
  exact absurd (by rw[h];simp) (ha a am)
 | a::a'::r,[b],_,_,_,hb,h=>by
  have h:a++c::Di c (a'::r)=b:=h
  exact absurd (by rw[<- h];simp) (hb b am)
 | a::a'::r,b::b'::q,_,_,ha,hb,h=>by
  have h:a++c::Di c (a'::r)=b++c::Di c (b'::q):=h
  obtain⟨e1,e2⟩:=Zl (ha a am) (hb b am) h
  rw[e1,Qk (by simp) (by simp) (λx hx=>ha x (aq _ hx)) (λx hx=>hb x (aq _ hx)) e2]
theorem aa7 {a b:Str}(h:a.cps.toList=b.cps.toList):a=b:=by
 cases a;cases b
 congr 1
 exact Array.toList_inj.mp h
theorem Jm(sep:Str)(ps:List Str):bI sep ps=lB sep ps:=by
 show jc sep ps=_
 rw[gS]
theorem Fr(hn:ps≠[])(h:∀p∈ps,c∉p.cps.toList):gf (bI ⟨#[c]⟩ ps) ⟨#[c]⟩=ps:=by
 have e:=StrLaws.join_split (bI ⟨#[c]⟩ ps) ⟨#[c]⟩
 rw[Jm] at e ⊢
 have e2:=congrArg (λz:Str=>z.cps.toList) e
 rw[Gk,Gk] at e2
 have f:=StrLaws.split_free (lB ⟨#[c]⟩ ps) c
 have l1:=PyProof.Rows.split_pos (lB ⟨#[c]⟩ ps) ⟨#[c]⟩
 generalize gf (lB ⟨#[c]⟩ ps) ⟨#[c]⟩=qs at e2 f l1 ⊢
 have e3:=Qk (as:=qs.map λp=>p.cps.toList) (bs:=ps.map λp=>p.cps.toList) (by intro z;rw[kT] at z;rw[z] at l1;simp at l1) (by simpa using hn) (λa ha=>by obtain⟨p,hp,rfl⟩:=List.mem_map.mp ha;exact f p hp) (λa ha=>by obtain⟨p,hp,rfl⟩:=List.mem_map.mp ha;exact h p hp) e2
 exact (lf (λa b=>aa7)).mp e3
theorem Qu:∀ {as:List (List Nat)},x∈Di c as->x=c \/ ∃a∈as,x∈a
 |[],h=>by cases h
 |[a],h=>.inr ⟨a,am,h⟩
 | a::b::r,h=>by
  have h:x∈a++c::Di c (b::r):=h
  rcases List.mem_append.mp h with h|h
  .exact .inr ⟨a,am,h⟩
  .rcases List.mem_cons.mp h with h|h
   .exact .inl h
   .rcases Qu h with h|⟨y,hy,h⟩
    .exact .inl h
    .exact .inr ⟨y,aq _ hy,h⟩
theorem M9(h:x∈(bI ⟨#[c]⟩ ps).cps.toList):x=c \/ ∃p∈ps,x∈p.cps.toList:=by
 rw[Jm,Gk] at h
 rcases Qu h with h|⟨a,ha,h⟩
 .exact .inl h
 .obtain⟨p,hp,rfl⟩:=List.mem_map.mp ha
  exact .inr ⟨p,hp,h⟩
theorem Qj:∀ {as:List (List Nat)} {a:List Nat},a∈as->x∈a->x∈Di c as
 |[],_,h,_=>by cases h
 | [b],a,h,hx=>by
  have:a=b:=by simpa using h
  subst this
  exact hx
 | b::b'::r,a,h,hx=>by
  show x∈b++c::Di c (b'::r)
  rcases List.mem_cons.mp h with rfl|h
  .exact bL _ hx
  .exact bc _ (aq _ (Qj h hx))
theorem M2(hp:p∈ps)(h:x∈p.cps.toList):x∈(bI ⟨#[c]⟩ ps).cps.toList:=by
 rw[Jm,Gk]
 exact Qj (iD hp) h
end Pn
namespace L2
open PySem PySem.Spec PyProof.Rows
section
variable {P:bq} {w:cb} {K:ac} {mg:Str->Option Value} {base:Heap} {x q:Str} {st:Stmt} {f:Addr} {d:bB} {ps:List Str}
def b11(K:ac)(x q:Str)(st:Stmt)(f:Addr):Prop:=∃d,Fun K x q st f d
structure b17 (K:ac) (q:Str) (st:Stmt) (f:Addr):Prop where
 at_:c7 K bA q=some (some (.ref f))
 d:b11 K q q st f
structure MetD (K:ac) (x q:Str) (st:Stmt) (f:Addr):Prop where
 fn:dn K (.ref f)=true
 d:b11 K x q st f
theorem top_mk {oc:Value}{od an:Option Addr}{osl:Array (Option Value)}{kV doc pm θ ct:Value}(a:c7 K bA q=some (some (.ref f)))(l:K.lookup f=some ⟨oc,od,.func (cL q q (Cs st) (Bb st) (Am st) .none kV doc pm an θ ct),osl⟩)(c:dS K θ q=true)(k:br K (.ref f)=true):b17 K q st f:=⟨a,_,aq8 l c k⟩
theorem met_mk {oc:Value}{od an:Option Addr}{osl:Array (Option Value)}{kV doc pm θ ct:Value}(l:K.lookup f=some ⟨oc,od,.func (cL x q (Cs st) (Bb st) (Am st) .none kV doc pm an θ ct),osl⟩)(c:dS K θ q=true)(k:br K (.ref f)=true)(i:dn K (.ref f)=true):MetD K x q st f:=⟨i,_,aq8 l c k⟩
structure DOk (K:ac) (mg:Str->Option Value) (q:Str) (st:Stmt) (f:Addr) (d:bB) (ps:List Str):Prop where
 F:FunD K q q st f d .none
 b:Binds K d ps []
 m:mg q=some (.ref f)
structure MOk (K:ac) (x q:Str) (st:Stmt) (f:Addr) (d:bB) (ps:List Str):Prop where
 F:FunD K x q st f d .none
 b:Binds K d ps []
 i:dn K (.ref f)=true
theorem MetD.ok(D:MetD K x q st f)(hb:∀(kV doc pm:Value)(an:Option Addr)(θ ct:Value)(us:List Value),us.length=ps.length->kz (cL x q (Cs st) (Bb st) (Am st) .none kV doc pm an θ ct) ⟨us,[]⟩=pure (ps.zip us)):∃d,MOk K x q st f d ps:=by
 obtain⟨a,d,F⟩:=D
 exact⟨d,F.toD,F.binds hb,a⟩
theorem bp8 {i:FI}(h2:i.ds=[])(b:Binds K i.fd i.ps []):∀j,j<=i.dfs.length->Binds K i.fd i.ps (i.ds.drop j):=λj _=>by
 rw[h2,List.drop_nil];exact b
theorem Tab.con {k:Nat}{gb:List (Str×GB)}{bl:List Str}(T:Tab P w K mg base k gb bl)(i:FI)(g:DOk K mg q st i.f i.fd i.ps)(ok:FnOk P w K mg base CX0 i.k i.f i.fd i.ps i.sp)(hk:i.k<=k:=by exact ak _)(h1:i.dfs=[]:=by rfl)(h2:i.ds=[]:=by rfl):Tab P w K mg base k ((q,.fn i)::gb) bl:=
 T.cons ⟨g.m,g.F.kp,⟨CX0,λX' _ _=>Er X',ok⟩,hk,bp8 h2 g.b,by rw[h1,h2];exact .nil⟩
theorem ay8(spR:Nat->Sp)(tR:Nat->DS)(g:DOk K mg q st f d ps)(S:Ec N ps (Am st))(hv:Rh N (Am st)=true)(T:Tab P w K mg base kb gb bl)(m:Nat)(rd:∀n,wSs m (Mp K N (Am st) ((q,.fn ⟨f,d,ps,kb+n+1,spR n,[],[]⟩)::gb) bl) (Bb st)=tR n)(len:∀n vs H Q E,spR n vs H Q E->vs.length=ps.length)(h0:∀vs H Q E,¬ spR 0 vs H Q E)(hbody:∀(n:Nat)(vs:List V)(H:Hp)(Q:VK)(E:XK),spR (n+1) vs H Q E->tR n (Ju Q λ_ _=>False) (start N vs) H):∀n,FnOk P w K mg base CX0 (kb+n+1) f d ps (spR n)
 |0=>g.F.okW0 (n:=m) S hv T rfl (len 0) λvs H Q E h=>(h0 vs H Q E h).elim
 |n+1=>g.F.okW0 S hv ((T.mono (show kb<=kb+n+1 by omega)).con ⟨f,d,ps,kb+n+1,spR n,[],[]⟩ g (ay8 spR tR g S hv T m rd len h0 hbody n)) (rd n) (len (n+1)) (hbody n)
theorem bz4(spA spB:Nat->Sp)(tA tB:Nat->DS)(g1:DOk K mg q1 st1 f1 d1 ps1)(g2:DOk K mg q2 st2 f2 d2 ps2)(S1:Ec N1 ps1 (Am st1))(hv1:Rh N1 (Am st1)=true)(S2:Ec N2 ps2 (Am st2))(hv2:Rh N2 (Am st2)=true)(T:Tab P w K mg base kb gb bl)(m:Nat)(rdA:∀n,wSs m (Mp K N1 (Am st1) ((q2,.fn ⟨f2,d2,ps2,kb+2 * n+1,spB n,[],[]⟩)::gb) bl) (Bb st1)=tA n)(rdB:∀n,wSs m (Mp K N2 (Am st2) ((q1,.fn ⟨f1,d1,ps1,kb+2 * n+2,spA n,[],[]⟩)::gb) bl) (Bb st2)=tB n)(lenA:∀n vs H Q E,spA n vs H Q E->vs.length=ps1.length)(lenB:∀n vs H Q E,spB n vs H Q E->vs.length=ps2.length)(h0:∀vs H Q E,¬ spB 0 vs H Q E)(bodyA:∀(n:Nat)(vs:List V)(H:Hp)(Q:VK)(E:XK),spA n vs H Q E->tA n (Ju Q λ_ _=>False) (start N1 vs) H)(bodyB:∀(n:Nat)(vs:List V)(H:Hp)(Q:VK)(E:XK),spB (n+1) vs H Q E->tB n (Ju Q λ_ _=>False) (start N2 vs) H) :
  ∀n,FnOk P w K mg base CX0 (kb+2 * n+1) f2 d2 ps2 (spB n)/\FnOk P w K mg base CX0 (kb+2 * n+2) f1 d1 ps1 (spA n):=by
 have stepA:∀n,FnOk P w K mg base CX0 (kb+2 * n+1) f2 d2 ps2 (spB n)->FnOk P w K mg base CX0 (kb+2 * n+2) f1 d1 ps1 (spA n):=λn h=>
  g1.F.okW0 S1 hv1 ((T.mono (show kb<=kb+2 * n+1 by omega)).con ⟨f2,d2,ps2,kb+2 * n+1,spB n,[],[]⟩ g2 h) (rdA n) (lenA n) (bodyA n)
 intro n
 induction n with
 |zero=>
  have b:FnOk P w K mg base CX0 (kb+2 * 0+1) f2 d2 ps2 (spB 0):=⟨lenB 0,λ_ _ _ _ _ _ _ _ _ _ _ _ _ h=>(h0 _ _ _ _ h).elim⟩
  exact⟨b,stepA 0 b⟩
 |succ n ih=>
  have b:FnOk P w K mg base CX0 (kb+2 * (n+1)+1) f2 d2 ps2 (spB (n+1)):=
   g2.F.okW0 S2 hv2 ((T.mono (show kb<=kb+2 * n+2 by omega)).con ⟨f1,d1,ps1,kb+2 * n+2,spA n,[],[]⟩ g1 ih.2) (rdB n) (lenB (n+1)) (bodyB n)
  exact⟨b,stepA (n+1) b⟩
theorem one(h:MetIn P w K mg base k m ⟨C,i⟩):∀mi∈[(⟨C,i⟩:MI)],MetIn P w K mg base k m mi:=λmi hm=>by
 rw[aU] at hm
 exact hm▸h
end
structure Df where
 x:Str
 q:Str
 st:Stmt
 N:List Str
 np:Nat
 lv:Nat
def Df.ps(d:Df):List Str:=d.N.take d.np
abbrev Jv(D:Df)(f:Addr)(d:bB)(s:Sp):FI:=⟨f,d,D.ps,D.lv,s,[],[]⟩
noncomputable def ScOk(N P:List Str)(sc:Scope):Prop:=(sc.kind=.function/\sc.isCoroutine=false/\sc.isGenerator=false)/\N.Nodup/\N.take P.length=P/\(∀x∈P,sc.names.lookup x=some .local\/sc.names.lookup x=some .cell)/\(∀y∈sc.names,y.2≠.free)/\Rh N sc=true
noncomputable instance (N P:List Str) (sc:Scope):Decidable (ScOk N P sc):=by unfold ScOk;infer_instance
theorem ScOk.fn(h:ScOk N P sc):Ec N P sc:=⟨h.1.1,h.1.2.1,h.1.2.2,h.2.1,h.2.2.1,h.2.2.2.1,h.2.2.2.2.1⟩
structure Ent where
 lv:Nat
 x:Str
 g:GB
def gbT(es:List Ent)(n:Nat):List (Str×GB):=es.filterMap λe=>if e.lv<=n then some (e.x,e.g) else none
noncomputable def Kr(P:bq)(w:cb)(K:ac)(mg:Str->Option Value)(base:Heap)(es:List Ent)(bl:List Str)(n:Nat):Prop:=∀m,m<n->Tab P w K mg base m (gbT es m) bl
noncomputable def AllE(P:bq)(w:cb)(K:ac)(mg:Str->Option Value)(base:Heap)(es:List Ent)(bl:List Str):List Ent->Prop
 |[]=>True
 |e::r=>(Kr P w K mg base es bl e.lv->GBIn P w K mg base e.lv e.x e.g)/\AllE P w K mg base es bl r
section
variable {P:bq} {w:cb} {K:ac} {mg:Str->Option Value} {base:Heap} {es:List Ent} {bl:List Str} {f:Nat->Addr} {d:Nat->bB}
theorem AllE.app:∀ {a b:List Ent},AllE P w K mg base es bl a->AllE P w K mg base es bl b->AllE P w K mg base es bl (a++b)
 |[],_,_,h=>h
 |_::_,_,h,g=>⟨h.1,AllE.app h.2 g⟩
theorem AllE.at_:∀ {a:List Ent} {e:Ent},AllE P w K mg base es bl a->e∈a->Kr P w K mg base es bl e.lv->GBIn P w K mg base e.lv e.x e.g
 |[],_,_,he=>by cases he
 | _::_,_,h,he=>by
  rcases List.mem_cons.mp he with rfl|he
  .exact h.1
  .exact AllE.at_ h.2 he
theorem bg1(hz:∀x∈bl,mg x=none)(h:AllE P w K mg base es bl es)(n:Nat):Tab P w K mg base n (gbT es n) bl:=by
 induction n using Nat.strongRecOn with
 |ind n ih=>
  refine⟨λx g hx=>?_,hz⟩
  obtain⟨e,he,q⟩:=List.mem_filterMap.mp hx
  split at q
  .rename_i hl
   cases q
   exact (h.at_ he λm hm=>ih m (aL hm hl)).mono hl
  .cases q
noncomputable def OkD(K:ac)(D:Df)(es:List Ent)(bl:List Str)(f:Addr)(d:bB)(s:Sp):Prop:=∀(P:bq)(w:cb)(mg:Str->Option Value)(base:Heap)(dV:Value),FunD K D.x D.q D.st f d dV->Kr P w K mg base es bl D.lv->FnOk P w K mg base CX0 D.lv f d D.ps s
noncomputable def OkG(P:bq)(w:cb)(K:ac)(mg:Str->Option Value)(base:Heap)(D:Df)(es:List Ent)(bl:List Str)(f:Addr)(d:bB)(s:Sp):Prop:=Kr P w K mg base es bl D.lv -> ∃C,(∀X':Cx,X'.prog=P->X'.w=w->Kq C X')/\FnOk P w K mg base C D.lv f d D.ps s
noncomputable def OkX(K:ac)(D:Df)(es:List Ent)(bl:List Str)(f:Addr)(d:bB)(s:Sp):Prop:=∀(P:bq)(w:cb)(mg:Str->Option Value)(base:Heap)(dV:Value),FunD K D.x D.q D.st f d dV->Kr P w K mg base es bl D.lv->FnOk P w K mg base (CXE P w) D.lv f d D.ps s
theorem okD {D:Df}{f:Addr}{d:bB}{s:Sp}{k n:Nat}{t:DS}(hl:D.lv=k+1)(c:ScOk D.N D.ps (Am D.st))(rd:wSs n (Mp K D.N (Am D.st) (gbT es k) bl) (Bb D.st)=t)(len:∀vs H Q E,s vs H Q E->vs.length=D.ps.length)(body:∀(vs:List V)(H:Hp)(Q:VK)(E:XK),s vs H Q E->t (Ju Q λ_ _=>False) (start D.N vs) H):OkD K D es bl f d s:=λ_ _ _ _ _ F T=>by
 rw[hl] at T ⊢
 exact F.okW0 c.fn c.2.2.2.2.2 (T k (dz k)) rd len body
theorem okX {D:Df}{f:Addr}{d:bB}{s:Sp}{k n:Nat}{t:DS}(hl:D.lv=k+1)(c:ScOk D.N D.ps (Am D.st))(rd:wSs n (Mp K D.N (Am D.st) (gbT es k) bl) (Bb D.st)=t)(len:∀vs H Q E,s vs H Q E->vs.length=D.ps.length)(body:∀(vs:List V)(H:Hp)(Q:VK)(E:XK),s vs H Q E->t (Zo Q E) (start D.N vs) H):OkX K D es bl f d s:=λ_ _ _ _ _ F T=>by
 rw[hl] at T ⊢
 exact F.okWX c.fn c.2.2.2.2.2 (T k (dz k)) rd len body
theorem Bn {D:Df}{f:Addr}{d:bB}{s:Sp}(t:DS)(body:∀(vs:List V)(H:Hp)(Q:VK)(E:XK),s vs H Q E->vs.length=D.ps.length/\t (Ju Q λ_ _=>False) (start D.N vs) H)(hl:D.lv=D.lv - 1+1:=by rfl)(c:ScOk D.N D.ps (Am D.st):=by decide +kernel)(rd:wSs 40 (Mp K D.N (Am D.st) (gbT es (D.lv - 1)) bl) (Bb D.st)=t:=by kernel_rfl):OkD K D es bl f d s:=okD hl c rd (λvs H Q E h=>(body vs H Q E h).1) λvs H Q E h=>(body vs H Q E h).2
theorem ba0 {D:Df}{f:Addr}{d:bB}{s:Sp}(t:DS)(body:∀(vs:List V)(H:Hp)(Q:VK)(E:XK),s vs H Q E->vs.length=D.ps.length/\t (Zo Q E) (start D.N vs) H)(hl:D.lv=D.lv - 1+1:=by rfl)(c:ScOk D.N D.ps (Am D.st):=by decide +kernel)(rd:wSs 40 (Mp K D.N (Am D.st) (gbT es (D.lv - 1)) bl) (Bb D.st)=t:=by kernel_rfl):OkX K D es bl f d s:=okX hl c rd (λvs H Q E h=>(body vs H Q E h).1) λvs H Q E h=>(body vs H Q E h).2
def BtD(D:Df)(d:bB):Prop:=∀(s:aF)(us:List Value),us.length=D.ps.length->lK s d ⟨us,[]⟩ (D.ps.zip us)
noncomputable def AllG(K:ac)(mg:Str->Option Value)(f:Nat->Addr)(d:Nat->bB):Nat->List Df->Prop
 |_,[]=>True
 |k,D::r=>(DOk K mg D.q D.st (f k) (d k) D.ps/\BtD D (d k))/\AllG K mg f d (k+1) r
theorem AllG.get:∀ {L:List Df} {k:Nat} (j:Nat) {D:Df},AllG K mg f d k L->L[j]?=some D->DOk K mg D.q D.st (f (k+j)) (d (k+j)) D.ps/\BtD D (d (k+j))
 |[],_,_,_,_,e=>by simp at e
 |_::_,_,0,_,h,e=>by cases e;exact h.1
 | _::_,k,j+1,_,h,e=>by
  rw[show k+(j+1)=k+1+j by omega]
  exact AllG.get j h.2 e
def bj9(K:ac):List Df->Prop
 |[]=>True
 |D::r=>(∃a,b17 K D.q D.st a)/\bj9 K r
noncomputable def aj9(D:Df):Prop:=∀(kV doc pm:Value)(an:Option Addr)(θ ct:Value)(us:List Value),us.length=D.ps.length->kz (cL D.x D.q (Cs D.st) (Bb D.st) (Am D.st) .none kV doc pm an θ ct) ⟨us,[]⟩=pure (D.ps.zip us)
noncomputable def b08:List Df->Prop
 |[]=>True
 |D::r=>(D.x=D.q/\aj9 D)/\b08 r
theorem AllG.congr:∀ {L:List Df} {k:Nat},(∀n,k<=n->f' n=f n/\d' n=d n)->AllG K mg f d k L->AllG K mg f' d' k L
 |[],_,_,_=>ba
 |_::_,k,e,h=>⟨by rw[(e k (ak _)).1,(e k (ak _)).2];exact h.1,AllG.congr (λn hn=>e n (by omega)) h.2⟩
theorem Y9(d₀:bB)(X:K.In h)(G:h.Ns bA mg):∀ {L:List Df} (k:Nat),bj9 K L->b08 L -> ∃(f:Nat->Addr)(d:Nat->bB),AllG K mg f d k L
 |[],_,_,_=>⟨λ_=>0,λ_=>d₀,ba⟩
 | D::r,k,⟨⟨a,q⟩,t⟩,⟨⟨e,b⟩,bs⟩=>by
  obtain⟨f,d,g⟩:=Y9 d₀ X G (k+1) t bs
  obtain⟨m,d0,F⟩:=q
  have b:=b
  unfold aj9 at b
  rw[e] at b
  have g0:DOk K mg D.q D.st a d0 D.ps/\BtD D d0:=⟨⟨F.toD,F.binds b,ig X G m⟩,by
   obtain⟨oc,od,kV,doc,pm,an,θ,ct,osl,rfl,_⟩:=F.ex
   exact λs us hl=>.of_eq (b _ _ _ _ _ _ us hl)⟩
  refine⟨λn=>if n=k then a else f n,λn=>if n=k then d0 else d n,⟨?_,?_⟩⟩
  .simp only[if_true];exact g0
  .exact AllG.congr (λn hn=>by rw[if_neg (by omega),if_neg (by omega)];exact⟨rfl,rfl⟩) g
theorem AllG.pre:∀ {a b:List Df} {k:Nat},AllG K mg f d k (a++b)->AllG K mg f d k a
 |[],_,_,_=>ba
 |_::_,_,_,h=>⟨h.1,AllG.pre h.2⟩
theorem OkD.g(h:OkD K D es bl a fd s)(g:DOk K mg D.q D.st a fd D.ps)(e:D.x=D.q:=by rfl):OkG P w K mg base D es bl a fd s:=λT=>⟨CX0,λX' _ _=>Er X',h _ _ _ _ _ (by rw[e];exact g.F) T⟩
theorem OkX.g(h:OkX K D es bl a fd s)(g:DOk K mg D.q D.st a fd D.ps)(e:D.x=D.q:=by rfl):OkG P w K mg base D es bl a fd s:=λT=>⟨CXE P w,λX' e1 e2=>e1▸e2▸Vq X',h _ _ _ _ _ (by rw[e];exact g.F) T⟩
def fnE(f:Nat->Addr)(d:Nat->bB):Nat->List (Df×Sp)->List Ent
 |_,[]=>[]
 |k,p::r=>⟨p.1.lv,p.1.q,.fn (Jv p.1 (f k) (d k) p.2)⟩::fnE f d (k+1) r
noncomputable def aj4(P:bq)(w:cb)(K:ac)(mg:Str->Option Value)(base:Heap)(es:List Ent)(bl:List Str)(f:Nat->Addr)(d:Nat->bB):Nat->List (Df×Sp)->Prop
 |_,[]=>True
 |k,p::r=>OkG P w K mg base p.1 es bl (f k) (d k) p.2/\aj4 P w K mg base es bl f d (k+1) r
theorem Y8:∀ {L:List (Df×Sp)} {k:Nat},AllG K mg f d k (L.map (·.1))->aj4 P w K mg base es bl f d k L->AllE P w K mg base es bl (fnE f d k L)
 |[],_,_,_=>ba
 |_::_,_,g,o=>⟨λT=>⟨g.1.1.m,g.1.1.F.kp,o.1 T,ak _,bp8 rfl g.1.1.b,.nil⟩,Y8 g.2 o.2⟩
noncomputable def AllM(K:ac)(c:Addr)(f:Nat->Addr)(d:Nat->bB):Nat->List Df->Prop
 |_,[]=>True
 |k,D::r=>(MOk K D.x D.q D.st (f k) (d k) D.ps/\Uj K c D.x (f k))/\AllM K c f d (k+1) r
theorem AllM.congr:∀ {L:List Df} {k:Nat},(∀n,k<=n->f' n=f n/\d' n=d n)->AllM K c f d k L->AllM K c f' d' k L
 |[],_,_,_=>ba
 |_::_,k,e,h=>⟨by rw[(e k (ak _)).1,(e k (ak _)).2];exact h.1,AllM.congr (λn hn=>e n (by omega)) h.2⟩
def aj7(K:ac)(c:Addr):List Df->Prop
 |[]=>True
 |D::r=>(∃a,bp K (.ref c) D.x=some (some (.ref a))/\MetD K D.x D.q D.st a)/\aj7 K c r
noncomputable def bg9:List Df->Prop
 |[]=>True
 |D::r=>aj9 D/\bg9 r
theorem Za(d₀:bB):∀ {L:List Df} (k:Nat),aj7 K c L->bg9 L -> ∃(f:Nat->Addr)(d:Nat->bB),AllM K c f d k L
 |[],_,_,_=>⟨λ_=>0,λ_=>d₀,ba⟩
 | D::r,k,⟨⟨a,i,q⟩,t⟩,⟨b,bs⟩=>by
  obtain⟨f,d,g⟩:=Za d₀ (k+1) t bs
  obtain⟨d0,g0⟩:=q.ok (ps:=D.ps) b
  refine⟨λn=>if n=k then a else f n,λn=>if n=k then d0 else d n,⟨?_,?_⟩⟩
  .simp only[if_true];exact⟨g0,i,g0.i,g0.F.kp⟩
  .exact AllM.congr (λn hn=>by rw[if_neg (by omega),if_neg (by omega)];exact⟨rfl,rfl⟩) g
noncomputable def AllC(mg:Str->Option Value)(u:Nat->Value):Nat->List (Str×V)->Prop
 |_,[]=>True
 |k,c::r=>(mg c.1=some (u k)/\RelV c.2 (u k))/\AllC mg u (k+1) r
theorem AllC.congr:∀ {L:List (Str×V)} {k:Nat},(∀n,k<=n->u' n=u n)->AllC mg u k L->AllC mg u' k L
 |[],_,_,_=>ba
 |_::_,k,e,h=>⟨by rw[e k (ak _)];exact h.1,AllC.congr (λn hn=>e n (by omega)) h.2⟩
noncomputable def aj6(K:ac):List (Str×V)->Prop
 |[]=>True
 |(x,v)::r=>(∃u,c7 K bA x=some (some u)/\RelV v u)/\aj6 K r
theorem con_mk(a:c7 K bA x=some (some u))(r:RelV v u):∃u,c7 K bA x=some (some u)/\RelV v u:=⟨u,a,r⟩
theorem Y7(X:K.In h)(G:h.Ns bA mg):∀ {L:List (Str×V)} (k:Nat),aj6 K L -> ∃u:Nat->Value,AllC mg u k L
 |[],_,_=>⟨λ_=>.none,ba⟩
 | c::r,k,⟨⟨v,i,q⟩,t⟩=>by
  obtain⟨u,g⟩:=Y7 X G (k+1) t
  refine⟨λn=>if n=k then v else u n,⟨?_,?_⟩⟩
  .simp only[if_true];exact⟨ig X G i,q⟩
  .exact AllC.congr (λn hn=>if_neg (by omega)) g
def bn2(u:Nat->Value):Nat->List (Str×V)->List Ent
 |_,[]=>[]
 |k,c::r=>⟨0,c.1,.val c.2 (u k)⟩::bn2 u (k+1) r
theorem Um:∀ {L:List (Str×V)} {k:Nat},AllC mg u k L->AllE P w K mg base es bl (bn2 u k L)
 |[],_,_=>ba
 |_::_,_,h=>⟨λ_=>h.1,Um h.2⟩
def bk0(K:ac):List Str->Prop
 |[]=>True
 |x::r=>c7 K bA x=some none/\bk0 K r
theorem Zb(X:K.In h)(G:h.Ns bA mg):∀ {L:List Str},bk0 K L -> ∀x∈L,mg x=none
 |[],_,_,hx=>by cases hx
 | _::_,z,x,hx=>by
  rcases List.mem_cons.mp hx with rfl|hx
  .exact PySem.W.mg_none_of X G z.1
  .exact Zb X G z.2 x hx
structure a51 (K:ac) (x:Str) (c f:Addr):Prop where
 a:c7 K bA x=some (some (.ref c))
 i:bp K (.ref c) "__init__"=some (some (.ref f))
 kp:br K (.ref c)=true
 mm:dJ K c=true
 cl:Cls K c
theorem own_mk {x:Str}{c f:Addr}(a:c7 K bA x=some (some (.ref c)))(i:bp K (.ref c) "__init__"=some (some (.ref f)))(k:br K (.ref c)=true)(m:dJ K c=true)(pg:fC K c cJ=true)(hd:gx K c=true)(po:jn K c=true)(sa:bp K (.ref c) "__setattr__"=some (some (.builtin "object.__setattr__"))):a51 K x c f:=⟨a,i,k,m,⟨pg,hd,po,sa⟩⟩
structure a48 (K:ac) (D:Df) (f:Addr) (d:bB) (vs:List V) (us:List Value):Prop where
 F:∃dV,FunD K D.x D.q D.st f d dV
 b:∀j,j<=vs.length->Binds K d D.ps (us.drop j)
 w:Vals vs us
 i:dn K (.ref f)=true
noncomputable def bh0(D:Df)(ds:List Value):Prop:=∀(T:Addr)(kV doc pm:Value)(an:Option Addr)(θ ct:Value)(us:List Value),us.length+ds.length=D.ps.length -> ∃k:Option (Array Value)->Sem (List (Str×Value)),kz (cL D.x D.q (Cs D.st) (Bb D.st) (Am D.st) (.ref T) kV doc pm an θ ct) ⟨us,[]⟩=mq (.ref T) >>= k/\k (some #[.none])=pure (D.ps.zip (us++ds))
theorem ini1 {D:Df}{f T:Addr}{oc tc:Value}{od an td:Option Addr}{osl ts:Array (Option Value)}{tn:Nat}{kV doc pm θ ct:Value}(b0:bh0 D [])(b1:bh0 D [.none])(hm:0<D.np/\D.np<=D.N.length)(l:K.lookup f=some ⟨oc,od,.func (cL D.x D.q (Cs D.st) (Bb D.st) (Am D.st) (.ref T) kV doc pm an θ ct),osl⟩)(c:dS K θ D.q=true)(k:br K (.ref f)=true)(i:dn K (.ref f)=true)(ld:K.lookup T=some ⟨tc,td,.seq #[.none] tn,ts⟩):∃d,a48 K D f d [.non] [.none]:=by
 have hl:D.ps.length=D.np:=by unfold Df.ps;rw[aJ];omega
 refine⟨_,⟨_,a82 l c k⟩,λj hj=>?_,.cons rfl .nil,i⟩
 match j,hj with
 |0,_=>exact Kt (D.np - 1) rfl ld rfl (by rw[hl,List.drop_zero,cS];omega) λus e=>b1 T _ _ _ _ _ _ us (by rw[hl,cS];omega)
 |1,_=>exact Kt D.np rfl ld rfl (by rw[hl];rfl) λus e=>b0 T _ _ _ _ _ _ us (by rw[hl];exact e)
theorem bn1 {x:Str}{c:Addr}{D:Df}{f:Addr}{d:bB}{vs:List V}{us:List Value}{s:Sp}{h:Heap}(X:K.In h)(G:h.Ns bA mg)(o:a51 K x c f)(i:a48 K D f d vs us)(ok:OkD K D es bl f d s)(T:Kr P w K mg base es bl (D.lv+1)):ClsIn P w K mg base (D.lv+1) x c (some ⟨f,d,D.ps,D.lv,s,vs,us⟩):=
 let ⟨_,F⟩:=i.F
 ⟨ig X G o.a,o.kp,o.mm,o.i,i.i,⟨F.kp,⟨CX0,λX' _ _=>Er X',ok _ _ _ _ _ F λm h=>T m (d7 h)⟩,dQ _,i.b,i.w⟩,ak _⟩
noncomputable def bp6(c:Addr)(f:Nat->Addr)(d:Nat->bB):Nat->List (Df×Sp)->List Ent
 |_,[]=>[]
 |k,p::r=>⟨p.1.lv, "", .met p.1.x [⟨c,Jv p.1 (f k) (d k) p.2⟩]⟩::bp6 c f d (k+1) r
noncomputable def OkM(K:ac)(D:Df)(es:List Ent)(bl:List Str)(f:Addr)(d:bB)(s:Sp):Prop:=∀(P:bq)(w:cb)(mg:Str->Option Value)(base:Heap)(dV:Value),FunD K D.x D.q D.st f d dV->Kr P w K mg base es bl D.lv -> ∃C,(∀X':Cx,X'.prog=P->X'.w=w->Kq C X')/\FnOk P w K mg base C D.lv f d D.ps s
theorem OkD.m(h:OkD K D es bl a e s):OkM K D es bl a e s:=λP w mg base dV F T=>⟨CX0,λX' _ _=>Er X',h P w mg base dV F T⟩
theorem OkX.m(h:OkX K D es bl a e s):OkM K D es bl a e s:=λP w mg base dV F T=>⟨CXE P w,λX' e1 e2=>e1▸e2▸Vq X',h P w mg base dV F T⟩
noncomputable def aj5(K:ac)(es:List Ent)(bl:List Str)(f:Nat->Addr)(d:Nat->bB):Nat->List (Df×Sp)->Prop
 |_,[]=>True
 |k,p::r=>OkM K p.1 es bl (f k) (d k) p.2/\aj5 K es bl f d (k+1) r
theorem bp7(cl:Cls K c)(g:MOk K D.x D.q D.st a e D.ps/\Uj K c D.x a)(ok:OkM K D es bl a e s)(h:D.lv<=n)(T:Kr P w K mg base es bl n):MetIn P w K mg base n D.x ⟨c,Jv D a e s⟩:=⟨cl,g.2,g.1.F.kp,ok _ _ _ _ _ g.1.F λm q=>T m (aL q h),h,bp8 rfl g.1.b,.nil⟩
theorem Uo(cl:Cls K c):∀ {L:List (Df×Sp)} {k:Nat},AllM K c f d k (L.map (·.1))->aj5 K es bl f d k L->AllE P w K mg base es bl (bp6 c f d k L)
 |[],_,_,_=>ba
 |_::_,_,g,o=>⟨λT=>one (bp7 cl g.1 o.1 (ak _) T),Uo cl g.2 o.2⟩
theorem b03(X:K.In h)(G:h.Ns bA mg)(a:c7 K bA x=some (some (.ref c))):GBIn P w K mg base n x (.val (.ref c) (.ref c)):=⟨ig X G a,rfl⟩
def AllN(K:ac)(c:Addr):List Str->Prop
 |[]=>True
 |x::r=>bp K (.ref c) x=some none/\AllN K c r
theorem AllN.all:∀ {L:List Str},AllN K c L -> ∀x∈L,NoAttr K c x
 |[],_,_,hx=>by cases hx
 | _::_,z,x,hx=>by
  rcases List.mem_cons.mp hx with rfl|hx
  .exact z.1
  .exact AllN.all z.2 x hx
end
section
variable {P:List Value->Prop}
@[elab_as_elim] theorem b42 (h:∀a,P [a]):∀us:List Value,us.length=1->P us
 |[a],_=>h a
@[elab_as_elim] theorem len2 (h:∀a b,P [a,b]):∀us:List Value,us.length=2->P us
 |[a,b],_=>h a b
@[elab_as_elim] theorem len3 (h:∀a b c,P [a,b,c]):∀us:List Value,us.length=3->P us
 |[a,b,c],_=>h a b c
@[elab_as_elim] theorem b43 (h:∀a b c d,P [a,b,c,d]):∀us:List Value,us.length=4->P us
 |[a,b,c,d],_=>h a b c d
@[elab_as_elim] theorem b44 (h:∀a b c d e,P [a,b,c,d,e]):∀us:List Value,us.length=5->P us
 |[a,b,c,d,e],_=>h a b c d e
end
end L2
namespace K14
open PySem L2
set_option genInjectivity false in
set_option genSizeOfSpec false in
structure Adr where
 f:Nat->Addr
 d:Nat->bB
 u:Nat->Value
 f_zv:Addr
 d_zv:bB
 c_zbm:Addr
 m_zbm:Nat->Addr
 e_zbm:Nat->bB
 c_zbk:Addr
 c_zbl:Addr
end K14
namespace K14
open PySem L2 Pn
structure Ar (K:ac) (t:Adr):Prop where
 pf:bl9 K t.c_zbm t.c_zbl
 k1:dU K (.ref t.c_zbl) (.ref t.c_zbk)=some true
 k2:dU K (.ref t.c_zbl) (.type "ValueError")=some true
def Az(ns:List Int)(k:Nat):Int:=ns.getD k ((k+3) * 7919)
def ab0(c:Int)(j:Nat):Nat:=97+((c / 26+7 * (1+(j:Int)) * (1+(j:Int))) % 26).toNat
noncomputable def B7(c:Int)(k:Nat):Str:=
 if c % 4=3 then ⟨([97+((c / 4+(k:Int) / 8) % 26).toNat]++((aD 7).map (ab0 c)).take (k % 8)).toArray⟩
 else
  let base:=([97+(c / 256 % 26).toNat]++(aD 7).map (ab0 c)).take (1+c / 4 % 8).toNat
  let at_:=(c / 32 % (1+c / 4 % 8)).toNat
  ⟨(base.take at_++[97+((c / 6656+(k:Int)) % 26).toNat]++base.drop (at_+1)).toArray⟩
def Fw(acc:List (List Nat))(n:Nat):List (List Nat):=acc.flatMap λa=>(aD n).map λj=>a++[j]
def Cc(sw:Sw):List (List Nat):=(sw.map (·.2.length)).foldl Fw [[]]
noncomputable def DigAt(H:Hp)(r:Addr)(rows:List (List Nat)):Prop:=∃ds:List (List Nat×Addr),ds.map (·.1)=rows/\H r=some (.lst (ds.map λx=>.ref x.2))/\∀x∈ds,H x.2=some (.lst (x.1.map λn:Nat=>V.int (n:Int)))
def b06:V->Bool
 |.int _=>true
 |_=>false
def okB(sw rule:Sw):Prop:=(rule.map (·.1)).Nodup/\∀e∈rule,Hq sw e
def Ce(sw:Sw)(i p:Nat):Option Str:=(Ae sw)[i]?.bind λr=>r[p]?
def Dg(sw:Sw)(i p:Nat):Nat:=((Cc sw)[i]?.bind λd=>d[p]?).getD 0
def nmS(sw:Sw)(k:Nat):Str:=(sw.map (·.1)).getD k cJ
def Bs(sw:Sw)(ws:List Str)(i j:Nat):Bool:=ws.all λx=>decide (Ce sw i (As sw x)=Ce sw j (As sw x))
def Cn(sw:Sw)(ps:List Nat)(i j:Nat):Bool:=decide (ps.map (Dg sw i)=ps.map (Dg sw j))
noncomputable def Ep(n c w:Nat)(like:Nat->Nat->Bool):Option (Nat×Nat):=
 (aD n).findSome? λi=>if (c.testBit i&&w.testBit i)=true then ((aD n).find? λj=>w.testBit j && !c.testBit j&&like i j).map λj=>(i,j) else none
def Vp:Option (Nat×Nat)->Dt
 |none=>.at_ .non
 |some (i,j)=>.tup [.at_ (.int (i:Int)),.at_ (.int (j:Int))]
def Ch(n a b:Nat)(like:Nat->Nat->Bool):Bool:=(aD n).any λi=>a.testBit i&&(aD n).any λj=>b.testBit j&&like i j
noncomputable def A0 {α:Type}:Nat->List α->List (List α)
 |0,_=>[[]]
 |k+1,l=>(aD l.length).flatMap λi=>(l[i]?).elim [] λx=>(A0 k (l.drop (i+1))).map (x :: ·)
noncomputable def Bq {α:Type}(l:List α):List (List α):=(aD l.length).flatMap λk=>A0 k l
def Bu(a b:Nat):Nat:=a - (a &&& b)
noncomputable def Cb(sw:Sw)(c w:Nat):List Str:=((Bq (sw.map (·.1))).find? λws=>!Ch (Ae sw).length (c &&& w) (Bu w c) (Bs sw ws)).getD (sw.map (·.1))
noncomputable def Ea(n:Nat):List (List Nat):=Bq (aD n)++[aD n]
noncomputable def Ot(sw:Sw)(c w:Nat):List Nat:=((Ea sw.length).find? λps=>(Ep (Ae sw).length c w (Cn sw ps)).isNone).getD []
abbrev nO(l:List Nat):HO:=.lst (l.map λn:Nat=>V.int (n:Int))
noncomputable def an1(H:Hp)(l:Addr)(ps:List (V×V)):Prop:=∃Ts:List Addr,H l=some (.lst (Ts.map V.ref))/\Ts.length=ps.length/\∀(j:Nat) x y T,ps[j]?=some (x,y)->Ts[j]?=some T->H T=some (.tup [x,y])
noncomputable def He:List (List Str×List Sw)->Str->List Sw->List (List Str×List Sw)
 |[],z,bs=>[([z],bs)]
 |g::gs,z,bs=>if g.2=bs then (g.1++[z],g.2)::gs else g::He gs z bs
noncomputable def Dq(rows:List (List Str))(p:Nat)(f:Nat->List Sw)(m:Nat)(gs:List (List Str×List Sw))(z:Str):List (List Str×List Sw):=if m &&& Be rows p z=0 then gs else He gs z (f (m &&& Be rows p z))
noncomputable def grF(rows:List (List Str))(p:Nat)(f:Nat->List Sw)(m:Nat)(zs:List Str):List (List Str×List Sw):=zs.foldl (Dq rows p f m) []
def Iu(x:Str)(gs:List (List Str×List Sw)):List Sw:=if gs.length=1 then gs.flatMap (·.2) else gs.flatMap λg=>g.2.map ((x,g.1) :: ·)
def Gp(sw:Sw)(x:Str):List Str:=(sw[As sw x]?).elim [] (·.2)
noncomputable def bxF(sw:Sw)(c:Nat):List Str->Nat->List Sw
 |[],m=>if m &&& c=0 then [] else [[]]
 |x::ws,m=>if m &&& c=0 then [] else if Bu m c=0 then [[]] else Iu x (grF (Ae sw) (As sw x) (bxF sw c ws) m (Gp sw x))
def E1(sw:Sw)(i:Nat)(b:Sw):Bool:=b.all λe=>decide ((Ce sw i (As sw e.1)).getD cJ∈e.2)
def okE(e:Str×List Str):Prop:=e.1.length<=8/\e.2.length<=4/\∀z∈e.2,z.length<=8
def Vn(b:Sw):Prop:=b.length<=5/\∀e∈b,okE e
def Aw(e:Str×List Str):Str:=e.1 ++ "=" ++ bI "," e.2
def A9(b:Sw):Str:=bI "&" (b.map Aw)
def Ct(bs:List Sw):Str:=if bs=[] then "-" else if bs=[[]] then "*" else bI "|" (bs.map A9)
def TermAt(H:Hp)(v:V)(e:Str×List Str):Prop:=∃T u,v=.ref T/\H T=some (.tup [.str e.1,.ref u])/\H u=some (Dc e.2)
def BoxAt(H:Hp)(a:Addr)(b:Sw):Prop:=∃es:List ((Str×List Str)×V),es.map (·.1)=b/\H a=some (.lst (es.map (·.2)))/\∀e∈es,TermAt H e.2 e.1
noncomputable def BxAt(ok:Addr->Prop)(H:Hp)(l:Addr)(bs:List Sw):Prop:=∃es:List (Sw×Addr),es.map (·.1)=bs/\ok l/\H l=some (.lst (es.map λx=>.ref x.2))/\∀e∈es,ok e.2/\e.2≠l/\BoxAt H e.2 e.1
abbrev GE:=(List Str×List Sw)×Addr×Addr×Addr
def gSs(g:Addr)(es:List GE):List Addr:=g::es.map (·.2.2.1)
def gOk(ok:Addr->Prop)(g:Addr)(es:List GE):Addr->Prop:=λa=>ok a /\ ¬ a∈gSs g es
structure GrE (mk:List V->HO) (ok:Addr->Prop) (H:Hp) (g:Addr) (es:List GE):Prop where
 o:ok g
 at_:H g=some (.lst (es.map λe=>.ref e.2.1))
 nd:(gSs g es).Nodup
 one:∀e∈es,H e.2.1=some (mk [.ref e.2.2.1,.ref e.2.2.2])/\H e.2.2.1=some (A5 e.1.1)/\ok e.2.2.1 /\ ¬ e.2.1∈gSs g es/\BxAt (gOk ok g es) H e.2.2.2 e.1.2
def gdB(sw:Sw)(b:Sw):Prop:=b≠[]/\b.length<=5/\okB sw b
def gdC(sw:Sw)(bs:List Sw):Prop:=bs.length<=1024/\(bs=[[]] \/ ∀b∈bs,gdB sw b)
def unB(sw:Sw)(bs:List Sw):Nat:=E9 (bs.map (D9 sw))
def Fi(sw:Sw)(i p:Nat):Str:=(Ce sw i p).getD cJ
def chB(sw:Sw)(i:Nat):Sw:=(aD sw.length).map λp=>(nmS sw p,[Fi sw i p])
def F0(sw:Sw):V->Option Nat
 |.int i=>if 0<=i/\i<((Ae sw).length:Int) then some i.toNat else none
 |_=>none
noncomputable def thV(K:ac)(H:Hp)(v:V):Prop:=(∃i,v=.int i)\/(∃b,v=.bl b)\/(∃z,v=.str z)\/v=.non \/ ∃a xs,v=.ref a/\SqL K H a xs
def Bad(t:Adr)(H:Hp)(E:XK):Prop:=∀H' a,Same H H'->H' a=some (flO a t.c_zbl none)->E (.ref a) none H'
section
noncomputable def Yu(K:ac)(t:Adr):Sp:=λvs H Q _=>∃(a:Addr)(ns:List Nat),vs=[.ref a]/\SqL K H a (ns.map λn:Nat=>V.int (n:Int))/\(∀n∈ns,n<=1000)/\Q (.int (ah7 ns)) H
noncomputable def Nt(K:ac)(t:Adr):Sp:=λvs H Q _=>∃(a:Addr)(ms:List Int),vs=[.ref a]/\SqL K H a (ms.map V.int)/\Q (.int (Hx ms)) H
noncomputable def a17(K:ac)(t:Adr):Sp:=λvs H Q _=>∃(z:Str)(lo hi:Int),vs=[.str z,.int lo,.int hi]/\z.length<=1000/\Q (.bl (decide (lo<=(z.length:Int))&&decide ((z.length:Int)<=hi))) H
noncomputable def Yi(K:ac)(t:Adr):Sp:=λvs H Q _=>∃c,vs=[.str ⟨#[c]⟩]/\Q (.bl (Bw c)) H
noncomputable def To(K:ac)(t:Adr):Sp:=λvs H Q _=>∃z,vs=[.str z]/\okW z/\∀H',Same H H'->Q (.bl true) H'
noncomputable def aa4(K:ac)(t:Adr):Sp:=λvs H Q _=>∃(a:Addr)(l:List Str),vs=[.ref a]/\SqL K H a (l.map V.str)/\okL l/\∀H',Same H H'->Q (.bl true) H'
noncomputable def Yj(K:ac)(t:Adr):Sp:=λvs H Q _=>∃(a b:Addr)(w:Str)(l:List Str),vs=[.ref a]/\H a=some (.tup [.str w,.ref b])/\H b=some (A5 l)/\okW w/\Iy l/\∀H',Same H H'->Q (.bl true) H'
noncomputable def a08(K:ac)(t:Adr):Sp:=λvs H Q _=>∃(a:Addr)(sw:Sw),vs=[.ref a]/\SwIn any H a sw/\okSw sw/\∀H' d,Same H H'->SwAt (fresh H) H' d sw->Q (.ref d) H'
noncomputable def az7(K:ac)(t:Adr):Sp:=λvs H Q _=>∃(d:Addr)(sw:Sw),vs=[.ref d]/\SwAt any H d sw/\okSw sw/\∀H' l,Same H H'->TupsAt (fresh H) H' l (Ae sw)->Q (.ref l) H'
noncomputable def az5(K:ac)(t:Adr):Sp:=λvs H Q _=>∃(l:Addr)(rows:List (List Str)),vs=[.ref l]/\TupsAt any H l rows/\rows.Nodup/\rows.length<=256/\∀H' n,Same H H'->NumAt (fresh H) H' n rows->Q (.ref n) H'
noncomputable def a02(K:ac)(t:Adr):Sp:=λvs H Q _=>∃(d l:Addr)(sw:Sw),vs=[.ref d,.ref l]/\SwAt any H d sw/\TupsAt any H l (Ae sw)/\okSw sw/\∀H' s,Same H H'->SetsAt (fresh H) H' s sw->Q (.ref s) H'
noncomputable def a12(K:ac)(t:Adr):Sp:=λvs H Q _=>∃(r:Addr)(rule:Sw),vs=[.ref r]/\RuleAt any H r rule/\(rule.map (·.1)).Nodup/\rule.length<=100/\∀H' c,Same H H'->RuleAt (fresh H) H' c rule->Q (.ref c) H'
noncomputable def a14(K:ac)(t:Adr):Sp:=λvs H Q _=>∃(p l s:Addr)(sw:Sw),vs=[.ref p]/\SelfAt t.c_zbm any H p l s/\TupsAt any H l (Ae sw)/\Q (.int (Ae sw).length) H
noncomputable def az9(K:ac)(t:Adr):Sp:=λvs H Q _=>∃(p l s:Addr)(sw:Sw),vs=[.ref p]/\SelfAt t.c_zbm any H p l s/\TupsAt any H l (Ae sw)/\(Ae sw).length<=256/\Q (.int (Rj sw)) H
noncomputable def a15(K:ac)(t:Adr):Sp:=λvs H Q _=>∃(p a l s:Addr)(w:Str)(ss:List Str)(sw:Sw),vs=[.ref p,.str w,.ref a]/\SelfAt t.c_zbm any H p l s/\SetsAt any H s sw/\okSw sw/\H a=some (A5 ss)/\Hq sw (w,ss)/\∀H',Same H H'->Q (.int (Lb sw (w,ss))) H'
noncomputable def a03(K:ac)(t:Adr):Sp:=λvs H Q _=>∃(p r l s:Addr)(sw rule:Sw),vs=[.ref p,.ref r]/\SelfAt t.c_zbm (· ≠ r) H p l s/\TupsAt (· ≠ r) H l (Ae sw)/\SetsAt (· ≠ r) H s sw/\okSw sw/\RuleAt any H r rule/\Ho sw rule/\∀H' c,Same H H'->RuleAt (fresh H) H' c rule->Q (.ref c) H'
noncomputable def Ez(ok:Addr->Prop)(H:Hp)(v:V)(ζ:List Sw):Prop:=(v=.non/\ζ=[]) \/ ∃k,v=.ref k/\RulesAt ok H k ζ
noncomputable def a01(K:ac)(t:Adr):Sp:=λvs H Q _=>∃(p l s:Addr)(ok:Addr->Prop)(v:V)(sw:Sw)(ζ:List Sw),vs=[.ref p,v]/\SelfAt t.c_zbm ok H p l s/\TupsAt ok H l (Ae sw)/\SetsAt ok H s sw/\okSw sw /\
 Ez (λa=>¬ ok a) H v ζ/\(∀r∈ζ,Ho sw r)/\ζ.length<=8/\∀H' k,Same H H'->RulesAt (fresh H) H' k ζ->Q (.ref k) H'
noncomputable def a13(K:ac)(t:Adr):Sp:=λvs H Q _=>∃(p a dx:Addr)(v:V)(sw:Sw)(ζ:List Sw),vs=[.ref p,.ref a,v]/\H p=some (.ins t.c_zbm dx [])/\SwIn (· ≠ p) H a sw/\okSw sw/\Ez (· ≠ p) H v ζ/\(∀r∈ζ,Ho sw r)/\ζ.length<=8/\Hk sw ζ≠0 /\
 ∀H',(∀b o,b≠p->H b=some o->H' b=some o)->PanelAt t.c_zbm (λb=>b=p\/H b=none) H' p sw ζ->Q .non H'
noncomputable def Cw(K:ac)(t:Adr):Sp:=λvs H Q _=>∃(a:Addr)(ns:List Int)(k:Nat),vs=[.ref a,.int k]/\SqL K H a (ns.map V.int)/\Q (.int (Az ns k)) H
noncomputable def Tk(K:ac)(t:Adr):Sp:=λvs H Q _=>∃(c:Int)(n:Nat),vs=[.int c,.int n]/\n<=100/\∀H' l (ns:List Int),Same H H'->H l=none->H' l=some (.lst (ns.map V.int))->ns.length=n->(∀i∈ns,0<=i)->Q (.ref l) H'
noncomputable def J9(K:ac)(t:Adr):Sp:=λvs H Q _=>∃(c:Int)(k:Nat),vs=[.int c,.int k]/\k<=8/\∀H',Same H H'->Q (.str (B7 c k)) H'
noncomputable def a11(K:ac)(t:Adr):Sp:=λvs H Q _=>∃(a:Addr)(ns:List Int),vs=[.ref a]/\SqL K H a (ns.map V.int)/\∀H' l sw,Same H H'->SwIn any H' l sw->okSw sw->Q (.ref l) H'
noncomputable def Yf(K:ac)(t:Adr):Sp:=λvs H Q _=>∃(l:Addr)(sw:Sw),vs=[.ref l]/\SwIn any H l sw/\okSw sw/\∀H' r,Same H H'->DigAt H' r (Cc sw)->Q (.ref r) H'
noncomputable def Yl(K:ac)(t:Adr):Sp:=λvs H Q _=>∃(a l:Addr)(ns:List Int)(sw:Sw),vs=[.ref a,.ref l]/\SqL K H a (ns.map V.int)/\SwIn any H l sw/\okSw sw/\∀H' p ζ,Same H H'->PanelAt t.c_zbm any H' p sw ζ->Q (.ref p) H'
noncomputable def a05(K:ac)(t:Adr):Sp:=λvs H Q _=>∃(p:Addr)(sw:Sw)(ζ:List Sw),vs=[.ref p]/\PanelAt t.c_zbm any H p sw ζ/\okSw sw /\
 ∀H' q (ds:List (((Str×List Str)×Addr)×Addr)),Same H H'->H q=none->ds.map (·.1.1)=sw->H' q=some (.lst (ds.map λx=>.ref x.2))->(∀x∈ds,H' x.2=some (.tup [.str x.1.1.1,.ref x.1.2])/\H' x.1.2=some (Dc x.1.1.2))->Q (.ref q) H'
noncomputable def Yh(K:ac)(t:Adr):Sp:=λvs H Q _=>∃(p r l s:Addr)(sw rule:Sw),vs=[.ref p,.ref r]/\SelfAt t.c_zbm (· ≠ r) H p l s/\TupsAt (· ≠ r) H l (Ae sw)/\SetsAt (· ≠ r) H s sw/\okSw sw/\RuleAt any H r rule/\okB sw rule/\∀H',Same H H'->Q (.int (an5 sw rule)) H'
noncomputable def a09(K:ac)(t:Adr):Sp:=λvs H Q _=>∃(p:Addr)(i:Nat)(x:Str×List Str)(sw:Sw)(ζ:List Sw),vs=[.ref p,.str x.1]/\PanelAt t.c_zbm any H p sw ζ/\okSw sw/\sw[i]?=some x/\∀H' l,Same H H'->an1 H' l (x.2.map λz=>(V.str z,V.int (Cr (Ae sw) i z)))->Q (.ref l) H'
noncomputable def Yp(K:ac)(t:Adr):Sp:=λvs H Q _=>∃(p:Addr)(c w:Nat)(sw:Sw)(ζ:List Sw),vs=[.ref p,.int (c:Int),.int (w:Int)]/\PanelAt t.c_zbm any H p sw ζ/\okSw sw/\c<2 ^ (Ae sw).length/\w<2 ^ (Ae sw).length/\∀H' l,Same H H'->H l=none->H' l=some (A5 (Cb sw c w))->Q (.ref l) H'
noncomputable def Fq(K:ac)(t:Adr):Sp:=λvs H Q _=>∃(r l:Addr)(d:List Nat)(xs:List Int)(m:Nat),vs=[.ref r,.ref l,.int m]/\H r=some (nO d)/\d≠[]/\(∀j∈d,j<4)/\H l=some (.lst (xs.map V.int))/\m<=xs.length/\m<=3/\∀k:Int,0<=k->k<64->Q (.int k) H
noncomputable def Nu(K:ac)(t:Adr):Sp:=λvs H Q _=>∃(r:Addr)(c:Int)(sw:Sw),vs=[.ref r,.int c]/\DigAt H r (Cc sw)/\okSw sw/\∀H' (m:Nat),Same H H'->m<2 ^ (Ae sw).length->Q (.int (m:Int)) H'
noncomputable def Yg(K:ac)(t:Adr):Sp:=λvs H Q _=>∃(r:Addr)(c:Int)(sw:Sw),vs=[.ref r,.int c]/\DigAt H r (Cc sw)/\okSw sw/\∀H' (m:Nat),Same H H'->m<2 ^ (Ae sw).length->Q (.int (m:Int)) H'
noncomputable def Ys(K:ac)(t:Adr):Sp:=λvs H Q _=>∃(r l:Addr)(c w:Nat)(ps:List Nat)(sw:Sw),vs=[.ref r,.int (c:Int),.int (w:Int),.ref l]/\DigAt H r (Cc sw)/\okSw sw/\c<2 ^ (Ae sw).length/\w<2 ^ (Ae sw).length/\H l=some (nO ps)/\ps.length<=5/\(∀p∈ps,p<sw.length)/\∀H' v,Same H H'->At K H' (Vp (Ep (Ae sw).length c w (Cn sw ps))) v->Q v H'
noncomputable def Yk(K:ac)(t:Adr):Sp:=λvs H Q _=>∃n:Nat,vs=[.int n]/\1<=n/\n<=5/\∀H' r,Same H H'->DigAt H' r (Ea n)->Q (.ref r) H'
noncomputable def aa5(K:ac)(t:Adr):Sp:=λvs H Q _=>∃(r:Addr)(c w:Nat)(sw:Sw),vs=[.ref r,.int (c:Int),.int (w:Int),.int (sw.length:Int)]/\DigAt H r (Cc sw)/\okSw sw/\c<2 ^ (Ae sw).length/\w<2 ^ (Ae sw).length/\∀H' l,Same H H'->H' l=some (nO (Ot sw c w))->Q (.ref l) H'
noncomputable def Lz(K:ac)(t:Adr)(n:Nat):Sp:=λvs H Q _=>∃(l:Addr)(k:Nat)(ws:List Str),vs=[.ref l,.int k]/\H l=some (A5 ws)/\ws.length<=5/\k<n/\∀H' r,Same H H'->bm0 (fresh H) H' r (A0 k ws)->Q (.ref r) H'
noncomputable def az8(K:ac)(t:Adr):Sp:=Lz K t 6
noncomputable def Ly(K:ac)(t:Adr)(n:Nat):Sp:=λvs H Q _=>∃(p l:Addr)(a b:Nat)(ws:List Str)(sw:Sw)(ζ:List Sw),vs=[.ref p,.int (a:Int),.int (b:Int),.ref l]/\PanelAt t.c_zbm any H p sw ζ/\okSw sw/\a<2 ^ (Ae sw).length/\b<2 ^ (Ae sw).length/\H l=some (A5 ws)/\ws.length<n/\n<=9/\(∀x∈ws,x∈sw.map (·.1))/\∀H',Same H H'->Q (.bl (!Ch (Ae sw).length a b (Bs sw ws))) H'
noncomputable def az6(K:ac)(t:Adr):Sp:=Ly K t 6
noncomputable def a06(K:ac)(t:Adr):Sp:=λvs H Q _=>∃(g b:Addr)(z:Str)(ok:Addr->Prop)(es:List GE)(bs:List Sw),vs=[.ref g,.str z,.ref b]/\GrE .tup ok H g es/\BxAt (gOk ok g es) H b bs/\(∀a,H a=none->ok a)/\es.length<=4/\(∀e∈es,e.1.1.length<=4) /\
 ∀H' es',es'.map (·.1)=He (es.map (·.1)) z bs->GrE .tup ok H' g es'->(∀a o,¬ ok a->H a=some o->H' a=some o)->Q .non H'
noncomputable def Tj(K:ac)(t:Adr)(n:Nat):Sp:=λvs H Q _=>∃(p l:Addr)(c m:Nat)(ws:List Str)(sw:Sw)(ζ:List Sw),vs=[.ref p,.int (c:Int),.int (m:Int),.ref l]/\PanelAt t.c_zbm any H p sw ζ/\okSw sw/\m<2 ^ (Ae sw).length/\H l=some (A5 ws)/\ws.length<=n/\ws.length<=5/\(∀x∈ws,x∈sw.map (·.1))/\Ch (Ae sw).length (c &&& m) (Bu m c) (Bs sw ws)=false /\
 ∀H' r,Same H H'->BxAt (fresh H) H' r (bxF sw c ws m)->Q (.ref r) H'
noncomputable def bj4(K:ac)(t:Adr):Sp:=Tj K t 6
noncomputable def Yd(K:ac)(t:Adr)(n:Nat):Sp:=λvs H Q _=>∃(p l:Addr)(c m i:Nat)(x:Str×List Str)(ws:List Str)(sw:Sw)(ζ:List Sw),vs=[.ref p,.int (c:Int),.int (m:Int),.ref l]/\PanelAt t.c_zbm any H p sw ζ/\okSw sw/\m<2 ^ (Ae sw).length/\H l=some (A5 (x.1::ws))/\ws.length<n/\ws.length<5/\sw[i]?=some x/\(∀x∈ws,x∈sw.map (·.1))/\Ch (Ae sw).length (c &&& m) (Bu m c) (Bs sw (x.1::ws))=false /\
 ∀H' g es,Same H H'->GrE .tup (fresh H) H' g es->es.map (·.1)=grF (Ae sw) i (bxF sw c ws) m x.2->Q (.ref g) H'
noncomputable def Yo(K:ac)(t:Adr):Sp:=λvs H Q _=>∃(p:Addr)(c w:Nat)(sw:Sw)(ζ:List Sw),vs=[.ref p,.int (c:Int),.int (w:Int)]/\PanelAt t.c_zbm any H p sw ζ/\okSw sw/\c<2 ^ (Ae sw).length/\w<2 ^ (Ae sw).length/\∀H' r,Same H H'->BxAt (fresh H) H' r (bxF sw c (Cb sw c w) w)->Q (.ref r) H'
def Yn(K:ac)(t:Adr):Sp:=λvs H Q _=>∃(u:Addr)(e:Str×List Str),vs=[.str e.1,.ref u]/\H u=some (Dc e.2)/\okE e/\Q (.str (Aw e)) H
def Tn(K:ac)(t:Adr):Sp:=λvs H Q _=>∃(a:Addr)(b:Sw),vs=[.ref a]/\BoxAt H a b/\Vn b/\∀H',Same H H'->Q (.str (A9 b)) H'
noncomputable def Nr(K:ac)(t:Adr):Sp:=λvs H Q _=>∃(p:Addr)(c w:Nat)(sw:Sw)(ζ:List Sw),vs=[.ref p,.int (c:Int),.int (w:Int)]/\PanelAt t.c_zbm any H p sw ζ/\okSw sw/\c<2 ^ (Ae sw).length/\w<2 ^ (Ae sw).length/\∀H',Same H H'->Q (.str (Ct (bxF sw c (Cb sw c w) w))) H'
noncomputable def Yq(K:ac)(t:Adr):Sp:=λvs H Q _=>∃v,vs=[v]/\thV K H v/\Q (.bl (b06 v)) H
noncomputable def a00(K:ac)(t:Adr):Sp:=λvs H Q E=>∃(p:Addr)(v:V)(sw:Sw)(ζ:List Sw),vs=[.ref p,v]/\PanelAt t.c_zbm any H p sw ζ/\thV K H v/\(∀n,F0 sw v=some n->Q .non H)/\(F0 sw v=none->Bad t H E)
noncomputable def a16(K:ac)(t:Adr):Sp:=λvs H Q E=>∃(p:Addr)(v:V)(sw:Sw)(ζ:List Sw),vs=[.ref p,v]/\PanelAt t.c_zbm any H p sw ζ/\thV K H v/\(∀n,F0 sw v=some n -> ∀a r,(Ae sw)[n]?=some r->H a=some (Dc r)->Q (.ref a) H)/\(F0 sw v=none->Bad t H E)
noncomputable def a04(K:ac)(t:Adr):Sp:=λvs H Q E=>∃(p:Addr)(v:V)(sw:Sw)(ζ:List Sw),vs=[.ref p,v]/\PanelAt t.c_zbm any H p sw ζ/\okSw sw/\thV K H v/\(∀n,F0 sw v=some n -> ∀H' l,Same H H'->an1 H' l ((aD sw.length).map λq=>(V.str (nmS sw q),V.str (Fi sw n q)))->Q (.ref l) H')/\(F0 sw v=none->Bad t H E)
noncomputable def aa6(K:ac)(t:Adr):Sp:=λvs H Q E=>∃(p:Addr)(v:V)(sw:Sw)(ζ:List Sw),vs=[.ref p,v]/\PanelAt t.c_zbm any H p sw ζ/\okSw sw/\thV K H v/\(∀n,F0 sw v=some n -> ∀H',Same H H'->Q (.str (A9 (chB sw n))) H')/\(F0 sw v=none->Bad t H E)
noncomputable def Ye(K:ac)(t:Adr):Sp:=λvs H Q _=>∃(l r:Addr)(i:Nat)(d:List Nat)(sw:Sw),vs=[.ref l,.ref r]/\SwIn any H l sw/\okSw sw/\(Cc sw)[i]?=some d/\H r=some (nO d)/\∀H',Same H H'->Q (.str (A9 (chB sw i))) H'
noncomputable def a07(K:ac)(t:Adr):Sp:=λvs H Q _=>∃(p:Addr)(v:V)(sw:Sw)(ζ:List Sw),vs=[.ref p,v]/\PanelAt t.c_zbm any H p sw ζ/\okSw sw/\thV K H v/\F0 sw v=none/\∀H',Same H H'->Q (.bl true) H'
noncomputable def Yt(K:ac)(t:Adr):Sp:=λvs H Q _=>∃(b sw:Sw),vs=[.str (A9 b)]/\okSw sw/\gdB sw b/\∀H' d,Same H H'->RuleAt (fresh H) H' d b->Q (.ref d) H'
noncomputable def Tm(K:ac)(t:Adr):Sp:=λvs H Q _=>∃(p:Addr)(bs:List Sw)(sw:Sw)(ζ:List Sw),vs=[.ref p,.str (Ct bs)]/\PanelAt t.c_zbm any H p sw ζ/\okSw sw/\gdC sw bs/\∀H',Same H H'->Q (.int (unB sw bs:Nat)) H'
noncomputable def a10(K:ac)(t:Adr):Sp:=λvs H Q _=>∃(l r:Addr)(b sw:Sw),vs=[.ref l,.ref r,.str (A9 b)]/\SwIn any H l sw/\okSw sw/\DigAt H r (Cc sw)/\gdB sw b/\∀H',Same H H'->Q (.int (D9 sw b:Nat)) H'
noncomputable def Ym(K:ac)(t:Adr):Sp:=λvs H Q _=>∃(l r:Addr)(bs:List Sw)(sw:Sw),vs=[.ref l,.ref r,.str (Ct bs)]/\SwIn any H l sw/\okSw sw/\DigAt H r (Cc sw)/\gdC sw bs/\∀H',Same H H'->Q (.int (unB sw bs:Nat)) H'
noncomputable def Tl(K:ac)(t:Adr):Sp:=λvs H Q _=>∃(l:Addr)(bs:List Sw)(sw:Sw),vs=[.ref l,.str (Ct bs)]/\SwIn any H l sw/\okSw sw/\gdC sw bs/\∀H' q ps,Same H H'->H' q=some (nO ps)->ps.Pairwise (· < ·)->(∀p,p∈ps ↔ p<sw.length/\∃b∈bs,nmS sw p∈b.map (·.1))->Q (.ref q) H'
noncomputable def Yr(K:ac)(t:Adr):Sp:=λvs H Q _=>∃(l r p:Addr)(c w:Nat)(sw:Sw)(ζ:List Sw),vs=[.ref l,.ref r,.ref p,.int (c:Int),.int (w:Int)]/\SwIn any H l sw/\okSw sw/\DigAt H r (Cc sw)/\PanelAt t.c_zbm any H p sw ζ/\c<2 ^ (Ae sw).length/\w<2 ^ (Ae sw).length/\∀H',Same H H'->Q (.bl true) H'
noncomputable def Tp(K:ac)(t:Adr):Sp:=λvs H Q _=>∃(a:Addr)(ns:List Int),vs=[.ref a]/\SqL K H a (ns.map V.int)/\ns.length<=63/\∀H',Q (.bl true) H'
end
end K14
namespace K14
open PySem L2
def top(i:Nat):Stmt:=PySem.Challenge.pw_manyleaf_k14_told_and_read_back.main.body.getD i (.Pass ⟨0,0,0,0⟩)
noncomputable def bl:List Str:=["ValueError", "all", "bool", "dict", "enumerate", "int", "isinstance", "len", "list", "range", "set", "sorted", "str", "tuple", "zip"]
abbrev am2:Df:=⟨"union_of", "union_of", top 8,["sets", "choices", "one"],1,1⟩
abbrev am0:Df:=⟨"read_box", "read_box", top 13,["text", "terms", "term", "sides"],1,1⟩
abbrev a44:Df:=⟨"many", "Panel.many", Dh (top 37) 3,["self"],1,1⟩
abbrev a38:Df:=⟨"all_choices", "Panel.all_choices", Dh (top 37) 9,["self"],1,2⟩
abbrev bl5:Df:=⟨"has_length", "has_length", top 29,["thing", "least", "greatest"],3,1⟩
abbrev ak4:Df:=⟨"is_letter", "is_letter", top 30,["sign"],1,1⟩
abbrev am3:Df:=⟨"is_word", "is_word", top 28,["thing"],1,2⟩
abbrev bk4:Df:=⟨"are_unlike_words", "are_unlike_words", top 38,["things"],1,3⟩
abbrev a45:Df:=⟨"term", "Panel.term", Dh (top 37) 12,["self", "word", "settings"],3,4⟩
abbrev Y2:Df:=⟨"box", "Panel.box", Dh (top 37) 11,["self", "terms", "choices", "word"],2,5⟩
abbrev al0:Df:=⟨"read_cond", "read_cond", top 12,["panel", "text"],2,6⟩
abbrev D_zbd:Df:=⟨"picks", "picks", top 16,["words", "size", "found", "place", "word"],2,7⟩
abbrev a43:Df:=⟨"parted", "Panel.parted", Dh (top 37) 13,["self", "word"],2,1⟩
abbrev D_zay:Df:=⟨"decides", "decides", top 17,["panel", "inside", "outside", "switches", "behind", "setting", "having"],4,8⟩
abbrev a42:Df:=⟨"switches", "Panel.switches", Dh (top 37) 4,["self"],1,1⟩
abbrev al4:Df:=⟨"deciding", "deciding", top 15,["panel", "choices", "within", "words", "size", "picked"],3,9⟩
abbrev bk7:Df:=⟨"add_to_groups", "add_to_groups", top 21,["groups", "setting", "boxes", "settings", "others"],3,1⟩
noncomputable abbrev D_zk:Df:=⟨"groups_of_part", "groups_of_part", top 20,["panel", "choices", "part", "switches", "groups", "setting", "having", "boxes"],4,14⟩
abbrev D_zm:Df:=⟨"boxes_of_part", "boxes_of_part", top 19,["panel", "choices", "part", "switches", "groups", "boxes", "settings", "others"],4,15⟩
abbrev al3:Df:=⟨"boxes_of", "boxes_of", top 18,["panel", "choices", "within"],3,16⟩
abbrev al2:Df:=⟨"tell_term", "tell_term", top 24,["word", "settings", "listed"],2,1⟩
abbrev am1:Df:=⟨"tell_box", "tell_box", top 23,["box"],1,2⟩
abbrev al1:Df:=⟨"tell_cond", "tell_cond", top 22,["panel", "choices", "within", "boxes"],3,17⟩
abbrev al5:Df:=⟨"is_whole", "is_whole", top 27,["thing"],1,1⟩
abbrev a39:Df:=⟨"need_number", "Panel.need_number", Dh (top 37) 8,["self", "number"],2,2⟩
abbrev a46:Df:=⟨"told", "Panel.told", Dh (top 37) 7,["self", "number"],2,3⟩
abbrev bk6:Df:=⟨"terms_of_choice", "terms_of_choice", top 14,["panel", "number", "words"],2,4⟩
abbrev bl4:Df:=⟨"tell_choice", "tell_choice", top 25,["panel", "number"],2,5⟩
abbrev al6:Df:=⟨"_law_cell", "_law_cell", top 46,["_law_script", "_law_k"],2,1⟩
abbrev ak2:Df:=⟨"_law_stream", "_law_stream", top 47,["_law_cell_here", "_law_many", "_law_found", "_law_left", "_law_number", "_law_k"],2,1⟩
noncomputable abbrev al9:Df:=⟨"_law_word", "_law_word", top 48,["_law_cell_here", "_law_k", "_law_letters", "_law_tail", "_law_size", "_law_at", "_law_base"],2,1⟩
noncomputable abbrev bl2:Df:=⟨"_law_switches", "_law_switches", top 49,["_law_script", "_law_cell_here", "_law_most", "_law_shift", "_law_found", "_law_total", "_law_x", "_law_size", "_law_settings"],1,2⟩
noncomputable abbrev ak1:Df:=⟨"_law_digits", "_law_digits", top 50,["_law_switches_here", "_law_rows", "_law_word_here", "_law_settings", "_law_longer", "_law_row"],1,1⟩
abbrev bl3:Df:=⟨"copied_rule", "copied_rule", top 44,["rule", "copied", "word"],1,1⟩
abbrev a41:Df:=⟨"read_rule", "Panel.read_rule", Dh (top 37) 2,["self", "rule"],2,6⟩
abbrev a40:Df:=⟨"read_rules", "Panel.read_rules", Dh (top 37) 1,["self", "rules"],2,7⟩
abbrev ak5:Df:=⟨"is_switch", "is_switch", top 40,["switch"],1,4⟩
abbrev bk9:Df:=⟨"read_switches", "read_switches", top 39,["switches", "settings", "many", "switch"],1,5⟩
abbrev bk3:Df:=⟨"settings_of_choices", "settings_of_choices", top 41,["settings", "tuples", "word", "longer", "ahead"],1,1⟩
abbrev bk2:Df:=⟨"numbers_by_settings", "numbers_by_settings", top 42,["tuples", "numbers", "number", "told"],1,1⟩
abbrev am6:Df:=⟨"set_of", "set_of", top 7,["numbers", "choices", "number"],1,1⟩
abbrev bk5:Df:=⟨"sets_of_settings", "sets_of_settings", top 43,["settings", "tuples", "sets", "place", "word", "setting", "having"],2,2⟩
abbrev D_zv:Df:=⟨"__init__", "Panel.__init__", Dh (top 37) 0,["self", "switches", "rules"],3,8⟩
abbrev ak8:Df:=⟨"_law_panel", "_law_panel", top 51,["_law_script", "_law_switches_here", "_law_rules"],2,10⟩
abbrev am4:Df:=⟨"_law_key", "_law_key", top 52,["_law_row", "_law_xs", "_law_many", "_law_key_here", "_law_j"],3,1⟩
noncomputable abbrev am5:Df:=⟨"_law_set", "_law_set", top 53,["_law_rows", "_law_cell_here", "_law_xs", "_law_found", "_law_number", "_law_inside", "_law_great"],2,2⟩
abbrev ak3:Df:=⟨"_law_within", "_law_within", top 54,["_law_rows", "_law_cell_here"],2,3⟩
abbrev ak0:Df:=⟨"_law_choice", "_law_choice", top 61,["_law_switches_here", "_law_row"],2,1⟩
abbrev bk8:Df:=⟨"_law_no_choice", "_law_no_choice", top 62,["_law_panel_here", "_law_thing", "_law_told", "e"],2,6⟩
noncomputable abbrev al8:Df:=⟨"_law_pair", "_law_pair", top 55,["_law_rows", "_law_choices", "_law_within_here", "_law_places", "_law_outside", "_law_number", "_law_key_here"],4,1⟩
abbrev ak6:Df:=⟨"_law_lists", "_law_lists", top 56,["_law_end", "_law_found", "_law_bits", "_law_places"],1,1⟩
abbrev bl1:Df:=⟨"_law_deciding", "_law_deciding", top 57,["_law_rows", "_law_choices", "_law_within_here", "_law_end", "_law_places"],4,2⟩
noncomputable abbrev bl0:Df:=⟨"_law_box_read", "_law_box_read", top 59,["_law_switches_here", "_law_rows", "_law_part", "_law_words", "_law_terms", "_law_term", "_law_pieces", "_law_at", "_law_some", "_law_j", "_law_found", "_law_number"],3,1⟩
abbrev ak9:Df:=⟨"_law_reads", "_law_reads", top 58,["_law_switches_here", "_law_rows", "_law_text", "_law_found", "_law_part", "_law_box"],3,2⟩
abbrev ak7:Df:=⟨"_law_named", "_law_named", top 60,["_law_switches_here", "_law_text", "_law_words", "_law_found", "_law_part", "_law_term"],2,1⟩
noncomputable abbrev al7:Df:=⟨"_law_good", "_law_good", top 63,["_law_switches_here", "_law_rows", "_law_panel_here", "_law_choices", "_law_within_here", "_law_text", "_law_read"],5,18⟩
noncomputable abbrev D_zbe:Df:=⟨"law", "law", top 64,["_law_script", "_law_switches_here", "_law_rows", "_law_panel_here", "_law_choices", "_law_within_here", "_law_beside", "_law_other", "_law_number", "_law_text", "_law_far", "_law_thing"],1,19⟩
section
variable (K:ac) (t:Adr)
noncomputable abbrev a83:FI:=Jv a38 (t.m_zbm 0) (t.e_zbm 0) (az9 K t)
noncomputable abbrev Zs:FI:=Jv Y2 (t.m_zbm 1) (t.e_zbm 1) (Yh K t)
noncomputable abbrev bo4:FI:=Jv a44 (t.m_zbm 2) (t.e_zbm 2) (a14 K t)
noncomputable abbrev b33:FI:=Jv a39 (t.m_zbm 3) (t.e_zbm 3) (a00 K t)
noncomputable abbrev bo3:FI:=Jv a43 (t.m_zbm 4) (t.e_zbm 4) (a09 K t)
noncomputable abbrev b35:FI:=Jv a41 (t.m_zbm 5) (t.e_zbm 5) (a03 K t)
noncomputable abbrev b34:FI:=Jv a40 (t.m_zbm 6) (t.e_zbm 6) (a01 K t)
noncomputable abbrev bo2:FI:=Jv a42 (t.m_zbm 7) (t.e_zbm 7) (a05 K t)
noncomputable abbrev b36:FI:=Jv a45 (t.m_zbm 8) (t.e_zbm 8) (a15 K t)
noncomputable abbrev b37:FI:=Jv a46 (t.m_zbm 9) (t.e_zbm 9) (a16 K t)
noncomputable def i_zv:FI:=⟨t.f_zv,t.d_zv,D_zv.ps,8,a13 K t,[.non],[.none]⟩
noncomputable def En:List MI:=[⟨t.c_zbm,a83 K t⟩]
noncomputable def Xu:List MI:=[⟨t.c_zbm,Zs K t⟩]
noncomputable def Sk:List MI:=[⟨t.c_zbm,bo4 K t⟩]
noncomputable def Na:List MI:=[⟨t.c_zbm,b33 K t⟩]
noncomputable def Qx:List MI:=[⟨t.c_zbm,bo3 K t⟩]
noncomputable def Sm:List MI:=[⟨t.c_zbm,b35 K t⟩]
noncomputable def Ox:List MI:=[⟨t.c_zbm,b34 K t⟩]
noncomputable def K5:List MI:=[⟨t.c_zbm,bo2 K t⟩]
noncomputable def a95:List MI:=[⟨t.c_zbm,b36 K t⟩]
noncomputable def a96:List MI:=[⟨t.c_zbm,b37 K t⟩]
noncomputable def cons:List (Str×V):=[("ALL", (.str "*")),("NONE", (.str "-")),("MOST_SWITCHES", (.int 5)),("LEAST_SETTINGS", (.int 2)),("MOST_SETTINGS", (.int 4)),("MOST_CHOICES", (.int 256)),("MOST_RULES", (.int 8))]
noncomputable def fns:List (Df×Sp):=[(am2,Nt K t),(am0,Yt K t),(bl5,a17 K t),(ak4,Yi K t),(am3,To K t),(bk4,aa4 K t),(al0,Tm K t),(D_zbd,az8 K t),(D_zay,az6 K t),(al4,Yp K t),(bk7,a06 K t),(D_zm,bj4 K t),(al3,Yo K t),(al2,Yn K t),(am1,Tn K t),(al1,Nr K t),(al5,Yq K t),(bk6,a04 K t),(bl4,aa6 K t),(al6,Cw K t),(ak2,Tk K t),(al9,J9 K t),(bl2,a11 K t),(ak1,Yf K t),(bl3,a12 K t),(ak5,Yj K t),(bk9,a08 K t),(bk3,az7 K t),(bk2,az5 K t),(am6,Yu K t),(bk5,a02 K t),(ak8,Yl K t),(am4,Fq K t),(am5,Nu K t),(ak3,Yg K t),(ak0,Ye K t),(bk8,a07 K t),(al8,Ys K t),(ak6,Yk K t),(bl1,aa5 K t),(bl0,a10 K t),(ak9,Ym K t),(ak7,Tl K t),(al7,Yr K t)]
noncomputable def bp5:List (Df×Sp):=[(a38,az9 K t),(Y2,Yh K t),(a44,a14 K t),(a39,a00 K t),(a43,a09 K t),(a41,a03 K t),(a40,a01 K t),(a42,a05 K t),(a45,a15 K t),(a46,a16 K t)]
noncomputable def Bc:List Ent:=[⟨9, "Panel", .cls t.c_zbm (some (i_zv K t))⟩,⟨0, "LeafError", .val (.ref t.c_zbk) (.ref t.c_zbk)⟩,⟨0, "NoChoice", .exc t.c_zbl none⟩]++(bn2 t.u 0 cons++(bp6 t.c_zbm t.m_zbm t.e_zbm 0 (bp5 K t)++(fnE t.f t.d 0 (fns K t))))
end
noncomputable abbrev v0_:DE:=Aa 0
noncomputable abbrev v1_:DE:=Aa 1
noncomputable abbrev v2_:DE:=Aa 2
noncomputable abbrev v3_:DE:=Aa 3
noncomputable abbrev v4_:DE:=Aa 4
noncomputable abbrev v5_:DE:=Aa 5
noncomputable abbrev v6_:DE:=Aa 6
noncomputable abbrev v7_:DE:=Aa 7
noncomputable abbrev v8_:DE:=Aa 8
noncomputable abbrev v9_:DE:=Aa 9
noncomputable abbrev v10_:DE:=Aa 10
noncomputable abbrev v11_:DE:=Aa 11
noncomputable abbrev m_(i:Int):DE:=dC (.int i)
noncomputable abbrev n_(a:DE):DA:=Ab a Ah
noncomputable abbrev o_(a b:DE):DA:=Ab a (n_ b)
noncomputable abbrev p_(a b c:DE):DA:=Ab a (o_ b c)
noncomputable abbrev q_(s:Sp)(a:DA):DE:=dFn (spE s []) a
noncomputable abbrev r_(r:RF)(a:DA):DE:=dFn (λvs H Q _=>r vs H Q) a
noncomputable def cc6(K:ac)(t:Adr):DS:=(Ag (Ao 1 (m_ 0)) (Ag (Ck (Bk K v0_) (gdN 2) (Ag (Ao 1 (Ad Vw v1_ v2_)) Af)) (Ag (Ap v1_) Af)))
noncomputable def Ug(K:ac)(t:Adr):DS:=(Ag (dIf (dOr (Au (Ad (Av K true) (r_  (B9 K) (n_ v3_)) (m_ 2))) (Au (Ad (Iz K false) (Ad (An K) v3_ (m_ 0)) v1_))) (Ag (Cv K dNo) Af) Af) (Ag (Lc (dMt (rMt K [⟨"str", "str.split", Dk⟩]) (Ad (An K) v3_ (m_ 1)) (n_ (dC (.str ",")))) (Eb K v1_ (Ad (An K) v3_ (m_ 0)))) Af))
noncomputable def Uh(K:ac)(t:Adr):DS:=(Ag (Ck (Bk K (dMt (rMt K [⟨"str", "str.split", Dk⟩]) v0_ (n_ (dC (.str "&"))))) (gdN 2) (Ag (Ao 3 (dMt (rMt K [⟨"str", "str.split", Dk⟩]) v2_ (n_ (dC (.str "="))))) (Ug K t))) (Ag (Ap v1_) Af))
noncomputable def cc4(K:ac)(t:Adr):DS:=(Ag (Ao 1 Gb) (Uh K t))
noncomputable def cj4(K:ac)(t:Adr):DS:=(Ag (Ap (r_  (B9 K) (n_ (dUn (D7 K "tuples") v0_)))) Af)
noncomputable def ch4(K:ac)(t:Adr):DS:=(Ag (Ap (Ad Nl (Ad Fu (m_ 1) (Ev "many" 0 (Sk K t) v0_ Ah)) (m_ 1))) Af)
noncomputable def cj7(K:ac)(t:Adr):DS:=(Ag (Ap (Ku K (r_  (F4 K) (o_ v0_ (dC (.ty "str")))) (Ej Hi Hi v1_ (r_  (B9 K) (n_ v0_)) v2_))) Af)
noncomputable def bj6(K:ac)(t:Adr):DS:=(Ag (Ap (Ej Hi Hi (dC (.str "a")) v0_ (dC (.str "z")))) Af)
noncomputable def cc8(K:ac)(t:Adr):DS:=(Ag (Ap (Ku K (q_ (a17 K t) (p_ v0_ (m_ 1) (m_ 8))) (r_  (X6 K) (n_ (Bj [none] (Bk K v0_) (gdN 0) Bt (q_ (Yi K t) (n_ v0_))))))) Af)
noncomputable def ch7(K:ac)(t:Adr):DS:=(Ag (dIf (dOr (Ed (Ee K (r_  (F4 K) (o_ v0_ (dC (.ty "list")))))) (Ed (Ee K (r_  (X6 K) (n_ (Bj [none] (Bk K v0_) (gdN 0) Bt (q_ (To K t) (n_ v0_)))))))) (Ag (Ap (dC (.bl false))) Af) Af) (Ag (Ap (Ad (Av K false) (dUn (Lv K) v0_) (r_  (B9 K) (n_ v0_)))) Af))
noncomputable def N3(K:ac)(t:Adr):DS:=(Ag (Ap (q_ (Nt K t) (n_ (Bj [none,some 0,some 1] (Bk K v2_) (gdN 0) Bt (Ad (An K) (Ad (An K) (dUn (D7 K "sets") v1_) v2_) v0_))))) Af)
noncomputable def N4(K:ac)(t:Adr):DS:=(Ag (dIf (Ed (Ee K (r_  (X6 K) (n_ (Bj [none,some 0,some 1] (Bk K v2_) (gdN 0) Bt (Ad (Iz K false) v0_ (Ad (An K) (dUn (D7 K "sets") v1_) v2_))))))) (Ag (Cv K dNo) Af) Af) (N3 K t))
noncomputable def N7(K:ac)(t:Adr):DS:=(Ag (dIf (dOr (Ed (Ee K (q_ (aa4 K t) (n_ v2_)))) (Au (Ad (Av K false) v2_ (Cp Ah)))) (Ag (Cv K dNo) Af) Af) (N4 K t))
noncomputable def cj5(K:ac)(t:Adr):DS:=(Ag (dIf (dOr (Ed (Ee K (r_  (F4 K) (o_ v1_ (dC (.ty "str")))))) (Au (Ad (Iz K true) v1_ (dUn (D7 K "sets") v0_)))) (Ag (Cv K dNo) Af) Af) (N7 K t))
noncomputable def O9(K:ac)(t:Adr):DS:=(Ag (Ck (Bk K v1_) (gdN 3) (Ag (Ao 2 (Ad By v2_ (Ev "term" 2 (a95 K t) v0_ (o_ v3_ (Ad (An K) v1_ v3_))))) Af)) (Ag (Ap v2_) Af))
noncomputable def ca8(K:ac)(t:Adr):DS:=(Ag (dIf (Ed (Ee K (r_  (F4 K) (o_ v1_ (dC (.ty "dict")))))) (Ag (Cv K dNo) Af) Af) (Ag (Ao 2 (Ev "all_choices" 0 (En K t) v0_ Ah)) (O9 K t)))
noncomputable def Po(K:ac)(t:Adr):DS:=(Ag (Ap (q_ (Nt K t) (n_ (Bj [none,some 0] (Bk K (dMt (rMt K [⟨"str", "str.split", Dk⟩]) v1_ (n_ (dC (.str "|"))))) (gdN 0) Bt (Ev "box" 1 (Xu K t) v1_ (n_ (q_ (Yt K t) (n_ v0_)))))))) Af)
noncomputable def Pp(K:ac)(t:Adr):DS:=(Ag (dIf (Au (Ad (Av K false) v1_ (dC (.str "*")))) (Ag (Ap (Ev "all_choices" 0 (En K t) v0_ Ah)) Af) Af) (Ag (dIf (Au (Ad (Av K false) v1_ (dC (.str "-")))) (Ag (Ap (m_ 0)) Af) Af) (Po K t)))
noncomputable def cb4(K:ac)(t:Adr):DS:=(Ag (dIf (Ed (Ee K (r_  (F4 K) (o_ v1_ (dC (.ty "str")))))) (Ag (Cv K dNo) Af) Af) (Pp K t))
noncomputable def cd2(K:ac)(t:Adr)(n:Nat):DS:=
 (Ag (dIf (Au (Ad (Av K false) (Aa 1) (dC (.int 0)))) (Ag (Ap (Cp (Ab (Cp Ah) Ah)))
  Af) Af)
 (Ag (Ao 2 (Cp Ah))
 (Ag (Ck (iEn K (Ab (Aa 0) Ah)) (gdT K 2 [(gdN 3),(gdN 4)]) (Ag (Do (dMt (rMt K [⟨"list", "list.extend", Fo⟩]) (Aa 2) (Ab (Bj [none,some 4] (Bk K (dFn (spE (Lz K t n) []) (Ab (dSl K (Aa 0) (Dp (Ad (Bg K) (Aa 3) (dC (.int 1)))) Cl) (Ab (Ad Nl (Aa 1) (dC (.int 1))) Ah)))) (gdN 0) Bt (Ad (Bg K) (Cp (Ab (Aa 1) Ah)) (Aa 0))) Ah)))
  Af))
 (Ag (Ap (Aa 2))
 Af))))
noncomputable def ci7(K:ac)(t:Adr):DS:=(Ag (Ap (dUn (Fp K) (Ad (An K) (dUn (D7 K "sets") v0_) v1_))) Af)
noncomputable def cc7(K:ac)(t:Adr)(n:Nat):DS:=
 (Ag (dIf (dOr (Au (Ad (Av K false) (Aa 1) (dC (.int 0)))) (Au (Ad (Av K false) (Aa 2) (dC (.int 0))))) (Ag (Ap (dC (.bl true)))
  Af) Af)
 (Ag (dIf (Au (Ad (Av K false) (Aa 3) (Cp Ah))) (Ag (Ap (dC (.bl false)))
  Af) Af)
 (Ag (Ao 4 (dSl K (Aa 3) (Dp (dC (.int 1))) Cl))
 (Ag (Ck (Bk K (Ev "parted" 1 (Qx K t) (Aa 0) (Ab (Ad (An K) (Aa 3) (dC (.int 0))) Ah))) (gdT K 2 [(gdN 5),(gdN 6)]) (Ag (dIf (Ed (Ee K (dFn (spE (Ly K t n) []) (Ab (Aa 0) (Ab (Ad By (Aa 1) (Aa 6)) (Ab (Ad By (Aa 2) (Aa 6)) (Ab (Aa 4) Ah))))))) (Ag (Ap (dC (.bl false)))
   Af) Af)
  Af))
 (Ag (Ap (dC (.bl true)))
 Af)))))
noncomputable def ci1(K:ac)(t:Adr):DS:=(Ag (Ap (dUn (Fp K) (dUn (D7 K "settings") v0_))) Af)
noncomputable def Tr(K:ac)(t:Adr):DS:=(Ag (dIf (Ee K (q_ (az6 K t) (Ab v0_ (p_ (Ad By v1_ v2_) (Ad By v2_ (dUn Q6 v1_)) v5_)))) (Ag (Ap v5_) Af) Af) Af)
noncomputable def Tt(K:ac)(t:Adr):DS:=(Ag (Ck (Gh (n_ (r_  (B9 K) (n_ v3_)))) (gdN 4) (Ag (Ck (Bk K (q_ (az8 K t) (o_ v3_ v4_))) (gdN 5) (Tr K t)) Af)) (Ag (Ap v3_) Af))
noncomputable def cb8(K:ac)(t:Adr):DS:=(Ag (Ao 3 (Bj [none,none] (Bk K (Ev "switches" 0 (K5 K t) v0_ Ah)) (gdT K 2 [(gdN 0),(gdN 1)]) Bt v0_)) (Tt K t))
noncomputable def ci3(K:ac)(t:Adr):DS:=(Ag (Ck (Bk K v0_) (gdT K 2 [(gdN 3),(gdN 4)]) (Ag (dIf (Au (Ad (Av K false) v4_ v2_)) (Ag (Do (dMt (rMt K [⟨"list", "list.append", Dz⟩]) v3_ (n_ v1_))) (Ag ap2 Af)) Af) Af)) (Ag (Do (dMt (rMt K [⟨"list", "list.append", Dz⟩]) v0_ (n_ (Gc (o_ (Cp (n_ v1_)) v2_))))) Af))
noncomputable def ci2(K:ac)(t:Adr)(n:Nat):DS:=
 (Ag (Ao 4 (Cp Ah))
 (Ag (Ck (Bk K (Ev "parted" 1 (Qx K t) (Aa 0) (Ab (Ad (An K) (Aa 3) (dC (.int 0))) Ah))) (gdT K 2 [(gdN 5),(gdN 6)]) (Ag (dIf (Au (Ad (Av K true) (Ad By (Aa 2) (Aa 6)) (dC (.int 0)))) (Ag (Ao 7 (dFn (spE (Tj K t n) []) (Ab (Aa 0) (Ab (Aa 1) (Ab (Ad By (Aa 2) (Aa 6)) (Ab (dSl K (Aa 3) (Dp (dC (.int 1))) Cl) Ah))))))
   (Ag (Do (dFn (spE (a06 K t) []) (Ab (Aa 4) (Ab (Aa 5) (Ab (Aa 7) Ah)))))
   Af)) Af)
  Af))
 (Ag (Ap (Aa 4))
 Af)))
noncomputable def ci4(K:ac)(t:Adr)(n:Nat):DS:=
 (Ag (dIf (Au (Ad (Av K false) (Ad By (Aa 2) (Aa 1)) (dC (.int 0)))) (Ag (Ap (Cp Ah))
  Af) Af)
 (Ag (dIf (Au (Ad (Av K false) (Ad By (Aa 2) (dUn Q6 (Aa 1))) (dC (.int 0)))) (Ag (Ap (Cp (Ab (Cp Ah) Ah)))
  Af) Af)
 (Ag (Ao 4 (dFn (spE (Yd K t n) []) (Ab (Aa 0) (Ab (Aa 1) (Ab (Aa 2) (Ab (Aa 3) Ah))))))
 (Ag (dIf (Au (Ad (Av K false) (dFn (λvs H Q _=>(B9 K) vs H Q) (Ab (Aa 4) Ah)) (dC (.int 1)))) (Ag (Ap (Ad (An K) (Ad (An K) (Aa 4) (dC (.int 0))) (dC (.int 1))))
  Af) Af)
 (Ag (Ao 5 (Cp Ah))
 (Ag (Ck (Bk K (Aa 4)) (gdT K 2 [(gdN 6),(gdN 7)]) (Ag (Do (dMt (rMt K [⟨"list", "list.extend", Fo⟩]) (Aa 5) (Ab (Bj [none,some 6,some 3] (Bk K (Aa 7)) (gdN 0) Bt (Ad (Bg K) (Cp (Ab (Gc (Ab (Ad (An K) (Aa 2) (dC (.int 0))) (Ab (dFn (λvs H Q _=>(Ht K) vs H Q) (Ab (Aa 1) Ah)) Ah))) Ah)) (Aa 0))) Ah)))
  Af))
 (Ag (Ap (Aa 5))
 Af)))))))
noncomputable def cb7(K:ac)(t:Adr):DS:=(Ag (Ap (q_ (bj4 K t) (Ab v0_ (p_ v1_ v2_ (q_ (Yp K t) (p_ v0_ v1_ v2_)))))) Af)
noncomputable def cb6(K:ac)(t:Adr):DS:=(Ag (Ao 2 (dMt (rMt K [⟨"str", "str.join", K9 K⟩]) (dC (.str ",")) (n_ v1_))) (Ag (Ap (Zm cJ [(dUn be1 (Aa 0)),(dC (.str "=")),(dUn be1 (Aa 2))])) Af))
noncomputable def cc5(K:ac)(t:Adr):DS:=(Ag (Ap (dMt (rMt K [⟨"str", "str.join", K9 K⟩]) (dC (.str "&")) (n_ (Bj [none,none] (Bk K v0_) (gdT K 2 [(gdN 0),(gdN 1)]) Bt (q_ (Yn K t) (o_ v0_ v1_)))))) Af)
noncomputable def Pq(K:ac)(t:Adr):DS:=(Ag (dIf (Au (Ad (Av K false) v3_ (Cp (n_ (Cp Ah))))) (Ag (Ap (dC (.str "*"))) Af) Af) (Ag (Ap (dMt (rMt K [⟨"str", "str.join", K9 K⟩]) (dC (.str "|")) (n_ (Bj [none] (Bk K v3_) (gdN 0) Bt (q_ (Tn K t) (n_ v0_)))))) Af))
noncomputable def cb5(K:ac)(t:Adr):DS:=(Ag (Ao 3 (q_ (Yo K t) (p_ v0_ v1_ v2_))) (Ag (dIf (Au (Ad (Av K false) v3_ (Cp Ah))) (Ag (Ap (dC (.str "-"))) Af) Af) (Pq K t)))
noncomputable def cb9(K:ac)(t:Adr):DS:=(Ag (Ap (Ku K (r_  (F4 K) (o_ v0_ (dC (.ty "int")))) (ap1 K (r_  (F4 K) (o_ v0_ (dC (.ty "bool"))))))) Af)
noncomputable def ch5(K:ac)(t:Adr):DS:=(Ag (dIf (dOr (Ed (Ee K (q_ (Yq K t) (n_ v1_)))) (Ed (Au (Ej Hi ay2 (m_ 0) v1_ (Ev "many" 0 (Sk K t) v0_ Ah))))) (Ag (Cv K (dFn (λvs H Q E=>vs.length<=1000/\mkX t.c_zbl none 0 vs H Q E) (n_ (dC (.str "this is no number of a choice"))))) Af) Af) Af)
noncomputable def cj6(K:ac)(t:Adr):DS:=(Ag (Do (Ev "need_number" 1 (Na K t) v0_ (n_ v1_))) (Ag (Ap (Ad (An K) (dUn (D7 K "tuples") v0_) v1_)) Af))
noncomputable def ci0(K:ac)(t:Adr):DS:=(Ag (Ao 2 (Bj [none,none] (Bk K (Ev "switches" 0 (K5 K t) v0_ Ah)) (gdT K 2 [(gdN 0),(gdN 1)]) Bt v0_)) (Ag (Ap (r_ Go (o_ v2_ (Ev "told" 1 (a96 K t) v0_ (n_ v1_))))) Af))
noncomputable def cj2(K:ac)(t:Adr):DS:=(Ag (Ap (q_ (Tn K t) (n_ (Bj [none,none] (Bk K (q_ (a04 K t) (o_ v0_ v1_))) (gdT K 2 [(gdN 0),(gdN 1)]) Bt (Gc (o_ v0_ (Gc (n_ v1_)))))))) Af)
noncomputable def cc0(K:ac)(t:Adr):DS:=(Ag (dIf (Au (Ad ay2 v1_ (r_  (B9 K) (n_ v0_)))) (Ag (Ap (Ad (An K) v0_ v1_)) Af) Af) (Ag (Ap (Ad (Cu K) (Ad (Bg K) v1_ (m_ 3)) (m_ 7919))) Af))
noncomputable def Oa(K:ac)(t:Adr):DS:=(Ag (Do (dMt (rMt K [⟨"list", "list.append", Dz⟩]) v2_ (n_ (Ad Cm (Ad Ay (Ad (Bg K) (Ad (Cu K) (Ad Ay (Ad (Cu K) v4_ v4_) (m_ 2147483629)) (m_ 16807)) v5_) (m_ 2147483587)) (m_ 8))))) Af)
noncomputable def Ob(K:ac)(t:Adr):DS:=(Ag (dIf (Os (Au (Ad (Av K false) (Ad Ay v0_ (m_ 2)) (m_ 1))) (Os (Au (Ad (Av K true) v3_ (m_ 0))) (Au (Ad (Av K true) v3_ (dUn Ja (m_ 1)))))) (Ag (Do (dMt (rMt K [⟨"list", "list.append", Dz⟩]) v2_ (n_ (Ad Ay v3_ (m_ 268435456))))) (Ag (Ao 3 (Ad Cm v3_ (m_ 268435456))) Af)) (Oa K t)) Af)
noncomputable def Oc(K:ac)(t:Adr):DS:=(Ag (Ao 4 (Ad Ay (Ad (Bg K) (Ad (Bg K) (Ad (Cu K) v4_ (m_ 48271)) (Ad (Cu K) (m_ 7919) v5_)) (m_ 1)) (m_ 2147483647))) (Ob K t))
noncomputable def Od(K:ac)(t:Adr):DS:=(Ag (Ao 3 (Ad Cm v0_ (m_ 2))) (Ag (Ao 4 (Ad (Bg K) (Ad Ay v0_ (m_ 2147483629)) (m_ 17))) (Ag (Ck (Gh (n_ v1_)) (gdN 5) (Oc K t)) (Ag (Ap v2_) Af))))
noncomputable def ca6(K:ac)(t:Adr):DS:=(Ag (Ao 2 (Cp Ah)) (Od K t))
noncomputable def Ub(K:ac)(t:Adr):DS:=(Ag (Ap (Ad (Bg K) (Ad (An K) v2_ (Ad Ay (Ad (Bg K) (Ad Cm v0_ (m_ 4)) (Ad Cm v1_ (m_ 8))) (m_ 26))) (dSl K v3_ Cl (Dp (Ad Ay v1_ (m_ 8)))))) Af)
noncomputable def Uc(K:ac)(t:Adr):DS:=(Ag (Ap (Ad (Bg K) (Ad (Bg K) (dSl K v6_ Cl (Dp v5_)) (Ad (An K) v2_ (Ad Ay (Ad (Bg K) (Ad Cm v0_ (m_ 6656)) v1_) (m_ 26)))) (dSl K v6_ (Dp (Ad (Bg K) v5_ (m_ 1))) Cl))) Af)
noncomputable def Ud(K:ac)(t:Adr):DS:=(Ag (Ao 5 (Ad Ay (Ad Cm v0_ (m_ 32)) v4_)) (Ag (Ao 6 (dSl K (Ad (Bg K) (Ad (An K) v2_ (Ad Ay (Ad Cm v0_ (m_ 256)) (m_ 26))) v3_) Cl (Dp v4_))) (Uc K t)))
noncomputable def Ue(K:ac)(t:Adr):DS:=(Ag (dIf (Au (Ad (Av K false) (Ad Ay v0_ (m_ 4)) (m_ 3))) (Ub K t) Af) (Ag (Ao 4 (Ad (Bg K) (m_ 1) (Ad Ay (Ad Cm v0_ (m_ 4)) (m_ 8)))) (Ud K t)))
noncomputable def Uf(K:ac)(t:Adr):DS:=(Ag (Ao 3 (dMt (rMt K [⟨"str", "str.join", K9 K⟩]) (dC (.str "")) (n_ (Bj [none,some 0,some 2] (Gh (o_ (m_ 1) (m_ 8))) (gdN 0) Bt (Ad (An K) v2_ (Ad Ay (Ad (Bg K) (Ad Cm v1_ (m_ 26)) (Ad (Cu K) (Ad (Cu K) (m_ 7) v0_) v0_)) (m_ 26))))))) (Ue K t))
noncomputable def cc3(K:ac)(t:Adr):DS:=(Ag (Ao 2 (dC (.str "abcdefghijklmnopqrstuvwxyz"))) (Uf K t))
noncomputable def Kh(K:ac)(t:Adr):DS:=(Ag (Do (dMt (rMt K [⟨"list", "list.append", Dz⟩]) v4_ (n_ (Gc (o_ (q_ (J9 K t) (o_ (q_ (Cw K t) (o_ v0_ (m_ 1))) (r_  (B9 K) (n_ v4_)))) v8_))))) Af)
noncomputable def Ki(K:ac)(t:Adr):DS:=(Ag (Ao 8 (Bj [none,some 0,some 3] (Gh (n_ v7_)) (gdN 0) Bt (q_ (J9 K t) (o_ (q_ (Cw K t) (o_ v1_ (m_ 1))) (Ad (Bg K) v2_ v0_))))) (Kh K t))
noncomputable def Kj(K:ac)(t:Adr):DS:=(Ag (dIf (Au (Ad ah3 (Ad (Cu K) v5_ v7_) v2_)) (Ag (Ao 7 (m_ 2)) Af) Af) (Ag (dIf (Au (Ad Hi (Ad (Cu K) v5_ v7_) v2_)) (Ag (Ao 5 (Ad (Cu K) v5_ v7_)) (Ki K t)) Af) Af))
noncomputable def Kk(K:ac)(t:Adr):DS:=(Ag (Ck (Bk K (q_ (Tk K t) (o_ v1_ (Ad (Bg K) (m_ 1) (Ad Ay v1_ (m_ 5)))))) (gdN 6) (Ag (Ao 7 (Ad (Bg K) (m_ 2) (Ad Ay v6_ (m_ 3)))) (Kj K t))) (Ag (Ap v4_) Af))
noncomputable def Kl(K:ac)(t:Adr):DS:=(Ag (Ao 3 (Ad (Cu K) (Ad Ay (Ad Cm (q_ (Cw K t) (o_ v0_ (m_ 1))) (m_ 3)) (m_ 2)) (m_ 5))) (Ag (Ao 4 (Cp Ah)) (Ag (Ao 5 (m_ 1)) (Kk K t))))
noncomputable def Km(K:ac)(t:Adr):DS:=(Ag (Ao 2 (Ad (An K) (Cp (o_ (m_ 24) (m_ 256))) (r_ be2 (n_ (Ad (Av K false) (Ad Ay (Ad Cm v1_ (m_ 5)) (m_ 8)) (m_ 3)))))) (Kl K t))
noncomputable def cj0(K:ac)(t:Adr):DS:=(Ag (Ao 1 (q_ (Cw K t) (o_ v0_ (m_ 0)))) (Km K t))
noncomputable def N8(K:ac)(t:Adr):DS:=(Ag (Do (dMt (rMt K [⟨"list", "list.extend", Fo⟩]) v4_ (n_ (Bj [none,some 5] (Gh (n_ (r_  (B9 K) (n_ v3_)))) (gdN 0) Bt (Ad (Bg K) v1_ (Cp (n_ v0_))))))) Af)
noncomputable def N9(K:ac)(t:Adr):DS:=(Ag (Ck (Bk K v0_) (gdT K 2 [(gdN 2),(gdN 3)]) (Ag (Ao 4 (Cp Ah)) (Ag (Ck (Bk K v1_) (gdN 5) (N8 K t)) (Ag (Ao 1 v4_) Af)))) (Ag (Ap v1_) Af))
noncomputable def ca5(K:ac)(t:Adr):DS:=(Ag (Ao 1 (Cp (n_ (Cp Ah)))) (N9 K t))
noncomputable def Lf(K:ac)(t:Adr):DS:=(Ag (Ck (Bk K v0_) (gdN 2) (Ag (Lc (r_  (Nj K true) (n_ (Ad (An K) v0_ v2_))) (Eb K v1_ v2_)) Af)) (Ag (Ap v1_) Af))
noncomputable def cj1(K:ac)(t:Adr):DS:=(Ag (Ao 1 Gb) (Lf K t))
noncomputable def ch9(K:ac)(t:Adr):DS:=(Ag (dIf (dOr (Ed (Ee K (r_  (F4 K) (o_ v1_ (dC (.ty "dict")))))) (Au (Ad (Av K false) (r_  (B9 K) (n_ v1_)) (m_ 0)))) (Ag (Cv K dNo) Af) Af) (Ag (a68 K (Ag (Do (Ev "box" 1 (Xu K t) v0_ (n_ v1_))) Af) []) (Ag (Ap (q_ (a12 K t) (n_ v1_))) Af)))
noncomputable def Gu(K:ac)(t:Adr):DS:=(Ag (dIf (dOr (Ed (Ee K (r_  (F4 K) (o_ v1_ (dC (.ty "list")))))) (Au (Ad ah3 (r_  (B9 K) (n_ v1_)) (m_ 8)))) (Ag (Cv K dNo) Af) Af) (Ag (Ap (Bj [none,some 0] (Bk K v1_) (gdN 0) Bt (Ev "read_rule" 1 (Sm K t) v1_ (n_ v0_)))) Af))
noncomputable def ch6(K:ac)(t:Adr):DS:=(Ag (dIf (Au (Ad (be3 false) v1_ (dC .non))) (Ag (Ap (Cp Ah)) Af) Af) (Gu K t))
noncomputable def Pa(K:ac)(t:Adr):DS:=(Ag (Ap (Ku K (q_ (aa4 K t) (n_ (Ad (An K) v0_ (m_ 1)))) (Ej Hi Hi (m_ 2) (r_  (B9 K) (n_ (Ad (An K) v0_ (m_ 1)))) (m_ 4)))) Af)
noncomputable def ca9(K:ac)(t:Adr):DS:=(Ag (dIf (dOr (Ed (Ee K (r_  (F4 K) (o_ v0_ (dC (.ty "tuple")))))) (dOr (Au (Ad (Av K true) (r_  (B9 K) (n_ v0_)) (m_ 2))) (Ed (Ee K (q_ (To K t) (n_ (Ad (An K) v0_ (m_ 0)))))))) (Ag (Ap (dC (.bl false))) Af) Af) (Pa K t))
noncomputable def Ji(K:ac)(t:Adr):DS:=(Ag (Lc (r_  (Ht K) (n_ (Ad (An K) v3_ (m_ 1)))) (Eb K v1_ (Ad (An K) v3_ (m_ 0)))) (Ag (Ao 2 (Ad (Cu K) v2_ (r_  (B9 K) (n_ (Ad (An K) v3_ (m_ 1)))))) Af))
noncomputable def Jj(K:ac)(t:Adr):DS:=(Ag (dIf (dOr (Ed (Ee K (q_ (Yj K t) (n_ v3_)))) (Au (Ad (Iz K false) (Ad (An K) v3_ (m_ 0)) v1_))) (Ag (Cv K dNo) Af) Af) (Ji K t))
noncomputable def Jk(K:ac)(t:Adr):DS:=(Ag (Ao 2 (m_ 1)) (Ag (Ck (Bk K v0_) (gdN 3) (Jj K t)) (Ag (dIf (Au (Ad ah3 v2_ (m_ 256))) (Ag (Cv K dNo) Af) Af) (Ag (Ap v1_) Af))))
noncomputable def ci6(K:ac)(t:Adr):DS:=(Ag (dIf (dOr (Ed (Ee K (r_  (F4 K) (o_ v0_ (dC (.ty "list")))))) (Ed (Au (Ej Hi Hi (m_ 1) (r_  (B9 K) (n_ v0_)) (m_ 5))))) (Ag (Cv K dNo) Af) Af) (Ag (Ao 1 Gb) (Jk K t)))
noncomputable def Fh(K:ac)(t:Adr):DS:=(Ag (Do (dMt (rMt K [⟨"list", "list.extend", Fo⟩]) v3_ (n_ (Bj [none,some 4] (Bk K (Ad (An K) v0_ v2_)) (gdN 0) Bt (Ad (Bg K) v1_ (Gc (n_ v0_))))))) Af)
noncomputable def ch3(K:ac)(t:Adr):DS:=(Ag (Ao 1 (Cp (n_ (Gc Ah)))) (Ag (Ck (Bk K v0_) (gdN 2) (Ag (Ao 3 (Cp Ah)) (Ag (Ck (Bk K v1_) (gdN 4) (Fh K t)) (Ag (Ao 1 v3_) Af)))) (Ag (Ap v1_) Af)))
noncomputable def ch2(K:ac)(t:Adr):DS:=(Ag (Ao 1 Gb) (Ag (Ck (iEn K (n_ v0_)) (gdT K 2 [(gdN 2),(gdN 3)]) (Ag (Lc v2_ (Eb K v1_ v3_)) Af)) (Ag (Ap v1_) Af)))
noncomputable def cd1(K:ac)(t:Adr):DS:=(Ag (Ao 1 (m_ 0)) (Ag (Ck (Bk K v0_) (gdN 2) (Ag (Ao 1 (Ad Vw v1_ (Ad Fu (m_ 1) v2_))) Af)) (Ag (Ap v1_) Af)))
noncomputable def Gv(K:ac)(t:Adr):DS:=(Ag (Ao 6 (Bj [none,none,some 3,some 5] (iEn K (n_ v1_)) (gdT K 2 [(gdN 0),(gdN 1)]) (Au (Ad (Av K false) (Ad (An K) v1_ v2_) v3_)) v0_)) (Ag (Lc (q_ (Yu K t) (n_ v6_)) (Eb K (Ad (An K) v2_ v4_) v5_)) Af))
noncomputable def Gw(K:ac)(t:Adr):DS:=(Ag (Ck (iEn K (n_ v0_)) (gdT K 2 [(gdN 3),(gdN 4)]) (Ag (Lc Gb (Eb K v2_ v4_)) (Ag (Ck (Bk K (Ad (An K) v0_ v4_)) (gdN 5) (Gv K t)) Af))) (Ag (Ap v2_) Af))
noncomputable def ch8(K:ac)(t:Adr):DS:=(Ag (Ao 2 Gb) (Gw K t))
noncomputable def Nx(K:ac)(t:Adr):DS:=(Ag (dIf (Au (Ad (Av K false) (dUn (D7 K "free") v0_) (m_ 0))) (Ag (Cv K (dFn (λvs H Q E=>vs.length<=1000/\mkX t.c_zbl none 0 vs H Q E) (n_ (dC (.str "the rules bar every choice"))))) Af) Af) Af)
noncomputable def Ny(K:ac)(t:Adr):DS:=(Ag (Ry K "free" v0_ (Ad By (Ev "all_choices" 0 (En K t) v0_ Ah) (dUn Q6 (q_ (Nt K t) (n_ (dUn (D7 K "bars") v0_)))))) (Nx K t))
noncomputable def Nz(K:ac)(t:Adr):DS:=(Ag (Ry K "kept_rules" v0_ (Ev "read_rules" 1 (Ox K t) v0_ (n_ v2_))) (Ag (Ry K "bars" v0_ (Bj [none,some 0] (Bk K (dUn (D7 K "kept_rules") v0_)) (gdN 0) Bt (Ev "box" 1 (Xu K t) v1_ (n_ v0_)))) (Ny K t)))
noncomputable def N0(K:ac)(t:Adr):DS:=(Ag (Ry K "numbers" v0_ (q_ (az5 K t) (n_ (dUn (D7 K "tuples") v0_)))) (Ag (Ry K "sets" v0_ (q_ (a02 K t) (o_ (dUn (D7 K "settings") v0_) (dUn (D7 K "tuples") v0_)))) (Nz K t)))
noncomputable def cj3(K:ac)(t:Adr):DS:=(Ag (Ry K "settings" v0_ (q_ (a08 K t) (n_ v1_))) (Ag (Ry K "tuples" v0_ (q_ (az7 K t) (n_ (dUn (D7 K "settings") v0_)))) (N0 K t)))
noncomputable def Ph(K:ac)(t:Adr):DS:=(Ag (Ao 2 (Cp (n_ (ap0 [((Ad (An K) (Ad (An K) (Aa 1) (dC (.int 0))) (dC (.int 0))),(Cp (Ab (Ad (An K) (Ad (An K) (Ad (An K) (Aa 1) (dC (.int 0))) (dC (.int 1))) (dC (.int 0))) Ah)))])))) Af)
noncomputable def Pi(K:ac)(t:Adr):DS:=(Ag (Ap (dFn (mkC t.c_zbm (some (i_zv K t)) 1) (o_ (Bj [none,none] (Bk K v1_) (gdT K 2 [(gdN 0),(gdN 1)]) Bt (Gc (o_ v0_ (r_  (Nj K true) (n_ v1_))))) v2_))) Af)
noncomputable def Pj(K:ac)(t:Adr):DS:=(Ag (dIf (Au (Ad (Av K false) (Ad Ay (q_ (Cw K t) (o_ v0_ (m_ 2))) (m_ 3)) (m_ 2))) (Ag (Ao 2 (dC .non)) Af) Af) (Pi K t))
noncomputable def Pk(K:ac)(t:Adr):DS:=(Ag (dIf (Au (Ad (Av K false) (Ad Ay (q_ (Cw K t) (o_ v0_ (m_ 2))) (m_ 3)) (m_ 1))) (Ph K t) Af) (Pj K t))
noncomputable def cb2(K:ac)(t:Adr):DS:=(Ag (Ao 2 (Cp Ah)) (Pk K t))
noncomputable def V8(K:ac)(t:Adr):DS:=(Ag (Ao 3 (Ad (Bg K) (Ad (Cu K) (m_ 4) v3_) (Ad (An K) v0_ (Ad Ay (Ad (An K) v1_ v4_) (r_  (B9 K) (n_ v0_)))))) Af)
noncomputable def cc9(K:ac)(t:Adr):DS:=(Ag (Ao 3 (m_ 0)) (Ag (Ck (Gh (n_ v2_)) (gdN 4) (V8 K t)) (Ag (Ap v3_) Af)))
noncomputable def V9(K:ac)(t:Adr):DS:=(Ag (Ao 5 (Ad (Av K false) (Ad By (Ad E3 (Ad (An K) v2_ (m_ 4)) (q_ (Fq K t) (p_ (Ad (An K) v0_ v4_) (dSl K v2_ (Dp (m_ 1)) Cl) (m_ 1)))) (m_ 1)) (m_ 1))) Af)
noncomputable def Wa(K:ac)(t:Adr):DS:=(Ag (Ao 5 (Ad (Av K false) (Ad By (Ad E3 (Ad (An K) v2_ (m_ 4)) (q_ (Fq K t) (p_ (Ad (An K) v0_ v4_) (dSl K v2_ (Dp (m_ 1)) Cl) (m_ 2)))) (m_ 1)) (m_ 1))) Af)
noncomputable def Wb(K:ac)(t:Adr):DS:=(Ag (Ao 5 (Ad (Av K false) (Ad By (Ad E3 v6_ (q_ (Fq K t) (p_ (Ad (An K) v0_ v4_) (dSl K v2_ (Dp (m_ 1)) Cl) (m_ 3)))) (m_ 1)) (m_ 1))) Af)
noncomputable def Wc(K:ac)(t:Adr):DS:=(Ag (Ao 6 (Ad (Bg K) (Ad (Bg K) (Ad (Cu K) (Ad (An K) v2_ (m_ 4)) (Ad Q7 (m_ 2) (m_ 56))) (Ad (Cu K) (Ad (An K) v2_ (m_ 5)) (Ad Q7 (m_ 2) (m_ 28)))) (Ad (An K) v2_ (m_ 6)))) (Wb K t))
noncomputable def Wd(K:ac)(t:Adr):DS:=(Ag (Ao 5 (Ad (Av K false) (Ad (Av K false) v4_ (Ad Ay (Ad (An K) v2_ (m_ 4)) (r_  (B9 K) (n_ v0_)))) (Ad (Av K false) (Ad Ay (Ad (An K) v2_ (m_ 5)) (m_ 2)) (m_ 1)))) Af)
noncomputable def We(K:ac)(t:Adr):DS:=(Ag (dIf (Os (Au (Ad (Av K false) (Ad Ay (Ad (An K) v2_ (m_ 0)) (m_ 6)) (m_ 5))) (Au (Ad ah3 (Ad Ay (Ad (An K) v2_ (m_ 5)) (m_ 3)) (m_ 0)))) (Ag (Ao 5 (Ad (Av K false) (Ad Ay (Ad (An K) v2_ (m_ 5)) (m_ 3)) (m_ 1))) Af) Af) (Ag (dIf (Ee K v5_) (Ag (Ao 3 (Ad Vw v3_ (Ad Fu (m_ 1) v4_))) Af) Af) Af))
noncomputable def Wf(K:ac)(t:Adr):DS:=(Ag (dIf (Au (Ad (Av K false) (Ad Ay (Ad (An K) v2_ (m_ 0)) (m_ 6)) (m_ 3))) (Wc K t) Af) (Ag (dIf (Au (Ad (Av K false) (Ad Ay (Ad (An K) v2_ (m_ 0)) (m_ 6)) (m_ 4))) (Wd K t) Af) (We K t)))
noncomputable def Wg(K:ac)(t:Adr):DS:=(Ag (dIf (Au (Ad (Av K false) (Ad Ay (Ad (An K) v2_ (m_ 0)) (m_ 6)) (m_ 1))) (V9 K t) Af) (Ag (dIf (Au (Ad (Av K false) (Ad Ay (Ad (An K) v2_ (m_ 0)) (m_ 6)) (m_ 2))) (Wa K t) Af) (Wf K t)))
noncomputable def Wh(K:ac)(t:Adr):DS:=(Ag (Ao 5 (Ad (Av K false) (Ad Ay (Ad Ay (Ad Ay (Ad (Cu K) (Ad (Bg K) (Ad (An K) v2_ (m_ 4)) (Ad (Cu K) (m_ 7919) v4_)) (m_ 48271)) (m_ 2147483647)) (m_ 1009)) (m_ 2)) (m_ 1))) (Wg K t))
noncomputable def Ua(K:ac)(t:Adr):DS:=(Ag (Ao 2 (q_ (Tk K t) (o_ (Ad Cm v1_ (m_ 2)) (m_ 8)))) (Ag (Ao 3 (m_ 0)) (Ag (Ck (Gh (n_ (r_  (B9 K) (n_ v0_)))) (gdN 4) (Wh K t)) (Ag (Ap v3_) Af))))
noncomputable def cd0(K:ac)(t:Adr):DS:=(Ag (dIf (Os (Au (Ad (Av K false) (Ad Ay v1_ (m_ 2)) (m_ 1))) (Ed (Au (Ej Hi Hi (dUn Ja (m_ 1)) (Ad E3 (Ad Cm v1_ (m_ 2)) (r_  (B9 K) (n_ v0_))) (m_ 0))))) (Ag (Ap (Ad Ay (Ad Cm v1_ (m_ 2)) (Ad Fu (m_ 1) (r_  (B9 K) (n_ v0_))))) Af) Af) (Ua K t))
noncomputable def ca7(K:ac)(t:Adr):DS:=(Ag (dIf (Au (Ad (Av K false) (Ad Ay v1_ (m_ 2)) (m_ 0))) (Ag (Ap (Ad Nl (Ad Fu (m_ 1) (r_  (B9 K) (n_ v0_))) (m_ 1))) Af) Af) (Ag (Ap (q_ (Nu K t) (o_ v0_ (Ad Cm v1_ (m_ 2))))) Af))
noncomputable def ca4(K:ac)(t:Adr):DS:=(Ag (Ap (dMt (rMt K [⟨"str", "str.join", K9 K⟩]) (dC (.str "&")) (n_ (Bj [none,some 1,some 0] (Gh (n_ (r_  (B9 K) (n_ v1_)))) (gdN 0) Bt (Ad (Bg K) (Ad (Bg K) (Ad (An K) (Ad (An K) v2_ v0_) (m_ 0)) (dC (.str "="))) (Ad (An K) (Ad (An K) (Ad (An K) v2_ v0_) (m_ 1)) (Ad (An K) v1_ v0_))))))) Af)
noncomputable def Jh(K:ac)(t:Adr):DS:=(Ag (a68 K (Ag (Do (q_ (aa6 K t) (o_ v0_ v1_))) Af) [(t.c_zbl,.as 3,(Ag (Ao 2 (Ku K (dFn (λvs H Q _=>(F4 K) vs H Q) (Ab (Aa 3) (Ab (dC (.ref t.c_zbk)) Ah))) (dFn (λvs H Q _=>(F4 K) vs H Q) (Ab (Aa 3) (Ab (dC (.ty "ValueError")) Ah)))))
  Af))]) (Ag (Ap v2_) Af))
noncomputable def ci5(K:ac)(t:Adr):DS:=(Ag (Ao 2 (dC (.bl false))) (Jh K t))
noncomputable def Tz(K:ac)(t:Adr):DS:=(Ag (Do (dMt (rMt K [⟨"dict", "dict.setdefault", Nk⟩]) v4_ (o_ (r_  (Ht K) (n_ (Bj [none,some 5,some 0] (Bk K v3_) (gdN 0) Bt (Ad (An K) (Ad (An K) v2_ v1_) v0_)))) v5_))) Af)
noncomputable def T5(K:ac)(t:Adr):DS:=(Ag (dIf (Os (Au (Ad (Av K false) (Ad By (Ad E3 v2_ v5_) (m_ 1)) (m_ 1))) (Au (Ad (Av K false) (Ad By (Ad E3 v1_ v5_) (m_ 1)) (m_ 0)))) (Tz K t) Af) Af)
noncomputable def T7(K:ac)(t:Adr):DS:=(Ag (dIf (Os (Au (Ad (Av K false) (Ad By (Ad E3 v2_ v5_) (m_ 1)) (m_ 1))) (Os (Au (Ad (Av K false) (Ad By (Ad E3 v1_ v5_) (m_ 1)) (m_ 1))) (Au (Ad (Iz K false) v6_ v4_)))) (Ag (Ap (Gc (o_ v5_ (Ad (An K) v4_ v6_)))) Af) Af) Af)
noncomputable def T8(K:ac)(t:Adr):DS:=(Ag (Ao 6 (r_  (Ht K) (n_ (Bj [none,some 5,some 0] (Bk K v3_) (gdN 0) Bt (Ad (An K) (Ad (An K) v2_ v1_) v0_))))) (T7 K t))
noncomputable def T9(K:ac)(t:Adr):DS:=(Ag (Ck (Gh (n_ (r_  (B9 K) (n_ v0_)))) (gdN 5) (T5 K t)) (Ag (Ck (Gh (n_ (r_  (B9 K) (n_ v0_)))) (gdN 5) (T8 K t)) (Ag (Ap (dC .non)) Af)))
noncomputable def cc2(K:ac)(t:Adr):DS:=(Ag (Ao 4 Gb) (T9 K t))
noncomputable def Pb(K:ac)(t:Adr):DS:=(Ag (Ao 3 (Bj [none,some 2] (Gh (n_ v0_)) (gdN 0) (Au (Ad (Av K false) (Ad By (Ad E3 v1_ v0_) (m_ 1)) (m_ 1))) v0_)) (Ag (Do (dMt (rMt K [⟨"list", "list.append", Dz⟩]) v1_ (n_ (Gc (o_ (r_  (B9 K) (n_ v3_)) v3_))))) Af))
noncomputable def Pd(K:ac)(t:Adr):DS:=(Ag (Ck (Gh (n_ (Ad Fu (m_ 1) v0_))) (gdN 2) (Pb K t)) (Ag (Ap (Bj [none] (Bk K (r_  (Tf K true) (n_ v1_))) (gdN 0) Bt (Ad (An K) v0_ (m_ 1)))) Af))
noncomputable def cb0(K:ac)(t:Adr):DS:=(Ag (Ao 1 (Cp Ah)) (Pd K t))
noncomputable def ci9(K:ac)(t:Adr):DS:=(Ag (Ck (Bk K (q_ (Yk K t) (n_ v3_))) (gdN 4) (Ag (dIf (Au (Ad (be3 false) (q_ (Ys K t) (Ab v0_ (p_ v1_ v2_ v4_))) (dC .non))) (Ag (Ap v4_) Af) Af) Af)) (Ag (Ap (dC .non)) Af))
noncomputable def Kb(K:ac)(t:Adr):DS:=(Ag (dIf (dOr (Au (Ad (Iz K true) (Ad (An K) v8_ v9_) (Ad (An K) (Ad (An K) v0_ v7_) (m_ 1)))) (Au (Ad (Iz K false) (Ad (An K) v8_ v9_) (dSl K v8_ Cl (Dp v9_))))) (Ag (Ap (dUn Ja (m_ 1))) Af) Af) Af)
noncomputable def Kc(K:ac)(t:Adr):DS:=(Ag (Lc (Bj [none,some 7,some 0] (Bk K v8_) (gdN 0) Bt (dMt (rMt K [⟨"list", "list.index", Hs⟩]) (Ad (An K) (Ad (An K) v2_ v1_) (m_ 1)) (n_ v0_))) (Eb K v4_ v7_)) Af)
noncomputable def Kd(K:ac)(t:Adr):DS:=(Ag (Ao 8 (dMt (rMt K [⟨"str", "str.split", Dk⟩]) (Ad (An K) v6_ (m_ 1)) (n_ (dC (.str ","))))) (Ag (Ck (Gh (n_ (r_  (B9 K) (n_ v8_)))) (gdN 9) (Kb K t)) (Kc K t)))
noncomputable def Ke(K:ac)(t:Adr):DS:=(Ag (dIf (dOr (Au (Ad (Av K true) (r_  (B9 K) (n_ v6_)) (m_ 2))) (dOr (Au (Ad (Iz K true) (Ad (An K) v6_ (m_ 0)) v3_)) (Au (Ad (Iz K false) (dMt (rMt K [⟨"list", "list.index", Hs⟩]) v3_ (n_ (Ad (An K) v6_ (m_ 0)))) v4_)))) (Ag (Ap (dUn Ja (m_ 1))) Af) Af) (Ag (Ao 7 (dMt (rMt K [⟨"list", "list.index", Hs⟩]) v3_ (n_ (Ad (An K) v6_ (m_ 0))))) (Kd K t)))
noncomputable def Kf(K:ac)(t:Adr):DS:=(Ag (dIf (Au (Ad (Av K false) (r_  (B9 K) (n_ (Bj [none,some 11,some 1,some 4] (Bk K v4_) (gdN 0) (Au (Ad (Iz K true) (Ad (An K) (Ad (An K) v2_ v1_) v0_) (Ad (An K) v3_ v0_))) v0_))) (m_ 0))) (Ag (Ao 10 (Ad Vw v10_ (Ad Fu (m_ 1) v11_))) Af) Af) Af)
noncomputable def Kg(K:ac)(t:Adr):DS:=(Ag (Ck (Bk K (dMt (rMt K [⟨"str", "str.split", Dk⟩]) v2_ (n_ (dC (.str "&"))))) (gdN 5) (Ag (Ao 6 (dMt (rMt K [⟨"str", "str.split", Dk⟩]) v5_ (n_ (dC (.str "="))))) (Ke K t))) (Ag (Ao 10 (m_ 0)) (Ag (Ck (Gh (n_ (r_  (B9 K) (n_ v1_)))) (gdN 11) (Kf K t)) (Ag (Ap v10_) Af))))
noncomputable def ci8(K:ac)(t:Adr):DS:=(Ag (Ao 3 (Bj [none,none] (Bk K v0_) (gdT K 2 [(gdN 0),(gdN 1)]) Bt v0_)) (Ag (Ao 4 Gb) (Kg K t)))
noncomputable def Pl(K:ac)(t:Adr):DS:=(Ag (Ao 5 (q_ (a10 K t) (p_ v0_ v1_ v4_))) (Ag (dIf (Au (Ad ay2 v5_ (m_ 0))) (Ag (Ap (dUn Ja (m_ 1))) Af) Af) (Ag (Ao 3 (Ad Vw v3_ v5_)) Af)))
noncomputable def Pm(K:ac)(t:Adr):DS:=(Ag (dIf (Au (Ad (Av K false) v2_ (dC (.str "-")))) (Ag (Ap (m_ 0)) Af) Af) (Ag (Ao 3 (m_ 0)) (Ag (Ck (Bk K (dMt (rMt K [⟨"str", "str.split", Dk⟩]) v2_ (n_ (dC (.str "|"))))) (gdN 4) (Pl K t)) (Ag (Ap v3_) Af))))
noncomputable def cb3(K:ac)(t:Adr):DS:=(Ag (dIf (Au (Ad (Av K false) v2_ (dC (.str "*")))) (Ag (Ap (Ad Nl (Ad Fu (m_ 1) (r_  (B9 K) (n_ v1_))) (m_ 1))) Af) Af) (Pm K t))
noncomputable def Pe(K:ac)(t:Adr):DS:=(Ag (Lc (dC (.bl true)) (Eb K v3_ (dMt (rMt K [⟨"list", "list.index", Hs⟩]) v2_ (n_ (Ad (An K) (dMt (rMt K [⟨"str", "str.split", Dk⟩]) v5_ (n_ (dC (.str "=")))) (m_ 0)))))) Af)
noncomputable def Pf(K:ac)(t:Adr):DS:=(Ag (Ck (Bk K (dMt (rMt K [⟨"str", "str.split", Dk⟩]) v1_ (n_ (dC (.str "|"))))) (gdN 4) (Ag (Ck (Bk K (dMt (rMt K [⟨"str", "str.split", Dk⟩]) v4_ (n_ (dC (.str "&"))))) (gdN 5) (Pe K t)) Af)) Af)
noncomputable def Pg(K:ac)(t:Adr):DS:=(Ag (dIf (Au (Ad (Iz K true) v1_ (Gc (o_ (dC (.str "*")) (dC (.str "-")))))) (Pf K t) Af) (Ag (Ap (r_  (Tf K true) (n_ v3_))) Af))
noncomputable def cb1(K:ac)(t:Adr):DS:=(Ag (Ao 2 (Bj [none,none] (Bk K v0_) (gdT K 2 [(gdN 0),(gdN 1)]) Bt v0_)) (Ag (Ao 3 Gb) (Pg K t)))
noncomputable def Tu(K:ac)(t:Adr):DS:=(Ag (Ap (Ad (Av K false) (q_ (Tl K t) (o_ v0_ v5_)) (q_ (aa5 K t) (Ab v1_ (p_ v3_ v4_ (r_  (B9 K) (n_ v0_))))))) Af)
noncomputable def Tv(K:ac)(t:Adr):DS:=(Ag (dIf (Au (Ad (Av K true) (Ad (Av K false) v5_ (dC (.str "*"))) (Ku K (Ad (Av K true) v4_ (m_ 0)) (Ad (Av K false) (Ad By v3_ v4_) v4_)))) (Ag (Ap (dC (.bl false))) Af) Af) (Tu K t))
noncomputable def Tw(K:ac)(t:Adr):DS:=(Ag (dIf (Au (Ad (Av K true) (Ad (Av K false) v5_ (dC (.str "-"))) (Ad (Av K false) (Ad By v3_ v4_) (m_ 0)))) (Ag (Ap (dC (.bl false))) Af) Af) (Tv K t))
noncomputable def Tx(K:ac)(t:Adr):DS:=(Ag (dIf (dOr (Au (Ad ay2 v6_ (m_ 0))) (dOr (Au (Ad (Av K true) (Ad By v6_ v4_) (Ad By v3_ v4_))) (Au (Ad (Av K true) (q_ (Tm K t) (o_ v2_ v5_)) v6_)))) (Ag (Ap (dC (.bl false))) Af) Af) (Tw K t))
noncomputable def Ty(K:ac)(t:Adr):DS:=(Ag (dIf (Ed (Ee K (r_  (F4 K) (o_ v5_ (dC (.ty "str")))))) (Ag (Ap (dC (.bl false))) Af) Af) (Ag (Ao 6 (q_ (Ym K t) (p_ v0_ v1_ v5_))) (Tx K t)))
noncomputable def cc1(K:ac)(t:Adr):DS:=(Ag (Ao 5 (q_ (Nr K t) (p_ v2_ v3_ v4_))) (Ty K t))
noncomputable def bf4(K:ac)(t:Adr):DS:=(Ag (Ck (Bk K (Cp (Ab (r_  (B9 K) (n_ v2_)) (Ab (Ad (Bg K) (r_  (B9 K) (n_ v2_)) v10_) (Ab (Ad Nl (dUn Ja (m_ 1)) v10_) (Ab (dC .non) (p_ (dC (.bl true)) (r_ Th (n_ v8_)) (Cp (n_ v8_))))))))) (gdN 11) (Ag (dIf (Ed (Ee K (q_ (a07 K t) (o_ v3_ v11_)))) (Ag (Ap (dC (.bl false))) Af) Af) Af)) (Ag (Ap (Ad (Av K false) (q_ (Tm K t) (o_ v3_ v9_)) (Ad Fu (m_ 1) v8_))) Af))
noncomputable def bf5(K:ac)(t:Adr):DS:=(Ag (dIf (dOr (Ed (Ee K (r_  (F4 K) (o_ v9_ (dC (.ty "str")))))) (Au (Ad (Av K true) v9_ (q_ (Ye K t) (o_ v1_ (Ad (An K) v2_ v8_)))))) (Ag (Ap (dC (.bl false))) Af) Af) (Ag (Ao 10 (Ad Ay (Ad Cm (q_ (Cw K t) (o_ v0_ (m_ 6))) (m_ 256)) (Ad Q7 (m_ 10) (m_ 9)))) (bf4 K t)))
noncomputable def bf6(K:ac)(t:Adr):DS:=(Ag (Ao 8 (Ad Ay (q_ (Cw K t) (o_ v0_ (m_ 6))) (r_  (B9 K) (n_ v2_)))) (Ag (Ao 9 (q_ (aa6 K t) (o_ v3_ v8_))) (bf5 K t)))
noncomputable def bf7(K:ac)(t:Adr):DS:=(Ag (dIf (Au (Ad (Av K true) (q_ (Nr K t) (p_ v3_ v7_ v5_)) (q_ (Nr K t) (p_ v3_ v4_ v5_)))) (Ag (Ap (dC (.bl false))) Af) Af) (bf6 K t))
noncomputable def bf8(K:ac)(t:Adr):DS:=(Ag (Ao 7 (Ad Vw (Ad By v4_ v5_) (Ad By v6_ (Ad bj0 (Ad Nl (Ad Fu (m_ 1) (r_  (B9 K) (n_ v2_))) (m_ 1)) v5_)))) (bf7 K t))
noncomputable def bf9(K:ac)(t:Adr):DS:=(Ag (dIf (Ed (Ee K (q_ (Yr K t) (Ab v1_ (Ab v2_ (p_ v3_ v4_ v5_)))))) (Ag (Ap (dC (.bl false))) Af) Af) (Ag (Ao 6 (q_ (Nu K t) (o_ v2_ (q_ (Cw K t) (o_ v0_ (m_ 5)))))) (bf8 K t)))
noncomputable def bg0(K:ac)(t:Adr):DS:=(Ag (Ao 4 (q_ (Nu K t) (o_ v2_ (q_ (Cw K t) (o_ v0_ (m_ 3)))))) (Ag (Ao 5 (q_ (Yg K t) (o_ v2_ (q_ (Cw K t) (o_ v0_ (m_ 4)))))) (bf9 K t)))
noncomputable def cd3(K:ac)(t:Adr):DS:=(Ag (Ao 1 (q_ (a11 K t) (n_ v0_))) (Ag (Ao 2 (q_ (Yf K t) (n_ v1_))) (Ag (Ao 3 (q_ (Yl K t) (o_ v0_ v1_))) (bg0 K t))))
end K14
namespace K14
open PySem L2 Pn
section
theorem bs3(Z:Ar K t):OkD K am2 (Bc K t) bl (t.f 0) (t.d 0) (Nt K t):=by
 refine Bn (cc6 K t) λvs H Q E h=>?_
 .obtain⟨a,ms,rfl,hS,k⟩:=h;refine⟨rfl,?_⟩
  refine .inl ⟨⟨_,hS⟩,?_⟩
  refine Ba (Aq (ms.map V.int)) (λi σ H'=>(∃v2,σ=[some (.ref a),some (.int (Hx (ms.take i))),v2])/\H'=H) ⟨⟨_,rfl⟩,rfl⟩ (λi σ H' _ q=>q.2▸hS) ?_ ?_
  .rintro i x σ H' hx ⟨⟨v2,rfl⟩,rfl⟩
   obtain⟨m,hm,rfl⟩:=Ak hx
   have e:Hx (ms.take (i+1))=cB (Hx (ms.take i)) m:=C4 hm _ _
   exact⟨⟨_,congrArg (λz=>[some (V.ref a),some (V.int z),some (V.int m)]) e.symm⟩,rfl⟩
  .rintro σ H' ⟨⟨v2,rfl⟩,rfl⟩
   rw[ae,aO]
   exact .inl k
theorem bs8(Z:Ar K t):OkD K am6 (Bc K t) bl (t.f 29) (t.d 29) (Yu K t):=by
 refine Bn (cd1 K t) λvs H Q E h=>?_
 .obtain⟨a,ms,rfl,hS,hb,k⟩:=h;refine⟨rfl,?_⟩
  refine .inl ⟨⟨_,hS⟩,?_⟩
  refine Ba (Aq (ms.map λn:Nat=>V.int (n:Int))) (λi σ H'=>(∃v2,σ=[some (.ref a),some (.int (ah7 (ms.take i))),v2])/\H'=H) ⟨⟨_,rfl⟩,rfl⟩ (λi σ H' _ q=>q.2▸hS) ?_ ?_
  .rintro i x σ H' hx ⟨⟨v2,rfl⟩,rfl⟩
   obtain⟨m,hm,rfl⟩:=Ak hx
   have e:ah7 (ms.take (i+1))=cB (ah7 (ms.take i)) (1 * 2 ^ ((m:Int)).toNat):=by
    rw[dP,aI]
    exact C4 hm _ _
   have hm2:=hb m (ag hm)
   refine⟨⟨by omega,by omega,by decide⟩,?_⟩
   exact⟨⟨_,congrArg (λz=>[some (V.ref a),some (V.int z),some (V.int (m:Int))]) e.symm⟩,rfl⟩
  .rintro σ H' ⟨⟨v2,rfl⟩,rfl⟩
   rw[ae,aO]
   exact .inl k
theorem b69(Z:Ar K t):OkD K a44 (Bc K t) bl (t.m_zbm 2) (t.e_zbm 2) (a14 K t):=by
 refine Bn (cj4 K t) λvs H Q E h=>?_
 .obtain⟨p,l,s,sw,rfl,⟨dx,fs,⟨_,hp⟩,hl,hs,hm⟩,⟨ds,e,⟨_,o⟩,_⟩,k⟩:=h;refine⟨rfl,?_⟩
  refine jk ⟨_,_,_,_,hp,Z.pf.cl,(Z.pf.na _ (by simp)),hl,(.inl ⟨_,.inl (SqL.of o),?_⟩)⟩
  have el:(ds.map λx=>V.ref x.2).length=(Ae sw).length:=by rw[<- e];simp
  rw[el]
  exact k
theorem b50(Z:Ar K t):OkD K a38 (Bc K t) bl (t.m_zbm 0) (t.e_zbm 0) (az9 K t):=by
 refine Bn (ch4 K t) λvs H Q E h=>?_
 .obtain⟨p,l,s,sw,rfl,hs,ht,hn,k⟩:=h;refine⟨rfl,?_⟩
  obtain⟨dx,fs,⟨_,hp⟩,_,_,hm⟩:=id hs
  refine⟨p,dx,fs,⟨t.c_zbm,bo4 K t⟩,rfl,.head _,hp,hm _ (by decide),⟨aC rfl,aC rfl⟩,?_⟩
  refine⟨p,l,s,sw,rfl,hs,ht,⟨by omega,by omega,by decide⟩,?_⟩
  have e:1 * 2 ^ (((Ae sw).length:Int)).toNat - 1=Rj sw:=by rw[dP,aI];rfl
  show Q (.int (1 * 2 ^ (((Ae sw).length:Int)).toNat - 1)) H
  rw[e]
  exact k
theorem b72(Z:Ar K t):OkD K bl5 (Bc K t) bl (t.f 2) (t.d 2) (a17 K t):=by
 refine Bn (cj7 K t) λvs H Q E h=>?_
 .obtain⟨z,lo,hi,rfl,hz,k⟩:=h;refine⟨rfl,?_⟩
  exact⟨rfl,aw hz (by decide),Pz k⟩
theorem bq5(Z:Ar K t):OkD K ak4 (Bc K t) bl (t.f 3) (t.d 3) (Yi K t):=by
 refine Bn (bj6 K t) λvs H Q E h=>?_
 .obtain⟨c,rfl,k⟩:=h;refine⟨rfl,?_⟩
  dsimp only[bj6,Ag,Ap]
  exact a70 (s1 := "a") (s2 := "z") (c:=c) (i:=0) (a:=97) (b:=122) (by decide +kernel) (by decide +kernel) (by rfl) k
theorem bs5(Z:Ar K t):OkD K am3 (Bc K t) bl (t.f 4) (t.d 4) (To K t):=by
 refine Bn (cc8 K t) λvs H Q E h=>?_
 .obtain⟨z,rfl,hz,k⟩:=h;refine⟨rfl,?_⟩
  have hl:z.length<=1000:=aw hz.2.1 (by decide)
  refine⟨z,1,8,rfl,hl,?_⟩
  have e:(decide (1<=(z.length:Int))&&decide ((z.length:Int)<=8))=true:=by
   have h1:=hz.1
   have h2:=hz.2.1
   simp
   omega
  refine K0 e ?_
  refine ac3 (p:=Bw) hl (λc σ H1 Q1 hσ q=>?_) λH' S=>?_
  .match σ,hσ with
   |[_],_=>exact⟨c,rfl,q⟩
  .rw[hz.2.2];exact k H' S
theorem b53(Z:Ar K t):OkD K bk4 (Bc K t) bl (t.f 5) (t.d 5) (aa4 K t):=by
 refine Bn (ch7 K t) λvs H Q E h=>?_
 .obtain⟨a,l,rfl,hS,hl,k⟩:=h;refine⟨rfl,?_⟩
  refine⟨_,true,.sqL rfl hS rfl,rfl,?_⟩
  refine .inl ⟨⟨_,hS⟩,?_⟩
  refine Up (K:=K) (σ:=[none]) (Aq (l.map V.str)) (λσ=>σ.length=1) (λH1 S=>S.seqL hS) ?_ rfl (λσ x hσ=>by rw[j6];exact hσ) ?_ λD1 H1 S1 q1=>⟨_,q1,?_⟩
  .rw[ae];exact aG hl.2.2 (by decide)
  .intro x σ H1 Q1 hx hσ S q
   obtain⟨z,hz,rfl⟩:=List.mem_map.mp hx
   match σ,hσ with
   |[_],_=>exact⟨z,rfl,hl.1 z hz,q⟩
  .rw[Zc]
   refine⟨l,S1.seqL hS,aG hl.2.2 (by decide),.inl ⟨_,.inl (S1.seqL hS),?_⟩⟩
   rw[a93 hl.2.1,ae]
   have e:decide ((l.length:Int)=(l.length:Int))=true:=by simp
   show Q (.bl (decide ((l.length:Int)=(l.length:Int)))) H1
   rw[e]
   exact k H1 S1
end
section
theorem bq6(Z:Ar K t):OkD K ak5 (Bc K t) bl (t.f 25) (t.d 25) (Yj K t):=by
 refine Bn (ca9 K t) λvs H Q E h=>?_
 .obtain⟨a,b,wd,l,rfl,ha,hb,hw,hl,k⟩:=h;refine⟨rfl,?_⟩
  have qa:=SqT.of (K:=K) ha
  have qb:=SqL.of (K:=K) hb
  refine⟨_,true,.sqT rfl qa rfl,rfl,?_⟩
  refine .inl ⟨_,.inr qa,?_⟩
  refine⟨_,_,.inr qa,rfl,?_⟩
  refine⟨wd,rfl,hw,λH1 S1=>?_⟩
  refine⟨_,_,.inr (S1.seqT qa),rfl,?_⟩
  refine⟨b,l,rfl,S1.seqL qb,hl.1,λH2 S2=>?_⟩
  have S:=S1.trans S2
  refine⟨_,_,.inr (S.seqT qa),rfl,.inl ⟨_,.inl (S.seqL qb),?_⟩⟩
  rw[ae]
  have e:(decide (2<=(l.length:Int))&&decide ((l.length:Int)<=4))=true:=by
   have h1:=hl.2.1
   have h2:=hl.2.2
   simp
   omega
  exact Pz (e▸k H2 S)
theorem Lu {es:List ((Str×List Str)×Addr)}{sw:Sw}{i:Nat}{e:Str×List Str}(he:es.map (·.1)=sw.take i)(hi:sw[i]?=some e)(nd:(sw.map (·.1)).Nodup):Bp (es.map kR) (.inr e.1)=none:=by
 refine Eh ?_
 rw[Zw,he]
 intro hm
 obtain⟨w,hw,e2⟩:=List.mem_map.mp hm
 cases e2
 have h1:(sw.map (·.1))[i]?=some e.1:=by rw[aj,hi];rfl
 rw[ib] at hw
 obtain⟨j,hj,e3⟩:=List.mem_iff_getElem.mp hw
 rw[aJ] at hj
 rw[List.getElem_take] at e3
 have hi2:=Al h1
 have e4:(sw.map (·.1))[i]=e.1:=by
  have:=af hi2
  rw[this] at h1
  exact aM h1
 have:=(c5 (i:=j) (j:=i) (h₀:=by omega) (h₁:=hi2) nd).mp (by rw[e3,e4])
 omega
theorem Lr {es:List ((Str×List Str)×Addr)}{e:Str×List Str}{a:Addr}(h:Bp (es.map kR) (.inr e.1)=none):Db (es.map kR) (.inr e.1) (.ref a)=(es++[(e,a)]).map kR:=by
 rw[Ff _ h,au]
 rfl
theorem R1 {α β:Type}{es:List (α×β)}{sw:List α}{i:Nat}(h:es.map (·.1)=sw.take i):es.length<=sw.length:=by
 have:=congrArg bH h
 rw[ae,aJ] at this
 omega
theorem G1 {α β:Type}{es:List (α×β)}{sw:List α}{i:Nat}{e:α}{a:β}(h:es.map (·.1)=sw.take i)(hi:sw[i]?=some e):(es++[(e,a)]).map (·.1)=sw.take (i+1):=by
 rw[au,h,bF,hi]
 rfl
theorem b61(Z:Ar K t):OkD K bk9 (Bc K t) bl (t.f 26) (t.d 26) (a08 K t):=by
 refine Bn (ci6 K t) λvs H Q E h=>?_
 .obtain⟨a,sw,rfl,⟨ds,ed,⟨_,oa⟩,hd⟩,hw,k⟩:=h;refine⟨rfl,?_⟩
  have ql:=SqL.of (K:=K) oa
  have el:(ds.map λx=>V.ref x.2).length=sw.length:=by rw[<- ed];simp
  refine⟨_,true,.sqL rfl ql rfl,rfl,?_⟩
  refine .inl ⟨_,.inl ql,?_⟩
  rw[el]
  have e1:decide (1<=(sw.length:Int))=true:=by have:=hw.1;simp;omega
  have e2:decide ((sw.length:Int)<=5)=true:=by have:=hw.2.1;simp;omega
  refine K0 e1 (B4 (by rw[e2];rfl) ?_)
  intro d hd0
  refine .inl (.inl ⟨⟨_,(Same.upd hd0).seqL ql⟩,?_⟩)
  refine Ba (Aq (ds.map λx=>V.ref x.2)) (λi σ H'=>(∃v3,σ=[some (.ref a),some (.ref d),some (.int (B6 (sw.take i):Nat)),v3])/\Same H H' /\
    ∃es:List ((Str×List Str)×Addr),es.map (·.1)=sw.take i/\H' d=some (.dK (es.map kR))/\∀x∈es,H x.2=none/\H' x.2=some (Dc x.1.2))
   ⟨⟨_,rfl⟩,Same.upd hd0,[],rfl,Ac,λx hx=>by cases hx⟩ (λi σ H' _ q=>q.2.1.seqL ql) ?_ ?_
  .rintro i x σ H1 hx ⟨⟨v3,rfl⟩,S1,es,ee,e1d,he⟩
   obtain⟨⟨⟨e,la⟩,ta⟩,hi,rfl⟩:=Ak hx
   have hi2:sw[i]?=some e:=by rw[<- ed,aj,hi];rfl
   obtain⟨⟨_,h1⟩,_,h2⟩:=hd _ (ag hi)
   have hok:=hw.2.2.2.1 e (ag hi2)
   have nk:=Lu ee hi2 hw.2.2.1
   refine⟨ta,la,e.1,e.2,rfl,S1 _ _ h1,S1 _ _ h2,hok.1,hok.2,λH2 S2=>?_⟩
   have S:=S1.trans S2
   have qt:=SqT.of (K:=K) (S _ _ h1)
   have qa:=SqL.of (K:=K) (S _ _ h2)
   refine⟨_,_,.inr qt,rfl,.inr ⟨_,DGet.k (k:=.inr e.1) (S2 _ _ e1d),?_⟩⟩
   rw[nk]
   refine⟨_,_,.inr qt,rfl,_,.inl ⟨qa,λtp htp=>?_⟩⟩
   have S3:=Same.upd (o:=Dc e.2) htp
   have et:upd H2 tp (Dc e.2) tp=some (Dc e.2):=Ac
   show Eb K (Aa 1) (Ad (An K) (Aa 3) (dC (.int 0))) (.ref tp) [some (.ref a),some (.ref d),some (.int (B6 (sw.take i):Nat)),some (.ref ta)] (upd H2 tp (Dc e.2)) _
   have hft:H tp=none:=S.free htp
   generalize upd H2 tp (Dc e.2)=H3 at S3 et ⊢
   have Sa:=S.trans S3
   have e3d:=S3 _ _ (S2 _ _ e1d)
   have ndt:d≠tp:=Aj (S2 _ _ e1d) htp
   refine⟨_,_,.inr (S3.seqT qt),rfl,_,DPut.k (k:=.inr e.1) e3d ?_,?_⟩
   .rw[ae]
    have:=R1 ee
    have:=hw.2.1
    exact aG (show es.length<=5 by omega) (by decide)
   rw[Lr nk]
   have Sb:Same H (upd H3 d (.dK ((es++[(e,tp)]).map kR))):=Sa.set hd0
   have keep:∀b,b≠d->upd H3 d (.dK ((es++[(e,tp)]).map kR)) b=H3 b:=λb hb=>Ai hb
   have ebd:upd H3 d (.dK ((es++[(e,tp)]).map kR)) d=some (.dK ((es++[(e,tp)]).map kR)):=Ac
   generalize upd H3 d (.dK ((es++[(e,tp)]).map kR))=H4 at Sb keep ebd ⊢
   refine⟨_,_,.inr (SqT.of (Sb _ _ h1)),rfl,.inl ⟨_,.inl (SqL.of (Sb _ _ h2)),?_⟩⟩
   rw[ae]
   have pm:((B6 (sw.take i):Nat):Int) * (e.2.length:Int)=((B6 (sw.take (i+1)):Nat):Int):=by
    unfold B6
    rw[C4 hi2,Int.natCast_mul]
   have hb4:=hok.2.2.2
   refine⟨.inr ⟨show -(2 ^ 64)<(e.2.length:Int) by omega,show (e.2.length:Int)<2 ^ 64 by omega⟩,?_⟩
   refine⟨⟨_,congrArg (λz=>[some (V.ref a),some (V.ref d),some (V.int z),some (V.ref ta)]) pm⟩,Sb,es++[(e,tp)],G1 ee hi2,ebd,?_⟩
   intro x hx
   rcases List.mem_append.mp hx with hx|hx
   .obtain⟨a1,a2⟩:=he x hx
    refine⟨a1,?_⟩
    rw[keep x.2 (λz=>by rw[z,e1d] at a2;cases a2)]
    exact S3 _ _ (S2 _ _ a2)
   .have:x=(e,tp):=by simpa using hx
    subst this
    exact⟨hft,by rw[keep _ (cQ ndt)];exact et⟩
  .rintro σ H1 ⟨⟨v3,rfl⟩,S1,es,ee,e1d,he⟩
   rw[el,aO] at ee
   rw[el,aO]
   refine .inl (B4 ?_ ?_)
   .have:=hw.2.2.2.2
    simp
    omega
   .exact k H1 d S1 ⟨es,ee,⟨hd0,e1d⟩,he⟩
theorem b66(Z:Ar K t):OkD K bl3 (Bc K t) bl (t.f 24) (t.d 24) (a12 K t):=by
 refine Bn (cj1 K t) λvs H Q E h=>?_
 .obtain⟨r,rule,rfl,⟨ds,ed,⟨_,od⟩,hd⟩,nd,hl,k⟩:=h;refine⟨rfl,?_⟩
  intro c hc
  have ncr:r≠c:=Aj od hc
  have od1:upd H c (.dK []) r=some (.dK (ds.map kR)):=by rw[Ai ncr];exact od
  refine .inl (.inr (.inr (.inl ⟨_,od1,λo=>?_⟩)))
  have Hf:∀b u,b≠r->H b=some u->upd (upd H c (.dK [])) r (.frz o (.dK (ds.map kR))) b=some u:=λb u hb e=>by
   rw[Ai hb,Ai (Aj e hc)];exact e
  have ef:upd (upd H c (.dK [])) r (.frz o (.dK (ds.map kR))) r=some (.frz o (.dK (ds.map kR))):=Ac
  have ec:upd (upd H c (.dK [])) r (.frz o (.dK (ds.map kR))) c=some (.dK []):=by rw[Ai (cQ ncr),Ac]
  have len:ds.length=rule.length:=by rw[<- ed];simp
  generalize upd (upd H c (.dK [])) r (.frz o (.dK (ds.map kR)))=H0 at Hf ef ec ⊢
  refine Ba (L9 (ds.map kR)) (λi σ H'=>(∃v2,σ=[some (.ref r),some (.ref c),v2])/\(∀b u,b≠r->H b=some u->H' b=some u)/\H' r=some (.frz o (.dK (ds.map kR))) /\
    ∃es:List ((Str×List Str)×Addr),es.map (·.1)=rule.take i/\H' c=some (.dK (es.map kR))/\∀x∈es,H x.2=none/\H' x.2=some (A5 x.1.2))
   ⟨⟨_,rfl⟩,Hf,ef,[],rfl,ec,λx hx=>by cases hx⟩ (λi σ H' _ q=>q.2.2.1) ?_ ?_
  .rintro i x σ H1 hx ⟨⟨v2,rfl⟩,S1,f1,es,ee,e1c,he⟩
   obtain⟨kv,hi0,rfl⟩:=Ak hx
   obtain⟨⟨e,la⟩,hi,rfl⟩:=Ak hi0
   have hi2:rule[i]?=some e:=by rw[<- ed,aj,hi];rfl
   obtain⟨_,h2⟩:=hd _ (ag hi)
   have nla:la≠r:=λz=>by rw[z,od] at h2;cases h2
   have nk:=Lu ee hi2 nd
   have hv:Bp (ds.map kR) (.inr e.1)=some (.ref la):=C2 (Fl ed nd) hi0
   refine⟨.ref la,.inl ⟨_,.inr e.1,.inr ⟨o,f1⟩,rfl,hv.symm⟩,.inl ⟨_,.inl (SqL.of (S1 _ _ nla h2)),λlc hlc=>?_⟩⟩
   have S3:=Same.upd (o:=A5 e.2) hlc
   have et:upd H1 lc (A5 e.2) lc=some (A5 e.2):=Ac
   have nlr:lc≠r:=(Aj f1 hlc).symm
   have hft:H lc=none:=by
    cases q:H lc with
    |none=>rfl
    |some u=>rw[S1 _ _ nlr q] at hlc;cases hlc
   have ndt:c≠lc:=Aj e1c hlc
   show Eb K (Aa 1) (Aa 2) (.ref lc) [some (.ref r),some (.ref c),some (.str e.1)] (upd H1 lc (A5 e.2)) _
   generalize upd H1 lc (A5 e.2)=H3 at S3 et ⊢
   refine⟨_,DPut.k (k:=.inr e.1) (S3 _ _ e1c) ?_,?_⟩
   .rw[ae]
    have:=R1 ee
    exact aG (show es.length<=100 by omega) (by decide)
   rw[Lr nk]
   refine⟨⟨_,rfl⟩,λb u hb e4=>?_,?_,es++[(e,lc)],G1 ee hi2,Ac,?_⟩
   .rw[Ai (Aj e4 hc)];exact S3 _ _ (S1 _ _ hb e4)
   .rw[Ai ncr];exact S3 _ _ f1
   .intro x hx
    rcases List.mem_append.mp hx with hx|hx
    .obtain⟨a1,a2⟩:=he x hx
     refine⟨a1,?_⟩
     rw[Ai (λz=>by rw[z,e1c] at a2;cases a2)]
     exact S3 _ _ a2
    .have:x=(e,lc):=by simpa using hx
     subst this
     exact⟨hft,by rw[Ai (cQ ndt)];exact et⟩
  .rintro σ H1 ⟨⟨v2,rfl⟩,S1,f1,es,ee,e1c,he⟩
   rw[ae,ae,len,aO] at ee
   refine .inr ⟨r,o,_,od1,f1,?_⟩
   refine k _ c (λb u e4=>?_) ⟨es,ee,⟨hc,?_⟩,λx hx=>⟨(he x hx).1,?_⟩⟩
   .by_cases hb:b=r
    .subst hb;rw[Ac,<- od,e4]
    .rw[Ai hb];exact S1 _ _ hb e4
   .rw[Ai (cQ ncr)];exact e1c
   .rw[Ai (λz=>by have:=(he x hx).1;rw[z,od] at this;cases this)];exact (he x hx).2
theorem Q3:∀(a:List (List Str))(r:List Str)(k:Nat),Nf k (a++[r])=Nf k a++[(r.map .inr,.int ((k+a.length:Nat):Int))]
 |[],r,k=>rfl
 | b::a,r,k=>by
  rw[eG,Nf,Q3 a r (k+1),Nf,aN,eG,show k+1+a.length=k+(a.length+1) by omega]
theorem Q0:∀(a:List (List Str))(k:Nat),(Nf k a).map (·.1)=a.map λr=>r.map (gy:Str->Key)
 |[],_=>rfl
 |b::a,k=>by rw[Nf,aY,aY,Q0 a]
theorem Vl:∀(a:List (List Str))(k:Nat),(Nf k a).length=a.length
 |[],_=>rfl
 |b::a,k=>by rw[Nf,aN,aN,Vl a]
theorem ar5 {a b:List Str}(h:a.map (gy:Str->Key)=b.map (gy:Str->Key)):a=b:=(lf (λx y e=>by injection e)).mp h
theorem bg2(r:List Str):Dc r=.tup ((r.map (gy:Str->Key)).map kV):=by
 rw[a_]
 rfl
theorem Jl {α:Type}{l:List α}{i:Nat}{x:α}(nd:l.Nodup)(h:l[i]?=some x):¬ x∈l.take i:=by
 intro hm
 obtain⟨j,hj,e⟩:=List.mem_iff_getElem.mp hm
 rw[aJ] at hj
 rw[List.getElem_take] at e
 have hi:=Al h
 rw[af hi] at h
 have:=(c5 (i:=j) (j:=i) (h₀:=by omega) (h₁:=hi) nd).mp (by rw[e];exact (aM h).symm)
 omega
theorem b48(Z:Ar K t):OkD K bk2 (Bc K t) bl (t.f 28) (t.d 28) (az5 K t):=by
 refine Bn (ch2 K t) λvs H Q E h=>?_
 .obtain⟨l,rows,rfl,⟨ds,ed,⟨_,ol⟩,hd⟩,nd,hl,k⟩:=h;refine⟨rfl,?_⟩
  intro n hn
  have ql:=SqL.of (K:=K) ol
  have len:(Fb 0 (ds.map λx=>V.ref x.2)).length=rows.length:=by rw[Cj,<- ed];simp
  refine .inr (.inl ⟨⟨_,(Same.upd hn).seqL ql⟩,?_⟩)
  refine R7 (Ui (ds.map λx=>V.ref x.2)) (λi σ H'=>(∃v2 v3,σ=[some (.ref l),some (.ref n),v2,v3])/\Same H H'/\H' n=some (.dT (Nf 0 (rows.take i))))
   ⟨⟨_,_,rfl⟩,Same.upd hn,Ac⟩ (λi σ H' _ q=>q.2.1.seqL ql) ?_ ?_
  .rintro i x y T σ H1 hxy hT ⟨⟨v2,v3,rfl⟩,S1,e1⟩
   have hi':=Al hxy
   rw[Cj,ae] at hi'
   obtain⟨⟨r,b⟩,hi⟩:∃z,ds[i]?=some z:=⟨_,af hi'⟩
   have:=Dr (k:=0) (xs:=ds.map λx=>V.ref x.2) (i:=i) (x:=.ref b) (by rw[aj,hi];rfl)
   rw[this] at hxy
   obtain⟨rfl,rfl⟩:V.int ((0+i:Nat):Int)=x/\V.ref b=y:=by simpa using hxy
   have hi2:rows[i]?=some r:=by rw[<- ed,aj,hi];rfl
   have hb:=(hd _ (ag hi)).2
   have ST:=Same.upd (o:=.tup [.int ((0+i:Nat):Int),.ref b]) hT
   refine⟨_,.inl (SqT.of Ac),rfl,?_⟩
   generalize upd H1 T (.tup [.int ((0+i:Nat):Int),.ref b])=H2 at ST ⊢
   have S2:=S1.trans ST
   have hb2:=S2 _ _ hb
   rw[bg2] at hb2
   refine⟨_,DPut.t (ST _ _ e1) hb2 ?_,⟨_,_,rfl⟩,S2.set hn,?_⟩
   .rw[Vl,aJ]
    exact aG (show min i rows.length<=256 by omega) (by decide)
   .rw[Ac,Ff,bF,hi2,cq,Q3,aJ,j9 (dD (Al hi2))]
    refine Eh ?_
    rw[Q0]
    intro hm
    obtain⟨r2,h1,h2⟩:=List.mem_map.mp hm
    rw[ar5 h2] at h1
    exact Jl nd hi2 h1
  .rintro σ H1 ⟨⟨v2,v3,rfl⟩,S1,e1⟩
   rw[len,aO] at e1
   exact .inl (k H1 n S1 ⟨hn,e1⟩)
end
section
theorem ce4(ha:H aa=some (Dc a))(hp:H p=some (.tup [.str z]))(hl:a.length<=100)(k:∀q H',Same H H'->H' q=some (Dc (a++[z]))->(H q=none\/q=p)->Q (.ref q) H'):Bg K (.ref aa) (.ref p) H Q:=by
 cases a with
 |nil=>exact .inr (.inr ⟨aa,p,_,rfl,rfl,SqT.of ha,SqT.of hp,k p H (Same.refl _) hp (.inr rfl)⟩)
 |cons y a=>
  refine .inr (.inl ⟨aa,p,_,_,rfl,rfl,SqT.of ha,SqT.of hp,by simp,?_,(λe=>by cases e),λ_ q hq=>?_⟩)
  .rw[ae]
   exact aw (show (y::a).length+1<=101 by omega) (by decide)
  .refine k q _ (Same.upd hq) ?_ (.inl hq)
   rw[Ac,Dc,au]
   rfl
theorem ae2 {α:Type}{ok:Addr->Prop}{H:Hp}{f:α->HO}{es:List (α×Addr)}{e:α}{a:Addr}(h:∀x∈es,ok x.2/\H x.2=some (f x.1))(h1:ok a)(h2:H a=some (f e)):∀x∈es++[(e,a)],ok x.2/\H x.2=some (f x.1):=by
 intro x hx
 rcases List.mem_append.mp hx with hx|hx
 .exact h x hx
 .have:x=(e,a):=by simpa using hx
  subst this
  exact⟨h1,h2⟩
theorem a77 {α:Type}{ok:Addr->Prop}{H H':Hp}{f:α->HO}{es:List (α×Addr)}(S:Same H H')(h:∀x∈es,ok x.2/\H x.2=some (f x.1)):∀x∈es,ok x.2/\H' x.2=some (f x.1):=λx hx=>⟨(h x hx).1,S _ _ (h x hx).2⟩
theorem ai0 {rows:List (List Str)}{j:Nat}{r:List Str}{x:Str×List Str}(h:rows[j]?=some r):D8 (rows.take (j+1)) x=D8 (rows.take j) x++x.2.map λz=>r++[z]:=by
 unfold D8
 rw[bF,h,cq,dH]
 simp
theorem Xq {E:EK}{H0 H:Hp}{aa ta:Addr}{a:List Str}{l:List Str}{σ:St}{R:Hp->Addr->Prop}(hσ:∃v,σ=[v,some (.ref aa)])(S0:Same H0 H)(ha:H aa=some (Dc a))(ht:H ta=some (Dc l))(hl:a.length<=100)(hl2:l.length<=8)(k:∀D H',Same H H'->H D=none -> ∀fs:List (List Str×Addr),fs.map (·.1)=l.map (λz=>a++[z])->H' D=some (.lst (fs.map λx=>.ref x.2))->(∀x∈fs,H0 x.2=none/\H' x.2=some (Dc x.1))->R H' D) :
  ∀D,H D=none->Fa (Itt K ta) (gdN 0) Bt (Ad (Bg K) (Aa 1) (Gc (Ab (Aa 0) Ah))) D (λH'=>R H' D) σ (upd H D (.lst [])) E:=by
 intro D hD
 refine B0 (a33 (l.map V.str)) (λm σ H'=>(∃v,σ=[v,some (.ref aa)])/\Same H H'/\∃fs:List (List Str×Addr),fs.map (·.1)=(l.take m).map (λz=>a++[z])/\H' D=some (.lst (fs.map λx=>.ref x.2))/\∀x∈fs,H0 x.2=none/\H' x.2=some (Dc x.1))
  ⟨hσ,Same.upd hD,[],rfl,Ac,λx hx=>by cases hx⟩ (λm σ H' _ q=>q.2.1.seqT (SqT.of ht)) ?_ ?_
 .rintro m x σ H1 hx ⟨⟨v,rfl⟩,S1,fs,ef,eD,hf⟩
  obtain⟨z,hz,rfl⟩:=Ak hx
  refine⟨(show 1<=sizeLine by decide),λp hp=>?_⟩
  have Sp:=Same.upd (o:=.tup [.str z]) hp
  have ep:upd H1 p (.tup [.str z]) p=some (.tup [.str z]):=Ac
  show Bg K (.ref aa) (.ref p) (upd H1 p (.tup [.str z])) _
  generalize upd H1 p (.tup [.str z])=H2 at Sp ep ⊢
  refine ce4 (Sp _ _ (S1 _ _ ha)) ep hl λq H3 S3 eq nq=>?_
  have S03:=S0.trans (S1.trans (Sp.trans S3))
  have hq0:H0 q=none:=by
   rcases nq with nq|rfl
   .exact (S0.trans (S1.trans Sp)).free nq
   .exact (S0.trans S1).free hp
  have qD:q≠D:=by
   rcases nq with nq|rfl
   .exact (Aj (Sp _ _ eD) nq).symm
   .exact (Aj eD hp).symm
  have eD3:=S3 _ _ (Sp _ _ eD)
  refine⟨_,eD3,?_,⟨_,rfl⟩,(S1.trans (Sp.trans S3)).set hD,fs++[(a++[z],q)],?_,?_,?_⟩
  .rw[ae]
   have:=congrArg bH ef
   rw[ae,ae,aJ] at this
   exact aG (show fs.length<=8 by omega) (by decide)
  .rw[au,ef,Ax hz];rfl
  .rw[Ac,au];rfl
  .have hf3:∀x∈fs++[(a++[z],q)],H0 x.2=none/\H3 x.2=some (Dc x.1):=ae2 (ok:=λa=>H0 a=none) (f:=Dc) (a77 (ok:=λa=>H0 a=none) (f:=Dc) (Sp.trans S3) hf) hq0 eq
   intro x hx
   refine⟨(hf3 x hx).1,?_⟩
   rw[Ai (λe=>by have:=(hf3 x hx).2;rw[e,eD3] at this;cases this)]
   exact (hf3 x hx).2
 .rintro σ H1 ⟨_,S1,fs,ef,eD,hf⟩
  rw[ae,aO] at ef
  exact k D H1 S1 hD fs ef eD hf
theorem b49(Z:Ar K t):OkD K bk3 (Bc K t) bl (t.f 27) (t.d 27) (az7 K t):=by
 refine Bn (ch3 K t) λvs H Q E h=>?_
 .obtain⟨d,sw,rfl,⟨ds,ed,⟨_,od⟩,hd⟩,hw,k⟩:=h;refine⟨rfl,?_⟩
  refine⟨(show 0<=sizeLine by decide),λt0 h0=>⟨(show 1<=sizeLine by decide),λl0 hl0=>?_⟩⟩
  have St:=Same.upd (o:=.tup []) h0
  have Sl:=Same.upd (o:=.lst [.ref t0]) hl0
  have ft:H t0=none:=h0
  have fl:H l0=none:=St.free hl0
  have et:upd (upd H t0 (.tup [])) l0 (.lst [.ref t0]) t0=some (Dc []):=Sl _ _ Ac
  have el:upd (upd H t0 (.tup [])) l0 (.lst [.ref t0]) l0=some (.lst [.ref t0]):=Ac
  have S0:=St.trans Sl
  generalize upd (upd H t0 (.tup [])) l0 (.lst [.ref t0])=H0 at S0 et el ⊢
  have od0:=S0 _ _ od
  refine .inr (.inr (.inl ⟨_,od0,λo=>?_⟩))
  have len:ds.length=sw.length:=by rw[<- ed];simp
  have kf:Kp (fresh H) H0 (fresh H) (upd H0 d (.frz o (.dK (ds.map kR)))):=Kp.off (Ha od)
  have ef:upd H0 d (.frz o (.dK (ds.map kR))) d=some (.frz o (.dK (ds.map kR))):=Ac
  have ht0:∀x∈ds,upd H0 d (.frz o (.dK (ds.map kR))) x.2=some (Dc x.1.2):=λx hx=>by
   rw[Ai (λe=>by have:=(hd x hx).2;rw[e,od] at this;cases this)]
   exact S0 _ _ (hd x hx).2
  have T0:TupsAt (fresh H) (upd H0 d (.frz o (.dK (ds.map kR)))) l0 (Ae (sw.take 0)):=⟨[([],t0)],rfl,kf _ _ ⟨fl,el⟩,λx hx=>by
   have:x=([],t0):=by simpa using hx
   subst this
   exact kf _ _ ⟨ft,et⟩⟩
  have frees:∀ {H':Hp} {b:Addr},Same (upd H0 d (.frz o (.dK (ds.map kR)))) H'->H' b=none->H b=none:=λ{H' b} S e=>by
   have e1:=S.free e
   have nb:b≠d:=λz=>by rw[z,ef] at e1;cases e1
   rw[Ai nb] at e1
   exact S0.free e1
  generalize hHf:upd H0 d (.frz o (.dK (ds.map kR)))=Hf at kf ef ht0 T0 frees ⊢
  refine Ba (L9 (ds.map kR)) (λi σ H'=>(∃l v2 v3 v4,σ=[some (.ref d),some (.ref l),v2,v3,v4]/\TupsAt (fresh H) H' l (Ae (sw.take i)))/\Same Hf H') ⟨⟨_,_,_,_,rfl,T0⟩,Same.refl _⟩ (λi σ H' _ q=>q.2 _ _ ef) ?_ ?_
  .rintro i x σ H1 hx ⟨⟨l,v2,v3,v4,rfl,⟨es,ee,⟨fl1,el1⟩,he⟩⟩,S1⟩
   obtain⟨kv,hi0,rfl⟩:=Ak hx
   obtain⟨⟨e,ta⟩,hi,rfl⟩:=Ak hi0
   have hi2:sw[i]?=some e:=by rw[<- ed,aj,hi];rfl
   have hta:=ht0 _ (ag hi)
   have hoke:=hw.sets e (ag hi2)
   have hv:Bp (ds.map kR) (.inr e.1)=some (.ref ta):=C2 (Fl ed hw.2.2.1) hi0
   refine⟨by decide,λl2 hl2=>.inl ⟨⟨_,(Same.upd hl2).seqL (SqL.of el1)⟩,?_⟩⟩
   have f2:H l2=none:=frees S1 hl2
   have Sl2:=Same.upd (o:=.lst []) hl2
   have rl:∀r∈Ae (sw.take i),r.length<=100:=λr hr=>by
    have h1:=(Hb (sw:=sw.take i) (λx hx=>hw.sets x (fj hx))).2.1 r hr
    rw[h1,aJ]
    have:=hw.2.1
    omega
   have lenr:es.length=(Ae (sw.take i)).length:=by rw[<- ee];simp
   have few:(Ae (sw.take i)).length<=256:=by rw[Nn];exact aw (Q5 hw i) hw.2.2.2.2
   refine Ba (Aq (es.map λx=>V.ref x.2)) (λj σ H'=>(∃v4,σ=[some (.ref d),some (.ref l),some (.str e.1),some (.ref l2),v4])/\Same H1 H'/\∃fs:List (List Str×Addr),fs.map (·.1)=D8 ((Ae (sw.take i)).take j) e /\
     H' l2=some (.lst (fs.map λx=>.ref x.2))/\∀x∈fs,H x.2=none/\H' x.2=some (Dc x.1))
    ⟨⟨_,rfl⟩,Sl2,[],rfl,Ac,λx hx=>by cases hx⟩ (λj σ H' _ q=>q.2.1.seqL (SqL.of el1)) ?_ ?_
   .rintro j y σ H2 hy ⟨⟨v4,rfl⟩,S2,fs,efs,e2l,hf⟩
    obtain⟨⟨r,ra⟩,hj,rfl⟩:=Ak hy
    have hj2:(Ae (sw.take i))[j]?=some r:=by rw[<- ee,aj,hj];rfl
    obtain⟨_,hra⟩:=he _ (ag hj)
    have S12:=S1.trans S2
    refine⟨.inl ⟨rfl,_,SqL.of e2l⟩,.ref ta,.inl ⟨_,.inr e.1,.inr ⟨o,S12 _ _ ef⟩,rfl,hv.symm⟩,.inr (.inl ⟨⟨_,SqT.of (S12 _ _ hta)⟩,?_⟩)⟩
    refine Xq (H0:=H1) ⟨_,rfl⟩ S2 (S2 _ _ hra) (S12 _ _ hta) (rl r (ag hj2)) (aw hoke.2.2 (by decide)) λD H3 S3 hD gs eg eD hg=>?_
    have e3l:=S3 _ _ e2l
    have lfs:fs.length<=1024:=by
     have:=congrArg bH efs
     rw[ae,Rb,aJ] at this
     have h4:=hoke.2.2
     have:min j (Ae (sw.take i)).length * e.2.length<=256 * 4:=Nat.mul_le_mul (by omega) h4
     omega
    have lgs:gs.length<=4:=by
     have h1:gs.length=e.2.length:=by simpa using congrArg bH eg
     have h2:e.2.length<=4:=hoke.2.2
     omega
    refine⟨l2,D,_,_,rfl,rfl,e3l,eD,?_,⟨_,rfl⟩,(S2.trans S3).set hl2,fs++gs,?_,?_,?_⟩
    .rw[ae,ae]
     exact aw (show fs.length+gs.length<=1028 by omega) (by decide)
    .rw[au,efs,eg,ai0 hj2]
    .rw[Ac,au]
    .have h3:∀x∈fs++gs,H x.2=none/\H3 x.2=some (Dc x.1):=λx hx=>by
      rcases List.mem_append.mp hx with hx|hx
      .exact⟨(hf x hx).1,S3 _ _ (hf x hx).2⟩
      .exact⟨frees S1 (hg x hx).1,(hg x hx).2⟩
     intro x hx
     refine⟨(h3 x hx).1,?_⟩
     rw[Ai (λe=>by have:=(h3 x hx).2;rw[e,e3l] at this;cases this)]
     exact (h3 x hx).2
   .rintro σ H2 ⟨⟨v4,rfl⟩,S2,fs,efs,e2l,hf⟩
    rw[ae,lenr,aO] at efs
    refine .inl ⟨⟨_,_,_,_,rfl,fs,?_,⟨f2,e2l⟩,hf⟩,S1.trans S2⟩
    rw[efs]
    exact (C4 hi2 _ _).symm
  .rintro σ H1 ⟨⟨l,v2,v3,v4,rfl,T1⟩,S1⟩
   rw[ae,ae,len,aO] at T1
   refine .inr ⟨d,o,_,od0,S1 _ _ ef,?_⟩
   exact k _ l (S0.trans (Same.thaw od0 (hHf▸S1))) (T1.mono (Kp.off (Ha od)))
end
section
def Off(d:Addr)(H H':Hp):Prop:=∀b u,b≠d->H b=some u->H' b=some u
theorem Off.up {d:Addr}{H H1 H2:Hp}(h:Off d H H1)(S:Same H1 H2):Off d H H2:=λb u n e=>S _ _ (h b u n e)
theorem Off.set {d a:Addr}{o:HO}{H H1:Hp}(h:Off d H H1)(e:H a=none):Off d H (upd H1 a o):=λb u n q=>by rw[Ai (Aj q e)];exact h b u n q
theorem Off.free {d b:Addr}{H H1:Hp}(h:Off d H H1)(n:b≠d)(e:H1 b=none):H b=none:=by
 cases q:H b with
 |none=>rfl
 |some u=>rw[h b u n q] at e;cases e
theorem Off.thaw {d:Addr}{kvs:List (Key×V)}{H H1:Hp}(h:Off d H H1)(e:H d=some (.dK kvs)):Same H (upd H1 d (.dK kvs)):=λb u q=>by
 by_cases n:b=d
 .subst n;rw[Ac,<- e,q]
 .rw[Ai n];exact h b u n q
theorem Qi(p:Nat)(z:Str):∀(a:List (List Str))(r:List Str)(k:Nat),El p z k (a++[r])=El p z k a++(if r[p]?=some z then [k+a.length] else [])
 | [],r,k=>by
  rw[List.nil_append,El,El,El,List.nil_append]
  rfl
 | b::a,r,k=>by
  rw[eG,El,El,Qi p z a r (k+1),aN,show k+1+a.length=k+(a.length+1) by omega]
  split <;> simp
theorem R8(p:Nat)(z:Str):∀(a:List (List Str))(k n:Nat),n∈El p z k a->n<k+a.length
 |[],k,n,h=>by cases h
 | b::a,k,n,h=>by
  rw[El] at h
  rw[aN]
  split at h
  .rcases List.mem_cons.mp h with h|h
   .omega
   .have:=R8 p z a (k+1) n h;omega
  .have:=R8 p z a (k+1) n h;omega
theorem Mv(p:Nat)(z:Str):∀(a:List (List Str))(k:Nat),(El p z k a).length<=a.length
 |[],k=>ak _
 | b::a,k=>by
  rw[El,aN]
  split
  .rw[aN];have:=Mv p z a (k+1);omega
  .have:=Mv p z a (k+1);omega
theorem a78 {α:Type}{ds:List (α×Addr)}{i:Nat}{x y:V}(h:(Fb 0 (ds.map λx=>V.ref x.2))[i]?=some (x,y)):∃z,ds[i]?=some z/\x=.int (i:Int)/\y=.ref z.2:=by
 have hi:=Al h
 rw[Cj,ae] at hi
 refine⟨_,af hi,?_⟩
 have:=Dr (k:=0) (xs:=ds.map λx=>V.ref x.2) (i:=i) (x:=.ref ds[i].2) (by rw[aj,af hi];rfl)
 rw[this,cT] at h
 obtain⟨rfl,rfl⟩:V.int (i:Int)=x/\V.ref ds[i].2=y:=by simpa using h
 exact⟨rfl,rfl⟩
theorem bn9 {E:EK}{H:Hp}{l:Addr}{ds:List (List Str×Addr)}{rows:List (List Str)}{i:Nat}{z:Str}{R:Hp->Addr->Prop}(ed:ds.map (·.1)=rows)(ol:H l=some (.lst (ds.map λx=>.ref x.2)))(hd:∀x∈ds,H x.2=some (Dc x.1))(hr:∀r∈rows,i<r.length)(few:rows.length<=256)(k:∀D H',Same H H'->H D=none->H' D=some (.lst ((El i z 0 rows).map λn:Nat=>V.int (n:Int)))->R H' D) :
  ∀D,H D=none->Fa (Ite K l) (gdT K 2 [gdN 0,gdN 1]) (Au (Ad (Av K false) (Ad (An K) (Aa 1) (Aa 2)) (Aa 3))) (Aa 0) D (λH'=>R H' D) [none,none,some (.int (i:Int)),some (.str z)] (upd H D (.lst [])) E:=by
 intro D hD
 have len:(Fb 0 (ds.map λx=>V.ref x.2)).length=rows.length:=by rw[Cj,<- ed];simp
 refine a67 (Ui (ds.map λx=>V.ref x.2)) (λm σ H'=>(∃v0 v1,σ=[v0,v1,some (.int (i:Int)),some (.str z)])/\Same H H'/\H' D=some (.lst ((El i z 0 (rows.take m)).map λn:Nat=>V.int (n:Int))))
  ⟨⟨_,_,rfl⟩,Same.upd hD,Ac⟩ (λm σ H' _ q=>q.2.1.seqL (SqL.of ol)) ?_ ?_
 .rintro m x y T σ H1 hxy hT ⟨⟨v0,v1,rfl⟩,S1,eD⟩
  obtain⟨⟨r,b⟩,hm,rfl,rfl⟩:=a78 hxy
  have hm2:rows[m]?=some r:=by rw[<- ed,aj,hm];rfl
  have hb:=hd _ (ag hm)
  have hi:=hr r (ag hm2)
  have ST:=Same.upd (o:=.tup [.int (m:Int),.ref b]) hT
  refine⟨_,.inl (SqT.of Ac),rfl,?_⟩
  show Au _ [some (.int (m:Int)),some (.ref b),some (.int (i:Int)),some (.str z)] (upd H1 T (.tup [.int (m:Int),.ref b])) _ _
  generalize upd H1 T (.tup [.int (m:Int),.ref b])=H2 at ST ⊢
  have S2:=S1.trans ST
  have eD2:=ST _ _ eD
  have mm:min m rows.length=m:=j9 (dD (Al hm2))
  have he:El i z 0 (rows.take (m+1))=El i z 0 (rows.take m)++(if r[i]?=some z then [m] else []):=by
   rw[bF,hm2,cq,Qi,aJ,mm,cT]
  refine⟨_,_,.inr (SqT.of (S2 _ _ hb)),A3 (j:=i) (by rw[aj,af hi];rfl),?_⟩
  rw[af hi] at he
  show if decide (r[i]=z)=true then _ else _
  refine Gj (λe=>?_) (λe=>?_)
  .have e:r[i]=z:=by simpa using e
   rw[if_pos (by rw[e])] at he
   refine⟨_,eD2,?_,⟨_,_,rfl⟩,S2.set hD,?_⟩
   .rw[ae]
    have h1:=Mv i z (rows.take m) 0
    rw[aJ] at h1
    exact aG (show (El i z 0 (rows.take m)).length<=256 by omega) (by decide)
   .rw[Ac,he,au];rfl
  .have e:¬ r[i]=z:=by simpa using e
   rw[if_neg (by simpa using e),b7] at he
   exact⟨⟨_,_,rfl⟩,S2,by rw[he];exact eD2⟩
 .rintro σ H1 ⟨_,S1,eD⟩
  rw[len,aO] at eD
  exact k D H1 S1 hD eD
theorem ah8 {rows:List (List Str)}{i m:Nat}{l:List Str}{z:Str}(hz:l[m]?=some z)(nd:l.Nodup) :
  Db ((l.take m).map λz=>((.inr z:Key),V.int (Cr rows i z))) (.inr z) (.int (Cr rows i z))=(l.take (m+1)).map λz=>((.inr z:Key),V.int (Cr rows i z)):=by
 rw[Ff,Ax hz]
 refine Eh ?_
 rw[a_]
 intro hm
 obtain⟨y,hy,e⟩:=List.mem_map.mp hm
 have e:y=z:=by injection e
 subst e
 exact Jl nd hz hy
theorem b54(Z:Ar K t):OkD K bk5 (Bc K t) bl (t.f 30) (t.d 30) (a02 K t):=by
 refine Bn (ch8 K t) λvs H Q E h=>?_
 .obtain⟨d,l,sw,rfl,⟨ds,ed,⟨_,od⟩,hd⟩,⟨ts,et,⟨_,ol⟩,htp⟩,hw,k⟩:=h;refine⟨rfl,?_⟩
  intro s hs
  have nds:d≠s:=Aj od hs
  have nld:l≠d:=λe=>by rw[e,od] at ol;cases ol
  have od1:upd H s (.dK []) d=some (.dK (ds.map kR)):=by rw[Ai nds];exact od
  refine .inl (.inr (.inl ⟨_,od1,λo=>?_⟩))
  have O0:Off d H (upd (upd H s (.dK [])) d (.frz o (.dK (ds.map kR)))):=λb u n e=>by rw[Ai n,Ai (Aj e hs)];exact e
  have ef:upd (upd H s (.dK [])) d (.frz o (.dK (ds.map kR))) d=some (.frz o (.dK (ds.map kR))):=Ac
  have es0:upd (upd H s (.dK [])) d (.frz o (.dK (ds.map kR))) s=some (.dK []):=by rw[Ai (cQ nds),Ac]
  have len:(Fb 0 ((ds.map kR).map λkv=>kV kv.1)).length=sw.length:=by rw[Cj,<- ed];simp
  have few:=hw.len
  have rlen:=(Hb hw.sets).2.1
  show Mb (am8 d o (ds.map kR)) _ _ _ [some (.ref d),some (.ref l),some (.ref s),none,none,none,none] _
  generalize upd (upd H s (.dK [])) d (.frz o (.dK (ds.map kR)))=H0 at O0 ef es0 ⊢
  refine R7 (a32 (ds.map kR)) (λi σ H'=>(∃v3 v4 v5 v6,σ=[some (.ref d),some (.ref l),some (.ref s),v3,v4,v5,v6])/\Off d H H'/\H' d=some (.frz o (.dK (ds.map kR))) /\
    ∃es:List ((Str×List Str)×Addr),es.map (·.1)=sw.take i/\H' s=some (.dK (es.map kR))/\∀j x,es[j]?=some x->H x.2=none/\H' x.2=some (Ya (Ae sw) j x.1.2))
   ⟨⟨_,_,_,_,rfl⟩,O0,ef,[],rfl,es0,λj x hx=>by simp at hx⟩ (λi σ H' _ q=>q.2.2.1) ?_ ?_
  .rintro i x y T σ H1 hxy hT ⟨⟨v3,v4,v5,v6,rfl⟩,O1,f1,es,ee,e1s,he⟩
   have hi':=Al hxy
   rw[len] at hi'
   have hids:i<ds.length:=by rw[<- ed,ae] at hi';exact hi'
   obtain⟨⟨e,ta⟩,hi⟩:∃z,ds[i]?=some z:=⟨_,af hids⟩
   have hxy2:=Dr (k:=0) (xs:=(ds.map kR).map λkv=>kV kv.1) (i:=i) (x:=.str e.1) (by rw[aj,aj,hi];rfl)
   rw[hxy2,cT] at hxy
   obtain⟨rfl,rfl⟩:V.int (i:Int)=x/\V.str e.1=y:=by simpa using hxy
   have hi2:sw[i]?=some e:=by rw[<- ed,aj,hi];rfl
   have hta:=(hd _ (ag hi)).2
   have nta:ta≠d:=λz=>by rw[z,od] at hta;cases hta
   have hoke:=hw.sets e (ag hi2)
   have hv:Bp (ds.map kR) (.inr e.1)=some (.ref ta):=C2 (Fl ed hw.2.2.1) (by rw[aj,hi];rfl)
   have nk:=Lu ee hi2 hw.2.2.1
   have les:es.length=i:=by
    have:=congrArg bH ee
    rw[ae,aJ] at this
    omega
   have ST:=Same.upd (o:=.tup [.int (i:Int),.str e.1]) hT
   refine⟨_,.inl (SqT.of Ac),rfl,?_⟩
   show Ag _ _ _ [some (.ref d),some (.ref l),some (.ref s),some (.int (i:Int)),some (.str e.1),v5,v6] (upd H1 T (.tup [.int (i:Int),.str e.1]))
   generalize upd H1 T (.tup [.int (i:Int),.str e.1])=H2 at ST ⊢
   have O2:=O1.up ST
   have f2:=ST _ _ f1
   have e2s:=ST _ _ e1s
   intro q hq
   have nqd:q≠d:=(Aj f2 hq).symm
   have nqs:q≠s:=(Aj e2s hq).symm
   have fq:H q=none:=O2.free nqd hq
   have Sq:=Same.upd (o:=.dK []) hq
   have eq:upd H2 q (.dK []) q=some (.dK []):=Ac
   refine .inl ?_
   show Eb K (Aa 2) (Aa 4) (.ref q) [some (.ref d),some (.ref l),some (.ref s),some (.int (i:Int)),some (.str e.1),v5,v6] (upd H2 q (.dK [])) _
   generalize upd H2 q (.dK [])=H3 at Sq eq ⊢
   refine⟨_,DPut.k (k:=.inr e.1) (Sq _ _ e2s) ?_,?_⟩
   .rw[ae]
    have:=hw.2.1
    exact aG (show es.length<=5 by omega) (by decide)
   rw[Lr nk]
   have O4:Off d H (upd H3 s (.dK ((es++[(e,q)]).map kR))):=(O2.up Sq).set hs
   have f4:upd H3 s (.dK ((es++[(e,q)]).map kR)) d=some (.frz o (.dK (ds.map kR))):=by rw[Ai nds];exact Sq _ _ f2
   have e4s:upd H3 s (.dK ((es++[(e,q)]).map kR)) s=some (.dK ((es++[(e,q)]).map kR)):=Ac
   have e4q:upd H3 s (.dK ((es++[(e,q)]).map kR)) q=some (Ya (Ae sw) i (e.2.take 0)):=by rw[Ai nqs];exact eq
   have he4:∀j x,es[j]?=some x->H x.2=none/\upd H3 s (.dK ((es++[(e,q)]).map kR)) x.2=some (Ya (Ae sw) j x.1.2)/\x.2≠q/\x.2≠s:=λj x hx=>by
    obtain⟨a1,a2⟩:=he j x hx
    have b1:=Aj (ST _ _ a2) hq
    have b2:x.2≠s:=λz=>by
     rw[z,e1s] at a2
     unfold Ya at a2
     have a3:es.map kR=x.1.2.map λz=>((.inr z:Key),V.int (Cr (Ae sw) j z)):=by injection (aM a2)
     have m1:kR x∈es.map kR:=iD (ag hx)
     rw[a3] at m1
     obtain⟨y,_,hy⟩:=List.mem_map.mp m1
     injection hy with _ hy
     cases hy
    refine⟨a1,?_,b1,b2⟩
    rw[Ai b2];exact Sq _ _ (ST _ _ a2)
   generalize upd H3 s (.dK ((es++[(e,q)]).map kR))=H4 at O4 f4 e4s e4q he4 ⊢
   have nd4:(((es++[(e,q)]).map kR).map (·.1)).Nodup:=Fl (G1 ee hi2) (by rw[ib];exact hw.2.2.1.sublist (List.take_sublist _ _))
   have hq4:Bp ((es++[(e,q)]).map kR) (.inr e.1)=some (.ref q):=C2 (i:=es.length) nd4 (by rw[aj,bU (ak _),gN];rfl)
   refine⟨.ref ta,.inl ⟨_,.inr e.1,.inr ⟨o,f4⟩,rfl,hv.symm⟩,.inr (.inl ⟨⟨_,SqT.of (O4 _ _ nta hta)⟩,?_⟩)⟩
   refine Ba (a33 (e.2.map V.str)) (λm σ H'=>(∃v5 v6,σ=[some (.ref d),some (.ref l),some (.ref s),some (.int (i:Int)),some (.str e.1),v5,v6])/\Off d H H'/\H' d=some (.frz o (.dK (ds.map kR)))/\H' s=some (.dK ((es++[(e,q)]).map kR)) /\
     H' q=some (Ya (Ae sw) i (e.2.take m))/\∀j x,es[j]?=some x->H' x.2=some (Ya (Ae sw) j x.1.2))
    ⟨⟨_,_,rfl⟩,O4,f4,e4s,e4q,λj x hx=>(he4 j x hx).2.1⟩ (λm σ H' _ q=>SqT.of (q.2.1 _ _ nta hta)) ?_ ?_
   .rintro m x σ H5 hx ⟨⟨v5,v6,rfl⟩,O5,f5,e5s,e5q,he5⟩
    obtain⟨z,hz,rfl⟩:=Ak hx
    refine .inl ⟨⟨_,SqL.of (O5 _ _ nld ol)⟩,?_⟩
    refine bn9 et (O5 _ _ nld ol) (λx hx=>O5 _ _ (λe=>by have:=(htp x hx).2;rw[e,od] at this;cases this) (htp x hx).2) (λr hr=>by rw[rlen r hr];exact hi') few λD H6 S6 hD eD=>?_
    refine⟨D,_,rfl,SqL.of eD,(λn hn=>?_),?_⟩
    .have:=R8 i z (Ae sw) 0 n hn
     omega
    show Eb K (Ad (An K) (Aa 2) (Aa 4)) (Aa 5) (.int (Cr (Ae sw) i z)) [some (.ref d),some (.ref l),some (.ref s),some (.int (i:Int)),some (.str e.1),some (.str z),some (.ref D)] H6 _
    refine⟨.ref q,.inl ⟨_,.inr e.1,.inl (S6 _ _ e5s),rfl,hq4.symm⟩,_,DPut.k (k:=.inr z) (S6 _ _ e5q) ?_,?_⟩
    .rw[ae,aJ]
     have:=hoke.2.2
     exact aG (show min m e.2.length<=4 by omega) (by decide)
    rw[ah8 hz hoke.1.2.1]
    refine⟨⟨_,_,rfl⟩,(O5.up S6).set fq,?_,?_,Ac,λj x hx=>?_⟩
    .rw[Ai (cQ nqd)];exact S6 _ _ f5
    .rw[Ai (cQ nqs)];exact S6 _ _ e5s
    .rw[Ai (he4 j x hx).2.2.1];exact S6 _ _ (he5 j x hx)
   .rintro σ H5 ⟨⟨v5,v6,rfl⟩,O5,f5,e5s,e5q,he5⟩
    rw[ae,aO] at e5q
    refine .inl ⟨⟨_,_,_,_,rfl⟩,O5,f5,es++[(e,q)],G1 ee hi2,e5s,λj x hx=>?_⟩
    by_cases hj:j<es.length
    .rw[c_ hj] at hx
     exact⟨(he4 j x hx).1,he5 j x hx⟩
    .have hj2:=Al hx
     rw[aP] at hj2
     have hj3:j=es.length:=by have:[(e,q)].length=1:=rfl;omega
     subst hj3
     rw[bU (ak _),gN] at hx
     have:(e,q)=x:=by simpa using hx
     subst this
     rw[les]
     exact⟨fq,e5q⟩
  .rintro σ H1 ⟨⟨v3,v4,v5,v6,rfl⟩,O1,f1,es,ee,e1s,he⟩
   rw[len,aO] at ee
   refine .inr ⟨d,o,_,od1,f1,?_⟩
   refine k _ s (O1.thaw od) ⟨es,ee,⟨hs,?_⟩,λj x hx=>⟨(he j x hx).1,?_⟩⟩
   .rw[Ai (cQ nds)];exact e1s
   .rw[Ai (λz=>by have:=(he j x hx).1;rw[z,od] at this;cases this)];exact (he j x hx).2
end
section
theorem C7(l:List Str):(l.map V.str).all Bv=true:=by rw[d9,aR];exact λ_ _=>rfl
theorem Bm(h:sw[i]?=some x)(nd:(sw.map (·.1)).Nodup):As sw x.1=i:=by
 have hi:=Al h
 have ex:sw[i]=x:=by rw[af hi] at h;exact aM h
 unfold As
 rw[List.findIdx_eq hi]
 refine⟨by rw[ex];simp,λj hj=>?_⟩
 have hj2:j<sw.length:=by omega
 refine decide_eq_false λe=>?_
 have:=(c5 (i:=j) (j:=i) (h₀:=by rw[ae];exact hj2) (h₁:=by rw[ae];exact hi) nd).mp (by rw[dL,dL,e,ex])
 omega
theorem Wp {rows:List (List Str)}{i:Nat}{l:List Str}{z:Str}(nd:l.Nodup)(h:z∈l):Bp (l.map λz=>((.inr z:Key),V.int (Cr rows i z))) (.inr z)=some (.int (Cr rows i z)):=by
 obtain⟨j,hj,e⟩:=List.mem_iff_getElem.mp h
 refine C2 (i:=j) ?_ ?_
 .rw[a_];exact Qy nd
 .rw[aj,af hj,e];rfl
theorem b70(Z:Ar K t):OkD K a45 (Bc K t) bl (t.m_zbm 8) (t.e_zbm 8) (a15 K t):=by
 refine Bn (cj5 K t) λvs H Q E h=>?_
 .obtain⟨p,a,l,s,wd,ss,sw,rfl,⟨dx,fs,⟨_,hp⟩,hl,hs,hm⟩,⟨ds,ed,⟨_,os⟩,hd⟩,hw,ha,⟨ne,hL,x,hx,ex,hin⟩,k⟩:=h;refine⟨rfl,?_⟩
  have ex:x.1=wd:=ex
  have ne:ss≠[]:=ne
  have hL:okL ss:=hL
  have hin:∀z∈ss,z∈x.2:=hin
  subst ex
  obtain⟨i,hi2⟩:=List.mem_iff_getElem?.mp hx
  have hids:i<ds.length:=by have:=Al hi2;rw[<- ed,ae] at this;exact this
  obtain⟨⟨x',q⟩,hi⟩:∃z,ds[i]?=some z:=⟨_,af hids⟩
  have:x'=x:=by
   rw[<- ed,aj,hi] at hi2
   exact aM hi2
  subst this
  have oq:=(hd i _ hi).2
  have hok:=hw.sets x' hx
  have hv:Bp (ds.map kR) (.inr x'.1)=some (.ref q):=C2 (Fl ed hw.2.2.1) (by rw[aj,hi];rfl)
  have pl:=Bm hi2 hw.2.2.1
  have cl:=Z.pf.cl
  have na:NoAttr K t.c_zbm "sets" := Z.pf.na _ (by simp)
  have gq:∀ {H'},Same H H'->DGet H' s (.str x'.1) (some (.ref q)):=λS=>.inl ⟨_,.inr x'.1,.inl (S _ _ os),rfl,hv.symm⟩
  refine⟨rfl,?_⟩
  refine jk ⟨_,_,_,_,hp,cl,na,hs,?_⟩
  refine .inr ⟨_,gq (Same.refl _),?_⟩
  refine⟨a,ss,rfl,SqL.of ha,hL,λH1 S1=>⟨by decide,λe he=>.inl ⟨a,e,_,_,rfl,rfl,(S1.trans (Same.upd he)).seqL (SqL.of ha),SqL.of Ac,C7 ss,rfl,B4 ?_ ?_⟩⟩⟩
  .exact Ip (by rw[ae];intro z;exact ne (List.length_eq_zero_iff.mp z))
  have S2:=S1.trans (Same.upd (o:=.lst []) he)
  generalize upd H1 e (.lst [])=H2 at S2 ⊢
  refine .inl ⟨⟨_,S2.seqL (SqL.of ha)⟩,?_⟩
  refine Up (K:=K) (σ:=[none,some (.ref p),some (.str x'.1)]) (Aq (ss.map V.str)) (λσ=>∃v,σ=[v,some (.ref p),some (.str x'.1)]) (λH3 S3=>(S2.trans S3).seqL (SqL.of ha)) ?_ ⟨_,rfl⟩ (λσ x ⟨v,e⟩=>⟨some x,by rw[e];rfl⟩) ?_ λD3 H3 S3 q3=>⟨_,q3,?_⟩
  .rw[ae];exact aG hL.2.2 (by decide)
  .rintro y σ H3 Q1 hy ⟨v,rfl⟩ S3 q1
   obtain⟨z,hz,rfl⟩:=List.mem_map.mp hy
   have S:=S2.trans S3
   refine jk ⟨_,_,_,_,(S _ _ hp),cl,na,hs,⟨.ref q,gq S,.inr ⟨_,.inl ⟨_,.inr z,.inl (S _ _ oq),rfl,rfl⟩,?_⟩⟩⟩
   rw[Wp hok.1.2.1 (hin z hz)]
   exact q1 H3 (Same.refl _)
  .rw[Zc]
   have S:=S2.trans S3
   refine .inl ⟨⟨_,S.seqL (SqL.of ha)⟩,λD hD=>?_⟩
   refine Rv (Aq (ss.map V.str)) (λσ=>∃v,σ=[v,some (.ref p),some (.str x'.1)]) (λ_=>true) (λv=>match v with | .str z=>.int (Cr (Ae sw) i z)|_=>.non) hD (λH4 S4=>(S.trans S4).seqL (SqL.of ha)) ?_ ⟨_,rfl⟩ ?_ ?_
   .rw[ae];exact aG hL.2.2 (by decide)
   .rintro y σ H4 hy ⟨v,rfl⟩ S4 Fin Skip hF hK
    obtain⟨z,hz,rfl⟩:=List.mem_map.mp hy
    have S5:=S.trans S4
    refine (jk ⟨_,_,_,_,(S5 _ _ hp),cl,na,hs,⟨.ref q,gq S5,.int (Cr (Ae sw) i z),.inl ⟨_,.inr z,.inl (S5 _ _ oq),rfl,?_⟩,?_⟩⟩)
    .rw[Wp hok.1.2.1 (hin z hz)]
    .exact hF _ _ _ ⟨_,rfl⟩ (Same.refl _) rfl rfl
   .intro H4 S4 eD
    refine⟨D,ss.map (Cr (Ae sw) i),rfl,SqL.of (eD.trans ?_),?_⟩
    .rw[List.filter_eq_self.mpr (λ_ _=>rfl),a_,a_];rfl
    .have:=k H4 (S.trans S4)
     unfold Lb at this
     rw[pl] at this
     exact this
theorem bq4(Z:Ar K t):OkD K Y2 (Bc K t) bl (t.m_zbm 1) (t.e_zbm 1) (Yh K t):=by
 refine Bn (ca8 K t) λvs H Q E h=>?_
 .obtain⟨p,r,l,s,sw,rule,rfl,hs,ht,hse,hw,⟨ds,ed,⟨_,od⟩,hd⟩,hr,k⟩:=h;refine⟨rfl,?_⟩
  obtain⟨dx,fs,⟨np,hp⟩,_,_,hm⟩:=id hs
  have len:ds.length=rule.length:=by rw[<- ed];simp
  refine⟨_,true,.of (.dK od),rfl,⟨p,dx,fs,⟨t.c_zbm,a83 K t⟩,rfl,.head _,hp,hm _ (by decide),⟨aC rfl,aC rfl⟩,p,l,s,sw,rfl,hs.mono Kp.any,ht.mono Kp.any,hw.len,?_⟩⟩
  refine .inr (.inr (.inl ⟨_,od,λo=>?_⟩))
  have kf:Kp (· ≠ r) H (· ≠ r) (upd H r (.frz o (.dK (ds.map kR)))):=Kp.off (λe=>e rfl)
  have ef:upd H r (.frz o (.dK (ds.map kR))) r=some (.frz o (.dK (ds.map kR))):=Ac
  have hd2:∀x∈ds,upd H r (.frz o (.dK (ds.map kR))) x.2=some (A5 x.1.2):=λx hx=>by
   rw[Ai (λe=>by have:=(hd x hx).2;rw[e,od] at this;cases this)]
   exact (hd x hx).2
  show Mb (Itd r o (ds.map kR)) _ _ _ [some (.ref p),some (.ref r),some (.int (Rj sw)),none] _
  generalize hHf:upd H r (.frz o (.dK (ds.map kR)))=Hf at kf ef hd2 ⊢
  refine Ba (L9 (ds.map kR)) (λi σ H'=>(∃v3,σ=[some (.ref p),some (.ref r),some (.int ((rule.take i).foldl (λc e=>aX c (Lb sw e)) (Rj sw))),v3])/\Same Hf H') ⟨⟨_,rfl⟩,Same.refl _⟩ (λi σ H' _ q=>q.2 _ _ ef) ?_ ?_
  .rintro i x σ H1 hx ⟨⟨v3,rfl⟩,S1⟩
   obtain⟨kv,hi0,rfl⟩:=Ak hx
   obtain⟨⟨e,la⟩,hi,rfl⟩:=Ak hi0
   have hi2:rule[i]?=some e:=by rw[<- ed,aj,hi];rfl
   have hv:Bp (ds.map kR) (.inr e.1)=some (.ref la):=C2 (Fl ed hr.1) hi0
   have kn:Kp (· ≠ r) H any H1:=(kf.trans (Kp.same S1)).trans Kp.any
   refine⟨p,dx,fs,⟨t.c_zbm,b36 K t⟩,rfl,.head _,(kn _ _ ⟨np,hp⟩).2,hm _ (by decide),⟨aC rfl,aC rfl⟩,.ref la,.inl ⟨_,.inr e.1,.inr ⟨o,S1 _ _ ef⟩,rfl,hv.symm⟩,?_⟩
   refine⟨p,la,l,s,e.1,e.2,sw,rfl,hs.mono kn,hse.mono kn,hw,S1 _ _ (hd2 _ (ag hi)),hr.2 e (ag hi2),λH2 S2=>?_⟩
   exact⟨⟨_,congrArg (λz=>[some (V.ref p),some (V.ref r),some (V.int z),some (V.str e.1)]) (C4 hi2 (λc e=>aX c (Lb sw e)) (Rj sw)).symm⟩,S1.trans S2⟩
  .rintro σ H1 ⟨⟨v3,rfl⟩,S1⟩
   rw[ae,ae,len,aO]
   exact .inr ⟨r,o,_,od,S1 _ _ ef,k _ (Same.thaw od (hHf▸S1))⟩
theorem b55(Z:Ar K t):OkD K a41 (Bc K t) bl (t.m_zbm 5) (t.e_zbm 5) (a03 K t):=by
 refine Bn (ch9 K t) λvs H Q E h=>?_
 .obtain⟨p,r,l,s,sw,rule,rfl,hs,ht,hse,hw,hrl,hr,k⟩:=h;refine⟨rfl,?_⟩
  obtain⟨ds,ed,⟨_,od⟩,hd⟩:=id hrl
  obtain⟨dx,fs,⟨np,hp⟩,_,_,hm⟩:=id hs
  have len:ds.length=rule.length:=by rw[<- ed];simp
  have pos:0<rule.length:=List.length_pos_iff.mpr hr.1
  refine⟨_,true,.of (.dK od),rfl,(.inr ⟨_,.inl od,B4 ?_ ?_⟩)⟩
  .refine decide_eq_false λe=>?_
   rw[ae] at e
   omega
  refine⟨p,dx,fs,⟨t.c_zbm,Zs K t⟩,rfl,.head _,hp,hm _ (by decide),⟨aC rfl,aC rfl⟩,p,r,l,s,sw,rule,rfl,hs,ht,hse,hw,hrl,⟨hr.2.2.1,hr.2.2.2⟩,λH1 S1=>?_⟩
  exact⟨r,rule,rfl,hrl.mono (Kp.same S1),hr.2.2.1,hr.2.1,λH2 c S2 R2=>k H2 c (S1.trans S2) (R2.mono (Kp.fresh S1))⟩
theorem b52(Z:Ar K t):OkD K a40 (Bc K t) bl (t.m_zbm 6) (t.e_zbm 6) (a01 K t):=by
 refine Bn (ch6 K t) λvs H Q E h=>?_
 .obtain⟨p,l,s,ok,v,sw,ζ,rfl,hs,ht,hse,hw,hv,hr,h8,k⟩:=h;refine⟨rfl,?_⟩
  rcases hv with ⟨rfl,rfl⟩|⟨kk,rfl,ds,ed,⟨nk,ok1⟩,hd⟩
  .refine⟨by decide,λq hq=>k _ q (Same.upd hq) ⟨[],rfl,⟨hq,Ac⟩,λx hx=>by cases hx⟩⟩
  .obtain⟨dx,fs,⟨op,hp⟩,_,_,hm⟩:=id hs
   have len:(ds.map λx=>V.ref x.2).length=ζ.length:=by rw[<- ed];simp
   refine⟨_,true,.sqL rfl (SqL.of ok1) rfl,rfl,(.inl ⟨_,.inl (SqL.of ok1),B4 ?_ ?_⟩)⟩
   .refine decide_eq_false λe=>?_
    rw[len] at e
    omega
   refine .inl ⟨⟨_,SqL.of ok1⟩,λD hD=>?_⟩
   refine B0 (Aq (ds.map λx=>V.ref x.2)) (λm σ H'=>(∃v,σ=[v,some (.ref p)])/\Same H H'/\∃fs:List (Sw×Addr),fs.map (·.1)=ζ.take m/\H' D=some (.lst (fs.map λx=>.ref x.2))/\∀x∈fs,RuleAt (λa=>H a=none/\a≠D) H' x.2 x.1)
    ⟨⟨_,rfl⟩,Same.upd hD,[],rfl,Ac,λx hx=>by cases hx⟩ (λm σ H' _ q=>q.2.1.seqL (SqL.of ok1)) ?_ ?_
   .rintro m x σ H1 hx ⟨⟨v,rfl⟩,S1,gs,eg,eD,hg⟩
    obtain⟨⟨rule,r⟩,hm2,rfl⟩:=Ak hx
    have hm3:ζ[m]?=some rule:=by rw[<- ed,aj,hm2];rfl
    have hrl:=hd _ (ag hm2)
    have nr:¬ ok r:=by obtain⟨_,_,o,_⟩:=hrl;exact o.1
    have kw:Kp ok H (· ≠ r) H1:=(Kp.same S1).trans (Kp.weak λa h e=>nr (e▸h))
    refine⟨p,dx,fs,⟨t.c_zbm,b35 K t⟩,rfl,.head _,S1 _ _ hp,hm _ (by decide),⟨aC rfl,aC rfl⟩,p,r,l,s,sw,rule,rfl,hs.mono kw,ht.mono kw,hse.mono kw,hw,hrl.mono ((Kp.same S1).trans Kp.any),hr rule (ag hm3),λH2 c S2 R2=>?_⟩
    have eD2:=S2 _ _ eD
    refine⟨_,eD2,?_,⟨_,rfl⟩,(S1.trans S2).set hD,gs++[(rule,c)],G1 eg hm3,?_,?_⟩
    .rw[ae]
     have:=R1 eg
     exact aG (show gs.length<=8 by omega) (by decide)
    .rw[Ac,au];rfl
    .have ko:Kp (λa=>H a=none/\a≠D) H2 (λa=>H a=none/\a≠D) (upd H2 D (.lst ((gs.map λx=>V.ref x.2)++[.ref c]))):=Kp.off (λe=>e.2 rfl)
     intro x hx
     rcases List.mem_append.mp hx with hx|hx
     .exact (hg x hx).mono ((Kp.same S2).trans ko)
     .have:x=(rule,c):=by simpa using hx
      subst this
      exact R2.mono ((Kp.weak λa h=>⟨S1.free h,(Aj eD h).symm⟩).trans ko)
   .rintro σ H1 ⟨_,S1,gs,eg,eD,hg⟩
    rw[len,aO] at eg
    exact k H1 D S1 ⟨gs,eg,⟨hD,eD⟩,λx hx=>(hg x hx).mono (Kp.weak λa h=>h.1)⟩
end
section
theorem _root_.Pn.PanAt.self(h:PanAt C ok H p sw ζ dx d l n s k b):SelfAt C ok H p l s:=by
 refine⟨dx,_,h.ins,rfl,rfl,λm hm=>?_⟩
 simp only[aS,c6,or_false] at hm
 rcases hm with rfl|rfl|rfl|rfl|rfl|rfl <;> rfl
theorem Mj(m n:Nat):decide (aX ((m:Int) / 2 ^ ((n:Int)).toNat) 1=1)=m.testBit n:=by
 rw[aI,C1,<- Int.natCast_ediv,show (1:Int)=((1:Nat):Int) from rfl,A7,lg,Nat.testBit_eq_decide_div_mod_eq]
 exact decide_eq_decide.mpr (by omega)
theorem b57(Z:Ar K t):OkD K a42 (Bc K t) bl (t.m_zbm 7) (t.e_zbm 7) (a05 K t):=by
 refine Bn (ci1 K t) λvs H Q E h=>?_
 .obtain⟨p,sw,ζ,rfl,⟨dx,d,l,n,s,kk,b,h⟩,hw,k⟩:=h;refine⟨rfl,?_⟩
  obtain⟨ds,ed,⟨_,od⟩,hd⟩:=h.sws
  have len:ds.length=sw.length:=by rw[<- ed];simp
  refine jk ⟨_,_,_,_,h.ins.2,Z.pf.cl,(Z.pf.na _ (by simp)),rfl,⟨_,.inl od,?_,λq Ts H' S hq eq lt la=>?_⟩⟩
  .rw[ae,len];have:=hw.2.1;omega
  have lt:Ts.length=ds.length:=by rw[lt,ae]
  refine k H' q (ds.zip Ts) S hq ?_ ?_ ?_
  .rw[<- ed,show (ds.zip Ts).map (·.1.1)=((ds.zip Ts).map (·.1)).map (·.1) by rw[a_];rfl,List.map_fst_zip (by omega)]
  .rw[eq,show ((ds.zip Ts).map λx=>V.ref x.2)=((ds.zip Ts).map (·.2)).map V.ref by rw[a_];rfl,List.map_snd_zip (by omega)]
  .intro x hx
   obtain⟨j,hj,e⟩:=List.mem_iff_getElem.mp hx
   have e2:(ds.zip Ts)[j]?=some x:=by rw[af hj,e]
   obtain⟨x1,x2⟩:=x
   rw[List.getElem?_zip_eq_some] at e2
   obtain⟨e3,e4⟩:=e2
   have hl:=la j _ _ x2 (show (ds.map kR)[j]?=some (.inr x1.1.1,.ref x1.2) by rw[aj,e3];rfl) e4
   exact⟨hl.2,S _ _ (hd x1 (ag e3)).2⟩
theorem b62(Z:Ar K t):OkD K a43 (Bc K t) bl (t.m_zbm 4) (t.e_zbm 4) (a09 K t):=by
 refine Bn (ci7 K t) λvs H Q E h=>?_
 .obtain⟨p,i,x,sw,ζ,rfl,⟨dx,d,l,n,s,kk,b,h⟩,hw,hi,k⟩:=h;refine⟨rfl,?_⟩
  obtain⟨ds,ed,⟨_,od⟩,hd⟩:=h.sts
  obtain⟨⟨x',q⟩,hi',ex⟩:∃m,ds[i]?=some m/\x=m.1:=Ak (by rw[ed];exact hi)
  have ex:x=x':=ex
  subst ex
  have hv:Bp (ds.map kR) (.inr x.1)=some (.ref q):=C2 (Fl ed hw.2.2.1) (by rw[aj,hi'];rfl)
  have oq:=(hd i _ hi').2
  have hk:=hw.sets x (ag hi)
  refine jk ⟨_,_,_,_,h.ins.2,Z.pf.cl,(Z.pf.na _ (by simp)),rfl,⟨.ref q,.inl ⟨_,.inr x.1,.inl od,rfl,hv.symm⟩,_,.inl oq,?_,λr Ts H' S hq eq lt la=>k H' r S ⟨Ts,eq,?_,λj y z T e1 e2=>?_⟩⟩⟩
  .rw[ae];have:=hk.2.2;show x.2.length<1000;omega
  .rw[lt,ae,ae]
  .rw[aj] at e1
   cases e:x.2[j]? with
   |none=>rw[e] at e1;cases e1
   |some z'=>
    rw[e] at e1
    cases e1
    exact (la j (.inr z') (.int (Cr (Ae sw) i z')) T (by rw[aj,e];rfl) e2).2
end
section
theorem Hn {f:Str}{p C dx:Addr}{fs fs':List (Str×V)}{y:V}{H:Hp}{N:Hp->Prop}(hp:H p=some (.ins C dx fs))(c:Cls K C)(n:NoAttr K C f)(l:fs.length<1000)(e:Gn f y fs=fs')(k:∀H',(∀b,b≠p->H' b=H b)->H' p=some (.ins C dx fs')->N H'):ay4 K f (.ref p) y H N:=
 .inl ⟨C,dx,fs,hp,c,n,l,k _ (λb hb=>Ai hb) (by rw[Ac,e])⟩
theorem Kp.but {ok:Addr->Prop}{p:Addr}{H H':Hp}(h:∀b,b≠p->H' b=H b)(n:¬ ok p):Kp ok H ok H':=λa o q=>⟨q.1,by rw[h a (λe=>n (e▸q.1))];exact q.2⟩
theorem Off.but {p:Addr}{H H1 H2:Hp}(h:Off p H H1)(e:∀b,b≠p->H2 b=H1 b):Off p H H2:=λb u n q=>by rw[e b n];exact h b u n q
theorem Off.fr {p:Addr}{u:HO}{H H1:Hp}(h:Off p H H1)(e:H1 p=some u):∀b,H1 b=none->H b=none:=λb q=>h.free (λz=>by rw[z,e] at q;cases q) q
structure Pc (ok:Addr->Prop) (H:Hp) (d l n s:Addr) (sw:Sw):Prop where
 sws:SwAt ok H d sw
 tps:TupsAt ok H l (Ae sw)
 nms:NumAt ok H n (Ae sw)
 sts:SetsAt ok H s sw
theorem Pc.mono {ok ok':Addr->Prop}{H H':Hp}{d l n s:Addr}{sw:Sw}(h:Pc ok H d l n s sw)(k:Kp ok H ok' H'):Pc ok' H' d l n s sw:=⟨h.sws.mono k,h.tps.mono k,h.nms.mono k,h.sts.mono k⟩
abbrev fl1(d:Addr):List (Str×V):=[("settings", .ref d)]
abbrev fl2(d l:Addr):List (Str×V):=[("settings", .ref d),("tuples", .ref l)]
abbrev fl3(d l n:Addr):List (Str×V):=[("settings", .ref d),("tuples", .ref l),("numbers", .ref n)]
abbrev fl4(d l n s:Addr):List (Str×V):=[("settings", .ref d),("tuples", .ref l),("numbers", .ref n),("sets", .ref s)]
abbrev fl5(d l n s k:Addr):List (Str×V):=[("settings", .ref d),("tuples", .ref l),("numbers", .ref n),("sets", .ref s),("kept_rules", .ref k)]
noncomputable abbrev fl6(d l n s k b:Addr):List (Str×V):=[("settings", .ref d),("tuples", .ref l),("numbers", .ref n),("sets", .ref s),("kept_rules", .ref k),("bars", .ref b)]
theorem So {fs:List (Str×V)}(h:fs.lookup ("all_choices" : Str)=none/\fs.lookup ("box" : Str)=none/\fs.lookup ("many" : Str)=none/\fs.lookup ("term" : Str)=none/\fs.lookup ("read_rule" : Str)=none/\fs.lookup ("read_rules" : Str)=none):∀m∈(["all_choices", "box", "many", "term", "read_rule", "read_rules"]:List Str),fs.lookup m=none:=by
 intro m hm
 simp only[aS,c6,or_false] at hm
 rcases hm with rfl|rfl|rfl|rfl|rfl|rfl
 .exact h.1
 .exact h.2.1
 .exact h.2.2.1
 .exact h.2.2.2.1
 .exact h.2.2.2.2.1
 .exact h.2.2.2.2.2
theorem b68(Z:Ar K t):OkD K D_zv (Bc K t) bl t.f_zv t.d_zv (a13 K t):=by
 refine Bn (cj3 K t) λvs H Q E h=>?_
 .obtain⟨p,a,dx,v,sw,ζ,rfl,hp,hsw,hw,hrl,hr,h8,hf,k⟩:=h;refine⟨rfl,?_⟩
  have cl:=Z.pf.cl
  have na:=Z.pf.na
  have nf:¬ fresh H p:=(Ha hp)
  refine⟨a,sw,rfl,hsw.mono Kp.any,hw,λH1 d S1 A1=>?_⟩
  refine Hn (S1 _ _ hp) cl (na _ (by simp)) (aC rfl) (fs':=fl1 d) rfl λH2 b2 p2=>?_
  have O2:Off p H H2:=λb u n e=>by rw[b2 b n];exact S1 _ _ e
  have A2:=A1.mono (Kp.but b2 nf)
  refine jk ⟨_,_,_,_,p2,cl,(na _ (by simp)),rfl,⟨d,sw,rfl,A2.mono Kp.any,hw,λH3 l S3 T3=>?_⟩⟩
  refine Hn (S3 _ _ p2) cl (na _ (by simp)) (aC rfl) (fs':=fl2 d l) rfl λH4 b4 p4=>?_
  have O4:=(O2.up S3).but b4
  have A4:=A2.mono ((Kp.same S3).trans (Kp.but b4 nf))
  have T4:=T3.mono ((Kp.weak (O2.fr p2)).trans (Kp.but b4 nf))
  refine jk ⟨_,_,_,_,p4,cl,(na _ (by simp)),rfl,⟨l,Ae sw,rfl,T4.mono Kp.any,(Hb hw.sets).1,hw.len,λH5 n S5 N5=>?_⟩⟩
  refine Hn (S5 _ _ p4) cl (na _ (by simp)) (aC rfl) (fs':=fl3 d l n) rfl λH6 b6 p6=>?_
  have O6:=(O4.up S5).but b6
  have A6:=A4.mono ((Kp.same S5).trans (Kp.but b6 nf))
  have T6:=T4.mono ((Kp.same S5).trans (Kp.but b6 nf))
  have N6:=N5.mono ((Kp.weak (O4.fr p4)).trans (Kp.but b6 nf))
  refine jk ⟨_,_,_,_,p6,cl,(na _ (by simp)),rfl,(jk ⟨_,_,_,_,p6,cl,(na _ (by simp)),rfl,⟨d,l,sw,rfl,A6.mono Kp.any,T6.mono Kp.any,hw,λH7 s S7 E7=>?_⟩⟩)⟩
  refine Hn (S7 _ _ p6) cl (na _ (by simp)) (aC rfl) (fs':=fl4 d l n s) rfl λH8 b8 p8=>?_
  have O8:=(O6.up S7).but b8
  have k78:=(Kp.same (ok:=fresh H) S7).trans (Kp.but b8 nf)
  have P8:Pc (fresh H) H8 d l n s sw:=⟨A6.mono k78,T6.mono k78,N6.mono k78,E7.mono ((Kp.weak (O6.fr p6)).trans (Kp.but b8 nf))⟩
  have P8':Pc (λb=>H b=none/\H8 b≠none) H8 d l n s sw:=P8.mono λb o q=>⟨⟨q.1,by rw[q.2];exact λz=>nomatch z⟩,q.2⟩
  have w8:Kp (fresh H) H8 (λb=>b=p\/H b=none) H8:=Kp.weak λb e=>.inr e
  have RI:Ez (λb=>¬ (b=p\/H b=none)) H8 v ζ:=by
   rcases hrl with h|⟨kk,e,R⟩
   .exact .inl h
   .refine .inr ⟨kk,e,R.mono λb o q=>⟨λz=>?_,O8 _ _ q.1 q.2⟩⟩
    rcases z with z|z
    .exact q.1 z
    .have:=q.2;rw[z] at this;cases this
  refine⟨p,dx,_,⟨t.c_zbm,b34 K t⟩,rfl,.head _,p8,rfl,⟨aC rfl,aC rfl⟩,p,l,s,(λb=>b=p\/H b=none),v,sw,ζ,rfl,⟨dx,_,⟨.inl rfl,p8⟩,rfl,rfl,So ⟨rfl,rfl,rfl,rfl,rfl,rfl⟩⟩,P8.tps.mono w8,P8.sts.mono w8,hw,RI,hr,h8,λH9 kk S9 R9=>?_⟩
  refine Hn (S9 _ _ p8) cl (na _ (by simp)) (aC rfl) (fs':=fl5 d l n s kk) rfl λH10 b10 p10=>?_
  have O10:=(O8.up S9).but b10
  have n8:¬ fresh H8 p:=(Ha p8)
  have R10:=R9.mono (Kp.but b10 n8)
  have P10:Pc (λb=>H b=none/\H8 b≠none) H10 d l n s sw:=P8'.mono ((Kp.same S9).trans (Kp.but b10 (λe=>nf e.1)))
  obtain⟨rs,er,⟨fk,ok⟩,hrs⟩:=id R10
  have lenr:(rs.map λx=>V.ref x.2).length=ζ.length:=by rw[<- er];simp
  refine jk ⟨_,_,_,_,p10,cl,(na _ (by simp)),rfl,(.inl ⟨⟨_,SqL.of ok⟩,λD hD=>?_⟩)⟩
  have fD:H D=none:=O10.fr p10 D hD
  refine B0 (Aq (rs.map λx=>V.ref x.2)) (λm σ H'=>(∃v,σ=[v,some (.ref p)])/\Same H10 H'/\H' D=some (.lst ((Ks sw (ζ.take m)).map V.int))) ⟨⟨_,rfl⟩,Same.upd hD,Ac⟩ (λm σ H' _ q=>q.2.1.seqL (SqL.of ok)) ?_ ?_
  .rintro m x σ H11 hx ⟨⟨v,rfl⟩,S11,eD⟩
   obtain⟨⟨rule,r⟩,hm2,rfl⟩:=Ak hx
   have hm3:ζ[m]?=some rule:=by rw[<- er,aj,hm2];rfl
   have hrl2:=hrs _ (ag hm2)
   have nr:H8 r=none:=by obtain⟨_,_,o,_⟩:=hrl2;exact o.1
   have npr:p≠r:=Aj p8 nr
   have kw:Kp (λb=>H b=none/\H8 b≠none) H10 (· ≠ r) H11:=(Kp.same S11).trans (Kp.weak λb h e=>h.2 (e▸nr))
   refine⟨p,dx,_,⟨t.c_zbm,Zs K t⟩,rfl,.head _,S11 _ _ p10,rfl,⟨aC rfl,aC rfl⟩,p,r,l,s,sw,rule,rfl,⟨dx,_,⟨npr,S11 _ _ p10⟩,rfl,rfl,So ⟨rfl,rfl,rfl,rfl,rfl,rfl⟩⟩,P10.tps.mono kw,P10.sts.mono kw,hw,hrl2.mono ((Kp.same S11).trans Kp.any),(hr rule (ag hm3)).2.2,λH12 S12=>?_⟩
   refine⟨_,S12 _ _ eD,?_,⟨_,rfl⟩,(S11.trans S12).set hD,?_⟩
   .rw[ae]
    unfold Ks
    rw[ae,aJ]
    exact aG (show min m ζ.length<=8 by omega) (by decide)
   .rw[Ac]
    unfold Ks
    rw[Ax hm3,au]
    rfl
  rintro σ H11 ⟨_,S11,eD⟩
  rw[lenr,aO] at eD
  refine Hn (S11 _ _ p10) cl (na _ (by simp)) (aC rfl) (fs':=fl6 d l n s kk D) rfl λH12 b12 p12=>?_
  have O12:=(O10.up S11).but b12
  have nDp:D≠p:=(Aj p10 hD).symm
  have B12:H12 D=some (.lst ((Ks sw ζ).map V.int)):=by rw[b12 D nDp];exact eD
  have k12:∀ {ok:Addr->Prop},¬ ok p->Kp ok H10 ok H12:=λh=>(Kp.same S11).trans (Kp.but b12 h)
  have P12:=P10.mono (k12 λe=>nf e.1)
  have R12:=R10.mono (k12 n8)
  refine⟨p,dx,_,⟨t.c_zbm,a83 K t⟩,rfl,.head _,p12,rfl,⟨aC rfl,aC rfl⟩,p,l,s,sw,rfl,⟨dx,_,⟨trivial,p12⟩,rfl,rfl,So ⟨rfl,rfl,rfl,rfl,rfl,rfl⟩⟩,P12.tps.mono Kp.any,hw.len,jk ⟨_,_,_,_,p12,cl,(na _ (by simp)),rfl,⟨D,Ks sw ζ,rfl,SqL.of B12,?_⟩⟩⟩
  refine Hn p12 cl (na _ (by simp)) (aC rfl) (fs':=b28 d l n s kk D (Hk sw ζ)) rfl λH14 b14 p14=>?_
  refine jk ⟨_,_,_,_,p14,cl,(na _ (by simp)),rfl,(B4 (decide_eq_false hf) ?_)⟩
  have kk14:∀ {ok:Addr->Prop},¬ ok p->(∀b,ok b->H b=none)->Kp ok H12 (λb=>b=p\/H b=none) H14:=λh g=>(Kp.but b14 h).trans (Kp.weak λb e=>.inr (g b e))
  have P14:=P12.mono (kk14 (λe=>nf e.1) λb e=>e.1)
  refine k H14 ((O12.but b14)) ⟨dx,d,l,n,s,kk,D,⟨.inl rfl,p14⟩,P14.sws,P14.tps,P14.nms,P14.sts,R12.mono (kk14 n8 (O8.fr p8)),⟨.inr fD,?_⟩⟩
  rw[b14 D nDp];exact B12
end
section
theorem br7(Z:Ar K t):OkD K al6 (Bc K t) bl (t.f 19) (t.d 19) (Cw K t):=by
 refine Bn (cc0 K t) λvs H Q E h=>?_
 .obtain⟨a,ns,k,rfl,hS,q⟩:=h;refine⟨rfl,?_⟩
  refine .inl ⟨_,.inl hS,?_⟩
  refine Gj (λe=>?_) (λe=>?_)
  .have e:(k:Int)<((ns.map V.int).length:Int):=by simpa using e
   have hk:k<ns.length:=by rw[ae] at e;omega
   refine⟨_,_,.inl hS,A3 (j:=k) (by rw[aj,af hk];rfl),?_⟩
   have:Az ns k=ns[k]:=by unfold Az;rw[ar,af hk];rfl
   rw[this] at q
   exact q
  .have e:¬ (k:Int)<((ns.map V.int).length:Int):=by simpa using e
   have hk:ns.length<=k:=by rw[ae] at e;omega
   refine⟨.inr ⟨by decide,by decide⟩,?_⟩
   have:Az ns k=((k:Int)+3) * 7919:=by unfold Az;rw[ar,dN hk];rfl
   rw[this] at q
   exact q
theorem ce3 {A B:Prop}(a:A)(b:B):if c1=true then (if c2=true then (if c3=true then A else B) else (if false=true then A else B)) else (if false=true then A else B):=by
 cases c1 <;> cases c2 <;> cases c3 <;> first|exact Ew (Ew b)|exact Ew b|exact Fc (Ew (Ew b))|exact Fc (Fc (Ew b))|exact Fc (Fc (Fc a))
theorem bq2(Z:Ar K t):OkD K ak2 (Bc K t) bl (t.f 20) (t.d 20) (Tk K t):=by
 refine Bn (ca6 K t) λvs H Q E h=>?_
 .obtain⟨c,n,rfl,hn,k⟩:=h;refine⟨rfl,?_⟩
  refine⟨by decide,λl hl=>⟨⟨by decide,by decide⟩,by decide,⟨by omega,by omega⟩,?_⟩⟩
  rw[aI]
  have m1:=bQ c (show (2147483629:Int)≠0 by decide)
  have m2:=bN c (show (0:Int)<2147483629 by decide)
  refine Ba (Bz 0 n) (λi σ H'=>(∃left num v,σ=[some (.int c),some (.int n),some (.ref l),some (.int left),some (.int num),v]/\0<=num/\num<4294967296)/\Same H H'/\∃ns:List Int,ns.length=i/\H' l=some (.lst (ns.map V.int))/\∀z∈ns,0<=z)
   ⟨⟨_,_,_,rfl,by omega,by omega⟩,Same.upd hl,[],rfl,Ac,(λz hz=>by cases hz)⟩ (λ_ _ _ _ _=>ba) ?_ ?_
  .rintro i x σ H' hx ⟨⟨left,num,v,rfl,u1,u2⟩,S,ns,e1,e2,e3⟩
   obtain⟨hi,rfl⟩:=Ds hx
   refine⟨.inr ⟨by decide,by decide⟩,.inl ⟨by decide,by decide⟩,by decide,by decide,?_⟩
   have w1:=bQ (num * 48271+7919 * (i:Int)+1) (show (2147483647:Int)≠0 by decide)
   have w2:=bN (num * 48271+7919 * (i:Int)+1) (show (0:Int)<2147483647 by decide)
   generalize (num * 48271+7919 * (i:Int)+1) % 2147483647=nu at w1 w2 ⊢
   have put:∀y:Int,0<=y->Same H (upd H' l (.lst (ns.map V.int++[.int y])))/\∃ns2:List Int,ns2.length=i+1/\upd H' l (.lst (ns.map V.int++[.int y])) l=some (.lst (ns2.map V.int))/\∀z∈ns2,0<=z:=λy y1=>
    ⟨S.set hl,ns++[y],by rw[aP,e1];rfl,by rw[Ac,au];rfl,λz hz=>by
     rcases List.mem_append.mp hz with h|h
     .exact e3 z h
     .have:z=y:=by simpa using h
      subst this;exact y1⟩
   have hsz:(ns.map V.int).length<sizeLine:=by rw[ae,e1];exact aL (show i<100 by omega) (by decide)
   refine ce3 ?_ ?_
   .have y1:=bQ left (show (268435456:Int)≠0 by decide)
    exact⟨.inl ⟨rfl,_,SqL.of e2⟩,by decide,l,_,_,rfl,rfl,e2,hsz,⟨by decide,by decide⟩,⟨_,_,_,rfl,by omega,by omega⟩,put _ y1⟩
   .have y1:=bQ (nu * nu % 2147483629 * 16807+(i:Int)) (show (2147483587:Int)≠0 by decide)
    exact⟨.inl ⟨rfl,_,SqL.of e2⟩,.inl ⟨by omega,by omega⟩,by decide,.inr ⟨by decide,by decide⟩,by decide,⟨by decide,by decide⟩,l,_,_,rfl,rfl,e2,hsz,⟨_,_,_,rfl,by omega,by omega⟩,put _ (by omega)⟩
  .rintro σ H' ⟨⟨left,num,v,rfl,_⟩,S,ns,e1,e2,e3⟩
   rw[Bh] at e1
   exact .inl (k _ l ns S hl e2 e1 e3)
abbrev lettersS:Str := "abcdefghijklmnopqrstuvwxyz"
theorem af4:lettersS.cps.toList=(aD 26).map (97 + ·):=by decide +kernel
theorem G7 {i:Int}(h0:0<=i)(h:i<26):atI lettersS.cps.toList i=some (97+i.toNat):=by
 have e:i=((i.toNat:Nat):Int):=by omega
 rw[e,aI]
 refine A3 ?_
 rw[af4,aj,cD (by omega)]
 rfl
theorem Si(l:List Nat):bI (cM "") (l.map λk=>(⟨#[k]⟩:Str))=⟨l.toArray⟩:=by
 show jc (cM "") _=_
 rw[gS,show cM ""=(⟨#[]⟩:Str) from by decide +kernel]
 exact PyProof.Rows.join_ones l
theorem V6(l:List Nat):((l.map λk=>(⟨#[k]⟩:Str)).map (·.length)).sum+(l.map λk=>(⟨#[k]⟩:Str)).length * (cM "").length=l.length:=by
 rw[show (cM "").length=0 from by decide +kernel,Nat.mul_zero,Nat.add_zero]
 induction l with
 |nil=>rfl
 |cons a l ih=>rw[aY,aY,List.sum_cons,ih,aN,show (⟨#[a]⟩:Str).length=1 from rfl,j8]
theorem M5 {i:Int}(h0:0<=i)(h:i<26):Bw (97+i.toNat)=true:=by
 unfold Bw
 simp
 omega
theorem a54 {l:List Nat}{g:Nat->Nat}(h:∀j,Bw (g j)=true):(l.map g).all Bw=true:=by rw[d9,aR];exact λ_ _=>h _
theorem be4(h:(Vz lo n)[i]?=some x):i<n/\x=.int (lo+(i:Int)):=by
 have hi:=Al h
 rw[Bh] at hi
 rw[Nm hi] at h
 exact⟨hi,by simpa using h.symm⟩
theorem as4 {E:EK}{te:DE}{lo:Int}{n:Nat}{g:Nat->Nat}{rest:St}{H:Hp}{R:Hp->Addr->Prop}(hn:n<=8)(he:∀(j:Nat)(H1:Hp)(Q1:VK),j<n->(∀H2,Same H1 H2->Q1 (.str ⟨#[g j]⟩) H2)->te (some (.int (lo+(j:Int)))::rest) H1 Q1 E)(k:∀D H',Same H H'->H D=none->H' D=some (.lst ((((aD n).map g).map λc=>(⟨#[c]⟩:Str)).map V.str))->R H' D):∀D,H D=none->Fa (Itr lo n) (gdN 0) Bt te D (λH'=>R H' D) (none::rest) (upd H D (.lst [])) E:=by
 intro D hD
 refine B0 (Bz lo n) (λm σ H'=>(∃v,σ=v::rest)/\Same H H'/\H' D=some (.lst ((((aD m).map g).map λc=>(⟨#[c]⟩:Str)).map V.str))) ⟨⟨_,rfl⟩,Same.upd hD,Ac⟩ (λ_ _ _ _ _=>ba) ?_ ?_
 .rintro m x σ H1 hx ⟨⟨v,rfl⟩,S1,eD⟩
  obtain⟨hm,rfl⟩:=be4 hx
  refine (he m H1 _ hm λH2 S2=>⟨_,S2 _ _ eD,?_,⟨_,rfl⟩,(S1.trans S2).set hD,?_⟩)
  .rw[ae,ae,ae,bn]
   exact aL (show m<8 by omega) (by decide)
  .rw[Ac,dj,au,au,au];rfl
 .rintro σ H1 ⟨_,S1,eD⟩
  rw[Bh] at eD
  exact k D H1 S1 hD eD
theorem Nq {l:List Nat}{n:Int}(h0:0<=n)(h:n.toNat<=l.length):jp ⟨l.toArray⟩ none (some n)=⟨(l.take n.toNat).toArray⟩:=by
 have e:=cK (PyProof.Rows.slice_closes_to (x:=⟨l.toArray⟩) (j:=n) ⟨h0,by show n<=(l.length:Int);omega⟩)
 rw[e,Int.sub_zero]
 rfl
theorem Yc {l:List Nat}{n:Int}(h0:0<=n)(h:n.toNat<=l.length):jp ⟨l.toArray⟩ (some n) none=⟨(l.drop n.toNat).toArray⟩:=by
 have e:=cK (PyProof.Rows.slice_closes_from (x:=⟨l.toArray⟩) (i:=n) ⟨h0,by show n<=(l.length:Int);omega⟩)
 rw[e]
 show (⟨((l.drop n.toNat).take ((l.length:Int) - n).toNat).toArray⟩:Str)=_
 rw[eJ (by rw[cN];omega)]
theorem Li(a b:List Nat):((⟨a.toArray⟩:Str)++⟨b.toArray⟩)=⟨(a++b).toArray⟩:=by
 apply aa7
 rw[kH]
 simp
abbrev Et(c:Int):List Nat:=(aD 7).map (ab0 c)
abbrev Fv(c:Int):Nat:=(1+c / 4 % 8).toNat
abbrev atB(c:Int):Nat:=(c / 32 % (1+c / 4 % 8)).toNat
abbrev Cf(c:Int):List Nat:=([97+(c / 256 % 26).toNat]++Et c).take (Fv c)
theorem L6 {c:Int}(h:c % 4=3)(k:Nat):B7 c k=⟨([97+((c / 4+(k:Int) / 8) % 26).toNat]++(Et c).take (k % 8)).toArray⟩:=by unfold B7;rw[if_pos h]
theorem L8 {c:Int}(h:¬ c % 4=3)(k:Nat):B7 c k=⟨((Cf c).take (atB c)++[97+((c / 6656+(k:Int)) % 26).toNat]++(Cf c).drop (atB c+1)).toArray⟩:=by unfold B7;rw[if_neg h]
theorem Hd(c:Int):(Et c).length=7:=by simp
theorem az4(c:Int):1<=Fv c/\Fv c<=8/\atB c<Fv c/\(Cf c).length=Fv c:=by
 have h1:0<=c / 32 % (1+c / 4 % 8)/\c / 32 % (1+c / 4 % 8)<1+c / 4 % 8:=⟨bQ _ (by omega),bN _ (by omega)⟩
 have hs:1<=Fv c/\Fv c<=8:=by show 1<=(1+c / 4 % 8).toNat/\(1+c / 4 % 8).toNat<=8;omega
 refine⟨hs.1,hs.2,?_,?_⟩
 .show (c / 32 % (1+c / 4 % 8)).toNat<(1+c / 4 % 8).toNat
  omega
 .show (([97+(c / 256 % 26).toNat]++Et c).take (Fv c)).length=_
  rw[aJ,aP,Hd]
  show min (Fv c) (1+7)=_
  omega
theorem Wi(c:Int):(Et c).all Bw=true:=a54 λj=>M5 (bQ _ (by decide)) (bN _ (by decide))
theorem Mg {l:List Nat}{n:Nat}(h:l.all Bw=true):(l.take n).all Bw=true:=List.all_eq_true.mpr λx hx=>List.all_eq_true.mp h x (fj hx)
theorem an2 {l:List Nat}{n:Nat}(h:l.all Bw=true):(l.drop n).all Bw=true:=List.all_eq_true.mpr λx hx=>List.all_eq_true.mp h x (g9 hx)
theorem Sv(i:Int):([97+(i % 26).toNat]:List Nat).all Bw=true:=by
 rw[bv,M5 (bQ _ (by decide)) (bN _ (by decide))]
 rfl
theorem bg5(c:Int)(k:Nat):okW (B7 c k):=by
 by_cases h:c % 4=3
 .rw[L6 h]
  have e:([97+((c / 4+(k:Int) / 8) % 26).toNat]++(Et c).take (k % 8)).length=1+k % 8:=by
   rw[aP,aJ,Hd]
   show 1+min (k % 8) 7=_
   omega
  refine⟨?_,?_,?_⟩
  .show 1<=([97+((c / 4+(k:Int) / 8) % 26).toNat]++(Et c).take (k % 8)).toArray.size
   rw[aB,e];omega
  .show ([97+((c / 4+(k:Int) / 8) % 26).toNat]++(Et c).take (k % 8)).toArray.size<=8
   rw[aB,e];omega
  .show ([97+((c / 4+(k:Int) / 8) % 26).toNat]++(Et c).take (k % 8)).all Bw=true
   rw[fV,Sv,Mg (Wi c)];rfl
 .rw[L8 h]
  obtain⟨s1,s2,s3,s4⟩:=az4 c
  have hb:(Cf c).all Bw=true:=Mg (by rw[fV,Sv,Wi];rfl)
  have e:((Cf c).take (atB c)++[97+((c / 6656+(k:Int)) % 26).toNat]++(Cf c).drop (atB c+1)).length=Fv c:=by
   rw[aP,aP,aJ,cN,s4]
   show min (atB c) (Fv c)+1+(Fv c - (atB c+1))=_
   omega
  refine⟨?_,?_,?_⟩
  .show 1<=((Cf c).take (atB c)++[97+((c / 6656+(k:Int)) % 26).toNat]++(Cf c).drop (atB c+1)).toArray.size
   rw[aB,e];exact s1
  .show ((Cf c).take (atB c)++[97+((c / 6656+(k:Int)) % 26).toNat]++(Cf c).drop (atB c+1)).toArray.size<=8
   rw[aB,e];exact s2
  .show ((Cf c).take (atB c)++[97+((c / 6656+(k:Int)) % 26).toNat]++(Cf c).drop (atB c+1)).all Bw=true
   rw[fV,fV,Sv,Mg hb,an2 hb];rfl
theorem a31(hi:i<=8)(hj:j<=8)(h:B7 c i=B7 c j):i=j:=by
 have h:=congrArg (λz:Str=>z.cps.toList) h
 by_cases hc:c % 4=3
 .rw[L6 hc,L6 hc] at h
  have h:[97+((c / 4+(i:Int) / 8) % 26).toNat]++(Et c).take (i % 8)=[97+((c / 4+(j:Int) / 8) % 26).toNat]++(Et c).take (j % 8):=h
  have h1:97+((c / 4+(i:Int) / 8) % 26).toNat=97+((c / 4+(j:Int) / 8) % 26).toNat:=(eE h).1
  have h2:((Et c).take (i % 8)).length=((Et c).take (j % 8)).length:=congrArg bH (eE h).2
  rw[aJ,aJ,Hd] at h2
  omega
 .rw[L8 hc,L8 hc] at h
  obtain⟨s1,s2,s3,s4⟩:=az4 c
  have h:(Cf c).take (atB c)++[97+((c / 6656+(i:Int)) % 26).toNat]++(Cf c).drop (atB c+1)=(Cf c).take (atB c)++[97+((c / 6656+(j:Int)) % 26).toNat]++(Cf c).drop (atB c+1):=h
  have h1:=List.append_cancel_right h
  have h2:=List.append_cancel_left h1
  have h3:97+((c / 6656+(i:Int)) % 26).toNat=97+((c / 6656+(j:Int)) % 26).toNat:=(eE h2).1
  omega
theorem bs0(Z:Ar K t):OkD K al9 (Bc K t) bl (t.f 21) (t.d 21) (J9 K t):=by
 refine Bn (cc3 K t) λvs H Q E h=>?_
 .obtain⟨c,k,rfl,hk,q⟩:=h;refine⟨rfl,?_⟩
  have big:(100:Nat)<=sizeLine:=by decide
  refine⟨rfl,⟨by decide,by decide,by decide,by decide⟩,?_⟩
  refine as4 (lo:=1) (n:=7) (g:=ab0 c) (rest:=[some (.int c),some (.str lettersS)]) (by decide) (λj H2 Q1 hj q=>?_) λD H2 S2 hD eD=>?_
  .exact⟨⟨by decide,by decide⟩,.inl ⟨by decide,by decide⟩,.inl ⟨by omega,by omega⟩,by decide,by decide,_,G7 (bQ _ (by decide)) (bN _ (by decide)),q H2 (Same.refl _)⟩
  .refine⟨_,D,_,rfl,rfl,.inl (SqL.of eD),?_,?_⟩
   .rw[V6,ae,bn];decide
   rw[Si]
   have q:=q H2 S2
   have tl:=Hd c
   refine⟨by decide,Gj (λhc=>?_) (λhc=>?_)⟩
   .have hc:c % 4=3:=by simpa using hc
    refine⟨⟨by decide,by decide⟩,⟨by decide,by decide⟩,by decide,by decide,_,G7 (bQ _ (by decide)) (bN _ (by decide)),by decide,(show 7<=sizeLine by decide),?_⟩
    rw[Nq (by omega) (by rw[tl];omega)]
    have e:((k:Int) % 8).toNat=k % 8:=by omega
    rw[e]
    refine⟨aw (Nat.add_le_add_left (show ((Et c).take (k % 8)).toArray.size<=7 by rw[aB,aJ,tl];omega) _) (show 1+7<=sizeLine by decide),?_⟩
    rw[L6 hc,<- Li] at q
    exact q
   .have hc:¬ c % 4=3:=by simpa using hc
    obtain⟨s1,s2,s3,s4⟩:=az4 c
    have h1:0<=c / 32 % (1+c / 4 % 8)/\c / 32 % (1+c / 4 % 8)<1+c / 4 % 8:=⟨bQ _ (by omega),bN _ (by omega)⟩
    refine⟨⟨by decide,by decide⟩,by decide,⟨by decide,by decide⟩,by omega,⟨by decide,by decide⟩,by decide,by decide,_,G7 (bQ _ (by decide)) (bN _ (by decide)),(show 1+7<=sizeLine by decide),(show 8<=sizeLine by decide),?_⟩
    have eb:jp ((⟨#[97+(c / 256 % 26).toNat]⟩:Str)++⟨(Et c).toArray⟩) none (some (1+c / 4 % 8))=⟨(Cf c).toArray⟩:=by
     rw[show (#[97+(c / 256 % 26).toNat]:Array Nat)=[97+(c / 256 % 26).toNat].toArray from rfl,Li,Nq (by omega) (by rw[aP,tl];show _<=1+7;omega)]
    rw[eb]
    have lb:(⟨(Cf c).toArray⟩:Str).length<=8:=by
     show (Cf c).toArray.size<=8
     rw[aB,s4];exact s2
    have ea:jp ⟨(Cf c).toArray⟩ none (some (c / 32 % (1+c / 4 % 8)))=⟨((Cf c).take (atB c)).toArray⟩:=Nq h1.1 (by rw[s4];exact dD s3)
    have ed:jp ⟨(Cf c).toArray⟩ (some (c / 32 % (1+c / 4 % 8)+1)) none=⟨((Cf c).drop (atB c+1)).toArray⟩:=by
     rw[Yc (by omega) (by rw[s4];show (c / 32 % (1+c / 4 % 8)+1).toNat<=(1+c / 4 % 8).toNat;omega),show (c / 32 % (1+c / 4 % 8)+1).toNat=atB c+1 by show _=(c / 32 % (1+c / 4 % 8)).toNat+1;omega]
    have la:=Txt.slice_le (⟨(Cf c).toArray⟩:Str) none (some (c / 32 % (1+c / 4 % 8)))
    have ld:=Txt.slice_le (⟨(Cf c).toArray⟩:Str) (some (c / 32 % (1+c / 4 % 8)+1)) none
    refine⟨by omega,⟨by decide,by decide⟩,by decide,by decide,_,G7 (bQ _ (by decide)) (bN _ (by decide)),aw (g_ (aw la lb) _) (show 8+1<=sizeLine by decide),by omega,?_,?_⟩
    .rw[Dd]
     exact aw (kG (g_ (aw la lb) _) (aw ld lb)) (show 8+1+8<=sizeLine by decide)
    .rw[L8 hc,<- Li,<- Li] at q
     rw[ea,ed]
     exact q
end
section
structure SwL (H H':Hp) (ls:Addr) (ds:List (((Str×List Str)×Addr)×Addr)):Prop where
 at_:H' ls=some (.lst (ds.map λx=>.ref x.2))
 tup:∀x∈ds,H' x.2=some (.tup [.str x.1.1.1,.ref x.1.2])
 lst:∀x∈ds,H' x.1.2=some (A5 x.1.1.2)
 ne:∀x∈ds,x.1.2≠ls/\H x.1.2=none
theorem SwL.up(h:SwL H H1 ls ds)(S:Same H1 H2):SwL H H2 ls ds:=⟨S _ _ h.at_,λx hx=>S _ _ (h.tup x hx),λx hx=>S _ _ (h.lst x hx),h.ne⟩
theorem SwL.snoc(h:SwL H H1 ls ds)(ht:H1 ta=some (.tup [.str e.1,.ref la]))(hl:H1 la=some (A5 e.2))(nl:la≠ls)(fl:H la=none) :
  SwL H (upd H1 ls (.lst ((ds.map λx=>V.ref x.2)++[.ref ta]))) ls (ds++[((e,la),ta)]):=by
 have nt:∀ {a:Addr} {xs:List V},H1 a=some (.tup xs)->a≠ls:=λq z=>by rw[z,h.at_] at q;cases q
 refine⟨by rw[Ac,au];rfl,λx hx=>?_,λx hx=>?_,λx hx=>?_⟩
 .rcases List.mem_append.mp hx with hx|hx
  .rw[Ai (nt (h.tup x hx))];exact h.tup x hx
  .have:x=((e,la),ta):=by simpa using hx
   subst this
   rw[Ai (nt ht)];exact ht
 .rcases List.mem_append.mp hx with hx|hx
  .rw[Ai (h.ne x hx).1];exact h.lst x hx
  .have:x=((e,la),ta):=by simpa using hx
   subst this
   rw[Ai nl];exact hl
 .rcases List.mem_append.mp hx with hx|hx
  .exact h.ne x hx
  .have:x=((e,la),ta):=by simpa using hx
   subst this
   exact⟨nl,fl⟩
theorem X3(sw:Sw)(e:Str×List Str):B6 (sw++[e])=B6 sw * e.2.length:=by unfold B6;rw[d6];rfl
theorem SwL.swIn(h:SwL H H' ls ds):SwIn any H' ls (ds.map (·.1.1)):=⟨ds,rfl,⟨trivial,h.at_⟩,λx hx=>⟨⟨trivial,h.tup x hx⟩,trivial,h.lst x hx⟩⟩
theorem cd9(b:Bool):∃m:Int,atI [V.int 24,.int 256] (if b=true then 1 else 0)=some (.int m)/\4<=m/\m<=256:=by
 cases b
 .exact⟨24,rfl,by decide,by decide⟩
 .exact⟨256,rfl,by decide,by decide⟩
theorem Wr(h:s+n<=9):((aD n).map λj=>B7 c (s+j)).Nodup:=by
 refine List.pairwise_iff_getElem.mpr λi j hi hj hij=>?_
 rw[ae,bn] at hi hj
 rw[dL,dL,fY,fY]
 intro e
 have:=a31 (by omega) (by omega) e
 omega
theorem Ws {c:Int}{f:Nat->Nat}{n:Nat}:∀z∈(aD n).map (λj=>B7 c (f j)),okW z:=λz hz=>by
 obtain⟨j,_,rfl⟩:=List.mem_map.mp hz
 exact bg5 _ _
theorem b65(Z:Ar K t):OkD K bl2 (Bc K t) bl (t.f 22) (t.d 22) (a11 K t):=by
 refine Bn (cj0 K t) λvs H Q E h=>?_
 .obtain⟨a,ns,rfl,hS,k⟩:=h;refine⟨rfl,?_⟩
  refine⟨a,ns,0,rfl,hS,(show 2<=sizeLine by decide),λq hq=>⟨⟨by decide,by decide⟩,by decide,?_⟩⟩
  obtain⟨m,hm,hm4,hm256⟩:=cd9 (decide (Az ns 0 / 5 % 8=3))
  refine⟨_,.int m,.inl (SqL.of Ac),hm,?_⟩
  have S1:=Same.upd (o:=.lst [.int 24,.int 256]) hq
  generalize upd H q (.lst [.int 24,.int 256])=H1 at S1 ⊢
  refine⟨a,ns,1,rfl,S1.seqL hS,⟨by decide,by decide⟩,by decide,.inr ⟨by decide,by decide⟩,by decide,λls hls=>?_⟩
  have S2:=S1.trans (Same.upd (o:=.lst []) hls)
  have fls:=S1.free hls
  have L2:SwL H (upd H1 ls (.lst [])) ls []:=⟨Ac,λx hx=>(by cases hx),λx hx=>(by cases hx),λx hx=>(by cases hx)⟩
  generalize upd H1 ls (.lst [])=H2 at S2 L2 ⊢
  obtain⟨sh,hsh,hsh2⟩:∃sh:Nat,Az ns 1 / 3 % 2 * 5=(sh:Int)/\(sh=0\/sh=5):=⟨(Az ns 1 / 3 % 2 * 5).toNat,by omega,by omega⟩
  have hN:0<=1+Az ns 0 % 5/\1<=(1+Az ns 0 % 5).toNat/\(1+Az ns 0 % 5).toNat<=5:=by omega
  refine⟨by decide,Az ns 0,(1+Az ns 0 % 5).toNat,by rw[show (((1+Az ns 0 % 5).toNat:Nat):Int)=1+Az ns 0 % 5 by omega];rfl,by omega,λH3 lx xs S3 hlx elx lxs pos=>.inl ⟨⟨_,SqL.of elx⟩,?_⟩⟩
  have nlx:lx≠ls:=(Aj L2.at_ hlx).symm
  have hq':∀ {H'},Same H H'->SqL K H' a (ns.map V.int):=λS=>S.seqL hS
  refine Ba (Aq (xs.map V.int)) (λi σ H'=>∃ds:List (((Str×List Str)×Addr)×Addr),(∃v6 v7 v8,σ=[some (.ref a),some (.int (Az ns 0)),some (.int m),some (.int (Az ns 1 / 3 % 2 * 5)),some (.ref ls),some (.int (B6 (ds.map (·.1.1)):Nat)),v6,v7,v8])/\Same H H'/\H' lx=some (.lst (xs.map V.int))/\SwL H H' ls ds /\
    ds.map (·.1.1.1)=(aD ds.length).map (λj=>B7 (Az ns 1) (0+j))/\ds.length<=i/\(∀x∈ds,Iy x.1.1.2)/\(B6 (ds.map (·.1.1)):Int)<=m/\(i=0->ds=[])/\(1<=i->ds≠[]))
   ⟨[],⟨_,_,_,rfl⟩,S2.trans S3,elx,L2.up S3,rfl,ak _,λx hx=>(by cases hx),(show ((1:Nat):Int)<=m by omega),λ_=>rfl,λh=>(by omega)⟩ (λi σ H' _ q=>by obtain⟨_,_,_,q,_⟩:=q;exact SqL.of q) ?_ ?_
  .rintro i x σ H4 hx ⟨ds,⟨v6,v7,v8,rfl⟩,S4,elx4,L4,nm,dl,oks,pm,z0,z1⟩
   obtain⟨xi,hxi,rfl⟩:=Ak hx
   have hi5:=Al hxi
   have hp0:1<=B6 (ds.map (·.1.1)):=Cz (ak 1) (λy hy=>by obtain⟨x,hx,rfl⟩:=List.mem_map.mp hy;exact oks x hx)
   refine⟨by decide,?_⟩
   have hs:2<=2+xi % 3/\2+xi % 3<=4:=by omega
   have rest:∀sz:Int,2<=sz->sz<=4->(i=0->(B6 (ds.map (·.1.1)):Int) * sz<=m) -> ∀D:Outs,D.nx=(λσ H'=>∃ds:List (((Str×List Str)×Addr)×Addr),(∃v6 v7 v8,σ=[some (.ref a),some (.int (Az ns 0)),some (.int m),some (.int (Az ns 1 / 3 % 2 * 5)),some (.ref ls),some (.int (B6 (ds.map (·.1.1)):Nat)),v6,v7,v8])/\Same H H'/\H' lx=some (.lst (xs.map V.int))/\SwL H H' ls ds /\
     ds.map (·.1.1.1)=(aD ds.length).map (λj=>B7 (Az ns 1) (0+j))/\ds.length<=i+1/\(∀x∈ds,Iy x.1.1.2)/\(B6 (ds.map (·.1.1)):Int)<=m/\(i+1=0->ds=[])/\(1<=i+1->ds≠[])) ->
     (Ag (dIf (Au (Ad Hi (Ad (Cu K) (Aa 5) (Aa 7)) (Aa 2))) (Ag (Ao 5 (Ad (Cu K) (Aa 5) (Aa 7)))
   (Ag (Ao 8 (Bj [none,some 0,some 3] (Gh (Ab (Aa 7) Ah)) (gdN 0) Bt (dFn (spE (J9 K t) []) (Ab (dFn (spE (Cw K t) []) (Ab (Aa 1) (Ab (dC (.int 1)) Ah))) (Ab (Ad (Bg K) (Aa 2) (Aa 0)) Ah)))))
   (Ag (Do (dMt (rMt K [⟨"list", "list.append", Dz⟩]) (Aa 4) (Ab (Gc (Ab (dFn (spE (J9 K t) []) (Ab (dFn (spE (Cw K t) []) (Ab (Aa 0) (Ab (dC (.int 1)) Ah))) (Ab (dFn (λvs H Q _=>(B9 K) vs H Q) (Ab (Aa 4) Ah)) Ah))) (Ab (Aa 8) Ah))) Ah)))
   Af))) Af) Af) D [some (.ref a),some (.int (Az ns 0)),some (.int m),some (.int (Az ns 1 / 3 % 2 * 5)),some (.ref ls),some (.int (B6 (ds.map (·.1.1)):Nat)),some (.int xi),some (.int sz),v8] H4:=by
    intro sz h2 h4 hz D hD
    have cm:CMul (B6 (ds.map (·.1.1)):Nat) sz:=.inr ⟨by omega,by omega⟩
    refine⟨cm,Gj (λe=>⟨cm,⟨by omega,by omega⟩,λL hL=>?_⟩) (λe=>?_)⟩
    .have e:((B6 (ds.map (·.1.1)):Nat):Int) * sz<=m:=by simpa using e
     have fL:=S4.free hL
     have nLs:L≠ls:=(Aj L4.at_ hL).symm
     refine B0 (Bz 0 sz.toNat) (λg σ H'=>(∃v,σ=[v,some (.ref a),some (.int (Az ns 1 / 3 % 2 * 5))])/\Same H4 H'/\H' L=some (A5 ((aD g).map λj=>B7 (Az ns 1) (sh+j)))) ⟨⟨_,rfl⟩,Same.upd hL,Ac⟩ (λ_ _ _ _ _=>ba) ?_ ?_
     .rintro g y σ H5 hy ⟨⟨v,rfl⟩,S5,eL⟩
      obtain⟨hg,rfl⟩:=Ds hy
      refine⟨a,ns,1,rfl,hq' (S4.trans S5),?_⟩
      refine⟨Az ns 1,sh+g,by rw[hsh,show ((sh:Int)+(g:Int))=((sh+g:Nat):Int) by omega];rfl,by omega,λH6 S6=>?_⟩
      refine⟨_,S6 _ _ eL,?_,⟨_,rfl⟩,(S5.trans S6).set hL,?_⟩
      .rw[ae,ae,bn]
       exact aL (show g<4 by omega) (by decide)
      .rw[Ac,A5,dj,au,au];rfl
     .rintro σ H5 ⟨_,S5,eL⟩
      rw[Bh] at eL
      have L5:=L4.up S5
      have lds:ds.length<=4:=by omega
      refine⟨.inl ⟨rfl,_,SqL.of L5.at_⟩,a,ns,1,rfl,hq' (S4.trans S5),.inl ⟨_,.inl (SqL.of L5.at_),?_⟩⟩
      rw[ae]
      refine⟨Az ns 1,ds.length,rfl,by omega,λH6 S6=>⟨(show 2<=sizeLine by decide),λta hta=>?_⟩⟩
      have ST:=Same.upd (o:=.tup [.str (B7 (Az ns 1) ds.length),.ref L]) hta
      have et:upd H6 ta (.tup [.str (B7 (Az ns 1) ds.length),.ref L]) ta=some (.tup [.str (B7 (Az ns 1) ds.length),.ref L]):=Ac
      generalize upd H6 ta (.tup [.str (B7 (Az ns 1) ds.length),.ref L])=H7 at ST et ⊢
      have S7:=S6.trans ST
      have L7:=L5.up S7
      refine⟨ls,_,_,rfl,rfl,L7.at_,?_,?_⟩
      .rw[ae];exact aG lds (by decide)
      show D.nx _ _
      rw[hD]
      have lss:((aD sz.toNat).map λj=>B7 (Az ns 1) (sh+j)).length=sz.toNat:=by simp
      have pe:((B6 ((ds++[(((B7 (Az ns 1) ds.length,(aD sz.toNat).map λj=>B7 (Az ns 1) (sh+j)),L),ta)]).map (·.1.1)):Nat):Int)=(B6 (ds.map (·.1.1)):Nat) * sz:=by
       rw[au]
       show ((B6 (_++[(B7 (Az ns 1) ds.length,(aD sz.toNat).map λj=>B7 (Az ns 1) (sh+j))]):Nat):Int)=_
       rw[X3,Int.natCast_mul,lss,show ((sz.toNat:Nat):Int)=sz by omega]
      refine⟨ds++[(((B7 (Az ns 1) ds.length,(aD sz.toNat).map λj=>B7 (Az ns 1) (sh+j)),L),ta)],⟨_,_,_,congrArg (λz=>[some (V.ref a),some (V.int (Az ns 0)),some (V.int m),some (V.int (Az ns 1 / 3 % 2 * 5)),some (V.ref ls),some (V.int z),some (V.int xi),some (V.int sz),some (V.ref L)]) pe.symm⟩,(S4.trans (S5.trans S7)).set fls,?_,L7.snoc et (S7 _ _ eL) nLs fL,?_,?_,?_,by rw[pe];exact e,λh=>(by omega),λ_ h=>by simp at h⟩
      .rw[Ai nlx]
       exact (S5.trans S7) _ _ elx4
      .rw[au,nm,aP]
       show _=(aD (ds.length+1)).map _
       rw[dj,au]
       show _++[B7 (Az ns 1) ds.length]=_++[B7 (Az ns 1) (0+ds.length)]
       rw[cT]
      .rw[aP]
       show ds.length+1<=_
       omega
      .intro x hx
       rcases List.mem_append.mp hx with hx|hx
       .exact oks x hx
       .have:x=(((B7 (Az ns 1) ds.length,(aD sz.toNat).map λj=>B7 (Az ns 1) (sh+j)),L),ta):=by simpa using hx
        subst this
        exact⟨⟨Ws,Wr (by omega),by rw[lss];omega⟩,by rw[lss];omega,by rw[lss];omega⟩
    .have e:¬ ((B6 (ds.map (·.1.1)):Nat):Int) * sz<=m:=by simpa using e
     show D.nx _ _
     rw[hD]
     have hi0:i≠0:=λz=>e (hz z)
     exact⟨ds,⟨_,_,_,rfl⟩,S4,elx4,L4,nm,by omega,oks,pm,λh=>(by omega),λ_=>z1 (by omega)⟩
   refine⟨.inr ⟨by omega,by omega⟩,Gj (λe=>?_) (λe=>?_)⟩
   .refine rest 2 (by decide) (by decide) (λhz=>?_) _ (by rfl)
    rw[z0 hz]
    show ((1:Nat):Int) * 2<=m
    omega
   .refine rest (2+xi % 3) hs.1 hs.2 (λhz=>?_) _ (by rfl)
    rw[z0 hz]
    show ((1:Nat):Int) * (2+xi % 3)<=m
    omega
  .rintro σ H4 ⟨ds,⟨v6,v7,v8,rfl⟩,S4,elx4,L4,nm,dl,oks,pm,z0,z1⟩
   rw[ae] at dl z0 z1
   have e1:(ds.map (·.1.1)).map (·.1)=ds.map (·.1.1.1):=by rw[a_];rfl
   have l5:ds.length<=5:=by omega
   refine .inl (k H4 ls (ds.map (·.1.1)) S4 L4.swIn ⟨?_,?_,?_,?_,?_⟩)
   .rw[ae]
    exact List.length_pos_iff.mpr (z1 (by omega))
   .rw[ae];exact l5
   .rw[e1,nm];exact Wr (by omega)
   .intro y hy
    obtain⟨x,hx,rfl⟩:=List.mem_map.mp hy
    refine⟨?_,oks x hx⟩
    have hm:x.1.1.1∈ds.map (·.1.1.1):=List.mem_map.mpr ⟨x,hx,rfl⟩
    rw[nm] at hm
    exact Ws _ hm
   .omega
end
section
theorem Ra(acc:List (List Nat))(n:Nat):(Fw acc n).length=acc.length * n:=by
 unfold Fw
 induction acc with
 |nil=>simp
 |cons a acc ih=>rw[dF,aP,ih,ae,bn,aN,mf,mh,j8]
theorem Jt {sw:Sw}{i:Nat}{e:Str×List Str}(h:sw[i]?=some e):Cc (sw.take (i+1))=Fw (Cc (sw.take i)) e.2.length:=by
 unfold Cc
 rw[Ax h,d6]
 rfl
theorem Kv:∀(ns:List Nat)(acc:List (List Nat)),(ns.foldl Fw acc).length=ns.foldl (λn m=>n * m) acc.length
 |[],_=>rfl
 |n::ns,acc=>by rw[bC,bC,Kv ns,Ra]
theorem a74(sw:Sw):(Cc sw).length=B6 sw:=by
 unfold Cc B6
 rw[Kv,List.foldl_map]
 rfl
def bi1(k:Nat)(ds:List (List Nat)):Prop:=∀d∈ds,d.length=k
theorem Kw:∀(ns:List Nat)(k:Nat)(acc:List (List Nat)),bi1 k acc->bi1 (k+ns.length) (ns.foldl Fw acc)
 |[],_,_,h=>h
 | n::ns,k,acc,h=>by
  have:=Kw ns (k+1) (Fw acc n) (λd hd=>by
   obtain⟨a,ha,hd⟩:=List.mem_flatMap.mp hd
   obtain⟨j,_,rfl⟩:=List.mem_map.mp hd
   rw[aP,h a ha]
   rfl)
  rw[bC,aN,show k+(ns.length+1)=k+1+ns.length by omega]
  exact this
theorem Ln {sw:Sw}:∀d∈Cc sw,d.length=sw.length:=λd hd=>by
 have:=Kw (sw.map λx:Str×List Str=>x.2.length) 0 [[]] (λd hd=>by simp at hd;rw[hd];rfl) d hd
 rw[cT,ae] at this
 exact this
theorem Yv {rows:List (List Nat)}{j:Nat}{r:List Nat}{n:Nat}(h:rows[j]?=some r):Fw (rows.take (j+1)) n=Fw (rows.take j) n++(aD n).map λz=>r++[z]:=by
 unfold Fw
 rw[bF,h,cq,dH]
 simp
theorem a76 {E:EK}{H:Hp}{ra:Addr}{a:List Nat}{n:Nat}{σ:St}{R:Hp->Addr->Prop}(hσ:∃v,σ=[v,some (.ref ra)])(ha:H ra=some (nO a))(hl:a.length<=100)(hn:n<=8)(k:∀D H',Same H H'->H D=none -> ∀fs:List (List Nat×Addr),fs.map (·.1)=(aD n).map (λz=>a++[z])->H' D=some (.lst (fs.map λx=>.ref x.2))->(∀x∈fs,x.2≠D/\H x.2=none/\H' x.2=some (nO x.1))->R H' D) :
  ∀D,H D=none->Fa (Itr 0 n) (gdN 0) Bt (Ad (Bg K) (Aa 1) (Cp (Ab (Aa 0) Ah))) D (λH'=>R H' D) σ (upd H D (.lst [])) E:=by
 intro D hD
 refine B0 (Bz 0 n) (λm σ H'=>(∃v,σ=[v,some (.ref ra)])/\Same H H'/\∃fs:List (List Nat×Addr),fs.map (·.1)=(aD m).map (λz=>a++[z])/\H' D=some (.lst (fs.map λx=>.ref x.2))/\∀x∈fs,x.2≠D/\H x.2=none/\H' x.2=some (nO x.1))
  ⟨hσ,Same.upd hD,[],rfl,Ac,λx hx=>by cases hx⟩ (λ_ _ _ _ _=>ba) ?_ ?_
 .rintro m x σ H1 hx ⟨⟨v,rfl⟩,S1,fs,ef,eD,hf⟩
  obtain⟨hm,rfl⟩:=Ds hx
  refine⟨(show 1<=sizeLine by decide),λp hp=>.inl ⟨ra,p,_,_,rfl,rfl,(Same.upd hp) _ _ (S1 _ _ ha),Ac,?_,λq hq=>?_⟩⟩
  .rw[ae];exact aw (show a.length+1<=101 by omega) (by decide)
  have Sp:=Same.upd (o:=.lst [.int (m:Int)]) hp
  have Sq:=Same.upd (o:=.lst ((a.map λn:Nat=>V.int (n:Int))++[.int (m:Int)])) hq
  have eq:upd (upd H1 p (.lst [.int (m:Int)])) q (.lst ((a.map λn:Nat=>V.int (n:Int))++[.int (m:Int)])) q=some (nO (a++[m])):=by rw[Ac,nO,au];rfl
  have S12:=Sp.trans Sq
  have qD:q≠D:=(Aj (Sp _ _ eD) hq).symm
  have hq0:H q=none:=(S1.trans Sp).free hq
  generalize upd (upd H1 p (.lst [.int (m:Int)])) q (.lst ((a.map λn:Nat=>V.int (n:Int))++[.int (m:Int)]))=H2 at S12 eq ⊢
  have eD2:=S12 _ _ eD
  refine⟨_,eD2,?_,⟨_,rfl⟩,(S1.trans S12).set hD,fs++[(a++[m],q)],?_,?_,λx hx=>?_⟩
  .rw[ae]
   have:=congrArg bH ef
   rw[ae,ae,bn] at this
   exact aG (show fs.length<=8 by omega) (by decide)
  .rw[au,ef,dj,au];rfl
  .rw[Ac,au];rfl
  .rcases List.mem_append.mp hx with hx|hx
   .obtain⟨a1,a2,a3⟩:=hf x hx
    exact⟨a1,a2,by rw[Ai a1];exact S12 _ _ a3⟩
   .have:x=(a++[m],q):=by simpa using hx
    subst this
    exact⟨qD,hq0,by rw[Ai qD];exact eq⟩
 .rintro σ H1 ⟨_,S1,fs,ef,eD,hf⟩
  rw[Bh] at ef
  exact k D H1 S1 hD fs ef eD hf
theorem bq1(Z:Ar K t):OkD K ak1 (Bc K t) bl (t.f 23) (t.d 23) (Yf K t):=by
 refine Bn (ca5 K t) λvs H Q E h=>?_
 .obtain⟨l,sw,rfl,⟨ds,ed,⟨_,ol⟩,hd⟩,hw,k⟩:=h;refine⟨rfl,?_⟩
  refine⟨(show 0<=sizeLine by decide),λr0 h0=>⟨(show 1<=sizeLine by decide),λl0 hl0=>?_⟩⟩
  have Sr:=Same.upd (o:=.lst []) h0
  have Sl:=Same.upd (o:=.lst [.ref r0]) hl0
  have S0:=Sr.trans Sl
  have er:upd (upd H r0 (.lst [])) l0 (.lst [.ref r0]) r0=some (nO []):=Sl _ _ Ac
  have el:upd (upd H r0 (.lst [])) l0 (.lst [.ref r0]) l0=some (.lst [.ref r0]):=Ac
  have len:(ds.map λx=>V.ref x.2).length=sw.length:=by rw[<- ed];simp
  generalize upd (upd H r0 (.lst [])) l0 (.lst [.ref r0])=H0 at S0 er el ⊢
  refine .inl ⟨⟨_,S0.seqL (SqL.of ol)⟩,?_⟩
  have T0:DigAt H0 l0 (Cc (sw.take 0)):=⟨[([],r0)],rfl,el,λx hx=>by
   have:x=([],r0):=by simpa using hx
   subst this
   exact er⟩
  refine Ba (Aq (ds.map λx=>V.ref x.2)) (λi σ H'=>(∃l1 v2 v3 v4 v5,σ=[some (.ref l),some (.ref l1),v2,v3,v4,v5]/\DigAt H' l1 (Cc (sw.take i)))/\Same H0 H') ⟨⟨_,_,_,_,_,rfl,T0⟩,Same.refl _⟩ (λi σ H' _ q=>(S0.trans q.2).seqL (SqL.of ol)) ?_ ?_
  .rintro i x σ H1 hx ⟨⟨l1,v2,v3,v4,v5,rfl,⟨es,ee,el1,he⟩⟩,S1⟩
   obtain⟨⟨⟨e,la⟩,ta⟩,hi,rfl⟩:=Ak hx
   have hi2:sw[i]?=some e:=by rw[<- ed,aj,hi];rfl
   obtain⟨⟨_,h1⟩,_,h2⟩:=hd _ (ag hi)
   have h2:H la=some (A5 e.2):=h2
   have S01:=S0.trans S1
   have hoke:=hw.sets e (ag hi2)
   refine⟨_,.inl (SqT.of (S01 _ _ h1)),rfl,by decide,λl2 hl2=>.inl ⟨⟨_,(Same.upd hl2).seqL (SqL.of el1)⟩,?_⟩⟩
   have Sl2:=Same.upd (o:=.lst []) hl2
   have lenr:es.length=(Cc (sw.take i)).length:=by rw[<- ee];simp
   have few:(Cc (sw.take i)).length<=256:=by rw[a74];exact aw (Q5 hw i) hw.2.2.2.2
   have rl:∀r∈Cc (sw.take i),r.length<=100:=λr hr=>by
    rw[Ln r hr,aJ]
    have:=hw.2.1
    omega
   refine Ba (Aq (es.map λx=>V.ref x.2)) (λj σ H'=>(∃v5,σ=[some (.ref l),some (.ref l1),some (.str e.1),some (.ref la),some (.ref l2),v5])/\Same H1 H'/\∃fs:List (List Nat×Addr),fs.map (·.1)=Fw ((Cc (sw.take i)).take j) e.2.length /\
     H' l2=some (.lst (fs.map λx=>.ref x.2))/\∀x∈fs,x.2≠l2/\H' x.2=some (nO x.1))
    ⟨⟨_,rfl⟩,Sl2,[],rfl,Ac,λx hx=>by cases hx⟩ (λj σ H' _ q=>q.2.1.seqL (SqL.of el1)) ?_ ?_
   .rintro j y σ H2 hy ⟨⟨v5,rfl⟩,S2,fs,efs,e2l,hf⟩
    obtain⟨⟨r,ra⟩,hj,rfl⟩:=Ak hy
    have hj2:(Cc (sw.take i))[j]?=some r:=by rw[<- ee,aj,hj];rfl
    have hra:=he _ (ag hj)
    refine⟨.inl ⟨rfl,_,SqL.of e2l⟩,.inl ⟨_,.inl (SqL.of ((S01.trans S2) _ _ h2)),?_⟩⟩
    rw[ae]
    have h4:e.2.length<=4:=hoke.2.2
    refine⟨⟨by omega,by omega⟩,?_⟩
    rw[aI]
    refine a76 ⟨_,rfl⟩ (S2 _ _ hra) (rl r (ag hj2)) (by omega) λD H3 S3 hD gs eg eD hg=>?_
    have e3l:=S3 _ _ e2l
    have lfs:fs.length<=1024:=by
     have:=congrArg bH efs
     rw[ae,Ra,aJ] at this
     have:min j (Cc (sw.take i)).length * e.2.length<=256 * 4:=Nat.mul_le_mul (by omega) h4
     omega
    have lgs:gs.length<=4:=by
     have:=congrArg bH eg
     rw[ae,ae,bn] at this
     omega
    refine⟨l2,D,_,_,rfl,rfl,e3l,eD,?_,⟨_,rfl⟩,(S2.trans S3).set hl2,fs++gs,?_,?_,λx hx=>?_⟩
    .rw[ae,ae]
     exact aw (show fs.length+gs.length<=1028 by omega) (by decide)
    .rw[au,efs,eg,Yv hj2]
    .rw[Ac,au]
    .rcases List.mem_append.mp hx with hx|hx
     .exact⟨(hf x hx).1,by rw[Ai (hf x hx).1];exact S3 _ _ (hf x hx).2⟩
     .obtain⟨a1,a2,a3⟩:=hg x hx
      have a4:x.2≠l2:=(Aj e2l a2).symm
      exact⟨a4,by rw[Ai a4];exact a3⟩
   .rintro σ H2 ⟨⟨v5,rfl⟩,S2,fs,efs,e2l,hf⟩
    rw[ae,lenr,aO] at efs
    refine .inl ⟨⟨_,_,_,_,_,rfl,fs,?_,e2l,λx hx=>(hf x hx).2⟩,S1.trans S2⟩
    rw[efs,Jt hi2]
  .rintro σ H1 ⟨⟨l1,v2,v3,v4,v5,rfl,T1⟩,S1⟩
   rw[len,aO] at T1
   exact .inl (k _ l1 (S0.trans S1) T1)
theorem Zk(xs:List V)(n:Nat):E6 xs none (some (n:Int))=xs.take n:=by
 unfold E6
 rw[HT.sIx_none,HT.sIx_nat,Nat.sub_zero,List.drop_zero,Nat.min_comm]
 exact List.take_eq_take_iff.mpr (by omega)
theorem G0(xs:List V)(n:Nat):E6 xs (some (n:Int)) none=xs.drop n:=by
 unfold E6
 rw[HT.sIx_none,HT.sIx_nat]
 by_cases h:n<=xs.length
 .rw[j9 h,eJ (by rw[cN];omega)]
 .rw[Nat.min_eq_right (by omega),jL (ak _),jL (by omega),List.take_nil]
theorem Yw {α:Type}{f:α->Nat}{ps:List α}{n:Nat}(h:∀p∈ps,f p<=n):(ps.map f).sum<=ps.length * n:=by
 induction ps with
 |nil=>simp
 |cons p ps ih=>
  rw[aY,List.sum_cons,aN,mf,mh,j8]
  exact kG (ih λq hq=>h q (aq _ hq)) (h p am)
end
end K14
namespace K14
open PySem L2 Pn
section
theorem at9 {H:Hp}{R:Addr->Hp->Prop}{E:EK}{a:Addr}{sw:Sw}{ζ:List Sw}{v:V}(hs:SwIn any H a sw)(hw:okSw sw)(hr:Ez any H v ζ)(ho:∀r∈ζ,Ho sw r)(h8:ζ.length<=8)(hf:Hk sw ζ≠0)(k:∀H' p,Same H H'->PanelAt t.c_zbm (fresh H) H' p sw ζ->R p H') :
  ∀p dx,H p=none->H dx=none->dx≠p->a13 K t [.ref p,.ref a,v] (upd (upd H dx (.own p)) p (.ins t.c_zbm dx [])) (λv H2=>v=.non/\R p H2) (λv _ H'=>∃b,v=.ref b/\E b H'):=by
 intro p dx hp hd ne
 have S1:Same H (upd (upd H dx (.own p)) p (.ins t.c_zbm dx [])):=λb o e=>by rw[Ai (Aj e hp),Ai (Aj e hd)];exact e
 have ep:upd (upd H dx (.own p)) p (.ins t.c_zbm dx []) p=some (.ins t.c_zbm dx []):=Ac
 generalize upd (upd H dx (.own p)) p (.ins t.c_zbm dx [])=H1 at S1 ep ⊢
 have kp:Kp any H (· ≠ p) H1:=λb o q=>⟨Aj q.2 hp,S1 _ _ q.2⟩
 have RI:Ez (· ≠ p) H1 v ζ:=hr.imp id fun⟨k,e,R⟩=>⟨k,e,R.mono kp⟩
 refine⟨p,a,dx,v,sw,ζ,rfl,ep,hs.mono kp,hw,RI,ho,h8,hf,λH2 O2 P2=>⟨rfl,k H2 p (λb o e=>O2 b o (Aj e hp) (S1 _ _ e)) (P2.mono (Kp.weak λb h=>?_))⟩⟩
 rcases h with rfl|h
 .exact hp
 .exact S1.free h
theorem Qq(h:acc.getLast? = some a)(hz:x.2.getLast? = some z):(D8 acc x).getLast? = some (a++[z]):=by
 obtain⟨ini,rfl⟩:=List.getLast?_eq_some_iff.mp h
 unfold D8
 rw[dH]
 obtain⟨ini2,e2⟩:=List.getLast?_eq_some_iff.mp hz
 refine List.getLast?_eq_some_iff.mpr ⟨(ini.flatMap λa=>x.2.map λz=>a++[z])++ini2.map λz=>a++[z],?_⟩
 rw[dF,gU,b7,e2,au,dZ]
 rfl
theorem Qp:∀ {sw:Sw} {acc:List (List Str)} {a:List Str},acc.getLast? = some a->(∀x∈sw,x.2≠[]) -> ∃tl,(sw.foldl D8 acc).getLast? = some (a++tl)
 |[],_,a,h,_=>⟨[],by rw[b7];exact h⟩
 | x::sw,acc,a,h,hs=>by
  have hx:=hs x am
  obtain⟨tl,e⟩:=Qp (sw:=sw) (Qq h (gW hx)) λy hy=>hs y (aq _ hy)
  exact⟨[x.2.getLast hx]++tl,by rw[bC,e,dZ]⟩
theorem ae6(hw:okSw (x::sw))(hz:x.2[0]?=some z):Hk (x::sw) [[(x.1,[z])]]≠0:=by
 have hs:=hw.sets
 have hx:=hs x am
 have ne:∀y∈x::sw,y.2≠[]:=λy hy e=>by have:=(hs y hy).2.1;rw[e] at this;simp at this
 obtain⟨tl,e⟩:=Qp (sw:=sw) (acc:=D8 [[]] x) (Qq (a:=[]) rfl (gW (ne x am))) λy hy=>ne y (aq _ hy)
 have e:(Ae (x::sw)).getLast? = some ([]++[x.2.getLast (ne x am)]++tl):=e
 rw[List.getLast?_eq_getElem?] at e
 have h2:=hx.2.1
 have dif:x.2.getLast (ne x am)≠z:=λq=>by
  have h0:0<x.2.length:=by omega
  have hl:x.2.length - 1<x.2.length:=by omega
  rw[af h0] at hz
  rw[List.getLast_eq_getElem] at q
  have:=(c5 (h₀:=hl) (h₁:=h0) hx.1.2.1).mp (q.trans (aM hz).symm)
  omega
 have hp:=hw.pos
 have bit:(Kz (x::sw) [[(x.1,[z])]]).testBit ((Ae (x::sw)).length - 1)=true:=by
  rw[Qd,decide_eq_true (by omega),cX,eC,List.any_nil,hZ,Ii,bv,List.all_nil,ez]
  have pl:As (x::sw) x.1=0:=Bm (i:=0) rfl hw.2.2.1
  show (!(_&&([z].any λz=>Jw (Ae (x::sw)) (As (x::sw) x.1) z _)))=true
  rw[eC,List.any_nil,hZ,pl]
  have:Jw (Ae (x::sw)) 0 z ((Ae (x::sw)).length - 1)=false:=by
   unfold Jw
   rw[e]
   refine decide_eq_false λq=>dif ?_
   simpa using q
  rw[this,cw]
  rfl
 rw[Qc]
 intro q
 have q:Kz (x::sw) [[(x.1,[z])]]=0:=by omega
 rw[q,cF] at bit
 cases bit
theorem Qe(hw:okSw sw):Hk sw []≠0:=by
 have hp:=hw.pos
 rw[Qc]
 intro q
 have q:Kz sw []=0:=by omega
 have bit:(Kz sw []).testBit 0=true:=by
  rw[Qd,decide_eq_true (by omega)]
  rfl
 rw[q,cF] at bit
 cases bit
theorem ay9(hw:okSw (x::sw))(hz:x.2[0]?=some z):Ho (x::sw) [(x.1,[z])]:=by
 have hx:=(hw.2.2.2.1 x am).2
 have hm:z∈x.2:=ag hz
 refine⟨by simp,by simp,by simp,λe he=>?_⟩
 have:e=(x.1,[z]):=by simpa using he
 subst this
 refine⟨by simp,⟨λy hy=>?_,by simp,by simp⟩,x,am,rfl,λy hy=>?_⟩
 .have:y=z:=by simpa using hy
  subst this
  exact hx.1.1 y hm
 .have:y=z:=by simpa using hy
  subst this
  exact hm
theorem bq9(Z:Ar K t):OkD K ak8 (Bc K t) bl (t.f 31) (t.d 31) (Yl K t):=by
 refine Bn (cb2 K t) λvs H Q E h=>?_
 .obtain⟨a,l,ns,sw,rfl,hS,hsw,hw,k⟩:=h;refine⟨rfl,?_⟩
  obtain⟨ds,ed,⟨_,ol⟩,hd⟩:=id hsw
  have len:(ds.map λx=>V.ref x.2).length=sw.length:=by rw[<- ed];simp
  have tail:∀H' v ζ (Du:Outs),Du.rt=Q->Same H H'->Ez any H' v ζ->(∀r∈ζ,Ho sw r)->ζ.length<=8->Hk sw ζ≠0 ->
    (Ag (Ap (dFn (mkC t.c_zbm (some (i_zv K t)) 1) (Ab (Bj [none,none] (Bk K (Aa 1)) (gdT K 2 [(gdN 0),(gdN 1)]) Bt (Gc (Ab (Aa 0) (Ab (dFn (λvs H Q _=>(Nj K true) vs H Q) (Ab (Aa 1) Ah)) Ah)))) (Ab (Aa 2) Ah))))
 Af) Du [some (.ref a),some (.ref l),some v] H':=by
   intro H1 v ζ Du hDu S1 RI hok h8 hf
   refine .inl ⟨⟨_,S1.seqL (SqL.of ol)⟩,λD hD=>?_⟩
   refine B0 (Aq (ds.map λx=>V.ref x.2)) (λm σ H'=>(∃v0 v1,σ=[v0,v1])/\Same H1 H'/\∃es:List (((Str×List Str)×Addr)×Addr),es.map (·.1.1)=sw.take m/\SwL H1 H' D es)
    ⟨⟨_,_,rfl⟩,Same.upd hD,[],rfl,Ac,λx hx=>(by cases hx),λx hx=>(by cases hx),λx hx=>(by cases hx)⟩ (λm σ H' _ q=>(S1.trans q.2.1).seqL (SqL.of ol)) ?_ ?_
   .rintro m x σ H2 hx ⟨⟨v0,v1,rfl⟩,S2,es,ee,L1⟩
    obtain⟨⟨⟨e,la⟩,ta⟩,hi,rfl⟩:=Ak hx
    have hi2:sw[m]?=some e:=by rw[<- ed,aj,hi];rfl
    obtain⟨⟨_,h1⟩,_,h2⟩:=hd _ (ag hi)
    have S12:=S1.trans S2
    refine⟨_,.inl (SqT.of (S12 _ _ h1)),rfl,.inl ⟨_,.inl (SqL.of (S12 _ _ h2)),λlb hlb=>⟨(show 2<=sizeLine by decide),λtb htb=>?_⟩⟩⟩
    have Sb:=Same.upd (o:=A5 e.2) hlb
    have eb:upd H2 lb (A5 e.2) lb=some (A5 e.2):=Ac
    have fb:=S2.free hlb
    have nb:lb≠D:=(Aj L1.at_ hlb).symm
    have St:=Same.upd (o:=.tup [.str e.1,.ref lb]) htb
    have et:upd (upd H2 lb (A5 e.2)) tb (.tup [.str e.1,.ref lb]) tb=some (.tup [.str e.1,.ref lb]):=Ac
    have S3:=Sb.trans St
    have eb2:=St _ _ eb
    show ∃ys,upd (upd H2 lb (A5 e.2)) tb (.tup [.str e.1,.ref lb]) D=some (.lst ys)/\_
    generalize upd (upd H2 lb (A5 e.2)) tb (.tup [.str e.1,.ref lb])=H3 at S3 et eb2 ⊢
    have L2:=L1.up S3
    refine⟨_,L2.at_,?_,⟨_,_,rfl⟩,(S2.trans S3).set hD,es++[((e,lb),tb)],?_,L2.snoc et eb2 nb fb⟩
    .rw[ae]
     have:=congrArg bH ee
     rw[ae,aJ] at this
     have:=hw.2.1
     exact aG (show es.length<=5 by omega) (by decide)
    .rw[au,ee,bF,hi2];rfl
   .rintro σ Hh ⟨_,Sh,es,ee,Lh⟩
    rw[len,aO] at ee
    have RI2:Ez any Hh v ζ:=RI.imp id fun⟨kk,e,R⟩=>⟨kk,e,R.mono (Kp.same Sh)⟩
    refine at9 (K:=K) (E:=λ_ _=>False) (v:=v) (ee▸Lh.swIn) hw RI2 hok h8 hf λH2 p S2 P2=>?_
    show Du.rt _ _
    rw[hDu]
    exact k H2 p ζ (S1.trans (Sh.trans S2)) (P2.mono Kp.any)
  have mid:∀H' v ζ (Du:Outs),Du.rt=Q->Same H H'->Ez any H' v ζ->(∀r∈ζ,Ho sw r)->ζ.length<=8->Hk sw ζ≠0 ->
    (Ag (dIf (Au (Ad (Av K false) (Ad Ay (dFn (spE (Cw K t) []) (Ab (Aa 0) (Ab (dC (.int 2)) Ah))) (dC (.int 3))) (dC (.int 2)))) (Ag (Ao 2 (dC .non))
  Af) Af)
 (Ag (Ap (dFn (mkC t.c_zbm (some (i_zv K t)) 1) (Ab (Bj [none,none] (Bk K (Aa 1)) (gdT K 2 [(gdN 0),(gdN 1)]) Bt (Gc (Ab (Aa 0) (Ab (dFn (λvs H Q _=>(Nj K true) vs H Q) (Ab (Aa 1) Ah)) Ah)))) (Ab (Aa 2) Ah))))
 Af)) Du [some (.ref a),some (.ref l),some v] H':=by
   intro H1 v ζ Du hDu S1 RI hok h8 hf
   exact⟨a,ns,2,rfl,S1.seqL hS,by decide,Gj (λ_=>tail H1 .non [] Du hDu S1 (.inl ⟨rfl,rfl⟩) (λr hr=>by cases hr) (by decide) (Qe hw)) (λ_=>tail H1 v ζ Du hDu S1 RI hok h8 hf)⟩
  refine⟨(show 0<=sizeLine by decide),λl0 hl0=>?_⟩
  have S0:=Same.upd (o:=.lst []) hl0
  have e0:upd H l0 (.lst []) l0=some (.lst []):=Ac
  generalize upd H l0 (.lst [])=H0 at S0 e0 ⊢
  refine⟨a,ns,2,rfl,S0.seqL hS,by decide,Gj (λ_=>?_) (λ_=>mid H0 (.ref l0) [] _ rfl S0 (.inr ⟨l0,rfl,[],rfl,⟨trivial,e0⟩,λx hx=>by cases hx⟩) (λr hr=>by cases hr) (by decide) (Qe hw))⟩
  cases sw with
  |nil=>have:=hw.1;simp at this
  |cons x sw=>
   cases ds with
   |nil=>simp at ed
   |cons d0 ds=>
    obtain⟨⟨x',la⟩,ta⟩:=d0
    have:x'=x:=(eE ed).1
    subst this
    obtain⟨⟨_,h1⟩,_,h2⟩:=hd _ am
    have hx:=hw.sets x' am
    have h2l:=hx.2.1
    obtain⟨z,hz⟩:∃z,x'.2[0]?=some z:=⟨_,af (show 0<x'.2.length by omega)⟩
    intro dd hdd
    have Sd:=Same.upd (o:=.dK []) hdd
    have ed0:upd H0 dd (.dK []) dd=some (.dK []):=Ac
    generalize upd H0 dd (.dK [])=H1 at Sd ed0 ⊢
    have S1:=S0.trans Sd
    have q1:=SqL.of (K:=K) (S1 _ _ ol)
    have q2:=SqT.of (K:=K) (S1 _ _ h1)
    have q3:=SqL.of (K:=K) (S1 _ _ h2)
    refine⟨_,.ref ta,.inl q1,A3 (j:=0) rfl,_,.str x'.1,.inr q2,rfl,_,.ref ta,.inl q1,A3 (j:=0) rfl,_,.ref la,.inr q2,rfl,_,.str z,.inl q3,A3 (j:=0) (by rw[aj,hz];rfl),(show 1<=sizeLine by decide),λlb hlb=>?_⟩
    have Sb:=Same.upd (o:=.lst [.str z]) hlb
    have eb:upd H1 lb (.lst [.str z]) lb=some (A5 [z]):=Ac
    have ed2:=Sb _ _ ed0
    have ndb:dd≠lb:=Aj ed0 hlb
    refine⟨ed2,[(.inr x'.1,.ref lb)],rfl,aC rfl,(show 1<=sizeLine by decide),λlr hlr=>?_⟩
    have S2:Same H0 (upd (upd H1 lb (.lst [.str z])) dd (.dK (Em [] [(.inr x'.1,.ref lb)]))):=(Sd.trans Sb).set hdd
    have ed3:upd (upd H1 lb (.lst [.str z])) dd (.dK (Em [] [(.inr x'.1,.ref lb)])) dd=some (.dK [(.inr x'.1,.ref lb)]):=Ac
    have eb3:upd (upd H1 lb (.lst [.str z])) dd (.dK (Em [] [(.inr x'.1,.ref lb)])) lb=some (A5 [z]):=by rw[Ai (cQ ndb)];exact eb
    have Sr:=Same.upd (o:=.lst [.ref dd]) hlr
    have er:upd (upd (upd H1 lb (.lst [.str z])) dd (.dK (Em [] [(.inr x'.1,.ref lb)]))) lr (.lst [.ref dd]) lr=some (.lst [.ref dd]):=Ac
    have S3:=S0.trans (S2.trans Sr)
    have ed4:=Sr _ _ ed3
    have eb4:=Sr _ _ eb3
    generalize upd (upd (upd H1 lb (.lst [.str z])) dd (.dK (Em [] [(.inr x'.1,.ref lb)]))) lr (.lst [.ref dd])=H4 at S3 er ed4 eb4 ⊢
    refine mid H4 (.ref lr) [[(x'.1,[z])]] _ (by rfl) S3 (.inr ⟨lr,rfl,[([(x'.1,[z])],dd)],rfl,⟨trivial,er⟩,λy hy=>?_⟩) (λr hr=>?_) (aC rfl) (ae6 hw hz)
    .have:y=([(x'.1,[z])],dd):=by simpa using hy
     subst this
     exact⟨[((x'.1,[z]),lb)],rfl,⟨trivial,ed4⟩,λu hu=>by
      have:u=((x'.1,[z]),lb):=by simpa using hu
      subst this
      exact⟨trivial,eb4⟩⟩
    .have:r=[(x'.1,[z])]:=by simpa using hr
     subst this
     exact ay9 hw hz
end
end K14
namespace K14
open PySem L2 Pn
def conv(sw:Sw)(d:List Nat):List Str:=List.zipWith (λ(x:Str×List Str) j=>x.2.getD j cJ) sw d
theorem X7(l:List Str):l=(aD l.length).map λj=>l.getD j cJ:=by
 refine List.ext_getElem (by simp) λi h1 h2=>?_
 rw[dL,fY,ar,af h1]
 rfl
theorem Q8(sw:Sw):∀i,i<=sw.length->Ae (sw.take i)=(Cc (sw.take i)).map (conv (sw.take i))/\∀d∈Cc (sw.take i),∀(p:Nat) x,(sw.take i)[p]?=some x -> ∃j,d[p]?=some j/\j<x.2.length:=by
 intro i
 induction i with
 |zero=>exact λ_=>⟨rfl,λd _ p x h=>by simp at h⟩
 |succ i ih=>
  intro hi
  obtain⟨e1,e2⟩:=ih (by omega)
  have hx:sw[i]?=some sw[i]:=af (by omega)
  generalize sw[i]=x at hx
  have lt:(sw.take i).length=i:=by rw[aJ];omega
  have dl:∀d∈Cc (sw.take i),d.length=i:=λd hd=>by rw[Ln d hd,lt]
  have r1:Ae (sw.take (i+1))=D8 (Ae (sw.take i)) x:=C4 hx _ _
  have tk:sw.take (i+1)=sw.take i++[x]:=by rw[bF,hx];rfl
  refine⟨?_,λd hd p y hp=>?_⟩
  .rw[r1,Jt hx,e1]
   unfold D8 Fw
   rw[List.flatMap_map,jG]
   refine congrArg lV (bY λd hd=>?_)
   show x.2.map (λz=>conv (sw.take i) d++[z])=((aD x.2.length).map λj=>d++[j]).map (conv (sw.take (i+1)))
   conv=>lhs;rw[X7 x.2]
   rw[a_,a_]
   refine bY λj _=>?_
   show conv (sw.take i) d++[x.2.getD j cJ]=conv (sw.take (i+1)) (d++[j])
   unfold conv
   rw[tk,List.zipWith_append (by rw[lt,dl d hd])]
   rfl
  .rw[Jt hx] at hd
   obtain⟨a,ha,hd⟩:=List.mem_flatMap.mp hd
   obtain⟨j,hj,rfl⟩:=List.mem_map.mp hd
   have la:=dl a ha
   rw[tk] at hp
   by_cases hpi:p<i
   .rw[c_ (by omega)] at hp ⊢
    exact e2 a ha p y hp
   .have hp2:=Al hp
    rw[aP,lt] at hp2
    have hp3:p=i:=by have:[x].length=1:=rfl;omega
    subst hp3
    rw[bU (by omega),lt,gN] at hp
    have:x=y:=by simpa using hp
    subst this
    refine⟨j,?_,List.mem_range.mp hj⟩
    rw[bU (by omega),la,gN]
    rfl
theorem Dl(sw:Sw):Ae sw=(Cc sw).map (conv sw):=by
 have:=(Q8 sw sw.length (ak _)).1
 rwa[aO] at this
theorem Mr {sw:Sw}{d:List Nat}(hd:d∈Cc sw){p:Nat}{x:Str×List Str}(hp:sw[p]?=some x):∃j,d[p]?=some j/\j<x.2.length:=by
 have:=(Q8 sw sw.length (ak _)).2
 rw[aO] at this
 exact this d hd p x hp
theorem X8 {sw:Sw}{n p j:Nat}{d:List Nat}{x:Str×List Str}(hn:(Cc sw)[n]?=some d)(hp:sw[p]?=some x)(hj:d[p]?=some j):((Ae sw)[n]?.bind λr=>r[p]?)=some (x.2.getD j cJ):=by
 rw[Dl,aj,hn]
 show (conv sw d)[p]?=_
 unfold conv
 rw[List.getElem?_zipWith,hp,hj]
theorem D6(a b k:Nat):(Bu a b).testBit k=(a.testBit k && !b.testBit k):=by
 unfold Bu
 rw[aa9,iE,bi]
 cases a.testBit k <;> cases b.testBit k <;> rfl
theorem Vm(a b:Nat):aX (a:Int) (bw (b:Int))=(Bu a b:Nat):=by
 unfold Bu
 rw[jQ (by omega) (by unfold bw;omega),show bw (bw (b:Int))=(b:Int) by unfold bw;omega,aI,aI]
 have:=f6 (n:=a) (m:=b)
 omega
theorem Zz(h:a<2 ^ n):Bu a b<2 ^ n:=aG (Nat.sub_le _ _) h
theorem F9(h:a<2 ^ n):a &&& b<2 ^ n:=aG f6 h
theorem a55(h:b<2 ^ n):a &&& b<2 ^ n:=aG Nat.and_le_right h
theorem Rn(h:c<2 ^ n)(hj:c.testBit j=true):j<n:=by
 rcases eY j n with q|q
 .exact q
 .rw[Nat.testBit_lt_two_pow (aL h (cA (by decide) q))] at hj;cases hj
theorem Wx(h:c<2 ^ n)(h0:c≠0):∃i,i<n/\c.testBit i=true:=by
 obtain⟨i,hi⟩:=Nat.exists_testBit_of_ne_zero h0
 exact⟨i,Rn h hi,hi⟩
theorem ap5(hi:i<(Ae sw).length):∃d,(Cc sw)[i]?=some d/\d∈Cc sw:=by
 have h:i<(Cc sw).length:=by rw[Dl,ae] at hi;exact hi
 exact⟨_,af h,bV h⟩
theorem D0 {sw:Sw}{i p:Nat}{x:Str×List Str}(hi:i<(Ae sw).length)(hp:sw[p]?=some x):Dg sw i p<x.2.length/\Ce sw i p=some (x.2.getD (Dg sw i p) cJ):=by
 obtain⟨d,hd,hm⟩:=ap5 hi
 obtain⟨j,hj,lj⟩:=Mr hm hp
 have e:Dg sw i p=j:=by unfold Dg;rw[hd];show (d[p]?).getD 0=j;rw[hj];rfl
 rw[e]
 exact⟨lj,X8 hd hp hj⟩
theorem Mm(hw:okSw sw)(hi:i<(Ae sw).length)(hj:j<(Ae sw).length)(hp:sw[p]?=some x):Ce sw i p=Ce sw j p ↔ Dg sw i p=Dg sw j p:=by
 obtain⟨l1,e1⟩:=D0 hi hp
 obtain⟨l2,e2⟩:=D0 hj hp
 rw[e1,e2]
 refine⟨λe=>?_,λe=>by rw[e]⟩
 have e:=aM e
 rw[ar,ar,af l1,af l2] at e
 exact (c5 (hw.sets x (ag hp)).1.2.1).mp e
theorem K6(h:sw[k]?=some e):nmS sw k=e.1:=by
 unfold nmS
 rw[ar,aj,h]
 rfl
theorem Xw(nd:(sw.map (·.1)).Nodup)(hp:p<sw.length)(hq:q<sw.length)(h:nmS sw p=nmS sw q):p=q:=by
 unfold nmS at h
 rw[ar,ar,af (by rw[ae];exact hp),af (by rw[ae];exact hq)] at h
 exact (c5 nd).mp h
theorem G8:Cn sw ps i j=ps.all λp=>decide (Dg sw i p=Dg sw j p):=by
 unfold Cn
 rw[bu,decide_eq_true_iff,aR,List.map_inj_left]
 exact⟨λh p hp=>decide_eq_true (h p hp),λh p hp=>of_decide_eq_true (h p hp)⟩
theorem Zx {sw:Sw}(hw:okSw sw){ps:List Nat}(hp:∀p∈ps,p<sw.length){i j:Nat}(hi:i<(Ae sw).length)(hj:j<(Ae sw).length):Bs sw (ps.map (nmS sw)) i j=Cn sw ps i j:=by
 rw[G8]
 unfold Bs
 rw[d9,bu,aR,aR]
 have key:∀p∈ps,(decide (Ce sw i (As sw (nmS sw p))=Ce sw j (As sw (nmS sw p)))=true ↔ decide (Dg sw i p=Dg sw j p)=true):=λp hm=>by
  have hx:sw[p]?=some (sw[p]'(hp p hm)):=af _
  rw[K6 hx,Bm hx hw.2.2.1,decide_eq_true_iff,decide_eq_true_iff]
  exact Mm hw hi hj hx
 exact⟨λh p hm=>(key p hm).mp (h p hm),λh p hm=>(key p hm).mpr (h p hm)⟩
theorem W6 {l:List Nat}{p q:Nat->Bool}(h:∀a∈l,p a=q a):l.find? p=l.find? q:=by
 induction l with
 |nil=>rfl
 |cons a l ih=>rw[bR,bR,h a am,ih λb hb=>h b (aq _ hb)]
theorem Oi {n a b:Nat}{f g:Nat->Nat->Bool}(h:∀i j,i<n->j<n->f i j=g i j):Ch n a b f=Ch n a b g:=by
 unfold Ch
 rw[bu,be,be]
 constructor
 .rintro⟨i,hi,q⟩
  refine⟨i,hi,?_⟩
  rw[ay,be] at q ⊢
  obtain⟨q1,j,hj,q2⟩:=q
  exact⟨q1,j,hj,by rw[<- h i j (List.mem_range.mp hi) (List.mem_range.mp hj)];exact q2⟩
 .rintro⟨i,hi,q⟩
  refine⟨i,hi,?_⟩
  rw[ay,be] at q ⊢
  obtain⟨q1,j,hj,q2⟩:=q
  exact⟨q1,j,hj,by rw[h i j (List.mem_range.mp hi) (List.mem_range.mp hj)];exact q2⟩
theorem Hr {n c w:Nat}{f:Nat->Nat->Bool}:(Ep n c w f).isNone = !Ch n (c &&& w) (Bu w c) f:=by
 unfold Ep Ch
 rw[bu,i6,iP,eZ,cH]
 refine forall_congr' λi=>forall_congr' λhi=>?_
 rw[bi]
 cases e:(c.testBit i&&w.testBit i) with
 |false=>simp
 |true=>
  rw[if_pos rfl,jP,fW,cX,Bool.not_eq_true,cH]
  refine forall_congr' λj=>forall_congr' λhj=>?_
  rw[D6]
theorem Nh {α β:Type}(f:α->β):∀(k:Nat)(l:List α),A0 k (l.map f)=(A0 k l).map (fw f)
 |0,l=>rfl
 | k+1,l=>by
  unfold A0
  rw[ae,jG]
  refine congrArg lV (bY λi _=>?_)
  show ((l.map f)[i]?).elim [] _=((l[i]?).elim [] _).map (fw f)
  rw[aj]
  cases l[i]? with
  |none=>rfl
  |some x=>
   show (A0 k ((l.map f).drop (i+1))).map (f x :: ·)=((A0 k (l.drop (i+1))).map (x :: ·)).map (fw f)
   rw[<- k_,Nh f k,a_,a_]
   rfl
theorem Fn {α:Type}:∀(k:Nat)(l:List α)(p:List α),p∈A0 k l->p.length=k/\∀x∈p,x∈l
 | 0,l,p,h=>by
  have:p=[]:=by simpa [A0] using h
  subst this
  exact⟨rfl,λx hx=>by cases hx⟩
 | k+1,l,p,h=>by
  unfold A0 at h
  obtain⟨i,hi,h⟩:=List.mem_flatMap.mp h
  cases e:l[i]? with
  |none=>rw[e] at h;cases h
  |some x=>
   rw[e] at h
   obtain⟨q,hq,rfl⟩:=List.mem_map.mp h
   obtain⟨h1,h2⟩:=Fn k _ q hq
   refine⟨by rw[aN,h1],λy hy=>?_⟩
   rcases List.mem_cons.mp hy with rfl|hy
   .exact ag e
   .exact g9 (h2 y hy)
theorem ad0 {α β:Type}(f:α->β)(l:List α):Bq (l.map f)=(Bq l).map (fw f):=by
 unfold Bq
 rw[ae,jG]
 exact congrArg lV (bY λk _=>Nh f k l)
theorem Py {α:Type}{l p:List α}(h:p∈Bq l):p.length<l.length/\∀x∈p,x∈l:=by
 unfold Bq at h
 obtain⟨k,hk,h⟩:=List.mem_flatMap.mp h
 obtain⟨h1,h2⟩:=Fn k l p h
 exact⟨by rw[h1];exact List.mem_range.mp hk,h2⟩
theorem Vi(sw:Sw):sw.map (·.1)=(aD sw.length).map (nmS sw):=by
 refine List.ext_getElem (by simp) λi h1 h2=>?_
 rw[dL,dL,fY]
 have hi:i<sw.length:=by simpa using h1
 rw[K6 (af hi)]
theorem Qf(hw:okSw sw)(hi:i<(Ae sw).length)(hj:j<(Ae sw).length)(h:Cn sw (aD sw.length) i j=true):i=j:=by
 rw[G8,aR] at h
 have nd:=(Hb hw.sets).1
 have ln:=(Hb hw.sets).2.1
 refine (c5 (h₀:=hi) (h₁:=hj) nd).mp (List.ext_getElem? λp=>?_)
 have l1:=ln _ (bV hi)
 have l2:=ln _ (bV hj)
 by_cases hp:p<sw.length
 .have e:=(Mm hw hi hj (af hp)).mpr (of_decide_eq_true (h p (List.mem_range.mpr hp)))
  unfold Ce at e
  rw[af hi,af hj] at e
  exact e
 .rw[dN (by omega),dN (by omega)]
theorem ae7 {sw:Sw}(hw:okSw sw)(c w:Nat):Ep (Ae sw).length c w (Cn sw (aD sw.length))=none:=by
 rw[<- i6,Hr,eZ]
 unfold Ch
 rw[cH]
 intro i hi q
 rw[ay,be,bi,ay] at q
 obtain⟨⟨q1,_⟩,j,hj,q2⟩:=q
 rw[ay,D6,ay] at q2
 have e:=Qf hw (List.mem_range.mp hi) (List.mem_range.mp hj) q2.2
 subst e
 rw[q1] at q2
 simp at q2
theorem Ky {α β:Type}{f:α->β}{p:α->Bool}{q:β->Bool}:∀ {l:List α},(∀a∈l,q (f a)=p a)->(l.map f).find? q=(l.find? p).map f
 |[],_=>rfl
 | a::l,h=>by
  rw[aY,bR,bR,h a am]
  cases p a with
  |true=>rfl
  |false=>exact Ky λb hb=>h b (aq _ hb)
theorem W8 {sw:Sw}(hw:okSw sw)(c w:Nat):Cb sw c w=(Ot sw c w).map (nmS sw)/\(Ea sw.length).find? (λps=>(Ep (Ae sw).length c w (Cn sw ps)).isNone)=some (Ot sw c w):=by
 have e:(Ea sw.length).find? (λps=>(Ep (Ae sw).length c w (Cn sw ps)).isNone)=some (((Bq (aD sw.length)).find? λps=>(Ep (Ae sw).length c w (Cn sw ps)).isNone).getD (aD sw.length)):=by
  unfold Ea
  rw[List.find?_append]
  cases (Bq (aD sw.length)).find? (λps=>(Ep (Ae sw).length c w (Cn sw ps)).isNone) with
  |some p=>rfl
  |none=>rw[bR,ae7 hw];rfl
 have d:Ot sw c w=((Bq (aD sw.length)).find? λps=>(Ep (Ae sw).length c w (Cn sw ps)).isNone).getD (aD sw.length):=by unfold Ot;rw[e];rfl
 refine⟨?_,by rw[e,d]⟩
 rw[d]
 unfold Cb
 rw[Vi,ad0,Ky (p:=λps=>(Ep (Ae sw).length c w (Cn sw ps)).isNone)]
 .cases (Bq (aD sw.length)).find? (λps=>(Ep (Ae sw).length c w (Cn sw ps)).isNone) <;> rfl
 .intro ps hps
  rw[Hr,Oi λi j hi hj=>Zx hw (λp hp=>List.mem_range.mp ((Py hps).2 p hp)) hi hj]
section
noncomputable def pkS(k:Nat)(ws:List Str)(m:Nat):List (List Str):=(aD m).flatMap λi=>(ws[i]?).elim [] λx=>(A0 k (ws.drop (i+1))).map (x :: ·)
theorem Z3 {k:Nat}{ws:List Str}{m:Nat}{x:Str}(h:ws[m]?=some x):pkS k ws (m+1)=pkS k ws m++(A0 k (ws.drop (m+1))).map (x :: ·):=by
 unfold pkS
 rw[dj,dH,dF,gU,b7,h]
 rfl
theorem J5:∀(k:Nat)(ws:List Str),(A0 k ws).length<=2 ^ ws.length
 |0,ws=>by show 1<=_;exact Nat.one_le_two_pow
 | k+1,ws=>by
  have key:∀m,m<=ws.length->(pkS k ws m).length+2 ^ (ws.length - m)<=2 ^ ws.length:=by
   intro m
   induction m with
   |zero=>intro _;show 0+_<=_;rw[cT];exact ak _
   |succ m ih=>
    intro hm
    have:=ih (by omega)
    rw[Z3 (af (by omega)),aP,ae]
    have h2:=J5 k (ws.drop (m+1))
    rw[cN] at h2
    have h3:2 ^ (ws.length - m)=2 ^ (ws.length - (m+1)) * 2:=by rw[<- Nat.pow_succ];congr 1;omega
    omega
  have:=key ws.length (ak _)
  exact aw (aV _ _) this
theorem bv6 {k:Nat}{ws:List Str}{m:Nat}(hm:m<=ws.length):(pkS k ws m).length<=2 ^ ws.length:=by
 refine aw ?_ (J5 (k+1) ws)
 show _<=(pkS k ws ws.length).length
 have:∀j,(pkS k ws m).length<=(pkS k ws (m+j)).length:=by
  intro j
  induction j with
  |zero=>exact ak _
  |succ j ih=>
   refine aw ih ?_
   unfold pkS
   rw[<- Nat.add_assoc,dj,dH,aP]
   exact aV _ _
 have:=this (ws.length - m)
 rwa[show m+(ws.length - m)=ws.length by omega] at this
theorem ad4 {E:EK}{H:Hp}{r:Addr}{x:Str}{es:List (List Str×Addr)}{R:Hp->Addr->Prop}(hr:H r=some (.lst (es.map λe=>.ref e.2)))(he:∀e∈es,H e.2=some (A5 e.1))(few:es.length<=64)(fl:∀e∈es,e.1.length<=100)(k:∀D H',Same H H'->H D=none -> ∀fs:List (List Str×Addr),fs.map (·.1)=(es.map (·.1)).map (x :: ·)->H' D=some (.lst (fs.map λy=>.ref y.2))->(∀y∈fs,y.2≠D/\H y.2=none/\H' y.2=some (A5 y.1))->R H' D) :
  ∀D,H D=none->Fa (Itl K r) (gdN 0) Bt (Ad (Bg K) (Cp (Ab (Aa 1) Ah)) (Aa 0)) D (λH'=>R H' D) [none,some (.str x)] (upd H D (.lst [])) E:=by
 intro D hD
 refine B0 (Aq (es.map λe=>V.ref e.2)) (λm σ H'=>(∃v,σ=[v,some (.str x)])/\Same H H'/\∃fs:List (List Str×Addr),fs.map (·.1)=((es.take m).map (·.1)).map (x :: ·)/\H' D=some (.lst (fs.map λy=>.ref y.2))/\∀y∈fs,y.2≠D/\H y.2=none/\H' y.2=some (A5 y.1))
  ⟨⟨_,rfl⟩,Same.upd hD,[],rfl,Ac,λx hx=>by cases hx⟩ (λm σ H' _ q=>q.2.1.seqL (SqL.of hr)) ?_ ?_
 .rintro m y σ H1 hy ⟨⟨v,rfl⟩,S1,fs,ef,eD,hf⟩
  obtain⟨⟨e,ea⟩,hm,rfl⟩:=Ak hy
  have hea:=S1 _ _ (he _ (ag hm))
  have le:=fl _ (ag hm)
  have lm:=Al hm
  refine⟨(show 1<=sizeLine by decide),λp hp=>.inl ⟨p,ea,_,_,rfl,rfl,Ac,(Same.upd hp) _ _ hea,?_,λq hq=>?_⟩⟩
  .rw[ae];exact aw (show 1+e.length<=101 by have:e.length<=100:=le;omega) (by decide)
  have Sp:=Same.upd (o:=.lst [.str x]) hp
  have Sq:=Same.upd (o:=.lst ([.str x]++e.map V.str)) hq
  have eq:upd (upd H1 p (.lst [.str x])) q (.lst ([.str x]++e.map V.str)) q=some (A5 (x::e)):=Ac
  have S12:=Sp.trans Sq
  have qD:q≠D:=(Aj (Sp _ _ eD) hq).symm
  have hq0:H q=none:=(S1.trans Sp).free hq
  generalize upd (upd H1 p (.lst [.str x])) q (.lst ([.str x]++e.map V.str))=H2 at S12 eq ⊢
  have eD2:=S12 _ _ eD
  refine⟨_,eD2,?_,⟨_,rfl⟩,(S1.trans S12).set hD,fs++[(x::e,q)],?_,?_,λy hy=>?_⟩
  .rw[ae]
   have:=congrArg bH ef
   rw[ae,ae,ae,aJ] at this
   exact aG (show fs.length<=64 by omega) (by decide)
  .rw[au,ef,Ax hm,au];rfl
  .rw[Ac,au];rfl
  .rcases List.mem_append.mp hy with hy|hy
   .obtain⟨a1,a2,a3⟩:=hf y hy
    exact⟨a1,a2,by rw[Ai a1];exact S12 _ _ a3⟩
   .have:y=(x::e,q):=by simpa using hy
    subst this
    exact⟨qD,hq0,by rw[Ai qD];exact eq⟩
 .rintro σ H1 ⟨_,S1,fs,ef,eD,hf⟩
  rw[ae,aO] at ef
  exact k D H1 S1 hD fs ef eD hf
theorem av7 {k:Nat}{ws:List Str}(h:A0 k ws≠[]):k<=ws.length:=by
 induction k generalizing ws with
 |zero=>exact bZ _
 |succ k ih=>
  obtain⟨p,hp⟩:=List.exists_mem_of_ne_nil _ h
  unfold A0 at hp
  obtain⟨i,hi,hp⟩:=List.mem_flatMap.mp hp
  cases e:ws[i]? with
  |none=>rw[e] at hp;cases hp
  |some x=>
   rw[e] at hp
   obtain⟨q,hq,rfl⟩:=List.mem_map.mp hp
   have:=ih (ws:=ws.drop (i+1)) (λz=>by rw[z] at hq;cases hq)
   rw[cN] at this
   have:=List.mem_range.mp hi
   omega
theorem a79 {xs:List V}{i:Nat}{x y:V}(h:(Fb 0 xs)[i]?=some (x,y)):x=.int (i:Int)/\xs[i]?=some y:=by
 have hi:=Al h
 rw[Cj] at hi
 have:=Dr (k:=0) (af hi)
 rw[h,cT] at this
 have:=aM this
 injection this with a b
 exact⟨a,by rw[af hi,b]⟩
theorem bs9(Z:Ar K t)(g:DOk K mg D_zbd.q D_zbd.st (t.f 7) (t.d 7) D_zbd.ps)(T:Tab P w K mg base 0 (gbT (Bc K t) 0) bl):∀n,FnOk P w K mg base CX0 (0+n+1) (t.f 7) (t.d 7) D_zbd.ps (Lz K t n):=by
 refine ay8 (N:=D_zbd.N) (Lz K t) (cd2 K t) g (ScOk.fn (by decide +kernel)) (by decide +kernel) T 40 (λn=>by kernel_rfl) (λn vs H Q E h=>?_) (λvs H Q E h=>?_) (λn vs H Q E h=>?_)
 .obtain⟨l,k,ws,rfl,_⟩:=h;rfl
 .obtain⟨l,k,ws,_,_,_,h,_⟩:=h;exact absurd h (dm _)
 .obtain⟨l,k,ws,rfl,hl,few,hk,kk⟩:=h
  refine Gj (λe=>?_) (λe=>?_)
  .have e:(k:Int)=0:=by simpa using e
   have e:k=0:=by omega
   subst e
   refine⟨(show 0<=sizeLine by decide),λa ha=>⟨(show 1<=sizeLine by decide),λb hb=>kk _ b ((Same.upd ha).trans (Same.upd hb)) ⟨[([],a)],rfl,⟨(Same.upd ha).free hb,Ac⟩,λx hx=>?_⟩⟩⟩
   have:x=([],a):=by simpa using hx
   subst this
   exact⟨ha,(Same.upd hb) _ _ Ac⟩
  .have e:¬ (k:Int)=0:=by simpa using e
   obtain⟨j,rfl⟩:∃j,k=j+1:=⟨k - 1,by omega⟩
   refine⟨(show 0<=sizeLine by decide),λD hD=>?_⟩
   have S0:=Same.upd (o:=.lst []) hD
   have e0:upd H D (.lst []) D=some (.lst []):=Ac
   show Ag _ _ _ [some (.ref l),some (.int ((j+1:Nat):Int)),some (.ref D),none,none] _
   generalize upd H D (.lst [])=H0 at S0 e0 ⊢
   refine .inl ⟨⟨_,S0.seqL (SqL.of hl)⟩,?_⟩
   refine R7 (Ui (ws.map V.str)) (λm σ H'=>(∃v3 v4,σ=[some (.ref l),some (.int ((j+1:Nat):Int)),some (.ref D),v3,v4])/\Same H H'/\∃fs:List (List Str×Addr),fs.map (·.1)=pkS j ws m/\H' D=some (.lst (fs.map λy=>.ref y.2))/\∀y∈fs,y.2≠D/\H y.2=none/\H' y.2=some (A5 y.1))
    ⟨⟨_,_,rfl⟩,S0,[],rfl,e0,λx hx=>by cases hx⟩ (λm σ H' _ q=>q.2.1.seqL (SqL.of hl)) ?_ ?_
   .rintro m x y T σ H1 hx hT ⟨⟨v3,v4,rfl⟩,S1,fs,ef,eD,hf⟩
    obtain⟨rfl,hy⟩:=a79 hx
    obtain⟨z,hz,rfl⟩:=Ak hy
    have lm:=Al hz
    have ST:=Same.upd (o:=.tup [.int (m:Int),.str z]) hT
    have tT:upd H1 T (.tup [.int (m:Int),.str z]) T=some (.tup [.int (m:Int),.str z]):=Ac
    generalize upd H1 T (.tup [.int (m:Int),.str z])=H2 at ST tT ⊢
    have S2:=S1.trans ST
    refine⟨_,.inl (SqT.of tT),rfl,.inl ⟨rfl,_,SqL.of (ST _ _ eD)⟩,.inl ⟨_,SqL.of (S2 _ _ hl),λL hL=>?_⟩⟩
    have SL:=Same.upd (o:=.lst (E6 (ws.map V.str) (some ((m:Int)+1)) none)) hL
    have eL:upd H2 L (.lst (E6 (ws.map V.str) (some ((m:Int)+1)) none)) L=some (A5 (ws.drop (m+1))):=by
     rw[Ac,show ((m:Int)+1)=((m+1:Nat):Int) by omega,G0];unfold A5;rw[k_]
    generalize upd H2 L (.lst (E6 (ws.map V.str) (some ((m:Int)+1)) none))=H3 at SL eL ⊢
    have S3:=S2.trans SL
    refine⟨L,j,ws.drop (m+1),by show [V.ref L,.int (((j+1:Nat):Int) - 1)]=_;rw[show ((j+1:Nat):Int) - 1=(j:Int) by omega],eL,by rw[cN];omega,by omega,λH4 r S4 ⟨es,ee,⟨_,er⟩,he⟩=>?_⟩
    have S5:=(ST.trans SL).trans S4
    have lp:(A0 j (ws.drop (m+1))).length<=32:=aw (J5 _ _) (cA (j:=5) (show 2 > 0 by decide) (show (ws.drop (m+1)).length<=5 by rw[cN];omega))
    have le:es.length=(A0 j (ws.drop (m+1))).length:=by rw[<- ee,ae]
    refine .inl ⟨⟨_,SqL.of er⟩,?_⟩
    refine ad4 er (λe h=>(he e h).2) (by omega) (λe h=>?_) λD2 H5 S6 fD2 gs eg eD2 hg=>?_
    .have:=(Fn j _ e.1 (by rw[<- ee];exact List.mem_map.mpr ⟨e,h,rfl⟩)).1
     rw[this]
     have:(A0 j (ws.drop (m+1)))≠[]:=λq=>by rw[q] at ee;have:=List.map_eq_nil_iff.mp ee;subst this;cases h
     exact aw (av7 this) (by rw[cN];omega)
    have S7:=S5.trans S6
    refine⟨D,D2,_,_,rfl,rfl,S7 _ _ eD,eD2,?_,⟨_,_,rfl⟩,(S1.trans S7).set hD,fs++gs,?_,?_,λy hy=>?_⟩
    .rw[ae,ae]
     have h1:=congrArg bH ef
     have h2:=congrArg bH eg
     rw[ae] at h1
     rw[ae,ae,ae] at h2
     have h3:(pkS j ws m).length<=32:=aw (bv6 (by omega)) (cA (j:=5) (show 2 > 0 by decide) few)
     exact aw (show _<=64 by omega) (by decide)
    .rw[au,ef,eg,ee,Z3 hz]
    .rw[Ac,au]
    .have nD:∀ {b},H4 b=none->b≠D:=λq=>(Aj (S5 _ _ eD) q).symm
     rcases List.mem_append.mp hy with hy|hy
     .obtain⟨a1,a2,a3⟩:=hf y hy
      exact⟨a1,a2,by rw[Ai a1];exact S7 _ _ a3⟩
     .obtain⟨a1,a2,a3⟩:=hg y hy
      exact⟨nD a2,(S1.trans S5).free a2,by rw[Ai (nD a2)];exact a3⟩
   .rintro σ H1 ⟨⟨v3,v4,rfl⟩,S1,fs,ef,eD,hf⟩
    rw[Cj,ae] at ef
    exact .inl (kk H1 D S1 ⟨fs,ef,⟨hD,eD⟩,λy hy=>(hf y hy).2⟩)
end
section
theorem Xv {E:EK}{H:Hp}{l:Addr}{ds:List ((Str×V)×Addr)}{R:Hp->Addr->Prop}(hl:H l=some (.lst (ds.map λx=>.ref x.2)))(hd:∀x∈ds,H x.2=some (.tup [.str x.1.1,x.1.2]))(few:ds.length<=1000)(k:∀D H',Same H H'->H D=none->H' D=some (A5 (ds.map (·.1.1)))->R H' D) :
  ∀D,H D=none->Fa (Itl K l) (gdT K 2 [(gdN 0),(gdN 1)]) Bt (Aa 0) D (λH'=>R H' D) [none,none] (upd H D (.lst [])) E:=by
 intro D hD
 refine B0 (Aq (ds.map λx=>V.ref x.2)) (λm σ H'=>(∃a b,σ=[a,b])/\Same H H'/\H' D=some (A5 ((ds.take m).map (·.1.1)))) ⟨⟨_,_,rfl⟩,Same.upd hD,Ac⟩ (λm σ H' _ q=>q.2.1.seqL (SqL.of hl)) ?_ ?_
 .rintro m x σ H1 hx ⟨⟨a,b,rfl⟩,S1,eD⟩
  obtain⟨d,hm,rfl⟩:=Ak hx
  refine⟨_,.inl (SqT.of (S1 _ _ (hd d (ag hm)))),rfl,_,eD,?_,⟨_,_,rfl⟩,S1.set hD,?_⟩
  .rw[ae,ae,aJ]
   exact aG (show _<=1000 by omega) (by decide)
  .rw[Ac,Ax hm];unfold A5;rw[au];rfl
 .rintro σ H1 ⟨_,S1,eD⟩
  rw[ae,aO] at eD
  exact k D H1 S1 hD eD
theorem V7 {E:EK}{H:Hp}{l:Addr}{sw:Sw}{ds:List (((Str×List Str)×Addr)×Addr)}{R:Hp->Addr->Prop}(hw:okSw sw)(ed:ds.map (·.1.1)=sw)(hl:H l=some (.lst (ds.map λx=>.ref x.2)))(hd:∀x∈ds,H x.2=some (.tup [.str x.1.1.1,.ref x.1.2]))(k:∀D H',Same H H'->H D=none->H' D=some (A5 (sw.map (·.1)))->R H' D) :
  ∀D,H D=none->Fa (Itl K l) (gdT K 2 [(gdN 0),(gdN 1)]) Bt (Aa 0) D (λH'=>R H' D) [none,none] (upd H D (.lst [])) E:=by
 have len:ds.length=sw.length:=by rw[<- ed,ae]
 refine Xv (ds:=ds.map λx=>((x.1.1.1,V.ref x.1.2),x.2)) (by rw[hl,a_];rfl) (λx hx=>?_) (by rw[ae];have:=hw.2.1;omega) λD H' S fD eD=>k D H' S fD (by rw[eD,a_,<- ed,a_];rfl)
 obtain⟨y,hy,rfl⟩:=List.mem_map.mp hx
 exact hd y hy
theorem Xe(l:List Str):(l.map V.str).all Bv=true:=by rw[d9,aR];exact λ_ _=>rfl
theorem Gg {α β:Type}{f:α->Option β}{b:β}:∀ {l:List α} {k:Nat} {x:α},l[k]?=some x->(∀(j:Nat) y,j<k->l[j]?=some y->f y=none)->f x=some b->l.findSome? f=some b
 |[],_,_,h,_,_=>by simp at h
 | a::l,0,x,h,_,hb=>by
  have:a=x:=by simpa using h
  subst this
  rw[kQ,hb]
 | a::l,k+1,x,h,no,hb=>by
  rw[kQ,no 0 a (by omega) rfl]
  exact Gg (by simpa using h) (λj y hj hy=>no (j+1) y (by omega) (by simpa using hy)) hb
theorem cd5 {n b:Nat}{f:Nat->Nat->Bool}:Ch n 0 b f=false:=by
 unfold Ch
 rw[cH]
 intro i _
 rw[cF]
 exact av
theorem cd6 {n a:Nat}{f:Nat->Nat->Bool}:Ch n a 0 f=false:=by
 unfold Ch
 rw[cH]
 intro i _
 have:((aD n).any λj=>(0:Nat).testBit j&&f i j)=false:=by
  rw[cH]
  intro j _
  rw[cF]
  exact av
 rw[this,cw]
 exact av
theorem ab4 {sw:Sw}{n a b:Nat}(ha:a<2 ^ n)(hb:b<2 ^ n)(a0:a≠0)(b0:b≠0):Ch n a b (Bs sw [])=true:=by
 obtain⟨i,hi,ei⟩:=Wx ha a0
 obtain⟨j,hj,ej⟩:=Wx hb b0
 unfold Ch
 rw[be]
 refine⟨i,List.mem_range.mpr hi,?_⟩
 rw[ei,cX,be]
 refine⟨j,List.mem_range.mpr hj,?_⟩
 rw[ej]
 rfl
theorem Oj {sw:Sw}(hw:okSw sw){p:Nat}{x:Str×List Str}(hp:sw[p]?=some x){a b:Nat}{ws:List Str}:Ch (Ae sw).length a b (Bs sw (x.1::ws))=x.2.any λz=>Ch (Ae sw).length (a &&& Be (Ae sw) p z) (b &&& Be (Ae sw) p z) (Bs sw ws):=by
 have lk:∀i j,Bs sw (x.1::ws) i j=(decide (Ce sw i p=Ce sw j p)&&Bs sw ws i j):=λi j=>by
  unfold Bs
  rw[bv,Bm hp hw.2.2.1]
 unfold Ch
 rw[bu,be,be]
 constructor
 .rintro⟨i,hi,q⟩
  rw[ay,be] at q
  obtain⟨q1,j,hj,q2⟩:=q
  rw[ay,lk,ay] at q2
  have hi':=List.mem_range.mp hi
  obtain⟨l1,c1⟩:=D0 hi' hp
  have hz:x.2.getD (Dg sw i p) cJ∈x.2:=by
   rw[ar,af l1]
   exact bV l1
  generalize x.2.getD (Dg sw i p) cJ=z at hz c1
  have c2:Ce sw j p=some z:=by rw[<- of_decide_eq_true q2.2.1,c1]
  refine⟨z,hz,List.any_eq_true.mpr ⟨i,hi,?_⟩⟩
  rw[bi,q1,Eg,show Jw (Ae sw) p z i=true from decide_eq_true c1,cX,cX,be]
  refine⟨j,hj,?_⟩
  rw[bi,q2.1,Eg,show Jw (Ae sw) p z j=true from decide_eq_true c2,q2.2.2]
  rfl
 .rintro⟨z,hz,q⟩
  obtain⟨i,hi,q⟩:=List.any_eq_true.mp q
  rw[ay,bi,ay,Eg,be] at q
  obtain⟨⟨q1,q2⟩,j,hj,q3⟩:=q
  rw[ay,bi,ay,Eg] at q3
  refine⟨i,hi,?_⟩
  rw[q1,cX,be]
  refine⟨j,hj,?_⟩
  have e:Ce sw i p=Ce sw j p:=(of_decide_eq_true q2).trans (of_decide_eq_true q3.1.2).symm
  rw[q3.1.1,lk,decide_eq_true e,q3.2]
  rfl
theorem Ls {sw:Sw}{x:Str}(h:x∈sw.map (·.1)):∃(i:Nat)(e:Str×List Str),sw[i]?=some e/\x=e.1:=by
 obtain⟨i,hi⟩:=List.mem_iff_getElem?.mp h
 obtain⟨e,he,ex⟩:=Ak hi
 exact⟨i,e,he,ex⟩
theorem bs4(Z:Ar K t)(g:DOk K mg D_zay.q D_zay.st (t.f 8) (t.d 8) D_zay.ps)(T:Tab P w K mg base 1 (gbT (Bc K t) 1) bl):∀n,FnOk P w K mg base CX0 (1+n+1) (t.f 8) (t.d 8) D_zay.ps (Ly K t n):=by
 refine ay8 (N:=D_zay.N) (Ly K t) (cc7 K t) g (ScOk.fn (by decide +kernel)) (by decide +kernel) T 40 (λn=>by kernel_rfl) (λn vs H Q E h=>?_) (λvs H Q E h=>?_) (λn vs H Q E h=>?_)
 .obtain⟨p,l,a,b,ws,sw,ζ,rfl,_⟩:=h;rfl
 .obtain⟨p,l,a,b,ws,sw,ζ,_,_,_,_,_,_,h,_⟩:=h;exact absurd h (dm _)
 .obtain⟨p,l,a,b,ws,sw,ζ,rfl,hP,hw,ha,hb,hl,lw,n9,hin,kk⟩:=h
  refine Gj (λe=>?_) (λe=>?_)
  .have e:(a:Int)=0:=by simpa using e
   have e:a=0:=by omega
   subst e
   rw[cd5] at kk
   exact kk H (Same.refl _)
  have a0:¬ (a:Int)=0:=by simpa using e
  refine Gj (λe=>?_) (λe=>?_)
  .have e:(b:Int)=0:=by simpa using e
   have e:b=0:=by omega
   subst e
   rw[cd6] at kk
   exact kk H (Same.refl _)
  have b0:¬ (b:Int)=0:=by simpa using e
  refine⟨(show 0<=sizeLine by decide),λel hel=>?_⟩
  have S0:=Same.upd (o:=.lst []) hel
  have e0:upd H el (.lst []) el=some (.lst []):=Ac
  generalize upd H el (.lst [])=H0 at S0 e0 ⊢
  refine .inl ⟨l,el,_,_,rfl,rfl,SqL.of (S0 _ _ hl),SqL.of e0,Xe ws,rfl,?_⟩
  cases ws with
  |nil=>
   rw[ab4 ha hb (by omega) (by omega)] at kk
   exact kk H0 S0
  |cons y ws=>
   refine B4 (Ip (by rw[ae];exact λz=>by cases z)) ?_
   refine .inl ⟨_,SqL.of (S0 _ _ hl),λL hL=>?_⟩
   have SL:=Same.upd (o:=.lst (E6 ((y::ws).map V.str) (some 1) none)) hL
   have eL:upd H0 L (.lst (E6 ((y::ws).map V.str) (some 1) none)) L=some (A5 ws):=by
    rw[Ac,show (1:Int)=((1:Nat):Int) from rfl,G0];rfl
   show Ag _ _ _ [some (.ref p),some (.int (a:Int)),some (.int (b:Int)),some (.ref l),some (.ref L),none,none] _
   generalize upd H0 L (.lst (E6 ((y::ws).map V.str) (some 1) none))=H1 at SL eL ⊢
   have S1:=S0.trans SL
   obtain⟨i,x,hi,ex⟩:=Ls (hin y am)
   subst ex
   obtain⟨dx,d,la,nn,s,kx,bb,h⟩:=id hP
   refine⟨p,dx,_,⟨t.c_zbm,bo3 K t⟩,rfl,.head _,S1 _ _ h.ins.2,rfl,⟨aC rfl,aC rfl⟩,_,_,.inl (SqL.of (S1 _ _ hl)),A3 (j:=0) rfl,p,i,x,sw,ζ,rfl,hP.mono (Kp.same S1),hw,hi,λH2 r S2 ⟨Ts,er,et,tw⟩=>?_⟩
   rw[ae] at et
   refine .inl ⟨⟨_,SqL.of er⟩,?_⟩
   refine Ba (Aq (Ts.map V.ref)) (λm σ H'=>(∃v5 v6,σ=[some (.ref p),some (.int (a:Int)),some (.int (b:Int)),some (.ref l),some (.ref L),v5,v6])/\Same H2 H'/\∀(j:Nat) z,j<m->x.2[j]?=some z->Ch (Ae sw).length (a &&& Be (Ae sw) i z) (b &&& Be (Ae sw) i z) (Bs sw ws)=false)
    ⟨⟨_,_,rfl⟩,Same.refl _,λj z hj=>absurd hj (dm _)⟩ (λm σ H' _ q=>q.2.1.seqL (SqL.of er)) ?_ ?_
   .rintro m v σ H3 hv ⟨⟨v5,v6,rfl⟩,S3,no⟩
    obtain⟨T,hT,rfl⟩:=Ak hv
    have hz:x.2[m]?=some (x.2[m]'(by rw[<- et];exact Al hT)):=af _
    generalize x.2[m]'(by rw[<- et];exact Al hT)=z at hz
    have tT:=tw m (.str z) (.int (Cr (Ae sw) i z)) T (by rw[aj,hz];rfl) hT
    have S13:=S2.trans S3
    refine⟨_,.inl (SqT.of (S3 _ _ tT)),rfl,p,L,a &&& Be (Ae sw) i z,b &&& Be (Ae sw) i z,ws,sw,ζ,?_,hP.mono (Kp.same (S1.trans S13)),hw,F9 ha,F9 hb,S13 _ _ eL,?_,by omega,λy hy=>hin y (aq _ hy),λH4 S4=>?_⟩
    .show [V.ref p,.int (aX (a:Int) (Cr (Ae sw) i z)),.int (aX (b:Int) (Cr (Ae sw) i z)),.ref L]=_
     rw[J0,A7,A7]
    .have:(x.1::ws).length<n+1:=lw
     rw[aN] at this
     omega
    cases e:Ch (Ae sw).length (a &&& Be (Ae sw) i z) (b &&& Be (Ae sw) i z) (Bs sw ws) with
    |true=>
     rw[Oj hw hi,List.any_eq_true.mpr ⟨z,ag hz,e⟩] at kk
     exact kk H4 ((S1.trans S13).trans S4)
    |false=>
     refine⟨⟨_,_,rfl⟩,S3.trans S4,λj z' hj hz'=>?_⟩
     rcases eY j m with q|q
     .exact no j z' q hz'
     .have:j=m:=by omega
      subst this
      rw[hz] at hz'
      rw[<- aM hz']
      exact e
   .rintro σ H3 ⟨⟨v5,v6,rfl⟩,S3,no⟩
    rw[ae,et] at no
    have e:(x.2.any λz=>Ch (Ae sw).length (a &&& Be (Ae sw) i z) (b &&& Be (Ae sw) i z) (Bs sw ws))=false:=by
     rw[cH]
     intro z hz
     obtain⟨j,hj⟩:=List.mem_iff_getElem?.mp hz
     rw[no j z (Al hj) hj]
     exact av
    rw[Oj hw hi,e] at kk
    exact .inl (kk H3 ((S1.trans S2).trans S3))
theorem R6 {α:Type}{p:α->Bool}:∀ {l:List α} {j:Nat} {x:α},l[j]?=some x->p x=true->(∀(j':Nat) y,j'<j->l[j']?=some y->p y=false)->l.find? p=some x
 |[],_,_,h,_,_=>by simp at h
 | a::l,0,x,h,hp,_=>by
  have:a=x:=by simpa using h
  subst this
  rw[bR,hp]
 | a::l,j+1,x,h,hp,no=>by
  rw[bR,no 0 a (by omega) rfl]
  exact R6 (by simpa using h) hp λj' y hj hy=>no (j'+1) y (by omega) (by simpa using hy)
theorem Zp {α:Type}{p:α->Bool}{l:List α}(no:∀(j:Nat) y,l[j]?=some y->p y=false):l.find? p=none:=by
 rw[fW]
 intro y hy q
 obtain⟨j,hj⟩:=List.mem_iff_getElem?.mp hy
 rw[no j y hj] at q
 cases q
theorem Xd {α:Type}{l:List α}{k j:Nat}{x:List α}{p:List α->Bool}(hk:k<l.length)(hj:(A0 k l)[j]?=some x)(hp:p x=true)(n1:∀k',k'<k -> ∀y∈A0 k' l,p y=false)(n2:∀(j':Nat) y,j'<j->(A0 k l)[j']?=some y->p y=false):(Bq l).find? p=some x:=by
 unfold Bq
 rw[List.find?_flatMap]
 refine Gg (k:=k) (x:=k) (by rw[cD hk]) (λk' y hk' hy=>?_) (R6 hj hp n2)
 rw[cD (by omega)] at hy
 cases hy
 exact Zp λi z hz=>n1 _ hk' z (ag hz)
theorem Ov {α:Type}{l:List α}{p:List α->Bool}(n1:∀k',k'<l.length -> ∀y∈A0 k' l,p y=false):(Bq l).find? p=none:=by
 rw[fW]
 intro y hy q
 unfold Bq at hy
 obtain⟨k,hk,hy⟩:=List.mem_flatMap.mp hy
 rw[n1 k (List.mem_range.mp hk) y hy] at q
 cases q
theorem br5(Z:Ar K t):OkD K al4 (Bc K t) bl (t.f 9) (t.d 9) (Yp K t):=by
 refine Bn (cb8 K t) λvs H Q E h=>?_
 .obtain⟨p,c,w,sw,ζ,rfl,hP,hw,hc,hww,k⟩:=h;refine⟨rfl,?_⟩
  obtain⟨dx,d,l,n,s,kk,b,h⟩:=id hP
  have l5:=hw.2.1
  refine⟨p,dx,_,⟨t.c_zbm,bo2 K t⟩,rfl,.head _,h.ins.2,rfl,⟨aC rfl,aC rfl⟩,p,sw,ζ,rfl,hP,hw,λH1 q ds S1 fq ed eq hd=>?_⟩
  refine .inl ⟨⟨_,SqL.of eq⟩,?_⟩
  refine V7 hw ed eq (λx hx=>(hd x hx).1) λD H2 S2 fD eD=>?_
  have S:=S1.trans S2
  have ln:(sw.map (·.1)).length=sw.length:=ae _
  refine .inl ⟨_,.inl (SqL.of eD),?_⟩
  rw[ae,ln]
  refine⟨⟨by omega,by omega⟩,?_⟩
  rw[aI]
  refine Ba (Bz 0 sw.length) (λm σ H'=>(∃v4 v5,σ=[some (.ref p),some (.int (c:Int)),some (.int (w:Int)),some (.ref D),v4,v5])/\Same H2 H'/\∀k',k'<m -> ∀y∈A0 k' (sw.map (·.1)),(!Ch (Ae sw).length (c &&& w) (Bu w c) (Bs sw y))=false)
   ⟨⟨_,_,rfl⟩,Same.refl _,λk' hk=>absurd hk (dm _)⟩ (λ_ _ _ _ _=>ba) ?_ ?_
  .rintro m x σ H3 hx ⟨⟨v4,v5,rfl⟩,S3,no⟩
   obtain⟨hm,rfl⟩:=Ds hx
   refine⟨D,m,sw.map (·.1),rfl,S3 _ _ eD,by omega,by omega,λH4 r S4 ⟨es,ee,⟨_,er⟩,he⟩=>?_⟩
   refine .inl ⟨⟨_,SqL.of er⟩,?_⟩
   refine Ba (Aq (es.map λx=>V.ref x.2)) (λj σ H'=>(∃v5,σ=[some (.ref p),some (.int (c:Int)),some (.int (w:Int)),some (.ref D),some (.int (m:Int)),v5])/\Same H4 H'/\∀(j':Nat) y,j'<j->(A0 m (sw.map (·.1)))[j']?=some y->(!Ch (Ae sw).length (c &&& w) (Bu w c) (Bs sw y))=false)
    ⟨⟨_,rfl⟩,Same.refl _,λj' y hj=>absurd hj (dm _)⟩ (λj σ H' _ q=>q.2.1.seqL (SqL.of er)) ?_ ?_
   .rintro j v σ H5 hv ⟨⟨v5,rfl⟩,S5,no2⟩
    obtain⟨⟨ws,e⟩,hj,rfl⟩:=Ak hv
    have hj2:(A0 m (sw.map (·.1)))[j]?=some ws:=by rw[<- ee,aj,hj];rfl
    obtain⟨p1,p2⟩:=Fn m _ ws (ag hj2)
    obtain⟨fe,oe⟩:=he _ (ag hj)
    have S25:=(S3.trans S4).trans S5
    refine⟨p,e,c &&& w,Bu w c,ws,sw,ζ,?_,hP.mono (Kp.same (S.trans S25)),hw,F9 hc,Zz hww,S5 _ _ oe,by omega,by omega,p2,λH6 S6=>?_⟩
    .show [V.ref p,.int (aX (c:Int) (w:Int)),.int (aX (w:Int) (bw (c:Int))),.ref e]=_
     rw[Vm,A7]
    cases eu:Ch (Ae sw).length (c &&& w) (Bu w c) (Bs sw ws) with
    |false=>
     have ed2:Cb sw c w=ws:=by
      unfold Cb
      rw[Xd (k:=m) (j:=j) (x:=ws) (by rw[ln];exact hm) hj2 (by rw[eu];rfl) no no2]
      rfl
     refine k H6 e ((S.trans S25).trans S6) ((S.trans S3).free fe) ?_
     rw[ed2]
     exact S6 _ _ (S5 _ _ oe)
    |true=>
     refine⟨⟨_,rfl⟩,S5.trans S6,λj' y hj' hy=>?_⟩
     rcases eY j' j with q|q
     .exact no2 j' y q hy
     .have:j'=j:=by omega
      subst this
      rw[hj2] at hy
      rw[<- aM hy,eu]
      rfl
   .rintro σ H5 ⟨⟨v5,rfl⟩,S5,no2⟩
    have le:es.length=(A0 m (sw.map (·.1))).length:=by rw[<- ee,ae]
    rw[ae,le] at no2
    refine .inl ⟨⟨_,_,rfl⟩,(S3.trans S4).trans S5,λk' hk' y hy=>?_⟩
    rcases eY k' m with q|q
    .exact no k' q y hy
    .have:k'=m:=by omega
     subst this
     obtain⟨j,hj⟩:=List.mem_iff_getElem?.mp hy
     exact no2 j y (Al hj) hj
  .rintro σ H3 ⟨⟨v4,v5,rfl⟩,S3,no⟩
   rw[Bh] at no
   have ed2:Cb sw c w=sw.map (·.1):=by
    unfold Cb
    rw[Ov (by rw[ln];exact no)]
    rfl
   refine .inl (k H3 D (S.trans S3) (S1.free fD) ?_)
   rw[ed2]
   exact S3 _ _ eD
end
section
theorem B8 {xs:List Int}{j:Nat}(h:j<xs.length):atI (xs.map V.int) (j:Int)=some (.int (xs.getD j 0)):=by
 refine A3 ?_
 rw[aj,ar,af h]
 rfl
theorem bs6(Z:Ar K t):OkD K am4 (Bc K t) bl (t.f 32) (t.d 32) (Fq K t):=by
 refine Bn (cc9 K t) λvs H Q E h=>?_
 .obtain⟨r,l,d,xs,m,rfl,hr,dne,d4,hl,mx,m3,k⟩:=h;refine⟨rfl,?_⟩
  have dp:0<d.length:=List.length_pos_iff.mpr dne
  refine⟨⟨by omega,by omega⟩,?_⟩
  rw[aI]
  refine Ba (Bz 0 m) (λi σ H'=>(∃(key:Int)(v:Option V),σ=[some (.ref r),some (.ref l),some (.int (m:Int)),some (.int key),v]/\0<=key/\key<4 ^ i)/\H'=H) ⟨⟨0,_,rfl,by omega,by decide⟩,rfl⟩ (λ_ _ _ _ _=>ba) ?_ ?_
  .rintro i x σ H1 hx ⟨⟨key,v,rfl,k0,k4⟩,rfl⟩
   obtain⟨hi,rfl⟩:=Ds hx
   have q0:=bQ (xs.getD i 0) (show ((d.length:Nat):Int)≠0 by omega)
   have q1:=bN (xs.getD i 0) (show (0:Int)<((d.length:Nat):Int) by omega)
   obtain⟨q,hq⟩:∃q:Nat,xs.getD i 0 % ((d.length:Nat):Int)=(q:Int):=⟨(xs.getD i 0 % ((d.length:Nat):Int)).toNat,by omega⟩
   have ql:q<d.length:=by omega
   refine⟨.inl ⟨by decide,by decide⟩,_,_,.inl (SqL.of hl),B8 (by omega),.inl ⟨_,.inl (SqL.of hr),?_⟩⟩
   rw[ae]
   refine⟨by omega,_,.int ((d[q]'ql:Nat):Int),.inl (SqL.of hr),?_,?_⟩
   .rw[hq]
    refine A3 ?_
    rw[aj,af ql]
    rfl
   .have:=d4 _ (bV ql)
    generalize d[q]'ql=z at this ⊢
    refine⟨⟨_,_,rfl,by omega,?_⟩,rfl⟩
    rw[Int.pow_succ]
    omega
  .rintro σ H1 ⟨⟨key,v,rfl,k0,k4⟩,rfl⟩
   rw[Bh] at k4
   refine .inl (k key k0 ?_)
   have:m=0\/m=1\/m=2\/m=3:=by omega
   rcases this with rfl|rfl|rfl|rfl
   .have:(4:Int) ^ 0=1:=by decide
    omega
   .have:(4:Int) ^ 1=4:=by decide
    omega
   .have:(4:Int) ^ 2=16:=by decide
    omega
   .have:(4:Int) ^ 3=64:=by decide
    omega
noncomputable def ls6(K:ac)(t:Adr):DS:=Ag (dIf (Ee K (Aa 5)) (Ag (Ao 3 (Ad Vw (Aa 3) (Ad Fu (dC (.int 1)) (Aa 4))))     Af) Af) Af
noncomputable def ls5(K:ac)(t:Adr):DS:=(Ag (dIf (Os (Au (Ad (Av K false) (Ad Ay (Ad (An K) v2_ (m_ 0)) (m_ 6)) (m_ 5))) (Au (Ad ah3 (Ad Ay (Ad (An K) v2_ (m_ 5)) (m_ 3)) (m_ 0)))) (Ag (Ao 5 (Ad (Av K false) (Ad Ay (Ad (An K) v2_ (m_ 5)) (m_ 3)) (m_ 1))) Af) Af) (ls6 K t))
noncomputable def ls4(K:ac)(t:Adr):DS:=(Ag (dIf (Au (Ad (Av K false) (Ad Ay (Ad (An K) v2_ (m_ 0)) (m_ 6)) (m_ 4))) (Ag (Ao 5 (Ad (Av K false) (Ad (Av K false) v4_ (Ad Ay (Ad (An K) v2_ (m_ 4)) (r_  (B9 K) (n_ v0_)))) (Ad (Av K false) (Ad Ay (Ad (An K) v2_ (m_ 5)) (m_ 2)) (m_ 1)))) Af) Af) (ls5 K t))
noncomputable def ls3(K:ac)(t:Adr):DS:=(Ag (dIf (Au (Ad (Av K false) (Ad Ay (Ad (An K) v2_ (m_ 0)) (m_ 6)) (m_ 3))) (Ag (Ao 6 (Ad (Bg K) (Ad (Bg K) (Ad (Cu K) (Ad (An K) v2_ (m_ 4)) (Ad Q7 (m_ 2) (m_ 56))) (Ad (Cu K) (Ad (An K) v2_ (m_ 5)) (Ad Q7 (m_ 2) (m_ 28)))) (Ad (An K) v2_ (m_ 6)))) (Ag (Ao 5 (Ad (Av K false) (Ad By (Ad E3 v6_ (q_ (Fq K t) (p_ (Ad (An K) v0_ v4_) (dSl K v2_ (Dp (m_ 1)) Cl) (m_ 3)))) (m_ 1)) (m_ 1))) Af)) Af) (ls4 K t))
noncomputable def ls2(K:ac)(t:Adr):DS:=(Ag (dIf (Au (Ad (Av K false) (Ad Ay (Ad (An K) v2_ (m_ 0)) (m_ 6)) (m_ 2))) (Ag (Ao 5 (Ad (Av K false) (Ad By (Ad E3 (Ad (An K) v2_ (m_ 4)) (q_ (Fq K t) (p_ (Ad (An K) v0_ v4_) (dSl K v2_ (Dp (m_ 1)) Cl) (m_ 2)))) (m_ 1)) (m_ 1))) Af) Af) (ls3 K t))
noncomputable def ls1(K:ac)(t:Adr):DS:=(Ag (dIf (Au (Ad (Av K false) (Ad Ay (Ad (An K) v2_ (m_ 0)) (m_ 6)) (m_ 1))) (Ag (Ao 5 (Ad (Av K false) (Ad By (Ad E3 (Ad (An K) v2_ (m_ 4)) (q_ (Fq K t) (p_ (Ad (An K) v0_ v4_) (dSl K v2_ (Dp (m_ 1)) Cl) (m_ 1)))) (m_ 1)) (m_ 1))) Af) Af) (ls2 K t))
noncomputable abbrev lsσ(r l:Addr)(c:Int)(f m:Nat)(b:Bool)(v:Option V):St:=[some (.ref r),some (.int c),some (.ref l),some (.int (f:Int)),some (.int (m:Int)),some (.bl b),v]
structure LsK (r l:Addr) (ds:List (List Nat×Addr)) (xs:List Int) (H1 H':Hp):Prop where
 S:Same H1 H'
 er:H' r=some (.lst (ds.map λx=>.ref x.2))
 ed:∀x∈ds,H' x.2=some (nO x.1)
 el:H' l=some (.lst (xs.map V.int))
theorem LsK.up(h:LsK r l ds xs H1 H2)(S:Same H2 H3):LsK r l ds xs H1 H3:=⟨h.S.trans S,S _ _ h.er,λx hx=>S _ _ (h.ed x hx),S _ _ h.el⟩
theorem bu4(f m:Nat):cB (f:Int) (1 * 2 ^ ((m:Int)).toNat)=((f ||| 2 ^ m:Nat):Int):=by
 rw[dP,aI,C1,C5]
theorem b78(h:f<2 ^ m):f ||| 2 ^ m<2 ^ (m+1):=Nat.or_lt_two_pow (aL h (cA (by decide) (dQ _))) (Nat.pow_lt_pow_right (by decide) (dz _))
theorem lw {b1:Bool}{A B X:Prop}(hx:A->B->X)(a:A)(b:B):if b1=true then X else (if false=true then A else B):=by
 cases b1
 .exact Ew (Ew b)
 .exact Fc (hx a b)
theorem bn0 {b2 b3:Bool}{A B:Prop}(a:A)(b:B):if b2=true then (if (!b3)=true then A else B) else (if (!false)=true then A else B):=by
 cases b2 <;> cases b3 <;> first|exact Ew (Fc a)|exact Fc (Ew b)|exact Fc (Fc a)
theorem J4 {b:Bool}{A B:Prop}(a:A)(b':B):if b=true then A else B:=by
 cases b
 .exact Ew b'
 .exact Fc a
section
variable {r l:Addr} {c:Int} {f m:Nat} {ds:List (List Nat×Addr)} {xs:List Int} {H1:Hp} {D:Outs} {e:List Nat×Addr}
theorem Xm {n:Nat}{b:Bool}{v:Option V}{H3:Hp}{Q:VK}{E:EK}(hn:n<=3)(h:LsK r l ds xs H1 H3)(hm:ds[m]?=some e)(dne:e.1≠[])(d4:∀j∈e.1,j<4)(lx:xs.length=8)(k:∀(j:Int) H4,0<=j->LsK r l ds xs H1 H4->Q (.int j) H4) :
  dFn (spE (Fq K t) []) (Ab (Ad (An K) (Aa 0) (Aa 4)) (Ab (dSl K (Aa 2) (Dp (dC (.int 1))) Cl) (Ab (dC (.int (n:Int))) Ah))) (lsσ r l c f m b v) H3 Q E:=by
 refine⟨_,_,.inl (SqL.of h.er),A3 (j:=m) (by rw[aj,hm];rfl),.inl ⟨_,SqL.of h.el,λL hL=>?_⟩⟩
 have SL:=Same.upd (o:=.lst (E6 (xs.map V.int) (some 1) none)) hL
 have eL:upd H3 L (.lst (E6 (xs.map V.int) (some 1) none)) L=some (.lst ((xs.drop 1).map V.int)):=by
  rw[Ac,show (1:Int)=((1:Nat):Int) from rfl,G0,k_]
 generalize upd H3 L (.lst (E6 (xs.map V.int) (some 1) none))=H4 at SL eL ⊢
 exact⟨e.2,L,e.1,xs.drop 1,n,rfl,SL _ _ (h.ed e (ag hm)),dne,d4,eL,by rw[cN];omega,hn,λj j0 _=>k j H4 j0 (h.up SL)⟩
variable (hD:∀(f':Nat)(b:Bool)(v:Option V)(H3:Hp),f'<2 ^ (m+1)->LsK r l ds xs H1 H3->D.nx (lsσ r l c f' m b v) H3) (hf:f<2 ^ m) (m256:m<256) (lx:xs.length=8) (hm:ds[m]?=some e) (dne:e.1≠[]) (d4:∀j∈e.1,j<4)
include hD hf m256
theorem at0(b:Bool)(v:Option V)(H3:Hp)(h:LsK r l ds xs H1 H3):ls6 K t D (lsσ r l c f m b v) H3:=by
 have h0:=hD f b v H3 (aL hf (cA (by decide) (dQ _))) h
 cases b with
 |true=>
  refine⟨⟨by omega,by omega,by decide⟩,?_⟩
  show D.nx [some (.ref r),some (.int c),some (.ref l),some (.int (cB (f:Int) (1 * 2 ^ ((m:Int)).toNat))),some (.int (m:Int)),some (.bl true),v] H3
  rw[bu4]
  exact hD (f ||| 2 ^ m) true v H3 (b78 hf) h
 |false=>exact h0
include lx
theorem as9(b:Bool)(v:Option V)(H3:Hp)(h:LsK r l ds xs H1 H3):ls5 K t D (lsσ r l c f m b v) H3:=by
 refine⟨_,_,.inl (SqL.of h.el),B8 (j:=0) (by omega),by decide,lw (λa b=>⟨_,_,.inl (SqL.of h.el),B8 (j:=5) (by omega),by decide,J4 a b⟩) ?_ ?_⟩
 .exact⟨_,_,.inl (SqL.of h.el),B8 (j:=5) (by omega),by decide,at0 (K:=K) (t:=t) hD hf m256 _ v H3 h⟩
 .exact at0 (K:=K) (t:=t) hD hf m256 b v H3 h
include hm
theorem as8(b:Bool)(v:Option V)(H3:Hp)(h:LsK r l ds xs H1 H3):ls4 K t D (lsσ r l c f m b v) H3:=by
 have dp:0<ds.length:=aG (bZ m) (Al hm)
 refine⟨_,_,.inl (SqL.of h.el),B8 (j:=0) (by omega),by decide,J4 ?_ ?_⟩
 .refine⟨_,_,.inl (SqL.of h.el),B8 (j:=4) (by omega),.inl ⟨_,.inl (SqL.of h.er),?_⟩⟩
  rw[ae]
  exact⟨by omega,_,_,.inl (SqL.of h.el),B8 (j:=5) (by omega),by decide,as9 (K:=K) (t:=t) hD hf m256 lx _ v H3 h⟩
 .exact as9 (K:=K) (t:=t) hD hf m256 lx b v H3 h
include dne d4
theorem as7(b:Bool)(v:Option V)(H3:Hp)(h:LsK r l ds xs H1 H3):ls3 K t D (lsσ r l c f m b v) H3:=by
 refine⟨_,_,.inl (SqL.of h.el),B8 (j:=0) (by omega),by decide,J4 ?_ ?_⟩
 .refine⟨_,_,.inl (SqL.of h.el),B8 (j:=4) (by omega),⟨by decide,by decide,by decide⟩,.inr ⟨by decide,by decide⟩,_,_,.inl (SqL.of h.el),B8 (j:=5) (by omega),⟨by decide,by decide,by decide⟩,.inr ⟨by decide,by decide⟩,_,_,.inl (SqL.of h.el),B8 (j:=6) (by omega),?_⟩
  refine Xm (n:=3) (by decide) h hm dne d4 lx λj H4 j0 h4=>⟨j0,as8 (K:=K) (t:=t) hD hf m256 lx hm _ _ H4 h4⟩
 .exact as8 (K:=K) (t:=t) hD hf m256 lx hm b v H3 h
theorem as6(b:Bool)(v:Option V)(H3:Hp)(h:LsK r l ds xs H1 H3):ls2 K t D (lsσ r l c f m b v) H3:=by
 refine⟨_,_,.inl (SqL.of h.el),B8 (j:=0) (by omega),by decide,J4 ?_ ?_⟩
 .refine⟨_,_,.inl (SqL.of h.el),B8 (j:=4) (by omega),?_⟩
  exact Xm (n:=2) (by decide) h hm dne d4 lx λj H4 j0 h4=>⟨j0,as7 (K:=K) (t:=t) hD hf m256 lx hm dne d4 _ _ H4 h4⟩
 .exact as7 (K:=K) (t:=t) hD hf m256 lx hm dne d4 b v H3 h
theorem bp3(b:Bool)(v:Option V)(H3:Hp)(h:LsK r l ds xs H1 H3):ls1 K t D (lsσ r l c f m b v) H3:=by
 refine⟨_,_,.inl (SqL.of h.el),B8 (j:=0) (by omega),by decide,J4 ?_ ?_⟩
 .refine⟨_,_,.inl (SqL.of h.el),B8 (j:=4) (by omega),?_⟩
  exact Xm (n:=1) (by decide) h hm dne d4 lx λj H4 j0 h4=>⟨j0,as6 (K:=K) (t:=t) hD hf m256 lx hm dne d4 _ _ H4 h4⟩
 .exact as6 (K:=K) (t:=t) hD hf m256 lx hm dne d4 b v H3 h
end
theorem a75 {sw:Sw}(hw:okSw sw){d:List Nat}(hd:d∈Cc sw):d≠[]/\∀j∈d,j<4:=by
 have hl:=Ln d hd
 have h1:=hw.1
 refine⟨λe=>by rw[e] at hl;simp at hl;omega,λj hj=>?_⟩
 obtain⟨p,hp⟩:=List.mem_iff_getElem?.mp hj
 have hs:p<sw.length:=by rw[<- hl];exact Al hp
 have hx:sw[p]?=some (sw[p]'hs):=af _
 obtain⟨j',e,lt⟩:=Mr hd hx
 rw[hp] at e
 rw[aM e]
 have:=(hw.sets _ (ag hx)).2.2
 omega
theorem bs7(Z:Ar K t):OkD K am5 (Bc K t) bl (t.f 33) (t.d 33) (Nu K t):=by
 refine Bn (cd0 K t) λvs H Q E h=>?_
 .obtain⟨r,c,sw,rfl,⟨ds,ed,er,hd⟩,hw,k⟩:=h;refine⟨rfl,?_⟩
  have ln:ds.length=(Ae sw).length:=by rw[Dl,ae,<- ed,ae]
  have n256:=hw.len
  have lnV:(ds.map λx=>V.ref x.2).length=(Ae sw).length:=by rw[ae,ln]
  refine⟨by decide,lw (λa b=>⟨⟨by decide,by decide⟩,.inl ⟨_,.inl (SqL.of er),⟨by omega,bn0 a b⟩⟩⟩) ?_ ?_⟩
  .refine⟨⟨by decide,by decide⟩,.inl ⟨_,.inl (SqL.of er),?_⟩⟩
   rw[lnV]
   have p0:(0:Int)<1 * 2 ^ (((Ae sw).length:Int)).toNat:=by
    rw[dP,aI,C1]
    exact Int.natCast_pos.mpr (f7 _)
   refine⟨⟨by omega,by omega,by decide⟩,p0,?_⟩
   rw[dP,aI,C1]
   have q0:=bQ (c / 2) (show ((2 ^ (Ae sw).length:Nat):Int)≠0 by have:=f7 (Ae sw).length;omega)
   have q1:=bN (c / 2) (show (0:Int)<((2 ^ (Ae sw).length:Nat):Int) by have:=f7 (Ae sw).length;omega)
   have qe:c / 2 % ((2 ^ (Ae sw).length:Nat):Int)=(((c / 2 % ((2 ^ (Ae sw).length:Nat):Int)).toNat:Nat):Int):=by omega
   show Q (.int (c / 2 % ((2 ^ (Ae sw).length:Nat):Int))) H
   rw[qe]
   exact k H _ (Same.refl _) (by omega)
  .refine⟨⟨by decide,by decide⟩,c / 2,8,rfl,by decide,λH1 l xs S1 fl el lx nn=>?_⟩
   refine .inl ⟨_,.inl (SqL.of (S1 _ _ er)),?_⟩
   rw[lnV]
   refine⟨⟨by omega,by omega⟩,?_⟩
   rw[aI]
   refine Ba (Bz 0 (Ae sw).length) (λm σ H'=>(∃(f:Nat)(v4 v5 v6:Option V),σ=[some (.ref r),some (.int c),some (.ref l),some (.int (f:Int)),v4,v5,v6]/\f<2 ^ m)/\LsK r l ds xs H1 H')
    ⟨⟨0,_,_,_,rfl,by decide⟩,Same.refl _,S1 _ _ er,λx hx=>S1 _ _ (hd x hx),el⟩ (λ_ _ _ _ _=>ba) ?_ ?_
   .rintro m x σ H2 hx ⟨⟨f,v4,v5,v6,rfl,hf⟩,h2⟩
    obtain⟨hm,rfl⟩:=Ds hx
    obtain⟨e,he⟩:∃e,ds[m]?=some e:=⟨_,af (by omega)⟩
    obtain⟨d1,d2⟩:=a75 hw (show e.1∈Cc sw by rw[<- ed];exact List.mem_map.mpr ⟨e,ag he,rfl⟩)
    refine⟨_,_,.inl (SqL.of h2.el),B8 (j:=4) (by omega),.inl ⟨by decide,by decide⟩,.inr ⟨by decide,by decide⟩,by decide,by decide,by decide,?_⟩
    refine bp3 (K:=K) (t:=t) ?_ hf (by omega) lx he d1 d2 _ _ H2 h2
    exact λf' b v H3 hf' h3=>⟨⟨f',_,_,_,rfl,hf'⟩,h3⟩
   .rintro σ H2 ⟨⟨f,v4,v5,v6,rfl,hf⟩,h2⟩
    rw[Bh] at hf
    exact .inl (k H2 f (S1.trans h2.S) hf)
theorem bq3(Z:Ar K t):OkD K ak3 (Bc K t) bl (t.f 34) (t.d 34) (Yg K t):=by
 refine Bn (ca7 K t) λvs H Q E h=>?_
 .obtain⟨r,c,sw,rfl,hr,hw,k⟩:=h;refine⟨rfl,?_⟩
  refine⟨by decide,J4 ?_ ?_⟩
  .obtain⟨ds,ed,er,hd⟩:=hr
   have ln:(ds.map λx=>V.ref x.2).length=(Ae sw).length:=by rw[ae,Dl,ae,<- ed,ae]
   have n256:=hw.len
   refine .inl ⟨_,.inl (SqL.of er),?_⟩
   rw[ln]
   refine⟨⟨by omega,by omega,by decide⟩,?_⟩
   have p:=f7 (Ae sw).length
   have e:(1 * 2 ^ (((Ae sw).length:Int)).toNat - 1:Int)=((2 ^ (Ae sw).length - 1:Nat):Int):=by
    rw[dP,aI,C1]
    omega
   show Q (.int (1 * 2 ^ (((Ae sw).length:Int)).toNat - 1)) H
   rw[e]
   exact k H _ (Same.refl _) (by omega)
  .exact⟨⟨by decide,by decide⟩,r,c / 2,sw,rfl,hr,hw,k⟩
end
section
theorem P9(c m:Nat):(aD (m+1)).filter (λj=>c.testBit j)=(aD m).filter (λj=>c.testBit j)++(if c.testBit m=true then [m] else []):=by
 rw[dj,k9,List.filter_cons]
 rfl
def Dj(n b:Nat):List Nat:=(aD n).filter λa=>b.testBit a
def K1(n b:Nat):Int×List Int:=(((Dj n b).length:Int),(Dj n b).map λa:Nat=>(a:Int))
def Sf(n:Nat):List (Int×List Int):=(aD (2 ^ n)).map (K1 n)
theorem be9(n:Nat)(h1:1<=n)(h5:n<=5):∃p:Array Nat,PySem.W.kRun (2 ^ n) (at5 (Sf n)) (fB (2 ^ n))=some p/\p.toList.length=2 ^ n/\(p.toList.all λi=>decide (i<2 ^ n))=true/\p.toList.map (Dj n)=Ea n:=by
 have:n=1\/n=2\/n=3\/n=4\/n=5:=by omega
 rcases this with rfl|rfl|rfl|rfl|rfl
 .exact⟨#[0,1],by kernel_rfl,rfl,by decide,by decide +kernel⟩
 .exact⟨#[0,1,2,3],by kernel_rfl,rfl,by decide,by decide +kernel⟩
 .exact⟨#[0,1,2,4,3,5,6,7],by kernel_rfl,rfl,by decide,by decide +kernel⟩
 .exact⟨#[0,1,2,4,8,3,5,9,6,10,12,7,11,13,14,15],by kernel_rfl,rfl,by decide,by decide +kernel⟩
 .exact⟨#[0,1,2,4,8,16,3,5,9,17,6,10,18,12,20,24,7,11,19,13,21,25,14,22,26,28,15,23,27,29,30,31],by kernel_rfl,rfl,by decide,by decide +kernel⟩
theorem Vs {E:EK}{H:Hp}{n m:Nat}{R:Hp->Addr->Prop}(hn:n<=5)(k:∀D H',Same H H'->H D=none->H' D=some (nO (Dj n m))->R H' D) :
  ∀D,H D=none->Fa (Itr 0 n) (gdN 0) (Au (Ad (Av K false) (Ad By (Ad E3 (Aa 1) (Aa 0)) (dC (.int 1))) (dC (.int 1)))) (Aa 0) D (λH'=>R H' D) [none,some (.int (m:Int))] (upd H D (.lst [])) E:=by
 intro D hD
 refine B0 (Bz 0 n) (λi σ H'=>(∃v,σ=[v,some (.int (m:Int))])/\Same H H'/\H' D=some (nO ((aD i).filter λa=>m.testBit a))) ⟨⟨_,rfl⟩,Same.upd hD,Ac⟩ (λ_ _ _ _ _=>ba) ?_ ?_
 .rintro i x σ H1 hx ⟨⟨v,rfl⟩,S1,eD⟩
  obtain⟨hi,rfl⟩:=Ds hx
  refine⟨by omega,?_⟩
  show if decide (aX ((m:Int) / 2 ^ ((i:Int)).toNat) 1=1)=true then _ else _
  rw[Mj]
  cases e:m.testBit i with
  |true=>
   refine Fc ⟨_,eD,?_,⟨_,rfl⟩,S1.set hD,?_⟩
   .rw[ae]
    have:=j4 (λj=>m.testBit j) (aD i)
    rw[bn] at this
    exact aL (show _<6 by omega) (by decide)
   .rw[Ac,P9,if_pos e]
    unfold nO
    rw[au]
    rfl
  |false=>exact Ew ⟨⟨_,rfl⟩,S1,by rw[P9,if_neg (by rw[e];exact av),b7];exact eD⟩
 .rintro σ H1 ⟨_,S1,eD⟩
  rw[Bh] at eD
  exact k D H1 S1 hD eD
theorem bq7(Z:Ar K t):OkD K ak6 (Bc K t) bl (t.f 38) (t.d 38) (Yk K t):=by
 refine Bn (cb0 K t) λvs H Q E h=>?_
 .obtain⟨n,rfl,h1,h5,k⟩:=h;refine⟨rfl,?_⟩
  refine⟨(show 0<=sizeLine by decide),λD hD=>?_⟩
  have S0:=Same.upd (o:=.lst []) hD
  have e0:upd H D (.lst []) D=some (.lst []):=Ac
  generalize upd H D (.lst [])=H0 at S0 e0 ⊢
  have p32:2 ^ n<=32:=cA (j:=5) (show 2 > 0 by decide) h5
  have p2:2<=2 ^ n:=cA (i:=1) (show 2 > 0 by decide) h1
  have en:(1 * 2 ^ ((n:Int)).toNat:Int)=((2 ^ n:Nat):Int):=by rw[dP,aI,C1]
  refine⟨⟨by omega,by omega,by decide⟩,⟨by rw[en];omega,by rw[en];omega⟩,?_⟩
  rw[en,aI]
  refine Ba (Bz 0 (2 ^ n)) (λm σ H'=>(∃v2 v3,σ=[some (.int (n:Int)),some (.ref D),v2,v3])/\Same H H'/\∃ds:List ((Int×List Int)×Addr×Addr),ds.map (·.1)=(aD m).map (K1 n)/\H' D=some (.lst (soV ds))/\∀d∈ds,d.2.1≠D/\d.2.2≠D/\H' d.2.1=some (.tup [.int d.1.1,.ref d.2.2])/\H' d.2.2=some (.lst (d.1.2.map V.int)))
   ⟨⟨_,_,rfl⟩,S0,[],rfl,e0,λx hx=>by cases hx⟩ (λ_ _ _ _ _=>ba) ?_ ?_
  .rintro m x σ H1 hx ⟨⟨v2,v3,rfl⟩,S1,ds,ed,eD,hd⟩
   obtain⟨hm,rfl⟩:=Ds hx
   refine⟨⟨by omega,by omega⟩,?_⟩
   rw[aI]
   refine Vs h5 λL H2 S2 fL eL=>?_
   refine⟨.inl ⟨rfl,_,SqL.of (S2 _ _ eD)⟩,.inl ⟨_,.inl (SqL.of eL),?_⟩⟩
   rw[ae]
   refine⟨(show 2<=sizeLine by decide),λT hT=>?_⟩
   have ST:=Same.upd (o:=.tup [.int ((Dj n m).length:Int),.ref L]) hT
   have eT:upd H2 T (.tup [.int ((Dj n m).length:Int),.ref L]) T=some (.tup [.int ((Dj n m).length:Int),.ref L]):=Ac
   have nT:T≠D:=(Aj (S2 _ _ eD) hT).symm
   have nL:L≠D:=(Aj eD fL).symm
   generalize upd H2 T (.tup [.int ((Dj n m).length:Int),.ref L])=H3 at ST eT ⊢
   have S3:=S2.trans ST
   refine⟨D,_,_,rfl,rfl,S3 _ _ eD,?_,⟨_,_,rfl⟩,(S1.trans S3).set hD,ds++[(K1 n m,T,L)],?_,?_,λd hd'=>?_⟩
   .have:=congrArg bH ed
    rw[ae,ae,bn] at this
    rw[ae]
    exact aG (show ds.length<=32 by omega) (by decide)
   .rw[au,ed,dj,au];rfl
   .rw[Ac];unfold soV;rw[au];rfl
   .rcases List.mem_append.mp hd' with hd'|hd'
    .obtain⟨a1,a2,a3,a4⟩:=hd d hd'
     exact⟨a1,a2,by rw[Ai a1];exact S3 _ _ a3,by rw[Ai a2];exact S3 _ _ a4⟩
    .have:d=(K1 n m,T,L):=by simpa using hd'
     subst this
     refine⟨nT,nL,by rw[Ai nT];exact eT,?_⟩
     rw[Ai nL,ST _ _ eL]
     unfold nO K1
     rw[a_]
     rfl
  .rintro σ H1 ⟨⟨v2,v3,rfl⟩,S1,ds,ed,eD,hd⟩
   rw[Bh] at ed
   have ed:ds.map (·.1)=Sf n:=ed
   have ln:ds.length=2 ^ n:=by
    have:=congrArg bH ed
    rw[ae] at this
    rw[this]
    unfold Sf
    rw[ae,bn]
   obtain⟨p,r1,r2,r3,r4⟩:=be9 n h1 h5
   refine .inl (.inl (.inl (.inl ⟨ds,p,SqL.of eD,λd hx=>(hd d hx).2.2,by omega,by omega,by rw[ln,ed];exact r1,by rw[ln];exact r2,by rw[ln];exact r3,λA hA=>?_⟩)))
   have SA:=Same.upd (o:=.lst (p.toList.map λi=>(soV ds).getD i .non)) hA
   have eA:upd H1 A (.lst (p.toList.map λi=>(soV ds).getD i .non)) A=some (.lst (p.toList.map λi=>(soV ds).getD i .non)):=Ac
   generalize upd H1 A (.lst (p.toList.map λi=>(soV ds).getD i .non))=H2 at SA eA ⊢
   have S2:=S1.trans SA
   have dAt:∀i,i<2 ^ n -> ∃d,ds[i]?=some d/\d.1=K1 n i:=λi hi=>by
    refine⟨_,af (by omega),?_⟩
    have:(ds.map (·.1))[i]?=some (K1 n i):=by rw[ed];unfold Sf;rw[aj,cD hi];rfl
    rw[aj,af (by omega)] at this
    exact aM this
   have pl:∀i∈p.toList,i<2 ^ n:=λi hi=>by simpa using List.all_eq_true.mp r3 i hi
   refine .inl ⟨⟨_,SqL.of eA⟩,λD2 hD2=>?_⟩
   refine B0 (Aq (p.toList.map λi=>(soV ds).getD i .non)) (λm σ H'=>(∃v,σ=[v])/\Same H2 H'/\∃fs:List (List Nat×Addr),fs.map (·.1)=(p.toList.take m).map (Dj n)/\H' D2=some (.lst (fs.map λx=>.ref x.2))/\∀x∈fs,H2 x.2=some (nO x.1))
    ⟨⟨_,rfl⟩,Same.upd hD2,[],rfl,Ac,λx hx=>by cases hx⟩ (λm σ H' _ q=>q.2.1.seqL (SqL.of eA)) ?_ ?_
   .rintro m x σ H3 hx ⟨⟨v,rfl⟩,S3,fs,ef,eD2,hf⟩
    obtain⟨i,hi,rfl⟩:=Ak hx
    obtain⟨d,hd1,hd2⟩:=dAt i (pl i (ag hi))
    obtain⟨_,_,a3,a4⟩:=hd d (ag hd1)
    have ex:(soV ds).getD i .non=.ref d.2.1:=by
     unfold soV
     rw[ar,aj,hd1]
     rfl
    rw[ex]
    refine⟨_,_,.inr (SqT.of ((SA.trans S3) _ _ a3)),A3 (j:=1) rfl,_,eD2,?_,⟨_,rfl⟩,S3.set hD2,fs++[(Dj n i,d.2.2)],?_,?_,λy hy=>?_⟩
    .rw[ae]
     have:=congrArg bH ef
     rw[ae,ae,aJ] at this
     exact aG (show fs.length<=32 by omega) (by decide)
    .rw[au,ef,Ax hi];rfl
    .rw[Ac,au];rfl
    .rcases List.mem_append.mp hy with hy|hy
     .exact hf y hy
     .have:y=(Dj n i,d.2.2):=by simpa using hy
      subst this
      rw[SA _ _ a4,hd2]
      unfold nO K1
      rw[a_]
      rfl
   .rintro σ H3 ⟨_,S3,fs,ef,eD2,hf⟩
    rw[ae,aO,r4] at ef
    exact k H3 D2 (S2.trans S3) ⟨fs,ef,eD2,λx hx=>S3 _ _ (hf x hx)⟩
theorem DigAt.up(h:DigAt H r rows)(S:Same H H'):DigAt H' r rows:=by
 obtain⟨ds,a,b,c⟩:=h
 exact⟨ds,a,S _ _ b,λx hx=>S _ _ (c x hx)⟩
theorem Qr(h:ps∈Ea n):ps.length<=n/\∀p∈ps,p<n:=by
 unfold Ea at h
 rcases List.mem_append.mp h with h|h
 .obtain⟨h1,h2⟩:=Py h
  rw[bn] at h1
  exact⟨dD h1,λp hp=>List.mem_range.mp (h2 p hp)⟩
 .have:ps=aD n:=by simpa using h
  subst this
  exact⟨by rw[bn];exact ak _,λp hp=>List.mem_range.mp hp⟩
theorem b64(Z:Ar K t):OkD K bl1 (Bc K t) bl (t.f 39) (t.d 39) (aa5 K t):=by
 refine Bn (ci9 K t) λvs H Q E h=>?_
 .obtain⟨r,c,w,sw,rfl,hr,hw,hc,hww,k⟩:=h;refine⟨rfl,?_⟩
  refine⟨sw.length,rfl,hw.1,hw.2.1,λH1 a S1 ⟨ds,ed,ea,hd⟩=>?_⟩
  obtain⟨_,de⟩:=W8 hw c w
  refine .inl ⟨⟨_,SqL.of ea⟩,?_⟩
  refine Ba (Aq (ds.map λx=>V.ref x.2)) (λm σ H'=>(∃v,σ=[some (.ref r),some (.int (c:Int)),some (.int (w:Int)),some (.int (sw.length:Int)),v])/\Same H1 H'/\∀(j:Nat) y,j<m->(Ea sw.length)[j]?=some y->(Ep (Ae sw).length c w (Cn sw y)).isNone=false)
   ⟨⟨_,rfl⟩,Same.refl _,λj y hj=>absurd hj (dm _)⟩ (λm σ H' _ q=>q.2.1.seqL (SqL.of ea)) ?_ ?_
  .rintro m x σ H2 hx ⟨⟨v,rfl⟩,S2,no⟩
   obtain⟨⟨ps,la⟩,hm,rfl⟩:=Ak hx
   have hm2:(Ea sw.length)[m]?=some ps:=by rw[<- ed,aj,hm];rfl
   have sub:=Qr (ag hm2)
   have S:=S1.trans S2
   have l5:=hw.2.1
   refine⟨r,la,c,w,ps,sw,rfl,hr.up S,hw,hc,hww,S2 _ _ (hd _ (ag hm)),by omega,sub.2,λH3 v S3 hv=>?_⟩
   cases e:Ep (Ae sw).length c w (Cn sw ps) with
   |none=>
    rw[e] at hv
    unfold Vp At at hv
    obtain⟨rfl,_⟩:=hv
    have:Ot sw c w=ps:=by
     rw[R6 hm2 (by rw[e];rfl) no] at de
     exact (aM de).symm
    refine k H3 la (S.trans S3) ?_
    rw[this]
    exact (S2.trans S3) _ _ (hd _ (ag hm))
   |some o=>
    rw[e] at hv
    obtain⟨i,j⟩:=o
    unfold Vp At at hv
    obtain⟨b,xs,rfl,_⟩:=hv
    refine⟨⟨_,rfl⟩,S2.trans S3,λj' y hj' hy=>?_⟩
    rcases eY j' m with q|q
    .exact no j' y q hy
    .have:j'=m:=by omega
     subst this
     rw[hm2] at hy
     rw[<- aM hy,e]
     rfl
  .rintro σ H2 ⟨⟨v,rfl⟩,S2,no⟩
   exfalso
   have ln:ds.length=(Ea sw.length).length:=by rw[<- ed,ae]
   rw[ae,ln] at no
   rw[Zp λj y hy=>no j y (Al hy) hy] at de
   cases de
end
section
theorem a57 {H:Hp}{T:Addr}{i j:Nat}(hT:H T=none):At K (upd H T (.tup [.int (i:Int),.int (j:Int)])) (.tup [.at_ (.int (i:Int)),.at_ (.int (j:Int))]) (.ref T):=by
 unfold At
 refine⟨T,_,rfl,SqT.of Ac,?_⟩
 unfold AtL
 refine⟨_,_,rfl,by unfold At;exact⟨rfl,rfl⟩,?_⟩
 unfold AtL
 refine⟨_,_,rfl,by unfold At;exact⟨rfl,rfl⟩,?_⟩
 unfold AtL
 rfl
theorem a60(m n:Nat):decide (aX ((m:Int) / 2 ^ ((n:Int)).toNat) 1=0) = !m.testBit n:=by
 rw[<- Mj,<- decide_not]
 refine decide_eq_decide.mpr ?_
 rw[aI,C1,<- Int.natCast_ediv,show (1:Int)=((1:Nat):Int) from rfl,A7,lg]
 omega
def Da(sw:Sw)(ps:List Nat)(j:Nat):List Key:=ps.map λp=>.inl ((Dg sw j p:Nat):Int)
theorem a87 {sw:Sw}{ps:List Nat}{i j:Nat}:Da sw ps j=Da sw ps i ↔ Cn sw ps i j=true:=by
 rw[G8,aR]
 unfold Da
 rw[List.map_inj_left]
 refine forall_congr' λp=>forall_congr' λ_=>?_
 rw[decide_eq_true_iff]
 constructor
 .intro h
  injection h with h
  omega
 .intro h
  rw[h]
theorem U9 {E:EK}{H:Hp}{l r:Addr}{m:Nat}{ps:List Nat}{ds:List (List Nat×Addr)}{sw:Sw}{e:List Nat×Addr}{R:Hp->Addr->Prop}(hl:H l=some (nO ps))(er:H r=some (.lst (ds.map λx=>.ref x.2)))(ed:ds.map (·.1)=Cc sw)(hd:∀x∈ds,H x.2=some (nO x.1))(hm:ds[m]?=some e)(hp:∀p∈ps,p<sw.length)(few:ps.length<=5)(k:∀D H',Same H H'->H D=none->H' D=some (.lst ((Da sw ps m).map kV))->R H' D) :
  ∀D,H D=none->Fa (Itl K l) (gdN 0) Bt (Ad (An K) (Ad (An K) (Aa 2) (Aa 1)) (Aa 0)) D (λH'=>R H' D) [none,some (.int (m:Int)),some (.ref r)] (upd H D (.lst [])) E:=by
 intro D hD
 have he:(Cc sw)[m]?=some e.1:=by rw[<- ed,aj,hm];rfl
 refine B0 (Aq (ps.map λn:Nat=>V.int (n:Int))) (λi σ H'=>(∃v,σ=[v,some (.int (m:Int)),some (.ref r)])/\Same H H'/\H' D=some (.lst ((Da sw (ps.take i) m).map kV))) ⟨⟨_,rfl⟩,Same.upd hD,Ac⟩ (λi σ H' _ q=>q.2.1.seqL (SqL.of hl)) ?_ ?_
 .rintro i x σ H1 hx ⟨⟨v,rfl⟩,S1,eD⟩
  obtain⟨p,hi,rfl⟩:=Ak hx
  have hps:=hp p (ag hi)
  obtain⟨j,hj,_⟩:=Mr (ag he) (af hps)
  have ej:Dg sw m p=j:=by unfold Dg;rw[he];show (e.1[p]?).getD 0=j;rw[hj];rfl
  refine⟨_,.ref e.2,.inl (SqL.of (S1 _ _ er)),A3 (j:=m) (by rw[aj,hm];rfl),_,.int (j:Int),.inl (SqL.of (S1 _ _ (hd e (ag hm)))),A3 (j:=p) (by rw[aj,hj];rfl),_,eD,?_,⟨_,rfl⟩,S1.set hD,?_⟩
  .rw[ae]
   unfold Da
   rw[ae,aJ]
   exact aG (show _<=5 by omega) (by decide)
  .rw[Ac]
   unfold Da
   rw[Ax hi,au,ej]
   rfl
 .rintro σ H1 ⟨_,S1,eD⟩
  rw[ae,aO] at eD
  exact k D H1 S1 hD eD
def ae1(n c w:Nat)(f:Nat->Bool)(m:Nat):Option Nat:=(aD m).find? λj=>w.testBit j && !c.testBit j&&f j
theorem Ms {n c w m:Nat}{f:Nat->Bool}:ae1 n c w f (m+1)=(ae1 n c w f m).or (if (w.testBit m && !c.testBit m&&f m)=true then some m else none):=by
 unfold ae1
 rw[dj,List.find?_append,bR,List.find?_nil]
 cases (aD m).find? (λj=>w.testBit j && !c.testBit j&&f j) with
 |some x=>rfl
 |none=>
  cases w.testBit m && !c.testBit m&&f m <;> rfl
noncomputable def Md(sw:Sw)(c w:Nat)(ps:List Nat)(m:Nat)(kvs:List (List Key×V)):Prop:=kvs.length<=m/\∀ks,Bp kvs ks=(ae1 0 c w (λj=>decide (Da sw ps j=ks)) m).map λj:Nat=>V.int (j:Int)
theorem Uk {sw:Sw}{c w m:Nat}{ps:List Nat}{kvs:List (List Key×V)}(h:Md sw c w ps m kvs)(q:(w.testBit m && !c.testBit m)=false):Md sw c w ps (m+1) kvs:=by
 refine⟨gw h.1,λks=>?_⟩
 rw[h.2 ks,Ms,q]
 simp
theorem a50 {sw:Sw}{c w m:Nat}{ps:List Nat}{kvs:List (List Key×V)}{v:V}(h:Md sw c w ps m kvs)(q:Bp kvs (Da sw ps m)=some v):Md sw c w ps (m+1) kvs:=by
 refine⟨gw h.1,λks=>?_⟩
 rw[h.2 ks,Ms]
 by_cases e:Da sw ps m=ks
 .subst e
  rw[h.2] at q
  cases z:ae1 0 c w (λj=>decide (Da sw ps j=Da sw ps m)) m with
  |none=>rw[z] at q;cases q
  |some x=>rfl
 .rw[decide_eq_false e,cw,if_neg av,Option.or_none]
theorem a49 {sw:Sw}{c w m:Nat}{ps:List Nat}{kvs:List (List Key×V)}(h:Md sw c w ps m kvs)(q:Bp kvs (Da sw ps m)=none)(b:(w.testBit m && !c.testBit m)=true):Md sw c w ps (m+1) (Db kvs (Da sw ps m) (.int (m:Int))):=by
 refine⟨?_,λks=>?_⟩
 .rw[Ff _ q,aP]
  have:=h.1
  show kvs.length+1<=_
  omega
 .rw[a26,Ms,b,cX]
  by_cases e:Da sw ps m=ks
  .subst e
   rw[if_pos rfl,decide_eq_true rfl,if_pos rfl]
   rw[h.2] at q
   rw[Option.map_eq_none_iff.mp q]
   rfl
  .rw[if_neg (λz=>e z.symm),decide_eq_false e,if_neg av,Option.or_none,h.2]
theorem br9(Z:Ar K t):OkD K al8 (Bc K t) bl (t.f 37) (t.d 37) (Ys K t):=by
 refine Bn (cc2 K t) λvs H Q E h=>?_
 .obtain⟨r,l,c,w,ps,sw,rfl,⟨ds,ed,er,hd⟩,hw,hc,hww,hl,few,hp,k⟩:=h;refine⟨rfl,?_⟩
  have ln:ds.length=(Ae sw).length:=by rw[Dl,ae,<- ed,ae]
  have n256:=hw.len
  have lnV:(ds.map λx=>V.ref x.2).length=(Ae sw).length:=by rw[ae,ln]
  refine λq hq=>.inr ?_
  have Sq:=Same.upd (o:=.dT []) hq
  have eq0:upd H q (.dT []) q=some (.dT []):=Ac
  show Ag _ _ _ [some (.ref r),some (.int (c:Int)),some (.int (w:Int)),some (.ref l),some (.ref q),none,none] _
  generalize upd H q (.dT [])=H0 at Sq eq0 ⊢
  refine .inl ⟨_,.inl (SqL.of (Sq _ _ er)),?_⟩
  rw[lnV]
  refine⟨⟨by omega,by omega⟩,?_⟩
  rw[aI]
  refine Ba (Bz 0 (Ae sw).length) (λm σ H'=>(∃v5 v6,σ=[some (.ref r),some (.int (c:Int)),some (.int (w:Int)),some (.ref l),some (.ref q),v5,v6])/\Same H H'/\∃kvs,H' q=some (.dT kvs)/\Md sw c w ps m kvs)
   ⟨⟨_,_,rfl⟩,Sq,[],eq0,ak _,λks=>rfl⟩ (λ_ _ _ _ _=>ba) ?_ ?_
  .rintro m x σ H1 hx ⟨⟨v5,v6,rfl⟩,S1,kvs,e1,o1⟩
   obtain⟨hm,rfl⟩:=Ds hx
   obtain⟨e,he⟩:∃e,ds[m]?=some e:=⟨_,af (by omega)⟩
   refine⟨by omega,?_⟩
   show if decide (aX ((w:Int) / 2 ^ ((m:Int)).toNat) 1=1)=true then _ else _
   rw[Mj]
   cases ew:w.testBit m with
   |false=>exact Ew (Ew ⟨⟨_,_,rfl⟩,S1,kvs,e1,Uk o1 (by rw[ew];rfl)⟩)
   |true=>
    refine Fc ⟨by omega,?_⟩
    show if decide (aX ((c:Int) / 2 ^ ((m:Int)).toNat) 1=0)=true then _ else _
    rw[a60]
    cases ec:c.testBit m with
    |true=>exact Ew ⟨⟨_,_,rfl⟩,S1,kvs,e1,Uk o1 (by rw[ec,Bool.not_true,cw])⟩
    |false=>
     refine Fc ⟨.inr (.inr (.inl ⟨rfl,.inr ⟨_,e1⟩⟩)),.inl ⟨⟨_,SqL.of (S1 _ _ hl)⟩,?_⟩⟩
     refine U9 (S1 _ _ hl) (S1 _ _ er) ed (λx hx=>S1 _ _ (hd x hx)) he hp few λD H2 S2 fD eD=>⟨_,.inl ⟨SqL.of eD,λT hT=>?_⟩⟩
     have ST:=Same.upd (o:=.tup ((Da sw ps m).map kV)) hT
     have eT:upd H2 T (.tup ((Da sw ps m).map kV)) T=some (.tup ((Da sw ps m).map kV)):=Ac
     generalize upd H2 T (.tup ((Da sw ps m).map kV))=H3 at ST eT ⊢
     have S3:=S2.trans ST
     refine .inl ⟨q,T,kvs,Da sw ps m,.int (m:Int),rfl,rfl,S3 _ _ e1,eT,aG (aw o1.1 (dD hm)) (aG n256 (by decide)),?_⟩
     cases ev:Bp kvs (Da sw ps m) with
     |some v=>exact⟨⟨_,_,rfl⟩,S1.trans S3,kvs,S3 _ _ e1,a50 o1 ev⟩
     |none=>exact⟨⟨_,_,rfl⟩,(S1.trans S3).set hq,_,Ac,a49 o1 ev (by rw[ew,ec];rfl)⟩
  .rintro σ H1 ⟨⟨v5,v6,rfl⟩,S1,kvs,e1,o1⟩
   rw[Bh] at o1
   have due:∀i,Bp kvs (Da sw ps i)=((aD (Ae sw).length).find? λj=>w.testBit j && !c.testBit j&&Cn sw ps i j).map λj:Nat=>V.int (j:Int):=λi=>by
    rw[o1.2]
    unfold ae1
    refine congrArg (Option.map λj:Nat=>V.int (j:Int)) (W6 λj _=>?_)
    show (w.testBit j && !c.testBit j&&decide (Da sw ps j=Da sw ps i))=_
    rw[show decide (Da sw ps j=Da sw ps i)=Cn sw ps i j by rw[bu,decide_eq_true_iff];exact a87]
   refine .inl (.inl ⟨_,.inl (SqL.of (S1 _ _ er)),?_⟩)
   rw[lnV]
   refine⟨⟨by omega,by omega⟩,?_⟩
   rw[aI]
   unfold Ep at k
   refine Ba (Bz 0 (Ae sw).length) (λm σ H'=>(∃v5 v6,σ=[some (.ref r),some (.int (c:Int)),some (.int (w:Int)),some (.ref l),some (.ref q),v5,v6])/\Same H1 H'/\∀(j:Nat) y,j<m->(aD (Ae sw).length)[j]?=some y->(if (c.testBit y&&w.testBit y)=true then ((aD (Ae sw).length).find? λj=>w.testBit j && !c.testBit j&&Cn sw ps y j).map λj=>(y,j) else none)=none)
    ⟨⟨_,_,rfl⟩,Same.refl _,λj y hj=>absurd hj (dm _)⟩ (λ_ _ _ _ _=>ba) ?_ ?_
   .rintro m x σ H2 hx ⟨⟨v5,v6,rfl⟩,S2,no⟩
    obtain⟨hm,rfl⟩:=Ds hx
    obtain⟨e,he⟩:∃e,ds[m]?=some e:=⟨_,af (by omega)⟩
    have S12:=S1.trans S2
    have rm:(aD (Ae sw).length)[m]?=some m:=cD hm
    have stay:∀H3,Same H2 H3->(if (c.testBit m&&w.testBit m)=true then ((aD (Ae sw).length).find? λj=>w.testBit j && !c.testBit j&&Cn sw ps m j).map λj=>(m,j) else none)=none->Same H1 H3/\∀(j:Nat) y,j<m+1->(aD (Ae sw).length)[j]?=some y->(if (c.testBit y&&w.testBit y)=true then ((aD (Ae sw).length).find? λj=>w.testBit j && !c.testBit j&&Cn sw ps y j).map λj=>(y,j) else none)=none:=λH3 S3 h0=>⟨S2.trans S3,λj y hj hy=>by
     rcases eY j m with z|z
     .exact no j y z hy
     .have:j=m:=by omega
      subst this
      rw[rm] at hy
      rw[<- aM hy]
      exact h0⟩
    refine .inl ⟨⟨_,SqL.of (S12 _ _ hl)⟩,?_⟩
    refine U9 (S12 _ _ hl) (S12 _ _ er) ed (λx hx=>S12 _ _ (hd x hx)) he hp few λD H3 S3 fD eD=>⟨_,.inl ⟨SqL.of eD,λT hT=>?_⟩⟩
    have ST:=Same.upd (o:=.tup ((Da sw ps m).map kV)) hT
    have eT:upd H3 T (.tup ((Da sw ps m).map kV)) T=some (.tup ((Da sw ps m).map kV)):=Ac
    show Ag _ _ _ [some (.ref r),some (.int (c:Int)),some (.int (w:Int)),some (.ref l),some (.ref q),some (.int (m:Int)),some (.ref T)] _
    generalize upd H3 T (.tup ((Da sw ps m).map kV))=H4 at ST eT ⊢
    have S4:=S3.trans ST
    have e4:=(S2.trans S4) _ _ e1
    refine⟨by omega,?_⟩
    show if decide (aX ((w:Int) / 2 ^ ((m:Int)).toNat) 1=1)=true then _ else _
    rw[Mj]
    cases ew:w.testBit m with
    |false=>exact Ew (Ew ⟨⟨_,_,rfl⟩,stay H4 S4 (by rw[ew,cw];rfl)⟩)
    |true=>
     refine Fc ⟨by omega,?_⟩
     show if decide (aX ((c:Int) / 2 ^ ((m:Int)).toNat) 1=1)=true then _ else _
     rw[Mj]
     cases ec:c.testBit m with
     |false=>exact Ew (Ew ⟨⟨_,_,rfl⟩,stay H4 S4 (by rw[ec];rfl)⟩)
     |true=>
      refine Fc (.inr ⟨_,DGet.t e4 eT,?_⟩)
      rw[due m]
      cases ef:(aD (Ae sw).length).find? λj=>w.testBit j && !c.testBit j&&Cn sw ps m j with
      |none=>exact⟨⟨_,_,rfl⟩,stay H4 S4 (by rw[ef];simp)⟩
      |some j=>
       have g:DGet H4 q (.ref T) (some (.int (j:Int))):=by
        have:=DGet.t e4 eT
        rw[due m,ef] at this
        exact this
       rw[Gg (b:=(m,j)) rm no (by rw[ef,ew,ec];rfl)] at k
       refine⟨_,g,(show 2<=sizeLine by decide),λT2 hT2=>k _ _ ((S12.trans S4).trans (Same.upd hT2)) ?_⟩
       unfold Vp
       exact a57 hT2
   .rintro σ H2 ⟨⟨v5,v6,rfl⟩,S2,no⟩
    rw[Bh] at no
    have e:(aD (Ae sw).length).findSome? (λi=>if (c.testBit i&&w.testBit i)=true then ((aD (Ae sw).length).find? λj=>w.testBit j && !c.testBit j&&Cn sw ps i j).map λj=>(i,j) else none)=none:=by
     rw[iP]
     intro y hy
     obtain⟨j,hj⟩:=List.mem_iff_getElem?.mp hy
     exact no j y (by have:=Al hj;rwa[bn] at this) hj
    rw[e] at k
    refine .inl (k H2 .non (S1.trans S2) ?_)
    unfold Vp At
    exact⟨rfl,rfl⟩
end
end K14
namespace K14
open PySem L2 Pn
abbrev Gs:=List (List Str×List Sw)
theorem Ul:∀ {gs:Gs} {i:Nat} {g:List Str×List Sw} {z:Str} {bs:List Sw},gs[i]?=some g->g.2=bs->(∀(j:Nat) h,j<i->gs[j]?=some h->h.2≠bs)->He gs z bs=gs.set i (g.1++[z],g.2)
 |[],_,_,_,_,h,_,_=>by simp at h
 | a::gs,0,g,z,bs,h,e,_=>by
  have:a=g:=by simpa using h
  subst this
  unfold He
  rw[if_pos e]
  rfl
 | a::gs,i+1,g,z,bs,h,e,no=>by
  unfold He
  rw[if_neg (no 0 a (by omega) rfl),Ul (by simpa using h) e λj b hj hb=>no (j+1) b (by omega) (by simpa using hb)]
  rfl
theorem Pr:∀ {gs:Gs} {z:Str} {bs:List Sw},(∀g∈gs,g.2≠bs)->He gs z bs=gs++[([z],bs)]
 |[],_,_,_=>rfl
 | a::gs,z,bs,no=>by
  unfold He
  rw[if_neg (no a am),Pr λg h=>no g (aq _ h)]
  rfl
theorem Ie:∀ {gs:Gs} {z:Str} {bs:List Sw} {g:List Str×List Sw},g∈He gs z bs->g∈gs\/g=([z],bs) \/ ∃h∈gs,g=(h.1++[z],h.2)
 |[],z,bs,g,h=>.inr (.inl (by simpa [He] using h))
 | a::gs,z,bs,g,h=>by
  unfold He at h
  by_cases e:a.2=bs
  .rw[if_pos e] at h
   rcases List.mem_cons.mp h with rfl|h
   .exact .inr (.inr ⟨a,am,rfl⟩)
   .exact .inl (aq _ h)
  .rw[if_neg e] at h
   rcases List.mem_cons.mp h with rfl|h
   .exact .inl am
   .rcases Ie h with h|h|⟨b,hb,h⟩
    .exact .inl (aq _ h)
    .exact .inr (.inl h)
    .exact .inr (.inr ⟨b,aq _ hb,h⟩)
theorem Me:∀ {gs:Gs} {z:Str} {bs:List Sw},(He gs z bs).map (·.2)=if bs∈gs.map (·.2) then gs.map (·.2) else gs.map (·.2)++[bs]
 |[],z,bs=>by rw[if_neg (by simp)];rfl
 | a::gs,z,bs=>by
  unfold He
  by_cases e:a.2=bs
  .rw[if_pos e,if_pos (by rw[aY,e];exact am)]
   rfl
  .rw[if_neg e,aY,Me]
   by_cases q:bs∈gs.map (·.2)
   .rw[if_pos q,if_pos (by rw[aY];exact aq _ q)]
    rfl
   .rw[if_neg q,if_neg (by rw[aY,aS];exact λh=>h.elim (λh=>e h.symm) q)]
    rfl
structure GI (f:Nat->List Sw) (zs:List Str) (gs:Gs):Prop where
 len:gs.length<=zs.length
 nd:(gs.map (·.2)).Nodup
 one:∀g∈gs,g.1.length<=zs.length/\(∀y∈g.1,y∈zs)/\∃k,g.2=f k
theorem GI.step(h:GI f zs gs)(z:Str):GI f (zs++[z]) (Dq rows p f m gs z):=by
 unfold Dq
 have l1:(zs++[z]).length=zs.length+1:=by rw[aP];rfl
 by_cases e:m &&& Be rows p z=0
 .rw[if_pos e]
  exact⟨by have:=h.len;omega,h.nd,λg hg=>⟨by have:=(h.one g hg).1;omega,λy hy=>bL _ ((h.one g hg).2.1 y hy),(h.one g hg).2.2⟩⟩
 .rw[if_neg e]
  refine⟨?_,?_,λg hg=>?_⟩
  .have:=congrArg bH (Me (gs:=gs) (z:=z) (bs:=f (m &&& Be rows p z)))
   rw[ae] at this
   rw[this]
   have:=h.len
   split <;> simp <;> omega
  .rw[Me]
   by_cases q:f (m &&& Be rows p z)∈gs.map (·.2)
   .rw[if_pos q];exact h.nd
   .rw[if_neg q]
    refine List.nodup_append.mpr ⟨h.nd,by simp,λa ha b hb=>?_⟩
    have:b=f (m &&& Be rows p z):=by simpa using hb
    subst this
    exact λe=>q (e▸ha)
  .rcases Ie hg with hg|rfl|⟨a,ha,rfl⟩
   .exact⟨by have:=(h.one g hg).1;omega,λy hy=>bL _ ((h.one g hg).2.1 y hy),(h.one g hg).2.2⟩
   .exact⟨by rw[l1];show 1<=_;omega,λy hy=>bc _ hy,_,rfl⟩
   .refine⟨?_,λy hy=>?_,(h.one a ha).2.2⟩
    .have:=(h.one a ha).1
     rw[aP]
     show a.1.length+1<=_
     omega
    .rcases List.mem_append.mp hy with hy|hy
     .exact bL _ ((h.one a ha).2.1 y hy)
     .exact bc _ hy
theorem GI.fold:∀ {zs pre:List Str} {gs:Gs},GI f pre gs->GI f (pre++zs) (zs.foldl (Dq rows p f m) gs)
 |[],pre,gs,h=>by rw[b7];exact h
 | z::zs,pre,gs,h=>by
  have:=GI.fold (rows:=rows) (p:=p) (m:=m) (zs:=zs) (h.step (rows:=rows) (p:=p) (m:=m) z)
  rwa[dZ] at this
theorem Zq(rows:List (List Str))(p m:Nat)(f:Nat->List Sw)(zs:List Str):GI f zs (grF rows p f m zs):=by
 have:=GI.fold (rows:=rows) (p:=p) (m:=m) (zs:=zs) (pre:=[]) (f:=f) (gs:=[]) ⟨ak _,eI,λg hg=>by cases hg⟩
 exact this
def tal(h:List Sw->Nat)(z:Str)(gs:Gs):Nat:=(gs.map λg=>if z∈g.1 then h g.2 else 0).sum
theorem ab1:∀ {gs:Gs},(∀g∈gs,¬ z'∈g.1)->tal h z (He gs z' bs)=tal h z gs+if z=z' then h bs else 0
 | [],_=>by
  show (if z∈[z'] then h bs else 0)+0=0+_
  by_cases e:z=z'
  .subst e;rw[if_pos am,if_pos rfl,cT];rfl
  .rw[if_neg (by simpa using e),if_neg e]
 | a::gs,no=>by
  unfold He
  by_cases e:a.2=bs
  .rw[if_pos e]
   show (if z∈a.1++[z'] then h a.2 else 0)+tal h z gs=(if z∈a.1 then h a.2 else 0)+tal h z gs+_
   by_cases q:z=z'
   .subst q
    rw[if_pos (bc _ am),if_neg (no a am),if_pos rfl,e]
    omega
   .rw[if_neg q]
    by_cases r:z∈a.1
    .rw[if_pos r,if_pos (bL _ r)];rfl
    .rw[if_neg r,if_neg (by rw[aQ];exact λx=>x.elim r (by simpa using q))];rfl
  .rw[if_neg e]
   show _+tal h z (He gs z' bs)=_+tal h z gs+_
   rw[ab1 λg hg=>no g (aq _ hg),Nat.add_assoc]
theorem Wj:∀ {zs:List Str} {gs:Gs},zs.Nodup->(∀y∈zs,∀g∈gs,¬ y∈g.1) ->
  tal h z (zs.foldl (Dq rows p f m) gs)=tal h z gs+if z∈zs/\m &&& Be rows p z≠0 then h (f (m &&& Be rows p z)) else 0
 |[],gs,_,_=>by rw[if_neg (by simp)];rfl
 | y::zs,gs,nd,no=>by
  have nd2:=List.nodup_cons.mp nd
  have st:tal h z (Dq rows p f m gs y)=tal h z gs+if z=y/\m &&& Be rows p z≠0 then h (f (m &&& Be rows p z)) else 0:=by
   unfold Dq
   by_cases e:m &&& Be rows p y=0
   .rw[if_pos e,if_neg (λq=>q.2 (by rw[q.1];exact e))];rfl
   .rw[if_neg e,ab1 λg hg=>no y am g hg]
    by_cases q:z=y
    .subst q;rw[if_pos rfl,if_pos ⟨rfl,e⟩]
    .rw[if_neg q,if_neg λr=>q r.1]
  have fr:∀x∈zs,∀g∈Dq rows p f m gs y,¬ x∈g.1:=λx hx g hg=>by
   have ne:x≠y:=λe=>nd2.1 (e▸hx)
   have old:=λg hg=>no x (aq _ hx) g hg
   unfold Dq at hg
   by_cases e:m &&& Be rows p y=0
   .rw[if_pos e] at hg;exact old g hg
   .rw[if_neg e] at hg
    rcases Ie hg with hg|rfl|⟨a,ha,rfl⟩
    .exact old g hg
    .simpa using ne
    .rw[aQ]
     exact λq=>q.elim (old a ha) (by simpa using ne)
  rw[bC,Wj nd2.2 fr,st]
  have n1:=nd2.1
  split <;> split <;> split <;> first|omega|(exfalso;rename_i a b c;clear st fr no;first|(obtain⟨rfl,a2⟩:=a;first|exact n1 b.1|exact c ⟨am,a2⟩)|exact c ⟨aq _ b.1,b.2⟩|exact (List.mem_cons.mp c.1).elim (λq=>a ⟨q,c.2⟩) λq=>b ⟨q,c.2⟩)
theorem ar2(nd:zs.Nodup)(hz:z∈zs)(hm:m &&& Be rows p z≠0):tal h z (grF rows p f m zs)=h (f (m &&& Be rows p z)):=by
 have:=Wj (rows:=rows) (p:=p) (m:=m) (f:=f) (h:=h) (z:=z) (gs:=[]) nd (λ_ _ g hg=>by cases hg)
 rw[if_pos ⟨hz,hm⟩] at this
 rw[show tal h z []=0 from rfl,cT] at this
 exact this
theorem Lx {sw:Sw}(hw:okSw sw){i:Nat}{e:Str×List Str}(h:sw[i]?=some e):Gp sw e.1=e.2:=by
 unfold Gp
 rw[Bm h hw.2.2.1,h]
 rfl
theorem Z0 {b:Sw}{n:Nat}{p:Str×List Str->Prop}(hb:b∈([[]]:List Sw)):b.length<=n/\∀e∈b,p e:=by
 rw[List.mem_singleton.mp hb]
 exact⟨bZ _,λe he=>by cases he⟩
theorem Zi {sw:Sw}(hw:okSw sw){c:Nat}:∀ {ws:List Str} (m:Nat),(∀x∈ws,x∈sw.map (·.1))->(bxF sw c ws m).length<=4 ^ ws.length/\∀b∈bxF sw c ws m,b.length<=ws.length/\∀e∈b,e.1∈sw.map (·.1)/\okE e
 | [],m,_=>by
  unfold bxF
  split
  .exact⟨bZ _,λb hb=>by cases hb⟩
  .exact⟨ak _,λb hb=>Z0 hb⟩
 | x::ws,m,hin=>by
  unfold bxF
  split
  .exact⟨bZ _,λb hb=>by cases hb⟩
  split
  .exact⟨Nat.one_le_pow _ _ (by decide),λb hb=>Z0 hb⟩
  have hx:=hin x am
  obtain⟨i,e,hi,ex⟩:=Ls hx
  subst ex
  rw[Lx hw hi,Bm hi hw.2.2.1]
  have he:=hw.2.2.2.1 e (ag hi)
  have ih:=λm=>Zi hw (c:=c) (ws:=ws) m λy hy=>hin y (aq _ hy)
  have G:=Zq (Ae sw) i m (bxF sw c ws) e.2
  generalize grF (Ae sw) i (bxF sw c ws) m e.2=gs at G
  have l4:gs.length<=4:=aw G.len he.2.2.2
  have g4:∀g∈gs,g.2.length<=4 ^ ws.length:=λg hg=>by obtain⟨k,ek⟩:=(G.one g hg).2.2;rw[ek];exact (ih k).1
  have sm:∀f:List Str×List Sw->List Sw,(∀g∈gs,(f g).length=g.2.length)->(gs.flatMap f).length<=4 ^ (e.1::ws).length:=λf hf=>by
   rw[kS,aN,Nat.pow_succ,Nat.mul_comm]
   exact aw (Yw λg hg=>by rw[hf g hg];exact g4 g hg) (hJ _ l4)
  have old:∀g∈gs,∀b∈g.2,b.length<=ws.length/\∀e∈b,e.1∈sw.map (·.1)/\okE e:=λg hg b hb=>by obtain⟨k,ek⟩:=(G.one g hg).2.2;rw[ek] at hb;exact (ih k).2 b hb
  unfold Iu
  split
  .refine⟨sm _ λ_ _=>rfl,λb hb=>?_⟩
   obtain⟨g,hg,hb⟩:=List.mem_flatMap.mp hb
   exact⟨gw (old g hg b hb).1,(old g hg b hb).2⟩
  .refine⟨sm _ λ_ _=>ae _,λb hb=>?_⟩
   obtain⟨g,hg,hb⟩:=List.mem_flatMap.mp hb
   obtain⟨b',hb',rfl⟩:=List.mem_map.mp hb
   refine⟨fz (old g hg b' hb').1,λu hu=>?_⟩
   rcases List.mem_cons.mp hu with rfl|hu
   .exact⟨hx,he.1.2.1,aw (G.one g hg).1 he.2.2.2,λz hz=>(he.2.1.1 z ((G.one g hg).2.1 z hz)).2.1⟩
   .exact (old g hg b' hb').2 u hu
theorem a99(m c k:Nat):Bu m c &&& k=Bu (m &&& k) c:=by
 refine cz λi=>?_
 rw[bi,D6,D6,bi]
 cases m.testBit i <;> cases k.testBit i <;> cases c.testBit i <;> rfl
theorem Wn(hw:okSw sw)(hp:sw[p]?=some x)(h:Ch (Ae sw).length (c &&& m) (Bu m c) (Bs sw (x.1::ws))=false)(hz:z∈x.2) :
  Ch (Ae sw).length (c &&& (m &&& Be (Ae sw) p z)) (Bu (m &&& Be (Ae sw) p z) c) (Bs sw ws)=false:=by
 rw[Oj hw hp,cH] at h
 have:=h z hz
 rw[a99,ic] at this
 exact Bool.eq_false_iff.mpr this
theorem Wm(hm:m<2 ^ n)(h:Ch n (c &&& m) (Bu m c) (Bs sw [])=false)(h0:m &&& c≠0):Bu m c=0:=by
 refine iZ λe=>?_
 rw[ab4 (a55 hm) (Zz hm) (by rw[fJ];exact h0) e] at h
 cases h
theorem ad5(hp:As sw x=p)(hc:Ce sw i p=some z)(gs:Gs):(gs.flatMap λg=>g.2.map ((x,g.1) :: ·)).countP (E1 sw i)=tal (λbs=>bs.countP (E1 sw i)) z gs:=by
 rw[List.countP_flatMap]
 unfold tal
 refine congrArg List.sum (bY λg _=>?_)
 show (g.2.map ((x,g.1) :: ·)).countP (E1 sw i)=_
 rw[List.countP_map]
 have e:(E1 sw i∘((x,g.1) :: ·))=λb=>decide (z∈g.1)&&E1 sw i b:=by
  funext b
  show (decide _&&_)=_
  rw[hp,hc]
  rfl
 rw[e]
 by_cases q:z∈g.1
 .rw[if_pos q,decide_eq_true q];rfl
 .rw[if_neg q,decide_eq_false q];exact List.countP_eq_zero.mpr λ_ _=>av
theorem Uy(hw:okSw sw):∀ {ws:List Str} {m:Nat},(∀x∈ws,x∈sw.map (·.1))->m<2 ^ (Ae sw).length->Ch (Ae sw).length (c &&& m) (Bu m c) (Bs sw ws)=false->m.testBit i=true->(bxF sw c ws m).countP (E1 sw i)=if c.testBit i=true then 1 else 0
 | ws,m,hin,hm,hu,hi=>by
  have no:m &&& c=0->(if c.testBit i=true then 1 else 0)=0:=λe=>by
   have:=congrArg (λn=>n.testBit i) e
   rw[bi,hi,cX,cF] at this
   rw[this];rfl
  have yes:Bu m c=0->(if c.testBit i=true then 1 else 0)=1:=λe=>by
   have:=congrArg (λn=>n.testBit i) e
   rw[D6,hi,cX,cF,Bool.not_eq_false'] at this
   rw[this];rfl
  cases ws with
  |nil=>
   unfold bxF
   split
   .rename_i e;rw[no e];rfl
   .rename_i e;rw[yes (Wm hm hu e)];rfl
  |cons x ws=>
   unfold bxF
   split
   .rename_i e;rw[no e];rfl
   split
   .rename_i e;rw[yes e];rfl
   obtain⟨p,e,hp,ex⟩:=Ls (hin x am)
   subst ex
   have pl:=Bm hp hw.2.2.1
   rw[Lx hw hp,pl]
   have hiN:=Rn hm hi
   obtain⟨l1,c1⟩:=D0 hiN hp
   have hz:e.2.getD (Dg sw i p) cJ∈e.2:=by
    rw[ar,af l1]
    exact bV l1
   generalize e.2.getD (Dg sw i p) cJ=z at hz c1
   have hb:(m &&& Be (Ae sw) p z).testBit i=true:=by
    rw[bi,hi,Eg,show Jw (Ae sw) p z i=true from decide_eq_true c1];rfl
   have hne:m &&& Be (Ae sw) p z≠0:=λq=>by rw[q,cF] at hb;cases hb
   have nd:=(hw.sets e (ag hp)).1.2.1
   have ih:=Uy hw (c:=c) (i:=i) (ws:=ws) (m:=m &&& Be (Ae sw) p z) (λy hy=>hin y (aq _ hy)) (F9 hm) (Wn hw hp hu hz) hb
   have t1:=ar2 (rows:=Ae sw) (p:=p) (f:=bxF sw c ws) (h:=λbs=>bs.countP (E1 sw i)) nd hz hne
   have t2:=ar2 (rows:=Ae sw) (p:=p) (f:=bxF sw c ws) (h:=λ_=>1) nd hz hne
   rw[ih] at t1
   generalize grF (Ae sw) p (bxF sw c ws) m e.2=gs at t1 t2
   unfold Iu
   split
   .rename_i l
    obtain⟨g,rfl⟩:=List.length_eq_one_iff.mp l
    have t1:(if z∈g.1 then g.2.countP (E1 sw i) else 0)+0=_:=t1
    have t2:(if z∈g.1 then 1 else 0)+0=1:=t2
    by_cases q:z∈g.1
    .rw[if_pos q] at t1
     rw[dF,gU,b7]
     exact t1
    .rw[if_neg q] at t2;cases t2
   .rw[ad5 pl c1]
    exact t1
theorem E0(hw:okSw sw)(c w:Nat):Ch (Ae sw).length (c &&& w) (Bu w c) (Bs sw (Cb sw c w))=false/\(Cb sw c w).length<=sw.length/\∀x∈Cb sw c w,x∈sw.map (·.1):=by
 obtain⟨d1,d2⟩:=W8 hw c w
 have sub:=Qr (fv d2)
 have:=List.find?_some d2
 rw[Hr] at this
 rw[d1,Oi λi j hi hj=>Zx hw sub.2 hi hj]
 refine⟨by simpa using this,by rw[ae];exact sub.1,λx hx=>?_⟩
 obtain⟨p,hp,rfl⟩:=List.mem_map.mp hx
 rw[Vi]
 exact List.mem_map.mpr ⟨p,List.mem_range.mpr (sub.2 p hp),rfl⟩
section
structure KpB (ok:Addr->Prop) (H:Hp) (ok':Addr->Prop) (H':Hp):Prop where
 l:∀a xs,ok a->H a=some (.lst xs)->ok' a/\H' a=some (.lst xs)
 t:∀a xs,H a=some (.tup xs)->H' a=some (.tup xs)
theorem Co(h:H b=u)(n:b≠a):upd H a o b=u:=by rw[Ai n];exact h
theorem KpB.same(S:Same H H'):KpB ok H ok H':=⟨λ_ _ o e=>⟨o,S _ _ e⟩,λ_ _ e=>S _ _ e⟩
theorem KpB.weak(h:∀a o,ok a->H a=some o->ok' a):KpB ok H ok' H:=⟨λa _ o e=>⟨h a _ o e,e⟩,λ_ _ e=>e⟩
theorem KpB.set(e:H s=some (.lst ys))(n:¬ ok s):KpB ok H ok (upd H s (.lst zs)):=
 ⟨λa xs o q=>⟨o,Co q (λz=>n (z▸o))⟩,λa xs q=>Co q (λz=>by rw[z,e] at q;cases q)⟩
theorem TermAt.keep(h:TermAt H v e)(k:∀a xs,H a=some (.tup xs)->H' a=some (.tup xs)):TermAt H' v e:=by
 obtain⟨T,u,rfl,h1,h2⟩:=h
 exact⟨T,u,rfl,k _ _ h1,k _ _ h2⟩
theorem BoxAt.keep(h:BoxAt H a b)(l:∀xs,H a=some (.lst xs)->H' a=some (.lst xs))(k:∀a xs,H a=some (.tup xs)->H' a=some (.tup xs)):BoxAt H' a b:=by
 obtain⟨es,e1,e2,e3⟩:=h
 exact⟨es,e1,l _ e2,λe he=>(e3 e he).keep k⟩
theorem BxAt.keep(h:BxAt ok H l bs)(k:KpB ok H ok' H'):BxAt ok' H' l bs:=by
 obtain⟨es,e1,o,e2,e3⟩:=h
 refine⟨es,e1,(k.l _ _ o e2).1,(k.l _ _ o e2).2,λe he=>?_⟩
 obtain⟨o1,n,b⟩:=e3 e he
 obtain⟨fs,f1,f2,f3⟩:=id b
 exact⟨(k.l _ _ o1 f2).1,n,b.keep (λxs q=>(k.l _ _ o1 q).2) k.t⟩
theorem BxAt.up(h:BxAt ok H l bs)(S:Same H H'):BxAt ok H' l bs:=h.keep (KpB.same S)
theorem BxAt.fr(S:Same H H1)(h:BxAt (fresh H1) H' l bs):BxAt (fresh H) H' l bs:=h.keep (KpB.weak λ_ _ o _=>S.free o)
theorem ao1(h:H p=none):BxAt (fresh H) (upd H p (.lst [])) p []:=⟨[],rfl,h,Ac,λe he=>by cases he⟩
theorem ao2(h:H p=none)(h2:upd H p (.lst []) q=none):BxAt (fresh H) (upd (upd H p (.lst [])) q (.lst [.ref p])) q [[]]:=by
 have n:p≠q:=Aj (Ac (H:=H) (a:=p) (o:=.lst [])) h2
 refine⟨[([],p)],rfl,(Same.upd h).free h2,Ac,λe he=>?_⟩
 have:e=([],p):=by simpa using he
 subst this
 exact⟨h,n,[],rfl,(Ai n).trans (Ac),λe he=>by cases he⟩
def Wk(e:Str×List Str):Dt:=.tup [Ka e.1,.tup (e.2.map Ka)]
def Ut(b:Sw):Dt:=.lst (b.map Wk)
def bxD(bs:List Sw):Dt:=.lst (bs.map Ut)
theorem ae0(a b:Str×List Str):deq (Wk a) (Wk b)=decide (a=b):=by
 unfold Wk deq D4
 rw[U3]
 unfold D4 deq
 rw[Gf U3]
 unfold D4
 rw[ez,bu,ay,decide_eq_true_iff,decide_eq_true_iff,decide_eq_true_iff]
 exact⟨λh=>Prod.ext h.1 h.2,λh=>by rw[h];exact⟨rfl,rfl⟩⟩
theorem ap3(a b:Sw):deq (Ut a) (Ut b)=decide (a=b):=by unfold Ut deq;exact Gf ae0 a b
theorem a72(a b:List Sw):deq (bxD a) (bxD b)=decide (a=b):=by unfold bxD deq;exact Gf ap3 a b
theorem a71(bs:List Sw):dep (bxD bs)<=40:=by
 have h1:∀e,dep (Wk e)<=2:=λe=>by
  have h1:=U2 e.1
  have h2:=Gd U2 e.2
  show mD (dep (Ka e.1)) (mD (Fj (e.2.map Ka)+1) 0)+1<=2
  exact fz (Nat.max_le.mpr ⟨by omega,Nat.max_le.mpr ⟨by omega,by omega⟩⟩)
 have h2:∀b,dep (Ut b)<=3:=λb=>by unfold Ut dep;exact fz (Gd h1 b)
 unfold bxD dep
 exact aw (fz (Gd h2 bs)) (by decide)
theorem Lj {α:Type}{f:α->Dt}{g:α->V}:∀ {es:List α},(∀e∈es,At K H (f e) (g e))->AtL K H (es.map f) (es.map g)
 |[],_=>Rm
 |e::es,h=>Ih (h e am) (Lj λx hx=>h x (aq _ hx))
theorem BoxAt.at_ {a:Addr}{b:Sw}(h:BoxAt H a b):At K H (Ut b) (.ref a):=by
 obtain⟨es,rfl,e2,e3⟩:=h
 unfold Ut
 rw[a_]
 refine Wv (SqL.of e2) (Lj λe he=>?_)
 obtain⟨T,u,ev,h1,h2⟩:=e3 e he
 rw[ev]
 exact bm3 (SqT.of h1) (Ih Zd (Ih (a58 (SqT.of h2)) Rm))
theorem BxAt.at_(h:BxAt ok H l bs):At K H (bxD bs) (.ref l):=by
 obtain⟨es,rfl,_,e2,e3⟩:=h
 unfold bxD
 rw[a_]
 exact Wv (SqL.of e2) (Lj λe he=>(e3 e he).2.2.at_)
theorem ao0(ha:BxAt ok H a as)(hb:BxAt ok' H b bs)(q:Q (.bl (if neg then !decide (as=bs) else decide (as=bs))) H):Av K neg (.ref a) (.ref b) H Q:=
 .inr (.inl ⟨bxD as,bxD bs,ha.at_,hb.at_,a71 as,by rw[a72];exact q⟩)
theorem Jc {α β:Type}{f:α->β}{es:List α}{i:Nat}{e e':α}(h:es[i]?=some e)(q:f e'=f e):(es.set i e').map f=es.map f:=by
 obtain⟨hi,rfl⟩:=List.getElem?_eq_some_iff.mp h
 rw[List.map_set,q]
 refine List.ext_getElem? λj=>?_
 rw[List.getElem?_set]
 split
 .rename_i e;subst e
  rw[if_pos (by rw[ae];exact hi),aj,h];rfl
 .rfl
variable {mk:List V->HO} {g:Addr} {es:List GE}
theorem GrE.has(h:GrE mk ok H g es)(ha:a∈gSs g es):∃xs,H a=some (.lst xs):=by
 rcases List.mem_cons.mp ha with rfl|ha
 .exact⟨_,h.at_⟩
 .obtain⟨e,he,rfl⟩:=List.mem_map.mp ha
  exact⟨_,(h.one e he).2.1⟩
theorem GrE.up(h:GrE mk ok H g es)(S:Same H H'):GrE mk ok H' g es:=
 ⟨h.o,S _ _ h.at_,h.nd,λe he=>let ⟨a,b,c,d,f⟩:=h.one e he;⟨S _ _ a,S _ _ b,c,d,f.up S⟩⟩
theorem GrE.weak(h:GrE mk ok H g es)(k:∀a o,ok a->H a=some o->ok' a):GrE mk ok' H g es:=
 ⟨k _ _ h.o h.at_,h.at_,h.nd,λe he=>let ⟨a,b,c,d,f⟩:=h.one e he;⟨a,b,k _ _ c b,d,f.keep (KpB.weak λx o q r=>⟨k x o q.1 r,q.2⟩)⟩⟩
theorem GrE.grow(h:GrE mk ok H g es)(hi:es[i]?=some e)(z:Str):GrE mk ok (upd H e.2.2.1 (A5 (e.1.1++[z]))) g (es.set i ((e.1.1++[z],e.1.2),e.2)):=by
 have he:=ag hi
 have eS:gSs g (es.set i ((e.1.1++[z],e.1.2),e.2))=gSs g es:=congrArg (g :: ·) (Jc hi rfl)
 have hs:e.2.2.1∈gSs g es:=aq _ (List.mem_map.mpr ⟨e,he,rfl⟩)
 have nd:=List.nodup_cons.mp h.nd
 have gs:g≠e.2.2.1:=λq=>nd.1 (q▸List.mem_map.mpr ⟨e,he,rfl⟩)
 have o:=h.one e he
 have kb:KpB (gOk ok g es) H (gOk ok g es) (upd H e.2.2.1 (A5 (e.1.1++[z]))):=KpB.set o.2.1 λq=>q.2 hs
 refine⟨h.o,?_,by rw[eS];exact h.nd,λx hx=>?_⟩
 .rw[Ai gs,Jc (f:=λe:GE=>V.ref e.2.1) (e':=((e.1.1++[z],e.1.2),e.2)) hi rfl];exact h.at_
 .unfold gOk
  rw[eS]
  show _/\_/\_/\_/\BxAt (gOk ok g es) _ _ _
  obtain⟨j,hj⟩:=List.mem_iff_getElem?.mp hx
  rw[List.getElem?_set] at hj
  by_cases q:i=j
  .rw[if_pos q] at hj
   split at hj
   .have:x=((e.1.1++[z],e.1.2),e.2):=(aM hj).symm
    subst this
    exact⟨Co (o.1) (λq=>o.2.2.2.1 (q▸hs)),Ac,o.2.2.1,o.2.2.2.1,o.2.2.2.2.keep kb⟩
   .cases hj
  .rw[if_neg q] at hj
   have ox:=h.one x (ag hj)
   have ne:x.2.2.1≠e.2.2.1:=λr=>q ((List.getElem?_inj (l:=es.map (·.2.2.1)) (by rw[ae];exact Al hi) nd.2).mp (by rw[aj,aj,hi,hj];exact congrArg a9 r.symm))
   exact⟨Co (ox.1) (λq=>ox.2.2.2.1 (q▸hs)),(Ai ne).trans (ox.2.1),ox.2.2.1,ox.2.2.2.1,ox.2.2.2.2.keep kb⟩
theorem GrE.snoc(h:GrE mk ok H g es)(fs:H s=none)(os:ok s)(hb:BxAt (gOk ok g es) H b bs)(S:Same H H1)(h1:H1 s=some (A5 ss))(hT:H1 T=some (mk [.ref s,.ref b]))(fT:H T=none)(Ts:T≠s) :
  GrE mk ok (upd H1 g (.lst (es.map (λe=>.ref e.2.1)++[.ref T]))) g (es++[((ss,bs),T,s,b)]):=by
 have eS:gSs g (es++[((ss,bs),T,s,b)])=gSs g es++[s]:=by unfold gSs;rw[au];rfl
 have out:∀ {a o},H a=some o -> ¬ a∈gSs g es -> ¬ a∈gSs g es++[s]:=λe n q=>(List.mem_append.mp q).elim n λq=>Aj e fs (by simpa using q)
 have ns:¬ s∈gSs g es:=λq=>by obtain⟨xs,e⟩:=h.has q;rw[fs] at e;cases e
 have nT:¬ T∈gSs g es:=λq=>by obtain⟨xs,e⟩:=h.has q;rw[fT] at e;cases e
 have gm:g∈gSs g es:=am
 have sg:s≠g:=λq=>ns (q▸gm)
 have kb:KpB (gOk ok g es) H (gOk ok g (es++[((ss,bs),T,s,b)])) (upd H1 g (.lst (es.map (λe=>.ref e.2.1)++[.ref T]))):=by
  refine⟨λa xs o e=>⟨⟨o.1,by rw[eS];exact out e o.2⟩,Co (S _ _ e) (λq=>o.2 (q▸gm))⟩,λa xs e=>?_⟩
  exact Co (S _ _ e) (λq=>by rw[q,h.at_] at e;cases e)
 refine⟨h.o,by rw[Ac,au];rfl,?_,λx hx=>?_⟩
 .rw[eS]
  exact List.nodup_append.mpr ⟨h.nd,by simp,λa ha c hc e=>ns ((show c=s from List.mem_singleton.mp hc)▸e▸ha)⟩
 .rw[eS]
  rcases List.mem_append.mp hx with hx|hx
  .obtain⟨a,c,d,e,f⟩:=h.one x hx
   have m1:x.2.2.1≠g:=λq=>(List.nodup_cons.mp h.nd).1 (q▸List.mem_map.mpr ⟨x,hx,rfl⟩)
   exact⟨Co (S _ _ a) (λq=>e (q▸gm)),(Ai m1).trans (S _ _ c),d,out a e,f.keep kb⟩
  .have:x=((ss,bs),T,s,b):=by simpa using hx
   subst this
   exact⟨Co hT (λq=>nT (q▸gm)),(Ai sg).trans (h1),os,λq=>(List.mem_append.mp q).elim nT λq=>Ts (by simpa using q),hb.keep kb⟩
theorem bn8(hD:ok D)(e:H D=some (.lst [])):GrE mk ok H D []:=⟨hD,e,List.nodup_cons.mpr ⟨(λh=>by cases h),eI⟩,λe he=>by cases he⟩
theorem aw3 {E:EK}{r:Addr}{te:DE}{rest:St}{pre:Sw}{es:List (Sw×Addr)}{R:Hp->Addr->Prop}(hr:H r=some (.lst (es.map λe=>.ref e.2)))(he:∀e∈es,BoxAt H e.2 e.1)(few:es.length<=1024)(fl:∀e∈es,e.1.length<=5)(ht:∀(H1:Hp)(a:Addr)(xs:List V)(Q1:VK),Same H H1->H1 a=some (.lst xs)->xs.length<=5->(∀H2 q (ys:List ((Str×List Str)×V)),Same H1 H2->H1 q=none->ys.map (·.1)=pre->H2 q=some (.lst (ys.map (·.2)++xs))->(∀y∈ys,TermAt H2 y.2 y.1)->Q1 (.ref q) H2)->te (some (.ref a)::rest) H1 Q1 E)(k:∀D H',Same H H'->H D=none -> ∀fs:List (Sw×Addr),fs.map (·.1)=(es.map (·.1)).map (pre ++ ·)->H' D=some (.lst (fs.map λy=>.ref y.2))->(∀y∈fs,y.2≠D/\H y.2=none/\BoxAt H' y.2 y.1)->R H' D) :
  ∀D,H D=none->Fa (Itl K r) (gdN 0) Bt te D (λH'=>R H' D) (none::rest) (upd H D (.lst [])) E:=by
 intro D hD
 refine B0 (Aq (es.map λe=>V.ref e.2)) (λm σ H'=>(∃v,σ=v::rest)/\Same H H'/\∃fs:List (Sw×Addr),fs.map (·.1)=((es.take m).map (·.1)).map (pre ++ ·)/\H' D=some (.lst (fs.map λy=>.ref y.2))/\∀y∈fs,y.2≠D/\H y.2=none/\BoxAt H' y.2 y.1)
  ⟨⟨_,rfl⟩,Same.upd hD,[],rfl,Ac,λx hx=>by cases hx⟩ (λm σ H' _ q=>q.2.1.seqL (SqL.of hr)) ?_ ?_
 .rintro m y σ H1 hy ⟨⟨v,rfl⟩,S1,fs,ef,eD,hf⟩
  obtain⟨⟨e,ea⟩,hm,rfl⟩:=Ak hy
  obtain⟨us,u1,u2,u3⟩:=he _ (ag hm)
  have le:e.length<=5:=fl _ (ag hm)
  have lm:=Al hm
  refine ht H1 ea _ _ S1 (S1 _ _ u2) (by rw[ae];have:=congrArg bH u1;rw[ae] at this;rw[this];exact le) λH2 q ys S2 hq ey eq hy=>?_
  have S12:=S1.trans S2
  have nq:q≠D:=(Aj eD hq).symm
  have eD2:=S2 _ _ eD
  have kt:∀a xs,H2 a=some (.tup xs)->upd H2 D (.lst ((fs.map λy=>V.ref y.2)++[.ref q])) a=some (.tup xs):=λa xs e=>Co e (λz=>by rw[z,eD2] at e;cases e)
  refine⟨_,eD2,?_,⟨_,rfl⟩,S12.set hD,fs++[(pre++e,q)],?_,?_,λy hy=>?_⟩
  .rw[ae]
   have:=congrArg bH ef
   rw[ae,ae,ae,aJ] at this
   exact aG (show fs.length<=1024 by omega) (by decide)
  .rw[au,ef,Ax hm,au];rfl
  .rw[Ac,au];rfl
  .rcases List.mem_append.mp hy with hy|hy
   .obtain⟨a1,a2,a3⟩:=hf y hy
    exact⟨a1,a2,(a3.keep (λxs e=>S2 _ _ e) (λa xs e=>S2 _ _ e)).keep (λxs e=>(Ai a1).trans (e)) kt⟩
   .have:y=(pre++e,q):=by simpa using hy
    subst this
    refine⟨nq,S1.free hq,ys++us,by rw[au,ey,u1],by rw[Ai nq,au];exact eq,λx hx=>?_⟩
    rcases List.mem_append.mp hx with hx|hx
    .exact (‹∀y∈ys,TermAt H2 y.2 y.1› x hx).keep kt
    .exact (u3 x hx).keep λa xs e=>kt a xs (S12 _ _ e)
 .rintro σ H1 ⟨_,S1,fs,ef,eD,hf⟩
  rw[ae,aO] at ef
  exact k D H1 S1 hD fs ef eD hf
theorem bm7 {H0 H3 H4:Hp}{B D:Addr}{fs gs:List (Sw×Addr)}(S3:Same H0 H3)(hB:H0 B=none)(e3:H3 B=some (.lst (fs.map λy=>.ref y.2)))(hf:∀y∈fs,y.2≠B/\H0 y.2=none/\BoxAt H3 y.2 y.1)(S4:Same H3 H4)(hg:∀y∈gs,y.2≠D/\H3 y.2=none/\BoxAt H4 y.2 y.1) :
  Same H0 (upd H4 B (.lst ((fs.map λy=>.ref y.2)++gs.map λy=>.ref y.2)))/\upd H4 B (.lst ((fs.map λy=>.ref y.2)++gs.map λy=>.ref y.2)) B=some (.lst ((fs++gs).map λy=>.ref y.2))/\∀y∈fs++gs,y.2≠B/\H0 y.2=none/\BoxAt (upd H4 B (.lst ((fs.map λy=>.ref y.2)++gs.map λy=>.ref y.2))) y.2 y.1:=by
 have e4:=S4 _ _ e3
 refine⟨(S3.trans S4).set hB,by rw[Ac,au],λy hy=>?_⟩
 have kt:∀a xs,H4 a=some (.tup xs)->upd H4 B (.lst ((fs.map λy=>V.ref y.2)++gs.map λy=>V.ref y.2)) a=some (.tup xs):=λa xs e=>Co e (λz=>by rw[z,e4] at e;cases e)
 rcases List.mem_append.mp hy with hy|hy
 .obtain⟨a1,a2,a3⟩:=hf y hy
  exact⟨a1,a2,(a3.keep (λxs e=>S4 _ _ e) λa xs e=>S4 _ _ e).keep (λxs e=>Co e a1) kt⟩
 .obtain⟨a1,a2,a3⟩:=hg y hy
  have nB:y.2≠B:=(Aj e3 a2).symm
  exact⟨nB,S3.free a2,a3.keep (λxs e=>Co e nB) kt⟩
end
section
theorem Qt(l:List Str)(z:Str):A5 (l++[z])=.lst (l.map V.str++[.str z]):=by unfold A5;rw[au];rfl
theorem b58(Z:Ar K t):OkD K bk7 (Bc K t) bl (t.f 10) (t.d 10) (a06 K t):=by
 refine Bn (ci3 K t) λvs H Q E h=>?_
 .obtain⟨g,b,z,ok,es,bs,rfl,G,B,fr,l4,s4,k⟩:=h;refine⟨rfl,?_⟩
  refine .inl ⟨⟨_,SqL.of G.at_⟩,?_⟩
  refine Ba (Aq (es.map λe=>V.ref e.2.1)) (λi σ H'=>(∃v3 v4,σ=[some (.ref g),some (.str z),some (.ref b),v3,v4])/\H'=H/\∀(j:Nat) e,j<i->es[j]?=some e->e.1.2≠bs)
   ⟨⟨_,_,rfl⟩,rfl,λj e hj=>absurd hj (dm _)⟩ (λi σ H' _ q=>by rw[q.2.1];exact SqL.of G.at_) ?_ ?_
  .rintro i x σ H1 hx ⟨⟨v3,v4,rfl⟩,rfl,no⟩
   obtain⟨e,hi,rfl⟩:=Ak hx
   obtain⟨o1,o2,o3,o4,o5⟩:=G.one e (ag hi)
   refine⟨_,.inl (SqT.of o1),rfl,ao0 o5 B ?_⟩
   by_cases q:e.1.2=bs
   .refine K0 (decide_eq_true q) ⟨.inl ⟨rfl,_,SqL.of o2⟩,_,_,_,rfl,rfl,o2,?_,?_⟩
    .rw[ae];exact aG (s4 e (ag hi)) (by decide)
    have:=G.grow hi z
    rw[Qt] at this
    refine k _ _ ?_ this λa o n ea=>?_
    .rw[Ul (i:=i) (g:=e.1) (by rw[aj,hi];rfl) q λj h hj hh=>?_,List.map_set]
     obtain⟨e2,h2,rfl⟩:=Ak hh
     exact no j e2 hj h2
    .exact Co ea (λq=>n (q▸o3))
   .refine B4 (decide_eq_false q) ⟨⟨_,_,rfl⟩,rfl,λj e2 hj h2=>?_⟩
    rcases eY j i with r|r
    .exact no j e2 r h2
    .have:j=i:=by omega
     subst this
     rw[hi] at h2
     cases h2
     exact q
  .rintro σ H1 ⟨⟨v3,v4,rfl⟩,rfl,no⟩
   rw[ae] at no
   refine .inl ⟨.inl ⟨rfl,_,SqL.of G.at_⟩,(show 1<=sizeLine by decide),λs hs=>⟨(show 2<=sizeLine by decide),λT hT=>⟨g,_,_,rfl,rfl,((Same.upd hs).trans (Same.upd hT)) _ _ G.at_,?_,?_⟩⟩⟩
   .rw[ae];exact aG l4 (by decide)
   have Ts:T≠s:=λq=>by rw[q,Ac] at hT;cases hT
   have S:=(Same.upd hs).trans (Same.upd (o:=.tup [.ref s,.ref b]) hT)
   refine k _ _ ?_ (G.snoc (ss:=[z]) hs (fr s hs) B S ((Same.upd hT) _ _ Ac) Ac ((Same.upd hs).free hT) Ts) λa o n ea=>?_
   .rw[au,Pr λh hh=>?_]
    .rfl
    .obtain⟨e,he,rfl⟩:=List.mem_map.mp hh
     obtain⟨j,hj⟩:=List.mem_iff_getElem?.mp he
     exact no j e (Al hj) hj
   .exact Co (S _ _ ea) (λq=>n (q▸G.o))
theorem an8(h:m &&& c=0):∀ws,bxF sw c ws m=[]
 |[]=>by unfold bxF;rw[if_pos h]
 |_::_=>by unfold bxF;rw[if_pos h]
theorem a65(h0:¬ m &&& c=0)(h:Bu m c=0):∀ws,bxF sw c ws m=[[]]
 |[]=>by unfold bxF;rw[if_neg h0]
 |_::_=>by unfold bxF;rw[if_neg h0,if_pos h]
theorem an7(hw:okSw sw)(hi:sw[i]?=some x)(h0:¬ m &&& c=0)(h:¬ Bu m c=0):bxF sw c (x.1::ws) m=Iu x.1 (grF (Ae sw) i (bxF sw c ws) m x.2):=by
 conv=>lhs;unfold bxF
 rw[if_neg h0,if_neg h,Lx hw hi,Bm hi hw.2.2.1]
theorem b29(h:m<=4 ^ n)(hn:n<=5):m<=1024:=aw h (cA (j:=5) (by decide) hn)
theorem ar6 {f:List Str×List Sw->List Sw}{gs:Gs}(l4:gs.length<=4)(h:∀g∈gs,(f g).length<=1024)(k:Nat):((gs.take k).flatMap f).length<=4096:=by
 rw[kS]
 refine aw (Yw λg hg=>h g (fj hg)) (hJ 1024 (aw ?_ l4))
 rw[aJ]
 omega
theorem ae5 {α β:Type}{l:List α}{i:Nat}{x:α}(h:l[i]?=some x)(f:α->List β):(l.take (i+1)).flatMap f=(l.take i).flatMap f++f x:=by
 rw[bF,h,cq,dH,dF,gU,b7]
theorem b59(Z:Ar K t)(g:DOk K mg D_zm.q D_zm.st (t.f 11) (t.d 11) D_zm.ps)(g2:DOk K mg D_zk.q D_zk.st (t.f 44) (t.d 44) D_zk.ps)(T:Tab P w K mg base 1 (gbT (Bc K t) 1) bl):∀n,FnOk P w K mg base CX0 (1+2 * n+1) (t.f 44) (t.d 44) D_zk.ps (Yd K t n)/\FnOk P w K mg base CX0 (1+2 * n+2) (t.f 11) (t.d 11) D_zm.ps (Tj K t n):=by
 refine bz4 (N1:=D_zm.N) (N2:=D_zk.N) (Tj K t) (Yd K t) (ci4 K t) (ci2 K t) g g2 (ScOk.fn (by decide +kernel)) (by decide +kernel) (ScOk.fn (by decide +kernel)) (by decide +kernel) T 40 (λn=>by kernel_rfl) (λn=>by kernel_rfl) (λn vs H Q E h=>?_) (λn vs H Q E h=>?_) (λvs H Q E h=>?_) (λn vs H Q E h=>?_) (λn vs H Q E h=>?_)
 .obtain⟨p,l,c,m,ws,sw,ζ,rfl,_⟩:=h;rfl
 .obtain⟨p,l,c,m,i,x,ws,sw,ζ,rfl,_⟩:=h;rfl
 .obtain⟨p,l,c,m,i,x,ws,sw,ζ,_,_,_,_,_,h,_⟩:=h;exact absurd h (dm _)
 .obtain⟨p,l,c,m,ws,sw,ζ,rfl,hP,hw,hm,hl,ln,l5,hin,hu,k⟩:=h
  have e1:aX (m:Int) (c:Int)=((m &&& c:Nat):Int):=A7 m c
  have e2:aX (m:Int) (bw (c:Int))=(Bu m c:Nat):=Vm m c
  refine Gj (λe=>?_) (λe=>?_)
  .have e:aX (m:Int) (c:Int)=0:=by simpa using e
   rw[e1] at e
   refine⟨(show 0<=sizeLine by decide),λq hq=>k _ q (Same.upd hq) ?_⟩
   rw[an8 (by omega)]
   exact ao1 hq
  have n1:¬ aX (m:Int) (c:Int)=0:=by simpa using e
  rw[e1] at n1
  have n1:¬ m &&& c=0:=by omega
  refine Gj (λe=>?_) (λe=>?_)
  .have e:aX (m:Int) (bw (c:Int))=0:=by simpa using e
   rw[e2] at e
   refine⟨(show 0<=sizeLine by decide),λq hq=>⟨(show 1<=sizeLine by decide),λr hr=>k _ r ((Same.upd hq).trans (Same.upd hr)) ?_⟩⟩
   rw[a65 n1 (by omega)]
   exact ao2 hq hr
  have n2:¬ aX (m:Int) (bw (c:Int))=0:=by simpa using e
  rw[e2] at n2
  have n2:¬ Bu m c=0:=by omega
  cases ws with
  |nil=>exact absurd (Wm hm hu n1) n2
  |cons y ws=>
   obtain⟨i,x,hi,ex⟩:=Ls (hin y am)
   subst ex
   have ln:ws.length+1<=n:=ln
   have l5:ws.length+1<=5:=l5
   have hin':∀y∈ws,y∈sw.map (·.1):=λy hy=>hin y (aq _ hy)
   refine⟨p,l,c,m,i,x,ws,sw,ζ,rfl,hP,hw,hm,hl,by omega,by omega,hi,hin',hu,λH1 g es S1 G eg=>?_⟩
   have GI:=Zq (Ae sw) i m (bxF sw c ws) x.2
   rw[an7 hw hi n1 n2] at k
   rw[<- eg] at k GI
   have x4:=(hw.sets x (ag hi)).2.2
   have el:es.length<=4:=by have:=GI.len;rw[ae] at this;omega
   have bx:∀e∈es,e.1.2.length<=1024/\∀b∈e.1.2,b.length<=5:=λe he=>by
    obtain⟨q,eq⟩:=(GI.one e.1 (List.mem_map.mpr ⟨e,he,rfl⟩)).2.2
    rw[eq]
    have:=Zi hw (c:=c) q hin'
    exact⟨b29 this.1 (by omega),λb hb=>aw (this.2 b hb).1 (by omega)⟩
   refine .inl ⟨_,.inl (SqL.of G.at_),?_⟩
   refine Gj (λe=>?_) (λe=>?_)
   .have e:((es.map λe=>V.ref e.2.1).length:Int)=1:=by simpa using e
    have e:es.length=1:=by rw[ae] at e;omega
    obtain⟨e0,rfl⟩:=List.length_eq_one_iff.mp e
    obtain⟨o1,o2,o3,o4,o5⟩:=G.one e0 am
    refine⟨_,.ref e0.2.1,.inl (SqL.of G.at_),A3 (j:=0) rfl,_,.ref e0.2.2.2,.inr (SqT.of o1),A3 (j:=1) rfl,k H1 _ S1 ?_⟩
    have:Iu x.1 ([e0].map (·.1))=e0.1.2:=by unfold Iu;rw[if_pos (show ([e0].map (·.1)).length=1 from rfl)];exact b7 _
    rw[this]
    exact o5.keep (KpB.weak λa o q _=>q.1)
   .have e:¬ ((es.map λe=>V.ref e.2.1).length:Int)=1:=by simpa using e
    have ne1:¬ (es.map (·.1)).length=1:=by rw[ae] at e ⊢;omega
    have ej:Iu x.1 (es.map (·.1))=(es.map (·.1)).flatMap λg=>g.2.map ((x.1,g.1) :: ·):=by unfold Iu;rw[if_neg ne1]
    rw[ej] at k
    refine⟨(show 0<=sizeLine by decide),λB hB=>?_⟩
    have SB:=Same.upd (o:=.lst []) hB
    have eB:upd H1 B (.lst []) B=some (.lst []):=Ac
    show Ag _ _ _ [some (.ref p),some (.int (c:Int)),some (.int (m:Int)),some (.ref l),some (.ref g),some (.ref B),none,none] _
    generalize upd H1 B (.lst [])=H2 at SB eB ⊢
    refine .inl ⟨⟨_,SqL.of (SB _ _ G.at_)⟩,?_⟩
    refine Ba (Aq (es.map λe=>V.ref e.2.1)) (λj σ H'=>(∃v6 v7,σ=[some (.ref p),some (.int (c:Int)),some (.int (m:Int)),some (.ref l),some (.ref g),some (.ref B),v6,v7])/\Same H1 H'/\∃fs:List (Sw×Addr),fs.map (·.1)=((es.map (·.1)).take j).flatMap (λg=>g.2.map ((x.1,g.1) :: ·))/\H' B=some (.lst (fs.map λy=>.ref y.2))/\∀y∈fs,y.2≠B/\H1 y.2=none/\BoxAt H' y.2 y.1)
     ⟨⟨_,_,rfl⟩,SB,[],rfl,eB,λy hy=>by cases hy⟩ (λj σ H' _ q=>q.2.1.seqL (SqL.of G.at_)) ?_ ?_
    .rintro j v σ H3 hv ⟨⟨v6,v7,rfl⟩,S3,fs,ef,e3,hf⟩
     obtain⟨e,hj,rfl⟩:=Ak hv
     have hj2:(es.map (·.1))[j]?=some e.1:=by rw[aj,hj];rfl
     obtain⟨o1,o2,o3,o4,us,u1,u2,u3,u4⟩:=G.one e (ag hj)
     have bxe:=bx e (ag hj)
     refine⟨_,.inl (SqT.of (S3 _ _ o1)),rfl,.inl ⟨rfl,_,SqL.of e3⟩,.inl ⟨⟨_,SqL.of (S3 _ _ u3)⟩,?_⟩⟩
     refine aw3 (pre:=[(x.1,e.1.1)]) (S3 _ _ u3) (λy hy=>(u4 y hy).2.2.keep (λxs q=>S3 _ _ q) λa xs q=>S3 _ _ q) ?_ (λy hy=>bxe.2 _ (by rw[<- u1];exact List.mem_map.mpr ⟨y,hy,rfl⟩)) ?_ ?_
     .have:=congrArg bH u1
      rw[ae] at this
      rw[this];exact bxe.1
     .intro H4 a xs Q1 S4 ea la kk
      have S34:=S3.trans S4
      refine⟨_,.str x.1,.inl (SqL.of ((S1.trans S34) _ _ hl)),A3 (j:=0) rfl,_,.inl ⟨SqL.of (S34 _ _ o2),λu hu=>⟨(show 2<=sizeLine by decide),λT hT=>⟨(show 1<=sizeLine by decide),λq1 hq1=>.inl ⟨q1,a,_,_,rfl,rfl,Ac,(((Same.upd hu).trans (Same.upd hT)).trans (Same.upd hq1)) _ _ ea,?_,λq hq=>?_⟩⟩⟩⟩⟩
      .exact aw (show 1+xs.length<=6 by omega) (by decide)
      have Su:=Same.upd (o:=Dc e.1.1) hu
      have ST:=Same.upd (o:=.tup [.str x.1,.ref u]) hT
      have S1':=Same.upd (o:=.lst [.ref T]) hq1
      have Sq:=Same.upd (o:=.lst ([.ref T]++xs)) hq
      refine kk _ q [((x.1,e.1.1),.ref T)] (((Su.trans ST).trans S1').trans Sq) (((Su.trans ST).trans S1').free hq) rfl Ac λy hy=>?_
      have:y=((x.1,e.1.1),.ref T):=by simpa using hy
      subst this
      exact⟨T,u,rfl,(S1'.trans Sq) _ _ Ac,((ST.trans S1').trans Sq) _ _ Ac⟩
     .intro D H4 S4 fD gs eg4 eD hg
      have e4:=S4 _ _ e3
      obtain⟨x1,x2,x3⟩:=bm7 S3 hB e3 hf S4 hg
      refine⟨B,D,_,_,rfl,rfl,e4,eD,?_,⟨_,_,rfl⟩,x1,fs++gs,?_,x2,x3⟩
      .have h1:=congrArg bH ef
       have h2:=congrArg bH eg4
       have h3:=ar6 (f:=λg=>g.2.map ((x.1,g.1) :: ·)) (gs:=es.map (·.1)) (by rw[ae];exact el) (λg hg=>by obtain⟨e',he',rfl⟩:=List.mem_map.mp hg;rw[ae];exact (bx e' he').1) j
       rw[ae] at h1
       rw[ae,ae,u1] at h2
       rw[ae,ae]
       have:=bxe.1
       exact aw (show fs.length+gs.length<=5120 by omega) (by decide)
      .rw[au,ef,eg4,ae5 hj2,u1];rfl
    .rintro σ H3 ⟨⟨v6,v7,rfl⟩,S3,fs,ef,e3,hf⟩
     rw[ae,eJ (by rw[ae];exact ak _)] at ef
     exact .inl (k H3 B (S1.trans S3) ⟨fs,ef,S1.free hB,e3,λy hy=>⟨S1.free (hf y hy).2.1,(hf y hy).1,(hf y hy).2.2⟩⟩)
 .obtain⟨p,l,c,m,i,x,ws,sw,ζ,rfl,hP,hw,hm,hl,ln,l5,hi,hin,hu,k⟩:=h
  refine⟨(show 0<=sizeLine by decide),λD hD=>?_⟩
  have SD:=Same.upd (o:=.lst []) hD
  have eD:upd H D (.lst []) D=some (.lst []):=Ac
  show Ag _ _ _ [some (.ref p),some (.int (c:Int)),some (.int (m:Int)),some (.ref l),some (.ref D),none,none,none] _
  generalize upd H D (.lst [])=H1 at SD eD ⊢
  obtain⟨dx,d,la,nn,s,kx,bb,h⟩:=id hP
  refine⟨p,dx,_,⟨t.c_zbm,bo3 K t⟩,rfl,.head _,SD _ _ h.ins.2,rfl,⟨aC rfl,aC rfl⟩,_,_,.inl (SqL.of (SD _ _ hl)),A3 (j:=0) rfl,p,i,x,sw,ζ,rfl,hP.mono (Kp.same SD),hw,hi,λH2 r S2 ⟨Ts,er,et,tw⟩=>?_⟩
  rw[ae] at et
  have x4:=(hw.sets x (ag hi)).2.2
  have eD2:=S2 _ _ eD
  have S02:=SD.trans S2
  have nr:r≠D:=λq=>by rw[q,eD2] at er;have:=aM er;injection this with this;have:=congrArg bH this;rw[ae,et] at this;have:=(hw.sets x (ag hi)).2.1;simp at *;omega
  refine .inl ⟨⟨_,SqL.of er⟩,?_⟩
  refine Ba (Aq (Ts.map V.ref)) (λj σ H'=>(∃v5 v6 v7,σ=[some (.ref p),some (.int (c:Int)),some (.int (m:Int)),some (.ref l),some (.ref D),v5,v6,v7])/\(∀a o,¬ (H2 a=none\/a=D)->H2 a=some o->H' a=some o)/\∃es,GrE .tup (λa=>H2 a=none\/a=D) H' D es/\es.map (·.1)=grF (Ae sw) i (bxF sw c ws) m (x.2.take j))
   ⟨⟨_,_,_,rfl⟩,λa o _ e=>e,[],bn8 (.inr rfl) eD2,rfl⟩ (λj σ H' _ q=>SqL.of (q.2.1 r _ (λz=>z.elim (λz=>by rw[er] at z;cases z) nr) er)) ?_ ?_
  .rintro j v σ H3 hv ⟨⟨v5,v6,v7,rfl⟩,F3,es,G,eg⟩
   obtain⟨T,hT,rfl⟩:=Ak hv
   have hz:x.2[j]?=some (x.2[j]'(by rw[<- et];exact Al hT)):=af _
   generalize x.2[j]'(by rw[<- et];exact Al hT)=z at hz
   have tT:=tw j (.str z) (.int (Cr (Ae sw) i z)) T (by rw[aj,hz];rfl) hT
   have up:∀ {a o},H a=some o->H3 a=some o:=λ{a o} e=>F3 a o (λq=>q.elim (λq=>by rw[S02 _ _ e] at q;cases q) λq=>Aj e hD q) (S02 _ _ e)
   have tT3:=F3 T _ (λq=>q.elim (λq=>by rw[tT] at q;cases q) λq=>by rw[q,eD2] at tT;cases tT) tT
   have st:grF (Ae sw) i (bxF sw c ws) m (x.2.take (j+1))=Dq (Ae sw) i (bxF sw c ws) m (grF (Ae sw) i (bxF sw c ws) m (x.2.take j)) z:=C4 hz _ _
   have ek:aX (m:Int) (Cr (Ae sw) i z)=((m &&& Be (Ae sw) i z:Nat):Int):=by rw[J0,A7]
   refine⟨_,.inl (SqT.of tT3),rfl,Gj (λe=>?_) (λe=>?_)⟩
   .have e:¬ aX (m:Int) (Cr (Ae sw) i z)=0:=by simpa using e
    rw[ek] at e
    have ne:¬ m &&& Be (Ae sw) i z=0:=by omega
    refine .inl ⟨_,SqL.of (up hl),λL hL=>?_⟩
    have SL:=Same.upd (o:=.lst (E6 ((x.1::ws).map V.str) (some 1) none)) hL
    have eL:upd H3 L (.lst (E6 ((x.1::ws).map V.str) (some 1) none)) L=some (A5 ws):=by
     rw[Ac,show (1:Int)=((1:Nat):Int) from rfl,G0];rfl
    generalize upd H3 L (.lst (E6 ((x.1::ws).map V.str) (some 1) none))=H4 at SL eL ⊢
    refine⟨p,L,c,m &&& Be (Ae sw) i z,ws,sw,ζ,?_,hP.mono (λa o q=>⟨trivial,SL _ _ (up q.2)⟩),hw,F9 hm,eL,by omega,by omega,hin,Wn hw hi hu (ag hz),λH5 b S5 B5=>?_⟩
    .show [V.ref p,.int (c:Int),.int (aX (m:Int) (Cr (Ae sw) i z)),.ref L]=_
     rw[ek]
    have G5:=(G.up SL).up S5
    have fr:∀a,H3 a=none->(H2 a=none\/a=D):=λa e=>iZ λq=>by
     cases h2:H2 a with
     |none=>exact q (.inl h2)
     |some o=>rw[F3 a o q h2] at e;cases e
    have GI:=Zq (Ae sw) i m (bxF sw c ws) (x.2.take j)
    rw[<- eg] at GI
    have lt:(x.2.take j).length<=4:=by rw[aJ];omega
    refine⟨D,b,z,_,es,_,rfl,G5,B5.keep (KpB.weak λa o q _=>⟨fr a (SL.free q),λq2=>?_⟩),λa e=>fr a ((SL.trans S5).free e),?_,λe he=>?_,λH6 es' eg' G6 F6=>?_⟩
    .obtain⟨xs,hx⟩:=(G.up SL).has q2
     rw[show H4 a=none from q] at hx
     cases hx
    .have:=GI.len;rw[ae] at this;omega
    .exact aw (GI.one e.1 (List.mem_map.mpr ⟨e,he,rfl⟩)).1 lt
    refine⟨⟨_,_,_,rfl⟩,λa o n e=>F6 a o n ((SL.trans S5) _ _ (F3 a o n e)),es',G6,?_⟩
    rw[eg',st,eg]
    unfold Dq
    rw[if_neg ne]
   .have e:aX (m:Int) (Cr (Ae sw) i z)=0:=by simpa using e
    rw[ek] at e
    refine⟨⟨_,_,_,rfl⟩,F3,es,G,?_⟩
    rw[st,eg]
    unfold Dq
    rw[if_pos (by omega)]
  .rintro σ H3 ⟨⟨v5,v6,v7,rfl⟩,F3,es,G,eg⟩
   rw[ae,et,aO] at eg
   refine .inl (k H3 D es (λa o e=>F3 a o (λq=>q.elim (λq=>by rw[S02 _ _ e] at q;cases q) λq=>Aj e hD q) (S02 _ _ e)) (G.weak λa o q _=>?_) eg)
   exact q.elim (λq=>S02.free q) λq=>q▸hD
theorem br4(Z:Ar K t):OkD K al3 (Bc K t) bl (t.f 12) (t.d 12) (Yo K t):=by
 refine Bn (cb7 K t) λvs H Q E h=>?_
 .obtain⟨p,c,w,sw,ζ,rfl,hP,hw,hc,hww,k⟩:=h;refine⟨rfl,?_⟩
  obtain⟨u1,u2,u3⟩:=E0 hw c w
  have l5:=hw.2.1
  exact⟨p,c,w,sw,ζ,rfl,hP,hw,hc,hww,λH1 l S1 fl el=>⟨p,l,c,w,_,sw,ζ,rfl,hP.mono (Kp.same S1),hw,hww,el,by omega,by omega,u3,u1,λH2 r S2 B2=>k H2 r (S1.trans S2) (B2.fr S1)⟩⟩
end
section
theorem G4(h:∀p∈ps,p.length<=n)(hz:z.length=1)(hm:ps.length<=m):(bI z ps).length<=m * n+m/\(ps.map (·.length)).sum+ps.length * z.length<=m * n+m:=by
 have h1:=Yw (f:=λp:Str=>p.length) h
 have h2:ps.length * n<=m * n:=hJ _ hm
 have e:(ps.map (·.length)).sum+ps.length * z.length<=m * n+m:=by rw[hz,Nat.mul_one];omega
 refine⟨aw ?_ e,e⟩
 show (jc z ps).length<=_
 rw[gS]
 exact StrLaws.join_length_le z ps
theorem c1:(("," : Str)).length=1:=by decide +kernel
theorem c2:(("=" : Str)).length=1:=by decide +kernel
theorem c3:(("&" : Str)).length=1:=by decide +kernel
theorem c4:(("|" : Str)).length=1:=by decide +kernel
theorem Wl(h:okE e):(bI "," e.2).length<=36/\(Aw e).length<=45/\(e.2.map (·.length)).sum+e.2.length * (("," : Str)).length<=16777216:=by
 have:=G4 (ps:=e.2) (z := ",") (n:=8) (m:=4) h.2.2 c1 h.2.1
 refine⟨this.1,?_,aw this.2 (by decide)⟩
 unfold Aw
 rw[Dd,Dd,c2]
 have:=h.1
 omega
theorem Ro {b:Sw}(h:Vn b):(A9 b).length<=230/\((b.map Aw).map (·.length)).sum+(b.map Aw).length * (("&" : Str)).length<=16777216:=by
 have:=G4 (ps:=b.map Aw) (z := "&") (n:=45) (m:=5) (λp hp=>by obtain⟨e,he,rfl⟩:=List.mem_map.mp hp;exact (Wl (h.2 e he)).2.1) c3 (by rw[ae];exact h.1)
 exact⟨this.1,aw this.2 (by decide)⟩
theorem ao9 {bs:List Sw}(l:bs.length<=1024)(h:∀b∈bs,Vn b):((bs.map A9).map (·.length)).sum+(bs.map A9).length * (("|" : Str)).length<=16777216:=
 aw (G4 (ps:=bs.map A9) (z := "|") (n:=230) (m:=1024) (λp hp=>by obtain⟨e,he,rfl⟩:=List.mem_map.mp hp;exact (Ro (h e he)).1) c4 (by rw[ae];exact l)).2 (by decide)
theorem br3(Z:Ar K t):OkD K al2 (Bc K t) bl (t.f 13) (t.d 13) (Yn K t):=by
 refine Bn (cb6 K t) λvs H Q E h=>?_
 .obtain⟨u,e,rfl,hu,ho,k⟩:=h;refine⟨rfl,?_⟩
  obtain⟨l1,l2,l3⟩:=Wl ho
  have l0:=ho.1
  have big:(100:Nat)<=sizeLine:=by decide
  refine⟨rfl,_,u,e.2,rfl,rfl,.inr (SqT.of hu),l3,?_⟩
  refine⟨by omega,?_,?_,by omega,?_,?_,?_⟩
  .rw[fE];omega
  .rw[fE,Dd,c2];omega
  .rw[fE,Dd,Dd,c2];omega
  .rw[fE,Dd,Dd,c2];omega
  .show Q (.str (((cJ++e.1) ++ "=")++bI "," e.2)) H
   rw[fE]
   exact k
theorem Rc {E:EK}{H:Hp}{r:Addr}{g:DG}{te:DE}{σ0:St}{α:Type}{es:List α}{v:α->V}{f:α->Str}{I:St->Prop}{R:Hp->Addr->Prop}(hr:H r=some (.lst (es.map v)))(few:es.length<=5000)(h0:I σ0)(ht:∀e∈es,∀(H1:Hp)(σ:St)(Q:St->VK),Same H H1->I σ->(∀ σ2 H2,Same H1 H2->I σ2->Q σ2 (.str (f e)) H2)->g (v e) σ H1 λσ3 H3=>te σ3 H3 (Q σ3) E)(k:∀D H',Same H H'->H D=none->H' D=some (A5 (es.map f))->R H' D) :
  ∀D,H D=none->Fa (Itl K r) g Bt te D (λH'=>R H' D) σ0 (upd H D (.lst [])) E:=by
 intro D hD
 refine B0 (Aq (es.map v)) (λm σ H'=>I σ/\Same H H'/\H' D=some (A5 ((es.take m).map f))) ⟨h0,Same.upd hD,Ac⟩ (λm σ H' _ q=>q.2.1.seqL (SqL.of hr)) ?_ ?_
 .rintro m x σ H1 hx ⟨i1,S1,eD⟩
  obtain⟨e,hm,rfl⟩:=Ak hx
  refine ht e (ag hm) H1 σ _ S1 i1 λσ2 H2 S2 i2=>⟨_,S2 _ _ eD,?_,i2,(S1.trans S2).set hD,?_⟩
  .rw[ae,ae,aJ]
   exact aG (show _<=5000 by omega) (by decide)
  .rw[Ac,Ax hm,Qt]
 .rintro σ H1 ⟨_,S1,eD⟩
  rw[ae,aO] at eD
  exact k D H1 S1 hD eD
theorem bs2(Z:Ar K t):OkD K am1 (Bc K t) bl (t.f 14) (t.d 14) (Tn K t):=by
 refine Bn (cc5 K t) λvs H Q E h=>?_
 .obtain⟨a,b,rfl,⟨es,e1,e2,e3⟩,ho,k⟩:=h;refine⟨rfl,?_⟩
  have ln:es.length=b.length:=by rw[<- e1,ae]
  refine⟨rfl,.inl ⟨⟨_,SqL.of e2⟩,?_⟩⟩
  refine Rc (f:=λe=>Aw e.1) (I:=λσ=>∃a b,σ=[a,b]) e2 (by have:=ho.1;omega) ⟨_,_,rfl⟩ (λe he H1 σ Q1 S1 i1 kk=>?_) λD H1 S1 fD eD=>?_
  .obtain⟨a,b,rfl⟩:=i1
   obtain⟨T,u,ev,h1,h2⟩:=e3 e he
   rw[ev]
   exact⟨_,.inl (SqT.of (S1 _ _ h1)),rfl,u,e.1,rfl,S1 _ _ h2,ho.2 _ (by rw[<- e1];exact List.mem_map.mpr ⟨e,he,rfl⟩),kk _ _ (Same.refl _) ⟨_,_,rfl⟩⟩
  .have em:es.map (λe=>Aw e.1)=b.map Aw:=by rw[<- e1,a_];rfl
   rw[em] at eD
   exact⟨_,D,_,rfl,rfl,.inl (SqL.of eD),(Ro ho).2,k _ S1⟩
theorem bn4 {H:Hp}{ok:Addr->Prop}{l:Addr}{bs:List Sw}{Q:VK}(hb:BxAt ok H l bs)(k:∀H',Same H H'->Q (.bl (decide (bs=[]))) H'):∀p,H p=none->Av K false (.ref l) (.ref p) (upd H p (.lst [])) Q:=
 λp hp=>ao0 (hb.up (Same.upd hp)) (ao1 hp) (k _ (Same.upd hp))
theorem bn5 {H:Hp}{ok:Addr->Prop}{l:Addr}{bs:List Sw}{Q:VK}(hb:BxAt ok H l bs)(k:∀H',Same H H'->Q (.bl (decide (bs=[[]]))) H'):∀p,H p=none->1<=sizeLine/\∀q,upd H p (.lst []) q=none->Av K false (.ref l) (.ref q) (upd (upd H p (.lst [])) q (.lst [.ref p])) Q:=
 λp hp=>⟨by decide,λq hq=>ao0 (hb.up ((Same.upd hp).trans (Same.upd hq))) (ao2 hp hq) (k _ ((Same.upd hp).trans (Same.upd hq)))⟩
theorem ad2 {bs:List Sw}(h1:¬ bs=[])(h2:¬ bs=[[]]):Ct bs=bI "|" (bs.map A9):=by unfold Ct;rw[if_neg h1,if_neg h2]
theorem bm8 {sw:Sw}(hw:okSw sw)(c w:Nat):(bxF sw c (Cb sw c w) w).length<=1024/\∀b∈bxF sw c (Cb sw c w) w,Vn b/\∀e∈b,e.1∈sw.map (·.1):=by
 obtain⟨_,u2,u3⟩:=E0 hw c w
 have:=Zi hw (c:=c) w u3
 have l5:=hw.2.1
 exact⟨b29 this.1 (by omega),λb hb=>⟨⟨aw (this.2 b hb).1 (by omega),λe he=>((this.2 b hb).2 e he).2⟩,λe he=>((this.2 b hb).2 e he).1⟩⟩
theorem br2(Z:Ar K t):OkD K al1 (Bc K t) bl (t.f 15) (t.d 15) (Nr K t):=by
 refine Bn (cb5 K t) λvs H Q E h=>?_
 .obtain⟨p,c,w,sw,ζ,rfl,hP,hw,hc,hww,k⟩:=h;refine⟨rfl,?_⟩
  obtain⟨b1,b2⟩:=bm8 hw c w
  refine⟨p,c,w,sw,ζ,rfl,hP,hw,hc,hww,λH1 l S1 B1=>?_⟩
  generalize bxF sw c (Cb sw c w) w=bs at k b1 b2 B1
  refine⟨(show 0<=sizeLine by decide),bn4 B1 λH2 S2=>Gj (λe=>?_) (λe=>?_)⟩
  .have e:bs=[]:=by simpa using e
   subst e
   exact k H2 (S1.trans S2)
  have n1:¬ bs=[]:=by simpa using e
  refine⟨(show 0<=sizeLine by decide),bn5 (B1.up S2) λH3 S3=>Gj (λe=>?_) (λe=>?_)⟩
  .have e:bs=[[]]:=by simpa using e
   subst e
   exact k H3 ((S1.trans S2).trans S3)
  have n2:¬ bs=[[]]:=by simpa using e
  rw[ad2 n1 n2] at k
  obtain⟨es,e1,_,e2,e3⟩:=B1.up (S2.trans S3)
  have ln:es.length=bs.length:=by rw[<- e1,ae]
  refine⟨rfl,.inl ⟨⟨_,SqL.of e2⟩,?_⟩⟩
  refine Rc (f:=λe=>A9 e.1) (I:=λσ=>∃a,σ=[a]) e2 (by omega) ⟨_,rfl⟩ (λe he H4 σ Q1 S4 i4 kk=>?_) λD H4 S4 fD eD=>?_
  .obtain⟨a,rfl⟩:=i4
   exact⟨e.2,e.1,rfl,(e3 e he).2.2.keep (λxs q=>S4 _ _ q) (λa xs q=>S4 _ _ q),(b2 _ (by rw[<- e1];exact List.mem_map.mpr ⟨e,he,rfl⟩)).1,λH5 S5=>kk _ _ S5 ⟨_,rfl⟩⟩
  .have em:es.map (λe=>A9 e.1)=bs.map A9:=by rw[<- e1,a_];rfl
   rw[em] at eD
   exact⟨_,D,_,rfl,rfl,.inl (SqL.of eD),ao9 b1 λb hb=>(b2 b hb).1,k _ (((S1.trans S2).trans S3).trans S4)⟩
end
theorem Qh:∀ {zs pre:List Str} {gs:Gs},(pre++zs).Nodup->(∀g∈gs,g.1≠[]/\g.1.Nodup/\∀y∈g.1,y∈pre) -> ∀g∈zs.foldl (Dq rows p f m) gs,g.1≠[]/\g.1.Nodup/\∀y∈g.1,y∈pre++zs
 |[],pre,gs,_,h=>by rw[b7];exact h
 | z::zs,pre,gs,nd,h=>by
  have nd2:((pre++[z])++zs).Nodup:=by rw[dZ];exact nd
  have hz:¬ z∈pre:=λq=>(List.nodup_append.mp nd).2.2 z q z am rfl
  have:=Qh (rows:=rows) (p:=p) (m:=m) (f:=f) (gs:=Dq rows p f m gs z) nd2 λg hg=>?_
  .rw[dZ] at this;exact this
  have old:∀g∈gs,g.1≠[]/\g.1.Nodup/\∀y∈g.1,y∈pre++[z]:=λg hg=>⟨(h g hg).1,(h g hg).2.1,λy hy=>bL _ ((h g hg).2.2 y hy)⟩
  unfold Dq at hg
  by_cases e:m &&& Be rows p z=0
  .rw[if_pos e] at hg;exact old g hg
  .rw[if_neg e] at hg
   rcases Ie hg with hg|rfl|⟨a,ha,rfl⟩
   .exact old g hg
   .exact⟨by simp,by simp,λy hy=>bc _ hy⟩
   .refine⟨by simp,List.nodup_append.mpr ⟨(h a ha).2.1,by simp,λx hx y hy e=>hz ?_⟩,λy hy=>?_⟩
    .have:y=z:=by simpa using hy
     rw[<- this,<- e];exact (h a ha).2.2 x hx
    .rcases List.mem_append.mp hy with hy|hy
     .exact bL _ ((h a ha).2.2 y hy)
     .exact bc _ hy
theorem Lk(hw:okSw sw):∀ {ws:List Str} (m:Nat),(∀x∈ws,x∈sw.map (·.1)) -> ∀b∈bxF sw c ws m,(b.map (·.1)).Sublist ws/\∀e∈b,Hq sw e
 | [],m,_,b,hb=>by
  unfold bxF at hb
  split at hb
  .cases hb
  .rw[List.mem_singleton.mp hb];exact⟨jf _,λe h=>by cases h⟩
 | x::ws,m,hx,b,hb=>by
  have ih:=λk=>Lk hw (c:=c) (ws:=ws) k λy hy=>hx y (aq _ hy)
  unfold bxF at hb
  split at hb
  .cases hb
  split at hb
  .rw[List.mem_singleton.mp hb];exact⟨List.nil_sublist _,λe h=>by cases h⟩
  obtain⟨e,he,ex⟩:=List.mem_map.mp (hx x am)
  obtain⟨i,hi⟩:=List.mem_iff_getElem?.mp he
  have hs:Gp sw x=e.2:=by rw[<- ex];exact Lx hw hi
  have ok:=(hw.2.2.2.1 e he).2
  have gi:=Zq (Ae sw) (As sw x) m (bxF sw c ws) (Gp sw x)
  have gg:=Qh (rows:=Ae sw) (p:=As sw x) (m:=m) (f:=bxF sw c ws) (zs:=Gp sw x) (pre:=[]) (gs:=[]) (by rw[hs];exact ok.1.2.1) λg h=>by cases h
  have gg:∀g∈grF (Ae sw) (As sw x) (bxF sw c ws) m (Gp sw x),g.1≠[]/\g.1.Nodup/\∀y∈g.1,y∈Gp sw x:=gg
  generalize grF (Ae sw) (As sw x) (bxF sw c ws) m (Gp sw x)=gs at hb gi gg
  unfold Iu at hb
  split at hb
  .obtain⟨g,hg,hb⟩:=List.mem_flatMap.mp hb
   obtain⟨k,hk⟩:=(gi.one g hg).2.2
   rw[hk] at hb
   exact⟨(ih k b hb).1.cons _,(ih k b hb).2⟩
  .obtain⟨g,hg,hb⟩:=List.mem_flatMap.mp hb
   obtain⟨b',hb',rfl⟩:=List.mem_map.mp hb
   obtain⟨k,hk⟩:=(gi.one g hg).2.2
   rw[hk] at hb'
   refine⟨(ih k b' hb').1.cons₂ _,λy hy=>?_⟩
   rcases List.mem_cons.mp hy with rfl|hy
   .obtain⟨g1,g2,g3⟩:=gg g hg
    rw[hs] at g3
    have l:=(gi.one g hg).1
    rw[hs] at l
    exact⟨g1,⟨λz hz=>ok.1.1 z (g3 z hz),g2,by show g.1.length<=8;have:=ok.2.2;omega⟩,e,he,ex,g3⟩
   .exact (ih k b' hb').2 y hy
section
theorem Uz(hw:okSw sw)(hx:∀x∈ws,x∈sw.map (·.1))(hm:m<2 ^ (Ae sw).length)(hu:Ch (Ae sw).length (c &&& m) (Bu m c) (Bs sw ws)=false)(hi:m.testBit i=true):(∃b∈bxF sw c ws m,E1 sw i b=true) ↔ c.testBit i=true:=by
 have h:=Uy hw hx hm hu hi
 constructor
 .rintro⟨b,hb,q⟩
  have:=List.countP_pos_iff.mpr ⟨b,hb,q⟩
  rw[h] at this
  split at this
  .assumption
  .cases this
 .intro q
  rw[if_pos q] at h
  exact List.countP_pos_iff.mp (by omega)
theorem Rp(hw:okSw sw)(hx:∀x∈ws,x∈sw.map (·.1))(hm:m<2 ^ (Ae sw).length)(hu:Ch (Ae sw).length (c &&& m) (Bu m c) (Bs sw ws)=false):bxF sw c ws m=[] ↔ m &&& c=0:=by
 constructor
 .intro h
  refine cx λz=>?_
  obtain⟨i,_,hi⟩:=Wx (F9 hm) z
  rw[bi,ay] at hi
  obtain⟨b,hb,_⟩:=(Uz hw hx hm hu hi.1).mpr hi.2
  rw[h] at hb
  cases hb
 .intro h
  cases ws with
  |nil=>unfold bxF;rw[if_pos h]
  |cons x ws=>unfold bxF;rw[if_pos h]
theorem an9(hw:okSw sw)(hx:∀x∈ws,x∈sw.map (·.1))(hm:m<2 ^ (Ae sw).length)(hu:Ch (Ae sw).length (c &&& m) (Bu m c) (Bs sw ws)=false)(h0:m &&& c≠0)(hn:[]∈bxF sw c ws m):Bu m c=0:=by
 refine cz λj=>?_
 rw[cF,D6,ja]
 intro q
 rw[ay] at q
 have:=(Uz hw hx hm hu q.1).mp ⟨[],hn,rfl⟩
 rw[this] at q
 cases q.2
theorem Zh(h0:m &&& c≠0)(h:Bu m c=0):bxF sw c ws m=[[]]:=by
 cases ws with
 |nil=>unfold bxF;rw[if_neg h0]
 |cons x ws=>unfold bxF;rw[if_neg h0,if_pos h]
end
theorem off_zero:Bu m c=0 ↔ m &&& c=m:=by
 unfold Bu
 have:=f6 (n:=m) (m:=c)
 omega
theorem Ux:∀ {ws:List Str} {m:Nat},m &&& c=m &&& c'->bxF sw c ws m=bxF sw c' ws m
 |[],m,h=>by unfold bxF;rw[h]
 | x::ws,m,h=>by
  unfold bxF
  have ho:Bu m c=Bu m c':=by unfold Bu;rw[h]
  rw[h,ho]
  have hs:Dq (Ae sw) (As sw x) (bxF sw c ws) m=Dq (Ae sw) (As sw x) (bxF sw c' ws) m:=by
   funext gs z
   unfold Dq
   have:bxF sw c ws (m &&& Be (Ae sw) (As sw x) z)=bxF sw c' ws (m &&& Be (Ae sw) (As sw x) z):=Ux (by
    rw[ic,fJ _ c,<- ic,h,ic,fJ c',<- ic])
   rw[this]
  have hg:grF (Ae sw) (As sw x) (bxF sw c ws) m (Gp sw x)=grF (Ae sw) (As sw x) (bxF sw c' ws) m (Gp sw x):=by unfold grF;rw[hs]
  rw[hg]
theorem ai4(h:c &&& w=c' &&& w):Ct (bxF sw c (Cb sw c w) w)=Ct (bxF sw c' (Cb sw c' w) w):=by
 have h2:w &&& c=w &&& c':=by rw[fJ w c,h,fJ]
 have hd:Cb sw c w=Cb sw c' w:=by unfold Cb Bu;rw[h,h2]
 rw[hd,Ux h2]
theorem Es {α:Type}:∀(k:Nat)(l p:List α),p∈A0 k l->p.Sublist l/\p.length=k
 | 0,l,p,h=>by
  unfold A0 at h
  rw[List.mem_singleton.mp h];exact⟨List.nil_sublist _,rfl⟩
 | k+1,l,p,h=>by
  unfold A0 at h
  obtain⟨i,hi,h⟩:=List.mem_flatMap.mp h
  have hi:=List.mem_range.mp hi
  rw[af hi] at h
  obtain⟨q,hq,rfl⟩:=List.mem_map.mp (show p∈(A0 k (l.drop (i+1))).map (l[i] :: ·) from h)
  obtain⟨a,b⟩:=Es k _ q hq
  refine⟨?_,by rw[aN,b]⟩
  have:=(a.cons₂ l[i])
  rw[<- i0 hi] at this
  exact this.trans (List.drop_sublist _ _)
theorem Ni {α:Type}:∀ {p l:List α},p.Sublist l->p∈A0 p.length l
 |[],l,_=>by unfold A0;exact List.mem_singleton.mpr rfl
 | x::p,l,h=>by
  have key:∃i,∃hi:i<l.length,l[i]=x/\p.Sublist (l.drop (i+1)):=by
   clear Ni
   induction l with
   |nil=>cases h
   |cons y l ih=>
    cases h with
    |cons _ h=>
     obtain⟨i,hi,e,s⟩:=ih h
     exact⟨i+1,by rw[aN];omega,e,s⟩
    |cons_cons _ h=>exact⟨0,by rw[aN];omega,rfl,h⟩
  obtain⟨i,hi,e,s⟩:=key
  show x::p∈A0 (p.length+1) l
  unfold A0
  refine List.mem_flatMap.mpr ⟨i,List.mem_range.mpr hi,?_⟩
  rw[af hi,e]
  exact List.mem_map.mpr ⟨p,Ni s,rfl⟩
theorem ao6 {α:Type}(l:List α):(Bq l).Pairwise λa b=>a.length<=b.length:=by
 unfold Bq
 rw[List.pairwise_flatMap]
 refine⟨λk _=>?_,?_⟩
 .refine List.Pairwise.imp_of_mem (R:=λ_ _=>True) (λ{a b} ha hb _=>?_) (List.pairwise_of_forall λ_ _=>ba)
  rw[(Es k l a ha).2,(Es k l b hb).2];exact ak _
 .refine List.Pairwise.imp (R:=(· < ·)) (λ{a b} h x hx y hy=>?_) jN
  rw[(Es a l x hx).2,(Es b l y hy).2];omega
theorem W9(c w:Nat):(Cb sw c w).Sublist (sw.map (·.1)):=by
 unfold Cb
 cases e:(Bq (sw.map (·.1))).find? λws=>!Ch (Ae sw).length (c &&& w) (Bu w c) (Bs sw ws) with
 |none=>exact jf _
 |some d=>
  have:=fv e
  unfold Bq at this
  obtain⟨k,_,h⟩:=List.mem_flatMap.mp this
  exact (Es k _ d h).1
theorem ad8(hs:d.Sublist (sw.map (·.1)))(hl:d.length<(Cb sw c w).length):Ch (Ae sw).length (c &&& w) (Bu w c) (Bs sw d)=true:=by
 have ln:=(W9 (sw:=sw) c w).length_le
 have hd:d∈Bq (sw.map (·.1)):=by
  unfold Bq
  exact List.mem_flatMap.mpr ⟨d.length,List.mem_range.mpr (by omega),Ni hs⟩
 refine cx λz=>?_
 have z:(!Ch (Ae sw).length (c &&& w) (Bu w c) (Bs sw d))=true:=by simpa using z
 unfold Cb at hl
 cases e:(Bq (sw.map (·.1))).find? λws=>!Ch (Ae sw).length (c &&& w) (Bu w c) (Bs sw ws) with
 |none=>exact List.find?_eq_none.mp e d hd z
 |some d0=>
  rw[e] at hl
  have hl:d.length<d0.length:=hl
  obtain⟨_,as,bs,ea,no⟩:=List.find?_eq_some_iff_append.mp e
  have pw:=ao6 (sw.map (·.1))
  rw[ea] at hd pw
  rcases List.mem_append.mp hd with h|h
  .have:=no d h
   rw[z] at this
   cases this
  .rcases List.mem_cons.mp h with rfl|h
   .omega
   .have:=List.rel_of_pairwise_cons (List.pairwise_append.mp pw).2.1 h
    omega
theorem ad9(hw:okSw sw)(hc:w<2 ^ (Ae sw).length)(hx:x∈Cb sw c w):∃b∈bxF sw c (Cb sw c w) w,x∈b.map (·.1):=by
 refine cx λno=>?_
 obtain⟨und,_,inn⟩:=E0 hw c w
 have sl:=W9 (sw:=sw) c w
 have ndd:(Cb sw c w).Nodup:=hw.2.2.1.sublist sl
 have hs:((Cb sw c w).filter λy=>decide (y≠x)).Sublist (sw.map (·.1)):=List.filter_sublist.trans sl
 have hl:((Cb sw c w).filter λy=>decide (y≠x)).length<(Cb sw c w).length:=List.length_filter_lt_length_iff_exists.mpr ⟨x,hx,by simp⟩
 have u:=ad8 hs hl
 unfold Ch at u
 obtain⟨i,hi,u⟩:=List.any_eq_true.mp u
 rw[ay] at u
 obtain⟨j,hj,v⟩:=List.any_eq_true.mp u.2
 rw[ay] at v
 have ui:=u.1
 rw[bi,ay] at ui
 have vj:=v.1
 rw[D6,ay] at vj
 obtain⟨b,hb,q⟩:=(Uz hw inn hc und ui.2).mpr ui.1
 have:c.testBit j=true:=(Uz hw inn hc und vj.1).mp ⟨b,hb,by
  unfold E1 at q ⊢
  rw[aR] at q ⊢
  intro e he
  have hd:e.1∈Cb sw c w:=(Lk hw w inn b hb).1.subset (List.mem_map.mpr ⟨e,he,rfl⟩)
  have ne:e.1≠x:=λz=>no ⟨b,hb,List.mem_map.mpr ⟨e,he,z⟩⟩
  have l:=List.all_eq_true.mp v.2 e.1 (List.mem_filter.mpr ⟨hd,decide_eq_true ne⟩)
  rw[<- of_decide_eq_true l]
  exact q e he⟩
 rw[this] at vj
 cases vj.2
end K14
namespace K14
open PySem L2 Pn
section
def Cd(η:List Sw):Str:=bI "|" (η.map A9)
def okY(b:Sw):Prop:=b≠[]/\b.length<=5/\(b.map (·.1)).Nodup/\∀e∈b,okW e.1/\e.2≠[]/\okL e.2
theorem Ow(hw:okSw sw)(h:gdB sw b):okY b:=⟨h.1,h.2.1,h.2.2.1,λe he=>let ⟨a,b,x,hx,ex,_⟩:=h.2.2.2 e he;⟨ex▸(hw.2.2.2.1 x hx).1,a,b⟩⟩
theorem bj2:cM "&"=⟨#[38]⟩:=by decide +kernel
theorem b95:cM "="=⟨#[61]⟩:=by decide +kernel
theorem az0:cM ","=⟨#[44]⟩:=by decide +kernel
theorem bj3:cM "|"=⟨#[124]⟩:=by decide +kernel
theorem M4(h:okW z)(hx:x∈z.cps.toList):97<=x/\x<=122:=by
 have:=List.all_eq_true.mp h.2.2 x hx
 unfold Bw at this
 simp at this
 exact this
theorem J8(e:Str×List Str):Aw e=bI ⟨#[61]⟩ [e.1,bI ⟨#[44]⟩ e.2]:=by
 rw[Jm ⟨#[61]⟩,<- az0,<- b95]
 rfl
theorem V4(h:okL l)(hx:x∈(bI ⟨#[44]⟩ l).cps.toList):x=44\/(97<=x/\x<=122):=by
 rcases M9 hx with h1|⟨p,hp,h1⟩
 .exact .inl h1
 .exact .inr (M4 (h.1 p hp) h1)
theorem V5(h1:okW e.1)(h2:okL e.2)(hx:x∈(Aw e).cps.toList):x=61\/x=44\/(97<=x/\x<=122):=by
 rw[J8] at hx
 rcases M9 hx with h|⟨p,hp,h⟩
 .exact .inl h
 .simp only[aS,c6,or_false] at hp
  rcases hp with rfl|rfl
  .exact .inr (.inr (M4 h1 h))
  .exact .inr (V4 h2 h)
theorem Np(box:Sw):A9 box=bI ⟨#[38]⟩ (box.map Aw):=by unfold A9;rw[<- bj2]
theorem ab2(η:List Sw):Cd η=bI ⟨#[124]⟩ (η.map A9):=by unfold Cd;rw[<- bj3]
theorem ah9(h:okY box)(hx:x∈(A9 box).cps.toList):x=38\/x=61\/x=44\/(97<=x/\x<=122):=by
 rw[Np] at hx
 rcases M9 hx with h1|⟨p,hp,h1⟩
 .exact .inl h1
 .obtain⟨e,he,rfl⟩:=List.mem_map.mp hp
  obtain⟨a,_,b⟩:=h.2.2.2 e he
  exact .inr (V5 a b h1)
theorem Gr(h:okY box):gf (A9 box) "&"=box.map Aw:=by
 rw[Np,show (("&" : Str))=⟨#[38]⟩ from bj2]
 refine Fr (by simpa using h.1) λp hp hx=>?_
 obtain⟨e,he,rfl⟩:=List.mem_map.mp hp
 obtain⟨a,_,b⟩:=h.2.2.2 e he
 have:=V5 a b hx
 omega
theorem Hv(h1:okW e.1)(h2:okL e.2):gf (Aw e) "="=[e.1,bI "," e.2]:=by
 rw[J8,show (("=" : Str))=⟨#[61]⟩ from b95,show (("," : Str))=⟨#[44]⟩ from az0]
 refine Fr (by simp) λp hp hx=>?_
 simp only[aS,c6,or_false] at hp
 rcases hp with rfl|rfl
 .have:=M4 h1 hx
  omega
 .have:=V4 h2 hx
  omega
theorem Nv(hn:l≠[])(h:okL l):gf (bI "," l) ","=l:=by
 rw[show (("," : Str))=⟨#[44]⟩ from az0]
 refine Fr hn λp hp hx=>?_
 have:=M4 (h.1 p hp) hx
 omega
theorem Hw(hn:η≠[])(h:∀b∈η,okY b):gf (Cd η) "|"=η.map A9:=by
 rw[ab2,show (("|" : Str))=⟨#[124]⟩ from bj3]
 refine Fr (by simpa using hn) λp hp hx=>?_
 obtain⟨b,hb,rfl⟩:=List.mem_map.mp hp
 have:=ah9 (h b hb) hx
 omega
theorem b41:(cM ",").length=1:=by decide +kernel
theorem No(h:okL l):(bI "," l).length<=72:=(G4 (n:=8) (m:=8) (λp hp=>(h.1 p hp).2.1) b41 h.2.2).1
theorem Je(h1:okW e.1)(h2:okL e.2):(Aw e).length<=81:=by
 unfold Aw
 rw[Dd,Dd,show (("="):Str).length=1 by decide +kernel]
 have q1:(bI "," e.2).length<=72:=No h2
 have q2:e.1.length<=8:=h1.2.1
 exact aw (kG (g_ q2 1) q1) (by decide)
theorem Hc(h:okY box):(A9 box).length<=410:=
 (G4 (ps:=box.map Aw) (n:=81) (m:=5) (λp hp=>by obtain⟨e,he,rfl⟩:=List.mem_map.mp hp;obtain⟨a,_,b⟩:=h.2.2.2 e he;exact Je a b) (by decide +kernel) (by rw[ae];exact h.2.1)).1
theorem Og(h5:η.length<=1024)(h:∀b∈η,okY b):(Cd η).length<=420864:=
 (G4 (ps:=η.map A9) (n:=410) (m:=1024) (λp hp=>by obtain⟨b,hb,rfl⟩:=List.mem_map.mp hp;exact Hc (h b hb)) (by decide +kernel) (by rw[ae];exact h5)).1
theorem E4(hn:η≠[])(h:∀b∈η,okY b)(hz:∀x∈z.cps.toList,x<97):Cd η≠z:=by
 intro e
 cases η with
 |nil=>exact hn rfl
 |cons b bs=>
  have hb:=h b am
  cases b with
  |nil=>exact hb.1 rfl
  |cons f r=>
   obtain⟨a,_,_⟩:=hb.2.2.2 f am
   have l1:=a.1
   have:0<f.1.cps.toList.length:=by rw[bf2];exact l1
   have hx:=bV this
   have h1:f.1.cps.toList[0]∈(Aw f).cps.toList:=by rw[J8];exact M2 (p:=f.1) am hx
   have h2:f.1.cps.toList[0]∈(A9 (f::r)).cps.toList:=by rw[Np];exact M2 (p:=Aw f) am h1
   have h3:f.1.cps.toList[0]∈(Cd ((f::r)::bs)).cps.toList:=by rw[ab2];exact M2 (p:=A9 (f::r)) am h2
   rw[e] at h3
   have:=hz _ h3
   have:=M4 a hx
   omega
theorem bs1(Z:Ar K t):OkD K am0 (Bc K t) bl (t.f 1) (t.d 1) (Yt K t):=by
 refine Bn (cc4 K t) λvs H Q E h=>?_
 .obtain⟨box,sw,rfl,hw,hb,k⟩:=h;refine⟨rfl,?_⟩
  have hb:=Ow hw hb
  intro d hd0
  refine .inl ⟨rfl,A9 box, "&", rfl,rfl,by decide +kernel,aw (Hc hb) (by decide),λS hS=>?_⟩
  rw[Gr hb]
  have fS:H S=none:=(Same.upd hd0).free hS
  have nSd:d≠S:=Aj Ac hS
  have S0:=(Same.upd (o:=.dK []) hd0).trans (Same.upd (o:=.lst ((box.map Aw).map V.str)) hS)
  have ed:upd (upd H d (.dK [])) S (.lst ((box.map Aw).map V.str)) d=some (.dK []):=by rw[Ai nSd,Ac]
  have eS:upd (upd H d (.dK [])) S (.lst ((box.map Aw).map V.str)) S=some (.lst ((box.map Aw).map V.str)):=Ac
  refine .inl ⟨⟨_,SqL.of eS⟩,?_⟩
  show Mb (Itl K S) _ _ _ [some (.str (A9 box)),some (.ref d),none,none] (upd (upd H d (.dK [])) S (.lst ((box.map Aw).map V.str)))
  generalize upd (upd H d (.dK [])) S (.lst ((box.map Aw).map V.str))=H0 at S0 ed eS ⊢
  refine Ba (Aq ((box.map Aw).map V.str)) (λi σ H'=>(∃v2 v3,σ=[some (.str (A9 box)),some (.ref d),v2,v3])/\Same H H'/\H' S=some (.lst ((box.map Aw).map V.str)) /\
    ∃es:List ((Str×List Str)×Addr),es.map (·.1)=box.take i/\H' d=some (.dK (es.map kR))/\∀x∈es,H x.2=none/\H' x.2=some (A5 x.1.2))
   ⟨⟨_,_,rfl⟩,S0,eS,[],rfl,ed,λx hx=>by cases hx⟩ (λi σ H' _ q=>SqL.of q.2.2.1) ?_ ?_
  .rintro i x σ H1 hx ⟨⟨v2,v3,rfl⟩,S1,e1S,es,ee,e1d,he⟩
   obtain⟨z,hz0,rfl⟩:=Ak hx
   obtain⟨e,hi,rfl⟩:=Ak hz0
   obtain⟨o1,o2,o3⟩:=hb.2.2.2 e (ag hi)
   have nk:=Lu ee hi hb.2.2.1
   refine⟨rfl,Aw e, "=", rfl,rfl,by decide +kernel,aw (Je o1 o3) (by decide),λT hT=>?_⟩
   rw[Hv o1 o3]
   have ST:=Same.upd (o:=.lst ([e.1,bI "," e.2].map V.str)) hT
   have eT:upd H1 T (.lst ([e.1,bI "," e.2].map V.str)) T=some (.lst [.str e.1,.str (bI "," e.2)]):=Ac
   show Ag _ _ _ [some (.str (A9 box)),some (.ref d),some (.str (Aw e)),some (.ref T)] (upd H1 T (.lst ([e.1,bI "," e.2].map V.str)))
   generalize upd H1 T (.lst ([e.1,bI "," e.2].map V.str))=H2 at ST eT ⊢
   have e2d:=ST _ _ e1d
   have qT:=SqL.of (K:=K) eT
   refine .inl ⟨_,.inl qT,_,_,.inl qT,rfl,.inr ⟨_,DGet.k (k:=.inr e.1) e2d,?_⟩⟩
   rw[nk]
   refine⟨_,_,.inl qT,rfl,rfl,bI "," e.2, ",", rfl,rfl,by decide +kernel,aw (No o3) (by decide),λL hL=>?_⟩
   rw[Nv o2 o3]
   have SL:=Same.upd (o:=A5 e.2) hL
   have eL:upd H2 L (A5 e.2) L=some (A5 e.2):=Ac
   have fL:H L=none:=(S1.trans ST).free hL
   have ndL:d≠L:=Aj e2d hL
   show Eb K (Aa 1) (Ad (An K) (Aa 3) (dC (.int 0))) (.ref L) [some (.str (A9 box)),some (.ref d),some (.str (Aw e)),some (.ref T)] (upd H2 L (A5 e.2)) _
   generalize upd H2 L (A5 e.2)=H3 at SL eL ⊢
   have S3:=S1.trans (ST.trans SL)
   refine⟨_,_,.inl (SL.seqL qT),rfl,_,DPut.k (k:=.inr e.1) (SL _ _ e2d) ?_,?_⟩
   .rw[ae]
    have:=R1 ee
    have:=hb.2.1
    exact aG (show es.length<=5 by omega) (by decide)
   rw[Lr nk]
   refine⟨⟨_,_,rfl⟩,S3.set hd0,?_,es++[(e,L)],G1 ee hi,Ac,λx hx=>?_⟩
   .rw[Ai (cQ nSd)];exact (ST.trans SL) _ _ e1S
   .rcases List.mem_append.mp hx with hx|hx
    .obtain⟨a1,a2⟩:=he x hx
     refine⟨a1,?_⟩
     rw[Ai (λz=>by rw[z,e1d] at a2;cases a2)]
     exact (ST.trans SL) _ _ a2
    .have:x=(e,L):=by simpa using hx
     subst this
     exact⟨fL,by rw[Ai (cQ ndL)];exact eL⟩
  .rintro σ H1 ⟨⟨v2,v3,rfl⟩,S1,e1S,es,ee,e1d,he⟩
   rw[ae,ae,aO] at ee
   exact .inl (k H1 d S1 ⟨es,ee,⟨hd0,e1d⟩,he⟩)
theorem Ef(h0:bs≠[])(h1:bs≠[[]]):Ct bs=Cd bs:=by unfold Ct;rw[if_neg h0,if_neg h1];rfl
theorem br1(Z:Ar K t):OkD K al0 (Bc K t) bl (t.f 6) (t.d 6) (Tm K t):=by
 refine Bn (cb4 K t) λvs H Q E h=>?_
 .obtain⟨p,η,sw,ζ,rfl,hP,hw,⟨h5,hb⟩,k⟩:=h;refine⟨rfl,?_⟩
  obtain⟨dx,d,l,n,s,kk,b,h⟩:=id hP
  by_cases z0:η=[]
  .subst z0
   exact⟨rfl,k H (Same.refl _)⟩
  by_cases z1:η=[[]]
  .subst z1
   have:=k H (Same.refl _)
   rw[show unB sw [[]]=Hm sw from mj _] at this
   rw[<- F8] at this
   exact⟨rfl,p,dx,_,⟨t.c_zbm,a83 K t⟩,rfl,.head _,h.ins.2,rfl,⟨ak _,ak _⟩,p,l,s,sw,rfl,h.self,h.tps,hw.len,this⟩
  have hb:=hb.resolve_left z1
  have hb':∀x∈η,okY x:=λx hx=>Ow hw (hb x hx)
  have n1:Cd η ≠ "*" := E4 z0 hb' (by decide +kernel)
  have n2:Cd η ≠ "-" := E4 z0 hb' (by decide +kernel)
  rw[Ef z0 z1]
  refine⟨rfl,?_⟩
  show if decide (Cd η="*")=true then _ else _
  refine B4 (decide_eq_false n1) ?_
  show if decide (Cd η="-")=true then _ else _
  refine B4 (decide_eq_false n2) ?_
  refine⟨rfl,Cd η, "|", rfl,rfl,by decide +kernel,aw (Og h5 hb') (by decide),λS hS=>?_⟩
  rw[Hw z0 hb']
  have S0:=Same.upd (o:=.lst ((η.map A9).map V.str)) hS
  have eS:upd H S (.lst ((η.map A9).map V.str)) S=some (.lst ((η.map A9).map V.str)):=Ac
  refine .inl ⟨⟨_,SqL.of eS⟩,λD hD=>?_⟩
  generalize upd H S (.lst ((η.map A9).map V.str))=H0 at S0 eS hD ⊢
  refine B0 (Aq ((η.map A9).map V.str)) (λm σ H'=>(∃v,σ=[v,some (.ref p)])/\Same H0 H'/\H' D=some (nO ((η.take m).map (D9 sw)))) ⟨⟨_,rfl⟩,Same.upd hD,Ac⟩ (λm σ H' _ q=>q.2.1.seqL (SqL.of eS)) ?_ ?_
  .rintro m x σ H1 hx ⟨⟨v,rfl⟩,S1,eD⟩
   obtain⟨z,hz0,rfl⟩:=Ak hx
   obtain⟨bx,hi,rfl⟩:=Ak hz0
   have hbx:=hb bx (ag hi)
   have S01:=S0.trans S1
   refine⟨p,dx,_,⟨t.c_zbm,Zs K t⟩,rfl,.head _,S01 _ _ h.ins.2,rfl,⟨ak _,ak _⟩,?_⟩
   refine⟨bx,sw,rfl,hw,hbx,λH2 r S2 R2=>?_⟩
   have hr:H1 r=none:=by obtain⟨_,_,o,_⟩:=R2;exact o.1
   have kr:Kp any H (· ≠ r) H2:=λa o q=>⟨Aj (S01 _ _ q.2) hr,(S01.trans S2) _ _ q.2⟩
   refine⟨p,r,l,s,sw,bx,rfl,h.self.mono kr,h.tps.mono kr,h.sts.mono kr,hw,R2.mono Kp.any,hbx.2.2,λH3 S3=>?_⟩
   rw[Uv]
   refine⟨_,(S2.trans S3) _ _ eD,?_,⟨_,rfl⟩,(S1.trans (S2.trans S3)).set hD,?_⟩
   .rw[ae,ae,aJ]
    exact aG (show min m η.length<=1024 by omega) (by decide)
   .rw[Ac,nO,Ax hi,au];rfl
  .rintro σ H1 ⟨_,S1,eD⟩
   rw[ae,ae,aO] at eD
   have:=k H1 (S0.trans S1)
   unfold unB at this
   rw[<- Hy] at this
   refine⟨D,_,rfl,?_,this⟩
   have e:(η.map (D9 sw)).map (λn:Nat=>V.int (n:Int))=((η.map (D9 sw)).map λn:Nat=>(n:Int)).map V.int:=by rw[a_ (f:=λn:Nat=>(n:Int))];rfl
   rw[<- e]
   exact SqL.of eD
end
end K14
namespace K14
open PySem L2 Pn
section
def Hg(sw:Sw)(n:Nat)(e:Str×List Str):Bool:=e.2.any λz=>Jw (Ae sw) (As sw e.1) z n
def fN(sw b:Sw):Nat->Nat
 |0=>0
 |n+1=>if b.all (Hg sw n)=true then fN sw b n ||| 2 ^ n else fN sw b n
theorem aq5(sw b:Sw):∀N k,(fN sw b N).testBit k=(decide (k<N)&&b.all (Hg sw k))
 |0,k=>by simp[fN]
 | N+1,k=>by
  have ih:=aq5 sw b N k
  unfold fN
  by_cases h:N=k
  .subst h
   rw[decide_eq_false (e9 N),iX] at ih
   cases e:b.all (Hg sw N) with
   |true=>rw[if_pos rfl,dR,fF,ih];simp
   |false=>rw[if_neg av,ih];simp
  .have d:decide (k<N+1)=decide (k<N):=decide_eq_decide.mpr (by omega)
   rw[d]
   cases e:b.all (Hg sw N) with
   |true=>rw[if_pos rfl,dR,fF,ih,decide_eq_false h,hZ]
   |false=>rw[if_neg av,ih]
theorem bn6(sw b:Sw):fN sw b (Ae sw).length=D9 sw b:=by
 refine cz λk=>?_
 rw[aq5,Ii]
 rfl
theorem Iq(z:Str)(l:List Str):inV (.str z) (l.map V.str)=decide (z∈l):=by
 unfold inV
 rw[iT,bu,decide_eq_true_iff,be]
 constructor
 .rintro⟨y,hy,e⟩
  have e:(y==z)=true:=e
  rw[<- cK e]
  exact hy
 .intro h
  exact⟨z,h,beq_self_eq_true z⟩
theorem bo1 {sw:Sw}{n:Nat}{e:Str×List Str}{z:Str}(h:((Ae sw)[n]?.bind λr=>r[As sw e.1]?)=some z):Hg sw n e=decide (z∈e.2):=by
 unfold Hg Jw
 rw[h,bu,decide_eq_true_iff,be]
 constructor
 .rintro⟨y,hy,q⟩
  have q:some z=some y:=by simpa using q
  rw[aM q]
  exact hy
 .exact λhz=>⟨z,hz,by simp⟩
theorem On {E:EK}{H:Hp}{l:Addr}{sw:Sw}{R:Hp->Addr->Prop}(hw:okSw sw)(h:SwIn any H l sw)(k:∀D H',Same H H'->H D=none->H' D=some (A5 (sw.map (·.1)))->R H' D) :
  ∀D,H D=none->Fa (Itl K l) (gdT K 2 [gdN 0,gdN 1]) Bt (Aa 0) D (λH'=>R H' D) [none,none] (upd H D (.lst [])) E:=by
 obtain⟨ds,ed,⟨_,ol⟩,hd⟩:=h
 have len:(ds.map λx=>V.ref x.2).length=sw.length:=by rw[<- ed];simp
 intro D hD
 refine B0 (Aq (ds.map λx=>V.ref x.2)) (λm σ H'=>(∃v0 v1,σ=[v0,v1])/\Same H H'/\H' D=some (A5 ((sw.take m).map (·.1)))) ⟨⟨_,_,rfl⟩,Same.upd hD,Ac⟩ (λm σ H' _ q=>q.2.1.seqL (SqL.of ol)) ?_ ?_
 .rintro m x σ H1 hx ⟨⟨v0,v1,rfl⟩,S1,eD⟩
  obtain⟨⟨⟨e,la⟩,ta⟩,hi,rfl⟩:=Ak hx
  have hi2:sw[m]?=some e:=by rw[<- ed,aj,hi];rfl
  obtain⟨⟨_,h1⟩,_,h2⟩:=hd _ (ag hi)
  refine⟨_,.inl (SqT.of (S1 _ _ h1)),rfl,_,eD,?_,⟨_,_,rfl⟩,S1.set hD,?_⟩
  .rw[ae,ae,aJ]
   have:=hw.2.1
   exact aG (show min m sw.length<=5 by omega) (by decide)
  .rw[Ac,A5,Ax hi2,au];rfl
 .rintro σ H1 ⟨_,S1,eD⟩
  rw[len,aO] at eD
  exact k D H1 S1 hD eD
theorem Mw {l:List Str}{i:Nat}{z:Str}(h:l[i]?=some z)(nd:l.Nodup):i<(l.map V.str).length/\eqV ((l.map V.str).getD i .non) (.str z)=true/\∀m,m<i->eqV ((l.map V.str).getD m .non) (.str z)=false:=by
 have hi:=Al h
 have g:∀m (hm:m<l.length),(l.map V.str).getD m .non=.str l[m]:=λm hm=>by
  rw[ar,aj,af hm]
  rfl
 have ex:l[i]=z:=by rw[af hi] at h;exact aM h
 refine⟨by simpa using hi,?_,λm hm=>?_⟩
 .rw[g i hi,ex]
  exact beq_self_eq_true _
 .rw[g m (by omega)]
  show (l[m]==z)=false
  rw[cR]
  refine decide_eq_false λq=>?_
  have:=(c5 (i:=m) (j:=i) (h₀:=by omega) (h₁:=hi) nd).mp (by rw[q,ex])
  omega
def Q4(l:List Str)(z:Str):Nat:=As (l.map λy=>(y,[])) z
theorem X2 {l:List Str}{i:Nat}{z:Str}(h:l[i]?=some z)(nd:l.Nodup):Q4 l z=i:=Bm (x:=(z,[])) (by rw[aj,h];rfl) (by rw[a_];show (l.map id).Nodup;rw[List.map_id];exact nd)
theorem b38 {l ss:List Str}{j:Nat}(nd:l.Nodup)(hj:j<l.length)(sub:∀z∈ss,z∈l):inV (.int (j:Int)) ((ss.map (Q4 l)).map λn:Nat=>V.int (n:Int))=decide (l.getD j cJ∈ss):=by
 unfold inV
 rw[a_,iT,bu,decide_eq_true_iff,be]
 constructor
 .rintro⟨z,hz,e⟩
  have e:(((Q4 l z:Nat):Int)==(j:Int))=true:=e
  obtain⟨i,hi⟩:=List.mem_iff_getElem?.mp (sub z hz)
  rw[X2 hi nd] at e
  have e:=cK e
  have:i=j:=by omega
  subst this
  rw[ar,hi]
  exact hz
 .intro h
  refine⟨_,h,?_⟩
  show (((Q4 l (l.getD j cJ):Nat):Int)==(j:Int))=true
  rw[X2 (i:=j) (by rw[ar,af hj];rfl) nd]
  exact beq_self_eq_true _
theorem ae4(l:List Nat):(l.map λn:Nat=>V.int (n:Int)).all Bv=true:=by rw[d9,aR];exact λ_ _=>rfl
def kD(sw:Sw)(x:(Str×List Str)×Addr):Key×V:=(.inl ((As sw x.1.1:Nat):Int),.ref x.2)
noncomputable def a47(sw:Sw)(H:Hp)(x:(Str×List Str)×Addr):Prop:=∃(p:Nat)(y:Str×List Str),sw[p]?=some y/\y.1=x.1.1/\(∀z∈x.1.2,z∈y.2)/\H x.2=some (nO (x.1.2.map (Q4 y.2)))
theorem ar8 {sw:Sw}{es:List ((Str×List Str)×Addr)}{p:Nat}{y:Str×List Str}{H:Hp}(nd:(sw.map (·.1)).Nodup)(hp:sw[p]?=some y)(he:∀x∈es,a47 sw H x)(h:y.1∉(es.map (·.1)).map (·.1)):Bp (es.map (kD sw)) (.inl ((p:Nat):Int))=none:=by
 refine Eh λq=>h ?_
 rw[a_] at q ⊢
 obtain⟨x,hx,ex⟩:=List.mem_map.mp q
 have ex:((As sw x.1.1:Nat):Int)=(p:Int):=kW ex
 obtain⟨p',y',h1,h2,_⟩:=he x hx
 have e3:As sw x.1.1=p':=by rw[<- h2];exact Bm h1 nd
 have e4:p'=p:=by omega
 subst e4
 rw[hp] at h1
 cases h1
 exact List.mem_map.mpr ⟨x,hx,h2.symm⟩
theorem b40 {sw:Sw}{H:Hp}{es:List ((Str×List Str)×Addr)}(nd:(sw.map (·.1)).Nodup)(he:∀x∈es,a47 sw H x)(h:((es.map (·.1)).map (·.1)).Nodup):((es.map (kD sw)).map (·.1)).Nodup:=by
 rw[a_] at h ⊢
 refine List.pairwise_map.mpr ((List.pairwise_map.mp h).imp_of_mem λ{a b} ha hb ne e=>ne ?_)
 have e:((As sw a.1.1:Nat):Int)=((As sw b.1.1:Nat):Int):=kW e
 obtain⟨p,y,h1,h2,_⟩:=he a ha
 obtain⟨p',y',g1,g2,_⟩:=he b hb
 rw[<- h2,<- g2,Bm h1 nd,Bm g1 nd] at e
 have e:p=p':=by omega
 subst e
 rw[h1] at g1
 cases g1
 exact h2.symm.trans g2
theorem b27 {H:Hp}{d:Addr}{p:Nat}{v:V}{kvs:List (Key×V)}(e:Rd H d (.dK kvs))(h:Bp kvs (.inl (p:Int))=some v):∃xs,SqX K H d (p:Int) xs/\atI xs (p:Int)=some v:=by
 have a:atI (i5 (p+1) v) (p:Int)=some v:=A3 (by simp)
 refine⟨_,.dk λu hu=>.inl ⟨kvs,.inl (p:Int),e,rfl,?_⟩,a⟩
 rw[a] at hu
 rw[h,<- hu]
theorem bt1 {p:Addr}{H:Hp}{kvs:List (Key×V)}{R:Obj->List (Key×V)->Hp->Prop}(e:Rd H p (.dK kvs))(h:∀o Hf,Hf p=some (.frz o (.dK kvs))->(∀b,b≠p->Hf b=H b)->R o kvs Hf):onD p H R:=by
 rcases e with e|⟨o,e⟩
 .exact .inl ⟨kvs,e,λo=>h o _ Ac λb n=>Ai n⟩
 .exact .inr ⟨o,kvs,e,h o H e λ_ _=>rfl⟩
theorem a84 {n:Nat}:decide ((n:Int)=0)=decide (n=0):=decide_eq_decide.mpr (by omega)
theorem af9 {E:EK}{H:Hp}{sw:Sw}{es:List ((Str×List Str)×Addr)}{d r rn:Addr}{o:Obj}{n:Nat}{dg:List Nat}{rs:List V}{R:Hp->Addr->Prop}(hw:okSw sw)(ef:H d=some (.frz o (.dK (es.map (kD sw)))))(he:∀x∈es,a47 sw H x)(nd:((es.map (kD sw)).map (·.1)).Nodup)(le:es.length<=1001)(hr:H r=some (.lst rs))(hn:rs[n]?=some (.ref rn))(hrn:H rn=some (nO dg))(hdg:(Cc sw)[n]?=some dg)(k:∀D H' ys,Same H H'->H D=none->H' D=some (.lst ys)->decide (ys.length=0)=(es.all λx=>Hg sw n x.1)->R H' D) :
  ∀D,H D=none->Fa (Itd d o (es.map (kD sw))) (gdN 0) (Au (Ad (Iz K true) (Ad (An K) (Ad (An K) (Aa 2) (Aa 1)) (Aa 0)) (Ad (An K) (Aa 3) (Aa 0)))) (Aa 0) D (λH'=>R H' D) [none,some (.int (n:Int)),some (.ref r),some (.ref d)] (upd H D (.lst [])) E:=by
 intro D hD
 refine B0 (L9 (es.map (kD sw))) (λm σ H'=>(∃v,σ=[v,some (.int (n:Int)),some (.ref r),some (.ref d)])/\Same H H'/\∃ys,H' D=some (.lst ys)/\ys.length<=m/\decide (ys.length=0)=((es.take m).all λx=>Hg sw n x.1)) ⟨⟨_,rfl⟩,Same.upd hD,[],Ac,ak _,rfl⟩ (λm σ H' _ q=>q.2.1 _ _ ef) ?_ ?_
 .rintro m x σ H1 hx ⟨⟨v,rfl⟩,S1,ys,eD,ly,hy⟩
  obtain⟨kv,hi0,rfl⟩:=Ak hx
  obtain⟨⟨e,la⟩,hi,rfl⟩:=Ak hi0
  obtain⟨p,y,hp,ey,sub,ela⟩:=he _ (ag hi)
  have ey:y.1=e.1:=ey
  have pl:As sw e.1=p:=by rw[<- ey];exact Bm hp hw.2.2.1
  obtain⟨j,hj,hj2⟩:=Mr (ag hdg) hp
  have hv2:=bo1 (e:=e) (by rw[pl];exact X8 hdg hp hj)
  have nd2:=(hw.sets y (ag hp)).1.2.1
  have hin:=b38 nd2 hj2 sub
  have hval:Bp (es.map (kD sw)) (.inl ((As sw e.1:Nat):Int))=some (.ref la):=C2 nd hi0
  have hjp:dg[As sw e.1]?=some j:=by rw[pl];exact hj
  obtain⟨xs,sx,ax⟩:=b27 (K:=K) (.inr ⟨o,S1 _ _ ef⟩:Rd H1 d (.dK (es.map (kD sw)))) hval
  have mi:=Al hi
  have al:((es.take (m+1)).all λx=>Hg sw n x.1)=(((es.take m).all λx=>Hg sw n x.1)&&Hg sw n e):=by
   rw[bF,hi,cq,fV,bv,List.all_nil,ez]
  refine⟨_,.ref rn,.inl (SqL.of (S1 _ _ hr)),A3 (j:=n) hn,_,.int (j:Int),.inl (SqL.of (S1 _ _ hrn)),A3 (j:=As sw e.1) (by rw[aj,hjp];rfl),xs,.ref la,sx,ax,.inl ⟨la,_,rfl,.inl (SqL.of (S1 _ _ ela)),rfl,ae4 _,?_⟩⟩
  rw[hin,<- hv2]
  cases hh:Hg sw n e with
  |true=>exact⟨⟨_,rfl⟩,S1,ys,eD,by omega,by rw[al,hh,ez];exact hy⟩
  |false=>
   refine⟨_,eD,aG (show ys.length<=1001 by omega) (by decide),⟨_,rfl⟩,S1.set hD,_,Ac,by rw[aP];show ys.length+1<=_;omega,?_⟩
   rw[al,hh,cw,aP]
   exact decide_eq_false (show ys.length+1≠0 by omega)
 .rintro σ H1 ⟨_,S1,ys,eD,_,hy⟩
  rw[ae,ae,aO] at hy
  exact k D H1 ys S1 hD eD hy
theorem b63(Z:Ar K t):OkD K bl0 (Bc K t) bl (t.f 40) (t.d 40) (a10 K t):=by
 refine Bn (ci8 K t) λvs H Q E h=>?_
 .obtain⟨l,r,b,sw,rfl,hsw,hw,⟨rs,er,orr,hr⟩,gb,k⟩:=h;refine⟨rfl,?_⟩
  have ox:=Ow hw gb
  obtain⟨ds,ed,⟨_,ol⟩,hd⟩:=id hsw
  have nds:=hw.2.2.1
  refine .inl ⟨⟨_,SqL.of ol⟩,?_⟩
  refine On hw hsw λlw H1 S1 hlw elw=>λd hd0=>?_
  refine .inl ⟨rfl,A9 b, "&", rfl,rfl,by decide +kernel,aw (Hc ox) (by decide),λS hS=>?_⟩
  rw[Gr ox]
  have fS:H1 S=none:=(Same.upd hd0).free hS
  have nSd:d≠S:=Aj Ac hS
  have S0:=(Same.upd (o:=.dK []) hd0).trans (Same.upd (o:=.lst ((b.map Aw).map V.str)) hS)
  have ed0:upd (upd H1 d (.dK [])) S (.lst ((b.map Aw).map V.str)) d=some (.dK []):=by rw[Ai nSd,Ac]
  have eS:upd (upd H1 d (.dK [])) S (.lst ((b.map Aw).map V.str)) S=some (.lst ((b.map Aw).map V.str)):=Ac
  refine .inl ⟨⟨_,SqL.of eS⟩,?_⟩
  show Mb (Itl K S) _ _ _ [some (.ref l),some (.ref r),some (.str (A9 b)),some (.ref lw),some (.ref d),none,none,none,none,none,none,none] (upd (upd H1 d (.dK [])) S (.lst ((b.map Aw).map V.str)))
  generalize upd (upd H1 d (.dK [])) S (.lst ((b.map Aw).map V.str))=H0 at S0 ed0 eS ⊢
  refine Ba (Aq ((b.map Aw).map V.str)) (λi σ H'=>(∃v5 v6 v7 v8 v9,σ=[some (.ref l),some (.ref r),some (.str (A9 b)),some (.ref lw),some (.ref d),v5,v6,v7,v8,v9,none,none])/\Same H1 H'/\H' S=some (.lst ((b.map Aw).map V.str)) /\
    ∃es:List ((Str×List Str)×Addr),es.map (·.1)=b.take i/\H' d=some (.dK (es.map (kD sw)))/\∀x∈es,a47 sw H' x) ⟨⟨_,_,_,_,_,rfl⟩,S0,eS,[],rfl,ed0,λx hx=>by cases hx⟩ (λi σ H' _ q=>SqL.of q.2.2.1) ?_ ?_
  .rintro i x σ H2 hx ⟨⟨v5,v6,v7,v8,v9,rfl⟩,S2,e2S,es,ee,e2d,he⟩
   obtain⟨q,hi0,rfl⟩:=Ak hx
   obtain⟨⟨a,ss⟩,hi,rfl⟩:=Ak hi0
   have hm:=ag hi
   obtain⟨o1,ne,o3⟩:=ox.2.2.2 _ hm
   obtain⟨_,_,y,hy,ey,sub⟩:=gb.2.2.2 _ hm
   have ey:y.1=a:=ey
   subst ey
   obtain⟨p,hp⟩:=List.mem_iff_getElem?.mp hy
   refine⟨rfl,Aw (y.1,ss), "=", rfl,rfl,by decide +kernel,aw (Je o1 o3) (by decide),λT hT=>?_⟩
   rw[Hv o1 o3]
   have ST:=Same.upd (o:=.lst ([y.1,bI "," ss].map V.str)) hT
   have eT:upd H2 T (.lst ([y.1,bI "," ss].map V.str)) T=some (.lst ([y.1,bI "," ss].map V.str)):=Ac
   show Ag _ _ _ [some (.ref l),some (.ref r),some (.str (A9 b)),some (.ref lw),some (.ref d),some (.str (Aw (y.1,ss))),some (.ref T),v7,v8,v9,none,none] (upd H2 T (.lst ([y.1,bI "," ss].map V.str)))
   generalize upd H2 T (.lst ([y.1,bI "," ss].map V.str))=H3 at ST eT ⊢
   have S3:=S2.trans ST
   have S03:=S1.trans S3
   have e3d:=ST _ _ e2d
   have e3w:=S3 _ _ elw
   have qT:=SqL.of (K:=K) eT
   refine .inl ⟨_,.inl qT,_,_,.inl qT,rfl,.inl ⟨lw,_,rfl,.inl (SqL.of e3w),rfl,C7 _,?_⟩⟩
   refine B4 (by rw[Iq,decide_eq_true (List.mem_map.mpr ⟨y,hy,rfl⟩)];rfl) ?_
   obtain⟨ix1,ix2,ix3⟩:=Mw (show (sw.map (·.1))[p]?=some y.1 by rw[aj,hp];rfl) nds
   obtain⟨oy1,oy2⟩:=hw.2.2.2.1 y hy
   have ndy:=oy2.1.2.1
   have hpd:p<ds.length:=by have:=Al hp;rw[<- ed,ae] at this;exact this
   obtain⟨⟨⟨y',la⟩,ta⟩,hds⟩:∃z,ds[p]?=some z:=⟨_,af hpd⟩
   have:y'=y:=by
    rw[<- ed,aj,hds] at hp
    exact aM hp
   subst this
   obtain⟨⟨_,w1⟩,_,w2⟩:=hd _ (ag hds)
   have w2:H la=some (A5 y'.2):=w2
   have atp:atI (ds.map λx=>V.ref x.2) (p:Int)=some (.ref ta):=A3 (j:=p) (by rw[aj,hds];rfl)
   refine⟨.inl ⟨rfl,_,SqL.of e3w⟩,_,_,.inl qT,rfl,lw,_,.str y'.1,rfl,rfl,e3w,rfl,C7 _,p,ix1,ix2,ix3,.inr ⟨_,DGet.k (k:=.inl (p:Int)) e3d,?_⟩⟩
   have hin:y'.1∉(es.map (·.1)).map (·.1):=by
    rw[ee,ib]
    exact Jl gb.2.2.1 (by rw[aj,hi];rfl)
   rw[ar8 nds hp he hin]
   refine⟨.inl ⟨rfl,_,SqL.of e3w⟩,_,_,.inl qT,rfl,lw,_,.str y'.1,rfl,rfl,e3w,rfl,C7 _,p,ix1,ix2,ix3,?_⟩
   refine⟨_,_,.inl qT,rfl,rfl,bI "," ss, ",", rfl,rfl,by decide +kernel,aw (No o3) (by decide),λL hL=>?_⟩
   rw[Nv ne o3]
   have SL:=Same.upd (o:=A5 ss) hL
   have eL:upd H3 L (A5 ss) L=some (A5 ss):=Ac
   show Ag _ _ _ [some (.ref l),some (.ref r),some (.str (A9 b)),some (.ref lw),some (.ref d),some (.str (Aw (y'.1,ss))),some (.ref T),some (.int (p:Int)),some (.ref L),v9,none,none] (upd H3 L (A5 ss))
   generalize upd H3 L (A5 ss)=H4 at SL eL ⊢
   have S4:=S3.trans SL
   have S04:=S1.trans S4
   have l8:ss.length<=8:=o3.2.2
   refine .inl ⟨_,.inl (SqL.of eL),?_⟩
   rw[ae]
   refine⟨⟨by omega,by omega⟩,?_⟩
   rw[aI]
   refine Ba (Bz 0 ss.length) (λj σ H'=>(∃v9,σ=[some (.ref l),some (.ref r),some (.str (A9 b)),some (.ref lw),some (.ref d),some (.str (Aw (y'.1,ss))),some (.ref T),some (.int (p:Int)),some (.ref L),v9,none,none])/\Same H4 H') ⟨⟨_,rfl⟩,Same.refl _⟩ (λ_ _ _ _ _=>ba) ?_ ?_
   .rintro j x σ H5 hx ⟨⟨v9,rfl⟩,S5⟩
    obtain⟨hj,rfl⟩:=Ds hx
    have hj2:ss[j]?=some ss[j]:=af hj
    generalize ss[j]=u at hj2
    have S05:=S04.trans S5
    have qL:=SqL.of (K:=K) (S5 _ _ eL)
    have atj:atI (ss.map V.str) (j:Int)=some (.str u):=A3 (j:=j) (by rw[aj,hj2];rfl)
    refine⟨_,.str u,.inl qL,atj,_,.ref ta,.inl (SqL.of (S05 _ _ ol)),atp,_,.ref la,.inr (SqT.of (S05 _ _ w1)),rfl,.inl ⟨la,_,rfl,.inl (SqL.of (S05 _ _ w2)),rfl,C7 _,?_⟩⟩
    refine B4 (by rw[Iq,decide_eq_true (sub u (ag hj2))];rfl) ?_
    refine⟨_,.str u,.inl qL,atj,.inl ⟨_,qL,λT2 hT2=>.inl ⟨T2,_,rfl,.inl (SqL.of Ac),rfl,by rw[Zk,<- ib];exact C7 _,?_⟩⟩⟩
    rw[Zk,<- ib,Iq,decide_eq_false (Jl o3.2.1 hj2)]
    exact⟨⟨_,rfl⟩,S5.trans (Same.upd hT2)⟩
   .rintro σ H5 ⟨⟨v9,rfl⟩,S5⟩
    have S05:=S04.trans S5
    refine .inl (.inl ⟨⟨_,SqL.of (S5 _ _ eL)⟩,λD hD=>?_⟩)
    refine B0 (Aq (ss.map V.str)) (λm σ H'=>(∃v,σ=[v,some (.int (p:Int)),some (.ref l)])/\Same H5 H'/\H' D=some (nO ((ss.take m).map (Q4 y'.2)))) ⟨⟨_,rfl⟩,Same.upd hD,Ac⟩ (λm σ H' _ q=>(S5.trans q.2.1).seqL (SqL.of eL)) ?_ ?_
    .rintro m x σ H6 hx ⟨⟨v,rfl⟩,S6,eD⟩
     obtain⟨u,hm,rfl⟩:=Ak hx
     have S06:=S05.trans S6
     obtain⟨n,hn⟩:=List.mem_iff_getElem?.mp (sub u (ag hm))
     obtain⟨j1,j2,j3⟩:=Mw hn ndy
     refine⟨_,.ref ta,.inl (SqL.of (S06 _ _ ol)),atp,_,.ref la,.inr (SqT.of (S06 _ _ w1)),rfl,.inl ⟨rfl,_,SqL.of (S06 _ _ w2)⟩,la,_,.str u,rfl,rfl,S06 _ _ w2,rfl,C7 _,n,j1,j2,j3,_,eD,?_,⟨_,rfl⟩,S6.set hD,?_⟩
     .rw[ae,ae,aJ]
      exact aG (show min m ss.length<=8 by omega) (by decide)
     .rw[Ac,nO,Ax hm,au,X2 hn ndy];rfl
    .rintro σ H6 ⟨_,S6,eD⟩
     rw[ae,aO] at eD
     have S36:=SL.trans (S5.trans S6)
     have S26:=ST.trans S36
     have ndD:d≠D:=Aj ((SL.trans S5) _ _ e3d) hD
     have le:es.length<=5:=by
      have h1:=congrArg bH ee
      have h2:=gb.2.1
      rw[ae,aJ] at h1
      omega
     refine .inr ⟨_,DPut.k (k:=.inl (p:Int)) (S36 _ _ e3d) ?_,?_⟩
     .rw[ae]
      exact aG le (by decide)
     have pk:Db (es.map (kD sw)) (.inl (p:Int)) (.ref D)=(es++[((y'.1,ss),D)]).map (kD sw):=by
      rw[Ff _ (ar8 nds hp he hin),au]
      show _++[((ge (p:Int):Key),V.ref D)]=_++[((ge ((As sw y'.1:Nat):Int):Key),V.ref D)]
      rw[Bm hp nds]
     rw[pk]
     refine⟨⟨_,_,_,_,_,rfl⟩,(S2.trans S26).set hd0,?_,es++[((y'.1,ss),D)],?_,Ac,λx hx=>?_⟩
     .rw[Ai (cQ nSd)];exact S26 _ _ e2S
     .rw[au,ee,bF,hi];rfl
     .rcases List.mem_append.mp hx with hx|hx
      .obtain⟨p',y2,g1,g2,g3,g4⟩:=he x hx
       refine⟨p',y2,g1,g2,g3,?_⟩
       rw[Ai (λz=>by rw[z,e2d] at g4;cases g4)]
       exact S26 _ _ g4
      .have:x=((y'.1,ss),D):=by simpa using hx
       subst this
       exact⟨p,y',hp,rfl,sub,by rw[Ai (cQ ndD)];exact eD⟩
  .rintro σ H2 ⟨⟨v5,v6,v7,v8,v9,rfl⟩,S2,e2S,es,ee,e2d,he⟩
   rw[ae,ae,aO] at ee
   rw[<- bn6,<- ee] at k
   have ndE:((es.map (·.1)).map (·.1)).Nodup:=by rw[ee];exact gb.2.2.1
   have le:es.length<=5:=by have:=gb.2.1;rw[<- ee,ae] at this;exact this
   have S02:=S1.trans S2
   have lenr:(rs.map λx=>V.ref x.2).length=(Ae sw).length:=by rw[Dl,ae,<- er];simp
   have few:=hw.len
   have nk:=b40 nds he ndE
   have fd:H d=none:=S1.free hd0
   refine .inl (.inl ⟨_,.inl (S02.seqL (SqL.of orr)),?_⟩)
   rw[lenr]
   refine⟨⟨by omega,by omega⟩,?_⟩
   rw[aI]
   refine Ba (Bz 0 (Ae sw).length) (λn σ H'=>(∃v5 v6 v7 v8 v9 v11,σ=[some (.ref l),some (.ref r),some (.str (A9 b)),some (.ref lw),some (.ref d),v5,v6,v7,v8,v9,some (.int (fN sw (es.map (·.1)) n:Nat)),v11])/\Off d H2 H'/\Rd H' d (.dK (es.map (kD sw)))) ⟨⟨_,_,_,_,_,_,rfl⟩,λb u _ e=>e,.inl e2d⟩ (λ_ _ _ _ _=>ba) ?_ ?_
   .rintro n x σ H3 hx ⟨⟨v5,v6,v7,v8,v9,v11,rfl⟩,O3,R3⟩
    obtain⟨hn,rfl⟩:=Ds hx
    have hn1:n<rs.length:=by rw[ae] at lenr;omega
    obtain⟨⟨dg,rn⟩,hrn⟩:∃z,rs[n]?=some z:=⟨_,af hn1⟩
    have hdg:(Cc sw)[n]?=some dg:=by rw[<- er,aj,hrn];rfl
    refine .inr (.inr (bt1 R3 λo Hf ef hf=>?_))
    have Of:Off d H2 Hf:=O3.but hf
    have at2:∀ {b u},H b=some u->Hf b=some u:=λe=>Of _ _ (Aj e fd) (S02 _ _ e)
    refine af9 (K:=K) hw ef (λx hx=>?_) nk (by omega) (at2 orr) (by rw[aj,hrn];rfl) (at2 (hr _ (ag hrn))) hdg λD H4 ys S4 hD eD hy=>?_
    .obtain⟨p',y2,g1,g2,g3,g4⟩:=he x hx
     exact⟨p',y2,g1,g2,g3,Of _ _ (λz=>by rw[z,e2d] at g4;cases g4) g4⟩
    .have O4:=Of.up S4
     have R4:Rd H4 d (.dK (es.map (kD sw))):=.inr ⟨o,S4 _ _ ef⟩
     have al:(es.all λx=>Hg sw n x.1)=(es.map (·.1)).all (Hg sw n):=by rw[d9];rfl
     rw[al,<- a84] at hy
     refine .inl ⟨_,.inl (SqL.of eD),?_⟩
     have sl:∀ {c c':Int},c=c'->[some (V.ref l),some (V.ref r),some (V.str (A9 b)),some (V.ref lw),some (V.ref d),v5,v6,v7,v8,v9,some (V.int c),some (V.int (n:Int))]=[some (V.ref l),some (V.ref r),some (V.str (A9 b)),some (V.ref lw),some (V.ref d),v5,v6,v7,v8,v9,some (V.int c'),some (V.int (n:Int))]:=λe=>by rw[e]
     have f1:fN sw (es.map (·.1)) (n+1)=if (es.map (·.1)).all (Hg sw n)=true then fN sw (es.map (·.1)) n ||| 2 ^ n else fN sw (es.map (·.1)) n:=rfl
     cases hh:(es.map (·.1)).all (Hg sw n) with
     |true=>
      rw[hh,if_pos rfl] at f1
      exact K0 (hy.trans hh) ⟨⟨by omega,by omega,by decide⟩,⟨_,_,_,_,_,_,sl (by rw[f1,dP,aI,C1,C5])⟩,O4,R4⟩
     |false=>
      rw[hh,if_neg av] at f1
      exact B4 (hy.trans hh) ⟨⟨_,_,_,_,_,_,sl (by rw[f1])⟩,O4,R4⟩
   .rintro σ H3 ⟨⟨v5,v6,v7,v8,v9,v11,rfl⟩,O3,R3⟩
    rw[Bh]
    exact .inl (k H3 λb u e=>O3 b u (Aj e fd) (S02 _ _ e))
end
theorem ac2 {α:Type}{l:List α}{p q:α->Bool}(h:∀a∈l,p a=q a):l.all p=l.all q:=by
 induction l with
 |nil=>rfl
 |cons a l ih=>rw[bv,bv,h a am,ih λb hb=>h b (aq _ hb)]
theorem Se {sw b:Sw}(hw:okSw sw){i:Nat}(hi:i<(Ae sw).length)(hb:∀e∈b,Hq sw e):(D9 sw b).testBit i=E1 sw i b:=by
 rw[Ii,decide_eq_true hi,cX]
 unfold E1
 refine ac2 λe he=>?_
 obtain⟨_,_,x,hx,ex,_⟩:=hb e he
 obtain⟨p,hp⟩:=List.mem_iff_getElem?.mp hx
 have pl:As sw e.1=p:=by rw[<- ex];exact Bm hp hw.2.2.1
 have hc:=(D0 hi hp).2
 rw[pl,hc,bu,decide_eq_true_iff,be]
 constructor
 .rintro⟨z,hz,q⟩
  have q:Ce sw i p=some z:=of_decide_eq_true q
  rw[hc] at q
  rw[Option.getD_some,aM q]
  exact hz
 .exact λh=>⟨_,h,decide_eq_true hc⟩
theorem b00(hw:okSw sw)(hb:∀b∈bs,∀e∈b,Hq sw e)(hi:i<(Ae sw).length):(unB sw bs).testBit i=bs.any (E1 sw i):=by
 unfold unB
 rw[Hz,iT,bu,be,be]
 constructor
 .rintro⟨b,h,q⟩
  exact⟨b,h,by rw[<- Se hw hi (hb b h)];exact q⟩
 .rintro⟨b,h,q⟩
  exact⟨b,h,by show (D9 sw b).testBit i=true;rw[Se hw hi (hb b h)];exact q⟩
theorem W5(hw:okSw sw)(g:gdC sw bs):Ct bs="-" ↔ bs=[]:=by
 constructor
 .intro h
  refine cx λz=>?_
  by_cases z1:bs=[[]]
  .subst z1;exact absurd h (by decide +kernel)
  .rw[Ef z z1] at h
   exact E4 z (λx hx=>Ow hw (g.2.resolve_left z1 x hx)) (by decide +kernel) h
 .rintro rfl;rfl
theorem ad3(hw:okSw sw)(g:gdC sw bs):Ct bs="*" ↔ bs=[[]]:=by
 constructor
 .intro h
  refine cx λz1=>?_
  by_cases z:bs=[]
  .subst z;exact absurd h (by decide +kernel)
  .rw[Ef z z1] at h
   exact E4 z (λx hx=>Ow hw (g.2.resolve_left z1 x hx)) (by decide +kernel) h
 .rintro rfl;rfl
section
theorem Zg(hw:okSw sw)(hl:w<2 ^ (Ae sw).length):gdC sw (bxF sw c (Cb sw c w) w)/\∀b∈bxF sw c (Cb sw c w) w,∀e∈b,Hq sw e:=by
 obtain⟨und,ln,inn⟩:=E0 hw c w
 have l5:=hw.2.1
 have bo:=Zi hw (c:=c) w inn
 have bg:=Lk hw (c:=c) w inn
 refine⟨⟨aw bo.1 (aw (cA (by decide) (show (Cb sw c w).length<=5 by omega)) (by decide)),?_⟩,λb hb=>(bg b hb).2⟩
 by_cases z:[]∈bxF sw c (Cb sw c w) w
 .left
  have h0:w &&& c≠0:=λq=>by rw[(Rp hw inn hl und).mpr q] at z;cases z
  exact Zh h0 (an9 hw inn hl und h0 z)
 .right
  intro b hb
  have:=(bo.2 b hb).1
  exact⟨λq=>z (q▸hb),by omega,(hw.2.2.1.sublist ((bg b hb).1.trans (W9 c w))),(bg b hb).2⟩
theorem a64(hw:okSw sw)(hl:w<2 ^ (Ae sw).length):unB sw (bxF sw c (Cb sw c w) w) &&& w=c &&& w:=by
 obtain⟨und,ln,inn⟩:=E0 hw c w
 refine cz λi=>?_
 rw[bi,bi]
 cases hi:w.testBit i with
 |false=>rw[cw,cw]
 |true=>
  rw[ez,ez,b00 hw (Zg hw hl).2 (Rn hl hi),bu,be]
  exact Uz hw inn hl und hi
theorem a63(hw:okSw sw)(hl:w<2 ^ (Ae sw).length):bxF sw c (Cb sw c w) w=[] ↔ c &&& w=0:=by
 obtain⟨und,ln,inn⟩:=E0 hw c w
 rw[fJ c w]
 exact Rp hw inn hl und
theorem bm6(hw:okSw sw)(hl:w<2 ^ (Ae sw).length):bxF sw c (Cb sw c w) w=[[]] ↔ w≠0/\c &&& w=w:=by
 obtain⟨und,ln,inn⟩:=E0 hw c w
 rw[fJ c w]
 constructor
 .intro h
  have h0:w &&& c≠0:=λq=>by rw[(Rp hw inn hl und).mpr q] at h;cases h
  have:=off_zero.mp (an9 hw inn hl und h0 (by rw[h];exact List.mem_singleton.mpr rfl))
  exact⟨λz=>h0 (by rw[z];exact Nat.zero_and _),this⟩
 .rintro⟨h1,h2⟩
  exact Zh (by rw[h2];exact h1) (off_zero.mpr h2)
theorem Jd {α:Type} [DecidableEq α]:∀ {l x:List α},l.Nodup->(∀z∈l,z∈x)->l.length<=x.length
 |[],_,_,_=>bZ _
 | a::l,x,nd,h=>by
  have n2:=List.pairwise_cons.mp nd
  have h1:=Jd (x:=x.erase a) n2.2 λz hz=>(List.mem_erase_of_ne (n2.1 z hz).symm).mpr (h z (aq _ hz))
  rw[List.length_erase_of_mem (h a am)] at h1
  have h2:=List.length_pos_of_mem (h a am)
  show l.length+1<=_
  omega
theorem a18:∀ {l m:List Nat},l.Pairwise (· < ·)->m.Pairwise (· < ·)->(∀z,z∈l ↔ z∈m)->l=m
 |[],[],_,_,_=>rfl
 |[],b::m,_,_,h=>absurd ((h b).mpr am) c6
 |a::l,[],_,_,h=>absurd ((h a).mp am) c6
 | a::l,b::m,h1,h2,h=>by
  have p1:=List.pairwise_cons.mp h1
  have p2:=List.pairwise_cons.mp h2
  have e:a=b:=by
   rcases List.mem_cons.mp ((h a).mp am) with e|q
   .exact e
   .rcases List.mem_cons.mp ((h b).mpr am) with e|q2
    .exact e.symm
    .have:=p2.1 a q;have:=p1.1 b q2;omega
  subst e
  rw[a18 p1.2 p2.2 λz=>⟨λhz=>?_,λhz=>?_⟩]
  .rcases List.mem_cons.mp ((h z).mp (aq _ hz)) with e|q
   .have:=p1.1 z hz;omega
   .exact q
  .rcases List.mem_cons.mp ((h z).mpr (aq _ hz)) with e|q
   .have:=p2.1 z hz;omega
   .exact q
theorem an6(hw:okSw sw)(hl:w<2 ^ (Ae sw).length)(hs:ps.Pairwise (· < ·))(hp:∀p,p∈ps ↔ p<sw.length/\∃b∈bxF sw c (Cb sw c w) w,nmS sw p∈b.map (·.1)):ps=Ot sw c w:=by
 obtain⟨und,ln,inn⟩:=E0 hw c w
 obtain⟨de,df⟩:=W8 hw c w
 have hm:=fv df
 have hd:(Ot sw c w).Sublist (aD sw.length):=by
  unfold Ea at hm
  rcases List.mem_append.mp hm with h|h
  .unfold Bq at h
   obtain⟨k,_,h⟩:=List.mem_flatMap.mp h
   exact (Es k _ _ h).1
  .rw[List.mem_singleton.mp h];exact jf _
 have sd:(Ot sw c w).Pairwise (· < ·):=List.pairwise_lt_range.sublist hd
 have mem:∀p,p∈ps ↔ p∈Ot sw c w:=λp=>by
  rw[hp]
  constructor
  .rintro⟨h1,b,hb,q⟩
   have:=(Lk hw w inn b hb).1.subset q
   rw[de] at this
   obtain⟨q',hq,e⟩:=List.mem_map.mp this
   rw[<- Xw hw.2.2.1 (List.mem_range.mp (hd.subset hq)) h1 e]
   exact hq
  .intro h
   refine⟨List.mem_range.mp (hd.subset h),ad9 hw hl ?_⟩
   rw[de]
   exact List.mem_map.mpr ⟨p,h,rfl⟩
 exact a18 hs sd mem
end
section
theorem bg3 {sw:Sw}{bs:List Sw}{i:Nat}{b:Sw}(h:bs[i]?=some b):unB sw (bs.take (i+1))=unB sw (bs.take i) ||| D9 sw b:=by
 unfold unB E9
 rw[Ax h,d6]
 rfl
theorem br0(Z:Ar K t):OkD K ak9 (Bc K t) bl (t.f 41) (t.d 41) (Ym K t):=by
 refine Bn (cb3 K t) λvs H Q E h=>?_
 .obtain⟨l,r,bs,sw,rfl,hsw,hw,hr,g,k⟩:=h;refine⟨rfl,?_⟩
  have few:=hw.len
  obtain⟨rs,er,orr,_⟩:=id hr
  have lenr:(rs.map λx=>V.ref x.2).length=(Ae sw).length:=by rw[Dl,ae,<- er];simp
  by_cases z0:bs=[]
  .subst z0
   exact k H (Same.refl _)
  by_cases z1:bs=[[]]
  .subst z1
   have:=k H (Same.refl _)
   rw[show unB sw [[]]=Hm sw from mj _] at this
   refine .inl ⟨_,.inl (SqL.of orr),?_⟩
   rw[lenr]
   refine⟨⟨by omega,by omega,by decide⟩,?_⟩
   have e:(1 * 2 ^ (((Ae sw).length:Nat):Int).toNat - 1:Int)=((Hm sw:Nat):Int):=by
    rw[<- F8,aI,dP];rfl
   rw[<- e] at this
   exact this
  have hb:=g.2.resolve_left z1
  have hb':∀x∈bs,okY x:=λx hx=>Ow hw (hb x hx)
  have n1:Cd bs ≠ "*" := E4 z0 hb' (by decide +kernel)
  have n2:Cd bs ≠ "-" := E4 z0 hb' (by decide +kernel)
  rw[Ef z0 z1]
  show if decide (Cd bs="*")=true then _ else _
  refine B4 (decide_eq_false n1) ?_
  show if decide (Cd bs="-")=true then _ else _
  refine B4 (decide_eq_false n2) ?_
  refine⟨rfl,Cd bs, "|", rfl,rfl,by decide +kernel,aw (Og g.1 hb') (by decide),λS hS=>?_⟩
  rw[Hw z0 hb']
  have S0:=Same.upd (o:=.lst ((bs.map A9).map V.str)) hS
  have eS:upd H S (.lst ((bs.map A9).map V.str)) S=some (.lst ((bs.map A9).map V.str)):=Ac
  refine .inl ⟨⟨_,SqL.of eS⟩,?_⟩
  show Mb (Itl K S) _ _ _ [some (.ref l),some (.ref r),some (.str (Cd bs)),some (.int 0),none,none] (upd H S (.lst ((bs.map A9).map V.str)))
  generalize upd H S (.lst ((bs.map A9).map V.str))=H0 at S0 eS ⊢
  refine Ba (Aq ((bs.map A9).map V.str)) (λi σ H'=>(∃v4 v5,σ=[some (.ref l),some (.ref r),some (.str (Cd bs)),some (.int (unB sw (bs.take i):Nat)),v4,v5])/\Same H0 H') ⟨⟨_,_,rfl⟩,Same.refl _⟩ (λi σ H' _ q=>q.2.seqL (SqL.of eS)) ?_ ?_
  .rintro i x σ H1 hx ⟨⟨v4,v5,rfl⟩,S1⟩
   obtain⟨z,hi0,rfl⟩:=Ak hx
   obtain⟨b,hi,rfl⟩:=Ak hi0
   have S01:=S0.trans S1
   refine⟨l,r,b,sw,rfl,hsw.mono (Kp.same S01),hw,hr.up S01,hb b (ag hi),λH2 S2=>?_⟩
   have nn:¬ ((D9 sw b:Nat):Int)<0:=by omega
   have zz:((unB sw (bs.take (i+1)):Nat):Int)=cB (unB sw (bs.take i):Nat) (D9 sw b:Nat):=by rw[bg3 hi,C5]
   rw[zz]
   generalize ((D9 sw b:Nat):Int)=z at nn ⊢
   refine B4 (decide_eq_false nn) ?_
   exact⟨⟨_,_,rfl⟩,S1.trans S2⟩
  .rintro σ H1 ⟨⟨v4,v5,rfl⟩,S1⟩
   rw[ae,ae,aO]
   exact .inl (k H1 (S0.trans S1))
noncomputable abbrev kJ(p:Nat):Key×V:=(.inl (p:Int),.bl true)
theorem Zv(ps:List Nat):(ps.map kJ).map (·.1)=(ps.map λp:Nat=>(p:Int)).map (ge:Int->Key):=by rw[a_,a_];rfl
theorem cf3(ps:List Nat)(p:Nat):Db (ps.map kJ) (.inl (p:Int)) (.bl true)=(if p∈ps then ps else ps++[p]).map kJ:=by
 by_cases h:p∈ps
 .rw[if_pos h]
  unfold Db
  rw[if_pos (List.any_eq_true.mpr ⟨kJ p,iD h,decide_eq_true rfl⟩),a_]
  refine bY λy _=>?_
  show (if (.inl (y:Int):Key)=.inl (p:Int) then ((.inl (y:Int):Key),V.bl true) else kJ y)=_
  split <;> rfl
 .rw[if_neg h,Ff _ (Eh λq=>h (by
   rw[Zv,a_] at q
   obtain⟨y,hy,e⟩:=List.mem_map.mp q
   have e:((y:Nat):Int)=(p:Int):=kW e
   rw[show p=y by omega]
   exact hy)),au]
  rfl
def cI(l:List Nat):List Int:=l.map λn:Nat=>(n:Int)
def b94(l:List Nat):Option (Array Nat):=PySem.W.kRun (cI l).length (λi j=>ltI ((cI l).getD i (0:Int)) ((cI l).getD j (0:Int))) (fB (cI l).length)
def ag8(l:List Nat)(a:Array Nat):List Nat:=a.toList.map λi=>l.getD i 0
noncomputable def b93(l:List Nat):Bool:=match b94 l with
 |some a=>a.toList.all (λi=>decide (i<l.length))&&(decide (a.toList.length<=64)&&(decide ((ag8 l a).Pairwise (· < ·))&&l.all λz=>decide (z∈ag8 l a)))
 |none=>false
def lsF:Nat->List (List Nat)
 |0=>[[]]
 |n+1=>[]::(aD 5).flatMap λa=>(lsF n).map (a :: ·)
theorem bp4:(lsF 5).all (λl=>decide (¬ l.Nodup)||b93 l)=true:=by decide +kernel
theorem at4:∀ {n:Nat} {l:List Nat},l.length<=n->(∀z∈l,z<5)->l∈lsF n
 |0,[],_,_=>List.mem_singleton.mpr rfl
 |0,_::_,h,_=>absurd h (by simp)
 |n+1,[],_,_=>am
 |n+1,a::l,h,g=>aq _ (List.mem_flatMap.mpr ⟨a,List.mem_range.mpr (g a am),List.mem_map.mpr ⟨l,at4 (Nat.le_of_succ_le_succ h) λz hz=>g z (aq _ hz),rfl⟩⟩)
theorem a19(nd:ps.Nodup)(h5:∀z∈ps,z<5)(l5:ps.length<=5):∃a,b94 ps=some a/\(∀i∈a.toList,i<ps.length)/\a.toList.length<=64/\(ag8 ps a).Pairwise (· < ·)/\∀z,z∈ag8 ps a ↔ z∈ps:=by
 have h:=List.all_eq_true.mp bp4 ps (at4 l5 h5)
 rw[decide_eq_false (λz=>z nd),ju] at h
 unfold b93 at h
 split at h
 .rename_i a e
  simp only[ay,aR,decide_eq_true_eq] at h
  refine⟨a,e,h.1,h.2.1,h.2.2.1,λz=>⟨λhz=>?_,h.2.2.2 z⟩⟩
  obtain⟨i,hi,rfl⟩:=List.mem_map.mp hz
  have:=h.1 i hi
  rw[ar,af this]
  exact bV this
 .cases h
theorem bq8(Z:Ar K t):OkD K ak7 (Bc K t) bl (t.f 42) (t.d 42) (Tl K t):=by
 refine Bn (cb1 K t) λvs H Q E h=>?_
 .obtain⟨l,bs,sw,rfl,hsw,hw,g,k⟩:=h;refine⟨rfl,?_⟩
  obtain⟨ds,ed,⟨_,ol⟩,hd⟩:=id hsw
  have nds:=hw.2.2.1
  refine .inl ⟨⟨_,SqL.of ol⟩,?_⟩
  refine On hw hsw λlw H1 S1 hlw elw=>λd hd0=>?_
  refine .inl ⟨(show 2<=sizeLine by decide),λT0 hT0=>.inl ⟨T0,_,rfl,.inr (SqT.of Ac),rfl,rfl,?_⟩⟩
  have Sd:=Same.upd (o:=.dK []) hd0
  have ST0:=Same.upd (o:=.tup [.str "*", .str "-"]) hT0
  have e1d:upd (upd H1 d (.dK [])) T0 (.tup [.str "*", .str "-"]) d=some (.dK (([]:List Nat).map kJ)):=ST0 _ _ Ac
  have S2:=Sd.trans ST0
  have hin:inV (.str (Ct bs)) [.str "*", .str "-"]=decide (Ct bs∈(["*", "-"]:List Str)):=Iq (Ct bs) ["*", "-"]
  have fin:∀ {H3:Hp} {ps:List Nat},Same H1 H3->H3 d=some (.dK (ps.map kJ))->ps.Nodup->(∀p,p∈ps ↔ p<sw.length/\∃b∈bs,nmS sw p∈b.map (·.1)) -> ∀R:VK,(∀v H',Q v H'->R v H')->Tf K true [.ref d] H3 R:=λ{H3} {ps} S3 e3 nd hp R hR=>by
   have lt:∀z∈ps,z<sw.length:=λz hz=>((hp z).mp hz).1
   have sl:=hw.2.1
   have l5:ps.length<=5:=aw (Jd nd (x:=aD sw.length) λz hz=>List.mem_range.mpr (lt z hz)) (by rw[bn];exact sl)
   have ln:(cI ps).length=ps.length:=ae _
   refine .inr ⟨rfl,d,cI ps,_,rfl,.inl e3,Zv ps,by omega,?_⟩
   by_cases h2:ps.length<2
   .refine .inl ⟨by omega,λD hD=>hR _ _ (k _ D ps (S1.trans (S3.trans (Same.upd hD))) ?_ (match ps,h2 with | [],_=>.nil | [_],_=>List.pairwise_singleton _ _) hp)⟩
    rw[Ac,cI,a_]
    rfl
   .obtain⟨a,e,lo,l6,so,mem⟩:=a19 nd (λz hz=>aL (lt z hz) sl) l5
    refine .inr ⟨by omega,a,e,l6,λi hi=>by have:=lo i hi;omega,λD hD=>hR _ _ (k _ D (ag8 ps a) (S1.trans (S3.trans (Same.upd hD))) ?_ so λp=>(mem p).trans (hp p))⟩
    rw[Ac,nO,ag8,a_]
    refine congrArg (λl=>some (HO.lst l)) (bY λi hi=>?_)
    show V.int ((cI ps).getD i 0)=V.int ((ps.getD i 0:Nat):Int)
    rw[cI,ar,aj,ar,af (lo i hi)]
    rfl
  rw[hin]
  generalize upd (upd H1 d (.dK [])) T0 (.tup [.str "*", .str "-"])=H2 at S2 e1d ⊢
  by_cases z0:bs=[]
  .subst z0
   refine B4 (by decide +kernel) ?_
   exact fin S2 e1d eI (λp=>⟨λh=>(nomatch h),fun⟨_,b,h,_⟩=>(nomatch h)⟩) _ λ_ _ q=>q
  by_cases z1:bs=[[]]
  .subst z1
   refine B4 (by decide +kernel) ?_
   refine fin S2 e1d eI (λp=>⟨λh=>(by cases h),fun⟨_,b,h,q⟩=>?_⟩) _ λ_ _ q=>q
   rw[List.mem_singleton.mp h] at q
   cases q
  have hb:=g.2.resolve_left z1
  have hb':∀x∈bs,okY x:=λx hx=>Ow hw (hb x hx)
  have n1:Cd bs ≠ "*" := E4 z0 hb' (by decide +kernel)
  have n2:Cd bs ≠ "-" := E4 z0 hb' (by decide +kernel)
  have ec:=Ef z0 z1
  refine K0 (by rw[decide_eq_false (by rw[ec];simp[n1,n2])];rfl) ?_
  rw[ec]
  refine⟨rfl,Cd bs, "|", rfl,rfl,by decide +kernel,aw (Og g.1 hb') (by decide),λS hS=>?_⟩
  rw[Hw z0 hb']
  have S3:=S2.trans (Same.upd (o:=.lst ((bs.map A9).map V.str)) hS)
  have eS:upd H2 S (.lst ((bs.map A9).map V.str)) S=some (.lst ((bs.map A9).map V.str)):=Ac
  have e3d:=(Same.upd (o:=.lst ((bs.map A9).map V.str)) hS) _ _ e1d
  refine .inl ⟨⟨_,SqL.of eS⟩,?_⟩
  show Mb (Itl K S) _ _ _ [some (.ref l),some (.str (Cd bs)),some (.ref lw),some (.ref d),none,none] (upd H2 S (.lst ((bs.map A9).map V.str)))
  generalize upd H2 S (.lst ((bs.map A9).map V.str))=H3 at S3 eS e3d ⊢
  have nSd:S≠d:=λz=>by rw[z,e3d] at eS;cases eS
  refine Ba (Aq ((bs.map A9).map V.str)) (λi σ H'=>(∃v4 v5,σ=[some (.ref l),some (.str (Cd bs)),some (.ref lw),some (.ref d),v4,v5])/\Same H1 H'/\H' S=some (.lst ((bs.map A9).map V.str))/\∃ps:List Nat,H' d=some (.dK (ps.map kJ))/\ps.Nodup/\∀p,p∈ps ↔ p<sw.length/\∃b∈bs.take i,nmS sw p∈b.map (·.1))
   ⟨⟨_,_,rfl⟩,S3,eS,[],e3d,eI,λp=>⟨λh=>(by cases h),fun⟨_,b,h,_⟩=>by cases h⟩⟩ (λi σ H' _ q=>SqL.of q.2.2.1) ?_ ?_
  .rintro i x σ H4 hx ⟨⟨v4,v5,rfl⟩,S4,e4S,ps,e4d,nd,hp⟩
   obtain⟨z,hi0,rfl⟩:=Ak hx
   obtain⟨b,hi,rfl⟩:=Ak hi0
   have gb:=hb b (ag hi)
   have ox:=Ow hw gb
   refine⟨rfl,A9 b, "&", rfl,rfl,by decide +kernel,aw (Hc ox) (by decide),λL hL=>?_⟩
   rw[Gr ox]
   have S5:=S4.trans (Same.upd (o:=.lst ((b.map Aw).map V.str)) hL)
   have e5L:upd H4 L (.lst ((b.map Aw).map V.str)) L=some (.lst ((b.map Aw).map V.str)):=Ac
   have e5d:=(Same.upd (o:=.lst ((b.map Aw).map V.str)) hL) _ _ e4d
   have e5S:=(Same.upd (o:=.lst ((b.map Aw).map V.str)) hL) _ _ e4S
   refine .inl ⟨⟨_,SqL.of e5L⟩,?_⟩
   show Mb (Itl K L) _ _ _ [some (.ref l),some (.str (Cd bs)),some (.ref lw),some (.ref d),some (.str (A9 b)),v5] (upd H4 L (.lst ((b.map Aw).map V.str)))
   generalize upd H4 L (.lst ((b.map Aw).map V.str))=H5 at S5 e5L e5d e5S ⊢
   have nLd:L≠d:=λz=>by rw[z,e5d] at e5L;cases e5L
   refine Ba (Aq ((b.map Aw).map V.str)) (λj σ H'=>(∃v5,σ=[some (.ref l),some (.str (Cd bs)),some (.ref lw),some (.ref d),some (.str (A9 b)),v5])/\Same H1 H'/\H' S=some (.lst ((bs.map A9).map V.str))/\H' L=some (.lst ((b.map Aw).map V.str))/\∃ps:List Nat,H' d=some (.dK (ps.map kJ))/\ps.Nodup/\∀p,p∈ps ↔ p<sw.length/\((∃b∈bs.take i,nmS sw p∈b.map (·.1))\/nmS sw p∈(b.take j).map (·.1)))
    ⟨⟨_,rfl⟩,S5,e5S,e5L,ps,e5d,nd,λp=>(hp p).trans (by simp)⟩ (λj σ H' _ q=>SqL.of q.2.2.2.1) ?_ ?_
   .rintro j x σ H6 hx6 ⟨⟨v5,rfl⟩,S6,e6S,e6L,ps,e6d,nd,hp⟩
    obtain⟨z,hj0,rfl⟩:=Ak hx6
    obtain⟨e,hj,rfl⟩:=Ak hj0
    have hm:=ag hj
    obtain⟨o1,_,o3⟩:=ox.2.2.2 e hm
    obtain⟨_,_,y,hy,ey,_⟩:=gb.2.2.2 e hm
    obtain⟨p,hpy⟩:=List.mem_iff_getElem?.mp hy
    have pl:=Al hpy
    have nm:nmS sw p=e.1:=by rw[K6 hpy,ey]
    obtain⟨ix1,ix2,ix3⟩:=Mw (show (sw.map (·.1))[p]?=some e.1 by rw[aj,hpy,<- ey];rfl) nds
    refine⟨.inl ⟨rfl,_,SqL.of (S6 _ _ elw)⟩,rfl,Aw e, "=", rfl,rfl,by decide +kernel,aw (Je o1 o3) (by decide),λT hT=>?_⟩
    rw[Hv o1 o3]
    have ST:=Same.upd (o:=.lst ([e.1,bI "," e.2].map V.str)) hT
    have eT:upd H6 T (.lst ([e.1,bI "," e.2].map V.str)) T=some (.lst ([e.1,bI "," e.2].map V.str)):=Ac
    generalize upd H6 T (.lst ([e.1,bI "," e.2].map V.str))=H7 at ST eT ⊢
    have S7:=S6.trans ST
    have l5:ps.length<=5:=aw (Jd nd (x:=aD sw.length) λz hz=>List.mem_range.mpr ((hp z).mp hz).1) (by rw[bn];exact hw.2.1)
    refine⟨_,_,.inl (SqL.of eT),rfl,lw,_,.str e.1,rfl,rfl,S7 _ _ elw,rfl,C7 _,p,ix1,ix2,ix3,.inr ⟨_,DPut.k (k:=.inl (p:Int)) (ST _ _ e6d) (by rw[ae];exact aG l5 (by decide)),?_⟩⟩
    rw[cf3]
    refine⟨⟨_,rfl⟩,S7.set hd0,by rw[Ai nSd];exact ST _ _ e6S,by rw[Ai nLd];exact ST _ _ e6L,_,Ac,?_,λq=>?_⟩
    .split
     .exact nd
     .rename_i nz
      exact List.nodup_append.mpr ⟨nd,by simp,λa ha c hc e=>nz ((show c=p by simpa using hc)▸(e▸ha:c∈ps))⟩
    .have hq:q∈(if p∈ps then ps else ps++[p]) ↔ q∈ps\/q=p:=by
      split
      .rename_i hz;exact⟨.inl,λq=>q.elim id λq=>q▸hz⟩
      .simp
     rw[hq,hp q,bF,hj,cq,au,aQ]
     constructor
     .rintro (⟨h1,h2⟩|rfl)
      .exact⟨h1,h2.elim .inl λh=>.inr (.inl h)⟩
      .exact⟨pl,.inr (.inr (by rw[nm];exact am))⟩
     .rintro⟨h1,h2|h2|h2⟩
      .exact .inl ⟨h1,.inl h2⟩
      .exact .inl ⟨h1,.inr h2⟩
      .refine .inr (Xw nds h1 pl ?_)
       rw[nm]
       simpa using h2
   .rintro σ H6 ⟨⟨v5,rfl⟩,S6,e6S,_,ps,e6d,nd,hp⟩
    rw[ae,ae,aO] at hp
    refine .inl ⟨⟨_,_,rfl⟩,S6,e6S,ps,e6d,nd,λp=>(hp p).trans ?_⟩
    rw[bF,hi,cq]
    constructor
    .rintro⟨h1,⟨b',h,q⟩|q⟩
     .exact⟨h1,b',bL _ h,q⟩
     .exact⟨h1,b,bc _ am,q⟩
    .rintro⟨h1,b',h,q⟩
     rcases List.mem_append.mp h with h|h
     .exact⟨h1,.inl ⟨b',h,q⟩⟩
     .obtain rfl:b'=b:=by simpa using h
      exact⟨h1,.inr q⟩
  .rintro σ H4 ⟨⟨v4,v5,rfl⟩,S4,_,ps,e4d,nd,hp⟩
   rw[ae,ae,aO] at hp
   exact .inl (fin S4 e4d nd hp _ λ_ _ q=>q)
end
section
theorem Jp(Z:Ar K t)(k:Bad t H E):Cv K (dFn (λvs H Q E=>vs.length<=1000/\mkX t.c_zbl none 0 vs H Q E) (Ab (dC (.str z)) Ah)) (Zo Q E) σ H:=
 ⟨(show 1<=1000 by decide),λa ha=>⟨_,none,Ac,Z.pf.en,k _ a (λb o e=>by rw[Ai (Aj e ha),Ai (Aj e ha)];exact e) Ac⟩⟩
theorem Bad.up(k:Bad t H E)(S:Same H H1):Bad t H1 E:=λH' e S' q=>k H' e (S.trans S') q
theorem thV.up(h:thV K H v)(S:Same H H1):thV K H1 v:=h.imp id λh=>h.imp id λh=>h.imp id λh=>h.imp id fun⟨a,xs,e,q⟩=>⟨a,xs,e,S.seqL q⟩
theorem br6(Z:Ar K t):OkD K al5 (Bc K t) bl (t.f 16) (t.d 16) (Yq K t):=by
 refine Bn (cb9 K t) λvs H Q E h=>?_
 .obtain⟨v,rfl,hf,k⟩:=h;refine⟨rfl,?_⟩
  rcases hf with ⟨i,rfl⟩|⟨b,rfl⟩|⟨z,rfl⟩|rfl|⟨a,xs,rfl,e⟩
  .exact⟨rfl,rfl,k⟩
  .exact⟨rfl,rfl,k⟩
  .exact⟨rfl,k⟩
  .exact⟨rfl,k⟩
  .exact⟨_,false,.sqL rfl e rfl,rfl,k⟩
theorem b51(Z:Ar K t):OkX K a39 (Bc K t) bl (t.m_zbm 3) (t.e_zbm 3) (a00 K t):=by
 refine ba0 (ch5 K t) λvs H Q E h=>?_
 .obtain⟨p,v,sw,ζ,rfl,⟨dx,d,l,n,s,kk,b,h⟩,hv,k1,k2⟩:=h;refine⟨rfl,?_⟩
  have many:∀ {σ:St} {Q':VK} {E':EK},σ[0]?=some (some (.ref p))->Q' (.int (Ae sw).length) H->Ev "many" 0 (Sk K t) (Aa 0) Ah σ H Q' E':=λhσ q=>by
   unfold Ev Aa
   rw[hσ]
   exact⟨p,dx,_,⟨t.c_zbm,bo4 K t⟩,rfl,.head _,h.ins.2,rfl,⟨ak _,ak _⟩,p,l,s,sw,rfl,h.self,h.tps,q⟩
  refine⟨v,rfl,hv,?_⟩
  rcases hv with ⟨i,rfl⟩|⟨b,rfl⟩|⟨z,rfl⟩|rfl|⟨a,xs,rfl,e⟩
  .by_cases hb:0<=i/\i<((Ae sw).length:Int)
   .have e1:F0 sw (.int i)=some i.toNat:=if_pos hb
    refine K0 (decide_eq_true hb.1) ?_
    exact many (by rfl) (B4 (by rw[decide_eq_true hb.2];rfl) (k1 _ e1))
   .have e1:F0 sw (.int i)=none:=if_neg hb
    have k:=k2 e1
    show if decide ((0:Int)<=i)=true then _ else _
    refine Gj (λe1=>many (by rfl) (K0 ?_ (Jp Z k))) (λe1=>Jp (Q:=Q) (σ:=[some (.ref p),some (.int i)]) Z k)
    have e1:(0:Int)<=i:=by simpa using e1
    have:decide (i<((Ae sw).length:Int))=false:=decide_eq_false λz=>hb ⟨e1,z⟩
    rw[this]
    rfl
  .exact Jp (Q:=Q) (σ:=[some (.ref p),some (.bl b)]) Z (k2 rfl)
  .exact Jp (Q:=Q) (σ:=[some (.ref p),some (.str z)]) Z (k2 rfl)
  .exact Jp (Q:=Q) (σ:=[some (.ref p),some .non]) Z (k2 rfl)
  .exact Jp (Q:=Q) (σ:=[some (.ref p),some (.ref a)]) Z (k2 rfl)
theorem b71(Z:Ar K t):OkX K a46 (Bc K t) bl (t.m_zbm 9) (t.e_zbm 9) (a16 K t):=by
 refine ba0 (cj6 K t) λvs H Q E h=>?_
 .obtain⟨p,v,sw,ζ,rfl,hP,hv,k1,k2⟩:=h;refine⟨rfl,?_⟩
  obtain⟨dx,d,l,n,s,kk,b,h⟩:=id hP
  refine⟨p,dx,_,⟨t.c_zbm,b33 K t⟩,rfl,.head _,h.ins.2,rfl,⟨ak _,ak _⟩,p,v,sw,ζ,rfl,hP,hv,λi hi=>?_,λhn H' e S q=>⟨e,rfl,k2 hn H' e S q⟩⟩
  obtain⟨j,rfl⟩:∃j,v=.int j:=by cases v <;> first|exact⟨_,rfl⟩|cases hi
  have hb:0<=j/\j<((Ae sw).length:Int):=cx λz=>by rw[show F0 sw (.int j)=none from if_neg z] at hi;cases hi
  have ej:i=j.toNat:=by rw[show F0 sw (.int j)=some j.toNat from if_pos hb] at hi;exact (aM hi).symm
  have ji:j=(i:Int):=by omega
  subst ji
  have il:i<(Ae sw).length:=by omega
  obtain⟨ds,ed,⟨_,ol⟩,hd⟩:=h.tps
  have hids:i<ds.length:=by rw[<- ed,ae] at il;exact il
  have hi':ds[i]?=some ds[i]:=af hids
  have hr:(Ae sw)[i]?=some ds[i].1:=by rw[<- ed,aj,hi'];rfl
  refine jk ⟨_,_,_,_,h.ins.2,Z.pf.cl,(Z.pf.na _ (by simp)),rfl,⟨_,.ref ds[i].2,.inl (SqL.of ol),A3 (j:=i) (by rw[aj,hi'];rfl),?_⟩⟩
  exact k1 i hi ds[i].2 _ hr (hd _ (ag hi')).2
theorem bp9(h:F0 sw v=some n):n<(Ae sw).length:=by
 cases v with
 |int i=>
  have hb:0<=i/\i<((Ae sw).length:Int):=cx λz=>by rw[show F0 sw (.int i)=none from if_neg z] at h;cases h
  rw[show F0 sw (.int i)=some i.toNat from if_pos hb] at h
  have:=aM h
  omega
 |_=>cases h
theorem b56(Z:Ar K t):OkX K bk6 (Bc K t) bl (t.f 17) (t.d 17) (a04 K t):=by
 refine ba0 (ci0 K t) λvs H Q E h=>?_
 .obtain⟨p,v,sw,ζ,rfl,hP,hw,hv,k1,k2⟩:=h;refine⟨rfl,?_⟩
  obtain⟨dx,d,l,n,s,kk,b,h⟩:=id hP
  refine⟨p,dx,_,⟨t.c_zbm,bo2 K t⟩,rfl,.head _,h.ins.2,rfl,⟨ak _,ak _⟩,p,sw,ζ,rfl,hP,hw,λH1 q ds S1 fq ed eq hd=>?_⟩
  refine .inl ⟨⟨_,SqL.of eq⟩,?_⟩
  refine V7 hw ed eq (λx hx=>(hd x hx).1) λD H2 S2 fD eD=>?_
  have S:=S1.trans S2
  refine⟨p,dx,_,⟨t.c_zbm,b37 K t⟩,rfl,.head _,S _ _ h.ins.2,rfl,⟨ak _,ak _⟩,p,v,sw,ζ,rfl,hP.mono (Kp.same S),hv.up S,λi hi a r hr ha=>?_,λhn H' e S' q=>⟨e,rfl,(k2 hn).up S H' e S' q⟩⟩
  have lr:r.length=sw.length:=(Hb hw.sets).2.1 r (ag hr)
  have l1:=hw.1
  have l2:=hw.2.1
  refine⟨_,_,eD,ha,?_,?_,?_,λD2 Ts H3 top fr hl ln laid=>k1 i hi H3 D2 (S.trans top) ⟨Ts,hl,?_,λj x y T e1 e2=>?_⟩⟩
  .rw[ae,ae,ae,lr]
  .rw[ae,ae];omega
  .rw[ae,ae];omega
  .rw[ln,ae,ae,ae,bn]
  .obtain⟨q,hq,e⟩:=Ak e1
   have hj:=Al hq
   rw[bn] at hj
   rw[cD hj] at hq
   cases hq
   cases e
   have hs:sw[j]?=some sw[j]:=af hj
   have hrj:r[j]?=some r[j]:=af (by omega)
   have cl:Fi sw i j=r[j]:=by unfold Fi Ce;rw[hr];show (r[j]?).getD _=_;rw[hrj];rfl
   exact (laid j _ _ T (by rw[a_,aj,hs,K6 hs];rfl) (by rw[aj,hrj,cl];rfl) e2).2
theorem Mn(hw:okSw sw)(hi:i<(Ae sw).length):gdB sw (chB sw i):=by
 have nm:∀ {p},p<sw.length -> ∃x,sw[p]?=some x/\nmS sw p=x.1/\Fi sw i p∈x.2:=λ{p} hp=>by
  have hs:sw[p]?=some sw[p]:=af hp
  obtain⟨h1,h2⟩:=D0 hi hs
  refine⟨_,hs,K6 hs,?_⟩
  unfold Fi
  rw[h2,Option.getD_some,ar,af h1]
  exact bV h1
 have l1:=hw.1
 have l2:=hw.2.1
 refine⟨λz=>?_,by unfold chB;rw[ae,bn];exact l2,?_,λe he=>?_⟩
 .have:=congrArg bH z
  unfold chB at this
  rw[ae,bn] at this
  rw[this] at l1
  cases l1
 .unfold chB
  rw[a_]
  refine List.pairwise_map.mpr (List.nodup_range.imp_of_mem λ{a b} ha hb h e=>h (Xw hw.2.2.1 (List.mem_range.mp ha) (List.mem_range.mp hb) e))
 .unfold chB at he
  obtain⟨p,hp,rfl⟩:=List.mem_map.mp he
  obtain⟨x,hx,e1,e2⟩:=nm (List.mem_range.mp hp)
  have hm:=ag hx
  have ok:=(hw.2.2.2.1 x hm).2
  refine⟨by simp,⟨λz hz=>?_,by simp,(show 1<=8 by decide)⟩,x,hm,e1.symm,λz hz=>?_⟩
  .rw[List.mem_singleton.mp hz];exact ok.1.1 _ e2
  .rw[List.mem_singleton.mp hz];exact e2
theorem bi2(hw:okSw sw)(g:gdB sw b):Vn b:=⟨g.2.1,λe he=>by
 obtain⟨o1,o2,o3⟩:=(Ow hw g).2.2.2 e he
 obtain⟨_,_,x,hx,_,sub⟩:=g.2.2.2 e he
 have ok:=(hw.2.2.2.1 x hx).2
 exact⟨o1.2.1,aw (Jd o3.2.1 sub) ok.2.2,λz hz=>(o3.1 z hz).2.1⟩⟩
theorem b67(Z:Ar K t):OkX K bl4 (Bc K t) bl (t.f 18) (t.d 18) (aa6 K t):=by
 refine ba0 (cj2 K t) λvs H Q E h=>?_
 .obtain⟨p,v,sw,ζ,rfl,hP,hw,hv,k1,k2⟩:=h;refine⟨rfl,?_⟩
  have big:(1000:Nat)<sizeLine:=by decide
  have l2:=hw.2.1
  refine⟨p,v,sw,ζ,rfl,hP,hw,hv,λi hi H1 l S1 ⟨Ts,el,lT,hT⟩=>?_,λhn H' e S q=>⟨e,rfl,k2 hn H' e S q⟩⟩
  rw[ae,bn] at lT
  refine .inl ⟨⟨_,SqL.of el⟩,λD hD=>?_⟩
  refine B0 (Aq (Ts.map V.ref)) (λm σ H'=>(∃v0 v1,σ=[v0,v1])/\Same H1 H'/\∃es:List ((Str×List Str)×V),es.map (·.1)=(chB sw i).take m/\H' D=some (.lst (es.map (·.2)))/\∀e∈es,TermAt H' e.2 e.1) ⟨⟨_,_,rfl⟩,Same.upd hD,[],rfl,Ac,λe h=>by cases h⟩ (λ_ _ H' _ q=>q.2.1.seqL (SqL.of el)) ?_ ?_
  .rintro m x σ H2 hx ⟨⟨v0,v1,rfl⟩,S2,es,ee,eD,he⟩
   obtain⟨T,hm,rfl⟩:=Ak hx
   have ml:=Al hm
   have hc:(chB sw i)[m]?=some (nmS sw m,[Fi sw i m]):=by unfold chB;rw[aj,cD (by omega)];rfl
   have eT:=hT m (.str (nmS sw m)) (.str (Fi sw i m)) T (by rw[aj,cD (by omega)];rfl) hm
   refine⟨_,.inl (SqT.of (S2 _ _ eT)),rfl,(show 1<=sizeLine by decide),λU hU=>⟨(show 2<=sizeLine by decide),λW hW=>?_⟩⟩
   have SU:=(Same.upd (o:=.tup [.str (Fi sw i m)]) hU).trans (Same.upd (o:=.tup [.str (nmS sw m),.ref U]) hW)
   have eU:upd (upd H2 U (.tup [.str (Fi sw i m)])) W (.tup [.str (nmS sw m),.ref U]) U=some (Dc [Fi sw i m]):=(Same.upd hW) _ _ Ac
   have eW:upd (upd H2 U (.tup [.str (Fi sw i m)])) W (.tup [.str (nmS sw m),.ref U]) W=some (.tup [.str (nmS sw m),.ref U]):=Ac
   generalize upd (upd H2 U (.tup [.str (Fi sw i m)])) W (.tup [.str (nmS sw m),.ref U])=H3 at SU eU eW ⊢
   have eD3:=SU _ _ eD
   have le:es.length<=m:=by have:=congrArg bH ee;rw[ae,aJ] at this;omega
   have kt:∀a xs,H3 a=some (.tup xs)->upd H3 D (.lst (es.map (·.2)++[.ref W])) a=some (.tup xs):=λa xs e=>by rw[Ai λz=>by rw[z,eD3] at e;cases e];exact e
   refine⟨_,eD3,by rw[ae];omega,⟨_,_,rfl⟩,(S2.trans SU).set hD,es++[((nmS sw m,[Fi sw i m]),.ref W)],by rw[au,ee,bF,hc];rfl,by rw[Ac,au];rfl,λe h=>?_⟩
   rcases List.mem_append.mp h with h|h
   .exact ((he e h).keep λa xs q=>SU _ _ q).keep kt
   .obtain rfl:e=((nmS sw m,[Fi sw i m]),.ref W):=by simpa using h
    exact⟨W,U,rfl,kt _ _ eW,kt _ _ eU⟩
  .rintro σ H2 ⟨_,S2,es,ee,eD,he⟩
   rw[ae,lT] at ee
   rw[show (chB sw i).take sw.length=chB sw i from eJ (by unfold chB;rw[ae,bn];exact ak _)] at ee
   exact⟨D,chB sw i,rfl,⟨es,ee,eD,he⟩,bi2 hw (Mn hw (bp9 hi)),λH3 S3=>k1 i hi H3 (S1.trans (S2.trans S3))⟩
end
section
def a97(n:Nat):Dt:=.at_ (.int (n:Int))
theorem ap4(a b:Nat):deq (a97 a) (a97 b)=decide (a=b):=by
 unfold a97 deq
 show ((a:Int)==(b:Int))=_
 rw[cR]
 exact decide_eq_decide.mpr (by omega)
theorem bh1(h:H a=some (nO as)):At K H (.lst (as.map a97)) (.ref a):=Wv (SqL.of h) (Lj λn _=>a56 rfl)
theorem b45(ha:H a=some (nO as))(hb:H b=some (nO bs))(q:Q (.bl (if neg then !decide (as=bs) else decide (as=bs))) H):Av K neg (.ref a) (.ref b) H Q:=
 .inr (.inl ⟨_,_,bh1 ha,bh1 hb,aw (fz (Gd (n:=0) (λ_=>ak _) _)) (by decide),by unfold deq;rw[Gf ap4];exact q⟩)
theorem ar7(y z:Str):bI y [z]=z:=rfl
theorem bq0(Z:Ar K t):OkD K ak0 (Bc K t) bl (t.f 35) (t.d 35) (Ye K t):=by
 refine Bn (ca4 K t) λvs H Q E h=>?_
 .obtain⟨l,r,i,d,sw,rfl,⟨ds,ed,⟨_,ol⟩,hd⟩,hw,hdi,hr,k⟩:=h;refine⟨rfl,?_⟩
  have big:(1000:Nat)<sizeLine:=by decide
  have l2:=hw.2.1
  have hi:i<(Ae sw).length:=by rw[Dl,ae];exact Al hdi
  have dl:d.length=sw.length:=Ln d (ag hdi)
  have gb:=Mn hw hi
  have lc:(chB sw i).length=sw.length:=by unfold chB;rw[ae,bn]
  refine⟨rfl,.inl ⟨_,.inl (SqL.of hr),?_⟩⟩
  rw[ae,dl]
  refine⟨⟨by omega,by omega⟩,λD hD=>?_⟩
  rw[aI]
  refine B0 (Bz 0 sw.length) (λm σ H'=>(∃v0,σ=[v0,some (.ref r),some (.ref l)])/\Same H H'/\H' D=some (A5 (((chB sw i).take m).map Aw))) ⟨⟨_,rfl⟩,Same.upd hD,Ac⟩ (λ_ _ _ _ _=>ba) ?_ ?_
  .rintro m x σ H1 hx ⟨⟨v0,rfl⟩,S1,eD⟩
   obtain⟨hm,rfl⟩:=Ds hx
   have hs:sw[m]?=some sw[m]:=af hm
   have hmd:m<ds.length:=by rw[<- ed,ae] at hm;exact hm
   obtain⟨⟨⟨y,la⟩,ta⟩,hds⟩:∃z,ds[m]?=some z:=⟨_,af hmd⟩
   have hsy:sw[m]?=some y:=by rw[<- ed,aj,hds];rfl
   obtain⟨⟨_,w1⟩,_,w2⟩:=hd _ (ag hds)
   have w2:H la=some (A5 y.2):=w2
   have atp:atI (ds.map λx=>V.ref x.2) (m:Int)=some (.ref ta):=A3 (j:=m) (by rw[aj,hds];rfl)
   obtain⟨j,hj,hj2⟩:=Mr (ag hdi) hsy
   have cl:Fi sw i m=y.2.getD j cJ:=by unfold Fi Ce;rw[X8 hdi hsy hj];rfl
   have hc:(chB sw i)[m]?=some (y.1,[y.2.getD j cJ]):=by
    unfold chB
    rw[aj,cD hm,<- cl,<- K6 hsy]
    rfl
   obtain⟨o1,_,o3⟩:=(Ow hw gb).2.2.2 _ (ag hc)
   have o4:(y.2.getD j cJ).length<=8:=(o3.1 _ (List.mem_singleton.mpr rfl)).2.1
   have o5:y.1.length<=8:=o1.2.1
   have e1:(("="):Str).length=1:=by decide +kernel
   refine⟨_,.ref ta,.inl (SqL.of (S1 _ _ ol)),atp,_,.str y.1,.inr (SqT.of (S1 _ _ w1)),rfl,?_⟩
   refine⟨by rw[e1];omega,_,.ref ta,.inl (SqL.of (S1 _ _ ol)),atp,_,.ref la,.inr (SqT.of (S1 _ _ w1)),rfl,_,.int (j:Int),.inl (SqL.of (S1 _ _ hr)),A3 (j:=m) (by rw[aj,hj];rfl),_,.str (y.2.getD j cJ),.inl (SqL.of (S1 _ _ w2)),A3 (j:=j) (by rw[aj,af hj2,ar,af hj2];rfl),by rw[Dd,e1];omega,_,eD,by rw[ae,ae,aJ];omega,⟨_,rfl⟩,S1.set hD,?_⟩
   rw[Ac,A5,Ax hc,au]
   rfl
  .rintro σ H1 ⟨_,S1,eD⟩
   rw[Bh,<- lc,aO] at eD
   exact⟨_,D,_,rfl,rfl,.inl (SqL.of eD),(Ro (bi2 hw gb)).2,k _ S1⟩
theorem b60(Z:Ar K t):OkD K bk8 (Bc K t) bl (t.f 36) (t.d 36) (a07 K t):=by
 refine Bn (ci5 K t) λvs H Q E h=>?_
 .obtain⟨p,v,sw,ζ,rfl,hP,hw,hv,hn,k⟩:=h;refine⟨rfl,?_⟩
  refine⟨p,v,sw,ζ,rfl,hP,hw,hv,(λn h=>by rw[hn] at h;cases h),λ_ H1 a S1 ea=>⟨a,rfl,t.c_zbl,none,.inl ea,Z.pf.en,true,Z.pf.mn,?_⟩⟩
  have x:ExcAt H1 a t.c_zbl []:=.inl ⟨rfl,.inr (.inl ea)⟩
  exact .inl ⟨.ref t.c_zbl,true,.exc rfl x Z.pf.en rfl,Z.k1,⟨.ref t.c_zbl,true,.exc rfl x Z.pf.en rfl,Z.k2,k H1 S1⟩⟩
theorem an0(h:SwIn any H l sw):∃xs:List V,H l=some (.lst xs)/\xs.length=sw.length:=by
 obtain⟨ds,ed,⟨_,ol⟩,_⟩:=h
 exact⟨_,ol,by rw[<- ed];simp⟩
theorem br8(Z:Ar K t):OkD K al7 (Bc K t) bl (t.f 43) (t.d 43) (Yr K t):=by
 refine Bn (cc1 K t) λvs H Q E h=>?_
 .obtain⟨l,r,p,c,w,sw,ζ,rfl,hsw,hw,hr,hP,hc,hl,k⟩:=h;refine⟨rfl,?_⟩
  refine⟨p,c,w,sw,ζ,rfl,hP,hw,hc,hl,λH1 S1=>?_⟩
  obtain⟨g,_⟩:=Zg (c:=c) hw hl
  have b1:=a64 (c:=c) hw hl
  have b2:=(W5 hw g).trans (a63 (c:=c) hw hl)
  have b3:=(ad3 hw g).trans (bm6 (c:=c) hw hl)
  have b4:=λ{ps}=>an6 (c:=c) (ps:=ps) hw hl
  generalize bxF sw c (Cb sw c w) w=bs at g b1 b2 b3 b4 ⊢
  refine⟨rfl,?_⟩
  refine⟨l,r,bs,sw,rfl,hsw.mono (Kp.same S1),hw,hr.up S1,g,λH2 S2=>?_⟩
  have S02:=S1.trans S2
  have nn:¬ ((unB sw bs:Nat):Int)<0:=by omega
  have b1':aX ((unB sw bs:Nat):Int) (w:Int)=aX (c:Int) (w:Int):=by rw[A7,A7,b1]
  generalize hzz:((unB sw bs:Nat):Int)=z at nn b1' ⊢
  refine B4 (decide_eq_false nn) ?_
  refine B4 (by rw[b1',decide_eq_true rfl];rfl) ?_
  refine⟨p,bs,sw,ζ,rfl,hP.mono (Kp.same S02),hw,g,λH3 S3=>?_⟩
  have S03:=S02.trans S3
  refine B4 (by rw[hzz,decide_eq_true rfl];rfl) ?_
  have t1:decide (Ct bs="-")=decide (aX (c:Int) (w:Int)=0):=by rw[A7];exact decide_eq_decide.mpr (b2.trans (by omega))
  refine B4 (by rw[t1,beq_self_eq_true];rfl) ?_
  have rest:∀Q':VK,(∀H',Same H H'->Q' (.bl true) H') -> ∀H4,Same H H4->Ad (Av K false) (dFn (spE (Tl K t) []) (Ab (Aa 0) (Ab (Aa 5) Ah))) (dFn (spE (aa5 K t) []) (Ab (Aa 1) (Ab (Aa 3) (Ab (Aa 4) (Ab (dFn (λvs H Q _=>(B9 K) vs H Q) (Ab (Aa 0) Ah)) Ah))))) [some (.ref l),some (.ref r),some (.ref p),some (.int (c:Int)),some (.int (w:Int)),some (.str (Ct bs)),some (.int z)] H4 Q' (λ_ _=>False):=λQ' kk H4 S4=>by
   refine⟨l,bs,sw,rfl,hsw.mono (Kp.same S4),hw,g,λH5 q ps S5 eq so hp=>?_⟩
   have S05:=S4.trans S5
   obtain⟨xs,ex,lx⟩:=an0 (hsw.mono (Kp.same S05))
   refine .inl ⟨_,.inl (SqL.of ex),?_⟩
   rw[lx]
   refine⟨r,c,w,sw,rfl,hr.up S05,hw,hc,hl,λH6 q2 S6 e2=>?_⟩
   refine b45 (S6 _ _ eq) e2 ?_
   have:=kk H6 (S05.trans S6)
   rw[<- decide_eq_true (b4 so hp)] at this
   exact this
  by_cases hz:w=0
  .have t2:decide (Ct bs="*")=false:=decide_eq_false λz=>(b3.mp z).1 hz
   have t3:(!decide ((w:Int)=0))=false:=by rw[decide_eq_true (show (w:Int)=0 by omega)];rfl
   refine B4 t3 ?_
   refine B4 (b:=!(decide (Ct bs="*")==(!decide ((w:Int)=0)))) (by rw[t2,t3];rfl) ?_
   exact rest _ k H3 S03
  .have t3:(!decide ((w:Int)=0))=true:=by rw[decide_eq_false (show ¬ (w:Int)=0 by omega)];rfl
   have t2:decide (Ct bs="*")=decide (aX (c:Int) (w:Int)=(w:Int)):=by rw[A7];exact decide_eq_decide.mpr (b3.trans ⟨λh=>by rw[h.2],λh=>⟨hz,by omega⟩⟩)
   refine K0 t3 ?_
   refine B4 (b:=!(decide (Ct bs="*")==decide (aX (c:Int) (w:Int)=(w:Int)))) (by rw[t2,beq_self_eq_true];rfl) ?_
   exact rest _ k H3 S03
end
section
theorem ap8(c:Int){m:Nat}(h:0<m):∃j:Nat,j<m/\c % (m:Int)=(j:Int):=by
 have h1:=bQ c (show (m:Int)≠0 by omega)
 have h2:=bN c (show (0:Int)<(m:Int) by omega)
 exact⟨(c % (m:Int)).toNat,by omega,by omega⟩
theorem bg6(a b:Nat):gH (a:Int) (b:Int)=((Bu (a ||| b) (a &&& b):Nat):Int):=by
 unfold gH
 rw[C5,A7]
 unfold Bu
 have e:(a ||| b) &&& (a &&& b)=a &&& b:=cz λi=>by
  rw[bi,dR,bi]
  cases a.testBit i <;> cases b.testBit i <;> rfl
 have le:a &&& b<=a ||| b:=aw f6 Nat.left_le_or
 rw[e]
 omega
def av3(sw:Sw)(c w b:Nat):Nat:=(c &&& w) ||| (b &&& Bu (Hm sw ||| w) (Hm sw &&& w))
theorem bu5 {sw:Sw}{c w b:Nat}(hc:c<2 ^ (Ae sw).length)(hb:b<2 ^ (Ae sw).length):av3 sw c w b<2 ^ (Ae sw).length:=Nat.or_lt_two_pow (F9 hc) (F9 hb)
theorem ba6 {sw:Sw}{c w b:Nat}(hw:w<2 ^ (Ae sw).length):av3 sw c w b &&& w=c &&& w:=cz λi=>by
 unfold av3
 rw[bi,dR,bi,bi,D6,dR,bi]
 cases h:w.testBit i with
 |false=>rw[cw,cw]
 |true=>
  have ha:(Hm sw).testBit i=true:=by rw[Mf];exact decide_eq_true (Rn hw h)
  rw[ha]
  cases c.testBit i <;> cases b.testBit i <;> rfl
theorem bm9 {sw:Sw}(hw:okSw sw){i:Nat}(hi:i<(Ae sw).length):unB sw [chB sw i]=2 ^ i:=by
 have gb:=Mn hw hi
 have e:unB sw [chB sw i]=D9 sw (chB sw i):=mj _
 rw[e]
 refine cz λj=>?_
 rw[fF,bu,decide_eq_true_iff]
 constructor
 .intro h
  have hj:j<(Ae sw).length:=by rw[Ii,ay,decide_eq_true_iff] at h;exact h.1
  rw[Se hw hj gb.2.2.2] at h
  refine Qf hw hi hj ?_
  rw[G8,aR]
  intro p hp
  have hp:=List.mem_range.mp hp
  have hs:sw[p]?=some sw[p]:=af hp
  refine decide_eq_true ((Mm hw hi hj hs).mp ?_)
  have:=List.all_eq_true.mp h (nmS sw p,[Fi sw i p]) (List.mem_map.mpr ⟨p,List.mem_range.mpr hp,rfl⟩)
  have this:=of_decide_eq_true this
  rw[show As sw (nmS sw p)=p by rw[K6 hs];exact Bm hs hw.2.2.1] at this
  obtain⟨_,c1⟩:=D0 hi hs
  obtain⟨_,c2⟩:=D0 hj hs
  have:=List.mem_singleton.mp this
  unfold Fi at this
  rw[c1,c2] at this ⊢
  exact congrArg some this.symm
 .rintro rfl
  rw[Se hw hi gb.2.2.2]
  unfold E1
  rw[aR]
  intro e he
  unfold chB at he
  obtain⟨p,hp,rfl⟩:=List.mem_map.mp he
  have hp:=List.mem_range.mp hp
  have hs:sw[p]?=some sw[p]:=af hp
  refine decide_eq_true ?_
  rw[show As sw (nmS sw p)=p by rw[K6 hs];exact Bm hs hw.2.2.1]
  exact List.mem_singleton.mpr rfl
theorem a66 {sw:Sw}(hw:okSw sw){i:Nat}(hi:i<(Ae sw).length):A9 (chB sw i)=Ct [chB sw i]:=by
 have:=(Mn hw hi).1
 rw[Ef (by simp) λz=>this (List.singleton_inj.mp z)]
 exact (ar7 _ _).symm
theorem bt0(Z:Ar K t):OkD K D_zbe (Bc K t) bl (t.f 45) (t.d 45) (Tp K t):=by
 refine Bn (cd3 K t) λvs H Q E h=>?_
 .obtain⟨a,ns,rfl,hS,hn,k⟩:=h;refine⟨rfl,?_⟩
  rw[show L2.start D_zbe.N [V.ref a]=[some (V.ref a),none,none,none,none,none,none,none,none,none,none,none] from rfl]
  refine⟨a,ns,rfl,hS,λH1 l sw S1 W1 hw=>?_⟩
  have l5:=hw.2.1
  have n256:=hw.len
  refine⟨l,sw,rfl,W1,hw,λH3 r S3 D3=>?_⟩
  have S03:=S1.trans S3
  refine⟨a,l,ns,sw,rfl,S03.seqL hS,W1.mono (Kp.same S3),hw,λH4 p ζ S4 P4=>?_⟩
  have S04:=S03.trans S4
  refine⟨a,ns,3,rfl,S04.seqL hS,r,_,sw,rfl,D3.up S4,hw,λH5 c S5 hc=>?_⟩
  have S05:=S04.trans S5
  refine⟨a,ns,4,rfl,S05.seqL hS,r,_,sw,rfl,D3.up (S4.trans S5),hw,λH6 w S6 hww=>?_⟩
  have S46:=S5.trans S6
  have S36:=S4.trans S46
  refine⟨l,r,p,c,w,sw,ζ,rfl,W1.mono (Kp.same (S3.trans S36)),hw,D3.up S36,P4.mono (Kp.same S46),hc,hww,λH7 S7=>?_⟩
  have S37:=S36.trans S7
  have S07:=S03.trans S37
  refine⟨a,ns,5,rfl,S07.seqL hS,r,_,sw,rfl,D3.up S37,hw,λH8 bd S8 hbd=>?_⟩
  have S38:=S37.trans S8
  have S08:=S03.trans S38
  have S48:=S46.trans (S7.trans S8)
  obtain⟨ds,ed,er,hd⟩:=D3.up S38
  have lnV:(ds.map λx=>V.ref x.2).length=(Ae sw).length:=by rw[ae,Dl,ae,<- ed,ae]
  refine .inl ⟨_,.inl (SqL.of er),?_⟩
  rw[lnV]
  refine⟨⟨by omega,by omega,by decide⟩,?_⟩
  have eo:cB (aX (c:Int) (w:Int)) (aX (bd:Int) (gH (1 * 2 ^ (((Ae sw).length:Nat):Int).toNat - 1) (w:Int)))=((av3 sw c w bd:Nat):Int):=by
   have e1:(1 * 2 ^ (((Ae sw).length:Nat):Int).toNat - 1:Int)=((Hm sw:Nat):Int):=by rw[<- F8,aI,dP];rfl
   rw[e1,bg6,A7,A7,C5]
   rfl
  refine⟨p,av3 sw c w bd,w,sw,ζ,congrArg (λz=>[V.ref p,V.int z,V.int (w:Int)]) eo,P4.mono (Kp.same S48),hw,bu5 hc hbd,hww,λH9 S9=>?_⟩
  refine⟨p,c,w,sw,ζ,rfl,P4.mono (Kp.same (S48.trans S9)),hw,hc,hww,λH10 S10=>?_⟩
  refine B4 (by rw[ai4 (ba6 hww),decide_eq_true rfl];rfl) ?_
  dsimp only[List.set]
  have T1:=S9.trans S10
  have S010:=S08.trans T1
  have S410:=S48.trans T1
  have r1:1<=(Ae sw).length:=hw.pos
  refine⟨a,ns,6,rfl,S010.seqL hS,.inl ⟨_,.inl (SqL.of (T1 _ _ er)),?_⟩⟩
  rw[lnV]
  obtain⟨i,hi,ei⟩:=ap8 (Az ns 6) r1
  refine⟨by omega,?_⟩
  rw[ei]
  have nv:F0 sw (.int (i:Int))=some i:=(if_pos ⟨by omega,by omega⟩).trans (by rw[aI])
  refine⟨p,.int (i:Int),sw,ζ,rfl,P4.mono (Kp.same S410),hw,.inl ⟨_,rfl⟩,λn hn H11 S11=>?_,λz=>by rw[nv] at z;cases z⟩
  obtain rfl:i=n:=by rw[nv] at hn;exact aM hn
  have T2:=T1.trans S11
  refine⟨rfl,?_⟩
  have hds:i<ds.length:=by rw[ae] at lnV;omega
  obtain⟨⟨dg,rn⟩,hrn⟩:∃z,ds[i]?=some z:=⟨_,af hds⟩
  have hdg:(Cc sw)[i]?=some dg:=by rw[<- ed,aj,hrn];rfl
  refine⟨_,.ref rn,.inl (SqL.of (T2 _ _ er)),A3 (j:=i) (by rw[aj,hrn];rfl),l,rn,i,dg,sw,rfl,W1.mono (Kp.same (S3.trans (S38.trans T2))),hw,hdg,T2 _ _ (hd _ (ag hrn)),λH12 S12=>?_⟩
  refine B4 (by rw[decide_eq_true rfl];rfl) ?_
  dsimp only[List.set]
  have T3:=T2.trans S12
  refine⟨a,ns,6,rfl,(S08.trans T3).seqL hS,⟨by decide,by decide⟩,⟨by decide,by decide,by decide⟩,by decide,?_⟩
  obtain⟨far,ef⟩:∃f:Nat,Az ns 6 / 256 % 10 ^ Int.toNat 9=(f:Int):=⟨(Az ns 6 / 256 % 10 ^ Int.toNat 9).toNat,(Int.toNat_of_nonneg (bQ _ (by decide))).symm⟩
  rw[ef]
  refine .inl ⟨_,.inl (SqL.of (T3 _ _ er)),.inl ⟨_,.inl (SqL.of (T3 _ _ er)),?_⟩⟩
  rw[lnV]
  refine⟨?_,?_⟩
  .show i.log2<1920
   by_cases z:i=0
   .subst z;decide
   .exact Nat.lt_trans ((Nat.log2_lt z).mpr (show i<2 ^ 8 by omega)) (by decide)
  refine⟨(show 1<=sizeLine by decide),?_⟩
  intro LL hLL
  refine⟨(show 7<=sizeLine by decide),?_⟩
  intro M hM
  let xs:List V:=[.int ((Ae sw).length:Nat),.int (((Ae sw).length:Nat)+(far:Int)),.int (-1 - (far:Int)),.non,.bl true,.str (toString (i:Int)),.ref LL]
  have eM:upd (upd H12 LL (.lst [.int (i:Int)])) M (.lst xs) M=some (.lst xs):=Ac
  have eL:upd (upd H12 LL (.lst [.int (i:Int)])) M (.lst xs) LL=some (.lst [.int (i:Int)]):=Same.upd hM _ _ Ac
  have T4:=T3.trans ((Same.upd (o:=.lst [.int (i:Int)]) hLL).trans (Same.upd (o:=.lst xs) hM))
  refine .inl ⟨⟨_,SqL.of eM⟩,?_⟩
  show Mb (Itl K M) _ _ _ [some (.ref a),some (.ref l),some (.ref r),some (.ref p),some (.int (c:Int)),some (.int (w:Int)),some (.int (bd:Int)),some (.int _),some (.int (i:Int)),some (.str (A9 (chB sw i))),some (.int (far:Int)),none] (upd (upd H12 LL (.lst [.int (i:Int)])) M (.lst xs))
  generalize upd (upd H12 LL (.lst [.int (i:Int)])) M (.lst xs)=H13 at eM eL T4 ⊢
  generalize cB _ _=oo
  refine Ba (Aq xs) (λm σ H'=>(∃v,σ=[some (.ref a),some (.ref l),some (.ref r),some (.ref p),some (.int (c:Int)),some (.int (w:Int)),some (.int (bd:Int)),some (.int oo),some (.int (i:Int)),some (.str (A9 (chB sw i))),some (.int (far:Int)),v])/\Same H13 H') ⟨⟨_,rfl⟩,Same.refl _⟩ (λm σ H' _ q=>q.2.seqL (SqL.of eM)) ?_ ?_
  .rintro m x σ H14 hx ⟨⟨v,rfl⟩,S14⟩
   have hv:thV K H14 x/\F0 sw x=none:=by
    have hm:x∈xs:=ag hx
    simp only[xs,aS,c6,or_false] at hm
    rcases hm with rfl|rfl|rfl|rfl|rfl|rfl|rfl
    .exact⟨.inl ⟨_,rfl⟩,if_neg (by omega)⟩
    .exact⟨.inl ⟨_,rfl⟩,if_neg (by omega)⟩
    .exact⟨.inl ⟨_,rfl⟩,if_neg (by omega)⟩
    .exact⟨.inr (.inr (.inr (.inl rfl))),rfl⟩
    .exact⟨.inr (.inl ⟨_,rfl⟩),rfl⟩
    .exact⟨.inr (.inr (.inl ⟨_,rfl⟩)),rfl⟩
    .exact⟨.inr (.inr (.inr (.inr ⟨LL,_,rfl,SqL.of (S14 _ _ eL)⟩))),rfl⟩
   exact⟨p,x,sw,ζ,rfl,P4.mono (Kp.same (S48.trans (T4.trans S14))),hw,hv.1,hv.2,λH15 S15=>⟨⟨_,rfl⟩,S14.trans S15⟩⟩
  .rintro σ H14 ⟨⟨v,rfl⟩,S14⟩
   have gb:=Mn hw hi
   refine .inl ?_
   refine⟨p,[chB sw i],sw,ζ,congrArg (λz=>[V.ref p,V.str z]) (a66 hw hi),P4.mono (Kp.same (S48.trans (T4.trans S14))),hw,⟨by simp,.inr λb hb=>by rw[List.mem_singleton.mp hb];exact gb⟩,λH15 S15=>?_⟩
   refine⟨⟨by omega,by omega,by decide⟩,?_⟩
   have e:((unB sw [chB sw i]:Nat):Int)=1 * 2 ^ ((i:Nat):Int).toNat:=by rw[bm9 hw hi,aI,dP];exact Int.natCast_pow 2 i
   have:=k H15
   rw[<- decide_eq_true e] at this
   exact this
end
end K14
namespace K14
open PySem L2
noncomputable def bz8:List Df:=[am2,am0,bl5,ak4,am3,bk4,al0,D_zbd,D_zay,al4,bk7,D_zm,al3,al2,am1,al1,al5,bk6,bl4,al6,ak2,al9,bl2,ak1,bl3,ak5,bk9,bk3,bk2,am6,bk5,ak8,am4,am5,ak3,ak0,bk8,al8,ak6,bl1,bl0,ak9,ak7,al7,D_zk,D_zbe]
def au0:List Df:=[a38,Y2,a44,a39,a43,a41,a40,a42,a45,a46]
structure bg8 (K:ac) (mg:Str->Option Value) (t:Adr):Prop where
 g:AllG K mg t.f t.d 0 bz8
 o_zbm:a51 K "Panel" t.c_zbm t.f_zv
 m_zbm:AllM K t.c_zbm t.m_zbm t.e_zbm 0 au0
 i_zv:a48 K D_zv t.f_zv t.d_zv [.non] [.none]
 a_zbk:c7 K bA "LeafError"=some (some (.ref t.c_zbk))
 a_zbl:c7 K bA "NoChoice"=some (some (.ref t.c_zbl))
 kp_zbl:br K (.ref t.c_zbl)=true
 ec_zbl:ECls K t.c_zbl
 in_zbl:bp K (.ref t.c_zbl) "__init__"=some (some (.builtin "ValueError.__init__"))
 c:AllC mg t.u 0 cons
 z:∀x∈bl,mg x=none
 Z:Ar K t
theorem bp2(X:K.In h)(G:h.Ns bA mg)(A:bg8 K mg t):FnOk P w K mg base CX0 19 (t.f 45) (t.d 45) D_zbe.ps (Tp K t):=by
 have Z:=A.Z
 have g:∀(j:Nat) {D:Df},bz8[j]?=some D->DOk K mg D.q D.st (t.f (0+j)) (t.d (0+j)) D.ps:=λj _ e=>(A.g.get j e).1
 have O:aj4 P w K mg base (Bc K t) bl t.f t.d 0 (fns K t):=⟨(bs3 Z).g (g 0 rfl),(bs1 Z).g (g 1 rfl),(b72 Z).g (g 2 rfl),(bq5 Z).g (g 3 rfl),(bs5 Z).g (g 4 rfl),(b53 Z).g (g 5 rfl),(br1 Z).g (g 6 rfl),(λT=>⟨CX0,λX _ _=>Er X,bs9 Z (g 7 rfl) (T 0 (aC rfl)) 6⟩),(λT=>⟨CX0,λX _ _=>Er X,bs4 Z (g 8 rfl) (T 1 (aC rfl)) 6⟩),(br5 Z).g (g 9 rfl),(b58 Z).g (g 10 rfl),(λT=>⟨CX0,λX _ _=>Er X,(b59 Z (g 11 rfl) (g 44 rfl) (T 1 (aC rfl)) 6).2⟩),(br4 Z).g (g 12 rfl),(br3 Z).g (g 13 rfl),(bs2 Z).g (g 14 rfl),(br2 Z).g (g 15 rfl),(br6 Z).g (g 16 rfl),(b56 Z).g (g 17 rfl),(b67 Z).g (g 18 rfl),(br7 Z).g (g 19 rfl),(bq2 Z).g (g 20 rfl),(bs0 Z).g (g 21 rfl),(b65 Z).g (g 22 rfl),(bq1 Z).g (g 23 rfl),(b66 Z).g (g 24 rfl),(bq6 Z).g (g 25 rfl),(b61 Z).g (g 26 rfl),(b49 Z).g (g 27 rfl),(b48 Z).g (g 28 rfl),(bs8 Z).g (g 29 rfl),(b54 Z).g (g 30 rfl),(bq9 Z).g (g 31 rfl),(bs6 Z).g (g 32 rfl),(bs7 Z).g (g 33 rfl),(bq3 Z).g (g 34 rfl),(bq0 Z).g (g 35 rfl),(b60 Z).g (g 36 rfl),(br9 Z).g (g 37 rfl),(bq7 Z).g (g 38 rfl),(b64 Z).g (g 39 rfl),(b63 Z).g (g 40 rfl),(br0 Z).g (g 41 rfl),(bq8 Z).g (g 42 rfl),(br8 Z).g (g 43 rfl),ba⟩
 have E:AllE P w K mg base (Bc K t) bl (Bc K t):=AllE.app ⟨(bn1 X G A.o_zbm A.i_zv (b68 Z)),(λ_=>b03 X G A.a_zbk),(λ_=>⟨ig X G A.a_zbl,A.kp_zbl,A.ec_zbl,A.in_zbl⟩),ba⟩ (AllE.app (Um A.c) (AllE.app (Uo A.o_zbm.cl A.m_zbm ⟨(b50 Z).m,(bq4 Z).m,(b69 Z).m,(b51 Z).m,(b62 Z).m,(b55 Z).m,(b52 Z).m,(b57 Z).m,(b70 Z).m,(b71 Z).m,ba⟩) (Y8 (AllG.pre (b:=[D_zk,D_zbe]) A.g) O)))
 exact bt0 Z _ _ _ _ _ (g 45 rfl).F λm _=>bg1 A.z E m
theorem all_mk {l:ke}{w:cb}{K:ac}{h:Heap}{mg:Str->Option Value}{fa c_zbm c_zbk c_zbl f_zv:Addr}(X:K.In h)(G:h.Ns bA mg)(hfa:mg "law"=some (.ref fa))(o_zbm:a51 K "Panel" c_zbm f_zv)(a_zbk:c7 K bA "LeafError"=some (some (.ref c_zbk)))(y_zbk:XC K c_zbk (valTail))(a_zbl:c7 K bA "NoChoice"=some (some (.ref c_zbl)))(kp_zbl:br K (.ref c_zbl)=true)(in_zbl:bp K (.ref c_zbl) "__init__"=some (some (.builtin "ValueError.__init__")))(y_zbl:XC K c_zbl (.ref c_zbk::valTail))(i_zv:∃d,a48 K D_zv f_zv d [.non] [.none])(nP:AllN K c_zbm ["settings", "tuples", "numbers", "sets", "kept_rules", "bars", "free"])(mn:ii K c_zbl (.ref c_zbl)=some true)(qT:bj9 K bz8)(qM_zbm:aj7 K c_zbm au0)(qC:aj6 K cons)(qZ:bk0 K bl)
  : ∃(t:Adr)(fd:bB),(∀(s:aF)(v:Value),lK s fd ⟨[v],[]⟩ [("_law_script", v)])/\∀base:Heap,K.In base->base.Ns bA mg->FnOk l.prog w K mg base CX0 19 fa fd ["_law_script"] (Tp K t):=by
 obtain⟨_,_,d₀,_⟩:=qT.1
 obtain⟨f,d,g⟩:=Y9 d₀ X G 0 qT (by (repeat' first|exact ba|refine⟨⟨rfl,λ_ _ _ _ _ _ us hl=>?_⟩,?_⟩|fail) <;> first|exact ba|exact b42 (λ_=>rfl) us hl|exact len2 (λ_ _=>rfl) us hl|exact len3 (λ_ _ _=>rfl) us hl|exact b43 (λ_ _ _ _=>rfl) us hl|exact b44 (λ_ _ _ _ _=>rfl) us hl)
 obtain⟨m_zbm,e_zbm,g_zbm⟩:=Za d₀ 0 qM_zbm (by (repeat' first|exact ba|refine⟨λ_ _ _ _ _ _ us hl=>?_,?_⟩|fail) <;> first|exact ba|exact b42 (λ_=>rfl) us hl|exact len2 (λ_ _=>rfl) us hl|exact len3 (λ_ _ _=>rfl) us hl|exact b43 (λ_ _ _ _=>rfl) us hl|exact b44 (λ_ _ _ _ _=>rfl) us hl)
 obtain⟨u,gc⟩:=Y7 X G 0 qC
 obtain⟨d_zv,i_zv⟩:=i_zv
 have tl_1:∀ {a:Addr},Br (.ref a::valTail)=true:=λ{a}=>by show Br valTail=true;decide +kernel
 have AO:bg8 K mg ⟨f,d,u,f_zv,d_zv,c_zbm,m_zbm,e_zbm,c_zbk,c_zbl⟩:=⟨g,o_zbm,g_zbm,i_zv,a_zbk,a_zbl,kp_zbl,y_zbl.ecls tl_1,in_zbl,gc,Zb X G qZ,⟨⟨o_zbm.cl,nP.all,y_zbl.ecls tl_1,mn⟩,y_zbl.kit y_zbk (by rw[bX,bX,beq_self_eq_true,Bool.true_or,fH]),y_zbl.kitV tl_1⟩⟩
 have gl:=g.get 45 (D:=D_zbe) rfl
 have e:fa=f (0+45):=by
  have m:=gl.1.m
  rw[hfa] at m
  injection m with m
  injection m
 subst e
 exact⟨_,_,λs v=>gl.2 s [v] rfl,λbase _ _=>bp2 X G AO⟩
noncomputable def sp0(K:ac):Sp:=λvs H Q _=>∃(a:Addr)(ns:List Int),vs=[.ref a]/\SqL K H a (ns.map V.int)/\ns.length<=63/\∀H',Q (.bl true) H'
theorem walk {l:ke}{q:bq}{loose:List Str}{XP:(Str->Option Value)->Heap->Prop}{YP:cb->Heap->Prop}{d:DefRec}{K:Params->ac}(hn:l.most=some 63)(hdf:d.params.defaults=[])(hY:∀(w:cb)(h:Heap),YP w h->(K w.params).In h)(F:∀(w:cb)(mg:Str->Option Value)(fa:Addr)(h:Heap),(K w.params).In h->h.Ns bA mg->mg d.name=some (.ref fa) ->
   ∃(t:Adr)(fd:bB),(∀(s:aF)(u:Value),lK s fd ⟨[u],[]⟩ [("_law_script", u)])/\∀base:Heap,(K w.params).In base->base.Ns bA mg->FnOk l.prog w (K w.params) mg base CX0 19 fa fd ["_law_script"] (Tp (K w.params) t)) :
  PySem.W.WalkO q loose XP YP l.row.toRowW d [] (λf vs=>PySem.call f vs):=
 L2.walk_of (n:=63) (k:=19) (x := "_law_script") (CX:=λ_=>CX0) (sp:=λw=>sp0 (K w.params)) (λ_ _=>ba) hn (by decide) hdf ⟨rfl,by decide,by decide⟩ hY (λw mg fa h a b c=>let ⟨t,fd,h1,h2⟩:=F w mg fa h a b c;⟨fd,h1,λbase x y=>(h2 base x y).imp λvs H Q E z=>z⟩) (λ_ _ a ns hl _ hS=>⟨a,ns,rfl,hS,hl,λ_=>rfl⟩) λ_ _ _ _ _ z=>z
end K14
open PySem PySem.W PyProof.Rows
end
set_option maxRecDepth 100000 in
theorem PySem.Challenge.cw_manyleaf_k14_told_and_read_back_holds : PySem.Challenge.rw_manyleaf_k14_told_and_read_back.Holds := by
 refine head_k14 ?_
 k_fill
 refine K14.walk (l:=PySem.Challenge.rw_manyleaf_k14_told_and_read_back) rfl rfl (λw h Y=>PySem.W.kIn_of Y) ?F
 case F=>
  intro w mg fa h KX G hmg
  refine' K14.all_mk KX G hmg ?o_zbm ?a_zbk ?y_zbk ?a_zbl ?kp_zbl ?in_zbl ?y_zbl ?i_zv ?nP ?mn ?qT ?qM_zbm ?qC ?qZ
  case o_zbm=>refine' L2.own_mk ?_ ?_ ?_ ?_ ?_ ?_ ?_ ?_ <;> try k_is
  case a_zbk=>k_is
  case y_zbk=>refine' L2.xc_mk ?_ ?_ ?_ ?_ ?_ ?_ ?_ ?_ <;> try k_is
  case a_zbl|kp_zbl|in_zbl=>k_is
  case y_zbl=>refine' L2.xc_mk ?_ ?_ ?_ ?_ ?_ ?_ ?_ ?_ <;> try k_is
  case i_zv=>refine' L2.ini1 (λ_ _ _ _ _ _ _ us hl=>L2.len3 (λ_ _ _=>⟨_,rfl,rfl⟩) us hl) (λ_ _ _ _ _ _ _ us hl=>L2.len2 (λ_ _=>⟨_,rfl,rfl⟩) us (Nat.succ.inj hl)) (by decide) ?_ ?_ ?_ ?_ ?_ <;> try k_is
  case nP=>(repeat' first|exact True.intro|refine' ⟨?_,?_⟩|fail) <;> try k_is
  case mn=>k_is
  case qT=>(repeat' first|exact True.intro|refine' ⟨⟨_,L2.top_mk ?_ ?_ ?_ ?_⟩,?_⟩|fail) <;> try k_is
  case qM_zbm=>(repeat' first|exact True.intro|refine' ⟨⟨_,?_,L2.met_mk ?_ ?_ ?_ ?_⟩,?_⟩|fail) <;> try k_is
  case qC=>(repeat' first|exact True.intro|refine' ⟨L2.con_mk ?_ ?_,?_⟩|fail) <;> first|k_is|exact⟨_,rfl⟩|exact rfl|skip
  case qZ=>(repeat' first|exact True.intro|refine' ⟨?_,?_⟩|fail) <;> try k_is
#print axioms PySem.Challenge.cw_manyleaf_k14_told_and_read_back_holds
