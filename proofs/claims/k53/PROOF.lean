import PyProof.Rows.All
import Wide.All
import OpenK.AllK
import Wide.FinOn
import PyProof.ToksMono
import Lean
import PyProof.EqAt
import PyProof.EqKinds
import PyProof.TupleCall
import PyProof.NeKinds
import PyProof.ZipIter
import PyProof.StrWalks
import PyProof.ConsumeWalk
import PyProof.ExcArgs
import PyProof.ExcBaseAll.ValueError
import KE.KIsAll
import PyProof.EnumFor
import PyProof.EnumMake
import PyProof.EnumStmt
import PyProof.Rows.EnumRows
import PyProof.DictWalks
import PyProof.Rows.SetFrom
import PyProof.DictItems
import KE.KDictList
import PyProof.TupleIter
import PyProof.RulesRaise
import PyProof.RulesTry
import PyProof.MeetsIn
import KE.KEqDict
import PyProof.StrOps2
import PyProof.StrCalls6
import PyProof.ListMulRoad
import PyProof.FactsAll.tuple
import KE.KDictOf
import KE.KSortTup
import KE.KSortKey
import PyProof.Rows.Range3
import PyProof.Rows.ChunkLeaf
import KE.KRevIter
import PyProof.StationsW
import PyProof.PassesOwn
import PyProof.NsDelKeeps
import KE.KLam
import KE.KNestM
import PySem.Challenge.RW_manyleaf_k53_seen_alike
set_option Elab.async false
set_option linter.all false
set_option compiler.extract_closed false
set_option bootstrap.genMatcherCode false
set_option maxRecDepth 100000
set_option maxHeartbeats 0
section
open PySem PySem.W PyProof.Rows
namespace PySem.W.Fast
def tw10224018528568317531:=()
def tw10633260559337486591:=()
def tw10673723237157037109:=()
def tw10695846029219841584:=()
def tw11103874621519685407:=()
def tw11198788670963316834:=()
def tw11427046766999120205:=()
def tw11870010014630891762:=()
def tw12013288098410919548:=()
def tw1208833744005970089:=()
def tw12184984738967633062:=()
def tw12362676232604175770:=()
def tw12502646195435337328:=()
def tw12662367569103110799:=()
def tw12722432133469586119:=()
def tw12755333936444547594:=()
def tw12831316988304288204:=()
def tw12878366564288085459:=()
def tw13003600973600704887:=()
def tw13301697995708326421:=()
def tw1351787983246107443:=()
def tw13588453028521211354:=()
def tw13603816325367894584:=()
def tw13719232765011127194:=()
def tw13858849859796437026:=()
def tw14035742890582933721:=()
def tw14209433665430445255:=()
def tw14452519255193946029:=()
def tw14580096541009457502:=()
def tw14686457352963928517:=()
def tw14726295422416573422:=()
def tw14829233635445854174:=()
def tw14938632630039190859:=()
def tw150237926883790520:=()
def tw15112151818451278519:=()
def tw15134410466196618357:=()
def tw15152868874353022403:=()
def tw15344181966838538732:=()
def tw15683159259180111981:=()
def tw16203075994759529558:=()
def tw1628701817757801397:=()
def tw16363920634145686872:=()
def tw16404756814866981777:=()
def tw16642845149274223234:=()
def tw16755710520280878241:=()
def tw16756414689180347754:=()
def tw16823333450896304578:=()
def tw16911233796002238303:=()
def tw16917819259862483799:=()
def tw16992553883659688908:=()
def tw17246961494106934720:=()
def tw1751865266018258955:=()
def tw17643715904185524565:=()
def tw17756424581152355220:=()
def tw17809773384673139932:=()
def tw17948017007584011926:=()
def tw18220250249737855245:=()
def tw1927191167552785295:=()
def tw2145981462813027889:=()
def tw2149880919256783013:=()
def tw2283669369687930849:=()
def tw2378271706907802710:=()
def tw2722090926305455814:=()
def tw2732692131780244662:=()
def tw2854207200496014187:=()
def tw3118970287449046891:=()
def tw3134270680604786040:=()
def tw3179233657218038776:=()
def tw3298060302234188992:=()
def tw3406133235115137957:=()
def tw3697167180003021128:=()
def tw4036856695002480567:=()
def tw4092586946462336210:=()
def tw4126374960499636305:=()
def tw4252269804186568356:=()
def tw4609629634409041350:=()
def tw467587272823782295:=()
def tw4962601326742998224:=()
def tw4965223914153121634:=()
def tw4973372724936340816:=()
def tw5026697662296637949:=()
def tw5042307882225835012:=()
def tw5091193252119209381:=()
def tw5148738330276869645:=()
def tw5975850240848805741:=()
def tw6232046924568790293:=()
def tw6274573611423034246:=()
def tw6451917093986480377:=()
def tw6531673302514199711:=()
def tw6644589071817036183:=()
def tw6704539564495842583:=()
def tw704514839161640992:=()
def tw7078066112556211741:=()
def tw7125081097849985932:=()
def tw736668379289109851:=()
def tw7499817097298587317:=()
def tw7558404181235954563:=()
def tw7628243778056666886:=()
def tw7696910465055881639:=()
def tw7955789600660742561:=()
def tw8103983923948667497:=()
def tw8180072557033804745:=()
def tw8309487781136123329:=()
def tw8397569945154831618:=()
def tw8597640692840815771:=()
def tw8640666692258205277:=()
def tw8676999967207832903:=()
def tw8852218854573441635:=()
def tw8938564838840325942:=()
def tw9111707265085002838:=()
def tw9215062252604962474:=()
def tw9300103830109578025:=()
def tw9801748029049321015:=()
def tw577781663213923030:=()
def tw6293653521253536378:=()
def tw10226401782048512129:=()
def tw10821984417814942959:=()
def tw2701926176371455257:=()
def tw14598381920979305323:=()
def tw3411824843933386000:=()
def tw425445450455602313:=()
def tw3806914703290801146:=()
def tw17059511252766667160:=()
def tw9486076225319609815:=()
def tw4094537016823151806:=()
def tw16554352811897821890:=()
def tw3731472433862802308:=()
def tw16235610039765902274:=()
def tw5649848731262441689:=()
def tw4503513051174573402:=()
def tw556098539866065883:=()
def tw15387839795535217550:=()
def tw7422493630469786375:=()
def tw9745351906866217601:=()
def tw11169096615118044273:=()
def tw2785450115645464603:=()
def tw8392289230341129304:=()
def tw2535054336891263560:=()
def tw6225885606038253940:=()
def tw17417722597123690075:=()
def tw1902101156003062306:=()
def tw5033661514812187742:=()
def tw2254727059131004198:=()
def tw15633142274779139342:=()
def tw13889729254422710931:=()
def tw4283533005266943689:=()
def tw15962700268310408455:=()
def tw15866626685509070584:=()
def tw272922054657348636:=()
def tw17889511059361502277:=()
def tw5083883155834843476:=()
def tw3949908969520183697:=()
def tw5739125713393900592:=()
def tw15269456215973788411:=()
def tw61061971544869602:=()
def tw5000257292526244341:=()
def tw11831811069226668094:=()
def tw7224533126104175113:=()
def tw9273150285749052898:=()
def tw14638685101941054386:=()
def tw15564117969131947740:=()
def tw18244729064279687621:=()
def tw15678618962455425989:=()
def tw3326804224265681054:=()
def tw15931549161747833973:=()
def tw3621437828332700120:=()
def tw13183437257296014849:=()
def tw7363363387687284755:=()
def tw9236955021749537492:=()
def tw18371467204676758927:=()
def tw16613668372271007062:=()
def tw8665653362515044844:=()
def tw12059494494568214230:=()
def tw9062946824849152299:=()
def tw13666057053398805466:=()
def tw16050100845652745353:=()
def tw7089986360221112797:=()
def tw14360535355812513337:=()
def tw14255215143940655459:=()
def tw6633631511465574374:=()
def tw16758170709049289725:=()
def tw17474733717969294312:=()
def tw17727262275988198164:=()
def tw14948200353009473134:=()
def tw16058495786830544801:=()
def tw6113012770997373183:=()
def tw15460315723614206801:=()
def tw8577818028709118127:=()
def tw16707436090576033466:=()
def tw7742343167952083700:=()
def tw8157618503325382417:=()
def tw12676203424950302557:=()
def tw9357636504049576692:=()
def tw17363193641142689896:=()
def tw11873392464514178344:=()
def tw9115814017712628671:=()
def tw16066434185712032091:=()
def tw17449801282493700810:=()
def tw13798371459882663340:=()
def tw2658335224972863164:=()
def tw3368529493264493654:=()
def tw15302515936697093109:=()
def tw12548885990880851464:=()
def tw7749023904693398031:=()
def tw4487877790099503540:=()
def tw11065214373975347703:=()
def tw5577787298173003913:=()
def tw13848212165242324087:=()
def tw9898343276289969004:=()
def tw283258395025888739:=()
def tw16355007811774264087:=()
def tw9809605288308440537:=()
def tw7501470199440871584:=()
def tw14468526237768717937:=()
def tw7911285389407618439:=()
def tw14612917993536697420:=()
def tw13269844137269265749:=()
def tw11823935419428156081:=()
def tw15903065050815801707:=()
def tw12037773881379150951:=()
def tw6614361453728791842:=()
def tw9866988428051964747:=()
def tw3970084861706195883:=()
def tw14453687715899814504:=()
def tw6460564239310315641:=()
def tw5516949994975472627:=()
def tw14656395223987178740:=()
def tw10173197643264822178:=()
def tw11772530879748479972:=()
def tw4915653132129496640:=()
def tw1265993227412109649:=()
def tw13580784427070068049:=()
def tw15422444932043817290:=()
def tw8740119709426912285:=()
def tw13077298093805852681:=()
def tw2109650591703045672:=()
def tw6693929070803221027:=()
def tw7191165337915602911:=()
def tw10680823852476026896:=()
def tw7659288533778583070:=()
def tw11653657023957367134:=()
def tw12867536340681771712:=()
def tw9480612914529749058:=()
def tw6819123171315397029:=()
def tw4526963143442710147:=()
def tw4343217228540351691:=()
def tw2370640086609177625:=()
def tw16479956933498241036:=()
def tw14228153147605365759:=()
def tw1159982431326729088:=()
def tw1858305829747299284:=()
def tw6122872684165260192:=()
def tw14112773741364098450:=()
def tw12522101284543155654:=()
def tw8899833430206188227:=()
def tw7647760896206226811:=()
def tw970021815275561070:=()
def tw5021395226831527066:=()
def tw12928040741570608322:=()
def tw13844989092818179463:=()
def tw10146516953461254444:=()
def tw10403745580444466954:=()
def tw8248295707853140082:=()
def tw12597536129309429986:=()
def tw8893326242186487915:=()
def tw9617088426302942902:=()
def tw8502384761533347426:=()
def tw12515612221876871928:=()
def tw16688291396136717757:=()
def tw865256375157030897:=()
def tw12386915974975154299:=()
def tw13516845595345568686:=()
def tw1717288509664127254:=()
def tw10554801388300412626:=()
def tw1422730367630976453:=()
def tw895021154945128513:=()
def tw7409096594614044730:=()
def tw15396867896982211557:=()
def tw17187674279124604655:=()
def tw2934095935043111883:=()
def tw16106795524245215746:=()
def tw6384849365728940832:=()
def tw18289270067605565794:=()
def tw6279290721973416786:=()
def tw17835815687843169028:=()
def tw17720010546573120217:=()
def tw10796146186172865868:=()
def tw3166316547677724950:=()
def tw14708557691885188181:=()
def tw609544571009590877:=()
def tw1169083073244756780:=()
def tw12487147544638367413:=()
def tw13926814605542256112:=()
def tw15649095681071634039:=()
def tw17347290166635262775:=()
def tw1614156334067615602:=()
def tw5612470285229831194:=()
def tw12896484501704049735:=()
def tw4826720017378243363:=()
def tw6570088534563079353:=()
def tw8282490947681691665:=()
def tw7165120943992692322:=()
def tw12834122116354816471:=()
def tw14381766925039013231:=()
end PySem.W.Fast
open_top head_k53 for PySem.Challenge.rw_manyleaf_k53_seen_alike
end
section
open Array renaming length_toList->bS,getElem?_toList->cD,getElem?_eq_some_iff->dM,getElem?_eq_getElem->dY,getElem?_setIfInBounds_self_of_lt->fh,perm_iff_toList_perm->iF,forIn_toList->iL,map->iZ,getElem?_eq_none->jK
open Bool renaming false_ne_true->au,and_eq_true->aE,false_eq_true->bH,eq_iff_iff->bX,or_eq_true->cI,beq_eq_decide_eq->fj,or_true->fZ,and_true->gj,not_eq_true'->gO,and_false->g6,eq_false_iff->i0,false_or->jk,true_and->jm,false_and->kI,not_true->k8
open Classical renaming byContradiction->fO
open False renaming elim->cb
open ForInStep renaming yield->fv
open Int renaming toNat_natCast->aU,emod_lt_of_pos->cw,emod_nonneg->cX,mul_le_mul_of_nonneg_left->hU,fdiv_eq_ediv_of_nonneg->iH,one_mul->jp,emod_add_mul_ediv->jV,natCast_mul->jW,toNat->mh
open LawfulBEq renaming eq_of_beq->ck
open List renaming length_map->ae,getElem?_eq_getElem->ah,mem_of_getElem?->ak,getElem?_map->am,getD_eq_getElem?_getD->ar,size_toArray->av,mem_map->aw,map_append->ax,range->ay,mem_cons_of_mem->aB,take_length->aC,map_map->aF,mem_append->aG,mem_cons->aH,length_take->aK,take_add_one->aL,length_cons->aO,mem_append_right->aP,mem_cons_self->aT,length_append->aW,map_cons->aZ,all_eq_true->be,length_range->bj,toArray->bo,getElem?_eq_some_iff->bu,mem_iff_getElem?->bB,getElem?_append_right->bD,getElem?_cons_succ->bK,length_reverse->bP,all_cons->bR,getElem?_append_left->bT,map_congr_left->bU,mem_append_left->bW,foldl_cons->bY,nodup_cons->bZ,mem_filter->cf,contains_cons->cq,mem_range->cu,append_nil->cz,length->cJ,getElem_map->cL,getElem_mem->cM,pairwise_iff_getElem->cV,length_singleton->cY,getElem_inj->c9,not_mem_nil->c_,length_eq_zero_iff->dq,mem_map_of_mem->dF,take_sublist_take_left->dG,any_eq_true->dO,Pairwise->dQ,getElem?_eq_none->dR,length_filter_le->dS,mem_singleton->dU,mem_iff_getElem->d7,take_sublist->d9,getElem?_cons_zero->eJ,getElem?_range->eK,getElem?_replicate->eN,lookup->eO,cons_append->e8,pairwise_cons->ff,find?_cons->fA,foldl_append->fF,mem_of_mem_take->fL,filter_eq_self->fW,Sublist->f7,any_cons->gr,mem_filterMap->gu,range_succ->gv,getElem?_set_self->gI,take_of_length_le->gJ,replicate->g7,all_map->g9,map_nil->g_,find?_eq_some_iff_append->hV,getElem?_set_ne->ib,map_take->ig,filterMap_cons->ir,filter_sublist->iu,of_mem_zip->iw,filter_append->iM,rel_of_pairwise_cons->iR,any_eq_false->i4,append_assoc->i5,flatMap_cons->i6,getElem_take->i7,nodup_append->i8,length_drop->jA,lookup_cons->jB,map_reverse->jC,mem_flatMap->jD,mem_reverse->jE,nil_sublist->jF,length_pos_of_mem->jN,pairwise_lt_range->jO,Perm->jY,length_nil->jZ,length_set->j0,take_append_drop->j2,pairwise_append->ky,reverse_reverse->kC,nodup_nil->kJ,length_pos_iff->kO,find?_eq_none->k9,getElem_range->k_,sum_cons->lg,any_map->lS,map->l9,range'->mk
open List.Pairwise renaming map->fE,nil->i3
open List.Perm renaming refl->iQ
open List.Sublist renaming refl->dD
open Nat renaming le_refl->ai,le_of_ble_eq_true->aI,lt_of_lt_of_le->aJ,ne_of_lt->aQ,le_trans->aY,lt_of_le_of_lt->bi,le_add_right->bw,zero_le->bx,lt_succ_self->cg,testBit_and->cA,succ_le_succ->cN,zero_add->cO,testBit_two_pow->cT,le_succ->df,zero_testBit->dj,eq_of_testBit_eq->dn,le_of_lt->dy,lt_succ_of_lt->d_,lt_irrefl->fG,testBit_or->fP,ne_of_gt->f8,sub_self->f9,le_succ_of_le->gR,pow_le_pow_right->ic,add_assoc->ii,testBit_xor->ix,lt_pow_two_of_testBit->iS,lt_of_succ_lt_succ->jP,add_comm->lT,le_of_eq->lU,min_self->lV
open Ne renaming symm->ce
open Option renaming some->aX,bind_some->cC,isSome_iff_exists->cE,toList_some->cK,map_eq_some_iff->e9,map_some->iy,isSome_map->i9
open Option.some renaming inj->aD,injEq->gS
open Or renaming inl->fJ
open PyProof.Rows renaming seqObj->bb,callWith_type1->b5,get?_update_seq->cZ,listUpdate_at->dv,seqEpoch_at->fY,boot_list->gL,callWith_builtin1->hO,listItems_at->iN,tail_of_ItemOn->iW,IntsAre->jq,boot_tuple->js,bitAnd_pn->jQ,subscriptTail_builtinR->jR,AllBare->jT,boot_int->j3,entry_list_sort->j8,list_sort_plain->j_,envOfC->kL,slot_list_sort->kM,failedOf->lB,subscriptTail->lH,size_push'->lO,SortSt->lX,entry_sorted->l3,plain_sorted->l6,oneType'->l_,kind_sorted->mD,arrOf->mI,bubble->mJ,general'->mQ,keyKind'->mS,IsTup->mV
open PyProof.Rows.F renaming plain_set_update_loop->gp,entry_set_update_loop->jo
open PyProof.Rows.SortSt renaming mk'->io
open PySem renaming wpAny_bind->af,Shared->aj,wpAny_pure->aq,Builtin->aM,wpAny->aN,Program->aS,FuncData->a9,Around->bq,Spec->bv,World->bz,sizeLine_eq->bA,wpAny_holding->bF,wpAny_with_toks->bG,wpAny_mono->bN,wpAny_Call_Name_kw->bO,mem_of_lookup->bQ,wpAny_typeNameOfWhole_keyiter->cm,NameKind->cx,compareOp->cB,wpAny_loadPart_at->cG,wpAny_typeNameOf_keyiter->cH,bootBuiltins->cQ,wpAny_call_entry->cR,starEach->cS,assignEach->c7,sysModules->c8,wpAny_field->dm,wpAny_callSpecial?_slot->dw,wpAny_newObj_type->dE,wpAny_isSubtype_exc->dJ,binaryOp->dL,rawInt->dX,wpAny_truthy_bool->eC,Within->eG,codeAny_mono->eI,wpAny_attempt->eW,wpAny_newList->eX,wpAny_standAt->eY,wpAny_setField_rec->fg,foldedSetIterable->fH,wpAny_pyIter_dict->fI,codeAny_call_builtin->fM,wpAny_setField->fT,wpAny_call->gh,PassesOwn->gw,codeAny->gE,codeAny_builtin->gG,wpAny_passesOwn->gH,excClassObj->gW,sliceBounds->gX,wpAny_dictEntries->gY,wpAny_pyIter_enum->gZ,wpAny_newTuple->g8,Paired->ie,bindArgs->im,letOwnedTupleGo->iD,wpAny_dictEpoch->iE,wpAny_letOwnedTupleGo_enum->iJ,wpAny_newFunctionEnv_cells->iK,pyNext->iO,firstArgMember->iU,relabel->iV,wpAny_fieldsOf->iX,wpAny_loadPart->iY,backTo->je,builtinsNs->jf,swapsWith->jh,typeLookup->ji,wpAny_pyIter_list->jj,attributeBase->jw,behindInMarks->jx,noFill_tuple_add->jG,pastItsLine_dict->jH,wpAny_isInstance->jI,wpAny_lookBehind->jJ,wpAny_pyNext_dict_item->jS,IsEnum->jX,call_meetsIn->j7,setFlight->kc,wpAny_execs_nil->ke,wpAny_isOneOf_keyiter->kg,wpAny_loadPart'->kh,wpAny_specialOf->kj,GenState->kl,closureFor->kq,isInstance->kr,setField->ku,intBits_le_iff->kE,wpAny_pyIter_keyiter->kG,wpAny_pyIter_revIter->kH,bindSpecial->kY,keywordEach->kZ,Fin->lj,noteFrame->lF,seq_tuple_add->lG,swapsWithSole->lI,BindsTo->lJ,getAttr->lL,notedBy->lN,valueAt->lP,assign->lY,concat_meets->lZ,wpAny_nsSet1->l7,DictEntry->ma,Keyword->mj,Result->ml,callerA->mq,cellsFrom->mw,eqIsQuiet->my,onTheHeap->mE,pyIter->mF,setAttr->mG,wpAny_throw->mH,CmpOp->mK,Operator->mL,backToKw->mM,collect->mN,compEnvC->mO,frameOf->mP,holding->mR,standAt->mT,unaryOp->mU,Model->mW,Walks->mX,atKey->mY
open PySem.Around renaming under_plainId->h_,under->lQ
open PySem.Builtin renaming bitNot->bI,bitAnd->b9,bitOr->cU
open PySem.Builtin.Dict renaming showsAll->jU
open PySem.Builtin.Dict_items renaming ownsTuple->fb
open PySem.Builtin.Int renaming intBits->ip
open PySem.Builtin.List renaming listFitsIndex->dN,listTooLong->f6
open PySem.Builtin.SmallTypes renaming nextOf->bL,ownedTupleHandOut->fN,ownedTupleIsFree->fV
open PySem.Builtin.Tuple renaming tupleHashOf->cn
open PySem.Calls renaming spliced_cons->fc,spliced_nil->fC,Name_function_global->iG,call_function_entry->iP,callWith_builtin->jL
open PySem.Code renaming quiet_builtin->gn,isFrame->lR
open PySem.EntryCells renaming newEntry->iq
open PySem.F renaming slot_dict_keyiterator_next->bV,slot_dict_get->dW,args_dict_keyiterator_next_1->eE,entry_dict_keyiterator_next->eZ,entry_dict_get->e_,called_set->fm,slot_enumerate_next->fu,excBase_ValueError->fK,args_tuple_add_2->f_,entry_tuple_add->gx,plainAttrs_list->gy,slot_tuple_add->gM,slot_tuple_hash->gQ,slot_list_insert->i_,args_enumerate_next_1->jn,args_dict_get_2->jt,args_dict_get_3->ju,entry_enumerate_next->jM
open PySem.Heap renaming get?_push_of_some->ag,get?_push_size->az,lt_size->aA,SameBut->bn,get?_update_other->cy,size_push->dZ,get?_update_self->fw,size_update->jz,get?_update_ne->kN,ExtBut->mf
open PySem.Heap.SameBut renaming update->bJ
open PySem.NameKind renaming free->eQ
open PySem.Obj renaming mapSeq->a_,mapFields->eU,isFreed_of_fields->hG,data_mapFields->lh
open PySem.Paired renaming length->jr
open PySem.PassesOwn renaming never->iz
open PySem.Sem renaming wp_bind'->lW
open PySem.SeqAt renaming EqAt->bE,RcNeAt->fB,RcAt->gU
open PySem.SeqAt.EqAt renaming int_str->lx,str_int->ly
open PySem.SeqAt.RcAt renaming tuples->jd
open PySem.SeqAt.RcNeAt renaming lists_lengths->iI
open PySem.Str renaming ofString->dB,empty->eh
open PySem.Value renaming ref->aV,none->bC,builtin->cW,type->gd,isStrOf->ij,str->iB,isStrOf_shape->kX,int->lA,bool->lK,isInt->mn
open PySem.W renaming Frag->ac,keepIn->ba,findIn->bh,kia_one->b7,nsIn->b_,fnOf->cr,emptyDict->cF,isFn->cP,mroIn->du,codeIn->dA,instObj->dH,makesIn->dI,codeHdIn->dP,kitOne->d6,looks_findIn->d8,mg_of->eV,InstAt->fQ,tabObj->fS,plainGet->fU,callWith_K0->fX,callWith_K->gC,cellsFrom_some->gN,hasDictIn->gT,handedIn->hX,plainGet_of->iA,kas_place->iC,lookIn->iT,kitx_list->ja,methodObj->jb,plainOver->jc,kasC_bind->jg,kas_item->jy,OpenLaw->j5,takerIn->j6,kas_rev->j9,handedOut_of->kD,kla_fn->kK,codeHd_of_K->kQ,findObj_own->kU,looks_mroIn->kW,kitx_tuple->ll,looks_find->lq,kas_count->lC,kas_desc->lE,clsIn->mx,kasC_pure->mz,kas_asc->mC,kas_st->mZ
open Sum renaming inr->hZ,inl->jv
open True renaming intro->aR
namespace L2
open PySem PySem.Spec PyProof.Rows
abbrev Key:=Sum Int Str
def Nm:Key->Value->Bool
 |.inl k,v=>mn k v
 |.inr x,v=>ij x v
def bn4 (w:bz):Key->Int
 |.inl k=>hashInt k
 |.inr x=>hashStr w x
theorem Ax:∀ {k:Key} {v:Value},Nm k v=true->(∃ i t,k=jv i/\v=lA i t)\/(∃ x t,k=hZ x/\v=iB x t)
 | .inl i,v,h=>by
  obtain⟨t,e⟩:=Value.isInt_shape (k:=i) (v:=v) h
  exact .inl ⟨i,t,rfl,e⟩
 | .inr x,v,h=>by
  obtain⟨t,e⟩:=kX (x:=x) (v:=v) h
  exact .inr ⟨x,t,rfl,e⟩
theorem X8 (i:Int) (t:Tok):Nm (.inl i) (.int i t)=true:=by simp[Nm,mn]
theorem X9 (x:Str) (t:Tok):Nm (.inr x) (.str x t)=true:=by simp[Nm,ij]
theorem a78 (a b:Int):decide ((jv a:Key)=jv b)=(a==b):=by
 by_cases e:a=b
 .subst e;simp
 .have h:¬ (jv a:Key)=jv b:=λq=>e (Sum.inl.inj q)
  rw[decide_eq_false h]
  exact (beq_eq_false_iff_ne.mpr e).symm
theorem a81 (a b:Str):decide ((hZ a:Key)=hZ b)=decide (a=b):=by
 by_cases e:a=b
 .subst e;simp
 .have h:¬ (hZ a:Key)=hZ b:=λq=>e (Sum.inr.inj q)
  rw[decide_eq_false h,decide_eq_false e]
theorem a79 (a:Int) (b:Str):decide ((jv a:Key)=hZ b)=false:=decide_eq_false (λq=>nomatch q)
theorem a80 (a:Str) (b:Int):decide ((hZ a:Key)=jv b)=false:=decide_eq_false (λq=>nomatch q)
noncomputable def Bh (prog:aS) (w:bz):PySem.KeyKind prog w Key where
 is:=Nm
 hash:=bn4 w
 inj:=λv a b ha hb=>by
  rcases Ax ha with ⟨i,t,rfl,rfl⟩|⟨x,t,rfl,rfl⟩
  .rcases Ax hb with ⟨j,u,rfl,e⟩|⟨y,u,rfl,e⟩
   .injection e with e1 _;rw[e1]
   .exact nomatch e
  .rcases Ax hb with ⟨j,u,rfl,e⟩|⟨y,u,rfl,e⟩
   .exact nomatch e
   .injection e with e1 _;rw[e1]
 byValue:=λk v h=>by
  rcases Ax h with ⟨i,t,rfl,rfl⟩|⟨x,t,rfl,rfl⟩ <;> rfl
 pyHash:=λhv h=>by
  rcases Ax hv with ⟨i,t,rfl,rfl⟩|⟨x,t,rfl,rfl⟩
  .exact wpAny_pyHash_int h
  .exact wpAny_pyHash_str h
 eqBool:=λhu hv h=>by
  rcases Ax hu with ⟨i,t,rfl,rfl⟩|⟨x,t,rfl,rfl⟩
  .rcases Ax hv with ⟨j,u,rfl,rfl⟩|⟨y,u,rfl,rfl⟩
   .rw[a78] at h;exact wpAny_eqBool_int h
   .rw[a79] at h;exact lx i t y u _ _ _ _ h
  .rcases Ax hv with ⟨j,u,rfl,rfl⟩|⟨y,u,rfl,rfl⟩
   .rw[a80] at h;exact ly x t j u _ _ _ _ h
   .rw[a81] at h;exact wpAny_eqBool_str h
 «strs»:=λk x t v h=>by
  rcases Ax h with ⟨i,u,rfl,e⟩|⟨y,u,rfl,e⟩
  .exact nomatch e
  .injection e with e1 _
   subst e1
   cases v <;> rfl
theorem Re (prog:aS) (w:bz) (i:Int) (t:Tok):(Bh prog w).is (.inl i) (.int i t)=true:=X8 i t
theorem Rf (prog:aS) (w:bz) (x:Str) (t:Tok):(Bh prog w).is (.inr x) (.str x t)=true:=X9 x t
inductive V where
 |non|bl (b:Bool)|int (i:Int)|str (x:Str)|byt (b:Array UInt8)|stk (x:Str) (n:Nat) (ex:Bool)|ref (a:Addr)|ty (n:String)
 deriving DecidableEq
noncomputable def RelV:V->Value->Prop
 |.non,u=>u=bC
 |.bl b,u=>u=lK b
 |.int i,u=>∃ t,u=lA i t
 |.str x,u=>∃ t,u=iB x t
 |.byt b,u=>∃ t,u=Value.bytes b t
 |.stk x n ex,u=>∃ t,u=iB x t/\(if ex=true then t=n else n<=t)
 |.ref a,u=>u=aV a
 |.ty n,u=>u=gd n
def V.pl:V->Bool
 |.stk _ _ _=>false
 |_=>true
noncomputable abbrev Vals:List V->List Value->Prop:=ie RelV
theorem Vals.length {xs:List V} {us:List Value} (r:Vals xs us):xs.length=us.length:=jr r
theorem Vals.get:∀ {xs:List V} {us:List Value} {i:Nat} {x:V},Vals xs us->xs[i]? = some x -> ∃ u,us[i]? = some u/\RelV x u
 |_,_,_,_,.nil,e=>by simp at e
 |_,_,0,_,.cons r _,e=>by simp at e;subst e;exact⟨_,rfl,r⟩
 | _,_,i+1,x,.cons _ t,e=>by
  obtain⟨u,h1,h2⟩:=Vals.get (i:=i) (x:=x) t (by simpa using e)
  exact⟨u,by simpa using h1,h2⟩
theorem Vals.append:∀ {xs ys:List V} {us ws:List Value},Vals xs us->Vals ys ws->Vals (xs++ys) (us++ws)
 |_,_,_,_,.nil,s=>s
 |_,_,_,_,.cons r t,s=>.cons r (Vals.append t s)
theorem Vals.take:∀ {xs:List V} {us:List Value} (n:Nat),Vals xs us->Vals (xs.take n) (us.take n)
 |_,_,0,_=>.nil
 |_,_,_+1,.nil=>.nil
 |_,_,n+1,.cons r t=>.cons r (Vals.take n t)
theorem Vals.drop:∀ {xs:List V} {us:List Value} (n:Nat),Vals xs us->Vals (xs.drop n) (us.drop n)
 |_,_,0,r=>r
 |_,_,_+1,.nil=>.nil
 |_,_,n+1,.cons _ t=>Vals.drop n t
noncomputable def RelO:Option V->Option Value->Prop
 |some v,some u=>RelV v u
 |none,none=>True
 |_,_=>False
noncomputable def KV {κ:Type}:List (κ×V)->List (κ×Value)->Prop:=ie λ(p:κ×V) (q:κ×Value)=>p.1=q.1/\RelV p.2 q.2
def kV:Key->V
 |.inl i=>.int i
 |.inr x=>.str x
noncomputable def Bv:V->Bool
 |.non=>true
 |.bl _=>true
 |.int _=>true
 |.str _=>true
 |_=>false
noncomputable def eqV:V->V->Bool
 |.non,.non=>true
 |.bl a,.bl b=>a==b
 |.bl a,.int b=>(if a then 1 else 0)==b
 |.int a,.bl b=>a==(if b then 1 else 0)
 |.int a,.int b=>a==b
 |.str a,.str b=>a==b
 |_,_=>false
theorem Om {A:bq} {s:aj} {y x:V} {u v:Value} (ry:RelV y u) (rx:RelV x v) (fy:Bv y=true) (fx:Bv x=true):bE A s u v (eqV y x):=by
 cases y with
 |non=>
  cases ry
  cases x with
  |non=>cases rx;exact SeqAt.EqAt.same _
  |bl b=>cases rx;exact SeqAt.EqAt.none_bool b
  |int b=>obtain⟨t,rfl⟩:=rx;exact SeqAt.EqAt.none_int b t
  |str b=>obtain⟨t,rfl⟩:=rx;exact SeqAt.EqAt.none_str b t
  |_=>exact absurd (show false=true from fx) au
 |bl a=>
  cases ry
  cases x with
  |non=>cases rx;exact SeqAt.EqAt.bool_none a
  |bl b=>cases rx;exact SeqAt.EqAt.bool_bool a b
  |int b=>obtain⟨t,rfl⟩:=rx;exact SeqAt.EqAt.bool_int a b t
  |str b=>obtain⟨t,rfl⟩:=rx;exact SeqAt.EqAt.bool_str a b t
  |_=>exact absurd (show false=true from fx) au
 |int a=>
  obtain⟨t',rfl⟩:=ry
  cases x with
  |non=>cases rx;exact SeqAt.EqAt.int_none a t'
  |bl b=>cases rx;exact SeqAt.EqAt.int_bool a t' b
  |int b=>obtain⟨t,rfl⟩:=rx;exact SeqAt.EqAt.int_int a t' b t
  |str b=>obtain⟨t,rfl⟩:=rx;exact lx a t' b t
  |_=>exact absurd (show false=true from fx) au
 |str a=>
  obtain⟨t',rfl⟩:=ry
  cases x with
  |non=>cases rx;exact SeqAt.EqAt.str_none a t'
  |bl b=>cases rx;exact SeqAt.EqAt.str_bool a t' b
  |int b=>obtain⟨t,rfl⟩:=rx;exact ly a t' b t
  |str b=>obtain⟨t,rfl⟩:=rx;exact SeqAt.EqAt.str_str a t' b t
  |_=>exact absurd (show false=true from fx) au
 |_=>exact absurd (show false=true from fy) au
inductive TK where
 |at_ (k:Key)
 |tup (l:List TK)
noncomputable instance:DecidableEq TK:=λ_ _=>Classical.propDecidable _
mutual
noncomputable def TkIs (P:aS) (w:bz) (h:Heap):TK->Value->Prop
 |.at_ k,v=>(Bh P w).is k v=true
 |.tup l,v=>∃ a items,v=.ref a/\mV h a items/\TksAre P w h l items.toList
noncomputable def TksAre (P:aS) (w:bz) (h:Heap):List TK->List Value->Prop
 |[],vs=>vs=[]
 |k::ks,vs=>∃ v r,vs=v::r/\TkIs P w h k v/\TksAre P w h ks r
end
mutual
def Fj (w:bz):TK->Int
 |.at_ k=>bn4 w k
 |.tup l=>reduceHash (cn (Ba w l))
def Ba (w:bz):List TK->List Int
 |[]=>[]
 |k::ks=>Fj w k::Ba w ks
end
mutual
def C8:TK->Nat
 |.at_ _=>1
 |.tup l=>Bs l+1
def Bs:List TK->Nat
 |[]=>0
 |k::ks=>C8 k+Bs ks
end
mutual
def Ap:TK->Nat
 |.at_ _=>0
 |.tup l=>B5 l+1
def B5:List TK->Nat
 |[]=>0
 |k::ks=>Nat.max (Ap k) (B5 ks)
end
theorem Eo:∀ {l:List TK} {k:TK},k∈l->Ap k<=B5 l
 |[],_,h=>by cases h
 | x::l,k,h=>by
  unfold B5
  rcases List.mem_cons.mp h with rfl|h
  .exact Nat.le_max_left _ _
  .exact aY (Eo h) (Nat.le_max_right _ _)
theorem Hd (w:bz):∀ (a b:List TK),Ba w (a++b)=Ba w a++Ba w b
 |[],_=>by unfold Ba;rfl
 | x::a,b=>by
  show Fj w x::Ba w (a++b)=Fj w x::(Ba w a++Ba w b)
  rw[Hd w a b]
theorem Hb:∀ (a b:List TK),Bs (a++b)=Bs a+Bs b
 |[],_=>by show Bs _=0+_;rw[cO];rfl
 | x::a,b=>by
  show C8 x+Bs (a++b)=C8 x+Bs a+Bs b
  rw[Hb a b,ii]
section
variable {P:aS} {w:bz}
theorem Y9 (k:TK):∀ {A:bq} {E:Value->aj->Prop} {s:aj} {v:Value} {Q:Int->aj->Prop},A.units+Ap k<cLine->TkIs P w s.heap k v->Q (Fj w k) { s with toks:=s.toks+C8 k }->aN (model P w) A (pyHash v) Q E s:=by
 refine TK.rec (motive_1:=λk=>∀ {A:bq} {E:Value->aj->Prop} {s:aj} {v:Value} {Q:Int->aj->Prop},A.units+Ap k<cLine->TkIs P w s.heap k v->Q (Fj w k) { s with toks:=s.toks+C8 k }->aN (model P w) A (pyHash v) Q E s)
  (motive_2:=λl=>∀ k∈l,∀ {A:bq} {E:Value->aj->Prop} {s:aj} {v:Value} {Q:Int->aj->Prop},A.units+Ap k<cLine->TkIs P w s.heap k v->Q (Fj w k) { s with toks:=s.toks+C8 k }->aN (model P w) A (pyHash v) Q E s)
  ?_ ?_ ?_ ?_ k
 .intro k A E s v Q _ hk h
  unfold TkIs at hk
  exact (Bh P w).pyHash hk h
 .intro l ih A E s v Q hu hk h
  unfold TkIs at hk
  obtain⟨a,items,rfl,ht,hi⟩:=hk
  have hT:=ht.typeIs
  obtain⟨o,ho,hc,n,hd⟩:=id ht
  have hu:A.units+(B5 l+1)<cLine:=hu
  unfold pyHash
  first|unfold pyHashByItsType|skip
  first|refine af (wpAny_cRoomFor_or (.inr (by omega)) ?_)|skip
  refine af (kj hT F.slot_tuple_hash.lookup ?_)
  show aN _ _ (if (some (cW "tuple.__hash__")==some bC)=true then _ else _) Q E s
  rw[if_neg (by rw[beq_builtin_none];exact au)]
  refine af (kj hT F.slot_tuple_hash.lookup ?_)
  show aN _ _ (callSpecialIfBoundUnlessNone? (.ref a) "__hash__" _ >>= _) Q E s
  refine af (wpAny_callSpecialIfBoundUnlessNone?_slot hT gQ (cR gQ hT F.entry_tuple_hash ?_ (F.args_tuple_hash_1 _)))
  show aN _ _ (Builtin.Tuple.tupleItemsOf (.ref a) >>= _) _ _ s
  refine af (wpAny_tupleItemsOf ho hd ?_)
  refine af ?_
  rw[<- iL]
  refine wpAny_forIn_list _
   (λrest (b:Array Int) s'=>∃ done left,l=done++left/\TksAre P w s.heap left rest/\b.toList=Ba w done/\s'={ s with toks:=s.toks+Bs done })
   _ ?_ ?_ _ _ ⟨[],l,rfl,hi,rfl,rfl⟩
  .rintro x rest b s' ⟨done,left,rfl,hl,hb,rfl⟩
   cases left with
   |nil=>unfold TksAre at hl;cases hl
   |cons k ks=>
    unfold TksAre at hl
    obtain⟨v,r,e,h1,hl'⟩:=hl
    cases e
    have hm:k∈done++k::ks:=aP _ aT
    have dk:=Eo hm
    have dr:Bs (done++[k])=Bs done+C8 k:=by rw[Hb];show _+(C8 k+0)=_;omega
    have hh:Ba w (done++[k])=Ba w done++[Fj w k]:=by rw[Hd];rfl
    refine af (ih k hm (by first|omega|(show A.units+1+Ap k<cLine;omega)) h1 ?_)
    first
     |exact aq ⟨done++[k],ks,by simp,hl',by rw[hh];simp[hb],by rw[dr];simp[ii]⟩
     |exact af (aq (aq ⟨done++[k],ks,by simp,hl',by rw[hh];simp[hb],by rw[dr];simp[ii]⟩))
  .rintro b s' ⟨done,left,rfl,hl,hb,rfl⟩
   cases left with
   |cons k ks=>unfold TksAre at hl;obtain⟨v,r,e,_⟩:=hl;cases e
   |nil=>
    rw[cz] at h
    show aN _ _ (retInt (cn b.toList)) _ _ _
    rw[hb]
    refine wpAny_ret_mkInt ?_
    show aN _ _ (if (decide (-(2:Int) ^ 63<=cn (Ba w done))&&decide (cn (Ba w done)<2 ^ 63))=true then _ else _) Q E _
    have h:Q (reduceHash (cn (Ba w done))) { s with toks:=s.toks+(Bs done+1) }:=h
    unfold reduceHash at h
    by_cases hr:(decide (-(2:Int) ^ 63<=cn (Ba w done))&&decide (cn (Ba w done)<2 ^ 63))=true
    .rw[if_pos hr]
     rw[if_pos hr] at h
     exact aq (by simpa [ii] using h)
    .rw[if_neg hr]
     rw[if_neg hr] at h
     exact af (wpAny_rule (aq (by simpa [ii] using h)))
 .exact λk h=>by cases h
 .intro k l h1 h2 x hx
  rcases List.mem_cons.mp hx with rfl|hx
  .exact h1
  .exact h2 x hx
theorem TkIs.inj {h:Heap} (x:TK):∀ {y:TK} {v:Value},TkIs P w h x v->TkIs P w h y v->x=y:=by
 refine TK.rec (motive_1:=λx=>∀ {y:TK} {v:Value},TkIs P w h x v->TkIs P w h y v->x=y) (motive_2:=λl=>∀ {l':List TK} {vs:List Value},TksAre P w h l vs->TksAre P w h l' vs->l=l') ?_ ?_ ?_ ?_ x
 .intro k y v h1 h2
  unfold TkIs at h1
  cases y with
  |at_ k'=>unfold TkIs at h2;rw[(Bh P w).inj v k k' h1 h2]
  |tup l=>
   unfold TkIs at h2
   obtain⟨a,its,rfl,_⟩:=h2
   rcases Ax h1 with ⟨i,t,_,e⟩|⟨z,t,_,e⟩ <;> cases e
 .intro l ih y v h1 h2
  unfold TkIs at h1
  obtain⟨a,its,rfl,t1,i1⟩:=h1
  cases y with
  |at_ k'=>
   unfold TkIs at h2
   rcases Ax h2 with ⟨i,t,_,e⟩|⟨z,t,_,e⟩ <;> cases e
  |tup l'=>
   unfold TkIs at h2
   obtain⟨b,its',e,t2,i2⟩:=h2
   cases e
   obtain⟨o,ho,_,n,hd⟩:=t1
   obtain⟨o',ho',_,n',hd'⟩:=t2
   rw[ho] at ho'
   cases ho'
   rw[hd] at hd'
   cases hd'
   rw[ih i1 i2]
 .intro l' vs h1 h2
  unfold TksAre at h1
  subst h1
  cases l' with
  |nil=>rfl
  |cons k r=>unfold TksAre at h2;obtain⟨v,r',e,_⟩:=h2;cases e
 .intro k l ih1 ih2 l' vs h1 h2
  unfold TksAre at h1
  obtain⟨v,r,rfl,q1,q2⟩:=h1
  cases l' with
  |nil=>unfold TksAre at h2;cases h2
  |cons k' l'=>
   unfold TksAre at h2
   obtain⟨v',r',e,q3,q4⟩:=h2
   cases e
   rw[ih1 q1 q3,ih2 q2 q4]
theorem TkIs.up {h h':Heap} (k:∀ a its,mV h a its->mV h' a its) (x:TK):∀ {v:Value},TkIs P w h x v->TkIs P w h' x v:=by
 refine TK.rec (motive_1:=λx=>∀ {v:Value},TkIs P w h x v->TkIs P w h' x v) (motive_2:=λl=>∀ {vs:List Value},TksAre P w h l vs->TksAre P w h' l vs) ?_ ?_ ?_ ?_ x
 .intro k v q;unfold TkIs at q ⊢;exact q
 .intro l ih v q
  unfold TkIs at q ⊢
  obtain⟨a,its,e,t,i⟩:=q
  exact⟨a,its,e,k a its t,ih i⟩
 .intro vs q;unfold TksAre at q ⊢;exact q
 .intro x l h1 h2 vs q
  unfold TksAre at q ⊢
  obtain⟨v,r,e,q1,q2⟩:=q
  exact⟨v,r,e,h1 q1,h2 q2⟩
theorem TksAre.len {h:Heap}:∀ {l:List TK} {vs:List Value},TksAre P w h l vs->vs.length=l.length
 |[],vs,q=>by unfold TksAre at q;rw[q];rfl
 | k::l,vs,q=>by
  unfold TksAre at q
  obtain⟨v,r,rfl,_,q2⟩:=q
  rw[aO,aO,TksAre.len q2]
theorem TksAre.get {h:Heap}:∀ {l:List TK} {vs:List Value} {j:Nat} {v:Value},TksAre P w h l vs->vs[j]? = some v -> ∃ k,l[j]? = some k/\TkIs P w h k v
 |[],vs,j,v,q,e=>by unfold TksAre at q;rw[q] at e;simp at e
 | k::l,vs,j,v,q,e=>by
  unfold TksAre at q
  obtain⟨v',r,rfl,q1,q2⟩:=q
  cases j with
  |zero=>
   have:v'=v:=by simpa using e
   exact⟨k,rfl,this▸q1⟩
  |succ j=>
   obtain⟨k',e1,e2⟩:=TksAre.get q2 (show r[j]? = some v by simpa using e)
   exact⟨k',by simpa using e1,e2⟩
theorem Ov {k:Key} {v:Value} (h:(Bh P w).is k v=true):RelV (kV k) v:=by
 rcases Ax h with ⟨i,t,rfl,rfl⟩|⟨x,t,rfl,rfl⟩ <;> exact⟨t,rfl⟩
theorem Ou (k:Key):Bv (kV k)=true:=by cases k <;> rfl
theorem aa9 (k k':Key):decide (TK.at_ k=TK.at_ k')=eqV (kV k) (kV k'):=by
 have e:(TK.at_ k=TK.at_ k') ↔ k=k':=⟨λh=>by injection h,λh=>by rw[h]⟩
 rw[bX,decide_eq_true_iff,e]
 cases k with
 |inl i=>
  cases k' with
  |inl j=>show _ ↔ (i==j)=true;rw[beq_iff_eq];exact⟨λh=>by injection h,λh=>by rw[h]⟩
  |inr y=>exact⟨λh=>(nomatch h),λh=>absurd (show false=true from h) au⟩
 |inr x=>
  cases k' with
  |inl j=>exact⟨λh=>(nomatch h),λh=>absurd (show false=true from h) au⟩
  |inr y=>show _ ↔ (x==y)=true;rw[beq_iff_eq];exact⟨λh=>by injection h,λh=>by rw[h]⟩
theorem ae9 {l l':List TK} (z:TK) (h:l.length=l'.length):decide (l=l')=(ay l.length).all λj=>decide (l.getD j z=l'.getD j z):=by
 rw[bX,decide_eq_true_iff,be]
 refine⟨λe j _=>by rw[e];exact decide_eq_true rfl,λq=>List.ext_getElem h λi h1 h2=>?_⟩
 have:=of_decide_eq_true (q i (List.mem_range.mpr h1))
 rwa[ar,ar,ah h1,ah h2] at this
theorem bx0 (x:TK):∀ {y:TK} {A:bq} {s:aj} {u v:Value},A.units+Ap x<cLine->TkIs P w s.heap x u->TkIs P w s.heap y v->bE A s u v (decide (x=y)):=by
 refine TK.rec (motive_1:=λx=>∀ {y:TK} {A:bq} {s:aj} {u v:Value},A.units+Ap x<cLine->TkIs P w s.heap x u->TkIs P w s.heap y v->bE A s u v (decide (x=y)))
  (motive_2:=λl=>∀ x∈l,∀ {y:TK} {A:bq} {s:aj} {u v:Value},A.units+Ap x<cLine->TkIs P w s.heap x u->TkIs P w s.heap y v->bE A s u v (decide (x=y))) ?_ ?_ ?_ ?_ x
 .intro k y A s u v hu h1 h2
  unfold TkIs at h1
  have hu:A.units+0<cLine:=hu
  cases y with
  |at_ k'=>unfold TkIs at h2;rw[aa9];exact Om (Ov h1) (Ov h2) (Ou k) (Ou k')
  |tup l=>
   unfold TkIs at h2
   obtain⟨a,its,rfl,t,_⟩:=h2
   rw[decide_eq_false (λz=>by cases z)]
   rcases Ax h1 with ⟨i,t',rfl,rfl⟩|⟨x,t',rfl,rfl⟩
   .exact .int_tuple i t' t (by omega)
   .exact .str_tuple x t' t (by omega)
 .intro l ih y A s u v hu h1 h2
  have hd:A.units+(B5 l+1)<cLine:=hu
  have h0:=h1
  unfold TkIs at h1
  obtain⟨a,its,rfl,t1,i1⟩:=h1
  cases y with
  |at_ k'=>
   unfold TkIs at h2
   rw[decide_eq_false (λz=>by cases z)]
   rcases Ax h2 with ⟨i,t',rfl,rfl⟩|⟨x,t',rfl,rfl⟩
   .exact .tuple_int i t' t1 (by omega)
   .exact .tuple_str x t' t1 (by omega)
  |tup l'=>
   have h3:=h2
   unfold TkIs at h2
   obtain⟨b,its',rfl,t2,i2⟩:=h2
   by_cases e:a=b
   .subst e
    rw[decide_eq_true (TkIs.inj _ h0 h3)]
    exact .same _
   refine .of_refs e ?_
   have e1:=i1.len
   have e2:=i2.len
   have T:=jd (A:=A) (s:=s) (e:=λj=>decide (l.getD j (.tup [])=l'.getD j (.tup []))) t1 t2 (by omega) λj q1 q2=>by
    obtain⟨k1,g1,r1⟩:=i1.get (j:=j) (v:=its[j]) (by simp[q1])
    obtain⟨k2,g2,r2⟩:=i2.get (j:=j) (v:=its'[j]) (by simp[q2])
    have hm:=ak g1
    have:=Eo hm
    rw[ar,ar,g1,g2]
    exact ih k1 hm (by show A.units+1+Ap k1<cLine;omega) r1 r2
   have dt:decide (TK.tup l=TK.tup l')=decide (l=l'):=by
    rw[bX,decide_eq_true_iff,decide_eq_true_iff]
    exact⟨λh=>by injection h,λh=>by rw[h]⟩
   rw[dt]
   have s1:its.size=l.length:=by rw[<- e1];simp
   have s2:its'.size=l'.length:=by rw[<- e2];simp
   rw[s1,s2] at T
   by_cases hl:l.length=l'.length
   .rw[ae9 (.tup []) hl]
    rw[hl,lV,beq_self_eq_true,gj] at T
    rw[hl]
    exact T
   .rw[decide_eq_false λz=>hl (by rw[z])]
    rw[beq_eq_false_iff_ne.mpr hl,g6] at T
    exact T
 .exact λk h=>by cases h
 .intro k l h1 h2 x hx
  rcases List.mem_cons.mp hx with rfl|hx
  .exact h1
  .exact h2 x hx
theorem ao2 (x:TK):∀ {n:Nat} {A:bq} {E:Value->aj->Prop} {s:aj} {v:Value} {Q:Bool->aj->Prop},Ap x<=n->TkIs P w s.heap x v->Q true s->aN (model P w) A (my n v) Q E s:=by
 refine TK.rec (motive_1:=λx=>∀ {n:Nat} {A:bq} {E:Value->aj->Prop} {s:aj} {v:Value} {Q:Bool->aj->Prop},Ap x<=n->TkIs P w s.heap x v->Q true s->aN (model P w) A (my n v) Q E s)
  (motive_2:=λl=>∀ x∈l,∀ {n:Nat} {A:bq} {E:Value->aj->Prop} {s:aj} {v:Value} {Q:Bool->aj->Prop},Ap x<=n->TkIs P w s.heap x v->Q true s->aN (model P w) A (my n v) Q E s) ?_ ?_ ?_ ?_ x
 .intro k n A E s v Q _ hk h
  unfold TkIs at hk
  rw[eqIsQuiet_byValue _ ((Bh P w).byValue _ _ hk)]
  exact aq h
 .intro l ih n A E s v Q hn hk h
  have hn:B5 l+1<=n:=hn
  obtain⟨m,rfl⟩:∃ m,n=m+1:=⟨n - 1,by omega⟩
  unfold TkIs at hk
  obtain⟨a,items,rfl,ht,hi⟩:=hk
  have hT:=ht.typeIs
  obtain⟨o,ho,hc,n',hd⟩:=id ht
  unfold my
  refine af (kj hT F.slot_tuple_eq.lookup ?_)
  show aN _ _ (kr (.ref a) (.type "tuple") >>= _) _ _ s
  refine af (jI hT isSubtype_tuple_tuple ?_)
  simp only[k8,bH,if_false]
  refine af (wpAny_seqItems ho hd ?_)
  refine af ?_
  show aN _ _ (forIn items _ _) _ _ s
  rw[<- iL]
  refine wpAny_forIn_list _ (λrest r s'=>r.1=none/\s'=s /\ ∀ v∈rest,∃ k∈l,TkIs P w s.heap k v) _ ?_ ?_ _ _ ⟨rfl,rfl,λv hv=>?_⟩
  .rintro v rest r s' ⟨hr,rfl,hall⟩
   obtain⟨k,hk,q⟩:=hall v aT
   have:=Eo hk
   refine af (ih k hk (by omega) q ?_)
   simp only[k8,bH,if_false]
   exact aq ⟨rfl,rfl,λu hu'=>hall u (aB _ hu')⟩
  .rintro⟨r1,r2⟩ s' ⟨hr,rfl,_⟩
   simp only at hr
   subst hr
   exact aq h
  .obtain⟨j,hj⟩:=List.mem_iff_getElem?.mp hv
   obtain⟨k,e,q⟩:=hi.get hj
   exact⟨k,ak e,q⟩
 .exact λk h=>by cases h
 .intro k l h1 h2 x hx
  rcases List.mem_cons.mp hx with rfl|hx
  .exact h1
  .exact h2 x hx
noncomputable def C2 (P:aS) (w:bz):HeapKind P w TK where
 is h k a:=Ap k<=8/\TkIs P w h k (.ref a)
 hash:=Fj w
 draws:=C8
 room A:=A.units+8<cLine
 inj hx hy:=TkIs.inj _ hx.2 hy.2
 keeps x ho hd hs:=⟨x.1,x.2.up (λa its ⟨o',h1,h2,n,h3⟩=>⟨o',(hs.2 a (by
  rintro rfl
  rw[ho] at h1
  cases h1
  rw[hd] at h3
  cases h3)).trans h1,h2,n,h3⟩) _⟩
 pyHash hu hk h:=Y9 _ (by have:=hk.1;omega) hk.2 h
 eqBool hu hx hy h:=bx0 _ (by have:=hx.1;omega) hx.2 hy.2 _ _ _ _ h
 quiet hk h:=ao2 _ hk.1 hk.2 h
end
inductive HO where
 |lst (xs:List V)
 |tup (xs:List V)
 |dK (kvs:List (Key×V))|dT (kvs:List (TK×V))
 |set (S:Int->Bool) (n:Nat)
 |ins (C dx:Addr) (fs:List (Str×V))
 |own (x:Addr)
 |xd (fs:List (Str×V))
 |met (f x:Addr)
 |rng (lo hi:Int)
 |frz (o:Obj) (u:HO)
 |tbl (ps:Array Value)
 |ext (φ:Heap->Prop)
abbrev Hp:=Addr->Option HO
def upd (H:Hp) (a:Addr) (o:HO):Hp:=λb=>if b=a then some o else H b
theorem Ab {H:Hp} {a:Addr} {o:HO}:upd H a o a=some o:=by unfold upd;rw[if_pos rfl]
theorem Ad {H:Hp} {a b:Addr} {o:HO} (h:b≠a):upd H a o b=H b:=by unfold upd;rw[if_neg h]
theorem bn7 {H:Hp} {a b:Addr} {o u:HO} (h:H a=some o) (h':H b=some u) (d:o≠u):a≠b:=by
 intro e;subst e;rw[h] at h';exact d (aD h')
theorem Ai {H:Hp} {a b:Addr} {o:HO} (h:H a=some o) (h':H b=none):a≠b:=by
 intro e;subst e;rw[h] at h';cases h'
mutual
def TkAt (H:Hp):TK->V->Prop
 |.at_ k,v=>v=kV k
 |.tup l,v=>∃ a xs,v=.ref a/\H a=some (.tup xs)/\Aw H l xs
def Aw (H:Hp):List TK->List V->Prop
 |[],vs=>vs=[]
 |k::ks,vs=>∃ v r,vs=v::r/\TkAt H k v/\Aw H ks r
end
theorem TkAt.up {H H':Hp} (h:∀ b ys,H b=some (.tup ys)->H' b=some (.tup ys)) (x:TK):∀ {v:V},TkAt H x v->TkAt H' x v:=by
 refine TK.rec (motive_1:=λx=>∀ {v:V},TkAt H x v->TkAt H' x v) (motive_2:=λl=>∀ {vs:List V},Aw H l vs->Aw H' l vs) ?_ ?_ ?_ ?_ x
 .intro k v q;unfold TkAt at q ⊢;exact q
 .intro l ih v q
  unfold TkAt at q ⊢
  obtain⟨a,xs,e,t,i⟩:=q
  exact⟨a,xs,e,h _ _ t,ih i⟩
 .intro vs q;unfold Aw at q ⊢;exact q
 .intro x l h1 h2 vs q
  unfold Aw at q ⊢
  obtain⟨v,r,e,q1,q2⟩:=q
  exact⟨v,r,e,h1 q1,h2 q2⟩
section
variable (P:aS) (w:bz)
noncomputable def ObjOk (H:Hp) (h:Heap) (a:Addr):HO->Prop
 |.lst xs=>xs.length<=sizeLine /\ ∃ (its:List Value) (n:Nat),Vals xs its/\h.get? a=some { cls:=.type "list", data:=.seq its.toArray n }
 |.tup xs=>xs.length<=sizeLine /\ ∃ its:List Value,Vals xs its/\mV h a its.toArray
 |.dK kvs=>kvs.length<=sizeLine/\(a==c8)=false /\ ∃ vs,KV kvs vs/\h.DictOf (Bh P w) a vs
 | .dT kvs=>kvs.length<=sizeLine/\(a==c8)=false /\ ∃ xs:List (TK×Addr×Value),
   ie (λ(p:TK×V) (q:TK×Addr×Value)=>p.1=q.1/\(Ap p.1<=8/\TkAt H p.1 (.ref q.2.1))/\RelV p.2 q.2.2) kvs xs /\
   ∃ o es ep,h.get? a=some o/\o.ExactDict/\o.data=.dict es ep/\es.toList=xs.map (entryOfKey (C2 P w))/\(xs.map (·.1)).Nodup
 |.set S n=>h.SetOf (intKind P w) a S n
 | .ins C dx fs=>H dx=some (.own a)/\fs.length<=1000/\dx≠a/\h.get? a=some (dH C dx) /\
   ∃ mA,h.Ns1 dx mA/\(∀ f,RelO (fs.lookup f) (mA f))/\eG mA (fs.map (·.1))
 |.own _=>∃ o,h.get? a=some o
 |.xd fs=>∃ mA,h.Ns1 a mA /\ ∀ f,RelO (fs.lookup f) (mA f)
 |.rng lo hi=>∃ t u v,h.get? a=some { cls:=.type "range", data:=.fields #[.int lo t,.int hi u,.int 1 v] }
 |.frz o u=>h.get? a=some o/\ObjOk H h a u
 |.tbl ps=>h.get? a=some { cls:=.none,data:=.fields ps }
 |.met f x=>h.get? a=some (jb (.ref f) (.ref x))
 |.ext φ=>φ h/\(∃ o,h.get? a=some o) /\ ∀ h1 h2:Heap,φ h1->(∀ o,h1.get? a=some o->h2.get? a=some o)->φ h2
noncomputable def HOk (H:Hp) (h:Heap):Prop:=∀ a o,H a=some o->ObjOk P w H h a o
end
section
variable {P:aS} {w:bz} {H H':Hp} {h h':Heap} {a:Addr} {o:HO}
theorem ObjOk.lt (x:ObjOk P w H h a o):a<h.objs.size:=by
 cases o with
 |lst xs=>obtain⟨_,_,_,_,e⟩:=x;exact aA e
 |tup xs=>obtain⟨_,_,_,p⟩:=x;exact p.lt
 |dK kvs=>obtain⟨_,_,_,_,o,_,_,e,_⟩:=x;exact aA e
 |dT kvs=>obtain⟨_,_,_,_,o,_,_,e,_⟩:=x;exact aA e
 |set S n=>obtain⟨o,_,_,_,e,_⟩:=x;exact aA e
 |ins C dx fs=>obtain⟨_,_,_,e,_⟩:=x;exact aA e
 |own y=>obtain⟨_,e⟩:=x;exact aA e
 |xd fs=>obtain⟨_,⟨_,_,_,e,_⟩,_⟩:=x;exact aA e
 |rng lo hi=>obtain⟨_,_,_,e⟩:=x;exact aA e
 |frz ob u=>obtain⟨e,_⟩:=x;exact aA e
 |tbl ps=>exact aA (show h.get? a=some _ from x)
 |met f y=>exact aA (show h.get? a=some _ from x)
 |ext φ=>obtain⟨_,⟨_,e⟩,_⟩:=x;exact aA e
theorem Paired.mapP {α β:Type} {F G:α->β->Prop}:∀ {l₁:List α} {l₂:List β},ie F l₁ l₂->(∀ a b,F a b->G a b)->ie G l₁ l₂
 |_,_,.nil,_=>.nil
 |_,_,.cons r t,f=>.cons (f _ _ r) (Paired.mapP t f)
theorem ObjOk.stay (x:ObjOk P w H h a o) (k:∀ b u,(b=a\/H b=some (.own a))->h.get? b=some u->h'.get? b=some u)
  (ho:∀ b,H b=some (.own a)->H' b=some (.own a)) (ht:∀ b xs,H b=some (.tup xs)->H' b=some (.tup xs)):ObjOk P w H' h' a o:=by
 induction o with
 |lst xs=>obtain⟨z,its,n,r,e⟩:=x;exact⟨z,its,n,r,k _ _ (.inl rfl) e⟩
 |tup xs=>obtain⟨z,its,r,ob,e,c⟩:=x;exact⟨z,its,r,ob,k _ _ (.inl rfl) e,c⟩
 |dK kvs=>obtain⟨z,y,vs,r,ob,es,ep,e,c⟩:=x;exact⟨z,y,vs,r,ob,es,ep,k _ _ (.inl rfl) e,c⟩
 |dT kvs=>
  obtain⟨z,y,xs,r,ob,es,ep,e,c⟩:=x
  exact⟨z,y,xs,Paired.mapP r λp q z=>⟨z.1,⟨z.2.1.1,z.2.1.2.up ht _⟩,z.2.2⟩,ob,es,ep,k _ _ (.inl rfl) e,c⟩
 |set S n=>obtain⟨ob,es,ep,t,e,c⟩:=x;exact⟨ob,es,ep,t,k _ _ (.inl rfl) e,c⟩
 |ins C dx fs=>
  obtain⟨d,z,ne,e,mA,⟨od,es,ep,e2,c⟩,r⟩:=x
  exact⟨ho _ d,z,ne,k _ _ (.inl rfl) e,mA,⟨od,es,ep,k _ _ (.inr d) e2,c⟩,r⟩
 |own y=>obtain⟨ob,e⟩:=x;exact⟨ob,k _ _ (.inl rfl) e⟩
 |xd fs=>obtain⟨mA,⟨od,es,ep,e,c⟩,r⟩:=x;exact⟨mA,⟨od,es,ep,k _ _ (.inl rfl) e,c⟩,r⟩
 |rng lo hi=>obtain⟨t,u,v,e⟩:=x;exact⟨t,u,v,k _ _ (.inl rfl) e⟩
 |frz ob u ih=>obtain⟨e,q⟩:=x;exact⟨k _ _ (.inl rfl) e,ih q⟩
 |tbl ps=>
  have e:h.get? a=some { cls:=.none,data:=.fields ps }:=x
  show h'.get? a=some { cls:=.none,data:=.fields ps }
  exact k a _ (.inl rfl) e
 |met f y=>
  have e:h.get? a=some (jb (.ref f) (.ref y)):=x
  show h'.get? a=some (jb (.ref f) (.ref y))
  exact k a _ (.inl rfl) e
 |ext φ=>obtain⟨p,⟨o,e⟩,st⟩:=x;exact⟨st _ _ p λo q=>k _ _ (.inl rfl) q,⟨o,k _ _ (.inl rfl) e⟩,st⟩
theorem HOk.lt (x:HOk P w H h) (e:H a=some o):a<h.objs.size:=(x a o e).lt
theorem HOk.fresh (x:HOk P w H h) (e:h.objs.size<=a):H a=none:=by
 cases q:H a with
 |none=>rfl
 |some u=>exact absurd (aJ (x.lt q) e) (fG _)
theorem HOk.kept (x:HOk P w H h) (k:∀ b u,h.get? b=some u->h'.get? b=some u):HOk P w H h':=λa o e=>
 (x a o e).stay (λb u _ q=>k b u q) (λ_ q=>q) λ_ _ q=>q
theorem HOk.laid (x:HOk P w H h) (k:∀ b u,h.get? b=some u->h'.get? b=some u) (hp:h.objs.size<=a) (new:ObjOk P w (upd H a o) h' a o):HOk P w (upd H a o) h':=λb u e=>by
 have hn:=x.fresh hp
 by_cases hb:b=a
 .subst hb;rw[Ab] at e;cases e;exact new
 .rw[Ad hb] at e
  exact (x b u e).stay (λc v _ q=>k c v q) (λc q=>by rw[Ad (Ai q hn)];exact q) λc xs q=>by rw[Ad (Ai q hn)];exact q
end
def Rd (H:Hp) (a:Addr) (u:HO):Prop:=H a=some u \/ ∃ o,H a=some (.frz o u)
theorem Rd.ok {P:aS} {w:bz} {H:Hp} {h:Heap} {a:Addr} {u:HO} (r:Rd H a u) (x:HOk P w H h):ObjOk P w H h a u:=by
 rcases r with r|⟨o,r⟩
 .exact x a u r
 .obtain⟨_,q⟩:=x a _ r
  exact q
noncomputable def Mut:Option HO->Prop
 |some (.lst _)=>True
 |some (.dK _)=>True
 |some (.dT _)=>True
 |some (.set _ _)=>True
 |some (.ins _ _ _)=>True
 |some (.ext _)=>True
 |_=>False
section
variable {P:aS} {w:bz} {H:Hp} {h h':Heap} {x e:Addr} {o':HO}
theorem HOk.write (ok:HOk P w H h) (mu:Mut (H x)) (he:e=x\/H e=some (.own x)) (k:∀ b u,b≠e->h.get? b=some u->h'.get? b=some u) (heo:∃ u,h'.get? e=some u)
  (new:ObjOk P w (upd H x o') h' x o'):HOk P w (upd H x o') h':=λb u q=>by
 have nown:∀ c y,H c=some (.own y)->c≠x:=λc y r z=>by subst z;rw[r] at mu;exact mu
 have ntup:∀ c xs,H c=some (.tup xs)->c≠x:=λc xs r z=>by subst z;rw[r] at mu;exact mu
 by_cases hb:b=x
 .subst hb;rw[Ab] at q;cases q;exact new
 .rw[Ad hb] at q
  by_cases hbe:b=e
  .have q':H b=some (.own x):=by
    rcases he with z|z
    .exact absurd (hbe.trans z) hb
    .rw[hbe];exact z
   rw[q] at q';cases q'
   obtain⟨v,hv⟩:=heo
   exact⟨v,by rw[hbe];exact hv⟩
  .refine (ok b u q).stay (λc v hc r=>k c v ?_ r) (λc r=>by rw[Ad (nown c b r)];exact r) λc xs r=>by rw[Ad (ntup c xs r)];exact r
   rcases hc with rfl|hc
   .exact hbe
   .rintro rfl
    rcases he with z|z
    .exact nown c b hc z
    .rw[hc] at z;cases z;exact hb rfl
end
structure Un (fs ex:List Addr) (H H':Hp) (h h':Heap):Prop where
 keep:∀ b o,h.get? b=some o->H b=none->b∉fs->b∉ex->h'.get? b=some o
 slot:∀ b o,h.get? b=some o->H b=none->b∈fs->b∉ex -> ∃ sl,h'.get? b=some { o with slots:=sl }
 free:∀ b o,h.get? b=some o->H b=none->b∉ex->H' b=none
 there:∀ b o,h.get? b=some o->b∉ex -> ∃ o',h'.get? b=some o'
 tups:∀ b xs,H b=some (.tup xs)->H' b=some (.tup xs)
 frzs:∀ b o u,H b=some (.frz o u)->H' b=some (.frz o u)
 tbls:∀ b ps,H b=some (.tbl ps) -> ∃ more,H' b=some (.tbl (ps++more))
section
variable {fs fs' ex ex':List Addr} {H H1 H2:Hp} {h h1 h2 h':Heap} {a x e:Addr} {o:HO}
theorem Un.any (u:Un fs ex H H1 h h1) {b:Addr} {ob:Obj} (q:h.get? b=some ob) (n:H b=none) (hx:b∉ex):∃ sl,h1.get? b=some { ob with slots:=sl }:=by
 by_cases hb:b∈fs
 .exact u.slot b ob q n hb hx
 .exact⟨ob.slots,u.keep b ob q n hb hx⟩
theorem Un.kept (k:∀ b u,h.get? b=some u->h'.get? b=some u):Un fs ex H H h h':=
 ⟨λb ob q _ _ _=>k b ob q,λb ob q _ _ _=>⟨ob.slots,k b ob q⟩,λ_ _ _ n _=>n,λb ob q _=>⟨ob,k b ob q⟩,λ_ _ q=>q,λ_ _ _ q=>q,λ_ ps q=>⟨#[],by rw[q];simp⟩⟩
theorem Un.refl:Un fs ex H H h h:=Un.kept λ_ _ q=>q
theorem Un.laid (k:∀ b u,h.get? b=some u->h'.get? b=some u) (hp:h.objs.size<=a) (hn:H a=none):Un fs ex H (upd H a o) h h' where
 keep:=λb u q _ _ _=>k b u q
 slot:=λb u q _ _ _=>⟨u.slots,k b u q⟩
 free:=λb u q n _=>by rw[Ad (aQ (aJ (aA q) hp))];exact n
 there:=λb u q _=>⟨u,k b u q⟩
 tups:=λb xs q=>by rw[Ad (Ai q hn)];exact q
 frzs:=λb u xs q=>by rw[Ad (Ai q hn)];exact q
 tbls:=λb ps q=>⟨#[],by rw[Ad (Ai q hn),q];simp⟩
theorem Un.write (mu:Mut (H x)) (he:e=x\/H e=some (.own x)) (k:∀ b u,b≠e->h.get? b=some u->h'.get? b=some u) (heo:∃ u,h'.get? e=some u):Un fs ex H (upd H x o) h h':=by
 have hx:∀ b,H b=none->b≠x:=λb n z=>by subst z;rw[n] at mu;exact mu
 have hb:∀ b,H b=none->b≠e:=λb n z=>by
  subst z
  rcases he with r|r
  .exact hx b n r
  .rw[n] at r;cases r
 have hm:∀ b u,H b=some u -> ¬ Mut (some u)->b≠x:=λb u q nm z=>by subst z;rw[q] at mu;exact nm mu
 refine⟨λb u q n _ _=>k b u (hb b n) q,λb u q n _ _=>⟨u.slots,k b u (hb b n) q⟩,λb u q n _=>by rw[Ad (hx b n)];exact n,λb u q _=>?_,
  λb xs q=>by rw[Ad (hm b _ q λz=>z)];exact q,λb u xs q=>by rw[Ad (hm b _ q λz=>z)];exact q,λb ps q=>⟨#[],by rw[Ad (hm b _ q λz=>z),q];simp⟩⟩
 by_cases hbe:b=e
 .subst hbe;exact heo
 .exact⟨u,k b u hbe q⟩
end
def trk (h:Heap) (H:Hp):List Addr:=(ay h.objs.size).filter λa=>(H a).isSome
def Os (h:Heap) (H:Hp):Heap:=PySem.W.hideAll h (trk h H)
theorem X4 (h:Heap) (H:Hp):(Os h H).objs.size=h.objs.size:=PySem.W.hideAll_size _ _
theorem ae0 {h:Heap} {H:Hp} {b:Addr} {o:Obj} (e:h.get? b=some o) (n:H b=none):(Os h H).get? b=some o:=
 PySem.W.hideAll_get _ e λhm=>by
  have q:(H b).isSome=true:=(List.mem_filter.mp hm).2
  rw[n] at q;simp at q
theorem au3 {h:Heap} {H:Hp} {b:Addr} {o:Obj} (e:(Os h H).get? b=some o):h.get? b=some o/\H b=none:=by
 have e':h.get? b=some o:=PySem.W.of_hideAll (trk h H) e
 refine⟨e',?_⟩
 cases q:H b with
 |none=>rfl
 |some x=>
  have hm:b∈trk h H:=List.mem_filter.mpr ⟨List.mem_range.mpr (aA e'),by simp[q]⟩
  have z:(Os h H).get? b=none:=PySem.W.hideAll_none (trk h H) hm
  rw[z] at e;cases e
structure Mod (K:ac) (mg:Str->Option Value) (base:Heap):Prop where
 kin:K.In base
 glob:base.Ns mainGlobals mg
 blt:∃ mb,base.Ns jf mb /\ ∀ x:Str,x ≠ "__name__" -> mb x=cQ x
 nolimit:base.NoLimit
structure Cx where
 prog:aS
 w:bz
 K:ac
 mg:Str->Option Value
 base:Heap
 A:bq
 N:List Str
 s₀:aj
 H₀:Hp
 env:Env
 outer:List Env
 stack:List Env
 ex:List Addr
 fn:Str->Bool
 calm:Bool
 pn:List (Addr×Obj)
 xe:Value->aj->Prop
def frs (l:List Env):List Addr:=l.filterMap (·.frame)
abbrev Cx.fs (X:Cx):List Addr:=frs X.outer
def Vis (sc:Scope) (x:Str):Prop:=sc.names.lookup x=some .local\/sc.names.lookup x=some .cell\/sc.names.lookup x=some .free
def Loc (sc:Scope) (x:Str):Prop:=sc.names.lookup x=some .local\/sc.names.lookup x=some .cell
noncomputable def bx6 (env:Env) (h:Heap) (m:Str->Option Value) (x:Str) (u:Value):Prop:=
 (env.kindOf x=some .local/\m x=some u)\/((env.kindOf x=some .cell\/env.kindOf x=some .free) /\ ∃ c,env.cells.lookup x=some c/\h.IsCell c (some u))
def V5 (_:ac) (_:Nat):Prop:=True
structure Cx.Ok (X:Cx):Prop where
 mod:Mod X.K X.mg X.base
 kind:X.env.scope.kind=.function
 glob:X.env.globals=mainGlobals
 blt:X.env.builtins=jf
 above:X.s₀.heap.objs.size<=X.env.locals
 inj:∀ x y c,X.env.cells.lookup x=some c->X.env.cells.lookup y=some c->x=y
 has:∀ x,(X.env.kindOf x=some .cell\/X.env.kindOf x=some .free) -> ∃ c,X.env.cells.lookup x=some c
 cab:∀ x c,X.fn x=true->X.env.cells.lookup x=some c->X.s₀.heap.objs.size<=c
 hd:X.calm=true->X.A.handled=none
 frames:X.A.frames=some X.stack
 stk:X.stack=X.outer\/(X.stack=X.env::X.outer/\X.env.frame=some X.env.locals)
 exf:∀ b∈X.ex,b≠X.env.locals /\ ∀ x c,X.env.cells.lookup x=some c->c≠b
 bs:∀ b o,X.base.get? b=some o->X.s₀.heap.get? b=some o/\X.H₀ b=none
 bsz:X.base.objs.size<=X.s₀.heap.objs.size
 noex:∀ b o,X.base.get? b=some o->b∉X.ex
 exfs:∀ b∈X.ex,b∉X.fs
 funs:X.s₀.heap.FunFrames X.base X.outer
 frf:∀ b∈X.fs,X.H₀ b=none
 tk:V5 X.K X.s₀.toks
structure Inv (X:Cx) (pins:List (Addr×Obj)) (U:List (Option V)) (H:Hp) (s:aj):Prop where
 ok:X.Ok
 os:s.os=X.s₀.os/\X.s₀.toks<=s.toks
 bare:jT s.gens
 base:Un X.fs X.ex X.H₀ H X.s₀.heap s.heap
 loc:∃ m,s.heap.Ns X.env.locals m /\ ∀ (i:Nat) (x:Str) (v:V),X.N[i]? = some x->U[i]? = some (some v)->Vis X.env.scope x -> ∃ u,RelV v u/\bx6 X.env s.heap m x u
 cell:∀ x c,X.env.cells.lookup x=some c -> ∃ v,s.heap.IsCell c v
 free:H X.env.locals=none
 freeC:∀ x c,X.env.cells.lookup x=some c->H c=none
 pin:∀ p∈X.pn++pins,s.heap.get? p.1=some p.2/\H p.1=none/\p.1≠X.env.locals/\p.1∉X.fs /\ ∀ v,p.2.data≠.cell v
 hok:HOk X.prog X.w H s.heap
 len:U.length=X.N.length
section
variable {X:Cx} {pins:List (Addr×Obj)} {U:List (Option V)} {H H':Hp} {s:aj} {h':Heap}
theorem Cx.Ok.nofr (ok:X.Ok) {b:Addr} {o:Obj} (e:X.base.get? b=some o):b∉X.fs:=λhb=>by
 have:=(ok.funs.mem hb).1
 rw[e] at this;cases this
theorem Inv.bs (I:Inv X pins U H s):∀ b o,X.base.get? b=some o->s.heap.get? b=some o/\H b=none:=λb o e=>
 ⟨I.base.keep b o (I.ok.bs b o e).1 (I.ok.bs b o e).2 (I.ok.nofr e) (I.ok.noex b o e),I.base.free b o (I.ok.bs b o e).1 (I.ok.bs b o e).2 (I.ok.noex b o e)⟩
theorem Inv.bk (I:Inv X pins U H s):∀ b o,X.base.get? b=some o->s.heap.get? b=some o:=λb o e=>(I.bs b o e).1
theorem Inv.mod (I:Inv X pins U H s):Mod X.K X.mg X.base:=I.ok.mod
theorem Inv.kIn (I:Inv X pins U H s):X.K.In s.heap:=I.ok.mod.kin.keeps I.bk
theorem Inv.lt (I:Inv X pins U H s):X.env.locals<s.heap.objs.size:=let ⟨_,hn,_⟩:=I.loc;hn.lt
theorem Inv.sz (I:Inv X pins U H s):X.s₀.heap.objs.size<=s.heap.objs.size:=aY I.ok.above (dy I.lt)
theorem Inv.nofs (I:Inv X pins U H s) {a:Addr} (h:s.heap.objs.size<=a):a∉X.fs:=λhb=>by
 obtain⟨_,o,ho,_⟩:=I.ok.funs.mem hb
 exact absurd (aJ (aA ho) (aY I.sz h)) (fG _)
theorem Inv.cne (I:Inv X pins U H s):∀ x c,X.env.cells.lookup x=some c->c≠X.env.locals:=λx c e z=>by
 obtain⟨v,o,ho,hd⟩:=I.cell x c e
 obtain⟨m,⟨o',es,ep,ho',hd',_⟩,_⟩:=I.loc
 rw[z,ho'] at ho;cases ho;rw[hd'] at hd;cases hd
theorem Inv.funs (I:Inv X pins U H s):s.heap.FunFrames X.base X.outer:=by
 have all:∀ (l:List Env),(∀ b∈frs l,b∈X.fs)->X.s₀.heap.FunFrames X.base l->s.heap.FunFrames X.base l:=by
  intro l
  induction l with
  |nil=>intro _ _;trivial
  |cons env r ih=>
   intro hs hl
   obtain⟨hk,⟨L,o,hf,hn,ho,hd⟩,hr⟩:=hl
   have hL:L∈X.fs:=hs L (by unfold frs;rw[ir,hf];exact aT)
   obtain⟨sl,e⟩:=I.base.slot L o ho (I.ok.frf L hL) hL λz=>I.ok.exfs L z hL
   exact⟨hk,⟨L,_,hf,hn,e,hd⟩,ih (λb hb=>hs b (by unfold frs;rw[ir,hf];exact aB _ hb)) hr⟩
 exact all X.outer (λ_ hb=>hb) I.ok.funs
theorem Inv.stack (I:Inv X pins U H s):s.heap.FunFrames X.base X.stack:=by
 rcases I.ok.stk with e|⟨e,hf⟩
 .rw[e];exact I.funs
 .rw[e]
  obtain⟨m,hn,_⟩:=I.loc
  refine .cons (by rw[I.ok.kind];decide) hf hn ?_ I.funs
  exact Heap.get?_none_of_le (aY I.ok.bsz I.ok.above)
theorem Inv.stkSub (I:Inv X pins U H s):∀ b∈frs X.stack,b∈X.env.locals::X.fs:=λb hb=>by
 rcases I.ok.stk with e|⟨e,hf⟩
 .rw[e] at hb;exact aB _ hb
 .rw[e] at hb
  unfold frs at hb
  rw[ir,hf] at hb
  exact hb
theorem Inv.stkFree (I:Inv X pins U H s):∀ b∈frs X.stack,H b=none:=λb hb=>by
 rcases List.mem_cons.mp (I.stkSub b hb) with e|hb
 .rw[e];exact I.free
 .obtain⟨_,o,ho,_⟩:=I.ok.funs.mem hb
  exact I.base.free b o ho (I.ok.frf b hb) λz=>I.ok.exfs b z hb
theorem Inv.step {g':Array kl} {t':Nat} {d':Drawn} {ch:List Addr} (I:Inv X pins U H s)
  (hch:∀ b∈ch,(b∈X.ex\/X.s₀.heap.objs.size<=b)/\b≠X.env.locals/\(∀ x c,X.env.cells.lookup x=some c->c≠b) /\ ∀ p∈X.pn++pins,p.1≠b)
  (keep:∀ b o,b≠X.env.locals->b∉X.fs->b∉ch->s.heap.get? b=some o->H b=none->h'.get? b=some o)
  (slot:∀ b o,b≠X.env.locals->b∈X.fs->b∉ch->s.heap.get? b=some o->H b=none -> ∃ sl,h'.get? b=some { o with slots:=sl }) (free:∀ b o,b∉ch->s.heap.get? b=some o->H b=none->H' b=none)
  (there:∀ b o,b∉ch->s.heap.get? b=some o -> ∃ o',h'.get? b=some o')
  (tups:∀ b xs,H b=some (.tup xs)->H' b=some (.tup xs)) (frzs:∀ b o u,H b=some (.frz o u)->H' b=some (.frz o u)) (tbls:∀ b ps,H b=some (.tbl ps) -> ∃ more,H' b=some (.tbl (ps++more)))
  (ns:∀ m,s.heap.Ns X.env.locals m->h'.Ns X.env.locals m) (hok:HOk X.prog X.w H' h') (hg:jT g') (ht:s.toks<=t':=by first|exact ai _|exact bw _ _|assumption|omega|(dsimp only;omega)) :
  Inv X pins U H' { s with heap:=h',gens:=g',drawn:=d',toks:=t' }:=by
 have neL:∀ b o,X.s₀.heap.get? b=some o->b≠X.env.locals:=λb o e=>aQ (aJ (aA e) I.ok.above)
 have neC:∀ b o,X.s₀.heap.get? b=some o->b∉X.ex->b∉ch:=λb o e hx hb=>by
  rcases (hch b hb).1 with z|z
  .exact hx z
  .exact absurd (aJ (aA e) z) (fG _)
 have cellK:∀ x c,X.env.cells.lookup x=some c -> ∀ v,s.heap.IsCell c v->h'.IsCell c v:=λx c e v ⟨o,ho,hd⟩=>by
  have nch:c∉ch:=λz=>(hch c z).2.2.1 x c e rfl
  by_cases hc:c∈X.fs
  .obtain⟨sl,q⟩:=slot c o (I.cne x c e) hc nch ho (I.freeC x c e)
   exact⟨_,q,hd⟩
  .exact⟨o,keep c o (I.cne x c e) hc nch ho (I.freeC x c e),hd⟩
 refine⟨I.ok,⟨I.os.1,aY I.os.2 ht⟩,hg,⟨λb o e n hb hx=>?_,λb o e n hb hx=>?_,λb o e n hx=>?_,λb o e hx=>?_,λb xs e=>tups b xs (I.base.tups b xs e),λb o xs e=>frzs b o xs (I.base.frzs b o xs e),λb ps e=>?_⟩,?_,λx c e=>?_,?_,λx c e=>?_,λp hp=>?_,hok,I.len⟩
 .exact keep b o (neL b o e) hb (neC b o e hx) (I.base.keep b o e n hb hx) (I.base.free b o e n hx)
 .obtain⟨sl,e1⟩:=I.base.slot b o e n hb hx
  obtain⟨sl',e2⟩:=slot b _ (neL b o e) hb (neC b o e hx) e1 (I.base.free b o e n hx)
  exact⟨sl',e2⟩
 .obtain⟨o',e1⟩:=I.base.there b o e hx
  exact free b o' (neC b o e hx) e1 (I.base.free b o e n hx)
 .obtain⟨o',e1⟩:=I.base.there b o e hx
  exact there b o' (neC b o e hx) e1
 .obtain⟨m1,e1⟩:=I.base.tbls b ps e
  obtain⟨m2,e2⟩:=tbls b _ e1
  exact⟨m1++m2,by rw[e2,Array.append_assoc]⟩
 .obtain⟨m,hn,hl⟩:=I.loc
  refine⟨m,ns m hn,λi x v e1 e2 e3=>?_⟩
  obtain⟨u,r,l⟩:=hl i x v e1 e2 e3
  refine⟨u,r,?_⟩
  rcases l with l|⟨k,c,e,z⟩
  .exact .inl l
  .exact .inr ⟨k,c,e,cellK x c e _ z⟩
 .obtain⟨v,z⟩:=I.cell x c e
  exact⟨v,cellK x c e v z⟩
 .obtain⟨m,⟨o,_,_,ho,_⟩,_⟩:=I.loc
  exact free _ o (λz=>(hch _ z).2.1 rfl) ho I.free
 .obtain⟨v,o,ho,hd⟩:=I.cell x c e
  exact free c o (λz=>(hch c z).2.2.1 x c e rfl) ho (I.freeC x c e)
 .obtain⟨e,n,ne,nf,d⟩:=I.pin p hp
  have nch:p.1∉ch:=λz=>(hch p.1 z).2.2.2 p hp rfl
  exact⟨keep p.1 p.2 ne nf nch e n,free p.1 p.2 nch e n,ne,nf,d⟩
theorem Inv.un {t':Nat} (I:Inv X pins U H s) (u:Un X.fs [] H H' s.heap h') (hok:HOk X.prog X.w H' h') (ht:s.toks<=t':=by first|exact ai _|exact bw _ _|assumption|omega|(dsimp only;omega)):Inv X pins U H' { s with heap:=h',toks:=t' }:=by
 obtain⟨m,⟨o,es,ep,ho,r⟩,_⟩:=id I.loc
 obtain⟨sl,hL⟩:=u.any ho I.free (by simp)
 exact I.step (g':=s.gens) (d':=s.drawn) (ch:=[]) (λ_ z=>nomatch z) (λb o _ hb _ e n=>u.keep b o e n hb (by simp)) (λb o _ hb _ e n=>u.slot b o e n hb (by simp)) (λb o _ e n=>u.free b o e n (by simp)) (λb o _ e=>u.there b o e (by simp)) u.tups u.frzs u.tbls (λm' hm=>by
  obtain⟨o',es',ep',ho',r'⟩:=hm
  rw[ho] at ho';cases ho'
  exact⟨_,es',ep',hL,r'⟩) hok I.bare
theorem Inv.call {g':Array kl} {t':Nat} {d':Drawn} {ch:List Addr} (I:Inv X pins U H s) (u:Un (frs X.stack) ch H H' s.heap h') (hok:HOk X.prog X.w H' h') (hg:jT g')
  (hch:∀ b∈ch,(b∈X.ex\/X.s₀.heap.objs.size<=b)/\b≠X.env.locals/\(∀ x c,X.env.cells.lookup x=some c->c≠b) /\ ∀ p∈X.pn++pins,p.1≠b) (ht:s.toks<=t':=by first|exact ai _|exact bw _ _|assumption|omega|(dsimp only;omega)) :
  Inv X pins U H' { s with heap:=h',gens:=g',drawn:=d',toks:=t' }:=by
 obtain⟨m,⟨o,es,ep,ho,r⟩,_⟩:=id I.loc
 obtain⟨sl,hL⟩:=u.any ho I.free λz=>(hch _ z).2.1 rfl
 exact I.step (ch:=ch) hch (λb o hL hb hc e n=>u.keep b o e n (λz=>(List.mem_cons.mp (I.stkSub b z)).elim hL hb) hc) (λb o _ _ hc e n=>u.any e n hc) (λb o hc e n=>u.free b o e n hc) (λb o hc e=>u.there b o e hc) u.tups u.frzs u.tbls (λm' hm=>by
  obtain⟨o',es',ep',ho',r'⟩:=hm
  rw[ho] at ho';cases ho'
  exact⟨_,es',ep',hL,r'⟩) hok hg
theorem Inv.turned {t':Nat} {it:Addr} (I:Inv X pins U H s) (k:∀ b o,b≠it->s.heap.get? b=some o->h'.get? b=some o) (hn:H it=none) (hL:it≠X.env.locals)
  (h1:it∈X.ex\/X.s₀.heap.objs.size<=it) (h2:∀ x c,X.env.cells.lookup x=some c->c≠it) (h3:∀ p∈X.pn++pins,p.1≠it) (ht:s.toks<=t':=by first|exact ai _|exact bw _ _|assumption|omega|(dsimp only;omega)):Inv X pins U H { s with heap:=h',toks:=t' }:=by
 have nit:∀ b u,H b=some u->b≠it:=λb u e z=>by rw[z,hn] at e;cases e
 refine I.step (g':=s.gens) (d':=s.drawn) (ch:=[it]) (λb hb=>?_) (λb o _ _ hc e _=>k b o (λz=>hc (by simp[z])) e) (λb o _ _ hc e _=>⟨o.slots,k b o (λz=>hc (by simp[z])) e⟩) (λ_ _ _ _ n=>n)
  (λb o hc e=>⟨o,k b o (λz=>hc (by simp[z])) e⟩) (λ_ _ e=>e) (λ_ _ _ e=>e) (λb ps e=>⟨#[],by rw[e];simp⟩) (λm hm=>?_) (λb u e=>?_) I.bare
 .have e:b=it:=by simpa using hb
  subst e
  exact⟨h1,hL,h2,h3⟩
 .obtain⟨o,es,ep,ho,r⟩:=hm
  exact⟨o,es,ep,k _ o (ce hL) ho,r⟩
 .refine (I.hok b u e).stay (λc v hc q=>k c v ?_ q) (λ_ q=>q) λ_ _ q=>q
  rcases hc with z|z
  .rw[z];exact nit b u e
  .exact nit c _ z
theorem Inv.tok (I:Inv X pins U H s) (t:Nat) (ht:s.toks<=t:=by first|exact ai _|exact bw _ _|assumption|omega|(dsimp only;omega)):Inv X pins U H { s with toks:=t }:=I.un (h':=s.heap) (t':=t) Un.refl I.hok ht
theorem Inv.kept {t':Nat} (I:Inv X pins U H s) (k:∀ b u,s.heap.get? b=some u->h'.get? b=some u) (ht:s.toks<=t':=by first|exact ai _|exact bw _ _|assumption|omega|(dsimp only;omega)):Inv X pins U H { s with heap:=h',toks:=t' }:=I.un (Un.kept k) (I.hok.kept k) ht
theorem Inv.laid {a:Addr} {o:HO} {t':Nat} (I:Inv X pins U H s) (k:∀ b u,s.heap.get? b=some u->h'.get? b=some u) (hp:s.heap.objs.size<=a) (new:ObjOk X.prog X.w (upd H a o) h' a o) (ht:s.toks<=t':=by first|exact ai _|exact bw _ _|assumption|omega|(dsimp only;omega)) :
  Inv X pins U (upd H a o) { s with heap:=h',toks:=t' }:=I.un (Un.laid k hp (I.hok.fresh hp)) (I.hok.laid k hp new) ht
theorem Inv.write {x e:Addr} {o:HO} {t':Nat} (I:Inv X pins U H s) (mu:Mut (H x)) (he:e=x\/H e=some (.own x)) (k:∀ b u,b≠e->s.heap.get? b=some u->h'.get? b=some u) (heo:∃ u,h'.get? e=some u)
  (new:ObjOk X.prog X.w (upd H x o) h' x o) (ht:s.toks<=t':=by first|exact ai _|exact bw _ _|assumption|omega|(dsimp only;omega)):Inv X pins U (upd H x o) { s with heap:=h',toks:=t' }:=I.un (Un.write mu he k heo) (I.hok.write mu he k heo new) ht
theorem Inv.pins_of {pins':List (Addr×Obj)} (I:Inv X pins U H s) (h:∀ p∈pins',s.heap.get? p.1=some p.2/\H p.1=none/\p.1≠X.env.locals/\p.1∉X.fs /\ ∀ v,p.2.data≠.cell v):Inv X pins' U H s:=
 ⟨I.ok,I.os,I.bare,I.base,I.loc,I.cell,I.free,I.freeC,λp hp=>(List.mem_append.mp hp).elim (λz=>I.pin p (bW _ z)) (h p),I.hok,I.len⟩
theorem K3 {N:List Str} (hN:N.Nodup) {i j:Nat} {x:Str} (a:N[i]? = some x) (b:N[j]? = some x):i=j:=by
 obtain⟨h1,e1⟩:=List.getElem?_eq_some_iff.mp a
 obtain⟨h2,e2⟩:=List.getElem?_eq_some_iff.mp b
 exact (c9 hN).mp (e1.trans e2.symm)
theorem Y6 {M:mW} {A:bq} {E:Value->aj->Prop} {i:Nat} {x:Str} {v:V} {u:Value} {Q:Unit->aj->Prop} (I:Inv X pins U H s) (hN:X.N.Nodup) (hi:X.N[i]? = some x) (hx:Loc X.env.scope x) (r:RelV v u)
  (h:∀ s',Inv X pins (U.set i (some v)) H s'->(∃ a,bn a s.heap s'.heap/\(a=X.env.locals\/X.env.cells.lookup x=some a))->Q () s') (hf:X.fn x=true\/X.env.scope.names.lookup x=some .local:=by first|exact .inl rfl|exact .inr rfl|assumption):aN M A (storeName X.env x u) Q E s:=by
 obtain⟨m,hn,hl⟩:=id I.loc
 have hcls:(X.env.scope.kind==.class||(X.env.scope.kind==.module&&X.env.locals != X.env.globals))=false:=by rw[I.ok.kind];rfl
 have hiU:i<U.length:=by rw[I.len];exact (List.getElem?_eq_some_iff.mp hi).1
 have cne:=I.cne
 have tracked:∀ {a:Addr} {h':Heap},(∃ o,s.heap.get? a=some o/\H a=none)->bn a s.heap h'->HOk X.prog X.w H h':=λ{a h'} ha hs b ob e=>by
  obtain⟨_,_,hfree⟩:=ha
  refine (I.hok b ob e).stay (λc w' hc q=>(hs.2 c ?_).trans q) (λ_ q=>q) λ_ _ q=>q
  rintro rfl
  rcases hc with rfl|hc
  .rw[hfree] at e;cases e
  .rw[hfree] at hc;cases hc
 rcases hx with hk|hk
 .refine wpAny_storeName_local hk hn (λh' hn' hs=>?_) hcls
  obtain⟨oL,_,_,hoL,_⟩:=id hn
  refine h _ ⟨I.ok,⟨I.os.1,aY I.os.2 (by first|exact ai _|exact bw _ _)⟩,I.bare,⟨λb o e n hb hx=>?_,λb o e n hb hx=>?_,I.base.free,λb o e hx=>?_,I.base.tups,I.base.frzs,I.base.tbls⟩,⟨_,hn',λj y v' e1 e2 e3=>?_⟩,λy c e=>?_,I.free,I.freeC,λp hp=>?_,tracked ⟨oL,hoL,I.free⟩ hs,by simpa using I.len⟩ ⟨_,hs,.inl rfl⟩
  .exact (hs.2 b (aQ (aJ (aA e) I.ok.above))).trans (I.base.keep b o e n hb hx)
  .obtain⟨sl,e1⟩:=I.base.slot b o e n hb hx
   exact⟨sl,(hs.2 b (aQ (aJ (aA e) I.ok.above))).trans e1⟩
  .obtain⟨o',e1⟩:=I.base.there b o e hx
   exact⟨o',(hs.2 b (aQ (aJ (aA e) I.ok.above))).trans e1⟩
  .by_cases hj:j=i
   .subst hj
    rw[hi] at e1;cases e1
    rw[gI hiU] at e2
    cases e2
    exact⟨u,r,.inl ⟨hk,by simp⟩⟩
   .rw[ib (ce hj)] at e2
    obtain⟨u',r',q⟩:=hl j y v' e1 e2 e3
    refine⟨u',r',?_⟩
    rcases q with ⟨k,e⟩|⟨k,c,e,z⟩
    .refine .inl ⟨k,?_⟩
     have:y≠x:=λe=>hj (K3 hN e1 (e▸hi))
     simp[this,e]
    .exact .inr ⟨k,c,e,z.sameBut hs (cne y c e)⟩
  .obtain⟨w',z⟩:=I.cell y c e
   exact⟨w',z.sameBut hs (cne y c e)⟩
  .obtain⟨e,n,ne,nf,d⟩:=I.pin p hp
   exact⟨(hs.2 p.1 ne).trans e,n,ne,nf,d⟩
 .have hfn:X.fn x=true:=by
   rcases hf with z|z
   .exact z
   .rw[z] at hk;cases hk
  obtain⟨c,hc⟩:=I.ok.has x (.inl hk)
  obtain⟨w',z⟩:=I.cell x c hc
  refine wpAny_storeName_cell I.ok.kind hk hc z (λh' hc' hs=>?_)
  obtain⟨oc,hoc,hocd⟩:=id z
  refine h { s with heap:=h' } ⟨I.ok,I.os,I.bare,⟨λb o e n hb hx=>?_,λb o e n hb hx=>?_,I.base.free,λb o e hx=>?_,I.base.tups,I.base.frzs,I.base.tbls⟩,⟨m,hn.sameBut hs (ce (cne x c hc)),λj y v' e1 e2 e3=>?_⟩,λy c' e=>?_,I.free,I.freeC,λp hp=>?_,tracked ⟨oc,hoc,I.freeC x c hc⟩ hs,by simpa using I.len⟩ ⟨c,hs,.inr hc⟩
  .exact (hs.2 b (aQ (aJ (aA e) (I.ok.cab x c hfn hc)))).trans (I.base.keep b o e n hb hx)
  .obtain⟨sl,e1⟩:=I.base.slot b o e n hb hx
   exact⟨sl,(hs.2 b (aQ (aJ (aA e) (I.ok.cab x c hfn hc)))).trans e1⟩
  .obtain⟨o',e1⟩:=I.base.there b o e hx
   exact⟨o',(hs.2 b (aQ (aJ (aA e) (I.ok.cab x c hfn hc)))).trans e1⟩
  .by_cases hj:j=i
   .subst hj
    rw[hi] at e1;cases e1
    rw[gI hiU] at e2
    cases e2
    exact⟨u,r,.inr ⟨.inl hk,c,hc,hc'⟩⟩
   .rw[ib (ce hj)] at e2
    obtain⟨u',r',q⟩:=hl j y v' e1 e2 e3
    refine⟨u',r',?_⟩
    rcases q with q|⟨k,c',e,z'⟩
    .exact .inl q
    .refine .inr ⟨k,c',e,z'.sameBut hs ?_⟩
     rintro rfl
     exact hj (K3 hN e1 (I.ok.inj _ _ _ e hc▸hi))
  .by_cases hcc:c'=c
   .subst hcc;exact⟨_,hc'⟩
   .obtain⟨w2,z2⟩:=I.cell y c' e
    exact⟨w2,z2.sameBut hs hcc⟩
  .obtain⟨e,n,ne,nf,d⟩:=I.pin p hp
   refine⟨(hs.2 p.1 ?_).trans e,n,ne,nf,d⟩
   intro q
   rw[q,hoc] at e
   have q':oc=p.2:=aD e
   exact d w' (by rw[<- q'];exact hocd)
theorem G6 {M:mW} {A:bq} {E:Value->aj->Prop} {i:Nat} {x:Str} {v:V} {u:Value} {Q:Unit->aj->Prop} (I:Inv X pins U H s) (hN:X.N.Nodup) (hi:X.N[i]? = some x) (hx:Loc X.env.scope x) (r:RelV v u)
  (h:∀ s',Inv X pins (U.set i (some v)) H s'->Q () s') (hf:X.fn x=true\/X.env.scope.names.lookup x=some .local:=by first|exact .inl rfl|exact .inr rfl|assumption):aN M A (storeName X.env x u) Q E s:=
 Y6 I hN hi hx r (λs' I' _=>h s' I') hf
theorem Inv.call' {s':aj} {ch:List Addr} (I:Inv X pins U H s) (ho:s'.os=s.os/\s.toks<=s'.toks) (u:Un (frs X.stack) ch H H' s.heap s'.heap) (hok:HOk X.prog X.w H' s'.heap) (hg:jT s'.gens)
  (hch:∀ b∈ch,(b∈X.ex\/X.s₀.heap.objs.size<=b)/\b≠X.env.locals/\(∀ x c,X.env.cells.lookup x=some c->c≠b) /\ ∀ p∈X.pn++pins,p.1≠b):Inv X pins U H' s':=by
 obtain⟨h',g',d',t',o'⟩:=s'
 have e:o'=s.os:=ho.1
 subst e
 exact I.call (g':=g') (t':=t') (d':=d') u hok hg hch ho.2
end
abbrev XK:=Value->Option Addr->Hp->Prop
abbrev St:=List (Option V)
abbrev VK:=V->Hp->Prop
abbrev TE:=St->Hp->VK->Prop
abbrev TT:=St->Hp->(Bool->Hp->Prop)->Prop
abbrev TA:=St->Hp->(List V->Hp->Prop)->Prop
structure Ly where
 nx:St->Hp->Prop
 rt:VK
 bk:St->Hp->Prop:=λ_ _=>False
 ct:St->Hp->Prop:=λ_ _=>False
abbrev TS:=Ly->St->Hp->Prop
noncomputable def EP (X:Cx) (pins:List (Addr×Obj)) (U:St) (Q:VK) (u:Value) (s':aj):Prop:=∃ v H',Inv X pins U H' s'/\RelV v u/\Q v H'
def TP (X:Cx) (pins:List (Addr×Obj)) (U:St) (Q:Bool->Hp->Prop) (b:Bool) (s':aj):Prop:=∃ H',Inv X pins U H' s'/\Q b H'
noncomputable def AP (X:Cx) (pins:List (Addr×Obj)) (U:St) (Q:List V->Hp->Prop) (us:List Value) (s':aj):Prop:=∃ vs H',Inv X pins U H' s'/\Vals vs us/\Q vs H'
noncomputable def SP (X:Cx) (pins:List (Addr×Obj)) (D:Ly) (f:Flow) (s':aj):Prop:=
 match f with
 |.next=>∃ U' H',Inv X pins U' H' s'/\D.nx U' H'
 |.brk=>∃ U' H',Inv X pins U' H' s'/\D.bk U' H'
 |.cont=>∃ U' H',Inv X pins U' H' s'/\D.ct U' H'
 |.ret u=>∃ v U' H',Inv X pins U' H' s'/\RelV v u/\D.rt v H'
noncomputable def PE (X:Cx) (e:Expr) (t:TE):Prop:=
 ∀ (pins:List (Addr×Obj)) (s:aj) (U:St) (H:Hp) (Q:VK),Inv X pins U H s->t U H Q->aN (model X.prog X.w) X.A (eval e X.env) (EP X pins U Q) X.xe s
noncomputable def PT (X:Cx) (e:Expr) (t:TT):Prop:=
 ∀ (pins:List (Addr×Obj)) (s:aj) (U:St) (H:Hp) (Q:Bool->Hp->Prop),Inv X pins U H s->t U H Q->aN (model X.prog X.w) X.A (isTrue e X.env (eval e X.env)) (TP X pins U Q) X.xe s
noncomputable def PW (X:Cx) (e:Expr) (t:TT):Prop:=
 ∀ (whole:Sem Value) (pins:List (Addr×Obj)) (s:aj) (U:St) (H:Hp) (Q:Bool->Hp->Prop),Inv X pins U H s->t U H Q->aN (model X.prog X.w) X.A (isTrue e X.env whole) (TP X pins U Q) X.xe s
theorem PW.pt {X:Cx} {e:Expr} {t:TT} (h:PW X e t):PT X e t:=h _
noncomputable def PA (X:Cx) (es:List Expr) (t:TA):Prop:=
 ∀ (pos:Pos) (pins:List (Addr×Obj)) (s:aj) (U:St) (H:Hp) (Q:List V->Hp->Prop),Inv X pins U H s->t U H Q->aN (model X.prog X.w) X.A (spliced (je pos (cS es X.env))) (AP X pins U Q) X.xe s
noncomputable def PS (X:Cx) (st:Stmt) (t:TS):Prop:=
 ∀ (pins:List (Addr×Obj)) (s:aj) (U:St) (H:Hp) (D:Ly),Inv X pins U H s->t D U H->aN (model X.prog X.w) X.A (exec st X.env) (SP X pins D) X.xe s
noncomputable def PSs (X:Cx) (st:List Stmt) (t:TS):Prop:=
 ∀ (pins:List (Addr×Obj)) (s:aj) (U:St) (H:Hp) (D:Ly),Inv X pins U H s->t D U H->aN (model X.prog X.w) X.A (execs st X.env) (SP X pins D) X.xe s
theorem thn {α:Type} {t:Sem α} {Q Q':α->aj->Prop} {M:mW} {A:bq} {E:Value->aj->Prop} {s:aj} (h:aN M A t Q E s) (hQ:∀ a s,Q a s->Q' a s):aN M A t Q' E s:=bN h hQ λ_ _ x=>x
section
variable {X:Cx}
def b06 (i:Nat):TE:=λU H Q=>∃ v,U[i]? = some (some v)/\Q v H
def tC (v:V):TE:=λ_ H Q=>Q v H
theorem be6 {i:Nat} {x:Str} {pos:Pos} (hN:X.N[i]? = some x) (hv:Vis X.env.scope x) (hd:(x==("__debug__" : Str))=false:=by decide) (hcd:(x==("__classdict__" : Str))=false:=by decide):PE X (.Name x pos) (b06 i):=by
 intro pins s U H Q I h
 obtain⟨v,e,h⟩:=h
 obtain⟨m,hn,hl⟩:=I.loc
 obtain⟨u,r,l⟩:=hl i x v hN e hv
 have fin:EP X pins U Q u s:=⟨v,H,I,r,h⟩
 rcases l with ⟨hk,hm⟩|⟨hk,c,hc,hcell⟩
 .exact wpAny_Name (wpAny_loadName_local I.ok.kind hk hn hm fin) hd
 .rcases hk with hk|hk
  .exact wpAny_Name (wpAny_loadName_cell I.ok.kind hk hc hcell fin) hd
  .exact wpAny_Name (wpAny_loadName_free I.ok.kind hk hc hcell fin hcd) hd
theorem be0 {i j pos}:PE X (.Constant (.int i) j pos) (tC (.int i)):=λ_ _ _ H _ I h=>wpAny_Constant_int ⟨.int i,H,I.tok _,⟨_,rfl⟩,h⟩
theorem br2 {b j pos}:PE X (.Constant (.bool b) j pos) (tC (.bl b)):=λ_ _ _ H _ I h=>Constant_bool ⟨.bl b,H,I,rfl,h⟩
theorem be2 {j pos}:PE X (.Constant .none j pos) (tC .non):=λ_ _ _ H _ I h=>Constant_none ⟨.non,H,I,rfl,h⟩
theorem be4 {x j pos}:PE X (.Constant (.str x) j pos) (tC (.str x)):=λ_ _ _ H _ I h=>Calls.Constant_str ⟨.str x,H,I.tok _,⟨_,rfl⟩,h⟩
def Gl (X:Cx) (x:Str):Prop:=X.env.kindOf x=some .globalImplicit
theorem Dp {E:Value->aj->Prop} {pins:List (Addr×Obj)} {s:aj} {U:St} {H:Hp} {x:Str} {u:Value} {pos:Pos} {Q:Value->aj->Prop} (I:Inv X pins U H s) (hg:Gl X x) (hm:X.mg x=some u) (h:Q u s)
  (hd:(x==("__debug__" : Str))=false:=by decide):aN (model X.prog X.w) X.A (eval (.Name x pos) X.env) Q E s:=
 iG I.ok.kind hg (Calls.loadGlobal_global (by rw[I.ok.glob];exact I.mod.glob.keeps I.bk) hm h) hd
theorem Dh {E:Value->aj->Prop} {pins:List (Addr×Obj)} {s:aj} {U:St} {H:Hp} {x:Str} {u:Value} {pos:Pos} {Q:Value->aj->Prop} (I:Inv X pins U H s) (hg:Gl X x) (hm:X.mg x=none) (hv:cQ x=some u) (h:Q u s)
  (hn:x ≠ "__name__" := by decide) (hd:(x==("__debug__" : Str))=false:=by decide):aN (model X.prog X.w) X.A (eval (.Name x pos) X.env) Q E s:=by
 obtain⟨mb,h1,h2⟩:=I.mod.blt
 exact iG I.ok.kind hg (Calls.loadGlobal_builtin (by rw[I.ok.glob];exact I.mod.glob.keeps I.bk) hm (by rw[I.ok.blt];exact h1.keeps I.bk) ((h2 x hn).trans hv) h) hd
theorem Pe {x:Str} {v:V} {u:Value} {pos:Pos} (hg:Gl X x) (hm:X.mg x=some u) (r:RelV v u) (hd:(x==("__debug__" : Str))=false:=by decide):PE X (.Name x pos) (tC v):=
 λ_ _ _ H _ I h=>Dp I hg hm ⟨v,H,I,r,h⟩ hd
theorem av2 {x:Str} {v:V} {u:Value} {pos:Pos} (hg:Gl X x) (hm:X.mg x=none) (hv:cQ x=some u) (r:RelV v u) (hn:x ≠ "__name__" := by decide) (hd:(x==("__debug__" : Str))=false:=by decide):PE X (.Name x pos) (tC v):=
 λ_ _ _ H _ I h=>Dh I hg hm hv ⟨v,H,I,r,h⟩ hn hd
variable {a b:Expr} {ta tb:TE} {pos:Pos}
variable {tA tB':TT} {rest:List Expr}
def bz7 (t u:TT):TT:=λU H Q=>t U H λc H1=>if c=true then u U H1 Q else Q false H1
def tOr (t u:TT):TT:=λU H Q=>t U H λc H1=>if c=true then Q true H1 else u U H1 Q
def b02 (t:TT):TT:=λU H Q=>t U H λc H1=>Q (!c) H1
theorem aw4 (ha:PT X a tA):PW X (.BoolOp .And [a] pos) tA:=by
 intro wh pins s U H Q I h
 refine isTrue_and (thn (ha pins s U H Q I h) λc s1 e=>?_)
 cases c with
 |true=>exact isTrue_and_nil e
 |false=>exact e
theorem bf4 (ha:PT X a tA):PW X (.BoolOp .Or [a] pos) tA:=by
 intro wh pins s U H Q I h
 refine isTrue_or (thn (ha pins s U H Q I h) λc s1 e=>?_)
 cases c with
 |false=>exact isTrue_or_nil e
 |true=>exact e
theorem bf3 (ha:PT X a tA) (hb:PW X (.BoolOp .And (b::rest) pos) tB'):PW X (.BoolOp .And (a::b::rest) pos) (bz7 tA tB'):=by
 intro wh pins s U H Q I h
 refine isTrue_and (thn (ha pins s U H _ I h) λc s1 ⟨H1,I1,q1⟩=>?_)
 cases c with
 |true=>exact hb wh pins s1 U H1 Q I1 q1
 |false=>exact⟨H1,I1,q1⟩
theorem br8 (ha:PT X a tA) (hb:PW X (.BoolOp .Or (b::rest) pos) tB'):PW X (.BoolOp .Or (a::b::rest) pos) (tOr tA tB'):=by
 intro wh pins s U H Q I h
 refine isTrue_or (thn (ha pins s U H _ I h) λc s1 ⟨H1,I1,q1⟩=>?_)
 cases c with
 |true=>exact⟨H1,I1,q1⟩
 |false=>exact hb wh pins s1 U H1 Q I1 q1
theorem bf2 (ha:PT X a tA):PT X (.UnaryOp .Not a pos) (b02 tA):=by
 intro pins s U H Q I h
 exact isTrue_not (ha pins s U H (λc H1=>Q (!c) H1) I h)
theorem be3 {op} {t:TE} (h:PE X a t):PE X (.BoolOp op [a] pos) t:=λpins s U H Q I hw=>BoolOp_one (h pins s U H Q I hw)
def tIf (t:TT) (ta tb:TE):TE:=λU H Q=>t U H λc H1=>if c=true then ta U H1 Q else tb U H1 Q
theorem ah8 {c:Expr} (hc:PT X c tA) (ha:PE X a ta) (hb:PE X b tb):PE X (.IfExp c a b pos) (tIf tA ta tb):=by
 intro pins s U H Q I h
 refine wpAny_IfExp (thn (hc pins s U H _ I h) λd s1 ⟨H1,I1,q1⟩=>?_)
 cases d with
 |true=>exact ha pins s1 U H1 Q I1 q1
 |false=>exact hb pins s1 U H1 Q I1 q1
end
noncomputable def SqL (K:ac) (H:Hp) (a:Addr) (xs:List V):Prop:=
 Rd H a (.lst xs) \/
  ∃ (o:Obj) (its:Array Value) (n:Nat),K.lookup a=some o/\o.cls=.type "list" /\ o.dict=none/\o.data=.seq its n/\its.size<=sizeLine/\xs.all V.pl=true/\Vals xs its.toList
noncomputable def SqT (K:ac) (H:Hp) (a:Addr) (xs:List V):Prop:=
 Rd H a (.tup xs) \/
  ∃ (o:Obj) (its:Array Value) (n:Nat),K.lookup a=some o/\o.cls=.type "tuple" /\ o.data=.seq its n/\its.size<=sizeLine/\xs.all V.pl=true/\Vals xs its.toList
noncomputable def bx8:Value->Option V
 |.none=>some .non
 |.bool b=>some (.bl b)
 |.int i _=>some (.int i)
 |.str x _=>some (.str x)
 |.bytes b _=>some (.byt b)
 |.ref a=>some (.ref a)
 |.type n=>some (.ty n)
 |_=>none
theorem RelV.abs {x:V} {u:Value} (r:RelV x u) (p:x.pl=true):bx8 u=some x:=by
 cases x with
 |non=>cases r;rfl
 |bl _=>cases r;rfl
 |int _=>obtain⟨t,rfl⟩:=r;rfl
 |str _=>obtain⟨t,rfl⟩:=r;rfl
 |byt _=>obtain⟨t,rfl⟩:=r;rfl
 |stk _ _ _=>cases p
 |ref _=>cases r;rfl
 |ty _=>cases r;rfl
theorem RelV.inj {x y:V} {u:Value} (r:RelV x u) (q:RelV y u) (p:x.pl=true) (p':y.pl=true):x=y:=aD ((r.abs p).symm.trans (q.abs p'))
theorem Vals.inj:∀ {xs ys:List V} {us:List Value},Vals xs us->Vals ys us->xs.all V.pl=true->ys.all V.pl=true->xs=ys
 |_,_,_,.nil,.nil,_,_=>rfl
 | _,_,_,.cons r t,.cons r' t',p,q=>by
  simp only[bR,aE] at p q
  rw[r.inj r' p.1 q.1,Vals.inj t t' p.2 q.2]
section
variable {X:Cx} {pins:List (Addr×Obj)} {U:St} {H:Hp} {s:aj} {a:Addr} {xs ys:List V}
theorem SqL.of {K:ac} (h:H a=some (.lst xs)):SqL K H a xs:=.inl (.inl h)
theorem SqT.of {K:ac} (h:H a=some (.tup xs)):SqT K H a xs:=.inl (.inl h)
theorem Inv.list (I:Inv X pins U H s) (h:SqL X.K H a xs):∃ its:List Value,Vals xs its/\PlainL s.heap a its.toArray/\xs.length<=sizeLine:=by
 rcases h with h|⟨o,its,n,hk,hc,hd,hs,hz,_,r⟩
 .obtain⟨z,its,n,r,e⟩:=h.ok I.hok
  exact⟨its,r,⟨_,n,e,rfl,rfl,rfl⟩,z⟩
 .refine⟨its.toList,r,⟨o,n,I.kIn a o hk,hc,hd,by simpa using hs⟩,?_⟩
  have e:=r.length
  simp only[bS] at e
  omega
theorem Inv.tuple (I:Inv X pins U H s) (h:SqT X.K H a xs):∃ its:List Value,Vals xs its/\mV s.heap a its.toArray/\xs.length<=sizeLine:=by
 rcases h with h|⟨o,its,n,hk,hc,hs,hz,_,r⟩
 .obtain⟨z,its,r,p⟩:=h.ok I.hok
  exact⟨its,r,p,z⟩
 .refine⟨its.toList,r,⟨o,I.kIn a o hk,hc,n,by simpa using hs⟩,?_⟩
  have e:=r.length
  simp only[bS] at e
  omega
theorem Inv.notK (I:Inv X pins U H s) {o:HO} {ob:Obj} (h:Rd H a o) (e:X.K.lookup a=some ob):False:=by
 have n:=(I.bs a ob (I.mod.kin a ob e)).2
 rcases h with h|⟨u,h⟩
 .rw[n] at h;cases h
 .rw[n] at h;cases h
theorem Inv.list_inj (I:Inv X pins U H s) (h:SqL X.K H a xs) (h':SqL X.K H a ys):xs=ys:=by
 rcases h with h|⟨o,its,n,hk,hc,hd,hs,hz,p,r⟩
 .rcases h' with h'|⟨o',its',n',hk',hc',hd',hs',hz',p',r'⟩
  .rcases h with h|⟨u,h⟩ <;> rcases h' with h'|⟨u',h'⟩ <;> (rw[h] at h';first|(cases h';rfl)|cases h')
  .exact (I.notK h hk').elim
 .rcases h' with h'|⟨o',its',n',hk',hc',hd',hs',hz',p',r'⟩
  .exact (I.notK h' hk).elim
  .rw[hk] at hk';cases hk'
   rw[hs] at hs';cases hs'
   exact r.inj r' p p'
theorem Inv.tuple_inj (I:Inv X pins U H s) (h:SqT X.K H a xs) (h':SqT X.K H a ys):xs=ys:=by
 rcases h with h|⟨o,its,n,hk,hc,hs,hz,p,r⟩
 .rcases h' with h'|⟨o',its',n',hk',hc',hs',hz',p',r'⟩
  .rcases h with h|⟨u,h⟩ <;> rcases h' with h'|⟨u',h'⟩ <;> (rw[h] at h';first|(cases h';rfl)|cases h')
  .exact (I.notK h hk').elim
 .rcases h' with h'|⟨o',its',n',hk',hc',hs',hz',p',r'⟩
  .exact (I.notK h' hk).elim
  .rw[hk] at hk';cases hk'
   rw[hs] at hs';cases hs'
   exact r.inj r' p p'
end
abbrev Cx.wish (X:Cx) (E:Value->aj->Prop):Cx:={ X with xe:=E }
abbrev Cx.nox (X:Cx):Cx:=X.wish λ_ _=>False
theorem Cx.Ok.wish {X:Cx} (ok:X.Ok) (E:Value->aj->Prop):(X.wish E).Ok:=
 ⟨ok.mod,ok.kind,ok.glob,ok.blt,ok.above,ok.inj,ok.has,ok.cab,ok.hd,ok.frames,ok.stk,ok.exf,ok.bs,ok.bsz,ok.noex,ok.exfs,ok.funs,ok.frf,ok.tk⟩
theorem Cx.Ok.unwish {X:Cx} {E:Value->aj->Prop} (ok:(X.wish E).Ok):X.Ok:=
 ⟨ok.mod,ok.kind,ok.glob,ok.blt,ok.above,ok.inj,ok.has,ok.cab,ok.hd,ok.frames,ok.stk,ok.exf,ok.bs,ok.bsz,ok.noex,ok.exfs,ok.funs,ok.frf,ok.tk⟩
section
variable {X:Cx} {pins:List (Addr×Obj)} {U:St} {H:Hp} {s:aj} {E:Value->aj->Prop}
theorem Inv.wish (I:Inv X pins U H s) (E:Value->aj->Prop):Inv (X.wish E) pins U H s:=⟨I.ok.wish E,I.os,I.bare,I.base,I.loc,I.cell,I.free,I.freeC,I.pin,I.hok,I.len⟩
theorem Inv.unwish (I:Inv (X.wish E) pins U H s):Inv X pins U H s:=⟨I.ok.unwish,I.os,I.bare,I.base,I.loc,I.cell,I.free,I.freeC,I.pin,I.hok,I.len⟩
theorem SP.unwish {D:Ly} {f:Flow} {s':aj} (h:SP (X.wish E) pins D f s'):SP X pins D f s':=by
 cases f with
 |next=>obtain⟨U',H',I,q⟩:=h;exact⟨U',H',I.unwish,q⟩
 |brk=>obtain⟨U',H',I,q⟩:=h;exact⟨U',H',I.unwish,q⟩
 |cont=>obtain⟨U',H',I,q⟩:=h;exact⟨U',H',I.unwish,q⟩
 |ret u=>obtain⟨v,U',H',I,r,q⟩:=h;exact⟨v,U',H',I.unwish,r,q⟩
theorem PE.nox {e:Expr} {t:TE} (h:PE X.nox e t):PE X e t:=λpins s U H Q I hw=>
 bN (h pins s U H Q (I.wish _) hw) (λ_ _ ⟨v,H',I',r,q⟩=>⟨v,H',I'.unwish,r,q⟩) λ_ _ z=>cb z
theorem PSs.nox {st:List Stmt} {t:TS} (h:PSs X.nox st t):PSs X st t:=λpins s U H D I hw=>
 bN (h pins s U H D (I.wish _) hw) (λ_ _ q=>q.unwish) λ_ _ z=>cb z
end
section
variable {X:Cx} {st:Stmt} {rest:List Stmt} {t u:TS} {e:Expr} {te:TE} {pos:Pos}
def a33:TS:=λD U H=>D.nx U H
def b04 (t u:TS):TS:=λD U H=>t { D with nx:=u D } U H
theorem aw1:PSs X [] a33:=λ_ _ U H _ I h=>ke ⟨U,H,I,h⟩
theorem ai7 (h1:PS X st t) (h2:PSs X rest u):PSs X (st::rest) (b04 t u):=by
 intro pins s U H D I h
 refine wpAny_execs_cons (thn (h1 pins s U H { D with nx:=u D } I h) λf s1 q=>?_)
 cases f with
 |next=>
  obtain⟨U',H',I',q⟩:=q
  exact h2 pins s1 U' H' D I' q
 |ret v=>exact q
 |brk=>exact q
 |cont=>exact q
def bi8:TS:=λD U H=>D.bk U H
def bt1:TS:=λD U H=>D.ct U H
theorem av8:PS X (.Pass pos) a33:=λ_ _ U H _ I h=>wpAny_Pass ⟨U,H,I,h⟩
theorem ai5:PS X (.Break pos) bi8:=λ_ _ U H _ I h=>wpAny_Break ⟨U,H,I,h⟩
theorem Ro:PS X (.Continue pos) bt1:=λ_ _ U H _ I h=>wpAny_Continue ⟨U,H,I,h⟩
theorem Inv.quiet {pins:List (Addr×Obj)} {U:St} {H:Hp} {s:aj} (I:Inv X pins U H s):interactive X.env=false:=by simp[interactive,I.ok.kind]
def bt2 (te:TE):TS:=λD U H=>te U H λ_ H1=>D.nx U H1
theorem av7 (he:PE X e te) (hs:jh e none pos.line X.env=pure false:=by rfl):PS X (.Expr e pos) (bt2 te):=by
 intro pins s U H D I h
 exact wpAny_Expr_any (thn (he pins s U H _ I h) λv s1 ⟨x,H1,I1,r1,q1⟩=>⟨U,H1,I1,q1⟩) I.quiet hs
def b03 (te:TE):TS:=λD U H=>te U H D.rt
theorem bf0 (he:PE X e te):PS X (.Return (some e) pos) (b03 te):=by
 intro pins s U H D I h
 exact wpAny_Return_some (thn (he pins s U H _ I h) λv s1 ⟨x,H1,I1,r1,q1⟩=>⟨x,U,H1,I1,r1,q1⟩)
def bt3:TS:=λD _ H=>D.rt .non H
theorem av9:PS X (.Return none pos) bt3:=λ_ _ U H _ I h=>wpAny_Return_none ⟨.non,U,H,I,rfl,h⟩
def bz9 (c:TT) (t u:TS):TS:=λD U H=>c U H λb H1=>if b=true then t D U H1 else u D U H1
theorem br7 {c:Expr} {a b:List Stmt} {tc:TT} (hc:PT X c tc) (ha:PSs X a t) (hb:PSs X b u):PS X (.If c a b pos) (bz9 tc t u):=by
 intro pins s U H D I h
 refine wpAny_If (thn (hc pins s U H _ I h) λd s1 ⟨H1,I1,q1⟩=>?_)
 cases d with
 |true=>exact ha pins s1 U H1 D I1 q1
 |false=>exact hb pins s1 U H1 D I1 q1
end
abbrev TG:=V->St->Hp->(St->Hp->Prop)->Prop
abbrev TGs:=List V->St->Hp->(St->Hp->Prop)->Prop
noncomputable def PG (X:Cx) (target:Expr) (t:TG):Prop:=
 ∀ (pins:List (Addr×Obj)) (s:aj) (U:St) (H:Hp) (v:V) (u:Value) (Q:St->Hp->Prop),Inv X pins U H s->RelV v u->t v U H Q ->
  aN (model X.prog X.w) X.A (lY target X.env u) (λ_ s'=>∃ U' H',Inv X pins U' H' s'/\Q U' H') X.xe s
noncomputable def PGs (X:Cx) (ts:List Expr) (t:TGs):Prop:=
 ∀ (pins:List (Addr×Obj)) (s:aj) (U:St) (H:Hp) (vs:List V) (us:List Value) (Q:St->Hp->Prop),Inv X pins U H s->Vals vs us->t vs U H Q ->
  aN (model X.prog X.w) X.A (assignInOrder ((c7 ts X.env).map (·.2)) us) (λ_ s'=>∃ U' H',Inv X pins U' H' s'/\Q U' H') X.xe s
abbrev a52:=V->V->V->Hp->(Hp->Prop)->Prop
noncomputable def bk3 (X:Cx) (t:a52):Prop:=
 ∀ (pins:List (Addr×Obj)) (s:aj) (U:St) (H:Hp) (o i v:V) (ov iv u:Value) (Q:Hp->Prop),Inv X pins U H s->RelV o ov->RelV i iv->RelV v u->t o i v H Q ->
  aN (model X.prog X.w) X.A (setItem ov iv u) (λ_ s'=>∃ H',Inv X pins U H' s'/\Q H') X.xe s
section
variable {X:Cx} {pos:Pos}
def ad5 (i:Nat):TG:=λv U H Q=>Q (U.set i (some v)) H
theorem av4 {i:Nat} {x:Str} (hN:X.N.Nodup) (hi:X.N[i]? = some x) (hx:Loc X.env.scope x) (hf:X.fn x=true\/X.env.scope.names.lookup x=some .local:=by first|exact .inl rfl|exact .inr rfl|assumption):PG X (.Name x pos) (ad5 i):=by
 intro pins s U H v u Q I r h
 exact wpAny_assign_Name (G6 I hN hi hx r (λs' I'=>⟨_,H,I',h⟩) hf)
def by2:TGs:=λvs U H Q=>vs=[]/\Q U H
def bm0 (t:TG) (u:TGs):TGs:=λvs U H Q=>∃ v r,vs=v::r/\t v U H λU' H'=>u r U' H' Q
theorem av5:PGs X [] by2:=by
 intro pins s U H vs us Q I r h
 obtain⟨e,h⟩:=h
 subst e
 cases r
 exact assignInOrder_nil ⟨U,H,I,h⟩
theorem ah9 {e:Expr} {es:List Expr} {t:TG} {u:TGs} (h1:PG X e t) (h2:PGs X es u)
  (hs:(c7 (e::es) X.env).map (·.2)=lY e X.env::(c7 es X.env).map (·.2):=by rfl):PGs X (e::es) (bm0 t u):=by
 intro pins s U H vs us Q I r h
 obtain⟨v,vr,e1,h⟩:=h
 subst e1
 cases r with
 |cons r rr=>
  rw[hs]
  refine assignInOrder_cons (thn (h1 pins s U H _ _ _ I r h) λ_ s1 ⟨U1,H1,I1,q1⟩=>?_)
  exact h2 pins s1 U1 H1 _ _ Q I1 rr q1
noncomputable def by4 (K:ac) (n:Nat) (t:TGs):TG:=λv U H Q=>∃ a xs,v=.ref a/\SqT K H a xs/\xs.length=n/\t xs U H Q
theorem be8 {es:List Expr} {k:Nat} {t:TGs} {n:Nat} (hc:X.calm=true) (h:PGs X es t)
  (hn:(c7 es X.env).length=n:=by rfl) (hst:(c7 es X.env).findIdx? (·.1)=none:=by rfl):PG X (.Tuple es k pos) (by4 X.K n t):=by
 intro pins s U H v u Q I r hw
 obtain⟨a,xs,e1,hq,hl,hw⟩:=hw
 subst e1
 cases r
 obtain⟨its,rv,ht,hz⟩:=I.tuple hq
 refine assign_Tuple_tuple (I.ok.hd hc) ht (by simp[hn,<- hl,rv.length]) hst λh' hx=>?_
 have I1:Inv X pins U H { s with heap:=h' }:=I.kept (t':=s.toks) λb o e=>hx b o (aQ (aA e)) e
 exact h pins _ U H xs _ Q I1 (by simpa using rv) hw
def by3 (to ti:TE) (t:a52):TG:=λv U H Q=>to U H λo H1=>ti U H1 λi H2=>t o i v H2 λH3=>Q U H3
theorem be7 {o i:Expr} {to ti:TE} {t:a52} (ho:PE X o to) (hi:PE X i ti) (hs:bk3 X t)
  (ha:∀ v,lY (.Subscript o i pos) X.env v=(do
   let ov <- mR [v] (eval o X.env)
   let iv <- mR [v,ov] (eval i X.env)
   mT pos
   mR [v,ov,iv] (setItem ov iv v)
   release [v,ov,iv] []):=by intro _;rfl):PG X (.Subscript o i pos) (by3 to ti t):=by
 intro pins s U H v u Q I r h
 rw[ha]
 refine af (bF (thn (ho pins s U H _ I h) λov s1 ⟨x,H1,I1,r1,q1⟩=>?_))
 refine af (bF (thn (hi pins s1 U H1 _ I1 q1) λiv s2 ⟨y,H2,I2,r2,q2⟩=>?_))
 refine af (eY (af (bF (thn (hs pins s2 U H2 x y v ov iv u _ I2 r1 r2 r q2) λ_ s3 ⟨H3,I3,q3⟩=>?_))))
 exact wpAny_release ⟨U,H3,I3,q3⟩
def bi7 (te:TE) (g:TG):TS:=λD U H=>te U H λx H1=>g x U H1 D.nx
theorem ai4 {tg e:Expr} {te:TE} {g:TG} (he:PE X e te) (hg:PG X tg g) (hs:lI [tg] e pos.line X.env=pure false:=by rfl) (hw:swappedStores [tg] e X.env=pure none:=by rfl)
  (h1:(c7 [tg] X.env).map (·.2)=[lY tg X.env]:=by rfl):PS X (.Assign [tg] e pos) (bi7 te g):=by
 intro pins s U H D I h
 refine wpAny_Assign_stores (thn (he pins s U H _ I h) λv s1 ⟨x,H1,I1,r1,q1⟩=>?_) hs hw
 rw[h1]
 exact thn (hg pins s1 U H1 x v _ I1 r1 q1) λ_ s2 q=>q
theorem bf1 {i:Nat} {x:Str} {e:Expr} {te:TE} {pos':Pos} (hN:X.N.Nodup) (hi:X.N[i]? = some x) (hx:Loc X.env.scope x) (he:PE X e te) (hs:jh e (some (.Name x pos')) pos.line X.env=pure false:=by rfl) (hf:X.fn x=true\/X.env.scope.names.lookup x=some .local:=by first|exact .inl rfl|exact .inr rfl|assumption) :
  PS X (.Assign [.Name x pos'] e pos) (bi7 te (ad5 i)):=by
 intro pins s U H D I h
 refine wpAny_Assign_Name (thn (he pins s U H _ I h) λv s1 ⟨y,H1,I1,r1,q1⟩=>?_) hs
 exact G6 I1 hN hi hx r1 (λs2 I2=>⟨_,H1,I2,q1⟩) hf
end
structure It where
 go:Nat->Hp->Prop
 yld:Nat->Hp->V->Hp->Prop
 stop:Nat->Hp->Prop
noncomputable def Ci (X:Cx) (pins:List (Addr×Obj)) (H:Hp) (b:Addr):Prop:=
 H b=none/\b≠X.env.locals/\b∉X.fs/\(b∈X.ex\/X.s₀.heap.objs.size<=b)/\(∀ x c,X.env.cells.lookup x=some c->c≠b) /\ ∀ p∈X.pn++pins,p.1≠b
theorem Inv.fpOk {X:Cx} {pins:List (Addr×Obj)} {U:St} {H H':Hp} {s:aj} {b:Addr} (I:Inv X pins U H s) (hb:s.heap.objs.size<=b) (hn:H' b=none):Ci X pins H' b:=by
 refine⟨hn,f8 (aJ I.lt hb),I.nofs hb,.inr (aY I.sz hb),λx c e z=>?_,λp hp z=>?_⟩
 .obtain⟨v,q⟩:=I.cell x c e
  exact absurd (aJ q.lt (by rw[z];exact hb)) (fG _)
 .exact absurd (aJ (aA (I.pin p hp).1) (by rw[z];exact hb)) (fG _)
structure Lz (P:aS) (w:bz) (K:ac) (tg:Expr) (J:It) (fp:List Addr) (it:Addr) (tn:Nat->Heap->Prop):Prop where
 mem:it∈fp
 obj:∀ i h,tn i h -> ∀ b∈fp,∃ o,h.get? b=some o /\ ∀ v,o.data≠.cell v
 keep:∀ i h h',tn i h->(∀ b∈fp,∀ o,h.get? b=some o->h'.get? b=some o)->tn i h'
 item:∀ (X:Cx),X.prog=P->X.w=w->X.K=K->X.calm=true -> ∀ (i:Nat) (pins:List (Addr×Obj)) (s:aj) (U:St) (H:Hp) (E:Value->aj->Prop),Inv X pins U H s->(∀ b∈fp,Ci X pins H b)->tn i s.heap->J.go i H ->
  aN (model P w) X.A (iO (.ref it)) (λr s1=>∃ u,r=some u /\
   aN (model P w) X.A (iD tg (.ref it) u) (λ_ s2=>∃ x H',Inv X pins U H' s2/\RelV x u/\J.yld i H x H'/\tn (i+1) s2.heap /\ ∀ b∈fp,H' b=none) E s1) E s
 done:∀ (X:Cx),X.prog=P->X.w=w->X.K=K->X.calm=true -> ∀ (i:Nat) (pins:List (Addr×Obj)) (s:aj) (U:St) (H:Hp) (E:Value->aj->Prop),Inv X pins U H s->(∀ b∈fp,Ci X pins H b)->tn i s.heap->J.stop i H ->
  aN (model P w) X.A (iO (.ref it)) (λr s1=>r=none/\Inv X pins U H s1) E s
 self:∀ (A:bq) (i:Nat) (s:aj) (Q:Value->aj->Prop) (E:Value->aj->Prop),tn i s.heap->Q (.ref it) s->aN (model P w) A (mF (.ref it)) Q E s
abbrev TI:=St->Hp->(It->Hp->Prop)->Prop
noncomputable def PIE (X:Cx) (pins:List (Addr×Obj)) (U:St) (tg:Expr) (R:It->Hp->Prop) (itv:Value) (s2:aj):Prop:=
 ∃ (it:Addr) (fp:List Addr) (tn:Nat->Heap->Prop) (J:It) (H':Hp),itv=.ref it/\Inv X pins U H' s2/\Lz X.prog X.w X.K tg J fp it tn/\tn 0 s2.heap/\(∀ b∈fp,Ci X pins H' b)/\R J H'
noncomputable def PI (X:Cx) (tg iter:Expr) (wi:TI):Prop:=
 ∀ (pins:List (Addr×Obj)) (s:aj) (U:St) (H:Hp) (R:It->Hp->Prop),Inv X pins U H s->wi U H R ->
  aN (model X.prog X.w) X.A (eval iter X.env) (λv s1=>aN (model X.prog X.w) X.A (mF v) (PIE X pins U tg R) X.xe s1) X.xe s
theorem Km {M:mW} {A:bq} {E:Value->aj->Prop} {s:aj} {tg:Expr} {it:Addr} {u:Value} {o:Obj} {n:String} {vs:Array Value} {Q:Unit->aj->Prop} (ho:s.heap.get? it=some o) (hc:o.cls=.type n) (hd:o.data=.fields vs)
    (hn:["enumerate", "zip", "dict_itemiterator", "dict_reverseitemiterator", "odict_iterator", "itertools.zip_longest", "itertools.pairwise"].contains n=false) (hQ:Q () s):aN M A (iD tg (.ref it) u) Q E s:=by
  unfold iD
  cases tg <;> first
    |exact aq hQ
    | (cases u <;> first
        |exact aq hQ
        | (refine af (wpAny_load ho ?_)
           rw[hc,hd]
           show aN M A (if (["enumerate", "zip", "dict_itemiterator", "dict_reverseitemiterator", "odict_iterator", "itertools.zip_longest", "itertools.pairwise"].contains n&&vs[0]? == some (dX _))=true then _ else _) Q E s
           rw[if_neg (by intro h;rw[hn,kI] at h;cases h)]
           exact aq hQ))
noncomputable def Itl (K:ac) (a:Addr):It:=
 ⟨λi H=>∃ xs x,SqL K H a xs/\xs[i]? = some x,λi H x H'=>H'=H /\ ∀ xs,SqL K H a xs->xs[i]? = some x,λi H=>∃ xs,SqL K H a xs/\xs.length<=i⟩
noncomputable def Itt (K:ac) (a:Addr):It:=
 ⟨λi H=>∃ xs x,SqT K H a xs/\xs[i]? = some x,λi H x H'=>H'=H /\ ∀ xs,SqT K H a xs->xs[i]? = some x,λi H=>∃ xs,SqT K H a xs/\xs.length<=i⟩
def Itr (lo:Int) (n:Nat):It:=⟨λi _=>i<n,λi H x H'=>H'=H/\x=.int (lo+i),λi _=>n<=i⟩
theorem Zc {P:aS} {w:bz} {K:ac} {tg:Expr} (a it:Addr):Lz P w K tg (Itl K a) [it] it (λi h=>h.IsListIter it a i) where
 mem:=by simp
 obj:=λi h st b hb=>by
  have e:b=it:=by simpa using hb
  subst e
  obtain⟨o,e,c,d⟩:=st
  exact⟨o,e,λv z=>by rw[d] at z;cases z⟩
 keep:=λi h h' st k=>st.at λo e=>k it (by simp) o e
 item:=by
  intro X hP hw hK hc i pins s U H E I hf st hg
  subst hP hw hK
  obtain⟨xs,x,hq,hx⟩:=hg
  obtain⟨its,rv,p,hz⟩:=I.list hq
  obtain⟨u,hu,ru⟩:=rv.get hx
  obtain⟨f0,f1,f2,f3,f4,f5⟩:=hf it (by simp)
  refine wpAny_pyNext_list_item st p.isList (x:=u) (by simpa using hu) λh' st' sb=>?_
  have I1:Inv X pins U H { s with heap:=h' }:=I.turned (t':=s.toks) (λb o hb e=>(sb.2 b hb).trans e) f0 f1 f3 f4 f5
  obtain⟨o,e,c,d⟩:=id st'
  exact⟨u,rfl,Km (s:={ s with heap:=h' }) e c d (by decide) ⟨x,H,I1,ru,⟨rfl,λys hy=>by rw[I.list_inj hy hq];exact hx⟩,st',λb hb=>(hf b hb).1⟩⟩
 done:=by
  intro X hP hw hK hc i pins s U H E I hf st hg
  subst hP hw hK
  obtain⟨xs,hq,hx⟩:=hg
  obtain⟨its,rv,p,hz⟩:=I.list hq
  obtain⟨f0,f1,f2,f3,f4,f5⟩:=hf it (by simp)
  have hl:=rv.length
  exact wpAny_pyNext_list_end (I.ok.hd hc) st p.isList (by simp;omega) λh' eb=>⟨rfl,I.turned (t':=s.toks) (λb o hb e=>eb b o hb e) f0 f1 f3 f4 f5⟩
 self:=λ_ _ _ _ _ st h=>wpAny_pyIter_listiter st h
theorem Vt {P:aS} {w:bz} {K:ac} {tg:Expr} (a it:Addr):Lz P w K tg (Itt K a) [it] it (λi h=>h.IsTupleIter it a i) where
 mem:=by simp
 obj:=λi h st b hb=>by
  have e:b=it:=by simpa using hb
  subst e
  obtain⟨o,e,c,d⟩:=st
  exact⟨o,e,λv z=>by rw[d] at z;cases z⟩
 keep:=λi h h' st k=>st.at λo e=>k it (by simp) o e
 item:=by
  intro X hP hw hK hc i pins s U H E I hf st hg
  subst hP hw hK
  obtain⟨xs,x,hq,hx⟩:=hg
  obtain⟨its,rv,p,hz⟩:=I.tuple hq
  obtain⟨u,hu,ru⟩:=rv.get hx
  obtain⟨f0,f1,f2,f3,f4,f5⟩:=hf it (by simp)
  refine wpAny_pyNext_tuple_item st (show s.heap.IsTuple a its.toArray from p) (x:=u) (by simpa using hu) λh' st' sb=>?_
  have I1:Inv X pins U H { s with heap:=h' }:=I.turned (t':=s.toks) (λb o hb e=>(sb.2 b hb).trans e) f0 f1 f3 f4 f5
  obtain⟨o,e,c,d⟩:=id st'
  exact⟨u,rfl,Km (s:={ s with heap:=h' }) e c d (by decide) ⟨x,H,I1,ru,⟨rfl,λys hy=>by rw[I.tuple_inj hy hq];exact hx⟩,st',λb hb=>(hf b hb).1⟩⟩
 done:=by
  intro X hP hw hK hc i pins s U H E I hf st hg
  subst hP hw hK
  obtain⟨xs,hq,hx⟩:=hg
  obtain⟨its,rv,p,hz⟩:=I.tuple hq
  obtain⟨f0,f1,f2,f3,f4,f5⟩:=hf it (by simp)
  have hl:=rv.length
  exact wpAny_pyNext_tuple_end (I.ok.hd hc) st (show s.heap.IsTuple a its.toArray from p) (by simp;omega) λh' eb=>⟨rfl,I.turned (t':=s.toks) (λb o hb e=>eb b o hb e) f0 f1 f3 f4 f5⟩
 self:=λ_ _ _ _ _ st h=>wpAny_pyIter_tupleiter st h
theorem Vs {P:aS} {w:bz} {K:ac} {tg:Expr} (it:Addr) (lo:Int) (n:Nat):Lz P w K tg (Itr lo n) [it] it (λi h=>IsRangeIter h it (lo+(i:Nat) * 1) ((n:Int) - (i:Nat)) 1) where
 mem:=by simp
 obj:=λi h st b hb=>by
  have e:b=it:=by simpa using hb
  subst e
  exact⟨_,st,λv z=>by
   have z':Data.fields _=Data.cell v:=z
   cases z'⟩
 keep:=λi h h' st k=>k it (by simp) _ st
 item:=by
  intro X hP hw hK hc i pins s U H E I hf st hg
  subst hP hw hK
  obtain⟨f0,f1,f2,f3,f4,f5⟩:=hf it (by simp)
  have W:=Walks.range (prog:=X.prog) (w:=X.w) (I.ok.hd hc) it lo 1 n
  refine bG (ai _) (W.item i s _ _ hg st λv h' tk hv st' kk htk=>?_)
  obtain⟨t,rfl⟩:=hv
  have I1:Inv X pins U H { s with heap:=h',toks:=tk }:=I.turned (λb o hb e=>kk b o (by simpa using hb) e) f0 f1 f3 f4 f5
  refine⟨_,rfl,Km (s:={ s with heap:=h',toks:=tk }) (n := "range_iterator") st' rfl rfl (by decide) ⟨.int (lo+i),H,I1,⟨t,?_⟩,⟨rfl,rfl⟩,st',λb hb=>(hf b hb).1⟩⟩
  rw[Int.mul_one]
 done:=by
  intro X hP hw hK hc i pins s U H E I hf st hg
  subst hP hw hK
  obtain⟨f0,f1,f2,f3,f4,f5⟩:=hf it (by simp)
  exact wpAny_pyNext_range_end (I.ok.hd hc) st (by have:n<=i:=hg;omega) λh' eb=>⟨rfl,I.turned (t':=s.toks) (λb o hb e=>eb b o hb e) f0 f1 f3 f4 f5⟩
 self:=λ_ _ _ _ _ st h=>wpAny_pyIter_rangeiter st h
section
variable {X:Cx} {tg:Expr}
theorem Rv {pins:List (Addr×Obj)} {U:St} {H:Hp} {s:aj} {R:It->Hp->Prop} {E:Value->aj->Prop} {lo hi:Int} {t u v:Tok} {tk:Nat} (I:Inv X pins U H s) (htk:s.toks<=tk) (h1:-(2 ^ 62)<=lo) (h2:lo<2 ^ 62) (h3:-(2 ^ 62)<=hi) (h4:hi<2 ^ 62)
  (q:R (Itr lo (hi - lo).toNat) H):aN (model X.prog X.w) X.A (mF (.ref s.heap.objs.size)) (PIE X pins U tg R) E { s with heap:=s.heap.push { cls:=.type "range", data:=.fields #[.int lo t,.int hi u,.int 1 v] },toks:=tk }:=by
 refine wpAny_pyIter_range (IsRange.new ..) (small_one h1 h2 h3 h4) ?_
 have I1:Inv X pins U H { s with heap:=s.heap.push { cls:=.type "range", data:=.fields #[.int lo t,.int hi u,.int 1 v] },toks:=tk }:=I.kept λb o e=>ag _ e
 refine⟨(s.heap.push { cls:=.type "range", data:=.fields #[.int lo t,.int hi u,.int 1 v] }).objs.size,[(s.heap.push { cls:=.type "range", data:=.fields #[.int lo t,.int hi u,.int 1 v] }).objs.size],_,_,H,rfl,
  I1.kept (t':=tk) λb o e=>ag _ e,Vs _ lo (hi - lo).toNat,?_,λb hb=>?_,q⟩
 .have e1:lo+((0:Nat):Int) * 1=lo:=by simp
  have e2:(((hi - lo).toNat:Nat):Int) - ((0:Nat):Int)=Builtin.Range.rangeSize lo hi 1:=by rw[rangeSize_one];split <;> omega
  show IsRangeIter _ _ (lo+((0:Nat):Int) * 1) ((((hi - lo).toNat:Nat):Int) - ((0:Nat):Int)) 1
  rw[e1,e2]
  exact az _ rfl
 .have e:b=(s.heap.push { cls:=.type "range", data:=.fields #[.int lo t,.int hi u,.int 1 v] }).objs.size:=by simpa using hb
  subst e
  exact I1.fpOk (ai _) (I1.hok.fresh (ai _))
noncomputable def bz8 (wi:TI) (g:TG) (tb:TS):TS:=λD U H=>wi U H λJ H1=>∃ W:Nat->Nat->St->Hp->Prop,(∃ m,W 0 m U H1) /\ ∀ i m U H,W i m U H ->
 (J.stop i H/\D.nx U H)\/(J.go i H /\ ∃ N:St->Hp->Prop,(∀ U' H',N U' H' -> ∃ m',m'<m/\W (i+1) m' U' H') /\ ∀ x H',J.yld i H x H'->g x U H' λU2 H2=>tb { D with nx:=N,ct:=N,bk:=D.nx } U2 H2)
def Ib (fp:List Addr) (h:Heap):List (Addr×Obj):=fp.filterMap λb=>(h.get? b).map λo=>(b,o)
theorem Ek {fp:List Addr} {h:Heap} {b:Addr} {o:Obj} (hb:b∈fp) (e:h.get? b=some o):(b,o)∈Ib fp h:=List.mem_filterMap.mpr ⟨b,hb,by rw[e];rfl⟩
theorem Yk {fp:List Addr} {h:Heap} {p:Addr×Obj} (hp:p∈Ib fp h):p.1∈fp/\h.get? p.1=some p.2:=by
 obtain⟨b,hb,e⟩:=List.mem_filterMap.mp hp
 cases q:h.get? b with
 |none=>rw[q] at e;cases e
 |some o=>
  rw[q] at e
  have e':(b,o)=p:=aD e
  subst e'
  exact⟨hb,q⟩
theorem Inv.pinned {pins:List (Addr×Obj)} {U:St} {H:Hp} {s:aj} {fp:List Addr} (I:Inv X pins U H s) (hf:∀ b∈fp,Ci X pins H b) (ho:∀ b∈fp,∃ o,s.heap.get? b=some o /\ ∀ v,o.data≠.cell v):Inv X (pins++Ib fp s.heap) U H s:=
 I.pins_of λp hp=>(List.mem_append.mp hp).elim (λz=>I.pin p (aP _ z)) λz=>by
  obtain⟨hb,e⟩:=Yk z
  obtain⟨f0,f1,f2,_⟩:=hf p.1 hb
  obtain⟨o,e',d⟩:=ho p.1 hb
  rw[e] at e';cases e'
  exact⟨e,f0,f1,f2,d⟩
theorem Inv.unpinned {pins pl:List (Addr×Obj)} {U:St} {H:Hp} {s:aj} (I:Inv X (pins++pl) U H s):Inv X pins U H s:=I.pins_of λp hp=>I.pin p (aP _ (bW _ hp))
theorem be9 {iter:Expr} {body:List Stmt} {wi:TI} {g:TG} {tb:TS} {pos:Pos} (hp:gw (model X.prog X.w) X.A X.env X.xe) (hc:X.calm=true) (hi:PI X tg iter wi) (hg:PG X tg g) (hb:PSs X body tb)
  (hs:∀ x,fH iter X.env x=pure x:=by intro _;rfl):PS X (.For tg iter body [] pos) (bz8 wi g tb):=by
 intro pins s U H D I h
 refine wpAny_For (thn (hi pins s U H _ I h) λv s1 h1=>thn h1 λitv s2 h2=>?_) hs
 obtain⟨it,fp,tn,J,H2,e,I2,T,st2,f2,W,⟨m0,w0⟩,turn⟩:=h2
 subst e
 have stat:∀ {H':Hp},(∀ b∈fp,H' b=none) -> ∀ b∈fp,Ci X pins H' b:=λhn b hb=>⟨hn b hb,(f2 b hb).2⟩
 refine codeAny_forLoop_any (λn s'=>∃ i U' H',Inv X pins U' H' s'/\tn i s'.heap/\(∀ b∈fp,H' b=none)/\W i n U' H') ?_ m0 ⟨0,U,H2,I2,st2,λb hb=>(f2 b hb).1,w0⟩
 rintro n s3 ⟨i,U3,H3,I3,st3,fr3,w3⟩
 rcases turn i n U3 H3 w3 with ⟨stop,qn⟩|⟨go,N,hN,step⟩
 .refine gH hp (thn (T.done X rfl rfl rfl hc i pins s3 U3 H3 X.xe I3 (stat fr3) st3 stop) λr s4 ⟨hr,I4⟩=>?_)
  subst hr
  exact ke ⟨U3,H3,I4,qn⟩
 .refine gH hp (thn (T.item X rfl rfl rfl hc i pins s3 U3 H3 X.xe I3 (stat fr3) st3 go) λr s4 ⟨u,hr,h4⟩=>?_)
  subst hr
  refine gH hp (thn h4 λ_ s5 ⟨x,H5,I5,r5,y5,st5,fr5⟩=>?_)
  have I5':=I5.pinned (stat fr5) (T.obj _ _ st5)
  refine gH hp (thn (hg _ s5 U3 H5 x u _ I5' r5 (step x H5 y5)) λ_ s6 ⟨U6,H6,I6,q6⟩=>?_)
  refine gH hp (thn (hb _ s6 U6 H6 _ I6 q6) λf s7 q7=>?_)
  have again:∀ {U7:St} {H7:Hp},Inv X (pins++Ib fp s5.heap) U7 H7 s7->N U7 H7 -> ∃ m,m<n /\ ∃ i U' H',Inv X pins U' H' s7/\tn i s7.heap/\(∀ b∈fp,H' b=none)/\W i m U' H':=λ{U7 H7} I7 n7=>by
   obtain⟨m',hm,w7⟩:=hN U7 H7 n7
   refine⟨m',hm,i+1,U7,H7,I7.unpinned,T.keep _ _ _ st5 λb hb o e=>(I7.pin (b,o) (aP _ (aP _ (Ek hb e)))).1,λb hb=>?_,w7⟩
   obtain⟨o,e,d⟩:=T.obj _ _ st5 b hb
   exact (I7.pin (b,o) (aP _ (aP _ (Ek hb e)))).2.1
  cases f with
  |next=>obtain⟨U7,H7,I7,n7⟩:=q7;exact again I7 n7
  |cont=>obtain⟨U7,H7,I7,n7⟩:=q7;exact again I7 n7
  |brk=>obtain⟨U7,H7,I7,q7⟩:=q7;exact⟨U7,H7,I7.unpinned,q7⟩
  |ret v=>obtain⟨x7,U7,H7,I7,r7,q7⟩:=q7;exact⟨x7,U7,H7,I7.unpinned,r7,q7⟩
end
abbrev R2:=V->V->Hp->VK->Prop
noncomputable def OpR (X:Cx) (f:Value->Value->Sem Value) (r:R2):Prop:=
 ∀ (pins:List (Addr×Obj)) (s:aj) (U:St) (H:Hp) (x y:V) (v u:Value) (Q:VK),Inv X pins U H s->RelV x v->RelV y u->r x y H Q ->
  aN (model X.prog X.w) X.A (f v u) (EP X pins U Q) X.xe s
noncomputable def UnR (X:Cx) (f:Value->Sem Value) (r:V->Hp->VK->Prop):Prop:=
 ∀ (pins:List (Addr×Obj)) (s:aj) (U:St) (H:Hp) (x:V) (v:Value) (Q:VK),Inv X pins U H s->RelV x v->r x H Q ->
  aN (model X.prog X.w) X.A (f v) (EP X pins U Q) X.xe s
noncomputable def B6 (X:Cx) (f:Value) (r:List V->Hp->VK->Prop):Prop:=
 ∀ (pins:List (Addr×Obj)) (s:aj) (U:St) (H:Hp) (xs:List V) (us:List Value) (Q:VK),Inv X pins U H s->Vals xs us->r xs H Q ->
  aN (model X.prog X.w) X.A (call f us) (EP X pins U Q) X.xe s
noncomputable def bk6 (X:Cx) (r:V->Hp->(Bool->Hp->Prop)->Prop):Prop:=
 ∀ (pins:List (Addr×Obj)) (s:aj) (U:St) (H:Hp) (x:V) (v:Value) (Q:Bool->Hp->Prop),Inv X pins U H s->RelV x v->r x H Q ->
  aN (model X.prog X.w) X.A (truthy v) (TP X pins U Q) X.xe s
def tOp (r:R2) (ta tb:TE):TE:=λU H Q=>ta U H λx H1=>tb U H1 λy H2=>r x y H2 Q
def tUn (r:V->Hp->VK->Prop) (ta:TE):TE:=λU H Q=>ta U H λx H1=>r x H1 Q
def rI (C:Int->Int->Prop) (g:Int->Int->V):R2:=λx y H Q=>∃ i j,x=.int i/\y=.int j/\C i j/\Q (g i j) H
def rI0 (g:Int->Int->V):R2:=λx y H Q=>∃ i j,x=.int i/\y=.int j/\Q (g i j) H
def rU (g:Int->V):V->Hp->VK->Prop:=λx H Q=>∃ i,x=.int i/\Q (g i) H
section
variable {X:Cx} {a b c:Expr} {ta tb tc:TE} {pos:Pos}
theorem a54 (ha:PE X a ta) (hb:PE X b tb) {pins:List (Addr×Obj)} {s:aj} {U:St} {H:Hp} {R:V->V->Hp->Prop} (I:Inv X pins U H s)
  (h:ta U H λx H1=>tb U H1 λy H2=>R x y H2) {Q:Value->aj->Prop} {f:Value->Value->Sem Value}
  (hf:∀ v u s2 x y H2,Inv X pins U H2 s2->RelV x v->RelV y u->R x y H2->aN (model X.prog X.w) X.A (f v u) Q X.xe s2) :
  aN (model X.prog X.w) X.A (eval a X.env) (λv s₁=>aN (model X.prog X.w) X.A (eval b X.env) (λu s₂=>aN (model X.prog X.w) X.A (f v u) Q X.xe s₂) X.xe s₁) X.xe s:=by
 refine thn (ha pins s U H _ I h) λv s1 ⟨x,H1,I1,r1,q1⟩=>?_
 refine thn (hb pins s1 U H1 _ I1 q1) λu s2 ⟨y,H2,I2,r2,q2⟩=>?_
 exact hf v u s2 x y H2 I2 r1 r2 q2
theorem br4 {op:mL} {r:R2} (ho:OpR X (dL op) r) (ha:PE X a ta) (hb:PE X b tb):PE X (.BinOp a op b pos) (tOp r ta tb):=by
 intro pins s U H Q I h
 exact wpAny_BinOp (a54 ha hb I h λv u s2 x y H2 I2 rx ry q=>ho pins s2 U H2 x y v u Q I2 rx ry q)
theorem a22 {op:UnaryOp} {r:V->Hp->VK->Prop} (ho:UnR X (mU op) r) (ha:PE X a ta):PE X (.UnaryOp op a pos) (tUn r ta):=by
 intro pins s U H Q I h
 exact UnaryOp_ (thn (ha pins s U H _ I h) λv s1 ⟨x,H1,I1,r1,q1⟩=>ho pins s1 U H1 x v Q I1 r1 q1)
theorem opI {f:Value->Value->Sem Value} {C:Int->Int->Prop} {g:Int->Int->Int}
  (rule:∀ (i j:Int) (t u:Tok) (s:aj) (Q:Value->aj->Prop) (E:Value->aj->Prop),C i j->Q (.int (g i j) s.toks) { s with toks:=s.toks+1 }->aN (model X.prog X.w) X.A (f (.int i t) (.int j u)) Q E s) :
  OpR X f (rI C λi j=>.int (g i j)):=by
 intro pins s U H x y v u Q I rx ry h
 obtain⟨i,j,rfl,rfl,hc,q⟩:=h
 obtain⟨t,rfl⟩:=rx
 obtain⟨t',rfl⟩:=ry
 exact rule i j t t' s _ _ hc ⟨.int (g i j),H,I.tok _,⟨_,rfl⟩,q⟩
theorem ah3 {f:Value->Value->Sem Value} {g:Int->Int->Int}
  (rule:∀ (i j:Int) (t u:Tok) (s:aj) (Q:Value->aj->Prop) (E:Value->aj->Prop),Q (.int (g i j) s.toks) { s with toks:=s.toks+1 }->aN (model X.prog X.w) X.A (f (.int i t) (.int j u)) Q E s) :
  OpR X f (rI0 λi j=>.int (g i j)):=by
 intro pins s U H x y v u Q I rx ry h
 obtain⟨i,j,rfl,rfl,q⟩:=h
 obtain⟨t,rfl⟩:=rx
 obtain⟨t',rfl⟩:=ry
 exact rule i j t t' s _ _ ⟨.int (g i j),H,I.tok _,⟨_,rfl⟩,q⟩
theorem au5 {f:Value->Value->Sem Value} {g:Int->Int->Bool}
  (rule:∀ (i j:Int) (t u:Tok) (s:aj) (Q:Value->aj->Prop) (E:Value->aj->Prop),Q (.bool (g i j)) s->aN (model X.prog X.w) X.A (f (.int i t) (.int j u)) Q E s) :
  OpR X f (rI0 λi j=>.bl (g i j)):=by
 intro pins s U H x y v u Q I rx ry h
 obtain⟨i,j,rfl,rfl,q⟩:=h
 obtain⟨t,rfl⟩:=rx
 obtain⟨t',rfl⟩:=ry
 exact rule i j t t' s _ _ ⟨.bl (g i j),H,I,rfl,q⟩
def bk0 (i j:Int):Prop:=0<j/\j<1073741824
def ap8 (i j:Int):Prop:=0<=j/\j<=1000000/\i.natAbs<2 ^ 64
def CMul (i j:Int):Prop:=(-(2 ^ 64)<i/\i<2 ^ 64)\/(-(2 ^ 64)<j/\j<2 ^ 64)
theorem CMul.ok {i j:Int} (h:CMul i j):IntMulOk i j:=by
 rcases h with ⟨h1,h2⟩|⟨h1,h2⟩
 .exact .of_left (intBits_le_64 h1 h2)
 .exact .of_right (intBits_le_64 h1 h2)
theorem Vu (k:Nat):(0:Int)<=2 ^ k:=by
 rw[two_pow_cast]
 exact Int.natCast_nonneg _
theorem bc5:OpR X (dL .Add) (rI0 λi j=>.int (i+j)):=ah3 λ_ _ _ _ _ _ _ q=>add_int q
theorem bd7:OpR X (dL .Sub) (rI0 λi j=>.int (i - j)):=ah3 λ_ _ _ _ _ _ _ q=>sub_int q
theorem bd1:OpR X (dL .Mult) (rI CMul λi j=>.int (i * j)):=opI λ_ _ _ _ _ _ _ hc q=>mul_int q hc.ok
theorem au7:OpR X (dL .FloorDiv) (rI bk0 λi j=>.int (i / j)):=opI λi j _ _ _ _ _ hc q=>by
 have h1:(0:Int)<j:=hc.1
 have h2:j<1073741824:=hc.2
 exact floordiv_int (by omega) (by rw[iH i (by omega)];exact q) (.inl (PyProof.noPylong_small (by omega)))
theorem bd0:OpR X (dL .Mod) (rI (λ_ j=>0<j) λi j=>.int (i % j)):=opI λi j _ _ _ _ _ hc q=>by
 have h1:(0:Int)<j:=hc
 exact mod_int' (by omega) (by rw[Int.fmod_eq_emod_of_nonneg i (by omega)];exact q)
theorem bd4:OpR X (dL .Pow) (rI ap8 λi j=>.int (i ^ j.toNat)):=opI λ_ _ _ _ _ _ _ hc q=>pow_int_small hc.1 hc.2.1 hc.2.2 q
theorem bd5:OpR X (dL .LShift) (rI ap8 λi j=>.int (i * 2 ^ j.toNat)):=opI λ_ _ _ _ _ _ _ hc q=>lshift_int_small hc.1 hc.2.1 hc.2.2 q
theorem bd6:OpR X (dL .RShift) (rI (λ_ j=>0<=j) λi j=>.int (i / 2 ^ j.toNat)):=opI λi j _ _ _ _ _ hc q=>
 rshift_int hc (by rw[iH i (Vu _)];exact q)
theorem bc6:OpR X (dL .BitAnd) (rI0 λi j=>.int (b9 i j)):=ah3 λ_ _ _ _ _ _ _ q=>and_int q
theorem br0:OpR X (dL .BitOr) (rI0 λi j=>.int (cU i j)):=ah3 λ_ _ _ _ _ _ _ q=>or_int q
theorem bd8:OpR X (dL .BitXor) (rI0 λi j=>.int (Builtin.bitXor i j)):=ah3 λ_ _ _ _ _ _ _ q=>xor_int q
theorem unI {f:Value->Sem Value} {g:Int->Int}
  (rule:∀ (i:Int) (t:Tok) (s:aj) (Q:Value->aj->Prop) (E:Value->aj->Prop),Q (.int (g i) s.toks) { s with toks:=s.toks+1 }->aN (model X.prog X.w) X.A (f (.int i t)) Q E s) :
  UnR X f (rU λi=>.int (g i)):=by
 intro pins s U H x v Q I rx h
 obtain⟨i,rfl,q⟩:=h
 obtain⟨t,rfl⟩:=rx
 exact rule i t s _ _ ⟨.int (g i),H,I.tok _,⟨_,rfl⟩,q⟩
theorem bj3:UnR X (mU .USub) (rU λi=>.int (-i)):=unI λ_ _ _ _ _ q=>neg_int q
theorem bj2:UnR X (mU .Invert) (rU λi=>.int (bI i)):=unI λ_ _ _ _ _ q=>invert_int q
end
noncomputable def bi5:V->V->Bool
 |.non,.non=>true | .non,.int _=>true | .int _,.non=>true | .non,.bl _=>true | .bl _,.non=>true | .non,.str _=>true | .str _,.non=>true
 |.int _,.int _=>true | .bl _,.bl _=>true | .str _,.str _=>true | .byt _,.byt _=>true
 |.int _,.str _=>true | .str _,.int _=>true | .bl _,.str _=>true | .str _,.bl _=>true
 |_,_=>false
noncomputable def rEq:R2:=λx y H Q=>bi5 x y=true/\Q (.bl (decide (x=y))) H
noncomputable def rNe:R2:=λx y H Q=>bi5 x y=true/\Q (.bl (!decide (x=y))) H
theorem Jo {i j:Int}:decide (V.int i=V.int j)=(i==j):=by
 rw[bX]
 simp
theorem Oi {i j:Bool}:decide (V.bl i=V.bl j)=(i==j):=by
 rw[bX]
 simp
theorem Jp {i j:Str}:decide (V.str i=V.str j)=(i==j):=by
 rw[bX]
 simp
theorem Wh {i j:Array UInt8}:decide (V.byt i=V.byt j)=(i.toList==j.toList):=by
 rw[bX]
 cases i
 cases j
 simp
section
variable {X:Cx} {a b c:Expr} {ta tb tc:TE} {pos:Pos}
theorem Av {pins:List (Addr×Obj)} {U:St} {H:Hp} {s:aj} {Q:VK} {k k':Bool} (I:Inv X pins U H s) (q:Q (.bl k) H) (e:k=k'):EP X pins U Q (.bool k') s:=by
 subst e
 exact⟨.bl k,H,I,rfl,q⟩
theorem Wt:OpR X (cB .Eq) rEq:=by
 intro pins s U H x y v u Q I rx ry h
 obtain⟨hs,q⟩:=h
 cases x with
 |non=>
  cases rx
  cases y with
  |non=>cases ry;exact PySem.EqNone.eq_none_none (Av I q (by simp))
  |bl j=>cases ry;exact PySem.EqNone.eq_none_bool (Av I q (by simp))
  |int j=>obtain⟨t',rfl⟩:=ry;exact PySem.EqNone.eq_none_int (Av I q (by simp))
  |str j=>obtain⟨t',rfl⟩:=ry;exact PySem.EqNone.eq_none_str (Av I q (by simp))
  |_=>exact absurd (show false=true from hs) au
 |bl i=>
  cases rx
  cases y with
  |non=>cases ry;exact PySem.EqNone.eq_bool_none (Av I q (by simp))
  |bl j=>cases ry;exact eq_bool (Av I q Oi)
  |str j=>obtain⟨t',rfl⟩:=ry;exact PySem.EqMixed.eq_bool_str (Av I q (by simp))
  |_=>exact absurd (show false=true from hs) au
 |int i=>
  obtain⟨t,rfl⟩:=rx
  cases y with
  |non=>cases ry;exact PySem.EqNone.eq_int_none (Av I q (by simp))
  |int j=>obtain⟨t',rfl⟩:=ry;exact eq_int (Av I q Jo)
  |str j=>obtain⟨t',rfl⟩:=ry;exact PySem.EqMixed.eq_int_str (Av I q (by simp))
  |_=>exact absurd (show false=true from hs) au
 |str i=>
  obtain⟨t,rfl⟩:=rx
  cases y with
  |non=>cases ry;exact PySem.EqNone.eq_str_none (Av I q (by simp))
  |bl j=>cases ry;exact PySem.EqMixed.eq_str_bool (Av I q (by simp))
  |int j=>obtain⟨t',rfl⟩:=ry;exact PySem.EqMixed.eq_str_int (Av I q (by simp))
  |str j=>obtain⟨t',rfl⟩:=ry;exact eq_str (Av I q Jp)
  |_=>exact absurd (show false=true from hs) au
 |byt i=>
  obtain⟨t,rfl⟩:=rx
  cases y with
  |byt j=>obtain⟨t',rfl⟩:=ry;exact PySem.W.eq_bytes (Av I q Wh)
  |_=>exact absurd (show false=true from hs) au
 |_=>cases y <;> exact absurd (show false=true from hs) au
theorem Wu:OpR X (cB .NotEq) rNe:=by
 intro pins s U H x y v u Q I rx ry h
 obtain⟨hs,q⟩:=h
 cases x with
 |non=>
  cases rx
  cases y with
  |non=>cases ry;exact PySem.EqNone.ne_none_none (Av I q (by simp))
  |bl j=>cases ry;exact PySem.EqNone.ne_none_bool (Av I q (by simp))
  |int j=>obtain⟨t',rfl⟩:=ry;exact PySem.EqNone.ne_none_int (Av I q (by simp))
  |str j=>obtain⟨t',rfl⟩:=ry;exact PySem.EqNone.ne_none_str (Av I q (by simp))
  |_=>exact absurd (show false=true from hs) au
 |bl i=>
  cases rx
  cases y with
  |non=>cases ry;exact PySem.EqNone.ne_bool_none (Av I q (by simp))
  |bl j=>cases ry;exact ne_bool (Av I q (congrArg not Oi))
  |str j=>obtain⟨t',rfl⟩:=ry;exact PySem.EqMixed.ne_bool_str (Av I q (by simp))
  |_=>exact absurd (show false=true from hs) au
 |int i=>
  obtain⟨t,rfl⟩:=rx
  cases y with
  |non=>cases ry;exact PySem.EqNone.ne_int_none (Av I q (by simp))
  |int j=>obtain⟨t',rfl⟩:=ry;exact ne_int (Av I q (congrArg not Jo))
  |str j=>obtain⟨t',rfl⟩:=ry;exact PySem.EqMixed.ne_int_str (Av I q (by simp))
  |_=>exact absurd (show false=true from hs) au
 |str i=>
  obtain⟨t,rfl⟩:=rx
  cases y with
  |non=>cases ry;exact PySem.EqNone.ne_str_none (Av I q (by simp))
  |bl j=>cases ry;exact PySem.EqMixed.ne_str_bool (Av I q (by simp))
  |int j=>obtain⟨t',rfl⟩:=ry;exact PySem.EqMixed.ne_str_int (Av I q (by simp))
  |str j=>obtain⟨t',rfl⟩:=ry;exact ne_str (Av I q (congrArg not Jp))
  |_=>exact absurd (show false=true from hs) au
 |byt i=>
  obtain⟨t,rfl⟩:=rx
  cases y with
  |byt j=>obtain⟨t',rfl⟩:=ry;exact PySem.W.ne_bytes (Av I q (congrArg not Wh))
  |_=>exact absurd (show false=true from hs) au
 |_=>cases y <;> exact absurd (show false=true from hs) au
theorem bq9:OpR X (cB .Lt) (rI0 λi j=>.bl (decide (i<j))):=au5 λ_ _ _ _ _ _ _ q=>lt_int q
theorem bq8:OpR X (cB .LtE) (rI0 λi j=>.bl (decide (i<=j))):=au5 λ_ _ _ _ _ _ _ q=>le_int q
theorem bq7:OpR X (cB .Gt) (rI0 λi j=>.bl (decide (j<i))):=au5 λ_ _ _ _ _ _ _ q=>gt_int q
theorem bq6:OpR X (cB .GtE) (rI0 λi j=>.bl (decide (j<=i))):=au5 λ_ _ _ _ _ _ _ q=>ge_int q
theorem Yn:OpR X (cB .Lt) (λx y H Q=>∃ i j,x=.str i/\y=.str j/\Q (.bl (decide (i.cps.toList<j.cps.toList))) H):=by
 intro pins s U H x y v u Q I rx ry h
 obtain⟨i,j,rfl,rfl,q⟩:=h
 obtain⟨t,rfl⟩:=rx
 obtain⟨t',rfl⟩:=ry
 exact lt_str (Av I q rfl)
theorem bc9:OpR X (cB .Is) (λx y H Q=>y=.non/\Q (.bl (decide (x=.non))) H):=by
 intro pins s U H x y v u Q I rx ry h
 obtain⟨rfl,q⟩:=h
 cases ry
 refine is_none_gen (Av I q ?_)
 cases x <;> first
  |(cases rx;rfl)
  |(obtain⟨t,rfl⟩:=rx;rfl)
  |(obtain⟨t,rfl,_⟩:=rx;rfl)
theorem au9:OpR X (cB .IsNot) (λx y H Q=>y=.non/\Q (.bl (!decide (x=.non))) H):=by
 intro pins s U H x y v u Q I rx ry h
 obtain⟨rfl,q⟩:=h
 cases ry
 refine isnot_none_gen (Av I q ?_)
 cases x <;> first
  |(cases rx;rfl)
  |(obtain⟨t,rfl⟩:=rx;rfl)
  |(obtain⟨t,rfl,_⟩:=rx;rfl)
theorem OpR.or {f:Value->Value->Sem Value} {r r':R2} (h:OpR X f r) (h':OpR X f r'):OpR X f (λx y H Q=>r x y H Q\/r' x y H Q):=by
 intro pins s U H x y v u Q I rx ry q
 rcases q with q|q
 .exact h pins s U H x y v u Q I rx ry q
 .exact h' pins s U H x y v u Q I rx ry q
theorem av3 {op:mK} {r:R2} (ho:OpR X (cB op) r) (ha:PE X a ta) (hb:PE X b tb) (hm:jx op b=false):PE X (.Compare a [op] [b] pos) (tOp r ta tb):=by
 intro pins s U H Q I h
 exact wpAny_Compare1 (a54 ha hb I h λv u s2 x y H2 I2 rx ry q=>ho pins s2 U H2 x y v u Q I2 rx ry q) hm
noncomputable def bk7 (K:ac) (x:V) (H:Hp) (k:Bool):Prop:=
 match x with
 |.non=>k=false
 |.bl b=>k=b
 |.int i=>k=(i != 0)
 |.str y=>y.length<=sizeLine/\k=((y.length:Int) != 0)
 |.byt y=>y.size<=sizeLine/\k=((y.size:Int) != 0)
 |.ref p=>(∃ xs,SqL K H p xs/\k = !xs.isEmpty)\/(∃ xs,SqT K H p xs/\k = !xs.isEmpty) \/ ∃ kvs,H p=some (.dK kvs)/\k = !kvs.isEmpty
 |_=>False
theorem Tv {κ:Type} {kvs:List (κ×V)} {vs:List (κ×Value)} (r:KV kvs vs):(!vs.isEmpty) = !kvs.isEmpty:=by
 cases r <;> rfl
theorem Kr {xs:List V} {its:List Value} (r:Vals xs its):(!its.toArray.isEmpty) = !xs.isEmpty:=by
 cases r <;> simp
theorem Hu:(sizeLine:Nat)<2 ^ 63:=by rw[bA];decide
theorem Lu:bk6 X (λx H Q=>∃ k,bk7 X.K x H k/\Q k H):=by
 intro pins s U H x v Q I rx h
 obtain⟨k,e,q⟩:=h
 have hl:=Hu
 have hs:sizeLine=16777216:=bA
 cases x with
 |non=>
  cases rx
  have e':k=false:=e
  subst e'
  exact truthy_none ⟨H,I,q⟩
 |bl b=>
  cases rx
  have e':k=b:=e
  subst e'
  exact eC ⟨H,I,q⟩
 |int i=>
  obtain⟨t,rfl⟩:=rx
  have e':k=(i != 0):=e
  subst e'
  exact PySem.P.truthy_int ⟨H,I,q⟩
 |str y=>
  obtain⟨t,rfl⟩:=rx
  obtain⟨hy,e'⟩:y.length<=sizeLine/\k=((y.length:Int) != 0):=e
  subst e'
  exact PySem.P.truthy_str (by omega) ⟨H,I.tok _,q⟩
 |byt y=>
  obtain⟨t,rfl⟩:=rx
  obtain⟨hy,e'⟩:y.size<=sizeLine/\k=((y.size:Int) != 0):=e
  subst e'
  exact PySem.W.truthy_bytes (by omega) ⟨H,I.tok _,q⟩
 |ref p=>
  cases rx
  have e':(∃ xs,SqL X.K H p xs/\k = !xs.isEmpty)\/(∃ xs,SqT X.K H p xs/\k = !xs.isEmpty) \/ ∃ kvs,H p=some (.dK kvs)/\k = !kvs.isEmpty:=e
  rcases e' with ⟨xs,hx,e'⟩|⟨xs,hx,e'⟩|⟨kvs,hx,e'⟩
  .subst e'
   obtain⟨its,r,pl,hz⟩:=I.list hx
   have hlen:=r.length
   exact wpAny_truthy_list pl.isList (by simp only[av];omega) ⟨H,I.tok _,by rw[Kr r];exact q⟩
  .subst e'
   obtain⟨its,r,pl,hz⟩:=I.tuple hx
   have hlen:=r.length
   exact truthy_tuple pl (by simp only[av];omega) ⟨H,I.tok _,by rw[Kr r];exact q⟩
  .subst e'
   obtain⟨hz,hS,vs,r,m⟩:kvs.length<=sizeLine/\(p==c8)=false /\ ∃ vs,KV kvs vs/\s.heap.DictOf (Bh X.prog X.w) p vs:=I.hok p _ hx
   have hlen:kvs.length=vs.length:=jr r
   exact wpAny_truthy_dict hS m (by omega) ⟨H,I.tok _,by rw[Tv r];exact q⟩
 |_=>exact (show False from e).elim
theorem Ui:OpR X (dL .Add) (λx y H Q=>∃ i j,x=.str i/\y=.str j/\i.length+j.length<=sizeLine/\Q (.str (i++j)) H):=by
 intro pins s U H x y v u Q I rx ry h
 obtain⟨i,j,rfl,rfl,hz,q⟩:=h
 obtain⟨t,rfl⟩:=rx
 obtain⟨t',rfl⟩:=ry
 exact bG (ai _) (add_str (λt' tk htk=>⟨.str (i++j),H,I.tok _ htk,⟨_,rfl⟩,q⟩) hz)
theorem Dl {x:V} {us:List Value} (r:Vals [x] us):∃ u,us=[u]/\RelV x u:=by
 cases r with
 |cons r1 r2=>cases r2;exact⟨_,rfl,r1⟩
theorem bx4 {x y:V} {us:List Value} (r:Vals [x,y] us):∃ u w',us=[u,w']/\RelV x u/\RelV y w':=by
 cases r with
 |cons r1 r2=>
  cases r2 with
  |cons r3 r4=>cases r4;exact⟨_,_,rfl,r1,r3⟩
theorem M4:B6 X (.type "int") (λxs H Q=>(∃ i,xs=[.int i]/\Q (.int i) H) \/ ∃ k,xs=[.bl k]/\Q (.int (if k then 1 else 0)) H):=by
 intro pins s U H xs us Q I r h
 rcases h with ⟨i,rfl,q⟩|⟨k,rfl,q⟩
 .obtain⟨u,rfl,t,rfl⟩:=Dl r
  exact call_int_int ⟨.int i,H,I,⟨_,rfl⟩,q⟩
 .obtain⟨u,rfl,r1⟩:=Dl r
  cases r1
  exact call_int_bool ⟨.int (if k then 1 else 0),H,I.tok _,⟨_,rfl⟩,q⟩
end
structure ObjM (h:Heap) (x dx C:Addr) (mA:Str->Option Value):Prop where
 obj:h.get? x=some (dH C dx)
 ns:h.Ns1 dx mA
 ne:dx≠x
theorem Hv {h:Heap} {dx:Addr} {mA:Str->Option Value} (n:h.Ns1 dx mA):∃ od,h.get? dx=some od /\ ∀ name,iT name od=some (mA name):=by
 obtain⟨o,es,ep,ho,hd,hk,_,hm⟩:=n
 refine⟨o,ho,λname=>?_⟩
 have e:=hm name
 unfold nsFind findBy at e
 rw[<- Array.find?_toList] at e
 unfold iT
 rw[hd]
 dsimp only
 split
 .rename_i y q
  rw[q] at e
  exact congrArg some e
 .rename_i q
  rw[q] at e
  have a:es.toList.any (·.refKey)=false:=by
   rw[i4]
   intro y hy
   obtain⟨z,t,hkey⟩:=hk y (Array.mem_toList_iff.mp hy)
   simp[DictEntry.refKey,hkey]
  have a':¬ es.toList.any (·.refKey)=true:=by rw[a];exact au
  rw[if_neg a']
  exact congrArg some e
theorem ObjM.look {h:Heap} {x dx C:Addr} {mA:Str->Option Value} (I:ObjM h x dx C mA):∃ od,fQ h x (dH C dx) C (some od) /\ ∀ name,iT name od=some (mA name):=
 let ⟨od,ho,hl⟩:=Hv I.ns
 ⟨od,⟨I.obj,rfl,rfl,ho⟩,hl⟩
section
variable {prog:aS} {w:bz} {A:bq} {E:Value->aj->Prop} {s:aj} {K:ac} {x dx C f:Addr} {mA:Str->Option Value} {name:Str} {v:Value}
theorem Am {expr:Bool} {Q:Value->aj->Prop} (X:K.In s.heap) (I:ObjM s.heap x dx C mA) (hg:fU K C name=true) (hh:gT K C=true)
  (ha:bh K (.ref C) name=some none) (hv:mA name=some v) (hv':hX v=true) (h:Q v { s with toks:=s.toks+1 }) :
  aN (model prog w) A (lL (.ref x) name expr) Q E s:=by
 obtain⟨od,J,hl⟩:=I.look
 exact PySem.W.get_value X J (iA hg).1 (kU hh ha rfl (by rw[hl,hv])) hv' h
theorem ad7 {pl:Sem Bool} {Q:Value×List Value->aj->Prop} (X:K.In s.heap) (I:ObjM s.heap x dx C mA) (hg:fU K C name=true)
  (hf:bh K (.ref C) name=some (some (.ref f))) (ht:cP K (.ref f)=true) (hv:mA name=none) (h:Q (.ref f,[.ref x]) s) :
  aN (model prog w) A (getMethod (.ref x) name pl) Q E s:=by
 obtain⟨od,J,hl⟩:=I.look
 exact PySem.W.method_fn X J (iA hg).1 (iA hg).2 hf (beq_iff_eq.mp ht) (by show (iT name od).map (·.isSome)=some false;rw[hl,hv];rfl) h
theorem ay9 {ns:List Str} {Q:Unit->aj->Prop} (X:K.In s.heap) (I:ObjM s.heap x dx C mA)
  (hs:bh K (.ref C) "__setattr__" = some (some (.builtin "object.__setattr__"))) (hp:jc K C=true) (ht:j6 K C name=some none) (hh:gT K C=true)
  (hw:eG mA ns) (hsz:ns.length<=sizeLine)
  (h:∀ h',ObjM h' x dx C (λy=>if y=name then some v else mA y)->bn dx s.heap h'->Q () { s with heap:=h',toks:=s.toks+2 }) :
  aN (model prog w) A (mG (.ref x) name v) Q E s:=by
 obtain⟨od,J,hl⟩:=I.look
 refine PySem.W.set_plain X J hs (PySem.W.osa_open (s:={ s with toks:=s.toks+1 }) (r:=none) X J hp ht λb=>?_)
 obtain⟨cd,hc,hd'⟩:=PySem.W.any_some hh
 have hx:s.heap.get? x=some ⟨.ref C,some dx,.plain,#[]⟩:=I.obj
 refine af (aq (af (af (iY hx (af (PySem.W.Looks.here (s:={ s with toks:=s.toks+1 }) (PySem.W.looks_clsIn X hc) ?_))))))
 rw[hd']
 refine aq (a:=some dx) (af (aq (af ?_)))
 refine l7 (s:={ s with toks:=s.toks+1 }) I.ns λh' hn2 hs2=>?_
 obtain⟨oD,esD,epD,hoD,hdD,hcD⟩:=hn2.count (PySem.Within.cons name v hw)
 refine af (jJ hoD (by rw[hdD];exact jH (aY hcD (by rw[aO];omega))) ?_)
 exact aq (h _ ⟨(hs2.2 _ (ce I.ne)).trans I.obj,hn2,I.ne⟩ hs2)
theorem af2 {R:ml->aj->Prop} {vs:List Value} {kw:List (Str×Value)} (X:K.In s.heap) (hm:dI K C=true)
  (hi:bh K (.ref C) "__init__" = some (some (.ref f))) (hf:PySem.W.typeIn K (.ref f)=some (.type "function"))
  (h:gE (model prog w) (A.under (.builtin "type.__call__" ⟨.ref C::vs,kw⟩)) (.call (.ref f) ⟨.ref (s.heap.objs.size+1)::vs,kw⟩) (PySem.W.InitBack (s.heap.objs.size+1) R)
   {s with heap:=(s.heap.push cF).push (dH C s.heap.objs.size) }) :
  gE (model prog w) A (.call (.ref C) ⟨vs,kw⟩) R s:=by
 obtain⟨hh,g,d,t,os⟩:=s
 exact PySem.W.make_core (PySem.W.makes_of X hm) (d8 X hi) (λself=>PySem.W.bind_fn X self hf) (.inl rfl) h
end
def Du (f:Str) (v:V):List (Str×V)->List (Str×V)
 |[]=>[(f,v)]
 |(g,x)::r=>if g=f then (g,v)::r else (g,x)::Du f v r
theorem Fb (f g:Str) (v:V):∀ fs:List (Str×V),(Du f v fs).lookup g=if g=f then some v else fs.lookup g
 | []=>by
  show eO g [(f,v)]=_
  by_cases h:g=f
  .have hb:(g==f)=true:=beq_iff_eq.mpr h
   simp only[eO,hb,if_pos h]
  .have hb:(g==f)=false:=beq_eq_false_iff_ne.mpr h
   simp only[eO,hb,if_neg h]
 | (k,x)::r=>by
  have ih:=Fb f g v r
  rw[show Du f v ((k,x)::r)=(if k=f then (k,v)::r else (k,x)::Du f v r) from rfl]
  by_cases hk:k=f
  .rw[if_pos hk]
   by_cases h:g=k
   .have hb:(g==k)=true:=beq_iff_eq.mpr h
    simp only[eO,hb,if_pos (h.trans hk)]
   .have hb:(g==k)=false:=beq_eq_false_iff_ne.mpr h
    simp only[eO,hb,if_neg (λe:g=f=>h (e.trans hk.symm))]
  .rw[if_neg hk]
   by_cases h:g=k
   .have hb:(g==k)=true:=beq_iff_eq.mpr h
    simp only[eO,hb,if_neg (λe:g=f=>hk (h.symm.trans e))]
   .have hb:(g==k)=false:=beq_eq_false_iff_ne.mpr h
    simp only[eO,hb]
    exact ih
theorem D4 (f:Str) (v:V):∀ fs:List (Str×V),f∈(Du f v fs).map (·.1) /\ ∀ g,g∈fs.map (·.1)->g∈(Du f v fs).map (·.1)
 |[]=>⟨by simp[Du],λg h=>by simp at h⟩
 | (k,x)::r=>by
  obtain⟨i1,i2⟩:=D4 f v r
  rw[show Du f v ((k,x)::r)=(if k=f then (k,v)::r else (k,x)::Du f v r) from rfl]
  by_cases hk:k=f
  .rw[if_pos hk]
   subst hk
   exact⟨by simp,λg h=>by simpa using h⟩
  .rw[if_neg hk]
   refine⟨?_,λg h=>?_⟩
   .rw[aZ]
    exact aB _ i1
   .rw[aZ] at h ⊢
    rcases List.mem_cons.mp h with e|e
    .exact List.mem_cons.mpr (.inl e)
    .exact aB _ (i2 g e)
theorem Fa (f:Str) (v:V):∀ fs:List (Str×V),(Du f v fs).length<=fs.length+1
 |[]=>by simp[Du]
 | (k,x)::r=>by
  have ih:=Fa f v r
  rw[show Du f v ((k,x)::r)=(if k=f then (k,v)::r else (k,x)::Du f v r) from rfl]
  by_cases hk:k=f
  .rw[if_pos hk,aO,aO];omega
  .rw[if_neg hk,aO,aO];omega
theorem RelO.some_of {v:V} {o:Option Value} (r:RelO (some v) o):∃ u,o=some u/\RelV v u:=by
 cases o with
 |none=>exact (show False from r).elim
 |some u=>exact⟨u,rfl,r⟩
theorem RelO.none_of {o:Option Value} (r:RelO none o):o=none:=by
 cases o with
 |none=>rfl
 |some u=>exact (show False from r).elim
theorem Nf {v:V} {u:Value} (r:RelV v u):hX u=true:=by
 cases v with
 |non=>cases (show u=bC from r);rfl
 |bl b=>cases (show u=lK b from r);rfl
 |int i=>obtain⟨t,e⟩:=(show ∃ t,u=lA i t from r);cases e;rfl
 |str x=>obtain⟨t,e⟩:=(show ∃ t,u=iB x t from r);cases e;rfl
 |byt b=>obtain⟨t,e⟩:=(show ∃ t,u=Value.bytes b t from r);cases e;rfl
 |stk y n ex=>obtain⟨t,e,_⟩:=(show ∃ t,u=iB y t/\(if ex=true then t=n else n<=t) from r);cases e;rfl
 |ref a=>cases (show u=aV a from r);rfl
 |ty n=>cases (show u=gd n from r);rfl
section
variable {P:aS} {w:bz} {H H':Hp} {h h':Heap} {a C dx:Addr} {fs fs':List (Str×V)}
theorem Jw (hok:HOk P w H h) (e:H a=some (.ins C dx fs)):∃ mA,ObjM h a dx C mA/\(∀ f,RelO (fs.lookup f) (mA f))/\eG mA (fs.map (·.1))/\fs.length<=1000/\H dx=some (.own a):=by
 obtain⟨d,z,ne,ob,mA,n,r,q⟩:=(show ObjOk P w H h a (.ins C dx fs) from hok a _ e)
 exact⟨mA,⟨ob,n,ne⟩,r,q,z,d⟩
end
structure Cls (K:ac) (C:Addr):Prop where
 pg:fU K C eh=true
 hd:gT K C=true
 po:jc K C=true
 sa:bh K (.ref C) "__setattr__" = some (some (.builtin "object.__setattr__"))
theorem Cls.get {K:ac} {C:Addr} (c:Cls K C) (f:Str):fU K C f=true:=c.pg
def NoAttr (K:ac) (C:Addr) (f:Str):Prop:=bh K (.ref C) f=some none
theorem NoAttr.taker {K:ac} {C:Addr} {f:Str} (n:NoAttr K C f):j6 K C f=some none:=by
 unfold j6
 rw[show bh K (.ref C) f=some none from n]
 rfl
structure Qk (K:ac) (C:Addr) (m:Str) (f:Addr):Prop where
 at_:bh K (.ref C) m=some (some (.ref f))
 fn:cP K (.ref f)=true
 kp:ba K (.ref f)=true
section
variable {X:Cx} {pins:List (Addr×Obj)} {U:St} {H:Hp} {s:aj} {a C dx:Addr} {fs:List (Str×V)} {f:Str} {v:V} {A:bq} {E:Value->aj->Prop}
theorem Tq {b:Bool} {Q:Value->aj->Prop} (I:Inv X pins U H s) (e:H a=some (.ins C dx fs)) (c:Cls X.K C) (n:NoAttr X.K C f) (l:fs.lookup f=some v)
  (h:∀ u s',Inv X pins U H s'->RelV v u->Q u s'):aN (model X.prog X.w) A (lL (.ref a) f b) Q E s:=by
 obtain⟨mA,O,r,_,_,_⟩:=Jw I.hok e
 obtain⟨u,hu,ru⟩:=RelO.some_of (v:=v) (o:=mA f) (by rw[<- l];exact r f)
 exact Am I.kIn O (c.get f) c.hd n hu (Nf ru) (h u _ (I.tok _) ru)
theorem Kl {m:Str} {g:Addr} {pl:Sem Bool} {Q:Value×List Value->aj->Prop} (I:Inv X pins U H s) (e:H a=some (.ins C dx fs)) (c:Cls X.K C) (k:Qk X.K C m g) (l:fs.lookup m=none)
  (h:Q (.ref g,[.ref a]) s):aN (model X.prog X.w) A (getMethod (.ref a) m pl) Q E s:=by
 obtain⟨mA,O,r,_,_,_⟩:=Jw I.hok e
 have hn:mA m=none:=RelO.none_of (by rw[<- l];exact r m)
 exact ad7 I.kIn O (c.get m) k.at_ k.fn hn h
theorem Ux {y:V} {u:Value} {Q:Unit->aj->Prop} (I:Inv X pins U H s) (e:H a=some (.ins C dx fs)) (c:Cls X.K C) (n:NoAttr X.K C f) (hl:fs.length<1000) (ry:RelV y u)
  (h:∀ s',Inv X pins U (upd H a (.ins C dx (Du f y fs))) s'->Q () s'):aN (model X.prog X.w) A (mG (.ref a) f u) Q E s:=by
 obtain⟨mA,O,r,wi,_,ho⟩:=Jw I.hok e
 have hz:(fs.map (·.1)).length<=sizeLine:=by rw[ae,bA];omega
 refine ay9 I.kIn O c.sa c.po n.taker c.hd wi hz λh' O' sb=>h _ ?_
 have hd:∃ o,h'.get? dx=some o:=let ⟨o,_,_,e',_⟩:=O'.ns;⟨o,e'⟩
 refine I.write (x:=a) (e:=dx) (by rw[e];exact aR) (.inr ho) (λb q hb z=>(sb.2 b hb).trans z) hd ?_
 refine⟨by rw[Ad O.ne];exact ho,?_,O.ne,O'.obj,_,O'.ns,λg=>?_,λg hg=>?_⟩
 .have:=Fa f y fs;omega
 .show RelO ((Du f y fs).lookup g) (if g=f then some u else mA g)
  rw[Fb]
  by_cases q:g=f
  .rw[if_pos q,if_pos q];exact ry
  .rw[if_neg q,if_neg q];exact r g
 .by_cases q:g=f
  .rw[q];exact (D4 f y fs).1
  .refine (D4 f y fs).2 g (wi g λz=>hg ?_)
   show (if g=f then some u else mA g)=none
   rw[if_neg q];exact z
theorem Inv.made (I:Inv X pins U H s):Inv X pins U (upd (upd H s.heap.objs.size (.own (s.heap.objs.size+1))) (s.heap.objs.size+1) (.ins C s.heap.objs.size []))
  {s with heap:=(s.heap.push cF).push (dH C s.heap.objs.size) }:=by
 have e1:(s.heap.push cF).get? s.heap.objs.size=some cF:=az s.heap rfl
 have e2:((s.heap.push cF).push (dH C s.heap.objs.size)).get? (s.heap.objs.size+1)=some (dH C s.heap.objs.size):=by
  have:=az (s.heap.push cF) (o:=dH C s.heap.objs.size) rfl
  rwa[dZ] at this
 have e3:(s.heap.push cF).Ns s.heap.objs.size (λ_=>none):=⟨cF,#[],_,e1,rfl,(λe he=>absurd he (by simp)),λ_=>rfl⟩
 have I1:=I.laid (a:=s.heap.objs.size) (o:=.own (s.heap.objs.size+1)) (h':=s.heap.push cF) (t':=s.toks) (λb u q=>ag _ q) (ai _) ⟨_,e1⟩
 refine I1.laid (a:=s.heap.objs.size+1) (o:=.ins C s.heap.objs.size []) (t':=s.toks) (λb u q=>ag _ q) (lU (dZ _ _)) ?_
 have ne:s.heap.objs.size≠s.heap.objs.size+1:=aQ (cg _)
 refine⟨by rw[Ad ne,Ab],bx _,ne,e2,λ_=>none,(Heap.Ns1.of_empty e3).at λo q=>ag _ q,λ_=>aR,λy hy=>absurd rfl hy⟩
theorem ar5 {prog:aS} {w:bz} {env:Env} {e:Expr} {f:Str} {pos:Pos} {s:aj} {Q:Value->aj->Prop} (hb:jw e f env (eval e env)=eval e env)
  (h:aN (model prog w) A (eval e env) (λo s₁=>aN (model prog w) A (lL o f true) Q E s₁) E s):aN (model prog w) A (eval (.Attribute e f pos) env) Q E s:=
 Attribute_any_ h (by rw[arm_eval_Attribute,hb])
end
section
variable {X:Cx} {pins:List (Addr×Obj)} {U:St} {H:Hp} {s:aj} {A:bq} {E:Value->aj->Prop} {Q:Value->aj->Prop} {c:Value} {b:Bool}
inductive TyOf (K:ac) (H:Hp):V->Value->Prop where
 |non:TyOf K H .non (.type "NoneType")
 |bl (x:Bool):TyOf K H (.bl x) (.type "bool")
 |int (i:Int):TyOf K H (.int i) (.type "int")
 |str (x:Str):TyOf K H (.str x) (.type "str")
 |stk (x:Str) (n:Nat) (ex:Bool):TyOf K H (.stk x n ex) (.type "str")
 |lst {a:Addr} {xs:List V} (e:H a=some (.lst xs)):TyOf K H (.ref a) (.type "list")
 |frz {a:Addr} {o:Obj} {xs:List V} (e:H a=some (.frz o (.lst xs))):TyOf K H (.ref a) (.type "list")
 |tup {a:Addr} {xs:List V} (e:H a=some (.tup xs)):TyOf K H (.ref a) (.type "tuple")
 |dK {a:Addr} {kvs:List (Key×V)} (e:H a=some (.dK kvs)):TyOf K H (.ref a) (.type "dict")
 |dT {a:Addr} {kvs:List (TK×V)} (e:H a=some (.dT kvs)):TyOf K H (.ref a) (.type "dict")
 | ins {a C dx:Addr} {fs:List (Str×V)} (e:H a=some (.ins C dx fs)) (cl:Cls K C) (ha:bh K (.ref C) "__class__" = some (some (.builtin "object.__class__")))
   (hn:PySem.W.specialIn K (.builtin "object.__class__") "__get__" = some (some (.builtin "getset_descriptor.__get__"))) (htk:PySem.W.takesIn K (.builtin "object.__class__")=some true)
   (hm:du K C (.type "object")=some true):TyOf K H (.ref a) (.ref C)
theorem Nl {x:V} {u t:Value} (I:Inv X pins U H s) (rx:RelV x u) (ty:TyOf X.K H x t) (e:d6 X.K t c=some b) (h:∀ tk,Q (.bool b) { s with toks:=tk }) :
  aN (model X.prog X.w) A (call (.builtin "isinstance") [u,c]) Q E s:=by
 cases ty with
 |non=>cases (show u=bC from rx);exact b7 PySem.W.kitx_none I.kIn aR e (λz=>nomatch z) h
 |bl y=>cases (show u=lK y from rx);exact b7 PySem.W.kitx_bool I.kIn aR e (λz=>nomatch z) h
 |int i=>obtain⟨t,q⟩:=(show ∃ t,u=lA i t from rx);cases q;exact b7 PySem.W.kitx_int I.kIn aR e (λz=>nomatch z) h
 |str y=>obtain⟨t,q⟩:=(show ∃ t,u=iB y t from rx);cases q;exact b7 PySem.W.kitx_str I.kIn aR e (λz=>nomatch z) h
 |stk y n ex=>obtain⟨t,q,_⟩:=(show ∃ t,u=iB y t/\(if ex=true then t=n else n<=t) from rx);cases q;exact b7 PySem.W.kitx_str I.kIn aR e (λz=>nomatch z) h
 |@lst a xs ea=>
  cases (show u=aV a from rx)
  obtain⟨_,_,n,_,h1⟩:=(show ObjOk X.prog X.w H s.heap a (.lst xs) from I.hok a _ ea)
  exact b7 ja I.kIn ⟨_,h1,rfl⟩ e (λz=>nomatch z) h
 |@frz a ob xs ea=>
  cases (show u=aV a from rx)
  obtain⟨_,_,_,n,_,h1⟩:=(show ObjOk X.prog X.w H s.heap a (.frz ob (.lst xs)) from I.hok a _ ea)
  exact b7 ja I.kIn ⟨_,h1,rfl⟩ e (λz=>nomatch z) h
 |@tup a xs ea=>
  cases (show u=aV a from rx)
  obtain⟨_,_,_,p⟩:=(show ObjOk X.prog X.w H s.heap a (.tup xs) from I.hok a _ ea)
  obtain⟨o,h1,h2,_⟩:=p
  exact b7 ll I.kIn ⟨o,h1,h2⟩ e (λz=>nomatch z) h
 |@dK a kvs ea=>
  cases (show u=aV a from rx)
  obtain⟨_,_,vs,_,p⟩:=(show ObjOk X.prog X.w H s.heap a (.dK kvs) from I.hok a _ ea)
  obtain⟨o,es,ep,h1,h2,_⟩:=p
  exact b7 PySem.W.kitx_dict I.kIn ⟨o,h1,h2.1⟩ e (λz=>nomatch z) h
 |@dT a kvs ea=>
  cases (show u=aV a from rx)
  obtain⟨_,_,xs,_,o,es,ep,h1,h2,_⟩:=(show ObjOk X.prog X.w H s.heap a (.dT kvs) from I.hok a _ ea)
  exact b7 PySem.W.kitx_dict I.kIn ⟨o,h1,h2.1⟩ e (λz=>nomatch z) h
 |@ins a C dx fs ea cl ha hn htk hm=>
  cases (show u=aV a from rx)
  obtain⟨mA,O,_⟩:=Jw I.hok ea
  obtain⟨od,J,_⟩:=O.look
  exact b7 (PySem.W.kitx_own (cl.get _) cl.hd ha hn htk hm) I.kIn J e (λz=>nomatch z) h
end
structure Room (k:Nat) (A:bq):Prop where
 hd:A.handled=none
 dp:A.depth+3 * k+5<recursionLimit
 un:A.units+16 * k+200<cLine
theorem Room.mono {j k:Nat} {A:bq} (r:Room k A) (h:j<=k):Room j A:=⟨r.hd,by have:=r.dp;omega,by have:=r.un;omega⟩
theorem Room.deeper {k:Nat} {A:bq} (r:Room (k+1) A) (env:Env):Room k (A.deeper env):=
 ⟨r.hd,by have:=r.dp;show A.depth+1+3 * k+5<_;omega,by have:=r.un;show A.units+3+16 * k+200<_;omega⟩
theorem Room.in1 {k:Nat} {A:bq} (r:Room (k+1) A):Room k A.in1:=
 ⟨r.hd,by have:=r.dp;show A.depth+3 * k+5<_;omega,by have:=r.un;show A.units+1+16 * k+200<_;omega⟩
theorem Ua {A:bq} {C:Addr} {us:List Value} {kw:List (Str×Value)}:(A.under (.builtin "type.__call__" ⟨.ref C::us,kw⟩)).depth=A.depth+1:=by
 first|rfl|simp[lQ,Code.weight,Code.isCreation,Code.isGuard,Code.isCaller,Code.frames,lR,guardIds]
theorem Ub {A:bq} {C:Addr} {us:List Value} {kw:List (Str×Value)}:(A.under (.builtin "type.__call__" ⟨.ref C::us,kw⟩)).units=A.units+1:=by
 first|rfl|simp[lQ,Code.cUnits,Code.frames,lR]
theorem Room.make {k:Nat} {A:bq} (r:Room (k+1) A) (C:Addr) (us:List Value) (kw:List (Str×Value)):Room k (A.under (.builtin "type.__call__" ⟨.ref C::us,kw⟩)):=
 ⟨r.hd,by have:=r.dp;rw[Ua];omega,by have:=r.un;rw[Ub];omega⟩
theorem Room.depth {k:Nat} {A:bq} (r:Room k A):A.depth<recursionLimit:=by have:=r.dp;omega
theorem Room.units {k:Nat} {A:bq} (r:Room k A):A.units+64<cLine:=by have:=r.un;omega
def b01:TA:=λ_ H Q=>Q [] H
def bt0 (ta:TE) (tr:TA):TA:=λU H Q=>ta U H λx H1=>tr U H1 λxs H2=>Q (x::xs) H2
section
variable {X:Cx} {e:Expr} {es:List Expr} {te:TE} {t:TA} {pos:Pos}
theorem bd9:PA X [] b01:=λ_ _ _ _ H Q I h=>fC ⟨[],H,I,.nil,h⟩
theorem av1 (ha:PE X e te) (hr:PA X es t) (hs:cS (e::es) X.env=(false,eval e X.env)::cS es X.env:=by rfl):PA X (e::es) (bt0 te t):=by
 intro pos pins s U H Q I h
 rw[hs]
 show aN _ _ (spliced ((false,eval e X.env)::je pos (cS es X.env))) _ _ s
 refine fc (thn (ha pins s U H _ I h) λu s1 ⟨x,H1,I1,r1,q1⟩=>?_)
 exact thn (hr pos pins s1 U H1 _ I1 q1) λus s2 ⟨xs,H2,I2,r2,q2⟩=>⟨x::xs,H2,I2,.cons r1 r2,q2⟩
def b05 (t:TA):TE:=λU H Q=>t U H λxs H1=>xs.length<=sizeLine /\ ∀ p,H1 p=none->Q (.ref p) (upd H1 p (.tup xs))
def b00 (t:TA):TE:=λU H Q=>t U H λxs H1=>xs.length<=sizeLine /\ ∀ p,H1 p=none->Q (.ref p) (upd H1 p (.lst xs))
theorem be5 {x1} (h:PA X es t):PE X (.Tuple es x1 pos) (b05 t):=by
 intro pins s U H Q I hq
 refine wpAny_Tuple_spliced (thn (h pos pins s U H _ I hq) λus s1 ⟨xs,H1,I1,r,z,q⟩=>⟨by rw[<- r.length];exact z,?_⟩)
 have hf:H1 s1.heap.objs.size=none:=I1.hok.fresh (ai _)
 refine⟨.ref s1.heap.objs.size,upd H1 s1.heap.objs.size (.tup xs),I1.laid (t':=s1.toks) (λb u e=>ag _ e) (ai _) ?_,rfl,q _ hf⟩
 exact⟨z,us,r,⟨_,az _ rfl,rfl,_,rfl⟩⟩
theorem be1 (h:PA X es t):PE X (.List es pos) (b00 t):=by
 intro pins s U H Q I hq
 refine wpAny_List_spliced (thn (h pos pins s U H _ I hq) λus s1 ⟨xs,H1,I1,r,z,q⟩=>⟨by rw[<- r.length];exact z,?_⟩)
 have hf:H1 s1.heap.objs.size=none:=I1.hok.fresh (ai _)
 refine⟨.ref s1.heap.objs.size,upd H1 s1.heap.objs.size (.lst xs),I1.laid (t':=s1.toks) (λb u e=>ag _ e) (ai _) ?_,rfl,q _ hf⟩
 exact⟨z,us,0,r,az _ rfl⟩
end
abbrev Sp:=List V->Hp->VK->XK->Prop
abbrev CXT:=List Env->Hp->aj->XK->Value->aj->Prop
structure Env0 (P:aS) (w:bz) (K:ac) (mg:Str->Option Value) (base:Heap) (A:bq) (outer:List Env) (s:aj) (H:Hp):Prop where
 frames:A.frames=some outer
 mod:Mod K mg base
 bs:∀ b o,base.get? b=some o->s.heap.get? b=some o/\H b=none
 bsz:base.objs.size<=s.heap.objs.size
 funs:s.heap.FunFrames base outer
 frf:∀ b∈frs outer,H b=none
 hok:HOk P w H s.heap
 bare:jT s.gens
 tk:V5 K s.toks
noncomputable def CE (outer:List Env) (P:aS) (w:bz) (H:Hp) (s:aj) (Q:VK) (u:Value) (s':aj):Prop:=
 ∃ v H',(s'.os=s.os/\s.toks<=s'.toks)/\jT s'.gens/\Un (frs outer) [] H H' s.heap s'.heap/\HOk P w H' s'.heap/\RelV v u/\Q v H'
noncomputable def CR (CX:CXT) (outer:List Env) (P:aS) (w:bz) (H:Hp) (s:aj) (Q:VK) (E:XK) (r:ml) (s':aj):Prop:=
 match r with
 |.ok (.ret u)=>CE outer P w H s Q u s'
 |.ok _=>False
 |.error e=>CX outer H s E e s'
structure FnOk (P:aS) (w:bz) (K:ac) (mg:Str->Option Value) (base:Heap) (CX:CXT) (k:Nat) (f:Addr) (fd:a9) (ps:List Str) (sp:Sp):Prop where
 len:∀ vs H Q E,sp vs H Q E->vs.length=ps.length
 run:∀ (A:bq) (outer:List Env) (s:aj) (H:Hp) (args:Args) (us:List Value) (vs:List V) (Q:VK) (E:XK),Room k A->Env0 P w K mg base A outer s H->lJ s fd args (ps.zip us)->Vals vs us->sp vs H Q E ->
  gE (model P w) A (.call (.ref f) args) (CR CX outer P w H s Q E) s
theorem FnOk.imp {P:aS} {w:bz} {K:ac} {mg:Str->Option Value} {base:Heap} {CX:CXT} {k:Nat} {f:Addr} {fd:a9} {ps:List Str} {sp sp':Sp} (F:FnOk P w K mg base CX k f fd ps sp)
  (h:∀ vs H Q E,sp' vs H Q E->sp vs H Q E):FnOk P w K mg base CX k f fd ps sp':=
 ⟨λvs H Q E q=>F.len vs H Q E (h _ _ _ _ q),λA outer s H args us vs Q E hr he hb hv hs=>F.run A outer s H args us vs Q E hr he hb hv (h _ _ _ _ hs)⟩
theorem Env0.make {P:aS} {w:bz} {K:ac} {mg:Str->Option Value} {base:Heap} {A:bq} {outer:List Env} {s:aj} {H:Hp} (e:Env0 P w K mg base A outer s H) (C:Addr) (us:List Value) (kw:List (Str×Value)) :
  Env0 P w K mg base (A.under (.builtin "type.__call__" ⟨.ref C::us,kw⟩)) outer s H:=⟨by first|exact e.frames|(simpa [lQ,Code.envs,lR,pushEnvs] using e.frames),e.mod,e.bs,e.bsz,e.funs,e.frf,e.hok,e.bare,e.tk⟩
theorem Env0.in1 {P:aS} {w:bz} {K:ac} {mg:Str->Option Value} {base:Heap} {A:bq} {outer:List Env} {s:aj} {H:Hp} (e:Env0 P w K mg base A outer s H) :
  Env0 P w K mg base A.in1 outer s H:=⟨e.frames,e.mod,e.bs,e.bsz,e.funs,e.frf,e.hok,e.bare,e.tk⟩
section
variable {X:Cx} {pins:List (Addr×Obj)} {U:St} {H:Hp} {s s':aj}
theorem Inv.env0 (I:Inv X pins U H s):Env0 X.prog X.w X.K X.mg X.base X.A X.stack s H:=
 ⟨I.ok.frames,I.ok.mod,I.bs,aY I.ok.bsz I.sz,I.stack,I.stkFree,I.hok,I.bare,aR⟩
theorem Inv.after {Q:VK} {u:Value} (I:Inv X pins U H s) (h:CE X.stack X.prog X.w H s Q u s'):EP X pins U Q u s':=by
 obtain⟨v,H',os,bare,un,hok,r,q⟩:=h
 obtain⟨hh,g,d,t,os'⟩:=s'
 obtain rfl:os'=s.os:=os.1
 exact⟨v,H',I.call (h':=hh) (g':=g) (d':=d) (t':=t) (ch:=[]) un hok bare (λb z=>absurd z (by simp)) os.2,r,q⟩
end
noncomputable def Binds (K:ac) (fd:a9) (ps:List Str) (ds:List Value):Prop:=
 ∀ (s:aj) (us:List Value),K.In s.heap->(us++ds).length=ps.length->lJ s fd ⟨us,[]⟩ (ps.zip (us++ds))
theorem Binds.all {K:ac} {fd:a9} {ps:List Str} (h:∀ us:List Value,us.length=ps.length->im fd ⟨us,[]⟩=pure (ps.zip us)):Binds K fd ps []:=λs us _ hl=>by
 rw[cz] at hl ⊢
 exact .of_eq (h us hl)
section
variable {X:Cx} {CX:CXT} {k:Nat} {f C:Addr} {fd:a9} {ps:List Str} {sp:Sp} {dvs:List V} {ds:List Value} {E:XK} {x m:Str} {p pos apos:Pos} {e o:Expr} {es:List Expr} {ta:TE} {t:TA}
structure Mk (K:ac) (C f:Addr):Prop where
 makes:dI K C=true
 init:bh K (.ref C) "__init__" = some (some (.ref f))
 fn:cP K (.ref f)=true
 kp:ba K (.ref C)=true
end
structure B7 (N P:List Str) (sc:Scope):Prop where
 kind:sc.kind=.function
 co:sc.isCoroutine=false
 gen:sc.isGenerator=false
 nd:N.Nodup
 pre:N.take P.length=P
 par:∀ x∈P,sc.names.lookup x=some .local\/sc.names.lookup x=some .cell
 nofree:∀ y∈sc.names,y.2≠.free
theorem M3 {kindOf:Str->Option cx} {x:Str}:∀ {binds:List (Str×Value)} {m:Str->Option Value},(∀ v,(x,v)∉binds)->bindL kindOf binds m x=m x
 |[],_,_=>rfl
 | (n,v)::r,m,h=>by
  unfold bindL
  rw[M3 λw hw=>h w (aB _ hw)]
  split
  .have:x≠n:=by rintro rfl;exact h v aT
   simp[this]
  .rfl
theorem M1 {kindOf:Str->Option cx} {x:Str}:∀ {binds:List (Str×Value)} {m:Str->Option Value},(∀ v,(x,v)∉binds)->bindC kindOf binds m x=m x
 |[],_,_=>rfl
 | (n,v)::r,m,h=>by
  unfold bindC
  rw[M1 λw hw=>h w (aB _ hw)]
  split
  .rfl
  .have:x≠n:=by rintro rfl;exact h v aT
   simp[this]
theorem M2 {kindOf:Str->Option cx} {x:Str} {v:Value}:∀ {P:List Str} {vs:List Value} {i:Nat} {m:Str->Option Value},P.Nodup->P[i]? = some x->vs[i]? = some v->kindOf x=some .local ->
  bindL kindOf (P.zip vs) m x=some v
 |[],_,_,_,_,h,_,_=>by simp at h
 |_::_,[],_,_,_,_,h,_=>by simp at h
 | p::P,w::vs,0,m,nd,h1,h2,hk=>by
  simp at h1 h2;subst h1;subst h2
  show bindL kindOf ((p,w)::P.zip vs) m p=_
  unfold bindL
  rw[M3 λv hv=>(List.nodup_cons.mp nd).1 (iw hv).1,if_pos hk]
  simp
 | p::P,w::vs,i+1,m,nd,h1,h2,hk=>by
  show bindL kindOf ((p,w)::P.zip vs) m x=_
  unfold bindL
  exact M2 (i:=i) (List.nodup_cons.mp nd).2 (by simpa using h1) (by simpa using h2) hk
theorem M0 {kindOf:Str->Option cx} {x:Str} {v:Value}:∀ {P:List Str} {vs:List Value} {i:Nat} {m:Str->Option Value},P.Nodup->P[i]? = some x->vs[i]? = some v->kindOf x≠some .local ->
  bindC kindOf (P.zip vs) m x=some v
 |[],_,_,_,_,h,_,_=>by simp at h
 |_::_,[],_,_,_,_,h,_=>by simp at h
 | p::P,w::vs,0,m,nd,h1,h2,hk=>by
  simp at h1 h2;subst h1;subst h2
  show bindC kindOf ((p,w)::P.zip vs) m p=_
  unfold bindC
  rw[M1 λv hv=>(List.nodup_cons.mp nd).1 (iw hv).1,if_neg hk]
  simp
 | p::P,w::vs,i+1,m,nd,h1,h2,hk=>by
  show bindC kindOf ((p,w)::P.zip vs) m x=_
  unfold bindC
  exact M0 (i:=i) (List.nodup_cons.mp nd).2 (by simpa using h1) (by simpa using h2) hk
def Ch (N:List Str) (vs:List V):St:=vs.map some++g7 (N.length - vs.length) none
noncomputable def Fu (CX:CXT) (P:aS) (w:bz) (K:ac) (mg:Str->Option Value) (base:Heap) (N:List Str) (qual:Str) (scope:Scope) (f:Addr) (cd:Value) (A:bq) (outer:List Env) (s:aj) (H:Hp) (E:XK):Cx where
 prog:=P
 w:=w
 K:=K
 mg:=mg
 base:=base
 A:=A.deeper (kL qual scope s.heap.objs.size f cd)
 N:=N
 s₀:=s
 H₀:=H
 env:=kL qual scope s.heap.objs.size f cd
 outer:=outer
 stack:=kL qual scope s.heap.objs.size f cd::outer
 ex:=[]
 calm:=true
 fn:=λ_=>true
 pn:=[]
 xe:=λe s'=>aN (model P w) (A.deeper (kL qual scope s.heap.objs.size f cd)) (leaving (kL qual scope s.heap.objs.size f cd) e) (λ_ s''=>CX outer H s E e s'') (λe' s''=>CX outer H s E e' s'') s'
theorem Dv {sc:Scope} {n:Nat} {x:Str} (h:sc.names.lookup x=some .cell):∃ c,(mw n sc.names []).lookup x=some c:=by
 have q:=gN sc.names n [] (.inl h)
 exact Option.isSome_iff_exists.mp q
theorem Nj {CX:CXT} {P:aS} {w:bz} {K:ac} {mg:Str->Option Value} {base:Heap} {N ps:List Str} {qual:Str} {scope:Scope} {f:Addr} {cd:Value} {A:bq} {outer:List Env} {s s1:aj} {H:Hp} {E:XK} {us:List Value} {vs:List V}
  (S:B7 N ps scope) (hd:A.handled=none) (e0:Env0 P w K mg base A outer s H) (htk:s.toks<=s1.toks) (hl:vs.length=ps.length) (r:Vals vs us)
  (x:InCallC s s.heap.objs.size (bindL (kL qual scope s.heap.objs.size f cd).kindOf (ps.zip us) λ_=>none) (mw (s.heap.objs.size+1) scope.names []) (bindC (kL qual scope s.heap.objs.size f cd).kindOf (ps.zip us) λ_=>none) s1) :
  Inv (Fu CX P w K mg base N qual scope f cd A outer s H E) [] (Ch N vs) H s1:=by
 have hpl:ps.length<=N.length:=by have:=congrArg cJ S.pre;rw[aK] at this;omega
 obtain⟨h1,tk,rfl,hk⟩:=x.done
 have noA:∀ b:Addr,b∉(Fu CX P w K mg base N qual scope f cd A outer s H E).ex:=λb z=>absurd (show b∈([]:List Addr) from z) (by simp)
 refine⟨⟨e0.mod,S.kind,rfl,rfl,ai _,λy z c h1 h2=>?_,λy hy=>?_,λy c _ h=>?_,λ_=>hd,Around.frames_deeper e0.frames,.inr ⟨rfl,rfl⟩,λb z=>absurd z (noA b),e0.bs,e0.bsz,λb _ _=>noA b,λb z=>absurd z (noA b),e0.funs,e0.frf,e0.tk⟩,
  ⟨rfl,htk⟩,e0.bare,Un.kept hk,⟨_,x.toInCall.ns,λi y v h1 h2 h3=>?_⟩,λy c h=>⟨_,x.cell y c h⟩,e0.hok.fresh (ai _),λy c h=>?_,λp hp=>absurd (show p∈([]:List (Addr×Obj)) from hp) (by simp),e0.hok.kept hk,?_⟩
 .exact name_of_addr x.apart (bQ h1) (bQ h2)
 .have hy:scope.names.lookup y=some .cell\/scope.names.lookup y=some .free:=hy
  rcases hy with hy|hy
  .exact Dv hy
  .exact absurd rfl (S.nofree _ (bQ hy))
 .exact dy (x.above y c (bQ h))
 .have hi:i<vs.length:=by
   unfold Ch at h2
   by_cases hi:i<vs.length
   .exact hi
   .rw[bD (by simpa using hi)] at h2
    rw[eN] at h2
    split at h2 <;> cases h2
  have ha:vs[i]? = some v:=by
   unfold Ch at h2
   rw[bT (by simpa using hi),am] at h2
   cases e:vs[i]? with
   |none=>rw[e] at h2;cases h2
   |some a=>rw[e] at h2;cases h2;rfl
  obtain⟨u,hu,rv⟩:=r.get ha
  have hp:ps[i]? = some y:=by
   rw[<- S.pre,List.getElem?_take_of_lt (by omega)];exact h1
  have ndP:ps.Nodup:=by rw[<- S.pre];exact S.nd.sublist (d9 _ _)
  refine⟨u,rv,?_⟩
  rcases S.par y (ak hp) with k|k
  .exact .inl ⟨k,M2 ndP hp hu k⟩
  .obtain⟨c,e⟩:=Dv (n:=s.heap.objs.size+1) k
   refine .inr ⟨.inl k,c,e,?_⟩
   have q:=x.cell y c e
   rw[M0 ndP hp hu (by show scope.names.lookup y≠_;rw[k];decide)] at q
   exact q
 .exact e0.hok.fresh (dy (x.above y c (bQ h)))
 .unfold Ch
  show _=N.length
  rw[aW,ae,List.length_replicate]
  omega
theorem ad4 {CX:CXT} {P:aS} {w:bz} {K:ac} {mg:Str->Option Value} {base:Heap} {k:Nat} {f:Addr} {name qual:Str} {params:Arguments} {body:List Stmt} {scope:Scope} {dV kV doc pm cdv ct oc:Value} {an od:Option Addr}
  {osl:Array (Option Value)} {N ps:List Str} {sp:Sp} (lk:K.lookup f=some ⟨oc,od,.func (cr name qual params body scope dV kV doc pm an cdv ct),osl⟩) (hcd:dA K cdv qual=true) (S:B7 N ps scope)
  (len:∀ vs H Q E,sp vs H Q E->vs.length=ps.length)
  (hbody:∀ (A:bq) (outer:List Env) (s:aj) (H:Hp) (vs:List V) (Q:VK) (E:XK),Room k (A.deeper (kL qual scope s.heap.objs.size f cdv))->sp vs H Q E ->
   ∃ t,PSs (Fu CX P w K mg base N qual scope f cdv A outer s H E) body t/\t { nx:=λ_ H'=>Q .non H',rt:=Q } (Ch N vs) H) :
  FnOk P w K mg base CX (k+1) f (cr name qual params body scope dV kV doc pm an cdv ct) ps sp:=by
 refine⟨len,λA outer s H args us vs Q E hr e0 hb r hsp=>?_⟩
 have hl:=len _ _ _ _ hsp
 have KX:K.In s.heap:=e0.mod.kin.keeps λb o e=>(e0.bs b o e).1
 have lim:s.heap.NoLimit:=e0.mod.nolimit.keeps λb o e=>(e0.bs b o e).1
 have hkind:∀ y∈ps.zip us,scope.names.lookup y.1=some .local\/(scope.names.lookup y.1=some .cell/\((mw (s.heap.objs.size+1) scope.names []).lookup y.1).isSome=true):=fun⟨n,v⟩ hy=>by
  rcases S.par n (iw hy).1 with q|q
  .exact .inl q
  .exact .inr ⟨q,gN _ _ _ (.inl q)⟩
 refine codeAny_call_function hr.depth (KX _ _ lk) rfl S.co S.gen rfl (PySem.W.codeRec_of KX hcd) (hb _ _ _ _ ?_)
 refine bG (ai _) (iK S.kind hkind λenv he s1 x htk=>?_)
 subst he
 refine⟨lim.keeps x.toInCall.keep,codeAny_func ?_⟩
 obtain⟨t,ht,hq⟩:=hbody A outer s H vs Q E (hr.deeper _) hsp
 have I:Inv (Fu CX P w K mg base N qual scope f cdv A outer s H E) [] (Ch N vs) H s1:=Nj S hr.hd e0 htk hl r x
 refine bN (ht [] s1 (Ch N vs) H _ I hq) (λfl s' hs=>?_) λe s' hs=>hs
 have fin:∀ {U':St} {H':Hp} {v:V} {u:Value},Inv (Fu CX P w K mg base N qual scope f cdv A outer s H E) [] U' H' s'->RelV v u->Q v H'->CE outer P w H s Q u s':=
  λ{U' H' v u} J rv q=>⟨v,H',J.os,J.bare,J.base,J.hok,rv,q⟩
 cases fl with
 |ret u=>
  obtain⟨v,U',H',J,rv,q⟩:=hs
  exact fin J rv q
 |next=>
  obtain⟨U',H',J,q⟩:=hs
  exact fin (v:=V.non) (u:=bC) J rfl q
 |brk=>
  obtain⟨_,_,_,q⟩:=hs
  exact cb q
 |cont=>
  obtain⟨_,_,_,q⟩:=hs
  exact cb q
section
variable {X:Cx} {x:Str} {p pos:Pos} {e:Expr} {es:List Expr} {t:TA} {id T:String} {r:List V->Hp->VK->Prop}
def tCB (r:List V->Hp->VK->Prop) (t:TA):TE:=λU H Q=>t U H λvs H1=>r vs H1 Q
theorem ah7 (hc:B6 X (.builtin id) r) (hg:Gl X x) (hm:X.mg x=none) (hv:cQ x=some (.builtin id)) (ha:PA X (e::es) t) (hn:x ≠ "__name__" := by decide) (hdb:(x==("__debug__" : Str))=false:=by decide)
  (he:cS (e::es) X.env=(false,eval e X.env)::cS es X.env:=by rfl) (hpl:(je pos (cS es X.env)).any (·.1)=false:=by rfl):PE X (.Call (.Name x p) (e::es) [] pos) (tCB r t):=by
 intro pins s U H Q I h
 refine bO (Dh I hg hm hv ?_ hn hdb)
 exact hO (thn (ha pos pins s U H _ I h) λus s1 ⟨vs,H1,I1,r1,q1⟩=>hc pins s1 U H1 vs us Q I1 r1 q1) he hpl
theorem Yo (hc:B6 X (.type T) r) (hg:Gl X x) (hm:X.mg x=none) (hv:cQ x=some (.type T)) (ha:PA X (e::es) t) (hn:x ≠ "__name__" := by decide) (hdb:(x==("__debug__" : Str))=false:=by decide)
  (he:cS (e::es) X.env=(false,eval e X.env)::cS es X.env:=by rfl) (hpl:(je pos (cS es X.env)).any (·.1)=false:=by rfl):PE X (.Call (.Name x p) (e::es) [] pos) (tCB r t):=by
 intro pins s U H Q I h
 refine bO (Dh I hg hm hv ?_ hn hdb)
 exact b5 (thn (ha pos pins s U H _ I h) λus s1 ⟨vs,H1,I1,r1,q1⟩=>hc pins s1 U H1 vs us Q I1 r1 q1) he hpl
end
end L2
namespace HT
open PySem PyProof.Rows
section
variable {prog:aS} {w:bz} {A:bq} {E:Value->aj->Prop} {s:aj}
theorem cat_tup {t b:Addr} {vs ws:List Value} {Q:Value->aj->Prop} (ht:mV s.heap t vs.toArray) (hb:mV s.heap b ws.toArray) (hv:vs≠[])
  (h1:ws=[]->Q (.ref t) s) (h2:ws≠[]->Q (.ref s.heap.objs.size) { s with heap:=s.heap.push { cls:=.type "tuple", data:=.seq (vs++ws).toArray } })
  (hsz:vs.length+ws.length<=sizeLine):aN (model prog w) A (dL .Add (.ref t) (.ref b)) Q E s:=by
 obtain⟨⟨cls,dd,data,sl⟩,ho,hc,n,hd⟩:=id ht
 obtain⟨⟨cls2,dd2,data2,sl2⟩,ho2,hc2,n2,hd2⟩:=id hb
 simp only at hc hd hc2 hd2
 subst hc hd hc2 hd2
 have e:vs.toArray++ws.toArray=(vs++ws).toArray:=by simp
 by_cases hw:ws=[]
 .exact lZ ⟨_,ho,rfl⟩ ⟨_,ho2,rfl⟩ jG lG gM gx (f_ _ _)
   (tuple_addW1 t b vs.toArray ws.toArray n n2 dd dd2 sl sl2 (by simpa using hv) (by simp[hw])) ⟨ho,ho2,h1 hw⟩
 .refine lZ ⟨_,ho,rfl⟩ ⟨_,ho2,rfl⟩ jG lG gM gx (f_ _ _)
   (tuple_addW2 t b vs.toArray ws.toArray n n2 dd dd2 sl sl2 (by simpa using hv) (by simpa using hw) (by rw[av,av];exact hsz)) ⟨ho,ho2,?_⟩
  rw[e]
  exact h2 hw
def sIx (n d:Nat):Option Int->Nat
 |none=>d
 |some v=>if v<0 then (v+(n:Int)).toNat else min v.toNat n
end
end HT
namespace L2
open PySem PySem.Spec PyProof.Rows
abbrev TO:=St->Hp->(Option Int->Hp->Prop)->Prop
noncomputable def PO (X:Cx) (e:Option Expr) (t:TO):Prop:=
 ∀ (pins:List (Addr×Obj)) (s:aj) (U:St) (H:Hp) (Q:Option Int->Hp->Prop),Inv X pins U H s->t U H Q ->
  aN (model X.prog X.w) X.A (evalPart e X.env) (λu s'=>∃ o H',Inv X pins U H' s'/\IsPart u o/\Q o H') X.xe s
def az5:TO:=λ_ H Q=>Q none H
theorem Kq {ns:List Int}:∀ {us:List Value},Vals (ns.map V.int) us->jq us ns:=by
 induction ns with
 |nil=>intro us r;rw[g_] at r;cases r;exact .nil
 |cons n ns ih=>
  intro us r
  rw[aZ] at r
  cases r with
  |cons r1 r2=>
   obtain⟨t,e⟩:=r1
   subst e
   exact .cons n t (ih r2)
section
variable {X:Cx} {e:Expr} {te:TE} {lo hi:Option Expr} {tl th:TO} {pos p2:Pos}
theorem av6:PO X none az5:=by
 intro pins s U H Q I h
 rw[evalPart_none]
 exact aq ⟨none,H,I,.none,h⟩
noncomputable def SlR (X:Cx) (r:V->Option Int->Option Int->Hp->VK->Prop):Prop:=
 ∀ (pins:List (Addr×Obj)) (s:aj) (U:St) (H:Hp) (x:V) (v vl vu:Value) (lo hi:Option Int) (sl:Addr) (Q:VK),Inv X pins U H s->RelV x v->s.heap.IsSliceOf sl vl vu .none->IsPart vl lo->IsPart vu hi->r x lo hi H Q ->
  ∃ T id,ji (.type T) "__getitem__" = pure (some (.builtin id))/\s.TypeIs v T/\aN (model X.prog X.w) X.A (getItem v (.ref sl)) (EP X pins U Q) X.xe s
def Tj (xs:List V) (lo hi:Option Int):List V:=(xs.drop (HT.sIx xs.length 0 lo)).take (HT.sIx xs.length xs.length hi - HT.sIx xs.length 0 lo)
theorem Qv (xs:List V) (lo hi:Option Int):(Tj xs lo hi).length<=xs.length:=by
 unfold Tj
 rw[aK,jA]
 omega
noncomputable def a26 (K:ac):R2:=λx y H Q=>∃ a b xs ys,x=.ref a/\y=.ref b/\SqT K H a xs/\SqT K H b ys/\xs≠[]/\xs.length+ys.length<=sizeLine /\
 (ys=[]->Q (.ref a) H)/\(ys≠[] -> ∀ p,H p=none->Q (.ref p) (upd H p (.tup (xs++ys))))
theorem Vals.nil_iff {xs:List V} {us:List Value} (r:Vals xs us):us=[] ↔ xs=[]:=by
 cases r with
 |nil=>simp
 |cons _ _=>simp
theorem op_catT:OpR X (dL .Add) (a26 X.K):=by
 intro pins s U H x y v u Q I rx ry h
 obtain⟨a,b,xs,ys,rfl,rfl,ha,hb,hx,hz,q1,q2⟩:=h
 cases rx
 cases ry
 obtain⟨its,r1,p1,_⟩:=I.tuple ha
 obtain⟨its2,r2,p2,_⟩:=I.tuple hb
 refine HT.cat_tup p1 p2 (λz=>hx (r1.nil_iff.mp z)) (λz=>⟨.ref a,H,I,rfl,q1 (r2.nil_iff.mp z)⟩) (λz=>?_) (by rw[<- r1.length,<- r2.length];exact hz)
 refine⟨.ref s.heap.objs.size,_,I.laid (t':=s.toks) (o:=.tup (xs++ys)) (λb ob q=>ag _ q) (ai _) ?_,rfl,q2 (λw=>z (r2.nil_iff.mpr w)) _ (I.hok.fresh (ai _))⟩
 exact⟨by rw[aW];exact hz,_,r1.append r2,IsTup.new _ _⟩
end
def ixN (n:Nat) (i:Int):Option Nat:=if 0<=i then (if i<n then some i.toNat else none) else if -(n:Int)<=i then some (i+n).toNat else none
def atI {α:Type} (xs:List α) (i:Int):Option α:=(ixN xs.length i).bind λj=>xs[j]?
theorem at2 {n:Nat} {i:Int} {j:Nat} (h:ixN n i=some j):seqIndex? i n=some j/\j<n /\ -(n:Int)<=i/\i<n:=by
 unfold ixN at h
 by_cases h0:0<=i
 .rw[if_pos h0] at h
  by_cases h1:i<n
  .rw[if_pos h1] at h
   have e:i.toNat=j:=aD h
   exact⟨by rw[seqIndex_of h0 h1,e],by omega,by omega,h1⟩
  .rw[if_neg h1] at h;cases h
 .rw[if_neg h0] at h
  by_cases h1:-(n:Int)<=i
  .rw[if_pos h1] at h
   have e:(i+n).toNat=j:=aD h
   exact⟨by rw[seqIndex_neg (by omega) h1,e],by omega,h1,by omega⟩
  .rw[if_neg h1] at h;cases h
theorem N8 {α:Type} {xs:List α} {i:Int} {v:α} (h:atI xs i=some v):∃ j,seqIndex? i xs.length=some j/\xs[j]? = some v/\j<xs.length /\ -(xs.length:Int)<=i/\i<xs.length:=by
 unfold atI at h
 cases e:ixN xs.length i with
 |none=>rw[e] at h;cases h
 |some j=>
  rw[e] at h
  obtain⟨h1,h2,h3,h4⟩:=at2 e
  exact⟨j,h1,h,h2,h3,h4⟩
theorem Bu {α:Type} {xs:List α} {j:Nat} {v:α} (h:xs[j]? = some v):atI xs (j:Int)=some v:=by
 have hj:j<xs.length:=(List.getElem?_eq_some_iff.mp h).1
 have e:ixN xs.length (j:Int)=some j:=by
  unfold ixN
  rw[if_pos (by omega),if_pos (by omega)];simp
 unfold atI;rw[e];exact h
def V4 (b:Expr):Prop:=∀ o i,subscripted b false o i=operate [o,i] (getItem o i)
noncomputable def IxR (X:Cx) (r:R2):Prop:=
 ∀ (value slice:Expr) (pins:List (Addr×Obj)) (s:aj) (U:St) (H:Hp) (x y:V) (v u:Value) (Q:VK),Inv X pins U H s->RelV x v->RelV y u->r x y H Q ->
  subscripted slice false v u=operate [v,u] (getItem v u)->aN (model X.prog X.w) X.A (lH value slice v u) (EP X pins U Q) X.xe s
noncomputable def MtR (X:Cx) (id:String) (r:V->List V->Hp->VK->Prop):Prop:=
 ∀ (pins:List (Addr×Obj)) (s:aj) (U:St) (H:Hp) (x:V) (xs:List V) (v:Value) (us:List Value) (Q:VK),Inv X pins U H s->RelV x v->Vals xs us->r x xs H Q ->
  aN (model X.prog X.w) X.A (call (.builtin id) (v::us)) (EP X pins U Q) X.xe s
section
variable {X:Cx} {a b:Expr} {ta tb:TE} {pos:Pos}
theorem br3 {r:R2} (hr:IxR X r) (ha:PE X a ta) (hb:PE X b tb) (hs:V4 b):PE X (.Subscript a b pos) (tOp r ta tb):=by
 intro pins s U H Q I h
 exact Subscript_ (a54 ha hb I h λv u s2 x y H2 I2 rx ry q=>hr a b pins s2 U H2 x y v u Q I2 rx ry q (hs _ _))
noncomputable def bz1 (K:ac):R2:=λx y H Q=>∃ p xs i v,x=.ref p/\y=.int i/\SqL K H p xs/\atI xs i=some v/\Q v H
noncomputable def bz3 (K:ac):R2:=λx y H Q=>∃ p xs i v,x=.ref p/\y=.int i/\SqT K H p xs/\atI xs i=some v/\Q v H
def bz2:R2:=λx y H Q=>∃ z i c,x=.str z/\y=.int i/\z.length<=sizeLine/\atI z.cps.toList i=some c/\Q (.str ⟨#[c]⟩) H
theorem at3:IxR X (bz1 X.K):=by
 intro value slice pins s U H x y v u Q I rx ry h hs
 obtain⟨p,xs,i,z,rfl,rfl,hq,he,q⟩:=h
 cases rx
 obtain⟨t,rfl⟩:=ry
 obtain⟨its,r,pl,hz⟩:=I.list hq
 obtain⟨j,h1,h2,h3,h4,h5⟩:=N8 he
 obtain⟨w,ew,rw'⟩:=r.get h2
 have hl:=r.length
 have hn:=Hu
 have fin:EP X pins U Q w s:=⟨z,H,I,rw',q⟩
 by_cases h0:0<=i
 .have hj:i.toNat=j:=by
   rw[seqIndex_of h0 h5] at h1
   exact aD h1
  exact item_listR pl.isList h0 (by omega) (by rw[hj];simpa using ew) fin hs
 .have hj:(i+(its.toArray.size:Int)).toNat=j:=by
   rw[seqIndex_neg (by omega) h4] at h1
   rw[av,<- hl]
   exact aD h1
  exact jR (x:=w) pl.isList.typeIs slot_list_getitem.lookup
   (wpAny_getItem_list_neg (Q:=λr s'=>r=w/\EP X pins U Q r s') pl.isList (by omega) (by rw[av] <;> omega) (by omega) (by rw[hj];simpa using ew) ⟨rfl,fin⟩) hs
theorem a76:IxR X (bz3 X.K):=by
 intro value slice pins s U H x y v u Q I rx ry h hs
 obtain⟨p,xs,i,z,rfl,rfl,hq,he,q⟩:=h
 cases rx
 obtain⟨t,rfl⟩:=ry
 obtain⟨its,r,pl,hz⟩:=I.tuple hq
 obtain⟨j,h1,h2,h3,h4,h5⟩:=N8 he
 obtain⟨w,ew,rw'⟩:=r.get h2
 have hl:=r.length
 have hn:=Hu
 have fin:EP X pins U Q w s:=⟨z,H,I,rw',q⟩
 exact jR (x:=w) pl.typeIs slot_tuple_getitem.lookup
  (getItem_tuple (j:=j) (Q:=λr s'=>r=w/\EP X pins U Q r s') pl (by omega) (by omega) (by rw[av,<- hl];exact h1) (by simpa using ew) ⟨rfl,fin⟩) hs
theorem a75:IxR X bz2:=by
 intro value slice pins s U H x y v u Q I rx ry h hs
 obtain⟨z,i,c,rfl,rfl,hz,he,q⟩:=h
 obtain⟨t,rfl⟩:=rx
 obtain⟨t',rfl⟩:=ry
 obtain⟨j,h1,h2,h3,h4,h5⟩:=N8 he
 have hl:z.cps.toList.length=z.length:=by simp[Str.length]
 rw[hl] at h1 h4 h5
 have hn:=Hu
 exact tail_any (typeIs_str s z t) slot_str_getitem.lookup (getItem_str (c:=c) (by
  have e1:decide (i < -(2 ^ 63:Int))=false:=decide_eq_false (by omega)
  have e2:decide (i ≥ 2 ^ 63)=false:=decide_eq_false (by omega)
  rw[e1,e2,Bool.or_false]) (by rw[h1];simpa using h2) ⟨.str ⟨#[c]⟩,H,I.tok _,⟨_,rfl⟩,q⟩) hs
theorem Pr (lo hi:Option Int) (n:Nat):(gX lo hi none n).1=((HT.sIx n 0 lo:Nat):Int)/\(gX lo hi none n).2.1=((HT.sIx n n hi:Nat):Int)/\(gX lo hi none n).2.2=1:=by
 refine⟨?_,?_,rfl⟩
 .cases lo with
  |none=>simp[gX,HT.sIx]
  |some i=>
   simp only[gX,HT.sIx,Option.getD_none,show (1:Int) > 0 by decide,if_true]
   by_cases h:i<0
   .simp only[h,if_true] <;> omega
   .simp only[h,if_false] <;> omega
 .cases hi with
  |none=>simp[gX,HT.sIx]
  |some i=>
   simp only[gX,HT.sIx,Option.getD_none,show (1:Int) > 0 by decide,if_true]
   by_cases h:i<0
   .simp only[h,if_true] <;> omega
   .simp only[h,if_false] <;> omega
theorem Mf (its:List Value) (lo hi:Option Int):slicePick its.toArray lo hi none=((its.drop (HT.sIx its.length 0 lo)).take (HT.sIx its.length its.length hi - HT.sIx its.length 0 lo)).toArray:=by
 obtain⟨h1,h2,h3⟩:=Pr lo hi its.toArray.size
 unfold slicePick
 rw[h1,h2,h3]
 simp only[sliceRange_one,pick_run,av] <;> rfl
noncomputable def bz5 (K:ac):V->Option Int->Option Int->Hp->VK->Prop:=λx lo hi H Q=>∃ a xs,x=.ref a/\SqL K H a xs /\ ∀ p,H p=none->Q (.ref p) (upd H p (.lst (Tj xs lo hi)))
theorem az2:SlR X (bz5 X.K):=by
 intro pins s U H x v vl vu lo hi sl Q I rx hs pl pu h
 obtain⟨a,xs,rfl,hx,q⟩:=h
 cases rx
 obtain⟨its,r,ht,hz⟩:=I.list hx
 have hlen:=r.length
 refine⟨"list", _,slot_list_getitem.lookup,ht.isList.typeIs,?_⟩
 refine wpAny_getItem_list_slice ht.isList hs pl pu .none (by simp) ?_ (by rw[av] <;> omega)
 rw[Mf,<- hlen]
 refine⟨.ref s.heap.objs.size,_,I.laid (t':=s.toks) (o:=.lst (Tj xs lo hi)) (λb ob q=>ag _ q) (ai _) ?_,rfl,q _ (I.hok.fresh (ai _))⟩
 exact⟨aY (Qv xs lo hi) hz,_,0,(r.drop (HT.sIx xs.length 0 lo)).take (HT.sIx xs.length xs.length hi - HT.sIx xs.length 0 lo),az _ rfl⟩
noncomputable def eqU (x:V) (u:Value):Bool:=match u with
 |.none=>eqV .non x
 |.bool b=>eqV (.bl b) x
 |.int i _=>eqV (.int i) x
 |.str z _=>eqV (.str z) x
 |_=>false
theorem ac8 {x y:V} {u:Value} (r:RelV y u) (f:Bv y=true):eqU x u=eqV y x:=by
 cases y with
 |non=>cases r;rfl
 |bl b=>cases r;rfl
 |int i=>obtain⟨t,rfl⟩:=r;rfl
 |str z=>obtain⟨t,rfl⟩:=r;rfl
 |_=>exact absurd (show false=true from f) au
theorem Gk {x:V}:∀ {xs:List V} {us:List Value},Vals xs us->xs.all Bv=true->us.any (eqU x)=xs.any λy=>eqV y x
 |_,_,.nil,_=>rfl
 | y::xs,u::us,.cons r t,f=>by
  rw[bR,aE] at f
  rw[gr,gr,ac8 r f.1,Gk t f.2]
theorem Fc {A:bq} {s:aj} {x:V} {v:Value} (rx:RelV x v) (fx:Bv x=true):∀ {xs:List V} {us:List Value},Vals xs us->xs.all Bv=true -> ∀ u∈us,bE A s u v (eqU x u)
 |_,_,.nil,_=>λu hu=>by cases hu
 | y::xs,u::us,.cons r t,f=>λu' hu=>by
  rw[bR,aE] at f
  rcases List.mem_cons.mp hu with rfl|hu
  .rw[ac8 r f.1];exact Om r rx f.1 fx
  .exact Fc rx fx t f.2 u' hu
noncomputable def inV (x:V) (xs:List V):Bool:=xs.any λy=>eqV y x
noncomputable def rIn (K:ac) (neg:Bool):R2:=λx y H Q=>∃ p xs,y=.ref p/\(SqL K H p xs\/SqT K H p xs)/\Bv x=true/\xs.all Bv=true/\Q (.bl (if neg then !inV x xs else inV x xs)) H
theorem Yl:OpR X (cB .In) (rIn X.K false):=by
 intro pins s U H x y v u Q I rx ry h
 obtain⟨p,xs,rfl,hq,fx,fs,q⟩:=h
 cases ry
 rcases hq with hq|hq
 .obtain⟨its,r,pl,hz⟩:=I.list hq
  refine SeqAt.in_listAt (eqU x) pl.isList (λw hw=>Fc rx fx r fs w (by simpa using hw)) ⟨.bl _,H,I,rfl,?_⟩
  rw[show its.toArray.any (eqU x)=its.any (eqU x) by simp,Gk r fs]
  exact q
 .obtain⟨its,r,pl,hz⟩:=I.tuple hq
  refine SeqAt.in_tupleAt (eqU x) pl (λw hw=>Fc rx fx r fs w (by simpa using hw)) ⟨.bl _,H,I,rfl,?_⟩
  rw[show its.toArray.any (eqU x)=its.any (eqU x) by simp,Gk r fs]
  exact q
theorem Pd:OpR X (cB .NotIn) (rIn X.K true):=by
 intro pins s U H x y v u Q I rx ry h
 obtain⟨p,xs,rfl,hq,fx,fs,q⟩:=h
 cases ry
 rcases hq with hq|hq
 .obtain⟨its,r,pl,hz⟩:=I.list hq
  refine SeqAt.notIn_listAt (eqU x) pl.isList (λw hw=>Fc rx fx r fs w (by simpa using hw)) ⟨.bl _,H,I,rfl,?_⟩
  rw[show its.toArray.any (eqU x)=its.any (eqU x) by simp,Gk r fs]
  exact q
 .obtain⟨its,r,pl,hz⟩:=I.tuple hq
  refine SeqAt.notIn_tupleAt (eqU x) pl (λw hw=>Fc rx fx r fs w (by simpa using hw)) ⟨.bl _,H,I,rfl,?_⟩
  rw[show its.toArray.any (eqU x)=its.any (eqU x) by simp,Gk r fs]
  exact q
theorem Oa:B6 X (.builtin "len") (λxs H Q=>∃ p ys,xs=[.ref p]/\(SqL X.K H p ys\/SqT X.K H p ys)/\Q (.int ys.length) H):=by
 intro pins s U H xs us Q I r h
 obtain⟨p,ys,rfl,hq,q⟩:=h
 obtain⟨u,rfl,rx⟩:=Dl r
 cases rx
 have hn:=Hu
 rcases hq with hq|hq
 .obtain⟨its,r',pl,hz⟩:=I.list hq
  have hlen:=r'.length
  exact Calls.call_len_list pl.isList (by simp only[av] <;> omega) ⟨.int ys.length,H,I.tok _,⟨s.toks+1,by rw[av,hlen]⟩,q⟩
 .obtain⟨its,r',pl,hz⟩:=I.tuple hq
  have hlen:=r'.length
  exact len_tuple pl (by simp only[av] <;> omega) ⟨.int ys.length,H,I.tok _,⟨s.toks+1,by rw[av,hlen]⟩,q⟩
theorem Ob:B6 X (.builtin "len") (λxs H Q=>∃ z,xs=[.str z]/\z.length<=sizeLine/\Q (.int z.length) H):=by
 intro pins s U H xs us Q I r h
 obtain⟨z,rfl,hz,q⟩:=h
 obtain⟨u,rfl,t,rfl⟩:=Dl r
 have hn:=Hu
 exact len_str (by omega) ⟨.int z.length,H,I.tok _,⟨_,rfl⟩,q⟩
theorem Oc:B6 X (.type "list") (λxs H Q=>∃ p ys,xs=[.ref p]/\(SqL X.K H p ys\/SqT X.K H p ys) /\ ∀ l,H l=none->Q (.ref l) (upd H l (.lst ys))):=by
 intro pins s U H xs us Q I r h
 obtain⟨p,ys,rfl,hq,q⟩:=h
 obtain⟨u,rfl,rx⟩:=Dl r
 cases rx
 have fin:∀ (its:List Value),Vals ys its->ys.length<=sizeLine -> ∀ (h':Heap) (c':Nat),(∀ b o',s.heap.get? b=some o'->h'.get? b=some o') ->
   h'.get? s.heap.objs.size=some { cls:=.type "list", dict:=none,data:=.seq its.toArray c',slots:=#[] }->EP X pins U Q (.ref s.heap.objs.size) { s with heap:=h' }:=λits r' hz h' c' kp e=>
  ⟨.ref s.heap.objs.size,_,I.laid (t':=s.toks) kp (ai _) (show ObjOk X.prog X.w _ h' _ (.lst ys) from⟨hz,its,c',r',e⟩),rfl,q _ (I.hok.fresh (ai _))⟩
 rcases hq with hq|hq
 .obtain⟨its,r',pl,hz⟩:=I.list hq
  have hlen:=r'.length
  obtain⟨o,ho,hc,n,hd⟩:=pl.isList
  exact call_list_seq p (.inl rfl) ho hc hd (λh' c' kp e=>fin its r' hz h' c' kp e) (by simp only[av] <;> omega)
 .obtain⟨its,r',pl,hz⟩:=I.tuple hq
  have hlen:=r'.length
  obtain⟨o,ho,hc,n,hd⟩:=pl
  exact call_list_seq p (.inr rfl) ho hc hd (λh' c' kp e=>fin its r' hz h' c' kp e) (by simp only[av] <;> omega)
theorem L6:B6 X (.type "tuple") (λxs H Q=>∃ p ys,xs=[.ref p]/\((SqL X.K H p ys /\ ∀ l,H l=none->Q (.ref l) (upd H l (.tup ys)))\/(SqT X.K H p ys/\Q (.ref p) H))):=by
 intro pins s U H xs us Q I r h
 obtain⟨p,ys,rfl,h⟩:=h
 obtain⟨u,rfl,rx⟩:=Dl r
 cases rx
 rcases h with ⟨hq,q⟩|⟨hq,q⟩
 .obtain⟨its,r',pl,hz⟩:=I.list hq
  have hlen:=r'.length
  refine call_tuple_list pl.isList (λh' kp=>?_) (by simp only[av] <;> omega)
  have I1:Inv X pins U H { s with heap:=h' }:=I.kept (t':=s.toks) kp
  have I2:Inv X pins U (upd H h'.objs.size (.tup ys)) { s with heap:=h'.push { cls:=.type "tuple", data:=.seq its.toArray } }:=
   I1.laid (t':=s.toks) (λb o e=>ag _ e) (ai _) (show ObjOk X.prog X.w _ _ _ (.tup ys) from⟨hz,its,r',IsTup.new _ _⟩)
  exact⟨.ref h'.objs.size,_,I2,rfl,q _ (I1.hok.fresh (ai _))⟩
 .obtain⟨its,r',pl,hz⟩:=I.tuple hq
  exact call_tuple_same pl ⟨.ref p,H,I,rfl,q⟩
noncomputable def tyV (K:ac) (T:String) (x:V) (H:Hp):Prop:=match x with
 |.str _=>T = "str"
 |.int _=>T = "int"
 | .ref p=>(T = "list" /\ ∃ xs,SqL K H p xs)\/(T = "tuple" /\ ∃ o,K.lookup p=some o/\o.cls=.type "tuple" /\ o.dict=none) \/
   (T = "dict" /\ ((∃ kvs,H p=some (.dK kvs)) \/ ∃ kvs,H p=some (.dT kvs)))\/(T = "set" /\ ∃ S n,H p=some (.set S n))
 |_=>False
theorem ao8 {pins:List (Addr×Obj)} {U:St} {H:Hp} {s:aj} {T:String} {x:V} {v:Value} (I:Inv X pins U H s) (r:RelV x v) (ty:tyV X.K T x H) :
  s.TypeIs v T /\ ∀ a,v=.ref a -> ∃ ob,s.heap.get? a=some ob/\ob.dict=none:=by
 cases x with
 |str z=>
  obtain⟨t,rfl⟩:=r
  cases (show T = "str" from ty)
  exact⟨typeIs_str s z t,λ_ e=>nomatch e⟩
 |int i=>
  obtain⟨t,rfl⟩:=r
  cases (show T = "int" from ty)
  exact⟨typeIs_int s i t,λ_ e=>nomatch e⟩
 |ref p=>
  cases r
  rcases ty with ⟨rfl,xs,hq⟩|⟨rfl,o,hk,hc,hd⟩|⟨rfl,hk⟩|⟨rfl,S,n,hk⟩
  .obtain⟨its,_,pl,_⟩:=I.list hq
   refine⟨pl.isList.typeIs,λa e=>?_⟩
   cases e
   obtain⟨o,n,e,c,hd,_⟩:=pl
   exact⟨o,e,hd⟩
  .refine⟨⟨o,I.kIn p o hk,hc⟩,λa e=>?_⟩
   cases e
   exact⟨o,I.kIn _ o hk,hd⟩
  .have z:∃ o,s.heap.get? p=some o/\o.ExactDict:=by
    rcases hk with ⟨kvs,hk⟩|⟨kvs,hk⟩
    .obtain⟨_,_,_,_,o,_,_,e,ex,_⟩:=I.hok p _ hk
     exact⟨o,e,ex⟩
    .obtain⟨_,_,_,_,o,_,_,e,ex,_⟩:=I.hok p _ hk
     exact⟨o,e,ex⟩
   obtain⟨o,e,ex⟩:=z
   refine⟨⟨o,e,ex.1⟩,λa e2=>?_⟩
   cases e2
   exact⟨o,e,ex.2.1⟩
  .obtain⟨o,_,_,_,e,ex,_⟩:=I.hok p _ hk
   refine⟨⟨o,e,ex.1⟩,λa e2=>?_⟩
   cases e2
   exact⟨o,e,ex.2.1⟩
 |_=>exact cb ty
variable {o e:Expr} {es:List Expr} {to:TE} {t:TA} {name:Str} {apos cpos:Pos} {T id:String} {r:V->List V->Hp->VK->Prop}
end
noncomputable def MtM (X:Cx) (id:String) (r:V->List V->Hp->VK->Prop):Prop:=
 ∀ (pins:List (Addr×Obj)) (s:aj) (U:St) (H:Hp) (x:V) (xs:List V) (v:Value) (us:List Value) (Q:VK),Inv X pins U H s->RelV x v->Vals xs us->r x xs H Q ->
  aN (model X.prog X.w) X.A (call (.builtin id) (v::us)) (EP X pins U Q) X.xe s
theorem Vals.one:∀ {x:V} {us:List Value},Vals [x] us -> ∃ u,us=[u]/\RelV x u
 |_,_,.cons r .nil=>⟨_,rfl,r⟩
theorem Vals.two:∀ {x y:V} {us:List Value},Vals [x,y] us -> ∃ u v,us=[u,v]/\RelV x u/\RelV y v
 |_,_,_,.cons r (.cons q .nil)=>⟨_,_,rfl,r,q⟩
section
variable {X:Cx} {pins:List (Addr×Obj)} {U:St} {H:Hp} {s:aj} {l b:Addr} {xs ys zs:List V}
theorem Inv.lset {its its':List Value} {n:Nat} {f:Array Value->Array Value} {t':Nat} (I:Inv X pins U H s) (hH:H l=some (.lst xs))
  (e:s.heap.get? l=some { cls:=.type "list", data:=.seq its.toArray n }) (hf:f its.toArray=its'.toArray) (hv:Vals ys its') (hz:ys.length<=sizeLine) (ht:s.toks<=t':=by first|exact ai _|exact bw _ _|assumption|omega|(dsimp only;omega)) :
  Inv X pins U (upd H l (.lst ys)) { s with heap:=s.heap.update l (a_ f),toks:=t' }:=by
 have q:=PySem.IsL.update e f
 rw[hf] at q
 refine I.write (x:=l) (e:=l) (by rw[hH];exact trivial) (.inl rfl) (λb' u hb hu=>(cy s.heap (a_ f) (ce hb)).trans hu) ⟨_,q⟩ ?_
 exact⟨hz,its',_,hv,q⟩
theorem Inv.lnew {its:List Value} {t':Nat} (I:Inv X pins U H s) (hv:Vals ys its) (hz:ys.length<=sizeLine) (ht:s.toks<=t':=by first|exact ai _|exact bw _ _|assumption|omega|(dsimp only;omega)) :
  Inv X pins U (upd H s.heap.objs.size (.lst ys)) { s with heap:=s.heap.push { cls:=.type "list", data:=.seq its.toArray },toks:=t' }:=
 I.laid (λ_ _ q=>ag _ q) (ai _) ⟨hz,its,0,hv,az _ rfl⟩ ht
theorem Inv.fresh (I:Inv X pins U H s):H s.heap.objs.size=none:=I.hok.fresh (ai _)
theorem Inv.lstM (I:Inv X pins U H s) (hH:H l=some (.lst xs)):xs.length<=sizeLine /\ ∃ (its:List Value) (n:Nat),Vals xs its/\xs.length=its.length/\s.heap.get? l=some { cls:=.type "list", data:=.seq its.toArray n }:=by
 obtain⟨z,its,n,r,e⟩:=I.hok l _ hH
 exact⟨z,its,n,r,r.length,e⟩
theorem ag7 {n:Nat} (h:n<=sizeLine):f6 n=false:=by
 unfold f6
 exact decide_eq_false (by omega)
end
section
variable {X:Cx}
def C6:V->List V->Hp->VK->Prop:=λx vs H Q=>∃ l xs y,x=.ref l/\vs=[y]/\H l=some (.lst xs)/\xs.length<sizeLine/\Q .non (upd H l (.lst (xs++[y])))
theorem Nr:MtM X "list.append" C6:=by
 intro pins s U H x vs v us Q I rx rv h
 obtain⟨l,xs,y,rfl,rfl,hH,hz,q⟩:=h
 cases rx
 obtain⟨u,rfl,ru⟩:=rv.one
 obtain⟨z,its,n,r,hl,e⟩:=I.lstM hH
 refine call_meets F.slot_list_append ⟨_,e,rfl⟩ F.entry_list_append (F.args_list_append_2 _ _) (PySem.list_append l its.toArray n u (by rw[av];omega)) ⟨e,?_⟩
 refine⟨.non,_,I.lset (its':=its++[u]) hH e (by simp) (r.append (.cons ru .nil)) ?_,rfl,q⟩
 rw[aW,cY]
 omega
noncomputable def J5:V->List V->Hp->VK->Prop:=λx vs H Q=>∃ l b xs zs,x=.ref l/\vs=[.ref b]/\H l=some (.lst xs)/\H b=some (.lst zs)/\xs.length+zs.length<=sizeLine/\Q .non (upd H l (.lst (xs++zs)))
theorem Yf:MtM X "list.extend" J5:=by
 intro pins s U H x vs v us Q I rx rv h
 obtain⟨l,b,xs,zs,rfl,rfl,hH,hB,hz,q⟩:=h
 cases rx
 obtain⟨u,rfl,ru⟩:=rv.one
 cases ru
 obtain⟨z,its,n,r,hl,e⟩:=I.lstM hH
 obtain⟨z2,its2,n2,r2,hl2,e2⟩:=I.lstM hB
 have hsz:its.toArray.size+its2.toArray.size<=sizeLine:=by rw[av,av];omega
 have hlong:¬ (!its.toArray.isEmpty&&f6 (its.toArray.size+its2.toArray.size))=true:=by
  rw[ag7 hsz,g6]
  exact au
 refine call_meets F.slot_list_extend ⟨_,e,rfl⟩ F.entry_list_extend (F.args_list_extend_2 _ _)
  (AutoSeq1.list_extend_list_list_0 l its.toArray n b its2.toArray n2 hlong (by rw[av];omega) (by omega)) ⟨e,e2,?_⟩
 refine⟨.non,_,I.lset (its':=its++its2) hH e (by simp) (r.append r2) ?_,rfl,q⟩
 rw[aW]
 omega
noncomputable def bs5:R2:=λx y H Q=>∃ l b xs zs,x=.ref l/\y=.ref b/\H l=some (.lst xs)/\H b=some (.lst zs)/\xs.length+zs.length<=sizeLine /\ ∀ p,H p=none->Q (.ref p) (upd H p (.lst (xs++zs)))
theorem op_cat:OpR X (dL .Add) bs5:=by
 intro pins s U H x y v u Q I rx ry h
 obtain⟨l,b,xs,zs,rfl,rfl,hH,hB,hz,q⟩:=h
 cases rx
 cases ry
 obtain⟨z,its,n,r,hl,e⟩:=I.lstM hH
 obtain⟨z2,its2,n2,r2,hl2,e2⟩:=I.lstM hB
 refine PySem.P.add_list e e2 ?_ (by rw[av,av];omega)
 have ea:its.toArray++its2.toArray=(its++its2).toArray:=by simp
 rw[ea]
 exact⟨.ref _,_,I.lnew (t':=s.toks) (r.append r2) (by rw[aW];omega),rfl,q _ I.fresh⟩
end
end L2
namespace Att
open PySem PySem.W PySem.Calls PyProof.Rows
theorem Jb {P:Params} {h:Heap}:∀ (ns:List Int) (vs:List Value),WellAll P h vs (ns.map WData.int)->jq vs ns:=by
 intro ns
 induction ns with
 |nil=>
  intro vs w
  rw[g_] at w
  cases w
  exact .nil
 |cons n ns ih=>
  intro vs w
  rw[aZ] at w
  cases w with
  |cons a b=>
   cases a
   exact .cons _ _ (ih _ b)
theorem Yz {l:OpenLaw} {n:Nat} (hn:l.most=some n) {P:Params} {h:Heap} {args:List WData} {vals:List Value}
  (hpre:l.row.toRowW.claim.pre args=true) (hwl:WellAll P h vals args) :
  ∃ a vs ns,vals=[aV a]/\args=[WData.list (ns.map WData.int)]/\h.get? a=some { cls:=.type "list", data:=.seq vs.toArray }/\jq vs ns/\ns.length<=n:=by
 have hsh:WShape.hasAll [] args [.list .int]=true:=(pre_splitW hpre).1
 have hc:l.pre.holds [] { args:=args }=true:=(pre_splitW hpre).2
 obtain⟨d,r,rfl,h1,h2⟩:=hasAllW_cons hsh
 obtain rfl:=hasAllW_nil h2
 obtain⟨xs,rfl,h3⟩:=hasW_list h1
 obtain⟨ns,rfl⟩:=items_int h3
 have hlen:ns.length<=n:=by
  unfold OpenLaw.pre at hc
  have h4:(WTm.not (.lt (.lit (.int (n:Int))) (.len (.arg 0)))).holds [] { args:=[.list (ns.map .int)] }=true:=by
   have h4:=(holds_andW hc).1
   rw[hn] at h4
   exact h4
  have h5:=condW_of h4 (w_not (w_lt w_lit (w_len_list (w_arg rfl))))
  rw[ae] at h5
  refine Nat.le_of_not_lt λq=>?_
  have q':(n:Int)<((ns.length:Nat):Int):=by omega
  first
   |(rw[decide_eq_true q'] at h5;exact absurd h5 (by decide))
   |(simp at h5;omega)
 cases hwl with
 |cons w1 w2=>
  cases w2
  cases w1 with
  |list ho hall=>exact⟨_,_,ns,rfl,rfl,ho,Jb ns _ hall,hlen⟩
theorem Yq (l:OpenLaw) (args:List WData):l.row.toRowW.claim.post args (.bool true) args=true:=
 postW_of (r:=l.row.toRowW) (X:=(true==true))
  (show WShape.has [] (.bool true) .bool=true by first|rfl|decide|simp[WShape.has,WShape.arms,WShape.armsAll])
  (show (WTm.eq .res (.lit (.bool true))).value [] { args:=args,res:=some (.bool true),after:=args }=some (.bool (true==true)) from w_eq_bool (w_res rfl) w_lit) rfl
theorem attach_call {l:OpenLaw} {n:Nat} {q:aS} {loose:List Str} {XP:(Str->Option Value)->Heap->Prop} {YP:bz->Heap->Prop} {d:DefRec}
  (hn:l.most=some n) (hdf:d.params.defaults=[])
  (call:∀ (w:bz) (s₀ s₁:aj) (mg mb:Str->Option Value) (fa:Addr) (o:Obj) (pm cd doc:Value) (a:Addr) (vs:List Value) (ns:List Int),
   Ground q loose [] XP w s₀ mg mb s₁.heap->YP w s₁.heap ->
   s₁.heap.get? fa=some o->o.data=.func (docDef d.name d.params d.body d.scope pm cd doc)->s₁.heap.CodeRec cd d.name->mg d.name=some (.ref fa) ->
   s₁.heap.get? a=some { cls:=.type "list", data:=.seq vs.toArray }->jq vs ns->ns.length<=n->s₁.gens = #[] ->
   gE (model l.prog w) mq (.call (.ref fa) ⟨[.ref a],[]⟩) (λr s'=>r=.ok (.ret (.bool true))/\OldK s₁.heap s'.heap/\s'.os=s₁.os/\jT s'.gens) s₁) :
  WalkO q loose XP YP l.row.toRowW d [] (λf vs=>PySem.call f vs):=by
 intro w s₀ s₁ mg mb G Y fa o pm cd doc dV kV ho hd hcd hD hmg hg args vals as hpre hlay hrd hwl hlo
 obtain rfl:dV=.none:=Dflts.none hD hdf
 obtain rfl:kV=.none:=Dflts.noKw hD
 obtain⟨a,vs,ns,rfl,rfl,hobj,hints,hlen⟩:=Yz hn hpre hwl
 refine enter_call (eI (call w s₀ s₁ mg mb fa o pm cd doc a vs ns G Y ho (fd_plain hd) hcd hmg hobj hints hlen hg) λr s' hq=>?_)
 obtain⟨rfl,h2,h3,h4⟩:=hq
 exact⟨.inl ⟨.bool true,.bool true,[],rfl,λ_=>rfl,.bool true,Yq l _,λ_=>⟨i3,λ_ hm=>(nomatch hm)⟩⟩,h2,h3,h4⟩
end Att
namespace L2
open PySem PySem.Spec PyProof.Rows
theorem N0:∀ {vs:List Value} {ns:List Int},jq vs ns->Vals (ns.map V.int) vs
 |_,_,.nil=>.nil
 |_,_,.cons n t h=>.cons ⟨t,rfl⟩ (N0 h)
def A8 (s:Stmt) (j:Nat):Stmt:=match s with
 |.ClassDef _ _ _ body _ _ _ _ _ _ _=>body.getD j (.Pass ⟨0,0,0,0⟩)
 |_=>.Pass ⟨0,0,0,0⟩
noncomputable def Bz (s:Stmt):Arguments:=match s with
 |.FunctionDef _ a _ _ _ _ _ _ _ _=>a
 |_=>{ posonlyargs:=[],args:=[],vararg:=none,kwonlyargs:=[],kw_defaults:=[],kwarg:=none,defaults:=[] }
def A0 (s:Stmt):List Stmt:=match s with
 |.FunctionDef _ _ b _ _ _ _ _ _ _=>b
 |_=>[]
def Ak (s:Stmt):Scope:=match s with
 |.FunctionDef _ _ _ _ _ _ sc _ _ _=>sc
 |_=>{ kind:=.function,names:=[],isGenerator:=false,isCoroutine:=false }
abbrev CX0:CXT:=λ_ _ _ _ _ _=>False
structure Fun (K:ac) (x qual:Str) (st:Stmt) (f:Addr) (fd:a9):Prop where
 ex:∃ (oc:Value) (od:Option Addr) (kV doc pm:Value) (an:Option Addr) (cdv ct:Value) (osl:Array (Option Value)),
  fd=cr x qual (Bz st) (A0 st) (Ak st) .none kV doc pm an cdv ct/\K.lookup f=some ⟨oc,od,.func fd,osl⟩/\dA K cdv qual=true
 kp:ba K (.ref f)=true
section
variable {P:aS} {w:bz} {K:ac} {mg:Str->Option Value} {base:Heap}
theorem Fun.binds {x qual:Str} {st:Stmt} {f:Addr} {fd:a9} {ps:List Str} (F:Fun K x qual st f fd)
  (h:∀ (kV doc pm:Value) (an:Option Addr) (cdv ct:Value) (us:List Value),us.length=ps.length->im (cr x qual (Bz st) (A0 st) (Ak st) .none kV doc pm an cdv ct) ⟨us,[]⟩=pure (ps.zip us)):Binds K fd ps []:=by
 obtain⟨oc,od,kV,doc,pm,an,cdv,ct,osl,rfl,lk,hcd⟩:=F.ex
 exact .all (h kV doc pm an cdv ct)
theorem Oo {x qual:Str} {st:Stmt} {f:Addr} {oc:Value} {od an:Option Addr} {osl:Array (Option Value)} {kV doc pm cdv ct:Value} (l:K.lookup f=some ⟨oc,od,.func (cr x qual (Bz st) (A0 st) (Ak st) .none kV doc pm an cdv ct),osl⟩)
  (c:dA K cdv qual=true) (k:ba K (.ref f)=true):Fun K x qual st f (cr x qual (Bz st) (A0 st) (Ak st) .none kV doc pm an cdv ct):=⟨⟨oc,od,kV,doc,pm,an,cdv,ct,osl,rfl,l,c⟩,k⟩
end
theorem ae3 {A B:Prop} (h:B):if false=true then A else B:=by
 rw[if_neg au]
 exact h
theorem Q6 {A B:Prop} (h:A):if true=true then A else B:=by
 rw[if_pos rfl]
 exact h
theorem Jd {c A B:Prop} [Decidable c] (h1:c->A) (h2:¬ c->B):if c then A else B:=by
 by_cases h:c
 .rw[if_pos h]
  exact h1 h
 .rw[if_neg h]
  exact h2 h
def Same (H H':Hp):Prop:=∀ b o,H b=some o->H' b=some o
theorem Same.refl (H:Hp):Same H H:=λ_ _ h=>h
theorem Same.trans {H H1 H2:Hp} (a:Same H H1) (b:Same H1 H2):Same H H2:=λc o h=>b c o (a c o h)
theorem Same.free {H H':Hp} (e:Same H H') {l:Addr} (h:H' l=Option.none):H l=Option.none:=by
 cases q:H l with
 |none=>rfl
 |some o=>
  rw[e l o q] at h
  cases h
noncomputable def Cx.comp (X:Cx) (N':List Str) (scope:Scope) (cl:List (Str×Addr)) (fp:List Addr) (C:Addr) (s:aj) (H:Hp) (xe:Value->aj->Prop):Cx:=
 {prog:=X.prog,w:=X.w,K:=X.K,mg:=X.mg,base:=X.base,A:=X.A,N:=N',s₀:=s,H₀:=H,env:=mO scope cl C X.env,outer:=X.stack,stack:=X.stack,
  ex:=fp,fn:=λx=>(cl.lookup x).isNone,calm:=X.calm,pn:=[],xe:=xe }
def Tg (srcs:List (Option Nat)) (U:St):St:=srcs.map λo=>o.bind λj=>(U[j]?).join
structure J9 (X:Cx) (N':List Str) (srcs:List (Option Nat)) (scope:Scope) (cl:List (Str×Addr)):Prop where
 clos:kq scope X.env=pure cl
 nocell:∀ y∈scope.names,y.2≠.cell
 kind:scope.kind=.function
 names:∀ y∈scope.names,y.2=.local->scope.names.lookup y.1=some .local
 sub:∀ x c,cl.lookup x=some c->X.env.cells.lookup x=some c
 has:∀ x,((iV scope X.env).names.lookup x=some .cell\/(iV scope X.env).names.lookup x=some .free) -> ∃ c,cl.lookup x=some c
 len:srcs.length=N'.length
 src:∀ (k j:Nat) (x:Str),N'[k]? = some x->srcs[k]? = some (some j)->X.N[j]? = some x/\(X.env.scope.names.lookup x=some .cell\/X.env.scope.names.lookup x=some .free) /\
  ((iV scope X.env).names.lookup x=some .cell\/(iV scope X.env).names.lookup x=some .free)
noncomputable def Xo (X:Cx) (ifs:List Expr) (t:TT):Prop:=
 ∀ (pins:List (Addr×Obj)) (s:aj) (U:St) (H:Hp) (Q:Bool->Hp->Prop),Inv X pins U H s->t U H Q ->
  aN (model X.prog X.w) X.A (forIn ifs true λc r=>if r=true then do let ok <- isTrue c X.env (eval c X.env);pure (fv ok) else pure (fv r)) (TP X pins U Q) X.xe s
def b07:TT:=λ_ H Q=>Q true H
theorem ai1 {X:Cx}:Xo X [] b07:=λ_ _ _ H _ I h=>wpAny_tests_nil ⟨H,I,h⟩
theorem ai2 {X:Cx} {c:Expr} {t:TT} (h:PT X c t):Xo X [c] t:=λpins s U H Q I q=>wpAny_tests_one (h pins s U H Q I q)
noncomputable def ao1 (srcs:List (Option Nat)) (wi:TI) (g:TG) (tc:TT) (te:TE):TE:=λU H Q=>wi U H λJ H1=>∀ D,H1 D=none ->
 ∃ W:Nat->Nat->St->Hp->Prop,(∃ m,W 0 m (Tg srcs U) (upd H1 D (.lst []))) /\ ∀ i m U' H',W i m U' H' ->
  (J.stop i H'/\Q (.ref D) H')\/(J.go i H' /\ ∃ N:St->Hp->Prop,(∀ U2 H2,N U2 H2 -> ∃ m',m'<m/\W (i+1) m' U2 H2) /\ ∀ x H2,J.yld i H' x H2->g x U' H2 λU3 H3=>tc U3 H3 λb H4=>if b=true then
    te U3 H4 λv H5=>∃ ys,H5 D=some (.lst ys)/\ys.length<sizeLine/\N U3 (upd H5 D (.lst (ys++[v])))
   else N U3 H4)
section
variable {prog:aS} {w:bz} {A:bq} {E:Value->aj->Prop} {R:ml->aj->Prop} {s:aj}
theorem Og {elt target iter:Expr} {ifs:List Expr} {scope:Scope} {pos:Pos} {it acc:Value} {env:Env} (I:Nat->aj->Prop)
  (turn:∀ n s,I n s->aN (model prog w) A (iO it) (λr s₁=>match r with
   |none=>R (.ok .next) s₁
   |some v=>aN (model prog w) A (iD target it v) (λ_ s₀=>aN (model prog w) A (lY target env v) (λ_ s₂=>
     aN (model prog w) A (forIn ifs true λc r=>if r=true then do let ok <- isTrue c env (eval c env);pure (fv ok) else pure (fv r)) (λok s₃=>
      if ok=true then aN (model prog w) A (eval elt env) (λx s₄=>
       aN (model prog w) A (call (.builtin "list.append") [acc,x]) (λ_ s₅=>∃ m,m<n/\I m s₅) (lN (model prog w) A env λe s'=>R (.error e) s') s₄) (lN (model prog w) A env λe s'=>R (.error e) s') s₃
      else ∃ m,m<n/\I m s₃) (lN (model prog w) A env λe s'=>R (.error e) s') s₂) (lN (model prog w) A env λe s'=>R (.error e) s') s₀) (lN (model prog w) A env λe s'=>R (.error e) s') s₁) (lN (model prog w) A env λe s'=>R (.error e) s') s)
  (n:Nat) (h:I n s) :
  gE (model prog w) A (.compLoop (.ListComp elt [⟨target,iter,ifs,0⟩] scope pos) 0 it acc env) R s:=by
 refine codeAny_loop rfl I (λn s hI=>?_) n h
 show aN _ A ((compTurn (.ListComp elt [⟨target,iter,ifs,0⟩] scope pos) 0 it acc env).onRaise (λx=>do lF x env;theTreesLotGoes x)) _ _ s
 refine wpAny_noted ?_
 rw[compTurn_list]
 refine af (eY (af (bN (turn n s hI) (λr s₁ h₁=>?_) λ_ _ h'=>h')))
 cases r with
 |none=>exact aq h₁
 |some v=>
  refine af (bN h₁ (λ_ s₀ h₀=>?_) λ_ _ h'=>h')
  refine af (bN h₀ (λ_ s₂ h₂=>af (bN h₂ (λok s₃ h₃=>?_) λ_ _ h'=>h')) λ_ _ h'=>h')
  cases ok with
  |false=>exact aq ⟨rfl,h₃⟩
  |true=>
   exact af (af (bN h₃ (λx s₄ h₄=>af (bN h₄ (λ_ s₅ h₅=>aq (aq ⟨rfl,h₅⟩)) λ_ _ h'=>h')) λ_ _ h'=>h'))
end
section
variable {X:Cx} {elt tg iter:Expr} {ifs:List Expr} {scope:Scope} {pos:Pos} {N':List Str} {srcs:List (Option Nat)} {cl:List (Str×Addr)} {wi:TI} {g:TG} {tc:TT} {te:TE}
theorem Ti {xe:Value->aj->Prop} {pins:List (Addr×Obj)} {U:St} {H:Hp} {s:aj} {fp:List Addr} {C D:Addr} {h₁:Heap} {tk:Nat} (S:J9 X N' srcs scope cl) (I:Inv X pins U H s) (f:∀ b∈fp,Ci X pins H b) (fo:∀ b∈fp,b<s.heap.objs.size)
  (hD:s.heap.objs.size<=D) (hC:s.heap.objs.size<=C) (hDC:C≠D) (hns:∃ m,h₁.Ns C m) (old:∀ b o,s.heap.get? b=some o->h₁.get? b=some o) (hacc:∃ n,h₁.get? D=some { cls:=.type "list", data:=.seq ([]:List Value).toArray n }) (ht:s.toks<=tk:=by first|exact ai _|exact bw _ _|assumption|omega|(dsimp only;omega)) :
  Inv (X.comp N' scope cl fp C s H xe) [] (Tg srcs U) (upd H D (.lst [])) { s with heap:=h₁,toks:=tk }:=by
 have hfD:=I.hok.fresh hD
 have ok:(X.comp N' scope cl fp C s H xe).Ok:=by
  refine⟨I.ok.mod,S.kind,I.ok.glob,I.ok.blt,hC,λx y c a b=>I.ok.inj x y c (S.sub x c a) (S.sub y c b),S.has,λx c hf hl=>?_,I.ok.hd,I.ok.frames,.inl rfl,λb hb=>⟨?_,λx c hl=>?_⟩,I.bs,aY I.ok.bsz I.sz,λb o e hb=>?_,λb hb hfs=>?_,I.stack,I.stkFree,aR⟩
  .have hl':cl.lookup x=some c:=hl
   have hf':(cl.lookup x).isNone=true:=hf
   rw[hl'] at hf'
   cases hf'
  .exact aQ (aJ (fo b hb) hC)
  .exact (f b hb).2.2.2.2.1 x c (S.sub x c hl)
  .rcases (f b hb).2.2.2.1 with z|z
   .exact I.ok.noex b o e z
   .exact absurd (aJ (aA e) (aY I.ok.bsz z)) (fG _)
  .rcases List.mem_cons.mp (I.stkSub b hfs) with z|z
   .exact (f b hb).2.1 z
   .exact (f b hb).2.2.1 z
 obtain⟨m0,hns⟩:=hns
 obtain⟨nn,hacc⟩:=hacc
 refine⟨ok,⟨rfl,ht⟩,I.bare,Un.laid old hD hfD,⟨m0,hns,λk x v e1 e2 e3=>?_⟩,λx c hl=>?_,?_,λx c hl=>?_,λp hp=>absurd (show p∈([]:List (Addr×Obj)) from hp) (by simp),I.hok.laid old hD ⟨bx _,[],nn,.nil,hacc⟩,?_⟩
 ·-- the captured names
  have e1:N'[k]? = some x:=e1
  have e2:(srcs.map λo=>o.bind λj=>(U[j]?).join)[k]? = some (some v):=e2
  rw[am] at e2
  cases hk:srcs[k]? with
  |none=>rw[hk] at e2;cases e2
  |some o=>
   rw[hk] at e2
   cases o with
   |none=>cases e2
   |some j=>
    have e2':(U[j]?).join=some v:=aD e2
    have e3':U[j]? = some (some v):=by
     cases hj:U[j]? with
     |none=>rw[hj] at e2';cases e2'
     |some y=>rw[hj] at e2';exact congrArg some e2'
    obtain⟨a1,a2,a3⟩:=S.src k j x e1 hk
    obtain⟨m,hn,hl⟩:=I.loc
    obtain⟨u,r,l⟩:=hl j x v a1 e3' (a2.elim (λz=>.inr (.inl z)) λz=>.inr (.inr z))
    refine⟨u,r,.inr ⟨a3,?_⟩⟩
    obtain⟨c,hc⟩:=S.has x a3
    refine⟨c,hc,?_⟩
    rcases l with ⟨z,_⟩|⟨_,c',hc',o,ho,hd⟩
    .have z':X.env.scope.names.lookup x=some .local:=z
     rcases a2 with q|q <;> rw[q] at z' <;> cases z'
    .have e:=S.sub x c hc
     rw[hc'] at e
     cases e
     exact⟨o,old _ o ho,hd⟩
 .obtain⟨v,o,ho,hd⟩:=I.cell x c (S.sub x c hl)
  exact⟨v,o,old _ o ho,hd⟩
 .show upd H D (.lst []) C=none
  rw[Ad hDC]
  exact I.hok.fresh hC
 .have hx:=S.sub x c hl
  obtain⟨v,o,ho,hd⟩:=I.cell x c hx
  rw[Ad (aQ (aJ (aA ho) hD))]
  exact I.freeC x c hx
 .show (Tg srcs U).length=N'.length
  unfold Tg
  rw[ae,S.len]
noncomputable def Bn (X:Cx) (scope:Scope) (cl:List (Str×Addr)) (use:Option (Value->Sem Unit)) (Q2:Value->aj->Prop) (D C:Addr):Value->aj->Prop:=
 lN (model X.prog X.w) X.A (mO scope cl C X.env) λe s'=>compPost (model X.prog X.w) X.A X.xe use Q2 (.ref D) C (.error e) s'
theorem M8 {pins:List (Addr×Obj)} {s:aj} {U:St} {H:Hp} {Q:VK} {use:Option (Value->Sem Unit)} {Q2:Value->aj->Prop} (hc:X.calm=true) (S:J9 X N' srcs scope cl) (hi:PI X tg iter wi)
  (hb:∀ fp C D s2 H2,Inv X pins U H2 s2->(∀ b∈fp,Ci X pins H2 b)->s2.heap.objs.size<=C->PG (X.comp N' scope cl fp C s2 H2 (Bn X scope cl use Q2 D C)) tg g/\Xo (X.comp N' scope cl fp C s2 H2 (Bn X scope cl use Q2 D C)) ifs tc/\PE (X.comp N' scope cl fp C s2 H2 (Bn X scope cl use Q2 D C)) elt te)
  (I:Inv X pins U H s) (h:ao1 srcs wi g tc te U H Q)
  (fin:∀ (D C:Addr) (H':Hp) (s':aj),Inv X pins U H' s'->(∃ m,s'.heap.Ns C m)->Ci X pins H' C->Q (.ref D) H'->compPost (model X.prog X.w) X.A X.xe use Q2 (.ref D) C (.ok .next) s')
  (hs:∀ x,fH iter X.env x=pure x) :
  aN (model X.prog X.w) X.A (comprehension (.ListComp elt [⟨tg,iter,ifs,0⟩] scope pos) scope X.env (firstIterPos [⟨tg,iter,ifs,0⟩] pos) (newList []) false (eval iter X.env) use) Q2 X.xe s:=by
 refine wpAny_comprehension_free rfl hs S.clos S.kind S.names (thn (hi pins s U H _ I h) λv s1 h1=>thn h1 λitv s2 h2=>?_)
 obtain⟨it,fp,tn,J,H2,e,I2,T,st2,f2,q2⟩:=h2
 subst e
 refine dE (wpAny_newFunctionEnv S.nocell (by intro y hy;simp at hy) (λh₁ hns₁ hsb₁=>?_) S.kind)
 dsimp only at hns₁ hsb₁ ⊢
 generalize hH2:s2.heap.push { cls:=.type "list", dict:=none,data:=.seq ([]:List Value).toArray }=G2 at hns₁ hsb₁ ⊢
 have hCe:G2.objs.size=s2.heap.objs.size+1:=by rw[<- hH2,dZ]
 have hDC:G2.objs.size≠s2.heap.objs.size:=by rw[hCe];exact f8 (cg _)
 have hCle:s2.heap.objs.size<=G2.objs.size:=by rw[hCe];exact df _
 have old:∀ b o,s2.heap.get? b=some o->h₁.get? b=some o:=λb o e=>
  hsb₁.extBut b o (aQ (aJ (aA e) hCle)) (ag _ (hH2▸ag _ e))
 have hacc:∃ n,h₁.get? s2.heap.objs.size=some { cls:=.type "list", data:=.seq ([]:List Value).toArray n }:=⟨_,hsb₁.extBut _ _ (ce hDC) (ag _ (hH2▸az _ rfl))⟩
 have fo:∀ b∈fp,b<s2.heap.objs.size:=λb hb=>by
  obtain⟨o,ho,_⟩:=T.obj _ _ st2 b hb
  exact aA ho
 have st3:tn 0 h₁:=T.keep _ _ _ st2 λb _ o e=>old b o e
 obtain⟨hg,ht,he⟩:=hb fp G2.objs.size s2.heap.objs.size s2 H2 I2 f2 hCle
 obtain⟨W,⟨m0,w0⟩,turn⟩:=q2 s2.heap.objs.size (I2.hok.fresh (ai _))
 have loop:∀ s3:aj,s3={ s2 with heap:=h₁,toks:=s2.toks+([]:List (Str×Value)).length } ->
   gE (model X.prog X.w) X.A (.compLoop (.ListComp elt [⟨tg,iter,ifs,0⟩] scope pos) 0 (.ref it) (.ref s2.heap.objs.size) (mO scope cl G2.objs.size X.env))
    (compPost (model X.prog X.w) X.A X.xe use Q2 (.ref s2.heap.objs.size) G2.objs.size) s3:=by
  rintro s3 rfl
  have I3:Inv (X.comp N' scope cl fp G2.objs.size s2 H2 (Bn X scope cl use Q2 s2.heap.objs.size G2.objs.size)) [] (Tg srcs U) (upd H2 s2.heap.objs.size (.lst [])) { s2 with heap:=h₁,toks:=s2.toks+([]:List (Str×Value)).length }:=
   Ti S I2 f2 fo (ai _) hCle hDC ⟨_,hns₁⟩ old hacc
  have stat:∀ {H':Hp},(∀ b∈fp,H' b=none) -> ∀ b∈fp,Ci (X.comp N' scope cl fp G2.objs.size s2 H2 (Bn X scope cl use Q2 s2.heap.objs.size G2.objs.size)) [] H' b:=λhn b hb=>
   ⟨hn b hb,aQ (aJ (fo b hb) hCle),(λz=>(List.mem_cons.mp (I2.stkSub b z)).elim (f2 b hb).2.1 (f2 b hb).2.2.1),.inl hb,λx c hl=>(f2 b hb).2.2.2.2.1 x c (S.sub x c hl),λp hp=>absurd (show p∈([]:List (Addr×Obj)) from hp) (by simp)⟩
  refine Og (λn s'=>∃ i U' H',Inv (X.comp N' scope cl fp G2.objs.size s2 H2 (Bn X scope cl use Q2 s2.heap.objs.size G2.objs.size)) [] U' H' s'/\tn i s'.heap/\(∀ b∈fp,H' b=none)/\W i n U' H') ?_ m0
   ⟨0,_,_,I3,st3,λb hb=>by rw[Ad (aQ (fo b hb))];exact (f2 b hb).1,w0⟩
  rintro n s4 ⟨i,U4,H4,I4,st4,fr4,w4⟩
  rcases turn i n U4 H4 w4 with ⟨stop,qn⟩|⟨go,NN,hNN,step⟩
  .refine thn (T.done (X.comp N' scope cl fp G2.objs.size s2 H2 (Bn X scope cl use Q2 s2.heap.objs.size G2.objs.size)) rfl rfl rfl hc i [] s4 U4 H4 _ I4 (stat fr4) st4 stop) λr s5 ⟨hr,I5⟩=>?_
   subst hr
   obtain⟨m5,hn5,_⟩:=id I5.loc
   have I6:Inv X pins U H4 s5:=I2.call' (ch:=fp) I5.os I5.base I5.hok I5.bare λb hb=>⟨(f2 b hb).2.2.2.1,(f2 b hb).2.1,(f2 b hb).2.2.2.2.1,(f2 b hb).2.2.2.2.2⟩
   exact fin _ _ H4 s5 I6 ⟨m5,hn5⟩ (I2.fpOk hCle I5.free) qn
  .refine thn (T.item (X.comp N' scope cl fp G2.objs.size s2 H2 (Bn X scope cl use Q2 s2.heap.objs.size G2.objs.size)) rfl rfl rfl hc i [] s4 U4 H4 _ I4 (stat fr4) st4 go) λr s5 ⟨u,hr,h5⟩=>?_
   subst hr
   refine thn h5 λ_ s6 ⟨x,H6,I6,r6,y6,st6,fr6⟩=>?_
   have I6':=I6.pinned (stat fr6) (T.obj _ _ st6)
   refine thn (hg _ s6 U4 H6 x u _ I6' r6 (step x H6 y6)) λ_ s7 ⟨U7,H7,I7,q7⟩=>?_
   have again:∀ {s9:aj} {H9:Hp},Inv (X.comp N' scope cl fp G2.objs.size s2 H2 (Bn X scope cl use Q2 s2.heap.objs.size G2.objs.size)) ([]++Ib fp s6.heap) U7 H9 s9->NN U7 H9 ->
     ∃ m,m<n /\ ∃ i U' H',Inv (X.comp N' scope cl fp G2.objs.size s2 H2 (Bn X scope cl use Q2 s2.heap.objs.size G2.objs.size)) [] U' H' s9/\tn i s9.heap/\(∀ b∈fp,H' b=none)/\W i m U' H':=λ{s9 H9} I9 n9=>by
    obtain⟨m',hm,w9⟩:=hNN U7 H9 n9
    refine⟨m',hm,i+1,U7,H9,I9.unpinned,T.keep _ _ _ st6 λb hb o e=>(I9.pin (b,o) (aP _ (aP _ (Ek hb e)))).1,λb hb=>?_,w9⟩
    obtain⟨o,e,d⟩:=T.obj _ _ st6 b hb
    exact (I9.pin (b,o) (aP _ (aP _ (Ek hb e)))).2.1
   refine thn (ht _ s7 U7 H7 _ I7 q7) λb s8 ⟨H8,I8,q8⟩=>?_
   cases b with
   |false=>
    rw[if_neg au] at q8
    exact again I8 q8
   |true=>
    rw[if_pos rfl] at q8
    refine thn (he _ s8 U7 H8 _ I8 q8) λy s9 ⟨v9,H9,I9,r9,ys,hD,hlen,w9⟩=>?_
    refine thn (Nr (X:=X.comp N' scope cl fp G2.objs.size s2 H2 (Bn X scope cl use Q2 s2.heap.objs.size G2.objs.size)) ([]++Ib fp s6.heap) s9 U7 H9 (.ref s2.heap.objs.size) [v9] (.ref s2.heap.objs.size) [y] (λ_ H'=>H'=upd H9 s2.heap.objs.size (.lst (ys++[v9]))) I9 rfl (.cons r9 .nil)
     ⟨_,ys,v9,rfl,rfl,hD,hlen,rfl⟩) λ_ s10 ⟨_,H10,I10,_,e10⟩=>?_
    subst e10
    exact again I10 w9
 exact codeAny_compStart_list (loop _ rfl) (T.self X.A 0 _ _ _ st3 (loop _ rfl))
theorem ab9 {pins:List (Addr×Obj)} {s:aj} {U:St} {H:Hp} {Q:VK} (hc:X.calm=true) (S:J9 X N' srcs scope cl) (hi:PI X tg iter wi)
  (hb:∀ Q2 fp C D s2 H2,Inv X pins U H2 s2->(∀ b∈fp,Ci X pins H2 b)->s2.heap.objs.size<=C->PG (X.comp N' scope cl fp C s2 H2 (Bn X scope cl none Q2 D C)) tg g/\Xo (X.comp N' scope cl fp C s2 H2 (Bn X scope cl none Q2 D C)) ifs tc/\PE (X.comp N' scope cl fp C s2 H2 (Bn X scope cl none Q2 D C)) elt te)
  (I:Inv X pins U H s) (h:ao1 srcs wi g tc te U H Q) (hs:∀ x,fH iter X.env x=pure x) :
  aN (model X.prog X.w) X.A (eval (.ListComp elt [⟨tg,iter,ifs,0⟩] scope pos) X.env) (EP X pins U Q) X.xe s:=by
 rw[eval_ListComp]
 refine M8 (use:=none) hc S hi (λfp C D s2 H2=>hb _ fp C D s2 H2) I h (λD C H' s' I' ns fo q=>?_) hs
 obtain⟨m,hn⟩:=ns
 obtain⟨f0,f1,f2,f3,f4,f5⟩:=fo
 exact⟨m,hn,λh' sb=>⟨.ref D,H',I'.turned (t':=s'.toks) (λb o hb e=>(sb.2 b hb).trans e) f0 f1 f3 f4 f5,rfl,q⟩⟩
theorem ab8 {i:Nat} {x:Str} {pos' spos:Pos} {pins:List (Addr×Obj)} {s:aj} {U:St} {H:Hp} {D:Ly} (hc:X.calm=true) (hN:X.N.Nodup) (hx:X.N[i]? = some x) (hl:X.env.scope.names.lookup x=some .local) (S:J9 X N' srcs scope cl) (hi:PI X tg iter wi)
  (hb:∀ us Q2 fp C D s2 H2,Inv X pins U H2 s2->(∀ b∈fp,Ci X pins H2 b)->s2.heap.objs.size<=C->PG (X.comp N' scope cl fp C s2 H2 (Bn X scope cl us Q2 D C)) tg g/\Xo (X.comp N' scope cl fp C s2 H2 (Bn X scope cl us Q2 D C)) ifs tc/\PE (X.comp N' scope cl fp C s2 H2 (Bn X scope cl us Q2 D C)) elt te)
  (I:Inv X pins U H s) (h:bi7 (ao1 srcs wi g tc te) (ad5 i) D U H)
  (hsw:jh (.ListComp elt [⟨tg,iter,ifs,0⟩] scope pos) (some (.Name x pos')) spos.line X.env=pure true) (hs:∀ x,fH iter X.env x=pure x) :
  aN (model X.prog X.w) X.A (exec (.Assign [.Name x pos'] (.ListComp elt [⟨tg,iter,ifs,0⟩] scope pos) spos) X.env) (SP X pins D) X.xe s:=by
 rw[exec_Assign_Name_used _ _ _ _ hsw]
 refine af (eY (af ?_))
 show aN _ X.A (do let _ <- comprehension (.ListComp elt [⟨tg,iter,ifs,0⟩] scope pos) scope X.env _ (newList []) false (eval iter X.env) (some (lY (.Name x pos') X.env))) _ _ s
 refine af (thn (M8 (use:=some (lY (.Name x pos') X.env)) (Q:=λv H'=>D.nx (U.set i (some v)) H') (Q2:=λ_ s'=>SP X pins D .next s') hc S hi (λfp C D s2 H2=>hb _ _ fp C D s2 H2) I h (λL C H' s' I' ns fo q=>?_) hs) λ_ s' hq=>aq (aq hq))
 obtain⟨m,hn⟩:=ns
 obtain⟨f0,f1,f2,f3,f4,f5⟩:=fo
 obtain⟨oC,es,ep,hoC,hd,hr⟩:=id hn
 have I2:Inv X (pins++[(C,oC)]) U H' s':=I'.pins_of λp hp=>(List.mem_append.mp hp).elim (λz=>I'.pin p (aP _ z)) λz=>by
  have z':p=(C,oC):=by simpa using z
  subst z'
  exact⟨hoC,f0,f1,f2,λv e=>by rw[hd] at e;cases e⟩
 refine wpAny_assign_Name (G6 (i:=i) (v:=.ref L) I2 hN hx (.inl hl) rfl (λs2 I3=>?_) (.inr hl))
 have hoC':=(I3.pin (C,oC) (aP _ (aP _ (by simp)))).1
 refine⟨m,⟨oC,es,ep,hoC',hd,hr⟩,λh' sb=>?_⟩
 exact⟨_,H',(I3.unpinned).turned (t':=s2.toks) (λb o hb e=>(sb.2 b hb).trans e) f0 f1 f3 f4 f5,q⟩
end
def Its (x:Str):It:=⟨λi _=>i<x.cps.size,λi H v H'=>H'=H /\ ∃ c,x.cps[i]? = some c/\v=.str ⟨#[c]⟩,λi _=>i=x.cps.size⟩
theorem ao6 {P:aS} {w:bz} {K:ac} {tg:Expr} (it:Addr) (x:Str) (t:Tok) (ty:String) (hty:ty = "str_ascii_iterator" \/ ty = "str_iterator") :
  Lz P w K tg (Its x) [it] it (λi h=>h.IsStrIter it ty x t i) where
 mem:=by simp
 obj:=λi h st b hb=>by
  have e:b=it:=by simpa using hb
  subst e
  obtain⟨o,e,c,d⟩:=st
  exact⟨o,e,λv z=>by rw[d] at z;cases z⟩
 keep:=λi h h' st k=>by
  obtain⟨o,e,r⟩:=st
  exact⟨o,k it (by simp) o e,r⟩
 item:=by
  intro X hP hw hK hc i pins s U H E I hf st hg
  subst hP hw hK
  obtain⟨f0,f1,f2,f3,f4,f5⟩:=hf it (by simp)
  have W:mX X.prog X.w X.A it [it] [it] x.cps.size (SignAt x) (λi h=>h.IsStrIter it ty x t i):=by
   rcases hty with rfl|rfl
   .exact Walks.strAscii (I.ok.hd hc) it x t
   .exact Walks.strWide (I.ok.hd hc) it x t
  refine bG (ai _) (W.item i s _ _ hg st λv h' tk hv st' kk htk=>?_)
  obtain⟨c,u,hcp,rfl⟩:=hv
  have I1:Inv X pins U H { s with heap:=h',toks:=tk }:=I.turned (λb o hb e=>kk b o (by simpa using hb) e) f0 f1 f3 f4 f5
  obtain⟨o,e,cc,d⟩:=id st'
  exact⟨_,rfl,Km (s:={ s with heap:=h',toks:=tk }) e cc d (by rcases hty with rfl|rfl <;> decide) ⟨.str ⟨#[c]⟩,H,I1,⟨_,rfl⟩,⟨rfl,c,hcp,rfl⟩,st',λb hb=>(hf b hb).1⟩⟩
 done:=by
  intro X hP hw hK hc i pins s U H E I hf st hg
  subst hP hw hK
  obtain⟨f0,f1,f2,f3,f4,f5⟩:=hf it (by simp)
  have hg:i=x.cps.size:=hg
  subst hg
  have W:mX X.prog X.w X.A it [it] [it] x.cps.size (SignAt x) (λi h=>h.IsStrIter it ty x t i):=by
   rcases hty with rfl|rfl
   .exact Walks.strAscii (I.ok.hd hc) it x t
   .exact Walks.strWide (I.ok.hd hc) it x t
  exact bG (ai _) (W.done s _ _ st λh' tk kk htk=>⟨rfl,I.turned (λb o hb e=>kk b o (by simpa using hb) e) f0 f1 f3 f4 f5⟩)
 self:=by
  intro A i s Q E st h
  rcases hty with rfl|rfl
  .exact wpAny_pyIter_striter_ascii st h
  .exact wpAny_pyIter_striter_wide st h
section
variable {X:Cx} {pins:List (Addr×Obj)} {U:St} {H:Hp} {s:aj} {h':Heap} {ch:List Addr} {t':Nat}
theorem Inv.turnedL (I:Inv X pins U H s) (hf:∀ b∈ch,Ci X pins H b) (k:∀ b o,b∉ch->s.heap.get? b=some o->h'.get? b=some o) (ht:s.toks<=t':=by first|exact ai _|exact bw _ _|assumption|omega|(dsimp only;omega)):Inv X pins U H { s with heap:=h',toks:=t' }:=by
 have tr:∀ b ob,H b=some ob->b∉ch:=λb ob e hb=>by rw[(hf b hb).1] at e;cases e
 refine I.step (g':=s.gens) (d':=s.drawn) (ch:=ch) (λb hb=>⟨(hf b hb).2.2.2.1,(hf b hb).2.1,(hf b hb).2.2.2.2.1,(hf b hb).2.2.2.2.2⟩) (λb o _ _ hb e _=>k b o hb e) (λb o _ _ hb e _=>⟨o.slots,k b o hb e⟩) (λ_ _ _ _ n=>n) (λb o hb e=>⟨o,k b o hb e⟩)
  (λ_ _ e=>e) (λ_ _ _ e=>e) (λb ps e=>⟨#[],by rw[e];simp⟩) (λm hm=>?_) (λb ob e=>?_) I.bare
 .obtain⟨o,es,ep,ho,r⟩:=hm
  exact⟨o,es,ep,k _ o (λz=>(hf _ z).2.1 rfl) ho,r⟩
 .refine (I.hok b ob e).stay (λb' w' hc' q=>k b' w' ?_ q) (λ_ q=>q) λ_ _ q=>q
  rcases hc' with rfl|hc'
  .exact tr _ _ e
  .exact tr _ _ hc'
theorem Inv.turnedN {T:Addr} {o:HO} (I:Inv X pins U H s) (hf:∀ b∈ch,Ci X pins H b) (k:∀ b o,b∉ch->s.heap.get? b=some o->h'.get? b=some o) (hT:s.heap.objs.size<=T) (new:ObjOk X.prog X.w (upd H T o) h' T o) (ht:s.toks<=t':=by first|exact ai _|exact bw _ _|assumption|omega|(dsimp only;omega)) :
  Inv X pins U (upd H T o) { s with heap:=h',toks:=t' }:=by
 have tr:∀ b ob,H b=some ob->b∉ch:=λb ob e hb=>by rw[(hf b hb).1] at e;cases e
 have hn:=I.hok.fresh hT
 have nT:∀ {b o},s.heap.get? b=some o->b≠T:=λe=>aQ (aJ (aA e) hT)
 refine I.step (g':=s.gens) (d':=s.drawn) (ch:=ch) (λb hb=>⟨(hf b hb).2.2.2.1,(hf b hb).2.1,(hf b hb).2.2.2.2.1,(hf b hb).2.2.2.2.2⟩) (λb o _ _ hb e _=>k b o hb e) (λb o _ _ hb e _=>⟨o.slots,k b o hb e⟩) (λb o _ e n=>by rw[Ad (nT e)];exact n) (λb o hb e=>⟨o,k b o hb e⟩)
  (λb zs e=>by rw[Ad (Ai e hn)];exact e) (λb o zs e=>by rw[Ad (Ai e hn)];exact e) (λb ps e=>⟨#[],by rw[Ad (Ai e hn),e];simp⟩) (λm hm=>?_) (λb ob e=>?_) I.bare
 .obtain⟨o,es,ep,ho,r⟩:=hm
  exact⟨o,es,ep,k _ o (λz=>(hf _ z).2.1 rfl) ho,r⟩
 .by_cases hb:b=T
  .subst hb
   rw[Ab] at e
   cases e
   exact new
  .rw[Ad hb] at e
   refine (I.hok b ob e).stay (λb' w' hc' q=>k b' w' ?_ q) (λb' q=>by rw[Ad (Ai q hn)];exact q) λb' zs q=>by rw[Ad (Ai q hn)];exact q
   rcases hc' with rfl|hc'
   .exact tr _ _ e
   .exact tr _ _ hc'
end
theorem Yw {bs:List Bool}:(ay bs.length).all (λi=>bs.getD i true)=bs.all λb=>b:=by
 rw[bX,be,be]
 constructor
 .intro h b hb
  obtain⟨i,hi,e⟩:=List.mem_iff_getElem.mp hb
  have q:=h i (List.mem_range.mpr hi)
  rw[ar,ah hi,e] at q
  exact q
 .intro h i hi
  have hi:=List.mem_range.mp hi
  rw[ar,ah hi]
  exact h _ (cM hi)
section
variable {X:Cx}
theorem ab4 (hc:X.calm=true):B6 X (.builtin "all") (λxs H Q=>∃ (p:Addr) (bs:List Bool),xs=[.ref p]/\SqL X.K H p (bs.map V.bl)/\Q (.bl (bs.all λb=>b)) H):=by
 intro pins s U H xs us Q I r h
 obtain⟨p,bs,rfl,hq,q⟩:=h
 obtain⟨u,rfl,ru⟩:=r.one
 cases ru
 obtain⟨its,rv,pl,hz⟩:=I.list hq
 have hlen:=rv.length
 rw[ae] at hlen
 obtain⟨o,n,e,c,hd,ds⟩:=id pl
 have plt:=aA e
 refine bG (ai _) (call_all_walk (jj pl.isList ?_))
 refine⟨s.heap.objs.size,_,_,_,_,_,(λi=>bs.getD i true),rfl,Walks.list (A:=X.A.in1) (show X.A.in1.handled=none from I.ok.hd hc) s.heap.objs.size p (aQ plt) its.toArray,⟨⟨_,az _ rfl,rfl,rfl⟩,pl.isList.push _⟩,?_,λh' tk kk htk=>?_⟩
 .intro i v s' Q' E' hv hq'
  have hv:its[i]? = some v:=by simpa using hv
  have hi:i<bs.length:=by rw[hlen];exact (List.getElem?_eq_some_iff.mp hv).1
  have e1:(bs.map V.bl)[i]? = some (.bl bs[i]):=by simp[hi]
  obtain⟨u',hu',ru'⟩:=rv.get e1
  rw[hv] at hu'
  cases hu'
  cases ru'
  have e2:bs.getD i true=bs[i]:=by simp[ar,hi]
  have hq':Q' (bs.getD i true) s':=hq'
  rw[e2] at hq'
  exact eC hq'
 .have e3:(ay its.toArray.size).all (λi=>bs.getD i true)=bs.all λb=>b:=by
   rw[av,<- hlen]
   exact Yw
  rw[e3]
  refine⟨.bl _,H,I.kept (t':=tk) λb o' eb=>kk b o' ?_ (ag _ eb),rfl,q⟩
  have hb:b≠s.heap.objs.size:=aQ (aA eb)
  simpa using hb
theorem ab5:B6 X (.builtin "isinstance") (λxs H Q=>∃ x T t b,xs=[x,.ty T]/\TyOf X.K H x t/\d6 X.K t (.type T)=some b/\Q (.bl b) H):=by
 intro pins s U H xs us Q I r h
 obtain⟨x,T,t,b,rfl,ty,e,q⟩:=h
 obtain⟨u,v,rfl,ru,rv⟩:=r.two
 cases rv
 exact bG (ai _) (Nl I ru ty e λtk htk=>⟨.bl b,H,I.tok tk htk,rfl,q⟩)
theorem Ym:OpR X (cB .LtE) (λx y H Q=>∃ i j,x=.str i/\y=.str j/\Q (.bl (!decide (j.cps.toList<i.cps.toList))) H):=by
 intro pins s U H x y v u Q I rx ry h
 obtain⟨i,j,rfl,rfl,q⟩:=h
 obtain⟨t,rfl⟩:=rx
 obtain⟨t',rfl⟩:=ry
 exact PySem.P.le_str ⟨.bl _,H,I,rfl,q⟩
theorem at9:MtR X "int.bit_length" (λx xs H Q=>∃ i,x=.int i/\xs=[]/\Q (.int (ip i:Nat)) H):=by
 intro pins s U H x xs v us Q I rx rs h
 obtain⟨i,rfl,rfl,q⟩:=h
 obtain⟨t,rfl⟩:=rx
 cases rs
 exact call_gives F.slot_int_bit_length (typeIs_int s i t) F.entry_int_bit_length (F.args_int_bit_length_1 _) (AutoIntG2.int_bit_length_int_0 i t) ⟨.int _,H,I.tok _,⟨_,rfl⟩,q⟩
end
noncomputable def Q0 (xs ys:List V):Bool:=decide (xs.length=ys.length)&&(ay xs.length).all λj=>eqV (xs.getD j .non) (ys.getD j .non)
theorem E4 {xs ys:List V} (h:xs.length≠ys.length):Q0 xs ys=false:=by
 unfold Q0
 rw[decide_eq_false h]
 rfl
noncomputable def bi4 (K:ac) (neg:Bool):R2:=λx y H Q=>∃ a b xs ys,x=.ref a/\y=.ref b/\SqL K H a xs/\SqL K H b ys/\xs.all Bv=true/\ys.all Bv=true/\Q (.bl (if neg then !Q0 xs ys else Q0 xs ys)) H
section
variable {X:Cx}
theorem Kt {A:bq} {s:aj} {xs ys:List V} {us ws:List Value} (rx:Vals xs us) (ry:Vals ys ws) (fx:xs.all Bv=true) (fy:ys.all Bv=true) (j:Nat) (h1:j<us.toArray.size) (h2:j<ws.toArray.size) :
  bE A s us.toArray[j] ws.toArray[j] (eqV (xs.getD j .non) (ys.getD j .non)):=by
 have e1:=rx.length
 have e2:=ry.length
 have h1':j<us.length:=by simpa using h1
 have h2':j<ws.length:=by simpa using h2
 have a1:xs[j]? = some (xs[j]'(by omega)):=by simp
 have a2:ys[j]? = some (ys[j]'(by omega)):=by simp
 obtain⟨u,hu,ru⟩:=rx.get a1
 obtain⟨v,hv,rv⟩:=ry.get a2
 have b1:us.toArray[j]=u:=by
  have:us[j]? = some us[j]:=by simp
  rw[this] at hu
  simpa using aD hu
 have b2:ws.toArray[j]=v:=by
  have:ws[j]? = some ws[j]:=by simp
  rw[this] at hv
  simpa using aD hv
 have c1:xs.getD j .non=xs[j]'(by omega):=by rw[ar,a1];rfl
 have c2:ys.getD j .non=ys[j]'(by omega):=by rw[ar,a2];rfl
 rw[b1,b2,c1,c2]
 exact Om ru rv (List.all_eq_true.mp fx _ (cM _)) (List.all_eq_true.mp fy _ (cM _))
theorem bc8 (hu:X.A.units<cLine):OpR X (cB .Eq) (bi4 X.K false):=by
 intro pins s U H x y v u Q I rx ry h
 obtain⟨a,b,xs,ys,rfl,rfl,qa,qb,fx,fy,q⟩:=h
 cases rx
 cases ry
 obtain⟨its,r,pl,hz⟩:=I.list qa
 obtain⟨its2,r2,pl2,hz2⟩:=I.list qb
 have e1:=r.length
 have e2:=r2.length
 by_cases hl:xs.length=ys.length
 .refine SeqAt.eq_listAt (e:=λj=>eqV (xs.getD j .non) (ys.getD j .non)) pl.isList pl2.isList (by simp;omega) hu (λj h1 h2=>Kt r r2 fx fy j h1 h2) ⟨.bl _,H,I,rfl,?_⟩
  have e:Q0 xs ys=(ay its.toArray.size).all λj=>eqV (xs.getD j .non) (ys.getD j .non):=by
   unfold Q0
   rw[decide_eq_true hl,av,<- e1]
   rfl
  rw[<- e]
  exact q
 .refine SeqAt.eq_list_lengthsAt pl.isList pl2.isList (by simp;omega) hu ⟨.bl _,H,I,rfl,?_⟩
  rw[E4 hl] at q
  exact q
theorem bd3 (hu:X.A.units<cLine):OpR X (cB .NotEq) (bi4 X.K true):=by
 intro pins s U H x y v u Q I rx ry h
 obtain⟨a,b,xs,ys,rfl,rfl,qa,qb,fx,fy,q⟩:=h
 cases rx
 cases ry
 obtain⟨its,r,pl,hz⟩:=I.list qa
 obtain⟨its2,r2,pl2,hz2⟩:=I.list qb
 have e1:=r.length
 have e2:=r2.length
 by_cases hl:xs.length=ys.length
 .refine SeqAt.RcNeAt.lists (e:=λj=>eqV (xs.getD j .non) (ys.getD j .non)) pl.isList pl2.isList (by simp;omega) hu (λj h1 h2=>Kt r r2 fx fy j h1 h2) _ _ _ _ ⟨.bl _,H,I,rfl,?_⟩
  have e:Q0 xs ys=(ay its.toArray.size).all λj=>eqV (xs.getD j .non) (ys.getD j .non):=by
   unfold Q0
   rw[decide_eq_true hl,av,<- e1]
   rfl
  rw[<- e]
  exact q
 .refine iI pl.isList pl2.isList (by simp;omega) hu _ _ _ _ ⟨.bl _,H,I,rfl,?_⟩
  rw[E4 hl] at q
  exact q
end
theorem af3 {cl:List (Str×Addr)} {x:Str} (h:x∈cl.map (·.1)):∃ c,cl.lookup x=some c:=by
 induction cl with
 |nil=>simp at h
 |cons p r ih=>
  obtain⟨n,a⟩:=p
  rw[jB]
  cases e:x==n with
  |true=>exact⟨a,rfl⟩
  |false=>
   refine ih ?_
   rcases List.mem_cons.mp h with q|q
   .rw[show x=n from q] at e;simp at e
   .exact q
section
variable {X:Cx} {e:Expr} {te:TE} {lo hi:Option Expr} {tl th:TO} {pos p2:Pos}
theorem Vp {ys:List Str}:∀ {us:List Value},Vals (ys.map V.str) us->StrsAre us ys:=by
 induction ys with
 |nil=>intro us r;rw[g_] at r;cases r;exact .nil
 |cons y ys ih=>
  intro us r
  rw[aZ] at r
  cases r with
  |cons r1 r2=>
   obtain⟨t,e⟩:=r1
   subst e
   exact .cons y t (ih r2)
theorem au1:MtR X "str.join" (λx xs H Q=>∃ z p ys,x=.str z/\xs=[.ref p]/\SqL X.K H p (ys.map V.str)/\(ys.map (·.length)).sum+ys.length * z.length<=16777216/\Q (.str (Txt.join z ys)) H):=by
 intro pins s U H x xs v us Q I rx rs h
 obtain⟨z,p,ys,rfl,rfl,hq,hz,q⟩:=h
 obtain⟨t,rfl⟩:=rx
 obtain⟨u,rfl,ru⟩:=rs.one
 cases ru
 obtain⟨its,rv,pl,_⟩:=I.list hq
 exact bG (ai _) (PyProof.Rows.join_list pl.isList (by simpa using Vp rv) hz λt' k htk=>⟨.str _,H,I.tok k htk,⟨_,rfl⟩,q⟩)
end
section
variable {κ:Type} [DecidableEq κ]
def B0 (kvs:List (κ×V)) (k:κ):Option V:=(kvs.find? λkv=>decide (kv.1=k)).map (·.2)
noncomputable def C4 (kvs:List (κ×V)) (k:κ) (v:V):List (κ×V):=
 if (kvs.any λkv=>decide (kv.1=k))=true then kvs.map (λkv=>if kv.1=k then (kv.1,v) else kv) else kvs++[(k,v)]
theorem Hg {p:κ×V} {r:List (κ×V)} {k:κ} (e:p.1=k):B0 (p::r) k=some p.2:=by simp[B0,fA,e]
theorem Fk {p:κ×V} {r:List (κ×V)} {k:κ} (e:¬ p.1=k):B0 (p::r) k=B0 r k:=by simp[B0,fA,e]
theorem Lx (k:κ):∀ kvs:List (κ×V),(kvs.any λkv=>decide (kv.1=k))=(B0 kvs k).isSome
 |[]=>rfl
 | p::r=>by
  rw[gr]
  by_cases e:p.1=k
  .simp only[Hg e,decide_eq_true e,Bool.true_or,Option.isSome_some]
  .rw[Fk e,decide_eq_false e,jk];exact Lx k r
theorem Iv (kvs:List (κ×V)) (k:κ) (v:V):(C4 kvs k v).length<=kvs.length+1:=by
 unfold C4
 split
 .rw[ae];omega
 .rw[aW,aO,jZ];omega
theorem D9 {kvs:List (κ×V)} {k:κ} (v:V) (h:B0 kvs k=none):C4 kvs k v=kvs++[(k,v)]:=by
 unfold C4
 rw[Lx,h]
 exact if_neg (by decide)
theorem RelO.isSome_eq {o:Option V} {u:Option Value} (r:RelO o u):o.isSome=u.isSome:=by
 cases o with
 | none=>cases u with
  |none=>rfl
  |some _=>exact (show False from r).elim
 | some _=>cases u with
  |none=>exact (show False from r).elim
  |some _=>rfl
theorem RelO.getD {o:Option V} {u:Option Value} {d:V} {d':Value} (r:RelO o u) (rd:RelV d d'):RelV (o.getD d) (u.getD d'):=by
 cases o with
 | none=>cases u with
  |none=>exact rd
  |some _=>exact (show False from r).elim
 | some _=>cases u with
  |none=>exact (show False from r).elim
  |some _=>exact r
theorem KV.val {kvs:List (κ×V)} {vs:List (κ×Value)} (r:KV kvs vs) (k:κ):RelO (B0 kvs k) (lP vs k):=by
 unfold KV at r
 induction r with
 |nil=>exact aR
 |@cons p q ps qs h t ih=>
  obtain⟨h1,h2⟩:=h
  by_cases e:p.1=k
  .have e':q.1=k:=h1.symm.trans e
   have b:lP (q::qs) k=some q.2:=by simp[lP,fA,e']
   rw[Hg e,b];exact h2
  .have e':¬ q.1=k:=λz=>e (h1.trans z)
   have b:lP (q::qs) k=lP qs k:=by simp[lP,fA,e']
   rw[Fk e,b];exact ih
theorem KV.any {kvs:List (κ×V)} {vs:List (κ×Value)} (r:KV kvs vs) (k:κ):(kvs.any λkv=>decide (kv.1=k))=vs.any λkv=>decide (kv.1=k):=by
 unfold KV at r
 induction r with
 |nil=>rfl
 |cons h t ih=>rw[gr,gr,ih,h.1]
theorem KV.repl {kvs:List (κ×V)} {vs:List (κ×Value)} (r:KV kvs vs) (k:κ) {y:V} {u:Value} (ry:RelV y u) :
  KV (kvs.map λkv=>if kv.1=k then (kv.1,y) else kv) (vs.map λkv=>if kv.1=k then (kv.1,u) else kv):=by
 unfold KV at r ⊢
 induction r with
 |nil=>exact .nil
 |@cons p q ps qs h t ih=>
  rw[aZ,aZ]
  refine .cons ?_ ih
  obtain⟨h1,h2⟩:=h
  by_cases e:p.1=k
  .rw[if_pos e,if_pos (h1.symm.trans e)];exact⟨h1,ry⟩
  .rw[if_neg e,if_neg (λz=>e (h1.trans z))];exact⟨h1,h2⟩
theorem KV.put {kvs:List (κ×V)} {vs:List (κ×Value)} (r:KV kvs vs) (k:κ) {y:V} {u:Value} (ry:RelV y u):KV (C4 kvs k y) (stored vs k u):=by
 unfold C4 stored
 rw[r.any k]
 by_cases e:(vs.any λkv=>decide (kv.1=k))=true
 .rw[if_pos e,if_pos e];exact r.repl k ry
 .rw[if_neg e,if_neg e];exact Paired.snoc r ⟨rfl,ry⟩
theorem KV.keys {kvs:List (κ×V)} {vs:List (κ×Value)} (r:KV kvs vs):kvs.map (·.1)=vs.map (·.1):=by
 unfold KV at r
 induction r with
 |nil=>rfl
 |cons h t ih=>rw[aZ,aZ,ih,h.1]
theorem KV.length {kvs:List (κ×V)} {vs:List (κ×Value)} (r:KV kvs vs):kvs.length=vs.length:=jr r
end
theorem Ku {P:aS} {w:bz} {k:Key} {u:Value} (r:RelV (kV k) u):(Bh P w).is k u=true:=by
 cases k with
 |inl i=>obtain⟨t,e⟩:=(show ∃ t,u=lA i t from r);subst e;exact Re P w i t
 |inr x=>obtain⟨t,e⟩:=(show ∃ t,u=iB x t from r);subst e;exact Rf P w x t
noncomputable abbrev KT (H:Hp):List (TK×V)->List (TK×Addr×Value)->Prop:=ie λp q=>p.1=q.1/\(Ap p.1<=8/\TkAt H p.1 (.ref q.2.1))/\RelV p.2 q.2.2
theorem KT.val {H:Hp} {kvs:List (TK×V)} {xs:List (TK×Addr×Value)} (r:KT H kvs xs) (k:TK):RelO (B0 kvs k) ((mY xs k).map (·.2)):=by
 induction r with
 |nil=>exact aR
 |@cons p q ps qs h t ih=>
  obtain⟨h1,_,h2⟩:=h
  by_cases e:p.1=k
  .have e':q.1=k:=h1.symm.trans e
   have b:mY (q::qs) k=some q.2:=by simp[mY,fA,e']
   rw[Hg e,b];exact h2
  .have e':¬ q.1=k:=λz=>e (h1.trans z)
   have b:mY (q::qs) k=mY qs k:=by simp[mY,fA,e']
   rw[Fk e,b];exact ih
theorem KT.repl {H:Hp} {kvs:List (TK×V)} {xs:List (TK×Addr×Value)} (r:KT H kvs xs) (k:TK) {y:V} {u:Value} (ry:RelV y u) :
  KT H (kvs.map λkv=>if kv.1=k then (kv.1,y) else kv) (xs.map (putAt k u)):=by
 induction r with
 |nil=>exact .nil
 |@cons p q ps qs h t ih=>
  rw[aZ,aZ]
  refine .cons ?_ ih
  obtain⟨h1,h2,h3⟩:=h
  unfold putAt
  by_cases e:p.1=k
  .rw[if_pos e,if_pos (h1.symm.trans e)];exact⟨h1,h2,ry⟩
  .rw[if_neg e,if_neg (λz=>e (h1.trans z))];exact⟨h1,h2,h3⟩
theorem KT.put {H:Hp} {kvs:List (TK×V)} {xs:List (TK×Addr×Value)} (r:KT H kvs xs) (k:TK) {b:Addr} {y:V} {u:Value} (hb:(Ap k<=8/\TkAt H k (.ref b))) (ry:RelV y u) :
  KT H (C4 kvs k y) (storedH xs k b u):=by
 have e:(kvs.any λkv=>decide (kv.1=k))=(mY xs k).isSome:=by
  rw[Lx,(r.val k).isSome_eq,i9]
 unfold C4 storedH
 rw[e]
 by_cases q:(mY xs k).isSome=true
 .rw[if_pos q,if_pos q];exact r.repl k ry
 .rw[if_neg q,if_neg q];exact Paired.snoc r ⟨rfl,hb,ry⟩
theorem KT.keeps {H H':Hp} {kvs:List (TK×V)} {xs:List (TK×Addr×Value)} (r:KT H kvs xs) (ht:∀ b ys,H b=some (.tup ys)->H' b=some (.tup ys)):KT H' kvs xs:=
 Paired.mapP r λ_ _ z=>⟨z.1,⟨z.2.1.1,z.2.1.2.up ht _⟩,z.2.2⟩
section
variable {P:aS} {w:bz} {H:Hp} {h:Heap} {a:Addr}
theorem a29 {u:HO} (ok:HOk P w H h) (e:Rd H a u):ObjOk P w H h a u:=e.ok ok
theorem Dd {kvs:List (Key×V)} (ok:HOk P w H h) (e:Rd H a (.dK kvs)):kvs.length<=sizeLine/\(a==c8)=false /\ ∃ vs,KV kvs vs/\h.DictOf (Bh P w) a vs:=
 show ObjOk P w H h a (.dK kvs) from a29 ok e
theorem bl5 {kvs:List (Key×V)} (ok:HOk P w H h) (e:H a=some (.dK kvs)):kvs.length<=sizeLine/\(a==c8)=false /\ ∃ vs,KV kvs vs/\h.DictOf (Bh P w) a vs:=Dd ok (.inl e)
theorem bx1 (ok:HOk P w H h) (x:TK):∀ {v:V} {u:Value},TkAt H x v->RelV v u->TkIs P w h x u:=by
 refine TK.rec (motive_1:=λx=>∀ {v:V} {u:Value},TkAt H x v->RelV v u->TkIs P w h x u) (motive_2:=λl=>∀ {vs:List V} {us:List Value},Aw H l vs->Vals vs us->TksAre P w h l us) ?_ ?_ ?_ ?_ x
 .intro k v u q r
  unfold TkAt at q
  unfold TkIs
  subst q
  exact Ku r
 .intro l ih v u q r
  unfold TkAt at q
  unfold TkIs
  obtain⟨a,xs,rfl,e,i⟩:=q
  cases r
  obtain⟨_,its,r,t⟩:=(show ObjOk P w H h a (.tup xs) from ok a _ e)
  exact⟨a,its.toArray,rfl,t,by simpa using ih i r⟩
 .intro vs us q r
  unfold Aw at q
  unfold TksAre
  subst q
  cases r
  rfl
 .intro x l h1 h2 vs us q r
  unfold Aw at q
  unfold TksAre
  obtain⟨v,r',rfl,q1,q2⟩:=q
  cases r with
  |cons r1 r2=>exact⟨_,_,rfl,h1 q1 r1,h2 q2 r2⟩
theorem F7 {k:TK} (ok:HOk P w H h) (e:Ap k<=8/\TkAt H k (.ref a)):(C2 P w).is h k a:=⟨e.1,bx1 ok k e.2 rfl⟩
theorem Kg {kvs:List (TK×V)} (ok:HOk P w H h) (e:Rd H a (.dT kvs)):kvs.length<=sizeLine/\(a==c8)=false /\
  ∃ xs,KT H kvs xs/\h.DictOfH (C2 P w) a xs:=by
 obtain⟨z,y,xs,r,o,es,ep,h1,h2,h3,h4,h5⟩:=(show ObjOk P w H h a (.dT kvs) from a29 ok e)
 refine⟨z,y,xs,r,o,es,ep,h1,h2,h3,h4,λx hx=>?_,h5⟩
 have all:∀ {l:List (TK×V)} {m:List (TK×Addr×Value)},KT H l m -> ∀ x∈m,(C2 P w).is h x.1 x.2.1:=by
  intro l m q
  induction q with
  |nil=>intro x hx;exact nomatch hx
  |@cons p q ps qs hq t ih=>
   intro x hx
   rcases List.mem_cons.mp hx with e|hx
   .subst e
    exact F7 ok (by rw[<- hq.1];exact hq.2.1)
   .exact ih x hx
 exact all r x hx
theorem bl7 {kvs:List (TK×V)} (ok:HOk P w H h) (e:H a=some (.dT kvs)):kvs.length<=sizeLine/\(a==c8)=false /\
  ∃ xs,KT H kvs xs/\h.DictOfH (C2 P w) a xs:=Kg ok (.inl e)
end
noncomputable def DGet (H:Hp) (a:Addr) (y:V) (r:Option V):Prop:=
 (∃ kvs k,Rd H a (.dK kvs)/\y=kV k/\r=B0 kvs k) \/ ∃ kvs k b,Rd H a (.dT kvs)/\y=.ref b/\(Ap k<=8/\TkAt H k (.ref b))/\r=B0 kvs k
noncomputable def DPut (H:Hp) (a:Addr) (y v:V) (H':Hp):Prop:=
 (∃ kvs k,H a=some (.dK kvs)/\y=kV k/\kvs.length<sizeLine/\H'=upd H a (.dK (C4 kvs k v))) \/
 ∃ kvs k b,H a=some (.dT kvs)/\y=.ref b/\(Ap k<=8/\TkAt H k (.ref b))/\kvs.length<sizeLine/\H'=upd H a (.dT (C4 kvs k v))
theorem DGet.k {H:Hp} {a:Addr} {kvs:List (Key×V)} {k:Key} (e:H a=some (.dK kvs)):DGet H a (kV k) (B0 kvs k):=.inl ⟨kvs,k,.inl e,rfl,rfl⟩
theorem DGet.t {H:Hp} {a b:Addr} {kvs:List (TK×V)} {k:TK} (e:H a=some (.dT kvs)) (eb:(Ap k<=8/\TkAt H k (.ref b))):DGet H a (.ref b) (B0 kvs k):=.inr ⟨kvs,k,b,.inl e,rfl,eb,rfl⟩
theorem DPut.k {H:Hp} {a:Addr} {kvs:List (Key×V)} {k:Key} {v:V} (e:H a=some (.dK kvs)) (hl:kvs.length<sizeLine):DPut H a (kV k) v (upd H a (.dK (C4 kvs k v))):=.inl ⟨kvs,k,e,rfl,hl,rfl⟩
theorem DPut.t {H:Hp} {a b:Addr} {kvs:List (TK×V)} {k:TK} {v:V} (e:H a=some (.dT kvs)) (eb:(Ap k<=8/\TkAt H k (.ref b))) (hl:kvs.length<sizeLine) :
  DPut H a (.ref b) v (upd H a (.dT (C4 kvs k v))):=.inr ⟨kvs,k,b,e,rfl,eb,hl,rfl⟩
section
variable {X:Cx} {pins:List (Addr×Obj)} {U:St} {H:Hp} {s:aj} {a:Addr} {y v:V} {u r:Value} {o:Option V} {A:bq} {E:Value->aj->Prop}
theorem Inv.big (I:Inv X pins U H s):c8<s.heap.objs.size:=by
 have h:mainGlobals<s.heap.objs.size:=(I.mod.glob.keeps I.bk).lt
 exact Nat.lt_trans (by decide) h
theorem Xw {Q:Value->aj->Prop} (hu:A.units+9<cLine) (I:Inv X pins U H s) (g:DGet H a y (some v)) (ry:RelV y u) (h:∀ w' s',Inv X pins U H s'->RelV v w'->Q w' s') :
  aN (model X.prog X.w) A (getItem (.ref a) u) Q E s:=by
 rcases g with ⟨kvs,k,e,ey,l⟩|⟨kvs,k,b,e,ey,eb,l⟩
 .subst ey
  obtain⟨z,hd,vs,rel,dd⟩:=Dd I.hok e
  obtain⟨w',hw,rw'⟩:=RelO.some_of (v:=v) (o:=lP vs k) (by rw[l];exact rel.val k)
  exact wpAny_getItem_of (Ku ry) dd.mapOf hw (h w' _ (I.tok _) rw')
 .subst ey
  cases (show u=aV b from ry)
  obtain⟨z,hd,xs,rel,dd⟩:=Kg I.hok e
  obtain⟨w',hw,rw'⟩:=RelO.some_of (v:=v) (o:=(mY xs k).map (·.2)) (by rw[l];exact rel.val k)
  obtain⟨p,hp,hp2⟩:=Option.map_eq_some_iff.mp hw
  refine wpAny_getItem_heap (show A.units+1+8<cLine by omega) (F7 I.hok eb) dd hp ?_
  rw[hp2]
  exact h w' _ (I.tok _) rw'
theorem by0 {Q:Value->aj->Prop} (hu:A.units+9<cLine) (I:Inv X pins U H s) (g:DGet H a y o) (ry:RelV y u) (h:∀ s',Inv X pins U H s'->Q (.bool o.isSome) s') :
  aN (model X.prog X.w) A (cB .In u (.ref a)) Q E s:=by
 rcases g with ⟨kvs,k,e,ey,l⟩|⟨kvs,k,b,e,ey,eb,l⟩
 .subst ey
  obtain⟨z,hd,vs,rel,dd⟩:=Dd I.hok e
  refine wpAny_in_of (Ku ry) hd dd.mapOf ?_
  rw[<- (rel.val k).isSome_eq,<- l]
  exact h _ (I.tok _)
 .subst ey
  cases (show u=aV b from ry)
  obtain⟨z,hd,xs,rel,dd⟩:=Kg I.hok e
  refine wpAny_in_heap (show A.units+1+8<cLine by omega) (F7 I.hok eb) hd dd ?_
  have q:=(rel.val k).isSome_eq
  rw[i9] at q
  rw[<- q,<- l]
  exact h _ (I.tok _)
theorem as1 {Q:Value->aj->Prop} (hu:A.units+9<cLine) (I:Inv X pins U H s) (g:DGet H a y o) (ry:RelV y u) (h:∀ s',Inv X pins U H s'->Q (.bool (!o.isSome)) s') :
  aN (model X.prog X.w) A (cB .NotIn u (.ref a)) Q E s:=by
 rcases g with ⟨kvs,k,e,ey,l⟩|⟨kvs,k,b,e,ey,eb,l⟩
 .subst ey
  obtain⟨z,hd,vs,rel,dd⟩:=Dd I.hok e
  refine wpAny_notIn_of (Ku ry) hd dd.mapOf ?_
  rw[<- (rel.val k).isSome_eq,<- l]
  exact h _ (I.tok _)
 .subst ey
  cases (show u=aV b from ry)
  obtain⟨z,hd,xs,rel,dd⟩:=Kg I.hok e
  refine wpAny_notIn_heap (show A.units+1+8<cLine by omega) (F7 I.hok eb) hd dd ?_
  have q:=(rel.val k).isSome_eq
  rw[i9] at q
  rw[<- q,<- l]
  exact h _ (I.tok _)
theorem Wg {h':Heap} {t':Nat} {ob:HO} (I:Inv X pins U H s) (mu:Mut (H a)) (hs:bn a s.heap h') (he:∃ q,h'.get? a=some q) (new:ObjOk X.prog X.w (upd H a ob) h' a ob) (ht:s.toks<=t':=by first|exact ai _|exact bw _ _|assumption|omega|(dsimp only;omega)) :
  Inv X pins U (upd H a ob) { s with heap:=h',toks:=t' }:=
 I.write (x:=a) (e:=a) mu (.inl rfl) (λb q hb z=>(hs.2 b hb).trans z) he new
theorem ac4 {P:aS} {w:bz} {H':Hp} {h':Heap} {kvs:List (Key×V)} {vs:List (Key×Value)} (z:kvs.length<=sizeLine) (hd:(a==c8)=false) (rel:KV kvs vs) (dd:h'.DictOf (Bh P w) a vs) :
  ObjOk P w H' h' a (.dK kvs):=⟨z,hd,vs,rel,dd⟩
theorem Xx {H':Hp} {Q:Unit->aj->Prop} (hu:A.units+9<cLine) (I:Inv X pins U H s) (g:DPut H a y v H') (ry:RelV y u) (rv:RelV v r) (h:∀ s',Inv X pins U H' s'->Q () s') :
  aN (model X.prog X.w) A (setItem (.ref a) u r) Q E s:=by
 rcases g with ⟨kvs,k,e,ey,l,eH⟩|⟨kvs,k,b,e,ey,eb,l,eH⟩
 .subst ey eH
  obtain⟨z,hd,vs,rel,dd⟩:=bl5 I.hok e
  have hz:vs.length<=sizeLine:=by rw[<- rel.length];exact z
  have hl:(C4 kvs k v).length<=sizeLine:=by have:=Iv kvs k v;omega
  refine wpAny_setItem_pairs (hsz:=hz) (Ku ry) dd λh' dd' hs=>h _ ?_
  have he:∃ q,h'.get? a=some q:=let ⟨q,_,_,hq,_⟩:=dd';⟨q,hq⟩
  exact Wg I (by rw[e];exact aR) hs he (ac4 hl hd (rel.put k rv) dd')
 .subst ey eH
  cases (show u=aV b from ry)
  obtain⟨z,hd,xs,rel,dd⟩:=bl7 I.hok e
  have hz:xs.length<=sizeLine:=by rw[<- jr rel];exact z
  have hl:(C4 kvs k v).length<=sizeLine:=by have:=Iv kvs k v;omega
  refine wpAny_setItem_heap (hsz:=hz) (show A.units+1+8<cLine by omega) (F7 I.hok eb) dd λh' dd' hs=>h _ ?_
  obtain⟨q,es,ep,hq,h2,h3,h4,_,h5⟩:=dd'
  refine Wg I (by rw[e];exact aR) hs ⟨q,hq⟩ ⟨hl,hd,_,(rel.put k eb rv).keeps λc ys ec=>?_,q,es,ep,hq,h2,h3,h4,h5⟩
  rw[Ad (bn7 ec e (λz=>nomatch z))]
  exact ec
end
section
variable {X:Cx} {pins:List (Addr×Obj)} {U:St} {H:Hp} {s:aj} {a:Addr} {kvs:List (Key×V)} {k:Key} {u:Value} {A:bq} {E:Value->aj->Prop}
theorem bl4 {Q:Value->aj->Prop} (I:Inv X pins U H s) (e:Rd H a (.dK kvs)) (h:∀ t s',Inv X pins U H s'->Q (.int kvs.length t) s'):aN (model X.prog X.w) A (call (.builtin "len") [.ref a]) Q E s:=by
 obtain⟨z,hd,vs,rel,dd⟩:=Dd I.hok e
 refine call_len_dict hd dd (by rw[<- rel.length];rw[bA] at z;omega) ?_
 rw[<- rel.length]
 exact h _ _ (I.tok _)
end
theorem Qx {X:Cx} {pins:List (Addr×Obj)} {U:St} {H:Hp} {s:aj} {a:Addr} {y:V} {o:Option V} (I:Inv X pins U H s) (g:DGet H a y o):s.TypeIs (.ref a) "dict" := by
 rcases g with ⟨kvs,k,e,_,_⟩|⟨kvs,k,b,e,_,_,_⟩
 .obtain⟨_,_,vs,_,dd⟩:=Dd I.hok e
  exact dd.typeIs
 .obtain⟨_,_,xs,_,dd⟩:=Kg I.hok e
  exact dd.typeIs
theorem ac3 {P:aS} {w:bz} {H:Hp} (h:Heap) (hb:c8<h.objs.size):ObjOk P w H (h.push { cls:=.type "dict", data:=.dict #[] }) h.objs.size (.dK []):=
 ⟨bx _,beq_eq_false_iff_ne.mpr (ce (aQ hb)),[],.nil,Heap.DictOf.new h⟩
theorem ac5 {P:aS} {w:bz} {H:Hp} (h:Heap) (hb:c8<h.objs.size):ObjOk P w H (h.push { cls:=.type "dict", data:=.dict #[] }) h.objs.size (.dT []):=
 ⟨bx _,beq_eq_false_iff_ne.mpr (ce (aQ hb)),[],.nil,_,#[],0,az _ rfl,⟨rfl,rfl,rfl⟩,rfl,rfl,kJ⟩
section
variable {X:Cx} {pins:List (Addr×Obj)} {U:St} {H:Hp} {s:aj} {a:Addr} {y d:V} {u r:Value} {o:Option V} {A:bq} {E:Value->aj->Prop}
theorem a60 {Q:Value->aj->Prop} (hu:A.units+9<cLine) (I:Inv X pins U H s) (g:DGet H a y o) (ry:RelV y u) (h:∀ w' s',Inv X pins U H s'->RelV (o.getD .non) w'->Q w' s') :
  aN (model X.prog X.w) A (call (.builtin "dict.get") [.ref a,u]) Q E s:=by
 rcases g with ⟨kvs,k,e,ey,l⟩|⟨kvs,k,b,e,ey,eb,l⟩
 .subst ey
  obtain⟨z,hd,vs,rel,dd⟩:=Dd I.hok e
  refine j7 dW dd.typeIs e_ (jt _ _) (meets_dict_get (Bh X.prog X.w) a (Ku ry) hd) ⟨_,dd.mapOf,h _ _ (I.tok _) ?_⟩
  rw[l]
  exact (rel.val k).getD rfl
 .subst ey
  cases (show u=aV b from ry)
  obtain⟨z,hd,xs,rel,dd⟩:=Kg I.hok e
  refine j7 dW dd.typeIs e_ (jt _ _) (meetsH_dict_get (C2 X.prog X.w) a b hd) ⟨show A.units+1+8<cLine by omega,k,xs,F7 I.hok eb,dd,h _ _ (I.tok _) ?_⟩
  rw[l]
  exact (rel.val k).getD rfl
theorem a61 {Q:Value->aj->Prop} (hu:A.units+9<cLine) (I:Inv X pins U H s) (g:DGet H a y o) (ry:RelV y u) (rd:RelV d r) (h:∀ w' s',Inv X pins U H s'->RelV (o.getD d) w'->Q w' s') :
  aN (model X.prog X.w) A (call (.builtin "dict.get") [.ref a,u,r]) Q E s:=by
 rcases g with ⟨kvs,k,e,ey,l⟩|⟨kvs,k,b,e,ey,eb,l⟩
 .subst ey
  obtain⟨z,hd,vs,rel,dd⟩:=Dd I.hok e
  refine j7 dW dd.typeIs e_ (ju _ _ _) (meets_dict_get_default (Bh X.prog X.w) a (Ku ry) hd r) ⟨_,dd.mapOf,h _ _ (I.tok _) ?_⟩
  rw[l]
  exact (rel.val k).getD rd
 .subst ey
  cases (show u=aV b from ry)
  obtain⟨z,hd,xs,rel,dd⟩:=Kg I.hok e
  refine j7 dW dd.typeIs e_ (ju _ _ _) (meetsH_dict_get_default (C2 X.prog X.w) a b hd r) ⟨show A.units+1+8<cLine by omega,k,xs,F7 I.hok eb,dd,h _ _ (I.tok _) ?_⟩
  rw[l]
  exact (rel.val k).getD rd
end
abbrev EK:=Addr->Hp->Prop
abbrev DE:=St->Hp->VK->EK->Prop
abbrev DT:=St->Hp->(Bool->Hp->Prop)->EK->Prop
abbrev DA:=St->Hp->(List V->Hp->Prop)->EK->Prop
structure Outs where
 nx:St->Hp->Prop
 rt:VK
 bk:St->Hp->Prop
 ct:St->Hp->Prop
 ex:St->EK
abbrev DS:=Outs->St->Hp->Prop
abbrev Aq (C:Addr) (dx:Option Addr) (vs:Array Value):Obj:={ cls:=.ref C,dict:=dx,data:=.fields vs }
def Fv (a C:Addr) (dx:Option Addr):HO:=.ext λh=>∃ vs:Array Value,h.get? a=some (Aq C dx vs)/\vs.size=6/\vs[1]? = some .none/\vs[2]? = some .none
def flO (a C:Addr) (dx:Option Addr):HO:=.ext λh=>∃ vs:Array Value,h.get? a=some (Aq C dx vs)/\vs.size=6/\vs[2]? = some .none
def fcO (a C:Addr) (dx:Option Addr):HO:=.ext λh=>∃ vs:Array Value,h.get? a=some (Aq C dx vs)/\vs.size=6
def FlO (H:Hp) (a C:Addr) (dx:Option Addr):Prop:=H a=some (flO a C dx)\/H a=some (fcO a C dx)
noncomputable def xdO (dx:Addr) (fs:List (Str×V)):HO:=.ext λh=>fs.length<=1000 /\ ∃ mA,h.Ns1 dx mA/\(∀ f,RelO (fs.lookup f) (mA f))/\eG mA (fs.map (·.1))
noncomputable def Gg (X:Cx) (pins:List (Addr×Obj)) (H:Hp) (a:Addr) (s:aj):Prop:=
 ∃ (C:Addr) (dx:Option Addr) (vs:Array Value),FlO H a C dx/\s.heap.get? a=some (Aq C dx vs)/\vs.size=6 /\
  (vs[1]? = some .none \/ ∃ (T:Addr) (oT:Obj) (ts:Array Value),vs[1]? = some (.ref T)/\T≠a/\s.heap.get? T=some oT/\oT.data=.fields ts/\(∃ z,ts[3]? = some z)/\Ci X pins H T)
noncomputable def Meets (X:Cx) (Ex:St->EK):Prop:=
 ∀ (pins:List (Addr×Obj)) (U:St) (H:Hp) (s:aj) (a:Addr),Inv X pins U H s->Gg X pins H a s->Ex U a H->X.xe (.ref a) s
noncomputable def QE (X:Cx) (e:Expr) (t:DE):Prop:=∀ Ex,Meets X Ex->PE X e (λU H Q=>t U H Q (Ex U))
noncomputable def QT (X:Cx) (e:Expr) (t:DT):Prop:=∀ Ex,Meets X Ex->PT X e (λU H Q=>t U H Q (Ex U))
noncomputable def QW (X:Cx) (e:Expr) (t:DT):Prop:=∀ Ex,Meets X Ex->PW X e (λU H Q=>t U H Q (Ex U))
noncomputable def QA (X:Cx) (es:List Expr) (t:DA):Prop:=∀ Ex,Meets X Ex->PA X es (λU H Q=>t U H Q (Ex U))
def av0 (Ex:St->EK) (D:Ly):Outs:=⟨D.nx,D.rt,D.bk,D.ct,Ex⟩
noncomputable def QS (X:Cx) (st:Stmt) (t:DS):Prop:=∀ Ex,Meets X Ex->PS X st (λD U H=>t (av0 Ex D) U H)
noncomputable def QSs (X:Cx) (st:List Stmt) (t:DS):Prop:=∀ Ex,Meets X Ex->PSs X st (λD U H=>t (av0 Ex D) U H)
noncomputable def dNo:DE:=λ_ _ _ _=>False
noncomputable def Aa (i:Nat):DE:=λU H Q _=>match U[i]? with
 |some (some v)=>Q v H
 |_=>False
noncomputable def dC (v:V):DE:=λ_ H Q _=>Q v H
noncomputable def Ah (r:R2) (a b:DE):DE:=λU H Q E=>a U H (λx H1=>b U H1 (λy H2=>r x y H2 Q) E) E
noncomputable def dUn (r:V->Hp->VK->Prop) (a:DE):DE:=λU H Q E=>a U H (λx H1=>r x H1 Q) E
noncomputable def Dr (r r':R2) (a b c:DE):DE:=λU H Q E=>a U H (λx H1=>b U H1 (λy H2=>r x y H2 λz H3=>match z with
 |.bl k=>if k=true then c U H3 (λw H4=>r' y w H4 Q) E else Q (.bl false) H3
 |_=>False) E) E
noncomputable def L9 (a b:DT):DT:=λU H Q E=>a U H (λk H1=>if k=true then b U H1 Q E else Q false H1) E
noncomputable def dOr (a b:DT):DT:=λU H Q E=>a U H (λk H1=>if k=true then Q true H1 else b U H1 Q E) E
noncomputable def Ey (a:DT):DT:=λU H Q E=>a U H (λk H1=>Q (!k) H1) E
noncomputable def bl2 (t:DT) (a b:DE):DE:=λU H Q E=>t U H (λk H1=>if k=true then a U H1 Q E else b U H1 Q E) E
noncomputable def ao4 (K:ac) (x:V) (H:Hp) (Q:Bool->Hp->Prop):Prop:=match x with
 |.bl k=>Q k H
 |.non=>Q false H
 |.int i=>Q (i != 0) H
 |.str y=>y.length<=sizeLine/\Q ((y.length:Int) != 0) H
 |.ref p=>∃ k,bk7 K (.ref p) H k/\Q k H
 |_=>False
noncomputable def M9 (K:ac) (a b:DE):DE:=λU H Q E=>a U H (λx H1=>ao4 K x H1 λk H2=>if k=true then b U H2 Q E else Q x H2) E
noncomputable def bl3 (K:ac) (a b:DE):DE:=λU H Q E=>a U H (λx H1=>ao4 K x H1 λk H2=>if k=true then Q x H2 else b U H2 Q E) E
noncomputable def ac1 (K:ac) (a:DE):DE:=λU H Q E=>a U H (λx H1=>ao4 K x H1 λk H2=>Q (.bl (!k)) H2) E
noncomputable def C3 (K:ac) (a:DE):DT:=λU H Q E=>a U H (λx H1=>ao4 K x H1 Q) E
noncomputable def Bg (a:DE):DT:=λU H Q E=>a U H (λx H1=>match x with
 |.bl k=>Q k H1
 |_=>False) E
noncomputable def Ag:DA:=λ_ H Q _=>Q [] H
noncomputable def Ac (a:DE) (r:DA):DA:=λU H Q E=>a U H (λx H1=>r U H1 (λxs H2=>Q (x::xs) H2) E) E
noncomputable def Dw (t:DA):DE:=λU H Q E=>t U H (λxs H1=>xs.length<=sizeLine /\ ∀ p,H1 p=none->Q (.ref p) (upd H1 p (.tup xs))) E
noncomputable def Cj (t:DA):DE:=λU H Q E=>t U H (λxs H1=>xs.length<=sizeLine /\ ∀ p,H1 p=none->Q (.ref p) (upd H1 p (.lst xs))) E
noncomputable def dFn (r:List V->Hp->VK->EK->Prop) (t:DA):DE:=λU H Q E=>t U H (λvs H1=>r vs H1 Q E) E
noncomputable def dMt (r:V->Hp->(Hp->(List V->Hp->Prop)->Prop)->VK->Prop) (o:DE) (t:DA):DE:=λU H Q E=>o U H (λx H1=>r x H1 (λH2 R=>t U H2 R E) Q) E
noncomputable def Af:DS:=λD U H=>D.nx U H
noncomputable def Cg:DS:=λ_ _ _=>False
def Outs.thn (D:Outs) (f:St->Hp->Prop):Outs:={ D with nx:=f }
def Outs.lp (D:Outs) (P:St->Hp->Prop):Outs:={ D with nx:=P,ct:=P,bk:=D.nx }
noncomputable def Ae (t u:DS):DS:=λD U H=>t (D.thn (u D)) U H
noncomputable def Ar (e:DE):DS:=λD U H=>e U H D.rt (D.ex U)
noncomputable def a12:DS:=λD _ H=>D.rt .non H
noncomputable def Et (e:DE):DS:=λD U H=>e U H (λ_ H1=>D.nx U H1) (D.ex U)
noncomputable def dIf (c:DT) (t u:DS):DS:=λD U H=>c U H (λb H1=>if b=true then t D U H1 else u D U H1) (D.ex U)
noncomputable def bl0:DS:=λD U H=>D.bk U H
noncomputable def bl1:DS:=λD U H=>D.ct U H
noncomputable def Ao (i:Nat) (e:DE):DS:=λD U H=>e U H (λv H1=>D.nx (U.set i (some v)) H1) (D.ex U)
abbrev DG:=TG
noncomputable def Ew (e:DE) (g:DG):DS:=λD U H=>e U H (λv H1=>g v U H1 D.nx) (D.ex U)
abbrev DI:=St->Hp->(It->Hp->Prop)->EK->Prop
noncomputable def Gh (J:It) (g:DG) (tb:DS) (D:Outs) (U:St) (H:Hp):Prop:=∃ W:Nat->Nat->St->Hp->Prop,(∃ m,W 0 m U H) /\ ∀ i m U H,W i m U H ->
 (J.stop i H/\D.nx U H)\/(J.go i H /\ ∃ N:St->Hp->Prop,(∀ U' H',N U' H' -> ∃ m',m'<m/\W (i+1) m' U' H') /\ ∀ x H',J.yld i H x H'->g x U H' (λU2 H2=>tb (D.lp N) U2 H2))
def Thaw (H0 H:Hp) (P:Hp->Prop):Prop:=P H \/ ∃ p o kvs,H0 p=some (.dK kvs)/\H p=some (.frz o (.dK kvs))/\P (upd H p (.dK kvs))
def Outs.thw (D:Outs) (H:Hp):Outs:={ D with nx:=λU' H'=>Thaw H H' (D.nx U') }
noncomputable def B9 (wi:DI) (g:DG) (tb:DS):DS:=λD U H=>wi U H (λJ H1=>Gh J g tb (D.thw H) U H1) (D.ex U)
noncomputable def Ef (J:It) (g:DG) (tc:DT) (te:DE) (D:Addr) (R:Hp->Prop) (U:St) (H:Hp) (E:EK):Prop:=
 ∃ W:Nat->Nat->St->Hp->Prop,(∃ m,W 0 m U H) /\ ∀ i m U' H',W i m U' H' ->
  (J.stop i H'/\R H')\/(J.go i H' /\ ∃ N:St->Hp->Prop,(∀ U2 H2,N U2 H2 -> ∃ m',m'<m/\W (i+1) m' U2 H2) /\ ∀ x H2,J.yld i H' x H2->g x U' H2 (λU3 H3=>tc U3 H3 (λb H4=>if b=true then
    te U3 H4 (λv H5=>∃ ys,H5 D=some (.lst ys)/\ys.length<sizeLine/\N U3 (upd H5 D (.lst (ys++[v])))) E
   else N U3 H4) E))
noncomputable def Bf (srcs:List (Option Nat)) (wi:DI) (g:DG) (tc:DT) (te:DE):DE:=λU H Q E=>wi U H (λJ H1=>∀ D,H1 D=none->Ef J g tc te D (λH'=>Q (.ref D) H') (Tg srcs U) (upd H1 D (.lst [])) E) E
noncomputable def Ck:DT:=λ_ H Q _=>Q true H
noncomputable def gdN (i:Nat):DG:=λv U H Q=>Q (U.set i (some v)) H
open PySem.W
section
variable {prog:aS} {w:bz} {A:bq} {E:Value->aj->Prop} {s:aj} {K:ac} {x C:Addr} {ox:Obj} {od:Option Obj} {name:Str} {expr:Bool} {Q:Value->aj->Prop}
theorem Qs (self:Value):kY (.builtin "BaseException.__getattribute__") self=pure (.builtin "BaseException.__getattribute__", [self]):=by
 have hop:withoutEnding? "BaseException.__getattribute__" "#opaque" = none:=by decide +kernel
 have hdat:withoutEnding? "BaseException.__getattribute__" "#data" = none:=by decide +kernel
 have hk:builtinKind "BaseException.__getattribute__" = some .slot:=by decide +kernel
 simp only[kY,typeOf,builtinType,hop,hdat,hk];rfl
theorem at1 {v:Value} (X:K.In s.heap) (I:fQ s.heap x ox C od) (hga:bh K (.ref C) "__getattribute__" = some (some (.builtin "BaseException.__getattribute__"))) (hgt:bh K (.ref C) "__getattr__" = some none)
  (hB:du K C (.type "BaseException")=some true) (hf:PySem.W.findObj K C od name=some (.value v)) (hh:hX v=true) (h:Q v { s with toks:=s.toks+1 }) :
  aN (model prog w) A (lL (.ref x) name expr) Q E s:=by
 obtain⟨hp,g,d,t,os⟩:=s
 have L0:=I.type (M:=model prog w)
 have L1:=d8 (M:=model prog w) X hga
 have L2:=d8 (M:=model prog w) X hgt
 have L3:=lq (M:=model prog w) X I hf
 have L4:=kW (M:=model prog w) X hB
 unfold lL getAttrBy
 refine af (wpAny_mkText (bF (af (L0.at (af (L1.at ?_))))))
 have hx2:(cW "BaseException.__getattribute__" == cW "object.__getattribute__")=false:=by decide +kernel
 have hx1:(mE (aV C)&&cW "BaseException.__getattribute__" == cW "object.__getattribute__")=false:=by rw[hx2];rfl
 dsimp only
 rw[hx1,if_neg au]
 unfold getAttrByItsOwn
 refine af (show aN _ _ (ji (.ref C) "__getattr__") _ _ _ from L2.at ?_)
 refine af (eW (bF ?_))
 have hx0:(expr&&mE (cW "BaseException.__getattribute__"))=false:=by cases expr <;> rfl
 unfold callGetattribute
 rw[hx0,if_neg au]
 unfold boundAndCalled
 rw[Qs]
 refine af (aq ?_)
 refine gh (fM (by decide +kernel) F.entry_bexc_ga (check_slot (i := "BaseException.__getattribute__") (owner := "BaseException") (n := "__getattribute__") (by decide +kernel) (by decide +kernel) (L0.andThen L4) (F.args_bexc_ga _ _) ?_))
 unfold aM.«object.__getattribute__»
 refine af (aq (af (aq (af (L0.at (af (L3.at ?_)))))))
 refine aq ?_
 show aN _ _ (handedOut v) _ _ _
 rw[kD hh]
 exact aq h
end
open Builtin Builtin.ObjectAttr
noncomputable def A7:List Value->Bool
 |[.type a,.type b,.type c,.type d]=>a == "ValueError" && b == "Exception" && c == "BaseException" && d == "object"
 |.ref _::r=>A7 r
 |_=>false
def valTail:List Value:=[.type "ValueError", .type "Exception", .type "BaseException", .type "object"]
theorem Uu (self:Value):refuseLoop self "__setattr__" valTail=pure ():=by kernel_rfl
theorem De:∀ {l:List Value},A7 l=true -> ∃ rs:List Addr,l=rs.map aV++valTail
 | [.type a,.type b,.type c,.type d],e=>by
  have e:(a == "ValueError" && b == "Exception" && c == "BaseException" && d == "object")=true:=e
  simp only[aE,beq_iff_eq] at e
  obtain⟨⟨⟨rfl,rfl⟩,rfl⟩,rfl⟩:=e
  exact⟨[],rfl⟩
 | .ref a::r,e=>by
  have e:A7 r=true:=by cases r <;> first|exact e|cases e
  obtain⟨rs,h⟩:=De e
  exact⟨a::rs,by rw[h];rfl⟩
theorem Ut (self:Value) (rs:List Addr):refuseLoop self "__setattr__" (rs.map aV++valTail)=pure ():=by
 induction rs with
 |nil=>exact Uu self
 |cons a r ih=>rw[aZ,e8,refuseLoop_ref];exact ih
theorem Si (rs:List Addr) {T:String} (h:valTail.contains (.type T)=true):(rs.map aV++valTail).contains (.type T)=true:=by
 induction rs with
 |nil=>exact h
 |cons a r ih=>rw[aZ,e8,cq,ih,fZ]
section
variable {prog:aS} {w:bz} {A:bq} {s:aj} {K:ac} {x C:Addr} {R:ml->aj->Prop}
theorem Nv {ox:Obj} {od:Option Obj} {name:Str} {tk:Tok} {v:Value} {cd:ClassData} (X:K.In s.heap) (I:fQ s.heap x ox C od) (hc:mx K C=some cd) (hp:A7 cd.mro=true) (ht:findIn K (.ref C) name=some none)
  (h:aN (model prog w) A.in1 (storeInOwnDict (.ref x) (.ref C) (.str name tk) name v false)
   (λfin s'=>match fin with | .done f=>R (.ok f) s' | .again c'=>c'.quiet=true/\gE (model prog w) A c' R s') (λe s'=>R (.error e) s') s) :
  gE (model prog w) A (.call (.builtin "object.__setattr__") ⟨[.ref x,.str name tk,v],[]⟩) R s:=by
 have SF:=PySem.F.store_object
 obtain⟨rs,hm⟩:=De hp
 have ne:cd.mro.isEmpty=false:=by rw[hm];cases rs <;> rfl
 have sub:Looks (model prog w) s.heap (kr (.ref x) (.type "object")) true:=I.type.andThen (looks_mroIn X (by unfold mroIn;rw[hc,cC,if_neg (by rw[ne];decide),hm,Si rs (by decide +kernel)]))
 refine fM SF.slot.plain SF.entry (@check_slot (model prog w) _ _ s "object.__setattr__" "object" "__setattr__" (.ref x) [.str name tk,v] [] _ SF.kind SF.split sub (SF.args (.ref x) (.str name tk) v) ?_)
 have hmr:Looks (model prog w) s.heap (mroOf (.ref C)) cd.mro:=(looks_clsIn X hc).andThen .now
 rw[osa_eq,refuse_eq]
 refine af (af (I.type.here (af (hmr.here ?_))))
 rw[hm,Ut]
 refine aq (af (I.type.here (af ((looks_findIn X ht).here (af (aq ?_))))))
 exact h
end
section
variable {prog:aS} {w:bz} {A:bq} {E:Value->aj->Prop} {s:aj} {K:ac} {x dx C f:Addr} {mA:Str->Option Value} {name:Str} {v:Value} {vs:Array Value}
theorem ay8 {ns:List Str} {Q:Unit->aj->Prop} {cd:ClassData} (X:K.In s.heap) (hx:s.heap.get? x=some (Aq C (some dx) vs)) (hn:s.heap.Ns1 dx mA) (hne:dx≠x)
  (hs:findIn K (.ref C) "__setattr__" = some (some (.builtin "object.__setattr__"))) (hc:mx K C=some cd) (hp:A7 cd.mro=true) (hd':cd.hasDict=true) (ht:findIn K (.ref C) name=some none)
  (hw:eG mA ns) (hsz:ns.length<=sizeLine)
  (h:∀ h',h'.get? x=some (Aq C (some dx) vs)->h'.Ns1 dx (λy=>if y=name then some v else mA y)->bn dx s.heap h'->Q () { s with heap:=h',toks:=s.toks+2 }) :
  aN (model prog w) A (mG (.ref x) name v) Q E s:=by
 obtain⟨od,ho,hl⟩:=Hv hn
 have J:fQ s.heap x (Aq C (some dx) vs) C (some od):=⟨hx,rfl,rfl,ho⟩
 refine set_plain X J hs (Nv (s:={ s with toks:=s.toks+1 }) X J hc hp ht ?_)
 refine af (aq (af (af (iY hx (af (Looks.here (s:={ s with toks:=s.toks+1 }) (looks_clsIn X hc) ?_))))))
 rw[hd']
 refine aq (a:=some dx) (af (aq (af ?_)))
 refine l7 (s:={ s with toks:=s.toks+1 }) hn λh' hn2 hs2=>?_
 obtain⟨oD,esD,epD,hoD,hdD,hcD⟩:=hn2.count (PySem.Within.cons name v hw)
 refine af (jJ hoD (by rw[hdD];exact jH (aY hcD (by rw[aO];omega))) ?_)
 exact aq (h _ ((hs2.2 _ (ce hne)).trans hx) hn2 hs2)
theorem al3 {Q:Unit->aj->Prop} {cd:ClassData} (X:K.In s.heap) (hx:s.heap.get? x=some (Aq C none vs))
  (hs:findIn K (.ref C) "__setattr__" = some (some (.builtin "object.__setattr__"))) (hc:mx K C=some cd) (hp:A7 cd.mro=true) (hd':cd.hasDict=true) (ht:findIn K (.ref C) name=some none)
  (h:∀ h',h'.get? x=some (Aq C (some s.heap.objs.size) vs)->h'.Ns1 s.heap.objs.size (λy=>if y=name then some v else none)->(∀ b o,b≠x->s.heap.get? b=some o->h'.get? b=some o)->Q () { s with heap:=h',toks:=s.toks+2 }) :
  aN (model prog w) A (mG (.ref x) name v) Q E s:=by
 have J:fQ s.heap x (Aq C none vs) C none:=⟨hx,rfl,rfl,aR⟩
 refine set_plain X J hs (Nv (s:={ s with toks:=s.toks+1 }) X J hc hp ht ?_)
 refine af (aq (af (af (iY hx (af (Looks.here (s:={ s with toks:=s.toks+1 }) (looks_clsIn X hc) ?_))))))
 rw[hd']
 rw[if_neg (by decide)]
 refine af (wpAny_alloc (af (wpAny_update (ag _ hx) ?_)))
 refine aq (a:=some s.heap.objs.size) (af (aq (af ?_)))
 have e1:(s.heap.push emptyDict).get? s.heap.objs.size=some emptyDict:=az s.heap rfl
 have hne:x≠s.heap.objs.size:=aQ (aA hx)
 have e2:((s.heap.push emptyDict).update x λo=>{ o with dict:=some s.heap.objs.size }).get? s.heap.objs.size=some emptyDict:=by rw[cy _ _ hne];exact e1
 have e3:((s.heap.push emptyDict).update x λo=>{ o with dict:=some s.heap.objs.size }).get? x=some (Aq C (some s.heap.objs.size) vs):=fw _ (ag _ hx) rfl
 have n0:((s.heap.push emptyDict).update x λo=>{ o with dict:=some s.heap.objs.size }).Ns s.heap.objs.size (λ_=>none):=⟨emptyDict,#[],_,e2,rfl,(λe he=>absurd he (by simp)),λ_=>rfl⟩
 refine l7 (s:={ s with heap:=(s.heap.push emptyDict).update x λo=>{ o with dict:=some s.heap.objs.size },toks:=s.toks+1 }) (Heap.Ns1.of_empty n0) λh' hn2 hs2=>?_
 obtain⟨oD,esD,epD,hoD,hdD,hcD⟩:=hn2.count (ns:=[name]) (λy hy=>by
  by_cases e:y=name
  .rw[e];simp
  .exact absurd (by rw[if_neg e]) hy)
 refine af (jJ hoD (by rw[hdD];exact jH (aY hcD (by show 1<=sizeLine+1;decide))) ?_)
 refine aq (h _ ((hs2.2 _ hne).trans e3) hn2 λb o hb e=>?_)
 have hbs:b≠s.heap.objs.size:=aQ (aA e)
 refine (hs2.2 b hbs).trans ?_
 show ((s.heap.push emptyDict).update x _).get? b=some o
 rw[cy _ _ (ce hb)]
 exact ag _ e
end
end L2
namespace L2
open PySem PySem.Spec PySem.W Builtin Builtin.ObjectAttr
open Sem (wp)
structure ECls (K:ac) (C:Addr):Prop where
 obj:∃ nm q N bs bm hdct sn sub ab col dd k0 k1 k2 k3 k5,K.lookup C=some (gW nm q C N bs bm hdct sn sub ab col dd k0 k1 k2 k3 k5 "ValueError.__new__")/\A7 bm=true/\hdct=true
 sa:findIn K (.ref C) "__setattr__" = some (some (.builtin "object.__setattr__"))
 ga:findIn K (.ref C) "__getattribute__" = some (some (.builtin "BaseException.__getattribute__"))
 gt:findIn K (.ref C) "__getattr__" = some none
 ca:findIn K (.ref C) "__class__" = some (some (.builtin "object.__class__"))
 hn:specialIn K (.builtin "object.__class__") "__get__" = some (some (.builtin "getset_descriptor.__get__"))
 htk:takesIn K (.builtin "object.__class__")=some true
theorem Cd {bm:List Value} (h:A7 bm=true) {T:String} {b:Bool} (hb:valTail.contains (.type T)=b):bm.contains (.type T)=b:=by
 obtain⟨rs,rfl⟩:=De h
 induction rs with
 |nil=>exact hb
 |cons a r ih=>
  have h':A7 (r.map aV++valTail)=true:=by
   cases r <;> exact h
  rw[aZ,e8,cq,ih h']
  rfl
section
variable {M:mW} {A:bq} {E:Value->aj->Prop} {h:Heap} {g:Array kl} {d:Drawn} {t:Nat} {os:OsState}
variable {nm q:Str} {C N:Addr} {bs bm:List Value} {hdct:Bool} {sn:List Str} {sub:List Value} {ab:Bool} {col:Option Bool} {dd:Option Addr} {k0 k1 k2 k3 k5:Option Value}
theorem Hh (T:A7 bm=true) {rest:List Value} {Q:Unit->aj->Prop} (hC:h.get? C=some (gW nm q C N bs bm hdct sn sub ab col dd k0 k1 k2 k3 k5 "ValueError.__new__"))
  (hq:Q () ⟨h,g,d,t,os⟩):aN M A (checkBuiltinCall "ValueError.__new__" ⟨.ref C::rest,[]⟩) Q E ⟨h,g,d,t,os⟩:=by
 have F:=fK
 have hcont:(aV C::bm).contains (.type "ValueError")=true:=by rw[cq,Cd T (show valTail.contains (.type "ValueError")=true by decide +kernel),fZ]
 have hstar:=F.noStar
 simp only[checkBuiltinCall,F.newKind,F.newSplit,F.newRow]
 repeat (first|refine cG hC ?_|(refine dJ hC ?_;rw[hcont])|refine wpAny_staticBase_exc hC ?_|refine wpAny_madeBy_exc hC ?_|simp only[bne_self_eq_false,bH,if_false] | wp_step)
 exact hq
end
section
variable {prog:aS} {w:bz} {A:bq} {R:ml->aj->Prop} {h:Heap} {g:Array kl} {d:Drawn} {t:Nat} {os:OsState}
variable {nm q:Str} {C N:Addr} {bs bm:List Value} {hdct:Bool} {sn:List Str} {sub:List Value} {ab:Bool} {col:Option Bool} {dd:Option Addr} {k0 k1 k2 k3 k5:Option Value}
theorem Go (T:A7 bm=true) {rest:List Value} (hC:h.get? C=some (gW nm q C N bs bm hdct sn sub ab col dd k0 k1 k2 k3 k5 "ValueError.__new__"))
  (hq:R (.ok (.ret (.ref (h.objs.size+1)))) ⟨(h.push { cls:=.type "tuple", data:=.seq rest.toArray }).push
   {cls:=.ref C,data:=.fields #[.ref h.objs.size,.none,.none,.none,.bool false,.none] },g,d,t,os⟩) (hrest:rest.length<=sizeLine) :
  gE (model prog w) A (.builtin "ValueError.__new__" ⟨.ref C::rest,[]⟩) R ⟨h,g,d,t,os⟩:=by
 have F:=fK
 have hends:=F.ends
 have hcB:(aV C::bm).contains (.type "ValueError")=true:=by rw[cq,Cd T (show valTail.contains (.type "ValueError")=true by decide +kernel),fZ]
 have hcA:(aV C::bm).contains (.type "AttributeError")=false:=by rw[cq,Cd T (show valTail.contains (.type "AttributeError")=false by decide +kernel)];rfl
 have hcN:(aV C::bm).contains (.type "NameError")=false:=by rw[cq,Cd T (show valTail.contains (.type "NameError")=false by decide +kernel)];rfl
 refine codeAny_builtinAt F.entry ?_
 unfold aM.«BaseException.__new__»
 refine wpAt_bind ?_
 show wpAt _ _ _ (stack >>= _) _ _ _
 refine wpAt_bind (wpAt_stack λp below=>wpAt_of_wpAny ?_)
 wp_walk
 refine wpAt_of_wpAny ?_
 rw[F.owner]
 repeat (first|with_reducible refine wpAny_madeHere_exc F.canon hC ?_|with_reducible refine cG hC ?_|(with_reducible refine dJ hC ?_;first|rw[hcB] | rw[hcA] | rw[hcN])|wp_step)
 show R _ _
 rw[dZ]
 exact hq
end
end L2
namespace L2
open PySem PySem.Spec PySem.W Builtin Builtin.ObjectAttr
open Sem (wp)
section
variable {prog:aS} {w:bz} {A:bq} {E:Value->aj->Prop} {h:Heap} {g:Array kl} {d:Drawn} {t:Nat} {os:OsState}
variable {nm q:Str} {C N f:Addr} {bs bm:List Value} {hdct:Bool} {sn:List Str} {sub:List Value} {ab:Bool} {col:Option Bool} {dd:Option Addr} {k0 k1 k2 k3 k5:Option Value}
noncomputable abbrev Eh (h:Heap) (C:Addr) (rest:List Value):Heap:=(h.push { cls:=.type "tuple", data:=.seq rest.toArray }).push { cls:=.ref C,data:=.fields #[.ref h.objs.size,.none,.none,.none,.bool false,.none] }
theorem Hi (T:A7 bm=true) {rest:List Value} {Q:Fin->aj->Prop}
  (hC:h.get? C=some (gW nm q C N bs bm hdct sn sub ab col dd k0 k1 k2 k3 k5 "ValueError.__new__"))
  (hi:Looks (model prog w) h (ji (.ref C) "__init__") (some (.ref f))) (hb:∀ self,Looks (model prog w) h (kY (.ref f) self) (.ref f,[self]))
  (hq:aN (model prog w) A (call (.ref f) (.ref (h.objs.size+1)::rest)) (λv s'=>v=.none/\Q (.done (.ret (.ref (h.objs.size+1)))) s') E ⟨Eh h C rest,g,d,t,os⟩) (hrest:rest.length<=sizeLine) :
  aN (model prog w) A (aM.«type.__call__» ⟨.ref C::rest,[]⟩) Q E ⟨h,g,d,t,os⟩:=by
 have F:=fK
 repeat (first|with_reducible refine cG hC ?_|with_reducible refine wpAny_madeBy_exc hC ?_|wp_step)
 refine codeAny_call_builtin_code (gn _ F.quiet) (Hh T hC ?_)
 refine Go T hC ?_ hrest
 show aN _ _ _ _ _ _
 have kp:∀ b o,h.get? b=some o->(Eh h C rest).get? b=some o:=λb o e=>ag _ (ag _ e)
 have hC₁:=kp _ _ hC
 have hget:(Eh h C rest).get? (h.objs.size+1)=some { cls:=.ref C,data:=.fields #[.ref h.objs.size,.none,.none,.none,.bool false,.none] }:=by heap_get
 have hcC:(aV C::bm).contains (.ref C)=true:=by simp
 unfold kr
 repeat (first|with_reducible refine cG hget ?_|(with_reducible refine dJ hC₁ ?_;rw[hcC])|wp_step)
 show aN _ _ (ji (.ref C) _) _ _ _
 refine (hi.keeps kp).at ?_
 refine bF (af (((hb _).keeps kp).at ?_))
 refine af (bN hq (λv s' z=>?_) λ_ _ z=>z)
 obtain⟨rfl,z⟩:=z
 exact aq (aq z)
theorem af1 (T:A7 bm=true) {rest:List Value} {R:ml->aj->Prop}
  (hC:h.get? C=some (gW nm q C N bs bm hdct sn sub ab col dd k0 k1 k2 k3 k5 "ValueError.__new__"))
  (hi:Looks (model prog w) h (ji (.ref C) "__init__") (some (.ref f))) (hb:∀ self,Looks (model prog w) h (kY (.ref f) self) (.ref f,[self]))
  (hq:gE (model prog w) (A.under (.builtin "type.__call__" ⟨.ref C::rest,[]⟩)) (.call (.ref f) ⟨.ref (h.objs.size+1)::rest,[]⟩) (InitBack (h.objs.size+1) R) ⟨Eh h C rest,g,d,t,os⟩) (hrest:rest.length<=sizeLine) :
  gE (model prog w) A (.call (.ref C) ⟨rest,[]⟩) R ⟨h,g,d,t,os⟩:=by
 have f1:=tc_lookup
 have f2:=tc_bind (.ref C)
 have hT:(⟨h,g,d,t,os⟩:aj).TypeIs (.ref C) "type" := ⟨_,hC,rfl⟩
 refine codeAny_of_tree ?_
 show aN _ _ (callAny (.ref C) _) _ _ _
 repeat (any_goals (first|assumption|with_reducible refine cG hC ?_|wp_step))
 refine⟨rfl,?_⟩
 refine codeAny_call_builtin_at (gn _ (by decide +kernel)) entry_typeCall (wpAny_check_type_call_sub hC (Hi T hC hi hb (gh (eI hq λr s' z=>?_)) hrest))
 rcases r with e|(v|_|_|_) <;> first|exact z|exact z.elim
end
end L2
namespace L2
open PySem PySem.Spec PySem.W PyProof.Rows
theorem ECls.cls {K:ac} {C:Addr} (c:ECls K C):∃ cd,mx K C=some cd/\A7 cd.mro=true/\cd.hasDict=true:=by
 obtain⟨nm,q,N,bs,bm,hdct,sn,sub,ab,col,dd,k0,k1,k2,k3,k5,hl,ht,hd⟩:=c.obj
 refine⟨_,by unfold mx;rw[hl],?_,hd⟩
 obtain⟨rs,e⟩:=De ht
 show A7 (aV C::bm)=true
 rw[e]
 clear e
 show A7 (l9 aV (C::rs)++valTail)=true
 have:∀ l:List Addr,A7 (l9 aV l++valTail)=true:=λl=>by
  induction l with
  |nil=>decide +kernel
  |cons a r ih=>cases r <;> exact ih
 exact this _
theorem ECls.sub {K:ac} {C:Addr} (c:ECls K C) {T:String} (h:valTail.contains (.type T)=true):mroIn K C (.type T)=some true:=by
 obtain⟨cd,h1,h2,_⟩:=c.cls
 obtain⟨rs,e⟩:=De h2
 unfold mroIn
 rw[h1,cC,e,Si rs h,if_neg]
 cases rs <;> exact au
section
variable {prog:aS} {w:bz} {A:bq} {E:Value->aj->Prop} {s:aj} {K:ac} {x C:Addr} {ox:Obj} {od:Option Obj} {name:Str}
theorem ad6 {g a v:Value} {Q:Option Value->aj->Prop} (X:K.In s.heap) (I:fQ s.heap x ox C od) (hga:bh K (.ref C) "__getattribute__" = some (some (.builtin "BaseException.__getattribute__"))) (hgt:bh K (.ref C) "__getattr__" = some none)
  (hB:du K C (.type "BaseException")=some true) (hf:PySem.W.findObj K C od name=some (.bind g a)) (hh:hX v=true)
  (h:∀ {A':bq} {R:ml->aj->Prop},R (.ok (.ret v)) { s with toks:=s.toks+1 }->gE (model prog w) A' (.call g ⟨[a,.ref x,.ref C],[]⟩) R { s with toks:=s.toks+1 }) (hq:Q (some v) { s with toks:=s.toks+1 }) :
  aN (model prog w) A (getAttr? (.ref x) name) Q E s:=by
 obtain⟨hp,gg,d,t,os⟩:=s
 have L0:=I.type (M:=model prog w)
 have L1:=d8 (M:=model prog w) X hga
 have L2:=d8 (M:=model prog w) X hgt
 have L3:=lq (M:=model prog w) X I hf
 have L4:=kW (M:=model prog w) X hB
 unfold getAttr? getAttrBy? getAttrBy
 refine af (wpAny_mkText (af (eW (bF (af (L0.at (af (L1.at ?_))))))))
 have hx2:(cW "BaseException.__getattribute__" == cW "object.__getattribute__")=false:=by decide +kernel
 have hx1:(mE (aV C)&&cW "BaseException.__getattribute__" == cW "object.__getattribute__")=false:=by rw[hx2];rfl
 dsimp only
 rw[hx1,if_neg au]
 unfold getAttrByItsOwn
 refine af (show aN _ _ (ji (.ref C) "__getattr__") _ _ _ from L2.at ?_)
 refine af (eW (bF ?_))
 have hx0:(false&&mE (cW "BaseException.__getattribute__"))=false:=rfl
 unfold callGetattribute
 rw[hx0,if_neg au]
 unfold boundAndCalled
 rw[Qs]
 refine af (aq ?_)
 refine gh (fM (by decide +kernel) F.entry_bexc_ga (check_slot (i := "BaseException.__getattribute__") (owner := "BaseException") (n := "__getattribute__") (by decide +kernel) (by decide +kernel) (L0.andThen L4) (F.args_bexc_ga _ _) ?_))
 unfold aM.«object.__getattribute__»
 refine af (aq (af (aq (af (L0.at (af (L3.at ?_)))))))
 refine af (bF (gh (h ?_)))
 refine aq ?_
 show aN _ _ (handedOut v) _ _ _
 rw[kD hh]
 exact aq (aq hq)
theorem Mb {a g:Value} (hc:(mx K C).isSome=true) (ha:findIn K (.ref C) name=some (some a)) (hg:specialIn K a "__get__" = some (some g)) (ht:takesIn K a=some true):findObj K C od name=some (.bind g a):=by
 obtain⟨cd,hc⟩:=Option.isSome_iff_exists.mp hc
 unfold findObj
 rw[hc,cC,ha,cC]
 simp[hg,ht]
theorem X0 {Q:Option Value->aj->Prop} (c:ECls K C) (X:K.In s.heap) (I:InstAt s.heap x ox C od) (h:Q (some (.ref C)) { s with toks:=s.toks+1 }):aN (model prog w) A (getAttr? (.ref x) "__class__") Q E s:=by
 have hf:findObj K C od "__class__" = some (.bind (.builtin "getset_descriptor.__get__") (.builtin "object.__class__")):=Mb (by obtain⟨cd,hc,_⟩:=c.cls;rw[hc];rfl) c.ca c.hn c.htk
 exact ad6 (v:=.ref C) X I c.ga c.gt (c.sub (by decide +kernel)) hf rfl (λq=>class_get (s:={ s with toks:=s.toks+1 }) (ox:=ox) (od:=od) X I (c.sub (by decide +kernel)) q) h
end
theorem ae7 {K:ac} {x D:Addr} (c:ECls K D):KitX K (.ref x) (.ref D) (λh=>∃ ox od,InstAt h x ox D od) where
 ty:=λ_ _ _ ⟨_,_,I⟩=>I.type
 it:=λ_ _ X _=>by
  obtain⟨cdD,hcD,_⟩:=c.cls
  unfold mx at hcD
  split at hcD
  .rename_i c' d' cd' sl' ho
   intro A' Q' E' s' k q
   unfold isType loadHead
   exact af (iY (k _ _ (X _ _ ho)) (aq q))
  .cases hcD
 ne:=λh tp dd its n sl X htp=>by
  obtain⟨cdD,hcD,_⟩:=c.cls
  refine Bool.eq_false_iff.mpr λq=>?_
  have e:D=tp:=Value.ref.inj (beq_iff_eq.mp q)
  subst e
  unfold mx at hcD
  split at hcD
  .rename_i c' d' cd' sl' ho
   have z:=(X _ _ ho).symm.trans htp
   cases z
  .cases hcD
 ca:=λX ⟨_,_,I⟩ k=>X0 c X I k
noncomputable def ExcAt (H:Hp) (a C:Addr) (fs:List (Str×V)):Prop:=(fs=[]/\(H a=some (Fv a C none)\/FlO H a C none)) \/ ∃ dx,dx≠a/\(H a=some (Fv a C (some dx))\/FlO H a C (some dx))/\H dx=some (xdO dx fs)
inductive TyX (K:ac) (H:Hp) (x:V) (t:Value):Prop where
 |of (h:TyOf K H x t)
 |exc {a C:Addr} {fs:List (Str×V)} (ex:x=.ref a) (e:ExcAt H a C fs) (c:ECls K C) (et:t=.ref C)
 |sqT {a:Addr} {xs:List V} (ex:x=.ref a) (e:SqT K H a xs) (et:t=.type "tuple")
 |sqL {a:Addr} {xs:List V} (ex:x=.ref a) (e:SqL K H a xs) (et:t=.type "list")
section
variable {X:Cx} {pins:List (Addr×Obj)} {U:St} {H:Hp} {s:aj} {A:bq} {E:Value->aj->Prop} {a C:Addr} {fs:List (Str×V)}
theorem On {dx:Option Addr} (I:Inv X pins U H s) (e:H a=some (Fv a C dx)):∃ vs:Array Value,s.heap.get? a=some (Aq C dx vs)/\vs.size=6/\vs[1]? = some .none/\vs[2]? = some .none:=(I.hok a _ e).1
theorem a16 {dx:Option Addr} (I:Inv X pins U H s) (e:H a=some (flO a C dx)):∃ vs:Array Value,s.heap.get? a=some (Aq C dx vs)/\vs.size=6/\vs[2]? = some .none:=(I.hok a _ e).1
theorem ad0 {dx:Option Addr} (I:Inv X pins U H s) (e:H a=some (Fv a C dx)\/FlO H a C dx):∃ vs:Array Value,s.heap.get? a=some (Aq C dx vs)/\vs.size=6:=by
 rcases e with e|e|e
 .obtain⟨vs,h1,h2,_⟩:=On I e;exact⟨vs,h1,h2⟩
 .obtain⟨vs,h1,h2,_⟩:=a16 I e;exact⟨vs,h1,h2⟩
 .exact (I.hok a _ e).1
theorem a35 {dx:Addr} (I:Inv X pins U H s) (e:H dx=some (xdO dx fs)):fs.length<=1000 /\ ∃ mA,s.heap.Ns1 dx mA/\(∀ f,RelO (fs.lookup f) (mA f))/\eG mA (fs.map (·.1)):=(I.hok dx _ e).1
theorem ExcAt.inst (I:Inv X pins U H s) (e:ExcAt H a C fs):∃ vs dx od,InstAt s.heap a (Aq C dx vs) C od/\(∀ o,od=some o -> ∀ name,∃ v,lookIn name o=some v/\RelO (fs.lookup name) v)/\(od=none->fs=[]):=by
 rcases e with ⟨rfl,e⟩|⟨dx,ne,e,ed⟩
 .obtain⟨vs,h1,_⟩:=ad0 I e
  exact⟨vs,none,none,⟨h1,rfl,rfl,aR⟩,λo z=>(nomatch z),λ_=>rfl⟩
 .obtain⟨vs,h1,_⟩:=ad0 I e
  obtain⟨_,mA,hn,hr,_⟩:=a35 I ed
  obtain⟨od,ho,hl⟩:=Hv hn
  refine⟨vs,some dx,some od,⟨h1,rfl,rfl,ho⟩,λo z name=>?_,λz=>nomatch z⟩
  cases z
  exact⟨_,hl name,hr name⟩
theorem Ks {Q:Value->aj->Prop} {c:Value} {b:Bool} {x:V} {u t:Value} (I:Inv X pins U H s) (rx:RelV x u) (ty:TyX X.K H x t) (e:d6 X.K t c=some b) (h:∀ tk,Q (.bool b) { s with toks:=tk }) :
  aN (model X.prog X.w) A (call (.builtin "isinstance") [u,c]) Q E s:=by
 cases ty with
 |of ty=>exact Nl I rx ty e h
 |@exc a C fs ex ea cl et=>
  subst ex et
  cases (show u=aV a from rx)
  obtain⟨vs,dx,od,J,_⟩:=ea.inst I
  exact b7 (ae7 cl) I.kIn ⟨_,_,J⟩ e (λz=>nomatch z) h
 |@sqT a xs ex q et=>
  subst ex et
  cases (show u=aV a from rx)
  obtain⟨_,_,⟨o,h1,h2,_⟩,_⟩:=I.tuple q
  exact b7 ll I.kIn ⟨o,h1,h2⟩ e (λz=>nomatch z) h
 |@sqL a xs ex q et=>
  subst ex et
  cases (show u=aV a from rx)
  obtain⟨_,_,⟨o,_,h1,h2,_⟩,_⟩:=I.list q
  exact b7 ja I.kIn ⟨o,h1,h2⟩ e (λz=>nomatch z) h
theorem X2 {b:Bool} {f:Str} {v:V} {Q:Value->aj->Prop} (I:Inv X pins U H s) (e:ExcAt H a C fs) (c:ECls X.K C) (n:NoAttr X.K C f) (l:fs.lookup f=some v)
  (h:∀ u s',Inv X pins U H s'->RelV v u->Q u s'):aN (model X.prog X.w) A (lL (.ref a) f b) Q E s:=by
 obtain⟨vs,dx,od,J,hl,hn⟩:=e.inst I
 obtain⟨cd,hc,_,hd⟩:=c.cls
 cases od with
 |none=>rw[hn rfl] at l;cases l
 |some o=>
  obtain⟨u?,h1,h2⟩:=hl o rfl f
  rw[l] at h2
  obtain⟨u,hu,ru⟩:=RelO.some_of h2
  subst hu
  refine at1 I.kIn J c.ga c.gt (c.sub (by decide +kernel)) (kU (by unfold hasDictIn;rw[hc];exact hd) n rfl h1) (Nf ru) (h u _ (I.tok _) ru)
noncomputable def bk4 (H:Hp) (a C:Addr) (f:Str) (y:V) (N:Hp->Prop):Prop:=
 (H a=some (Fv a C none) /\ ∀ dx,H dx=none->dx≠a->N (upd (upd H dx (xdO dx [(f,y)])) a (Fv a C (some dx)))) \/
 ∃ dx fs,dx≠a/\H a=some (Fv a C (some dx))/\H dx=some (xdO dx fs)/\fs.length<1000/\N (upd H dx (xdO dx (Du f y fs)))
theorem Wi {P:aS} {w:bz} {H:Hp} {h:Heap} {dx:Option Addr} {vs:Array Value} (h1:h.get? a=some (Aq C dx vs)) (h2:vs.size=6) (h3:vs[1]? = some .none) (h4:vs[2]? = some .none):ObjOk P w H h a (Fv a C dx):=
 ⟨⟨vs,h1,h2,h3,h4⟩,⟨_,h1⟩,λ_ _ ⟨vs',q1,q2⟩ k=>⟨vs',k _ q1,q2⟩⟩
theorem ad2 {P:aS} {w:bz} {H:Hp} {h:Heap} {dx:Option Addr} {vs:Array Value} (h1:h.get? a=some (Aq C dx vs)) (h2:vs.size=6) (h4:vs[2]? = some .none):ObjOk P w H h a (flO a C dx):=
 ⟨⟨vs,h1,h2,h4⟩,⟨_,h1⟩,λ_ _ ⟨vs',q1,q2⟩ k=>⟨vs',k _ q1,q2⟩⟩
theorem a66 {P:aS} {w:bz} {H:Hp} {h:Heap} {dx:Option Addr} {vs:Array Value} (h1:h.get? a=some (Aq C dx vs)) (h2:vs.size=6):ObjOk P w H h a (fcO a C dx):=
 ⟨⟨vs,h1,h2⟩,⟨_,h1⟩,λ_ _ ⟨vs',q1,q2⟩ k=>⟨vs',k _ q1,q2⟩⟩
theorem ap5 {P:aS} {w:bz} {H:Hp} {h:Heap} {dx:Addr} {mA:Str->Option Value} (z:fs.length<=1000) (h1:h.Ns1 dx mA) (h2:∀ f,RelO (fs.lookup f) (mA f)) (h3:eG mA (fs.map (·.1))):ObjOk P w H h dx (xdO dx fs):=
 ⟨⟨z,mA,h1,h2,h3⟩,(let ⟨o,_,_,e,_⟩:=h1;⟨o,e⟩),λ_ _ ⟨z',mB,q1,q2,q3⟩ k=>⟨z',mB,q1.at k,q2,q3⟩⟩
theorem Y2 {f:Str} {y:V} {u:Value} {Q:Unit->aj->Prop} {N:Hp->Prop} (I:Inv X pins U H s) (c:ECls X.K C) (n:NoAttr X.K C f) (ry:RelV y u) (h0:bk4 H a C f y N)
  (h:∀ H' s',Inv X pins U H' s'->N H'->Q () s'):aN (model X.prog X.w) A (mG (.ref a) f u) Q E s:=by
 obtain⟨cd,hc,hp,hd⟩:=c.cls
 rcases h0 with ⟨e,hN⟩|⟨dx,fs,ne,e,ed,hz,hN⟩
 .obtain⟨vs,h1,h2,h3,h4⟩:=On I e
  refine al3 I.kIn h1 c.sa hc hp hd n λh' q1 q2 q3=>?_
  have fr:H s.heap.objs.size=none:=I.hok.fresh (ai _)
  have ane:s.heap.objs.size≠a:=λz=>by rw[z,e] at fr;cases fr
  refine h _ _ ?_ (hN _ fr ane)
  obtain⟨o,es,ep,eo,hrest⟩:=id q2
  have eo1:(s.heap.push o).get? s.heap.objs.size=some o:=az s.heap (Heap.get?_some_iff.mp eo).2
  have I1:=I.laid (a:=s.heap.objs.size) (o:=xdO s.heap.objs.size [(f,y)]) (h':=s.heap.push o) (t':=s.toks+2) (λb u e=>ag _ e) (ai _)
   (ap5 (by simp) (q2.at λo' e'=>by rw[eo] at e';cases e';exact eo1) (λg=>by
    show RelO (eO g [(f,y)]) (if g=f then some u else none)
    by_cases q:g=f
    .rw[if_pos q,q];simp only[eO,beq_self_eq_true];exact ry
    .rw[if_neg q];simp only[eO,beq_eq_false_iff_ne.mpr q];exact aR) (λg hg=>by
    by_cases q:g=f
    .rw[q];simp
    .exact absurd (by show (if g=f then some u else none)=none;rw[if_neg q]) hg))
  exact I1.write (x:=a) (e:=a) (t':=s.toks+2) (by rw[Ad (ce ane),e];exact aR) (.inl rfl) (λb u hb eb=>by
   by_cases hs:b=s.heap.objs.size
   .rw[hs] at eb ⊢
    rw[eo1] at eb
    cases eb
    exact eo
   .refine q3 b u hb ?_
    rcases Heap.get?_push_cases eb with z|z
    .exact absurd z.1 hs
    .exact z) ⟨_,q1⟩ (Wi q1 h2 h3 h4)
 .obtain⟨vs,h1,h2,h3⟩:=On I e
  obtain⟨z,mA,hn,hr,wi⟩:=a35 I ed
  refine ay8 (ns:=fs.map (·.1)) I.kIn h1 hn ne c.sa hc hp hd n wi (by rw[ae,bA];omega) λh' q1 q2 q3=>?_
  refine h _ _ ?_ hN
  refine I.write (x:=dx) (e:=dx) (by rw[ed];exact aR) (.inl rfl) (λb q hb z=>(q3.2 b hb).trans z) (let ⟨o,_,_,e',_⟩:=q2;⟨o,e'⟩) ?_
  refine ap5 ?_ q2 (λg=>?_) (λg hg=>?_)
  .have:=Fa f y fs;omega
  .show RelO ((Du f y fs).lookup g) (if g=f then some u else mA g)
   rw[Fb]
   by_cases q:g=f
   .rw[if_pos q,if_pos q];exact ry
   .rw[if_neg q,if_neg q];exact hr g
  .by_cases q:g=f
   .rw[q];exact (D4 f y fs).1
   .refine (D4 f y fs).2 g (wi g λz=>hg ?_)
    show (if g=f then some u else mA g)=none
    rw[if_neg q];exact z
theorem Inv.madeX (I:Inv X pins U H s) (C:Addr) (rest:List Value):Inv X pins U (upd H (s.heap.objs.size+1) (Fv (s.heap.objs.size+1) C none)) { s with heap:=Eh s.heap C rest }:=by
 have hget:(Eh s.heap C rest).get? (s.heap.objs.size+1)=some (Aq C none #[.ref s.heap.objs.size,.none,.none,.none,.bool false,.none]):=by heap_get
 exact I.laid (t':=s.toks) (λb u e=>ag _ (ag _ e)) (df _) (Wi hget rfl rfl rfl)
variable {CX:CXT} {k:Nat} {f:Addr} {fd:a9} {ps:List Str} {sp:Sp} {dvs:List V} {ds us:List Value} {vs:List V} {Q:VK}
theorem Yx (c:ECls X.K C) (hi:findIn X.K (.ref C) "__init__" = some (some (.ref f))) (hf:isFn X.K (.ref f)=true) (F:FnOk X.prog X.w X.K X.mg X.base CX k f fd ps sp) (hr:Room (k+1) X.A) (hb:Binds X.K fd ps ds) (hd:Vals dvs ds)
  (I:Inv X pins U H s) (r:Vals vs us) (hl:vs.length<=1000) {EX:XK} (hx:∀ e s1 s' H1,Inv X pins U H1 s1->CX X.stack H1 s1 EX e s'->X.xe e s')
  (h:∀ a,H a=none->sp (.ref a::(vs++dvs)) (upd H a (Fv a C none)) (λv H2=>v=.non/\Q (.ref a) H2) EX) :
  aN (model X.prog X.w) X.A (call (.ref C) us) (EP X pins U Q) X.xe s:=by
 obtain⟨nm,q,N,bs,bm,hdct,sn,sub,ab,col,dd,k0,k1,k2,k3,k5,hC,ht,_⟩:=c.obj
 have hq:=h (s.heap.objs.size+1) (I.hok.fresh (df _))
 have I2:=I.madeX C us
 have r2:Vals (V.ref (s.heap.objs.size+1)::(vs++dvs)) (aV (s.heap.objs.size+1)::(us++ds)):=.cons rfl (r.append hd)
 have hlen:(aV (s.heap.objs.size+1)::us++ds).length=ps.length:=by
  have e:=r2.length
  rw[F.len _ _ _ _ hq] at e
  exact e.symm
 refine gh (af1 (f:=f) ht (I.kIn _ _ hC) (looks_findIn I.kIn hi) (λself=>PySem.W.bind_fn I.kIn self (beq_iff_eq.mp hf)) (eI (F.run _ X.stack { s with heap:=Eh s.heap C us } _ ⟨aV (s.heap.objs.size+1)::us,[]⟩ (aV (s.heap.objs.size+1)::(us++ds)) _ _ EX (hr.make C us [])
  (I2.env0.make C us []) (hb _ (aV (s.heap.objs.size+1)::us) I2.kIn hlen) r2 hq) λr s' hq'=>?_) (by rw[<- r.length,bA];omega))
 cases r with
 |error e=>exact hx e _ s' _ I2 hq'
 |ok fl=>
  cases fl with
  |ret u=>
   obtain⟨v,H',I3,rv,ev,q3⟩:=I2.after hq'
   subst ev
   exact⟨rv,⟨V.ref (s.heap.objs.size+1),H',I3,rfl,q3⟩⟩
  |next=>exact cb hq'
  |brk=>exact cb hq'
  |cont=>exact cb hq'
end
end L2
namespace L2
open PySem PySem.Spec PyProof.Rows
noncomputable def Ite (K:ac) (l:Addr):It:=
  ⟨λi H=>∃ xs x,SqL K H l xs/\xs[i]? = some x,
   λi H v H'=>∃ T x,H T=none/\v=.ref T/\(∀ xs,SqL K H l xs->xs[i]? = some x)/\H'=upd H T (.tup [.int i,x]),
   λi H=>∃ xs,SqL K H l xs/\xs.length<=i⟩
theorem Zb {P:aS} {w:bz} {K:ac} {elts:List Expr} {kt:Nat} {pt:Pos} {e it l:Addr} (ne:e≠it) :
  Lz P w K (.Tuple elts kt pt) (Ite K l) [e,it] e (λi h=>(∃ old,jX h e it (i:Int) old)/\h.IsListIter it l i) where
 mem:=by simp
 obj:=λi h st b hb=>by
  obtain⟨⟨old,he⟩,⟨o1,e1,c1,d1⟩⟩:=st
  have hb:b=e\/b=it:=by simpa using hb
  rcases hb with rfl|rfl
  .exact⟨_,he,λv q=>nomatch q⟩
  .exact⟨o1,e1,λv q=>by rw[d1] at q;cases q⟩
 keep:=λi h h' st k=>by
  obtain⟨⟨old,he⟩,h1⟩:=st
  exact⟨⟨old,k e (by simp) _ he⟩,h1.at λo q=>k it (by simp) o q⟩
 item:=by
  intro X hP hw hK hc i pins s U H E I hf st hg
  subst hP hw hK
  obtain⟨xs,x,q1,hx⟩:=hg
  obtain⟨its1,r1,p1,z1⟩:=I.list q1
  obtain⟨u,hu,ru⟩:=r1.get hx
  obtain⟨⟨old,he⟩,h1⟩:=st
  refine wpAny_pyNext_enum_item he h1 p1.isList (x:=u) (by simpa using hu) ne λh' a1 a2 a3 a4 hk=>?_
  refine⟨_,rfl,iJ a1 λh'' hz' hs'=>?_⟩
  have hT:=I.hok.fresh (ai s.heap.objs.size)
  have up':∀ b o,b∉[e,it]->s.heap.get? b=some o->h''.get? b=some o:=λb o hb q=>by
   have b1:b≠e:=by rintro rfl;exact hb (by simp)
   have b2:b≠it:=by rintro rfl;exact hb (by simp)
   exact hs'.extBut b o b1 (hk b o b1 b2 q)
  have nT:∀ {b o},s.heap.get? b=some o->b≠s.heap.objs.size:=λq=>aQ (aA q)
  have Tnew:h''.get? s.heap.objs.size=some { cls:=.type "tuple", data:=.seq #[.int i s.toks,u] }:=hs'.extBut _ _ (ce (nT he)) a3
  have I1:Inv X pins U (upd H s.heap.objs.size (.tup [.int i,x])) { s with heap:=h'',toks:=s.toks+1 }:=
   I.turnedN (t':=s.toks+1) (ch:=[e,it]) (λb hb=>hf b hb) up' (ai _) ⟨by show 2<=sizeLine;decide,[.int i s.toks,u],.cons ⟨_,rfl⟩ (.cons ru .nil),⟨_,Tnew,rfl,_,rfl⟩⟩
  refine⟨.ref s.heap.objs.size,_,I1,rfl,⟨s.heap.objs.size,x,hT,rfl,λxs' h'=>by rw[I.list_inj h' q1];exact hx,rfl⟩,⟨⟨_,hz'⟩,a2.at λo q=>hs'.extBut _ o (ce ne) q⟩,λb hb=>?_⟩
  have q:=(hf b hb).1
  rw[Ad ?_]
  .exact q
  .have hb:b=e\/b=it:=by simpa using hb
   rcases hb with rfl|rfl
   .exact nT he
   .obtain⟨_,q,_⟩:=h1;exact nT q
 done:=by
  intro X hP hw hK hc i pins s U H E I hf st hg
  subst hP hw hK
  obtain⟨xs,q1,hx⟩:=hg
  obtain⟨its1,r1,p1,z1⟩:=I.list q1
  have e1:=r1.length
  obtain⟨⟨old,he⟩,h1⟩:=st
  refine wpAny_pyNext_enum_end (I.ok.hd hc) he h1 p1.isList (by simp;omega) λh' hk=>⟨rfl,?_⟩
  refine I.turnedL (t':=s.toks) (ch:=[e,it]) (λb hb=>hf b hb) λb o hb q=>?_
  have b2:b≠it:=by rintro rfl;exact hb (by simp)
  exact hk b o b2 q
 self:=λA i s Q E st h=>let ⟨_,he⟩:=st.1;gZ he h
section
variable {X:Cx} {pins:List (Addr×Obj)} {U U0:St} {H H0:Hp} {s s0:aj} {p:Addr} {kvs:List (Key×V)} {o:Obj}
def Xm (o:Obj) (ep:Nat):Prop:=∃ es,o.data=.dict es ep
theorem Inv.froze (I:Inv X pins U H s) (h:H p=some (.dK kvs)):∃ ob ep,s.heap.get? p=some ob/\Xm ob ep/\Inv X pins U (upd H p (.frz ob (.dK kvs))) s:=by
 have K:=I.hok p _ h
 obtain⟨z,y,vs,r,ob,es,ep,e,c,d,q⟩:=id K
 refine⟨ob,ep,e,⟨es,d⟩,?_⟩
 exact I.write (x:=p) (e:=p) (t':=s.toks) (h':=s.heap) (by rw[h];trivial) (.inl rfl) (λb u _ q=>q) ⟨ob,e⟩ ⟨e,K⟩
theorem Inv.thaw (I0:Inv X pins U0 H0 s0) (h0:H0 p=some (.dK kvs)) (I:Inv X pins U H s) (h:H p=some (.frz o (.dK kvs))):Inv X pins U (upd H p (.dK kvs)) s:=by
 have ne:∀ b,H b=none->b≠p:=λb e z=>by rw[z,h] at e;cases e
 have ntup:∀ b xs,H b=some (.tup xs)->b≠p:=λb xs e z=>by rw[z,h] at e;cases e
 have nown:∀ b c,H b=some (.own c)->b≠p:=λb c e z=>by rw[z,h] at e;cases e
 refine⟨I.ok,I.os,I.bare,⟨I.base.keep,I.base.slot,λb ob e n hx=>?_,I.base.there,λb xs e=>?_,λb ob u e=>?_,λb ps e=>?_⟩,I.loc,I.cell,?_,λx c e=>?_,λq hq=>?_,λb u e=>?_,I.len⟩
 .have q:=I.base.free b ob e n hx
  rw[Ad (ne b q)];exact q
 .have q:=I.base.tups b xs e
  rw[Ad (ntup b xs q)];exact q
 .have q:=I.base.frzs b ob u e
  have n:b≠p:=λz=>by
   have q0:=I0.base.frzs b ob u e
   rw[z,h0] at q0;cases q0
  rw[Ad n];exact q
 .obtain⟨more,q⟩:=I.base.tbls b ps e
  have n:b≠p:=λz=>by rw[z,h] at q;cases q
  exact⟨more,by rw[Ad n];exact q⟩
 .rw[Ad (ne _ I.free)];exact I.free
 .have q:=I.freeC x c e
  rw[Ad (ne _ q)];exact q
 .obtain⟨a,b,c⟩:=I.pin q hq
  exact⟨a,by rw[Ad (ne _ b)];exact b,c⟩
 .by_cases z:b=p
  .subst z
   rw[Ab] at e
   cases e
   exact (I.hok b _ h).2
  .rw[Ad z] at e
   exact (I.hok b u e).stay (λ_ _ _ q=>q) (λc q=>by rw[Ad (nown c b q)];exact q) λc xs q=>by rw[Ad (ntup c xs q)];exact q
theorem Thaw.inv {P:Hp->Prop} (I0:Inv X pins U0 H0 s0) (I:Inv X pins U H s) (t:Thaw H0 H P):∃ H',Inv X pins U H' s/\P H':=by
 rcases t with t|⟨p,o,kvs,h0,h,t⟩
 .exact⟨H,I,t⟩
 .exact⟨_,I0.thaw h0 I h,t⟩
theorem Inv.kdict (I:Inv X pins U H s) (h:H p=some (.frz o (.dK kvs))) {ep:Nat} (he:Xm o ep):∃ vs,KV kvs vs/\s.heap.DictAt (Bh X.prog X.w) p vs ep/\(p==c8)=false:=by
 obtain⟨e1,z,y,vs,r,ob,es,ep',e,c,d,q⟩:=I.hok p _ h
 obtain⟨es',d'⟩:=he
 rw[e1] at e
 cases e
 have d2:=d
 rw[d'] at d2
 cases d2
 exact⟨vs,r,⟨o,_,e1,c,d,q⟩,y⟩
end
noncomputable def Itd (p:Addr) (o:Obj) (kvs:List (Key×V)):It:=
 ⟨λi H=>H p=some (.frz o (.dK kvs))/\i<kvs.length,λi H x H'=>H'=H /\ ∃ k v,kvs[i]? = some (k,v)/\x=kV k,λi H=>H p=some (.frz o (.dK kvs))/\kvs.length<=i⟩
theorem ae8:∀ {kvs:List (Key×V)} {vs:List (Key×Value)} {i:Nat} {k:Key} {v:V},KV kvs vs->kvs[i]? = some (k,v) -> ∃ u,vs[i]? = some (k,u)/\RelV v u
 | _,_,0,k,v,.cons (b:=q) r _,e=>by
  simp only[eJ,gS] at e
  subst e
  exact⟨q.2,congrArg some (Prod.ext r.1.symm rfl),r.2⟩
 | _,_,i+1,k,v,.cons r t,e=>by
  simp only[bK] at e ⊢
  exact ae8 t e
theorem a20 {P:aS} {w:bz} {k:Key} {u:Value} (h:(Bh P w).is k u=true):RelV (kV k) u:=by
 cases k with
 |inl i=>obtain⟨t,rfl⟩:=Value.isInt_shape (show mn i u=true from h);exact⟨t,rfl⟩
 |inr z=>obtain⟨t,rfl⟩:=kX (show ij z u=true from h);exact⟨t,rfl⟩
theorem Za {P:aS} {w:bz} {K:ac} {tg:Expr} (p it:Addr) (o:Obj) (kvs:List (Key×V)) {ep:Nat} (he:Xm o ep):Lz P w K tg (Itd p o kvs) [it] it (λi h=>h.IsKeyIter it p i kvs.length ep) where
 mem:=by simp
 obj:=λi h st b hb=>by
  have e:b=it:=by simpa using hb
  subst e
  obtain⟨o,e,c,d⟩:=st
  exact⟨o,e,λv z=>by rw[d] at z;cases z⟩
 keep:=λi h h' st k=>st.at λo e=>k it (by simp) o e
 item:=by
  intro X hP hw hK hc i pins s U H E I hf st hg
  subst hP hw hK
  obtain⟨hH,hi⟩:=hg
  obtain⟨vs,rel,hd,hm⟩:=I.kdict hH he
  obtain⟨f0,f1,f2,f3,f4,f5⟩:=hf it (by simp)
  obtain⟨⟨k,v⟩,hx⟩:∃ q,kvs[i]? = some q:=⟨kvs[i],by simp[hi]⟩
  obtain⟨u,hu,_⟩:=ae8 rel hx
  have hl:kvs.length=vs.length:=rel.length
  rw[hl] at st
  refine jS st hd hu λkey h' hk st' sb=>?_
  have I1:Inv X pins U H { s with heap:=h' }:=I.turned (t':=s.toks) (λb o hb e=>sb.extBut b o hb e) f0 f1 f3 f4 f5
  obtain⟨o1,e,c,d⟩:=id st'
  exact⟨key,rfl,Km (s:={ s with heap:=h' }) e c d (by decide) ⟨kV k,H,I1,a20 hk,⟨rfl,k,v,hx,rfl⟩,by rw[hl];exact st',λb hb=>(hf b hb).1⟩⟩
 done:=by
  intro X hP hw hK hc i pins s U H E I hf st hg
  subst hP hw hK
  obtain⟨hH,hi⟩:=hg
  obtain⟨vs,rel,hd,hm⟩:=I.kdict hH he
  obtain⟨f0,f1,f2,f3,f4,f5⟩:=hf it (by simp)
  have hl:kvs.length=vs.length:=rel.length
  rw[hl] at st
  exact wpAny_pyNext_dict_end (I.ok.hd hc) st hd (by simp;omega) λh' eb=>⟨rfl,I.turned (t':=s.toks) (λb o hb e=>eb b o hb e) f0 f1 f3 f4 f5⟩
 self:=λ_ _ _ _ _ st h=>kG st h
theorem as3 {X:Cx} {tg:Expr} {pins:List (Addr×Obj)} {U:St} {H:Hp} {s:aj} {R:It->Hp->Prop} {E:Value->aj->Prop} {p:Addr} {o:Obj} {kvs:List (Key×V)} (I:Inv X pins U H s) (h:H p=some (.frz o (.dK kvs)))
  (q:R (Itd p o kvs) H):aN (model X.prog X.w) X.A (mF (.ref p)) (PIE X pins U tg R) E s:=by
 have he:∃ ep,Xm o ep:=by
  obtain⟨e1,z,y,vs,r,ob,es,ep,e,c,d,_⟩:=I.hok p _ h
  rw[e1] at e;cases e
  exact⟨ep,es,d⟩
 obtain⟨ep,he⟩:=he
 obtain⟨vs,rel,hd,hm⟩:=I.kdict h he
 refine fI hm hd ?_
 refine⟨s.heap.objs.size,[s.heap.objs.size],_,_,H,rfl,I.kept (t':=s.toks) λb o e=>ag _ e,Za p _ o kvs he,⟨_,az _ rfl,rfl,by rw[rel.length];rfl⟩,λb hb=>?_,q⟩
 have e:b=s.heap.objs.size:=by simpa using hb
 subst e
 exact I.fpOk (ai _) (I.hok.fresh (ai _))
section
variable {prog:aS} {w:bz} {A:bq} {E:Value->aj->Prop} {s:aj} {d it:Addr} {ob:Obj} {es:Array ma} {ep i:Nat}
theorem as6 {Q:Value->aj->Prop} (nm:(d==c8)=false) (g:s.heap.get? d=some ob) (c:ob.ExactDict) (e:ob.data=.dict es ep)
  (q:Q (.ref s.heap.objs.size) { s with heap:=s.heap.push { cls:=.type "dict_keyiterator", data:=.fields #[.ref d,.int 0 0,.int es.size 0,.int ep 0] } }):aN (model prog w) A (mF (.ref d)) Q E s:=by
 have T:s.TypeIs (.ref d) "dict" := ⟨ob,g,c.1⟩
 refine wpAny_pyIter_slot T F.slot_dict_iter (cR F.slot_dict_iter T F.entry_dict_iter ?_ (F.args_dict_iter_1 _))
 unfold aM.«dict.__iter__»
 refine af ?_
 unfold Builtin.Dict.dictSlotNone
 refine af (wpAny_notOrdered_dict T (show aN _ _ (pure (aV d)) _ _ s from aq ?_))
 show aN _ _ (jU d >>= _) _ _ s
 unfold jU
 rw[if_neg (by rw[nm];exact au)]
 refine af (aq (af (gY g e (af (iE g e ?_)))))
 refine af (dE (aq ⟨_,rfl, "dict_keyiterator", _,⟨_,az _ rfl,rfl⟩,F.slot_dict_keyiterator_next.lookup,?_⟩))
 simpa [dX] using q
theorem as5 {Q:Option Value->aj->Prop} (t:s.heap.IsKeyIter it d i es.size ep) (g:s.heap.get? d=some ob) (e:ob.data=.dict es ep) (hi:i<es.size)
  (q:∀ h',h'.IsKeyIter it d (i+1) es.size ep->bn it s.heap h'->Q (some es[i].key) { s with heap:=h' }):aN (model prog w) A (iO (.ref it)) Q E s:=by
 obtain⟨o,ho,hc,hd⟩:=id t
 unfold iO
 refine af (eW (dw (name:=dB "__next__") t.typeIs bV (cR bV t.typeIs eZ ?_ (eE _))))
 refine af (aq (af (af ?_)))
 first|refine af (cm t.typeIs (aq ?_))|refine af (cH t.typeIs (aq ?_))
 refine af (iX ho hd ?_)
 simp only[show fb "dict_keyiterator" = false by decide,bH,if_false]
 show aN _ _ (if (aV d==bC)=true then _ else _) _ _ s
 rw[if_neg (show ¬ ((aV d==bC)=true) from au)]
 refine af (aq (af (gY g e ?_)))
 rw[if_neg (by simp)]
 refine af (aq (af (iE g e ?_)))
 rw[if_neg (by simp)]
 refine aq ?_
 simp only[show ¬ ((i:Int)<0) from by omega,if_false,aU,dY hi]
 refine af ?_
 first|refine af (cm t.typeIs (aq ?_))|refine af (cH t.typeIs (aq ?_))
 refine af (kg t.typeIs ?_)
 show aN _ _ (ku (.ref it) 1 (dX ((i:Int)+1)) >>= _) _ _ s
 refine af (fT ho hd (by simp) ?_)
 have t':(s.heap.update it (eU (·.setIfInBounds 1 (dX ((i:Int)+1))))).IsKeyIter it d (i+1) es.size ep:=
  ⟨_,fw _ ho (hG (lh hd _)),(Obj.cls_mapFields ..).trans hc,by rw[lh hd];simp[dX]⟩
 refine af (bF (af (kg (s:={ s with heap:=s.heap.update it (eU (·.setIfInBounds 1 (dX ((i:Int)+1)))) }) t'.typeIs ?_)))
 show aN _ _ (pure es[i].key) _ _ _
 exact aq (aq ⟨_,rfl,aq (q _ t' (bJ ..))⟩)
theorem a65 {Q:Option Value->aj->Prop} (hh:A.handled=none) (t:s.heap.IsKeyIter it d i es.size ep) (g:s.heap.get? d=some ob) (e:ob.data=.dict es ep) (hi:es.size<=i)
  (q:∀ h',mf it s.heap h'->Q none { s with heap:=h' }):aN (model prog w) A (iO (.ref it)) Q E s:=by
 obtain⟨o,ho,hc,hd⟩:=id t
 unfold iO
 refine af (eW (dw (name:=dB "__next__") t.typeIs bV (cR bV t.typeIs eZ ?_ (eE _))))
 refine af (aq (af (af ?_)))
 first|refine af (cm t.typeIs (aq ?_))|refine af (cH t.typeIs (aq ?_))
 refine af (iX ho hd ?_)
 simp only[show fb "dict_keyiterator" = false by decide,bH,if_false]
 show aN _ _ (if (aV d==bC)=true then _ else _) _ _ s
 rw[if_neg (show ¬ ((aV d==bC)=true) from au)]
 refine af (aq (af (gY g e ?_)))
 rw[if_neg (by simp)]
 refine af (aq (af (iE g e ?_)))
 rw[if_neg (by simp)]
 refine aq ?_
 simp only[show ¬ ((i:Int)<0) from by omega,if_false,aU,jK hi]
 refine af ?_
 first|refine af (cm t.typeIs (aq ?_))|refine af (cH t.typeIs (aq ?_))
 show aN _ _ (ku (.ref it) 0 .none >>= _) _ _ s
 refine af (fT ho hd (by simp) ?_)
 show aN _ _ (newExc (.type "StopIteration") [] >>= _) _ _ _
 refine af ?_
 simp only[newExc,newTuple]
 refine af (dE ?_ (by size_fits))
 refine af (m:=iU _ _) (wpAny_of_eq (a:=bC) (by first|rfl|(simp only[iU];rfl)) ?_)
 refine dE ?_ (by size_fits)
 simp only[raiseNew]
 refine af (wpAny_handled ?_)
 rw[show A.in1.handled=none from hh]
 refine af (aq (mH ?_))
 refine af (jI (T := "StopIteration") (b:=true) ⟨_,az _ rfl,rfl⟩ isSubtype_stop ?_)
 exact aq (q _ (((bJ ..).extBut.push _).push _))
end
section
variable {X:Cx} {pins:List (Addr×Obj)} {U:St} {H:Hp} {s:aj} {p:Addr} {kvs:List (TK×V)} {o:Obj}
theorem Inv.frozeT (I:Inv X pins U H s) (h:H p=some (.dT kvs)):∃ ob,Inv X pins U (upd H p (.frz ob (.dT kvs))) s:=by
 have K:=I.hok p _ h
 obtain⟨z,y,vs,r,ob,es,ep,e,c,d,q⟩:=id K
 exact⟨ob,I.write (x:=p) (e:=p) (t':=s.toks) (h':=s.heap) (by rw[h];trivial) (.inl rfl) (λb u _ q=>q) ⟨ob,e⟩ ⟨e,K.stay (λ_ _ _ q=>q) (λc q=>by rw[Ad λz=>by rw[z,h] at q;cases q];exact q) λc xs q=>by rw[Ad λz=>by rw[z,h] at q;cases q];exact q⟩⟩
theorem Inv.tdict (I:Inv X pins U H s) (h:H p=some (.frz o (.dT kvs))):∃ es ep,s.heap.get? p=some o/\o.ExactDict/\o.data=.dict es ep/\(p==c8)=false/\es.size=kvs.length /\ ∀ (i:Nat) (hi:i<es.size),∃ k v b,kvs[i]? = some (k,v)/\es[i].key=.ref b/\Ap k<=8/\TkAt H k (.ref b):=by
 obtain⟨e1,z,y,xs,r,ob,es,ep,e,c,d,q,_⟩:=I.hok p _ h
 rw[e1] at e
 cases e
 have hl:es.size=kvs.length:=by
  have:=congrArg cJ q
  rw[ae] at this
  rw[r.length,<- this,bS]
 refine⟨es,ep,e1,c,d,y,hl,λi hi=>?_⟩
 have all:∀ {l:List (TK×V)} {m:List (TK×Addr×Value)} {j:Nat} {x:TK×Addr×Value},ie (λ(p:TK×V) (q:TK×Addr×Value)=>p.1=q.1/\(Ap p.1<=8/\TkAt H p.1 (.ref q.2.1))/\RelV p.2 q.2.2) l m->m[j]? = some x -> ∃ k v,l[j]? = some (k,v)/\Ap k<=8/\TkAt H k (.ref x.2.1):=by
  intro l m j x q
  induction q generalizing j with
  |nil=>intro e;simp at e
  |@cons a b _ _ hq t ih=>
   intro e
   cases j with
   |zero=>cases e;exact⟨a.1,a.2,rfl,hq.2.1⟩
   |succ j=>exact ih (by simpa using e)
 have hx:i<xs.length:=by
  have:=congrArg cJ q
  rw[ae,bS] at this
  omega
 obtain⟨k,v,e2,e3⟩:=all r (ah hx)
 refine⟨k,v,(xs[i]).2.1,e2,?_,e3⟩
 have:es.toList[i]? = some (entryOfKey (C2 X.prog X.w) xs[i]):=by rw[q,am,ah hx];rfl
 rw[cD,dY hi] at this
 rw[aD this]
 rfl
end
noncomputable def ar1 (p:Addr) (o:Obj) (kvs:List (TK×V)):It:=
 ⟨λi H=>H p=some (.frz o (.dT kvs))/\i<kvs.length,λi H x H'=>H'=H /\ ∃ k v,kvs[i]? = some (k,v)/\Ap k<=8/\TkAt H k x /\ ∃ b,x=.ref b,λi H=>H p=some (.frz o (.dT kvs))/\kvs.length<=i⟩
theorem a05 {P:aS} {w:bz} {K:ac} {tg:Expr} (p it:Addr) (o:Obj) (kvs:List (TK×V)) {es:Array ma} {ep:Nat} (he:o.data=.dict es ep):Lz P w K tg (ar1 p o kvs) [it] it (λi h=>h.IsKeyIter it p i es.size ep) where
 mem:=by simp
 obj:=λi h st b hb=>by
  have e:b=it:=by simpa using hb
  subst e
  obtain⟨o,e,c,d⟩:=st
  exact⟨o,e,λv z=>by rw[d] at z;cases z⟩
 keep:=λi h h' st k=>st.at λo e=>k it (by simp) o e
 item:=by
  intro X hP hw hK hc i pins s U H E I hf st hg
  subst hP hw hK
  obtain⟨hH,hi⟩:=hg
  obtain⟨es',ep',g,c,d,_,hl,hk⟩:=I.tdict hH
  rw[he] at d
  cases d
  obtain⟨f0,f1,f2,f3,f4,f5⟩:=hf it (by simp)
  have hi':i<es.size:=by omega
  obtain⟨k,v,b,e1,e2,e3,e4⟩:=hk i hi'
  refine as5 st g he hi' λh' st' sb=>?_
  have I1:Inv X pins U H { s with heap:=h' }:=I.turned (t':=s.toks) (λb o hb e=>sb.extBut b o hb e) f0 f1 f3 f4 f5
  obtain⟨o1,e,c,d⟩:=id st'
  exact⟨_,rfl,Km (s:={ s with heap:=h' }) e c d (by decide) ⟨.ref b,H,I1,e2,⟨rfl,k,v,e1,e3,e4,b,rfl⟩,st',λb hb=>(hf b hb).1⟩⟩
 done:=by
  intro X hP hw hK hc i pins s U H E I hf st hg
  subst hP hw hK
  obtain⟨hH,hi⟩:=hg
  obtain⟨es',ep',g,c,d,_,hl,hk⟩:=I.tdict hH
  rw[he] at d
  cases d
  obtain⟨f0,f1,f2,f3,f4,f5⟩:=hf it (by simp)
  exact a65 (I.ok.hd hc) st g he (by omega) λh' eb=>⟨rfl,I.turned (t':=s.toks) (λb o hb e=>eb b o hb e) f0 f1 f3 f4 f5⟩
 self:=λ_ _ _ _ _ st h=>kG st h
theorem bl6 {X:Cx} {tg:Expr} {pins:List (Addr×Obj)} {U:St} {H:Hp} {s:aj} {R:It->Hp->Prop} {E:Value->aj->Prop} {p:Addr} {kvs:List (TK×V)} (I:Inv X pins U H s) (h:H p=some (.dT kvs))
  (q:∀ o,R (ar1 p o kvs) (upd H p (.frz o (.dT kvs)))):aN (model X.prog X.w) X.A (mF (.ref p)) (PIE X pins U tg R) E s:=by
 obtain⟨o,I1⟩:=I.frozeT h
 obtain⟨es,ep,g,c,d,nm,hl,_⟩:=I1.tdict Ab
 refine as6 nm g c d ?_
 refine⟨s.heap.objs.size,[s.heap.objs.size],_,_,_,rfl,I1.kept (t':=s.toks) λb o e=>ag _ e,a05 p _ o kvs d,⟨_,az _ rfl,rfl,rfl⟩,λb hb=>?_,q o⟩
 have e:b=s.heap.objs.size:=by simpa using hb
 subst e
 exact I1.fpOk (ai _) (I1.hok.fresh (ai _))
end L2
namespace PySem
theorem Sem.wp_never {α:Type} (M:mW) (Γ:Ctx):∀ (t:Sem α) (p:Pos) (s:aj),Sem.wp M Γ t (λ_ _ _=>False) (λ_ _ _=>False) p s->False:=by
 intro t
 induction t with
 |pure a=>intro p s h;exact h
 |raise e=>intro p s h;exact h
 |unsupported w=>intro p s h;exact h
 |finish e=>intro p s h;exact h
 |rule tag k ih=>intro p s h;exact ih () p s h
 |«at» q k ih=>intro p s h;exact ih () q s h
 |load a part k ih=>intro p s h;obtain⟨o,_,h⟩:=h;exact ih o p s h
 |update a part f k ih=>intro p s h;exact ih () p _ h.2
 |alloc o k ih=>intro p s h;exact ih _ p _ h
 |loadIfAlive a k ih=>intro p s h;exact ih _ p s h
 |point l k ih=>intro p s h;exact ih () p s h
 |register a k ih=>intro p s h;exact h
 |fresh k ih=>intro p s h;exact ih _ p _ h
 |ask k ih=>intro p s h;exact ih _ p s h
 |choose src n k ih=>intro p s h;exact ih _ p _ h.2
 |os q l k ih=>intro p s h;exact ih _ p _ h
 |call c hd g l k ih=>intro p s h;obtain⟨r,s',_,h⟩:=h;exact ih r p s' h
 |handled own k ih=>intro p s h;exact ih _ p s h
 |newGen c k ih=>intro p s h;exact ih _ p _ h
 |genState g k ih=>intro p s h;obtain⟨st,_,h⟩:=h;exact ih _ p s h
 |resume g r l k ih=>intro p s h;obtain⟨res,s',_,h⟩:=h;exact ih res p s' h
 |yield v g l k ih=>intro p s h;exact h
 |stack k ih=>intro p s h;exact ih _ p s h
 |fork c k ih=>intro p s h;exact h
 |thread k ih=>intro p s h;first|exact ih _ p s h|exact h
 |await a tk d l k ih=>intro p s h;first|exact h|exact ih _ p s h
section
variable {prog:aS} {w:bz} {A:bq} {E:Value->aj->Prop} {s:aj}
theorem Yj {v:Value} {P:Value->aj->Prop} (h:aN (model prog w) A (iO v) (λr s'=>∃ u,r=some u/\P u s') (λ_ _=>False) s):aN (model prog w) A (bL v) P E s:=by
 intro Γ p hΓ
 have h:=h Γ p hΓ
 unfold iO Sem.attempt at h
 unfold bL
 rw[lW,Sem.wp_tryCatch,Sem.wp_bind] at h
 rw[lW]
 refine Sem.wp_mono _ _ _ (λo p' s' q=>?_) (λe p' s' q=>?_) p s h
 .cases o with
  |none=>exact (show False from q).elim
  |some u=>
   obtain⟨u',e,q⟩:=q
   cases e
   exact q
 .refine (Sem.wp_never (model prog w) Γ (kr e (.type "StopIteration")) p' s' ?_).elim
  have q:Sem.wp (model prog w) Γ (kr e (.type "StopIteration") >>= λb=>if b=true then pure none else throw e) (λr _ s'=>∃ u,r=some u/\P u s') (λ_ _ _=>False) p' s':=q
  rw[lW] at q
  refine Sem.wp_mono _ _ _ (λb p2 s2 q=>?_) (λ_ _ _ z=>z) p' s' q
  cases b with
  |true=>obtain⟨u,z,_⟩:=q;cases z
  |false=>exact q
variable {κ:Type} [DecidableEq κ] {knd:KeyKind prog w κ} {d it:Addr} {ep i:Nat} {kvs:List (κ×Value)}
theorem Je {Q:Value->aj->Prop} (hh:A.handled=none) (hit:s.heap.IsKeyIter it d i kvs.length ep) (hm:s.heap.DictAt knd d kvs ep) (hx:kvs[i]? = none)
  (hE:∀ h' x,mf it s.heap h'->(∃ o,h'.get? x=some o/\o.cls=.type "StopIteration")->E (.ref x) { s with heap:=h' }):aN (model prog w) A (bL (.ref it)) Q E s:=by
 have ⟨oi,ei,ci,di⟩:=hit
 have ⟨od,es,ed,_,dd,_,pr,_⟩:=hm
 have size:es.size=kvs.length:=pr.length▸(by simp)
 have past:es.size<=i:=by rw[size];simpa using hx
 have own:fb "dict_keyiterator" = false:=by decide
 have nx:¬ ((i:Int)<0):=by omega
 have noNone:¬ ((aV d==bC)=true):=au
 unfold bL
 refine af (dw (name:=dB "__next__") hit.typeIs bV (cR bV hit.typeIs eZ ?_ (eE _)))
 refine af (aq (af (af ?_)))
 first|refine af (cm hit.typeIs (aq (af (iX ei di ?_))))|refine af (cH hit.typeIs (aq (af (iX ei di ?_))))
 simp only[own,bH,if_false]
 show aN _ _ (if (aV d==bC)=true then _ else _) _ _ s
 rw[if_neg noNone]
 refine af (aq (af (gY ed dd ?_)))
 rw[if_neg (show ¬ _ by rw[size];simp)]
 refine af (aq (af (iE ed dd ?_)))
 rw[if_neg (show ¬ _ by simp)]
 refine aq ?_
 simp only[nx,if_false,aU,jK past]
 refine af ?_
 first|refine af (cm hit.typeIs (aq ?_))|refine af (cH hit.typeIs (aq ?_))
 show aN _ _ (ku (.ref it) 0 .none >>= λ_=>newExc (.type "StopIteration") [] >>= _) _ _ s
 refine af (fT ei di (by simp) (af ?_))
 simp only[newExc,newTuple]
 refine af (dE (af (m:=iU _ _) (wpAny_of_eq (a:=bC) (by first|rfl|(simp only[iU];rfl)) (dE ?_ (by size_fits)))) (by size_fits))
 simp only[raiseNew]
 refine af (wpAny_handled ?_)
 rw[show A.in1.handled=none from hh]
 refine af (aq (mH ?_))
 exact hE _ _ (((bJ ..).extBut.push _).push _) ⟨_,az _ rfl,rfl⟩
theorem Hw {k:κ} {v:Value} {Q:Value->aj->Prop} (hit:s.heap.IsKeyIter it d i kvs.length ep) (hm:s.heap.DictAt knd d kvs ep) (hx:kvs[i]? = some (k,v))
  (hQ:∀ key h',knd.is k key=true->h'.IsKeyIter it d (i+1) kvs.length ep->bn it s.heap h'->Q key { s with heap:=h' }):aN (model prog w) A (bL (.ref it)) Q E s:=
 Yj (jS hit hm hx λkey h' a b c=>⟨key,rfl,hQ key h' a b c⟩)
theorem Xz {e:Addr} {old:Value} {J:Value->Heap->Prop} {Q:Value->aj->Prop} (he:jX s.heap e it i old) (hne:e≠it)
  (nx:∀ (A:bq) (P:Value->aj->Prop) (E:Value->aj->Prop),(∀ x h1,J x h1->bn it s.heap h1->P x { s with heap:=h1 })->aN (model prog w) A (bL (.ref it)) P E s)
  (hJ:∀ x h1 h2,J x h1->(∀ o,h1.get? it=some o->h2.get? it=some o)->J x h2)
  (hQ:∀ x h',IsEnumOut h' e it ((i:Int)+1) x s.heap.objs.size->J x h'->h'.get? s.heap.objs.size=some { cls:=.type "tuple", data:=.seq #[.int i s.toks,x] } ->
   (∀ b o,b≠e->b≠it->s.heap.get? b=some o->h'.get? b=some o)->Q (.ref s.heap.objs.size) { s with heap:=h',toks:=s.toks+1 }) :
  aN (model prog w) A (aM.«enumerate.__next__» ⟨[.ref e],[]⟩) (λfin s'=>∃ v,fin=.done (.ret v)/\Q v s') E s:=by
 have lt:e<s.heap.objs.size:=aA he
 obtain⟨h0,gs,dr,tk,ops⟩:=s
 show aN _ _ (field (.ref e) 2 >>= λz=>bL z >>= _) _ _ _
 refine af (dm he rfl (x:=.ref it) rfl (af (nx _ _ _ λx h1 j1 s1=>?_)))
 have k1:bn it h0 h1:=s1
 have e1:jX h1 e it i old:=(k1.2 e hne).trans he
 refine af (dm (s:=⟨h1,gs,dr,tk,ops⟩) e1 rfl (x:=dX i) rfl ?_)
 refine af (m:=field (.ref e) 4) (dm (s:=⟨h1,gs,dr,tk,ops⟩) e1 rfl (x:=.none) rfl ?_)
 show aN _ _ (mkInt i >>= _) _ _ ⟨h1,gs,dr,tk,ops⟩
 refine af (wpAny_mkInt ?_)
 show aN _ _ (ku (.ref e) 3 (dX ((i:Int)+1)) >>= λ_=>ku (.ref e) 4 .none >>= _) _ _ ⟨h1,gs,dr,tk+1,ops⟩
 refine af (fg e1 (by simp) λh2 e2 s2=>af (fg (s:=⟨h2,gs,dr,tk+1,ops⟩) (show jX h2 e it ((i:Int)+1) old from e2) (by simp) λh3 e3 s3=>?_))
 have k2:bn e h1 h2:=s2
 have k3:bn e h2 h3:=s3
 have e3:jX h3 e it ((i:Int)+1) old:=e3
 show aN _ _ (newTuple [.int i tk,x] >>= _) _ _ ⟨h3,gs,dr,tk+1,ops⟩
 refine af (g8 ?_)
 have size:h3.objs.size=h0.objs.size:=by rw[k3.1,k2.1,k1.1]
 have up:∃ h4:Heap,h4=h3.push { cls:=.type "tuple", data:=.seq #[.int i tk,x] }:=⟨_,rfl⟩
 obtain⟨h4,eh4⟩:=up
 rw[<- eh4]
 have e4:jX h4 e it ((i:Int)+1) old:=by rw[eh4];exact ag _ e3
 have t4:h4.get? h0.objs.size=some { cls:=.type "tuple", data:=.seq #[.int i tk,x] }:=by rw[eh4,<- size];exact az _ rfl
 have j4:J x h4:=hJ x h1 h4 j1 λo q=>by rw[eh4];exact ag _ (k3.extBut it o (ce hne) (k2.extBut it o (ce hne) q))
 have all4:∀ b o,b≠e->b≠it->h0.get? b=some o->h4.get? b=some o:=λb o b1 b2 q=>by
  rw[eh4]
  exact ag _ (k3.extBut b o b1 (k2.extBut b o b1 (k1.extBut b o b2 q)))
 show aN _ _ (fV (.ref e) >>= _) _ _ ⟨h4,gs,dr,tk+1,ops⟩
 rw[size]
 refine af ?_
 unfold fV
 refine af (dm e4 rfl (x:=.none) rfl (aq ?_))
 simp only[if_true]
 refine af (wpAny_rule (af (dm e4 rfl (x:=old) rfl (af (fg e4 (by simp) λh5 e5 s5=>?_)))))
 have e5:jX h5 e it ((i:Int)+1) x:=e5
 have k5:bn e h4 h5:=s5
 show aN _ _ (fN (.ref e) (.ref h0.objs.size) >>= _) _ _ ⟨h5,gs,dr,tk+1,ops⟩
 refine af ?_
 unfold fN
 refine af (fg e5 (by simp) λh6 e6 s6=>fg (s:=⟨h6,gs,dr,tk+1,ops⟩) (show IsEnumOut h6 e it ((i:Int)+1) x h0.objs.size from e6) (by simp) λh7 e7 s7=>?_)
 have k6:bn e h5 h6:=s6
 have k7:bn e h6 h7:=s7
 have on:∀ b o,b≠e->h4.get? b=some o->h7.get? b=some o:=λb o n q=>k7.extBut b o n (k6.extBut b o n (k5.extBut b o n q))
 exact af (wpAny_letGo (aq ⟨_,rfl,hQ x h7 e7 (hJ x h4 h7 j4 λo q=>on it o (ce hne) q) (on _ _ (f8 lt) t4) λb o b1 b2 q=>on b o b1 (all4 b o b1 b2 q)⟩))
theorem K8 {e:Addr} {old:Value} {J:Value->Heap->Prop} {Q:Option Value->aj->Prop} (he:jX s.heap e it i old) (hne:e≠it)
  (nx:∀ (A:bq) (P:Value->aj->Prop) (E:Value->aj->Prop),(∀ x h1,J x h1->bn it s.heap h1->P x { s with heap:=h1 })->aN (model prog w) A (bL (.ref it)) P E s)
  (hJ:∀ x h1 h2,J x h1->(∀ o,h1.get? it=some o->h2.get? it=some o)->J x h2)
  (hQ:∀ x h',IsEnumOut h' e it ((i:Int)+1) x s.heap.objs.size->J x h'->h'.get? s.heap.objs.size=some { cls:=.type "tuple", data:=.seq #[.int i s.toks,x] } ->
   (∀ b o,b≠e->b≠it->s.heap.get? b=some o->h'.get? b=some o)->Q (some (.ref s.heap.objs.size)) { s with heap:=h',toks:=s.toks+1 }):aN (model prog w) A (iO (.ref e)) Q E s:=by
 have ty:s.TypeIs (.ref e) "enumerate" := ⟨_,he,rfl⟩
 unfold iO
 exact af (eW (dw (name:=dB "__next__") ty fu (cR fu ty jM (Xz he hne nx hJ λx h' a b c d=>aq (hQ x h' a b c d)) (jn _))))
theorem Ie {e:Addr} {old:Value} {Q:Option Value->aj->Prop} (hh:A.handled=none) (he:jX s.heap e it i old) (hit:s.heap.IsKeyIter it d i kvs.length ep) (hm:s.heap.DictAt knd d kvs ep) (hx:kvs[i]? = none)
  (hQ:∀ h',mf it s.heap h'->Q none { s with heap:=h' }):aN (model prog w) A (iO (.ref e)) Q E s:=by
 have ty:s.TypeIs (.ref e) "enumerate" := ⟨_,he,rfl⟩
 unfold iO
 refine af (eW (dw (name:=dB "__next__") ty fu (cR fu ty jM ?_ (jn _))))
 show aN _ _ (field (.ref e) 2 >>= λz=>bL z >>= _) _ _ _
 refine af (dm he rfl (x:=.ref it) rfl (af (Je hh hit hm hx λh' x hk ⟨o,ho,hc⟩=>?_)))
 exact af (jI (T := "StopIteration") (b:=true) ⟨o,ho,hc⟩ isSubtype_stop (aq (hQ _ hk)))
theorem Tb {Q:Value->aj->Prop} (hd:(d==c8)=false) (hm:s.heap.DictAt knd d kvs ep)
  (h:∀ h',jX h' (s.heap.objs.size+1) s.heap.objs.size 0 .none->h'.IsKeyIter s.heap.objs.size d 0 kvs.length ep->(∀ b o,s.heap.get? b=some o->h'.get? b=some o)->Q (.ref (s.heap.objs.size+1)) { s with heap:=h' }) :
  aN (model prog w) A (call (.type "enumerate") [.ref d]) Q E s:=by
 have g:MeetsIn prog w (aM.«enumerate.__new__» ⟨[.type "enumerate", .ref d],[]⟩) (λ_ R s=>s.heap.DictAt knd d kvs ep /\
   R (.ok (.ret (.ref (s.heap.objs.size+1)))) { s with heap:=(s.heap.push { cls:=.type "dict_keyiterator", data:=.fields #[.ref d,.int 0 0,.int kvs.length 0,.int ep 0] }).push { cls:=.type "enumerate", data:=.fields #[.none,.bool false,.ref s.heap.objs.size,dX 0,.none,.none] } }):=by
  refine .of_wp λA R s h=>?_
  obtain⟨hp,g,d',tk,os⟩:=s
  obtain⟨hm,h⟩:=h
  have hsub:=sub_enumerate
  obtain⟨o,es,ho,hcl,hdat,q⟩:=id hm
  have hz:(hp.push { cls:=.type "dict_keyiterator", data:=.fields #[.ref d,.int 0 0,.int kvs.length 0,.int ep 0] }).objs.size=hp.objs.size+1:=dZ ..
  wp_walk using fI hd hm
  refine wpAny_stack_any λst=>aq ?_
  have h2:R (.ok (.ret (.ref (hp.push { cls:=.type "dict_keyiterator", data:=.fields #[.ref d,.int 0 0,.int kvs.length 0,.int ep 0] }).objs.size))) ⟨(hp.push { cls:=.type "dict_keyiterator", data:=.fields #[.ref d,.int 0 0,.int kvs.length 0,.int ep 0] }).push { cls:=.type "enumerate", data:=.fields #[.none,.bool false,.ref hp.objs.size,dX 0,.none,.none] },g,d',tk,os⟩:=by rw[hz];exact h
  split
  .rename_i c _ _ _ _ _
   cases (c==gd "enumerate")
   .wp_walk using fI hd hm
    exact⟨_,rfl,h2⟩
   .wp_walk using fI hd hm
    exact⟨_,rfl,h2⟩
  .wp_walk using fI hd hm
   exact⟨_,rfl,h2⟩
 refine callType_newIn F.called_enumerate (by decide) (F.typeCall_enumerate_1 _) (F.newCall_enumerate_1 _) (λobj=>F.args_object_init_2 obj _) F.entry_enumerate_new g ⟨hm,?_⟩
 have hz:(s.heap.push { cls:=.type "dict_keyiterator", data:=.fields #[.ref d,.int 0 0,.int kvs.length 0,.int ep 0] }).objs.size=s.heap.objs.size+1:=dZ ..
 have he:jX ((s.heap.push { cls:=.type "dict_keyiterator", data:=.fields #[.ref d,.int 0 0,.int kvs.length 0,.int ep 0] }).push { cls:=.type "enumerate", data:=.fields #[.none,.bool false,.ref s.heap.objs.size,dX 0,.none,.none] }) (s.heap.objs.size+1) s.heap.objs.size 0 .none:=hz▸az _ rfl
 exact⟨⟨_,he,rfl⟩,h _ he ⟨_,ag _ (az _ rfl),rfl,rfl⟩ λb o x=>ag _ (ag _ x)⟩
end
end PySem
namespace L2
open PySem PySem.Spec PyProof.Rows
noncomputable def aa1 (p:Addr) (o:Obj) (kvs:List (Key×V)):It:=
  ⟨λi H=>H p=some (.frz o (.dK kvs))/\i<kvs.length,
   λi H x H'=>∃ T k v,H T=none/\x=.ref T/\kvs[i]? = some (k,v)/\H'=upd H T (.tup [.int i,kV k]),
   λi H=>H p=some (.frz o (.dK kvs))/\kvs.length<=i⟩
theorem Vr {P:aS} {w:bz} {K:ac} {elts:List Expr} {kt:Nat} {pt:Pos} {e it p:Addr} {o:Obj} {kvs:List (Key×V)} {ep:Nat} (ne:e≠it) (he:Xm o ep) :
  Lz P w K (.Tuple elts kt pt) (aa1 p o kvs) [e,it] e (λi h=>(∃ old,jX h e it (i:Int) old)/\h.IsKeyIter it p i kvs.length ep) where
 mem:=by simp
 obj:=λi h st b hb=>by
  obtain⟨⟨old,he⟩,⟨o1,e1,c1,d1⟩⟩:=st
  rcases List.mem_cons.mp hb with rfl|hb
  .exact⟨_,he,λv q=>nomatch q⟩
  .rw[List.mem_singleton.mp hb];exact⟨o1,e1,λv q=>by rw[d1] at q;cases q⟩
 keep:=λi h h' st k=>let ⟨⟨old,he⟩,h1⟩:=st;⟨⟨old,k e (by simp) _ he⟩,h1.at λo q=>k it (by simp) o q⟩
 item:=by
  intro X hP hw hK hc i pins s U H E I hf st hg
  subst hP hw hK
  obtain⟨hH,hi⟩:=hg
  obtain⟨vs,rel,hd,hm⟩:=I.kdict hH he
  obtain⟨⟨k,v⟩,hx⟩:∃ q,kvs[i]? = some q:=⟨kvs[i],by simp[hi]⟩
  obtain⟨u,hu,_⟩:=ae8 rel hx
  have hl:kvs.length=vs.length:=rel.length
  obtain⟨⟨old,en⟩,h1⟩:=st
  rw[hl] at h1
  refine K8 en ne (J:=λx h=>(Bh X.prog X.w).is k x=true/\h.IsKeyIter it p (i+1) vs.length ep) (λA P E hQ=>Hw h1 hd hu λkey h' a b c=>hQ key h' ⟨a,b⟩ c) (λx h1 h2 j k=>⟨j.1,j.2.at k⟩) λkey h' a1 ⟨hk,a2⟩ a3 hk'=>?_
  refine⟨_,rfl,iJ a1 λh'' hz' hs'=>?_⟩
  have hT:=I.hok.fresh (ai s.heap.objs.size)
  have nT:∀ {b ob},s.heap.get? b=some ob->b≠s.heap.objs.size:=λq=>aQ (aA q)
  have up:∀ b ob,b∉[e,it]->s.heap.get? b=some ob->h''.get? b=some ob:=λb ob hb q=>by
   have b1:b≠e:=by rintro rfl;exact hb (by simp)
   have b2:b≠it:=by rintro rfl;exact hb (by simp)
   exact hs'.extBut b ob b1 (hk' b ob b1 b2 q)
  have Tnew:h''.get? s.heap.objs.size=some { cls:=.type "tuple", data:=.seq #[.int i s.toks,key] }:=hs'.extBut _ _ (ce (nT en)) a3
  have I1:Inv X pins U (upd H s.heap.objs.size (.tup [.int i,kV k])) { s with heap:=h'',toks:=s.toks+1 }:=
   I.turnedN (t':=s.toks+1) (ch:=[e,it]) (λb hb=>hf b hb) up (ai _) ⟨by show 2<=sizeLine;decide,[.int i s.toks,key],.cons ⟨_,rfl⟩ (.cons (a20 hk) .nil),⟨_,Tnew,rfl,_,rfl⟩⟩
  refine⟨.ref s.heap.objs.size,_,I1,rfl,⟨s.heap.objs.size,k,v,hT,rfl,hx,rfl⟩,⟨⟨_,hz'⟩,by rw[hl];exact a2.at λo q=>hs'.extBut _ o (ce ne) q⟩,λb hb=>?_⟩
  have q:=(hf b hb).1
  rw[Ad ?_]
  .exact q
  .rcases List.mem_cons.mp hb with rfl|hb
   .exact nT en
   .rw[List.mem_singleton.mp hb];obtain⟨_,q,_⟩:=h1;exact nT q
 done:=by
  intro X hP hw hK hc i pins s U H E I hf st hg
  subst hP hw hK
  obtain⟨hH,hi⟩:=hg
  obtain⟨vs,rel,hd,hm⟩:=I.kdict hH he
  have hl:kvs.length=vs.length:=rel.length
  obtain⟨⟨old,en⟩,h1⟩:=st
  rw[hl] at h1
  refine Ie (I.ok.hd hc) en h1 hd (by simp;omega) λh' hk=>⟨rfl,?_⟩
  refine I.turnedL (t':=s.toks) (ch:=[e,it]) (λb hb=>hf b hb) λb o hb q=>hk b o (by rintro rfl;exact hb (by simp)) q
 self:=λA i s Q E st h=>let ⟨_,he⟩:=st.1;gZ he h
theorem ac7 {X:Cx} {elts:List Expr} {kt:Nat} {pt:Pos} {pins:List (Addr×Obj)} {U:St} {H:Hp} {s:aj} {R:It->Hp->Prop} {E:Value->aj->Prop} {p:Addr} {o:Obj} {kvs:List (Key×V)} (I:Inv X pins U H s) (h:H p=some (.frz o (.dK kvs)))
  (q:R (aa1 p o kvs) H):aN (model X.prog X.w) X.A (call (.type "enumerate") [.ref p]) (λv s1=>aN (model X.prog X.w) X.A (mF v) (PIE X pins U (.Tuple elts kt pt) R) E s1) E s:=by
 have he:∃ ep,Xm o ep:=by
  obtain⟨e1,z,y,vs,r,ob,es,ep,e,c,d,_⟩:=I.hok p _ h
  rw[e1] at e;cases e
  exact⟨ep,es,d⟩
 obtain⟨ep,he⟩:=he
 obtain⟨vs,rel,hd,hm⟩:=I.kdict h he
 refine Tb hm hd λh' en hit hk=>gZ en ?_
 refine⟨_,_,_,_,H,rfl,I.kept (t':=s.toks) hk,Vr (Nat.succ_ne_self _) he,⟨⟨_,en⟩,by rw[rel.length];exact hit⟩,λb hb=>?_,q⟩
 have hb:b=s.heap.objs.size+1\/b=s.heap.objs.size:=by simpa using hb
 have le:s.heap.objs.size<=b:=hb.elim (λe=>e▸bw _ 1) λe=>e▸ai _
 exact I.fpOk le (I.hok.fresh le)
end L2
namespace PySem
open PyProof.Rows
section
variable {κ:Type} [DecidableEq κ]
def D7 (xs:List κ):List κ:=xs.foldl (λU k=>if U.any (λj=>decide (j=k)) then U else U++[k]) []
theorem Np (xs:List κ) (k:κ):D7 (xs++[k])=if (D7 xs).any (λj=>decide (j=k)) then D7 xs else D7 xs++[k]:=by
 unfold D7
 rw[fF]
 rfl
theorem af5 (xs:List κ) (k j:κ):(D7 (xs++[k])).any (λi=>decide (i=j))=((D7 xs).any (λi=>decide (i=j))||decide (j=k)):=by
 rw[Np]
 by_cases h:(D7 xs).any (λi=>decide (i=k))=true
 .rw[if_pos h]
  by_cases e:j=k
  .subst e;rw[h];rfl
  .simp[e]
 .rw[if_neg h,List.any_append]
  congr 1
  simp[eq_comm]
theorem Rb (xs:List κ):(D7 xs).length<=xs.length:=by
 have:∀ (ys acc:List κ),(ys.foldl (λU k=>if U.any (λj=>decide (j=k)) then U else U++[k]) acc).length<=acc.length+ys.length:=by
  intro ys
  induction ys with
  |nil=>intro acc;exact ai _
  |cons y ys ih=>
   intro acc
   refine aY (ih _) ?_
   rw[aO]
   dsimp only
   split
   .omega
   .rw[aW,cY];omega
 exact aY (this xs []) (by simp)
end
section
variable {prog:aS} {w:bz} {A:bq} {R:ml->aj->Prop} {I:Addr} {fp wr:List Addr} {G:Array kl->Array kl->Prop} {P:Nat->Value->Prop} {St:Nat->aj->Prop} {κ:Type} [DecidableEq κ] {knd:KeyKind prog w κ} {ks:List κ}
abbrev E1 (knd:KeyKind prog w κ) (h:Heap) (S:Addr) (ks:List κ):Prop:=h.SetOf knd S (λk=>(D7 ks).any (λj=>decide (j=k))) (D7 ks).length
theorem Na {h h':Heap} {S:Addr} (x:E1 knd h S ks) (k:∀ o,h.get? S=some o->h'.get? S=some o):E1 knd h' S ks:=
 let ⟨o,es,ep,t,ho,r⟩:=x;⟨o,es,ep,t,k o ho,r⟩
theorem R1 (W:WalksS prog w A.in1 I fp wr G ks.length P St) (S:Addr) (out:S∉fp) (hv:∀ i v,P i v -> ∃ k,ks[i]? = some k/\knd.is k v=true/\v.scannable=true) (few:ks.length+1<scanBound) (left:Nat) :
  ∀ (i:Nat) (s:aj),i+left=ks.length->St i s->E1 knd s.heap S (ks.take i)->(∀ s',Moved (S::wr) G s s'->E1 knd s'.heap S ks->R (.ok (.ret .none)) s') ->
   gE (model prog w) A (.builtin "set.update.loop" ⟨[.ref S,.ref I],[]⟩) R s:=by
 have outw:S∉wr:=λz=>out (W.sub _ z)
 have into:∀ b∈wr,b∈S::wr:=λb z=>.tail _ z
 induction left with
 |zero=>
  intro i s hi st fl hR
  have ei:i=ks.length:=hi
  subst ei
  rw[aC] at fl
  refine gG jo (h_ gp _ ▸ ?_)
  show aN _ A.in1 (iO (.ref I) >>= _) _ _ s
  exact af (W.done s _ _ st λs' mv=>aq (hR s' (mv.mono into) (Na fl λo e=>mv.heap S o outw e)))
 |succ left ih=>
  intro i s hi st fl hR
  have lt:i<ks.length:=by omega
  refine gG jo (h_ gp _ ▸ ?_)
  show aN _ A.in1 (iO (.ref I) >>= _) _ _ s
  refine af (W.item i s _ _ lt st λv s1 pv st1 mv=>?_)
  obtain⟨k,ek,ik,sk⟩:=hv i v pv
  have fl1:E1 knd s1.heap S (ks.take i):=Na fl λo e=>mv.heap S o outw e
  have tk:ks.take (i+1)=ks.take i++[k]:=by rw[List.take_succ,ek];rfl
  show aN _ A.in1 (mR [v] (setAdd S v) >>= _) _ _ s1
  refine af (bF ?_)
  unfold setAdd
  refine bF (af (knd.pyHash (k:=k) ik ?_))
  have room:(D7 (ks.take i)).length+1<scanBound:=by
   have:=Rb (ks.take i)
   rw[aK] at this
   omega
  refine wpAny_setAddHashed_of (knd:=knd) (s:={ s1 with toks:=s1.toks+1 }) ik sk fl1 room λh' sb fl2=>?_
  have fl3:E1 knd h' S (ks.take (i+1)):=by
   have eS:(λj=>(D7 (ks.take i)).any (λm=>decide (m=j))||decide (j=k))=λj=>(D7 (ks.take i++[k])).any (λm=>decide (m=j)):=funext λj=>(af5 (ks.take i) k j).symm
   have en:(if (D7 (ks.take i)).any (λm=>decide (m=k))=true then (D7 (ks.take i)).length else (D7 (ks.take i)).length+1)=(D7 (ks.take i++[k])).length:=by
    rw[Np];split <;> simp
   rw[tk]
   show h'.SetOf knd S _ _
   rw[<- eS,<- en]
   exact fl2
  refine aq ⟨plainId_quiet gp _,ih (i+1) _ (by omega) (W.frame _ s1 _ _ st1 (df _) λb hb o e=>?_) fl3 λs2 mv2 fl4=>?_⟩
  .exact (sb.2 b λz=>out (z▸hb)).trans e
  .exact hR s2 (Moved.trans W.gtrans ((mv.mono into).then_heap (df _) λb o hb e=>(sb.2 b λz=>hb (z▸aT)).trans e) mv2) fl4
end
section
variable {prog:aS} {w:bz} {A:bq} {E:Value->aj->Prop} {s:aj} {κ:Type} [DecidableEq κ] {knd:KeyKind prog w κ} {ks:List κ}
abbrev Cv (led:Bool):Obj:={ cls:=.type "set", dict:=none,data:=.set #[] 0 (.fresh 0 0 led) }
theorem R3 {l:Addr} {items:Array Value} {Q:Value->aj->Prop} (hh:A.handled=none) (hl:s.heap.IsList l items) (hv:∀ (i:Nat) (v:Value),items[i]? = some v -> ∃ k,ks[i]? = some k/\knd.is k v=true/\v.scannable=true) (hs:items.size=ks.length) (few:ks.length+1<scanBound)
  (h:∀ (h':Heap) (tk:Nat),E1 knd h' s.heap.objs.size ks->(∀ b o,b<s.heap.objs.size->s.heap.get? b=some o->h'.get? b=some o)->Q (.ref s.heap.objs.size) { s with heap:=h',toks:=tk }) :
  aN (model prog w) A (call (.type "set") [.ref l]) Q E s:=by
 obtain⟨c,tl,hmro⟩:=F.called_set.mro
 have m1:=F.called_set.made
 have m2:=F.called_set.sub
 have m3:=F.called_set.notType
 have m4:=F.called_set.canCreate
 have m5:=F.typeCall_set_1 (.ref l)
 refine gh (codeAny_of_tree (show aN _ _ (callAny (.type "set") _) _ _ _ from aq ⟨gn _ (by decide +kernel),gG F.entry_type_call ?_⟩))
 rw[Around.under_plain (weight_type_call_type "set" [.ref l] []) rfl]
 repeat (any_goals (first|assumption|wp_step))
 refine eI (code_set_new_1 (.ref l) (E:=E) (Q₁:=λobj s₁=>∃ led:Bool,obj=.ref s.heap.objs.size/\s₁={ s with heap:=s.heap.push (Cv led) }) λled=>⟨led,rfl,rfl⟩) λr s₁ hr=>?_
 cases r with
 |error e=>exact hr
 |ok fl=>
  cases fl with
  |ret obj=>
   obtain⟨led,rfl,rfl⟩:=hr
   have new:(s.heap.push (Cv led)).get? s.heap.objs.size=some (Cv led):=az _ rfl
   have ty:Shared.TypeIs { s with heap:=s.heap.push (Cv led) } (.ref s.heap.objs.size) "set" := ⟨_,new,rfl⟩
   have m6:=F.called_set.init.lookup
   have m7:=F.called_set.init.bind (.ref s.heap.objs.size)
   repeat (any_goals (first|assumption|wp_step))
   refine eI (fM (R:=wants (λr s₂=>r=.none /\ ∃ h' tk,s₂={ s with heap:=h',toks:=tk }/\E1 knd h' s.heap.objs.size ks/\(∀ b o,b<s.heap.objs.size->s.heap.get? b=some o->h'.get? b=some o)) E) F.called_set.init.plain F.entry_set_init (check_set_init_1 ty ?_)) λr2 s2 hr2=>?_
   .obtain⟨⟨oc,odict,od,osl⟩,ol,hc,n,hd⟩:=hl
    simp only at hc hd
    subst hc;subst hd
    have lt:l<s.heap.objs.size:=aA ol
    have ol2:(s.heap.push (Cv led)).get? l=some { cls:=.type "list", dict:=odict,data:=.seq items n,slots:=osl }:=ag _ ol
    have m8:=F.sub_list_set
    have m9:=F.sub_list_frozenset
    have m10:(gd "list" == gd "dict")=false:=by decide
    have isl:(s.heap.push (Cv led)).IsList l items:=⟨_,ol2,rfl,n,rfl⟩
    have size:(s.heap.push (Cv led)).objs.size=s.heap.objs.size+1:=dZ ..
    unfold aM.«set.__init__» noKeywords Builtin.Frozenset.updateFrom
    generalize hPI:mF=PI
    wp_walk
    subst hPI
    refine jj isl (af (wpAny_runValue ?_))
    have quiet:A.in1.in1.in1.handled=none:=by simp[hh]
    have ne1:l≠(s.heap.push (Cv led)).objs.size:=size▸aQ (d_ lt)
    have out:s.heap.objs.size∉[(s.heap.push (Cv led)).objs.size,l]:=by
     simp only[size,aH,c_,or_false,not_or]
     exact⟨aQ (cg _),f8 lt⟩
    have W:=(Walks.list (prog:=prog) (w:=w) quiet (s.heap.push (Cv led)).objs.size l ne1 items).toS
    rw[hs] at W
    refine R1 (ks:=ks) W s.heap.objs.size out hv few ks.length 0 _ (cO _) ⟨⟨_,az _ rfl,rfl,rfl⟩,isl.push _⟩ ?_ λs' mv fl=>?_
    .exact (setObjOf_fresh (knd:=knd) led).setOf (ag _ new) (by unfold scanBound;omega)
    .obtain⟨h',g',d',tk',os'⟩:=s'
     have e1:g'=s.gens:=mv.gens
     have e2:d'=s.drawn:=mv.drawn
     have e3:os'=s.os:=mv.os
     subst e1;subst e2;subst e3
     refine (show aN _ _ _ _ _ _ from aq (show aN _ _ (ret bC) _ _ _ from aq ⟨rfl,h',tk',rfl,fl,λb o hb e=>?_⟩))
     refine mv.heap b o ?_ (ag _ (ag _ e))
     simp only[size,aH,c_,or_false,not_or]
     exact⟨aQ hb,aQ (d_ hb)⟩
   .cases r2 with
    |error e=>exact hr2
    |ok f2=>
     cases f2 with
     |ret r=>
      obtain⟨rfl,h',tk,rfl,fl,kept⟩:=hr2
      repeat (any_goals (first|assumption|wp_step))
      exact h _ _ fl kept
     |_=>exact hr2.elim
  |_=>exact hr.elim
end
end PySem
namespace L2
open PySem PySem.Spec PyProof.Rows
section
variable {X:Cx} {e:Expr} {de:DE} {p p2 pos pos2:Pos}
noncomputable def J7 (K:ac):V->Hp->VK->Prop:=λx H Q=>match x with
 |.ref l=>∃ ys:List Str,SqL K H l (ys.map V.str)/\ys.length<30/\Q (.int (D7 ys).length) H
 |_=>False
theorem Xh:∀ {ys:List Str} {us:List Value} {i:Nat} {v:Value},Vals (ys.map V.str) us->us[i]? = some v -> ∃ k t,ys[i]? = some k/\v=.str k t
 |[],_,i,v,r,e=>by rw[g_] at r;cases r;simp at e
 | y::ys,_,i,v,r,e=>by
  rw[aZ] at r
  cases r with
  |cons r1 r2=>
   obtain⟨t,rfl⟩:=r1
   cases i with
   |zero=>simp only[eJ,gS] at e;exact⟨y,t,rfl,e.symm⟩
   |succ i=>simp only[bK] at e ⊢;exact Xh r2 e
theorem at7 {pins:List (Addr×Obj)} {U:St} {H:Hp} {s:aj} {x:V} {u:Value} {Q:VK} (hc:X.calm=true) (I:Inv X pins U H s) (rx:RelV x u) (h:J7 X.K x H Q) :
  aN (model X.prog X.w) X.A (call (.type "set") [u]) (λv s1=>aN (model X.prog X.w) X.A (call (.builtin "len") [v]) (EP X pins U Q) X.xe s1) X.xe s:=by
 cases x with
 |ref l=>
  cases rx
  obtain⟨ys,hq,few,q⟩:=h
  obtain⟨its,rv,pl,hz⟩:=I.list hq
  have hl:its.length=ys.length:=by rw[<- rv.length,ae]
  refine bG (ai _) (R3 (knd:=PySem.strKind X.prog X.w) (ks:=ys) (I.ok.hd hc) pl.isList (λi v e=>?_) (by simpa using hl) (by unfold scanBound;omega) λh' tk fl kept htk=>?_)
  .obtain⟨k,t,ek,rfl⟩:=Xh rv (by simpa using e)
   exact⟨k,ek,by show ij k (.str k t)=true;simp[ij],rfl⟩
  .have I1:Inv X pins U H { s with heap:=h',toks:=tk }:=I.kept (t':=tk) λb o e=>kept b o (aA e) e
   obtain⟨o,es,ep,t,ho,hex,hd,hel,hmem,hb,hf,hn⟩:=fl
   refine call_len_set ho hex hd hf ?_ ?_
   .have:=Rb ys
    rw[hn];omega
   .rw[hn]
    exact⟨.int _,H,I1.tok _,⟨_,rfl⟩,q⟩
 |_=>exact (show False from h).elim
end
section
variable {X:Cx}
noncomputable def a25 (K:ac):R2:=λx y H Q=>∃ a b ys,x=.ref a/\y=.ref b/\SqT K H a []/\SqT K H b ys/\Q (.ref b) H
theorem au6:OpR X (dL .Add) (a25 X.K):=by
 intro pins s U H x y v u Q I rx ry h
 obtain⟨a,b,ys,rfl,rfl,ha,hb,q⟩:=h
 cases rx
 cases ry
 obtain⟨its,r1,p1,_⟩:=I.tuple ha
 obtain⟨its2,r2,p2,_⟩:=I.tuple hb
 cases r1
 obtain⟨⟨c1,d1,da1,s1⟩,ho,hc,n,hd⟩:=id p1
 obtain⟨⟨c2,d2,da2,s2⟩,ho2,hc2,n2,hd2⟩:=id p2
 simp only at hc hd hc2 hd2
 subst hc hd hc2 hd2
 exact lZ ⟨_,ho,rfl⟩ ⟨_,ho2,rfl⟩ jG lG gM gx (f_ _ _)
   (tuple_addW0 a b _ _ n n2 d1 d2 s1 s2 rfl) ⟨ho,ho2,⟨.ref b,H,I,rfl,q⟩⟩
theorem Jx (hu:X.A.units+64<cLine):IxR X (λx y H Q=>∃ a v,x=.ref a/\DGet H a y (some v)/\Q v H):=by
 intro value slice pins s U H x y v u Q I rx ry h hs
 obtain⟨a,w',rfl,g,q⟩:=h
 cases rx
 exact tail_any (Qx I g) PySem.F.slot_dict_getitem.lookup (Xw (by omega) I g ry λw1 s' I' r'=>⟨w',H,I',r',q⟩) hs
end
section
variable {X:Cx} {pins:List (Addr×Obj)} {U:St} {H:Hp} {s:aj} {Q:VK}
theorem Xk:∀ {ys:List V} {us:List Value},ys.length=us.length->(∀ (i:Nat) y u,ys[i]? = some y->us[i]? = some u->RelV y u)->Vals ys us
 |[],[],_,_=>.nil
 |y::ys,u::us,hl,h=>.cons (h 0 y u rfl rfl) (Xk (by simpa using hl) λi y u e1 e2=>h (i+1) y u (by rw[bK];exact e1) (by rw[bK];exact e2))
 |[],_::_,hl,_=>by simp at hl
 |_::_,[],hl,_=>by simp at hl
noncomputable def La:V->Hp->VK->Prop:=λx H Q=>match x with
 |.int n=>n<=1000 /\ -(2 ^ 62)<=n /\ ∀ D,H D=none->Q (.ref D) (upd H D (.lst ((ay n.toNat).map λi:Nat=>V.int (i:Int))))
 |_=>False
theorem af0 {n:Int} {t:Tok} (hc:X.calm=true) (I:Inv X pins U H s) (hn:n<=1000) (h0:-(2 ^ 62)<=n) (q:∀ D,H D=none->Q (.ref D) (upd H D (.lst ((ay n.toNat).map λi:Nat=>V.int (i:Int))))) :
  aN (model X.prog X.w) X.A (call (.type "range") [.int n t]) (λv s1=>aN (model X.prog X.w) X.A (call (.type "list") [v]) (EP X pins U Q) X.xe s1) X.xe s:=by
 refine call_range_1 ?_
 have zv:(s.heap.push { cls:=.type "range", data:=.fields #[.int 0 s.toks,.int n t,.int 1 (s.toks+1)] }).objs.size=s.heap.objs.size+1:=dZ ..
 have hr:IsRange (s.heap.push { cls:=.type "range", data:=.fields #[.int 0 s.toks,.int n t,.int 1 (s.toks+1)] }) s.heap.objs.size 0 n 1 s.toks t (s.toks+1):=IsRange.new ..
 have on1:∀ b o,s.heap.get? b=some o->(s.heap.push { cls:=.type "range", data:=.fields #[.int 0 s.toks,.int n t,.int 1 (s.toks+1)] }).get? b=some o:=λb o q=>ag _ q
 generalize s.heap.push { cls:=.type "range", data:=.fields #[.int 0 s.toks,.int n t,.int 1 (s.toks+1)] }=h1 at zv hr on1 ⊢
 refine bG (n:=s.toks) (show s.toks<=s.toks+1+1 by omega) (call_list_range (n:=(n - 0).toNat) (I.ok.hd hc) hr (small_one (by omega) (by omega) (by omega) (by omega)) (rangeSize_nat _ _) (by omega) λh' tk acc c k e it htk=>?_)
 rw[zv] at e ⊢
 rw[Int.sub_zero] at it
 refine⟨.ref (s.heap.objs.size+1),_,I.laid (t':=tk) (a:=s.heap.objs.size+1) (λb o q=>k b o (on1 b o q)) (df _) (show ObjOk X.prog X.w _ h' _ (.lst ((ay n.toNat).map λi:Nat=>V.int (i:Int))) from⟨?_,acc.toList,c,Xk ?_ λi y u e1 e2=>?_,by simpa using e⟩),rfl,q _ (I.hok.fresh (df _))⟩
 .rw[ae,bj]
  exact aY (show n.toNat<=1000 by omega) (by decide)
 .rw[ae,bj,bS,it.1]
 .rw[cD] at e2
  obtain⟨tt,ev⟩:=it.2 i u e2
  have hi:i<n.toNat:=by
   have:=(Array.getElem?_eq_some_iff.mp e2).1
   rw[it.1] at this
   exact this
  rw[am,eK hi] at e1
  cases e1
  exact⟨tt,by rw[ev];congr 1;omega⟩
end
open Sem (wp)
section
variable {X:Cx} {e:Expr} {te:TE} {pos:Pos}
def Pp (K:ac) (R:EK):VK:=λx H=>match x with
 |.ref a=>∃ C dx,H a=some (Fv a C dx)/\ECls K C/\R a (upd H a (flO a C dx))
 |_=>False
theorem ai6 {Ex:St->EK} (m:Meets X Ex) (hh:X.A.handled=none) (he:PE X e te):PS X (.Raise (some e) none pos) (λ_ U H=>te U H (Pp X.K (Ex U))):=by
 intro pins s U H D I h
 rw[arm_exec_Raise]
 show aN _ _ (do mT pos;raiseStmt X.env (some (do let v <- eval e X.env;mT pos;pure v)) none) _ _ s
 refine af (eY ?_)
 unfold raiseStmt
 refine af (af (thn (he pins s U H _ I h) λv s1 ⟨x,H1,I1,r1,q1⟩=>af (eY (aq ?_))))
 cases x with
 |ref a=>
  cases r1
  obtain⟨C,dx,ea,c,q⟩:=q1
  obtain⟨vs,g1,g2,g3,g4⟩:=On I1 ea
  obtain⟨nm,qn,N,bs,bm,hdct,sn,sub,ab,col,dd,k0,k1,k2,k3,k5,hl,ht,hd⟩:=c.obj
  have hC:=I1.kIn _ _ hl
  have hb:bm.contains (.type "BaseException")=true:=Cd ht (by decide +kernel)
  have I2:Inv X pins U (upd H1 a (flO a C dx)) s1:=by
   have:=I1.write (x:=a) (e:=a) (h':=s1.heap) (t':=s1.toks) (o:=flO a C dx) (by rw[ea];exact aR) (.inl rfl) (λb u _ z=>z) ⟨_,g1⟩ (ad2 g1 g2 g4)
   exact this
  have hx:=m pins U _ s1 a I2 ⟨C,dx,vs,.inl Ab,g1,g2,.inl g3⟩ q
  have hcB:(aV C::bm).contains (.type "BaseException")=true:=by rw[cq,hb,fZ]
  obtain⟨hp,g,d,tk,os⟩:=s1
  repeat (first|with_reducible refine dm g1 rfl g3 ?_|with_reducible refine cG g1 ?_|with_reducible refine cG hC ?_|(with_reducible refine dJ hC ?_;rw[hcB])|wp_step)
  exact wpAny_raiseNew_none hh hx
 |_=>exact (show False from q1).elim
end
end L2
namespace L2
open PySem PySem.Spec PyProof.Rows
inductive Dt where
 |at_ (v:V)
 |lst (l:List Dt)
 |tup (l:List Dt)
mutual
noncomputable def deq:Dt->Dt->Bool
 |.at_ v,.at_ w=>eqV v w
 |.lst xs,.lst ys=>E0 xs ys
 |.tup xs,.tup ys=>E0 xs ys
 |_,_=>false
noncomputable def E0:List Dt->List Dt->Bool
 |[],[]=>true
 |x::xs,y::ys=>deq x y&&E0 xs ys
 |_,_=>false
end
mutual
def dep:Dt->Nat
 |.at_ _=>0
 |.lst l=>Ez l+1
 |.tup l=>Ez l+1
def Ez:List Dt->Nat
 |[]=>0
 |x::xs=>Nat.max (dep x) (Ez xs)
end
mutual
noncomputable def At (K:ac) (H:Hp):Dt->V->Prop
 |.at_ v,x=>x=v/\Bv v=true
 |.lst ds,x=>∃ a xs,x=.ref a/\SqL K H a xs/\AtL K H ds xs
 |.tup ds,x=>∃ a xs,x=.ref a/\SqT K H a xs/\AtL K H ds xs
noncomputable def AtL (K:ac) (H:Hp):List Dt->List V->Prop
 |[],xs=>xs=[]
 |d::ds,xs=>∃ y ys,xs=y::ys/\At K H d y/\AtL K H ds ys
end
theorem AtL.length {K:ac} {H:Hp}:∀ {ds:List Dt} {xs:List V},AtL K H ds xs->xs.length=ds.length
 |[],xs,h=>by unfold AtL at h;subst h;rfl
 | d::ds,xs,h=>by
  unfold AtL at h
  obtain⟨y,ys,rfl,_,h2⟩:=h
  rw[aO,aO,AtL.length h2]
theorem ac9 {v:V} (h:Bv v=true):eqV v v=true:=by
 cases v <;> first|rfl|(exact beq_self_eq_true _)|exact absurd (show false=true from h) au
mutual
theorem Gq {K:ac} {H:Hp}:∀ {d:Dt} {x:V},At K H d x->deq d d=true
 |.at_ v,x,h=>by unfold At at h;unfold deq;exact ac9 h.2
 |.lst l,x,h=>by unfold At at h;obtain⟨a,xs,_,_,h⟩:=h;unfold deq;exact Ho h
 |.tup l,x,h=>by unfold At at h;obtain⟨a,xs,_,_,h⟩:=h;unfold deq;exact Ho h
theorem Ho {K:ac} {H:Hp}:∀ {ds:List Dt} {xs:List V},AtL K H ds xs->E0 ds ds=true
 |[],xs,h=>by unfold E0;rfl
 | d::ds,xs,h=>by
  unfold AtL at h
  obtain⟨y,ys,rfl,h1,h2⟩:=h
  unfold E0
  rw[Gq h1,Ho h2]
  rfl
end
theorem E3:∀ {xs ys:List Dt},xs.length≠ys.length->E0 xs ys=false
 |[],[],h=>absurd rfl h
 |[],_::_,_=>by unfold E0;rfl
 |_::_,[],_=>by unfold E0;rfl
 | x::xs,y::ys,h=>by
  unfold E0
  rw[E3 (xs:=xs) (ys:=ys) (λe=>h (by rw[aO,aO,e])),g6]
theorem Dc (z:Dt):∀ {xs ys:List Dt},xs.length=ys.length->E0 xs ys=(ay xs.length).all λj=>deq (xs.getD j z) (ys.getD j z)
 |[],[],_=>by unfold E0;rfl
 |[],_::_,h=>by simp at h
 |_::_,[],h=>by simp at h
 | x::xs,y::ys,h=>by
  unfold E0
  rw[aO,List.range_succ_eq_map,bR,g9,Dc z (xs:=xs) (ys:=ys) (by simpa using h)]
  rfl
section
variable {X:Cx} {pins:List (Addr×Obj)} {U:St} {H:Hp} {s:aj}
theorem Rk {a:Addr} {xs ys:List V} (I:Inv X pins U H s) (h:SqL X.K H a xs) (h':SqT X.K H a ys):False:=by
 obtain⟨its,r,⟨o,n,e,c,_,d⟩,_⟩:=I.list h
 obtain⟨its',r',⟨o',e',c',n',d'⟩,_⟩:=I.tuple h'
 rw[e] at e';cases e'
 rw[c] at c'
 injection c' with c'
 exact absurd c' (by decide)
mutual
theorem Su (I:Inv X pins U H s):∀ {d d':Dt} {x:V},At X.K H d x->At X.K H d' x->d=d'
 |.at_ v,.at_ w,x,h,h'=>by unfold At at h h';rw[<- h.1,<- h'.1]
 | .at_ v,.lst l,x,h,h'=>by
  unfold At at h h'
  obtain⟨a,xs,rfl,_⟩:=h'
  rw[<- h.1] at h
  exact absurd (show false=true from h.2) au
 | .at_ v,.tup l,x,h,h'=>by
  unfold At at h h'
  obtain⟨a,xs,rfl,_⟩:=h'
  rw[<- h.1] at h
  exact absurd (show false=true from h.2) au
 | .lst l,.at_ v,x,h,h'=>by
  unfold At at h h'
  obtain⟨a,xs,rfl,_⟩:=h
  rw[<- h'.1] at h'
  exact absurd (show false=true from h'.2) au
 | .tup l,.at_ v,x,h,h'=>by
  unfold At at h h'
  obtain⟨a,xs,rfl,_⟩:=h
  rw[<- h'.1] at h'
  exact absurd (show false=true from h'.2) au
 | .lst l,.lst l',x,h,h'=>by
  unfold At at h h'
  obtain⟨a,xs,rfl,q,h⟩:=h
  obtain⟨a',xs',e,q',h'⟩:=h'
  cases e
  rw[I.list_inj q q'] at h
  rw[N9 I h h']
 | .tup l,.tup l',x,h,h'=>by
  unfold At at h h'
  obtain⟨a,xs,rfl,q,h⟩:=h
  obtain⟨a',xs',e,q',h'⟩:=h'
  cases e
  rw[I.tuple_inj q q'] at h
  rw[N9 I h h']
 | .lst l,.tup l',x,h,h'=>by
  unfold At at h h'
  obtain⟨a,xs,rfl,q,h⟩:=h
  obtain⟨a',xs',e,q',h'⟩:=h'
  cases e
  exact (Rk I q q').elim
 | .tup l,.lst l',x,h,h'=>by
  unfold At at h h'
  obtain⟨a,xs,rfl,q,h⟩:=h
  obtain⟨a',xs',e,q',h'⟩:=h'
  cases e
  exact (Rk I q' q).elim
theorem N9 (I:Inv X pins U H s):∀ {ds ds':List Dt} {xs:List V},AtL X.K H ds xs->AtL X.K H ds' xs->ds=ds'
 |[],[],_,_,_=>rfl
 |[],_::_,_,h,h'=>by unfold AtL at h h';obtain⟨y,ys,e,_⟩:=h';rw[h] at e;cases e
 |_::_,[],_,h,h'=>by unfold AtL at h h';obtain⟨y,ys,e,_⟩:=h;rw[h'] at e;cases e
 | d::ds,d'::ds',xs,h,h'=>by
  unfold AtL at h h'
  obtain⟨y,ys,rfl,h1,h2⟩:=h
  obtain⟨y',ys',e,h1',h2'⟩:=h'
  cases e
  rw[Su I h1 h1',N9 I h2 h2']
end
theorem Nb {A:bq} {v:V} {u:Value} {a:Addr} {its:Array Value} (f:Bv v=true) (r:RelV v u) (hl:s.heap.IsList a its) (hu:A.units<cLine):bE A s u (.ref a) false/\bE A s (.ref a) u false:=by
 cases v with
 |non=>cases r;exact⟨.none_list hl hu,.list_none hl hu⟩
 |bl b=>cases r;exact⟨.bool_list b hl hu,.list_bool b hl hu⟩
 |int i=>obtain⟨t,rfl⟩:=r;exact⟨.int_list i t hl hu,.list_int i t hl hu⟩
 |str i=>obtain⟨t,rfl⟩:=r;exact⟨.str_list i t hl hu,.list_str i t hl hu⟩
 |_=>exact absurd (show false=true from f) au
theorem Ki {A:bq} {v:V} {u:Value} {a:Addr} {its:Array Value} (f:Bv v=true) (r:RelV v u) (hl:s.heap.IsTuple a its) (hu:A.units<cLine):bE A s u (.ref a) false/\bE A s (.ref a) u false:=by
 cases v with
 |non=>cases r;exact⟨.none_tuple hl hu,.tuple_none hl hu⟩
 |bl b=>cases r;exact⟨.bool_tuple b hl hu,.tuple_bool b hl hu⟩
 |int i=>obtain⟨t,rfl⟩:=r;exact⟨.int_tuple i t hl hu,.tuple_int i t hl hu⟩
 |str i=>obtain⟨t,rfl⟩:=r;exact⟨.str_tuple i t hl hu,.tuple_str i t hl hu⟩
 |_=>exact absurd (show false=true from f) au
mutual
theorem a64 (I:Inv X pins U H s):∀ (d d':Dt) (A:bq) (x y:V) (u v:Value),At X.K H d x->At X.K H d' y->RelV x u->RelV y v->A.units+dep d<cLine->bE A s u v (deq d d')
 | .at_ p,.at_ q,A,x,y,u,v,h,h',r,r',hu=>by
  unfold At at h h';unfold deq
  obtain⟨rfl,f⟩:=h
  obtain⟨rfl,f'⟩:=h'
  exact Om r r' f f'
 | .at_ p,.lst l,A,x,y,u,v,h,h',r,r',hu=>by
  unfold At at h h';unfold deq
  obtain⟨rfl,f⟩:=h
  obtain⟨a,xs,rfl,q,_⟩:=h'
  obtain⟨its,_,pl,_⟩:=I.list q
  cases r'
  exact (Nb f r pl.isList (by omega)).1
 | .at_ p,.tup l,A,x,y,u,v,h,h',r,r',hu=>by
  unfold At at h h';unfold deq
  obtain⟨rfl,f⟩:=h
  obtain⟨a,xs,rfl,q,_⟩:=h'
  obtain⟨its,_,pl,_⟩:=I.tuple q
  cases r'
  exact (Ki f r pl (by omega)).1
 | .lst l,.at_ p,A,x,y,u,v,h,h',r,r',hu=>by
  unfold At at h h';unfold deq
  obtain⟨rfl,f⟩:=h'
  obtain⟨a,xs,rfl,q,_⟩:=h
  obtain⟨its,_,pl,_⟩:=I.list q
  cases r
  exact (Nb f r' pl.isList (by omega)).2
 | .tup l,.at_ p,A,x,y,u,v,h,h',r,r',hu=>by
  unfold At at h h';unfold deq
  obtain⟨rfl,f⟩:=h'
  obtain⟨a,xs,rfl,q,_⟩:=h
  obtain⟨its,_,pl,_⟩:=I.tuple q
  cases r
  exact (Ki f r' pl (by omega)).2
 | .lst l,.tup l',A,x,y,u,v,h,h',r,r',hu=>by
  unfold At at h h';unfold deq
  obtain⟨a,xs,rfl,q,_⟩:=h
  obtain⟨b,ys,rfl,q',_⟩:=h'
  obtain⟨its,_,pl,_⟩:=I.list q
  obtain⟨its',_,pl',_⟩:=I.tuple q'
  cases r;cases r'
  exact .list_tuple pl.isList pl' (by omega)
 | .tup l,.lst l',A,x,y,u,v,h,h',r,r',hu=>by
  unfold At at h h';unfold deq
  obtain⟨a,xs,rfl,q,_⟩:=h
  obtain⟨b,ys,rfl,q',_⟩:=h'
  obtain⟨its,_,pl,_⟩:=I.tuple q
  obtain⟨its',_,pl',_⟩:=I.list q'
  cases r;cases r'
  exact .tuple_list pl pl'.isList (by omega)
 | .lst l,.lst l',A,x,y,u,v,h,h',r,r',hu=>by
  by_cases e:x=y
  .subst e
   have:=Su I h h'
   rw[<- this,Gq h]
   have hx:∃ a,x=.ref a:=by unfold At at h;obtain⟨a,_,e,_⟩:=h;exact⟨a,e⟩
   obtain⟨a,rfl⟩:=hx
   cases r;cases r'
   exact .same _
  .unfold At at h h';unfold deq
   unfold dep at hu
   obtain⟨a,xs,rfl,q,h⟩:=h
   obtain⟨b,ys,rfl,q',h'⟩:=h'
   obtain⟨its,ri,pl,_⟩:=I.list q
   obtain⟨its',ri',pl',_⟩:=I.list q'
   cases r;cases r'
   have ne:a≠b:=λz=>e (by rw[z])
   have e1:=h.length
   have e2:=h'.length
   have e3:=ri.length
   have e4:=ri'.length
   refine .of_refs ne ?_
   by_cases hl:l.length=l'.length
   .rw[Dc (.lst []) hl]
    have hsz:its.toArray.size=l.length:=by simp;omega
    rw[<- hsz]
    exact .lists pl.isList pl'.isList (by simp;omega) (by omega) λj h1 h2=>by
     have:=Gs I l l' A.in1 xs ys its its' h h' ri ri' (by show A.units+1+Ez l<cLine;omega) j (by simpa using h1) (by simpa using h2)
     simpa using this
   .rw[E3 hl]
    exact .lists_lengths pl.isList pl'.isList (by simp;omega) (by omega)
 | .tup l,.tup l',A,x,y,u,v,h,h',r,r',hu=>by
  by_cases e:x=y
  .subst e
   have:=Su I h h'
   rw[<- this,Gq h]
   have hx:∃ a,x=.ref a:=by unfold At at h;obtain⟨a,_,e,_⟩:=h;exact⟨a,e⟩
   obtain⟨a,rfl⟩:=hx
   cases r;cases r'
   exact .same _
  .unfold At at h h';unfold deq
   unfold dep at hu
   obtain⟨a,xs,rfl,q,h⟩:=h
   obtain⟨b,ys,rfl,q',h'⟩:=h'
   obtain⟨its,ri,pl,_⟩:=I.tuple q
   obtain⟨its',ri',pl',_⟩:=I.tuple q'
   cases r;cases r'
   have ne:a≠b:=λz=>e (by rw[z])
   have e1:=h.length
   have e2:=h'.length
   have e3:=ri.length
   have e4:=ri'.length
   refine .of_refs ne ?_
   have T:=jd (A:=A) (s:=s) (e:=λj=>deq (l.getD j (.lst [])) (l'.getD j (.lst []))) pl pl' (by omega) λj h1 h2=>by
     have:=Gs I l l' A.in1 xs ys its its' h h' ri ri' (by show A.units+1+Ez l<cLine;omega) j (by simpa using h1) (by simpa using h2)
     simpa using this
   by_cases hl:l.length=l'.length
   .rw[Dc (.lst []) hl]
    have hsz:its.toArray.size=l.length:=by simp;omega
    have hsz':its'.toArray.size=l.length:=by simp;omega
    rw[hsz,hsz',lV,beq_self_eq_true,gj] at T
    exact T
   .rw[E3 hl]
    have hne:(its.toArray.size==its'.toArray.size)=false:=by
     rw[beq_eq_false_iff_ne];simp;omega
    rw[hne,g6] at T
    exact T
theorem Gs (I:Inv X pins U H s):∀ (ds ds':List Dt) (A:bq) (xs ys:List V) (us vs:List Value),AtL X.K H ds xs->AtL X.K H ds' ys->Vals xs us->Vals ys vs->A.units+Ez ds<cLine ->
  ∀ (j:Nat) (h1:j<us.length) (h2:j<vs.length),bE A s us[j] vs[j] (deq (ds.getD j (.lst [])) (ds'.getD j (.lst [])))
 | [],_,A,xs,ys,us,vs,h,h',r,r',hu=>λj h1 h2=>by
  unfold AtL at h
  subst h
  cases r
  cases h1
 | _::_,[],A,xs,ys,us,vs,h,h',r,r',hu=>λj h1 h2=>by
  unfold AtL at h'
  subst h'
  cases r'
  cases h2
 | d::ds,d'::ds',A,xs,ys,us,vs,h,h',r,r',hu=>λj h1 h2=>by
  unfold AtL at h h'
  obtain⟨y,ys,rfl,q1,q2⟩:=h
  obtain⟨z,zs,rfl,q1',q2'⟩:=h'
  cases r with
  |cons r1 r2=>
   cases r' with
   |cons r1' r2'=>
    unfold Ez at hu
    have m1:dep d<=Nat.max (dep d) (Ez ds):=Nat.le_max_left _ _
    have m2:Ez ds<=Nat.max (dep d) (Ez ds):=Nat.le_max_right _ _
    cases j with
    |zero=>exact a64 I d d' A _ _ _ _ q1 q1' r1 r1' (by omega)
    |succ j=>exact Gs I ds ds' A _ _ _ _ q2 q2' r2 r2' (by omega) j (by simpa using h1) (by simpa using h2)
end
theorem Fo {K:ac} {d:Dt} {a:Addr} (h:At K H d (.ref a)):(∃ l xs,d=.lst l/\SqL K H a xs/\AtL K H l xs)\/(∃ l xs,d=.tup l/\SqT K H a xs/\AtL K H l xs):=by
 cases d with
 |at_ v=>
  unfold At at h
  rw[<- h.1] at h
  exact absurd (show false=true from h.2) au
 |lst l=>unfold At at h;obtain⟨b,xs,e,q,h⟩:=h;cases e;exact .inl ⟨l,xs,rfl,q,h⟩
 |tup l=>unfold At at h;obtain⟨b,xs,e,q,h⟩:=h;cases e;exact .inr ⟨l,xs,rfl,q,h⟩
theorem Rj {K:ac} {d:Dt} {x:V} (h:At K H d x) (f:∀ a,x≠.ref a):d=.at_ x/\Bv x=true:=by
 cases d with
 |at_ v=>unfold At at h;rw[h.1];exact⟨rfl,h.2⟩
 |lst l=>unfold At at h;obtain⟨b,xs,e,_⟩:=h;exact absurd e (f b)
 |tup l=>unfold At at h;obtain⟨b,xs,e,_⟩:=h;exact absurd e (f b)
theorem bz6 (I:Inv X pins U H s) {A:bq} {d d':Dt} {a b:Addr} (h:At X.K H d (.ref a)) (h':At X.K H d' (.ref b)) (hu:A.units+dep d<cLine):gU A s (.ref a) (.ref b) (deq d d')/\fB A s (.ref a) (.ref b) (!deq d d'):=by
 rcases Fo h with ⟨l,xs,rfl,q,h⟩|⟨l,xs,rfl,q,h⟩
 .rcases Fo h' with ⟨l',ys,rfl,q',h'⟩|⟨l',ys,rfl,q',h'⟩
  .unfold deq
   unfold dep at hu
   obtain⟨its,ri,pl,_⟩:=I.list q
   obtain⟨its',ri',pl',_⟩:=I.list q'
   have e1:=h.length
   have e2:=h'.length
   have e3:=ri.length
   have e4:=ri'.length
   have it:∀ j (h1:j<its.toArray.size) (h2:j<its'.toArray.size),bE A.in1 s its.toArray[j] its'.toArray[j] (deq (l.getD j (.lst [])) (l'.getD j (.lst []))):=λj h1 h2=>by
    have:=Gs I l l' A.in1 xs ys its its' h h' ri ri' (by show A.units+1+Ez l<cLine;omega) j (by simpa using h1) (by simpa using h2)
    simpa using this
   by_cases hl:l.length=l'.length
   .rw[Dc (.lst []) hl]
    have hsz:its.toArray.size=l.length:=by simp;omega
    rw[<- hsz]
    exact⟨.lists pl.isList pl'.isList (by simp;omega) (by omega) it,.lists pl.isList pl'.isList (by simp;omega) (by omega) it⟩
   .rw[E3 hl]
    exact⟨.lists_lengths pl.isList pl'.isList (by simp;omega) (by omega),.lists_lengths pl.isList pl'.isList (by simp;omega) (by omega)⟩
  .unfold deq
   obtain⟨its,ri,pl,_⟩:=I.list q
   obtain⟨its',ri',pl',_⟩:=I.tuple q'
   exact⟨.list_tuple pl.isList pl' (by omega),.list_tuple pl.isList pl' (by omega)⟩
 .rcases Fo h' with ⟨l',ys,rfl,q',h'⟩|⟨l',ys,rfl,q',h'⟩
  .unfold deq
   obtain⟨its,ri,pl,_⟩:=I.tuple q
   obtain⟨its',ri',pl',_⟩:=I.list q'
   exact⟨.tuple_list pl pl'.isList (by omega),.tuple_list pl pl'.isList (by omega)⟩
  .unfold deq
   unfold dep at hu
   obtain⟨its,ri,pl,_⟩:=I.tuple q
   obtain⟨its',ri',pl',_⟩:=I.tuple q'
   have e1:=h.length
   have e2:=h'.length
   have e3:=ri.length
   have e4:=ri'.length
   have it:∀ j (h1:j<its.toArray.size) (h2:j<its'.toArray.size),bE A.in1 s its.toArray[j] its'.toArray[j] (deq (l.getD j (.lst [])) (l'.getD j (.lst []))):=λj h1 h2=>by
    have:=Gs I l l' A.in1 xs ys its its' h h' ri ri' (by show A.units+1+Ez l<cLine;omega) j (by simpa using h1) (by simpa using h2)
    simpa using this
   have T:=jd pl pl' (by omega) it
   have T':=SeqAt.RcNeAt.tuples pl pl' (by omega) it
   by_cases hl:l.length=l'.length
   .rw[Dc (.lst []) hl]
    have hsz:its.toArray.size=l.length:=by simp;omega
    have hsz':its'.toArray.size=l.length:=by simp;omega
    rw[hsz,hsz',lV,beq_self_eq_true,gj] at T T'
    exact⟨T,T'⟩
   .rw[E3 hl]
    have hne:(its.toArray.size==its'.toArray.size)=false:=by
     rw[beq_eq_false_iff_ne];simp;omega
    rw[hne,g6] at T T'
    exact⟨T,T'⟩
theorem W5 (I:Inv X pins U H s) {A:bq} {d:Dt} {a:Addr} {v:V} {u:Value} (h:At X.K H d (.ref a)) (f:Bv v=true) (r:RelV v u) (hu:A.units<cLine) :
  gU A s (.ref a) u false/\fB A s (.ref a) u true/\gU A s u (.ref a) false/\fB A s u (.ref a) true:=by
 rcases Fo h with ⟨l,xs,rfl,q,h⟩|⟨l,xs,rfl,q,h⟩
 .obtain⟨its,ri,pl,_⟩:=I.list q
  cases v with
  |non=>cases r;exact⟨.list_none pl.isList hu,.list_none pl.isList hu,.none_list pl.isList hu,.none_list pl.isList hu⟩
  |bl b=>cases r;exact⟨.list_bool b pl.isList hu,.list_bool b pl.isList hu,.bool_list b pl.isList hu,.bool_list b pl.isList hu⟩
  |int b=>obtain⟨t,rfl⟩:=r;exact⟨.list_int b t pl.isList hu,.list_int b t pl.isList hu,.int_list b t pl.isList hu,.int_list b t pl.isList hu⟩
  |str b=>obtain⟨t,rfl⟩:=r;exact⟨.list_str b t pl.isList hu,.list_str b t pl.isList hu,.str_list b t pl.isList hu,.str_list b t pl.isList hu⟩
  |_=>exact absurd (show false=true from f) au
 .obtain⟨its,ri,pl,_⟩:=I.tuple q
  cases v with
  |non=>cases r;exact⟨.tuple_none pl hu,.tuple_none pl hu,.none_tuple pl hu,.none_tuple pl hu⟩
  |bl b=>cases r;exact⟨.tuple_bool b pl hu,.tuple_bool b pl hu,.bool_tuple b pl hu,.bool_tuple b pl hu⟩
  |int b=>obtain⟨t,rfl⟩:=r;exact⟨.tuple_int b t pl hu,.tuple_int b t pl hu,.int_tuple b t pl hu,.int_tuple b t pl hu⟩
  |str b=>obtain⟨t,rfl⟩:=r;exact⟨.tuple_str b t pl hu,.tuple_str b t pl hu,.str_tuple b t pl hu,.str_tuple b t pl hu⟩
  |_=>exact absurd (show false=true from f) au
noncomputable def ak5 (K:ac) (neg:Bool):R2:=λx y H Q=>∃ d d',At K H d x/\At K H d' y/\dep d<=40/\Q (.bl (if neg then !deq d d' else deq d d')) H
theorem al0 (I:Inv X pins U H s) {A:bq} {d d':Dt} {x y:V} {u v:Value} (h:At X.K H d x) (h':At X.K H d' y) (r:RelV x u) (r':RelV y v) (hr:(∃ a,x=.ref a) \/ ∃ b,y=.ref b) (hu:A.units+dep d<cLine) :
  gU A s u v (deq d d')/\fB A s u v (!deq d d'):=by
 by_cases hx:∃ a,x=.ref a
 .obtain⟨a,rfl⟩:=hx
  cases r
  by_cases hy:∃ b,y=.ref b
  .obtain⟨b,rfl⟩:=hy
   cases r'
   exact bz6 I h h' hu
  .obtain⟨rfl,f⟩:=Rj h' (λb e=>hy ⟨b,e⟩)
   obtain⟨q1,q2,_⟩:=W5 I h f r' (show A.units<cLine by omega)
   have e:deq d (.at_ y)=false:=by
    rcases Fo h with ⟨l,xs,rfl,_⟩|⟨l,xs,rfl,_⟩ <;> (unfold deq;rfl)
   rw[e]
   exact⟨q1,q2⟩
 .have hy:∃ b,y=.ref b:=hr.resolve_left hx
  obtain⟨b,rfl⟩:=hy
  cases r'
  obtain⟨rfl,f⟩:=Rj h (λb e=>hx ⟨b,e⟩)
  obtain⟨_,_,q1,q2⟩:=W5 I h' f r (show A.units<cLine by omega)
  have e:deq (.at_ x) d'=false:=by
   rcases Fo h' with ⟨l,xs,rfl,_⟩|⟨l,xs,rfl,_⟩ <;> (unfold deq;rfl)
  rw[e]
  exact⟨q1,q2⟩
theorem Uj (hu:X.A.units+64<cLine) {x y:V} {u v:Value} {Q:VK} (I:Inv X pins U H s) (rx:RelV x u) (ry:RelV y v) (hr:(∃ a,x=.ref a) \/ ∃ b,y=.ref b) (h:ak5 X.K false x y H Q):aN (model X.prog X.w) X.A (cB .Eq u v) (EP X pins U Q) X.xe s:=by
 obtain⟨d,d',h1,h2,hd,q⟩:=h
 exact (al0 I h1 h2 rx ry hr (A:=X.A) (by omega)).1 _ _ _ _ ⟨.bl _,H,I,rfl,q⟩
theorem Uk (hu:X.A.units+64<cLine) {x y:V} {u v:Value} {Q:VK} (I:Inv X pins U H s) (rx:RelV x u) (ry:RelV y v) (hr:(∃ a,x=.ref a) \/ ∃ b,y=.ref b) (h:ak5 X.K true x y H Q):aN (model X.prog X.w) X.A (cB .NotEq u v) (EP X pins U Q) X.xe s:=by
 obtain⟨d,d',h1,h2,hd,q⟩:=h
 exact (al0 I h1 h2 rx ry hr (A:=X.A) (by omega)).2 _ _ _ _ ⟨.bl _,H,I,rfl,q⟩
end
open AutoSeq1 (wpAny_loadPart')
open MeetsSeq MeetsSeq2 MeetsSeq3 SeqRoads2
noncomputable def bi3 (K:ac) (neg:Bool):R2:=λx y H Q=>match x,y with
 |.ref a,.ref b=>False\/(∃ kvs,Rd H a (.dK kvs)/\Rd H b (.dK [])/\Q (.bl (if neg then !kvs.isEmpty else kvs.isEmpty)) H)\/(∃ xs ys,SqL K H a xs/\SqL K H b ys/\xs.length≠ys.length/\Q (.bl neg) H)
 |_,_=>False
section
variable {X:Cx} {pins:List (Addr×Obj)} {U:St} {H:Hp} {s:aj}
theorem bc7 (hu:X.A.units+64<cLine) {x y:V} {u v:Value} {Q:VK} (I:Inv X pins U H s) (rx:RelV x u) (ry:RelV y v) (h:bi3 X.K false x y H Q):aN (model X.prog X.w) X.A (cB .Eq u v) (EP X pins U Q) X.xe s:=by
 cases x <;> cases y <;> first|exact (show False from h).elim|skip
 cases rx;cases ry
 rcases h with h|⟨kvs,h1,h2,q⟩|⟨xs,ys,h1,h2,len,q⟩
 .exact h.elim
 .obtain⟨_,z1,ka,r1,d1⟩:=Dd I.hok h1
  obtain⟨_,z2,kb,r2,d2⟩:=Dd I.hok h2
  cases r2
  refine PySem.W.keq_eq (r:=true) z1 z2 d1 d2 (by omega) (λe=>?_) ?_
  .rw[List.length_eq_zero_iff.mp e];exact .nil
  .have e:(ka.length==([]:List (Key×Value)).length&&true)=kvs.isEmpty:=by
    rw[gj,<- r1.length]
    cases kvs <;> rfl
   rw[e]
   exact⟨.bl _,H,I,rfl,q⟩
 .obtain⟨its,ri,pl,_⟩:=I.list h1
  obtain⟨its',ri',pl',_⟩:=I.list h2
  have e3:=ri.length
  have e4:=ri'.length
  exact SeqAt.RcAt.lists_lengths pl.isList pl'.isList (by simp;omega) (by omega) _ _ _ _ ⟨.bl _,H,I,rfl,q⟩
theorem bd2 (hu:X.A.units+64<cLine) {x y:V} {u v:Value} {Q:VK} (I:Inv X pins U H s) (rx:RelV x u) (ry:RelV y v) (h:bi3 X.K true x y H Q):aN (model X.prog X.w) X.A (cB .NotEq u v) (EP X pins U Q) X.xe s:=by
 cases x <;> cases y <;> first|exact (show False from h).elim|skip
 cases rx;cases ry
 rcases h with h|⟨kvs,h1,h2,q⟩|⟨xs,ys,h1,h2,len,q⟩
 .exact h.elim
 .obtain⟨_,z1,ka,r1,d1⟩:=Dd I.hok h1
  obtain⟨_,z2,kb,r2,d2⟩:=Dd I.hok h2
  cases r2
  refine PySem.W.keq_ne (r:=true) z1 z2 d1 d2 (by omega) (λe=>?_) ?_
  .rw[List.length_eq_zero_iff.mp e];exact .nil
  .have e:(!(ka.length==([]:List (Key×Value)).length&&true)) = !kvs.isEmpty:=by
    rw[gj,<- r1.length]
    cases kvs <;> rfl
   rw[e]
   exact⟨.bl _,H,I,rfl,q⟩
 .obtain⟨its,ri,pl,_⟩:=I.list h1
  obtain⟨its',ri',pl',_⟩:=I.list h2
  have e3:=ri.length
  have e4:=ri'.length
  exact iI pl.isList pl'.isList (by simp;omega) (by omega) _ _ _ _ ⟨.bl _,H,I,rfl,q⟩
end
end L2
namespace L2
open PySem PySem.Spec PyProof.Rows
section
variable {X:Cx} {pins:List (Addr×Obj)} {U:St} {H:Hp} {s:aj}
def ak6:R2:=λx y H Q=>match x,y with
 |.str a,.int k=>∃ z:Str,(k=0/\z=eh\/k=1/\z=a)/\Q (.str z) H
 |_,_=>False
theorem au8:OpR X (dL .Mult) ak6:=by
 intro pins s U H x y v u Q I rx ry h
 unfold ak6 at h
 split at h
 .rename_i a k
  obtain⟨t,rfl⟩:=rx
  obtain⟨t',rfl⟩:=ry
  obtain⟨z,⟨rfl,rfl⟩|⟨rfl,rfl⟩,q⟩:=h
  .refine PySem.P.mul_str rfl (λz _=>absurd (by decide) z) (λz _=>absurd (by decide) z) ?_
   rw[if_pos (by decide)]
   exact⟨by decide,.str _,H,I.tok _,⟨_,rfl⟩,q⟩
  .refine PySem.P.mul_str rfl (λ_ z=>by cases z) (λ_ z=>by cases z) ?_
   rw[if_neg (by decide)]
   exact⟨.str _,H,I,⟨_,rfl⟩,q⟩
 .exact h.elim
end
section
variable {X:Cx} {pins:List (Addr×Obj)} {U:St} {H:Hp} {s:aj}
def Pj:List V->Hp->VK->Prop:=λxs H Q=>∃ p kvs,xs=[.ref p]/\Rd H p (.dK kvs) /\ ∀ q,H q=none->Q (.ref q) (upd H q (.dK kvs))
theorem Ta:B6 X (.type "dict") Pj:=by
 intro pins s U H xs us Q I r h
 obtain⟨p,kvs,rfl,e,q⟩:=h
 obtain⟨u,rfl,rx⟩:=Dl r
 cases rx
 obtain⟨z,hd,vs,rel,dd⟩:=Dd I.hok e
 refine kt_call_dict hd dd (by rw[<- rel.length];exact z) λh' hm hs=>?_
 have kp:∀ b o',s.heap.get? b=some o'->h'.get? b=some o':=λb o' hb=>by
  have hlt:=aA hb
  rw[hs.2 b (aQ hlt)]
  exact ag _ hb
 exact⟨.ref s.heap.objs.size,_,I.laid (t':=s.toks) kp (ai _) (ac4 z (by rw[beq_eq_false_iff_ne];exact ce (aQ I.big)) rel hm),rfl,q _ (I.hok.fresh (ai _))⟩
theorem boot_dict:cQ "dict" = some (.type "dict"):=by decide +kernel
end
def rNo:R2:=λ_ _ _ _=>False
noncomputable def A9 (K:ac):R2:=λx y H Q=>match x,y with
 |.int i,.int j=>Q (.int (i+j)) H
 |.str a,.str b=>a.length+b.length<=sizeLine/\Q (.str (a++b)) H
 |.ref a,.ref b=>bs5 (.ref a) (.ref b) H Q\/a26 K (.ref a) (.ref b) H Q\/a25 K (.ref a) (.ref b) H Q
 |_,_=>False
def W3:R2:=λx y H Q=>match x,y with
 |.int i,.int j=>Q (.int (i - j)) H
 |_,_=>False
def Cz (K:ac):R2:=λx y H Q=>match x,y with
 |.int i,.int j=>CMul i j/\Q (.int (i * j)) H
 |.str a,.int k=>ak6 (.str a) (.int k) H Q
 |_,_=>False
def Di:R2:=λx y H Q=>match x,y with
 |.int i,.int j=>bk0 i j/\Q (.int (i / j)) H
 |_,_=>False
def Bb:R2:=λx y H Q=>match x,y with
 |.int i,.int j=>0<j/\Q (.int (i % j)) H
 |_,_=>False
def a27:R2:=λx y H Q=>match x,y with
 |.int i,.int j=>ap8 i j/\Q (.int (i ^ j.toNat)) H
 |_,_=>False
def Ix:R2:=λx y H Q=>match x,y with
 |.int i,.int j=>ap8 i j/\Q (.int (i * 2 ^ j.toNat)) H
 |_,_=>False
def Ru:R2:=λx y H Q=>match x,y with
 |.int i,.int j=>0<=j/\Q (.int (i / 2 ^ j.toNat)) H
 |_,_=>False
def Eu:R2:=λx y H Q=>match x,y with
 |.int i,.int j=>Q (.int (b9 i j)) H
 |_,_=>False
def ay1:R2:=λx y H Q=>match x,y with
 |.int i,.int j=>Q (.int (cU i j)) H
 |_,_=>False
def bs6:R2:=λx y H Q=>match x,y with
 |.int i,.int j=>Q (.int (Builtin.bitXor i j)) H
 |_,_=>False
noncomputable def rOp (K:ac):mL->R2
 |.Add=>A9 K
 |.Sub=>W3
 |.Mult=>Cz K
 |.FloorDiv=>Di
 |.Mod=>Bb
 |.Pow=>a27
 |.LShift=>Ix
 |.RShift=>Ru
 |.BitAnd=>Eu
 |.BitOr=>ay1
 |.BitXor=>bs6
 |_=>rNo
section
variable {X:Cx}
theorem by7 (op:mL):OpR X (dL op) (rOp X.K op):=by
 intro pins s U H x y v u Q I rx ry h
 cases op with
 |Add=>
  cases x <;> cases y <;> first
   |exact (show False from h).elim
   |exact bc5 pins s U H _ _ v u Q I rx ry ⟨_,_,rfl,rfl,h⟩
   |exact Ui pins s U H _ _ v u Q I rx ry ⟨_,_,rfl,rfl,h⟩
   |exact (op_cat.or (op_catT.or au6)) pins s U H _ _ v u Q I rx ry h
 |Sub=>cases x <;> cases y <;> first|exact (show False from h).elim|exact bd7 pins s U H _ _ v u Q I rx ry ⟨_,_,rfl,rfl,h⟩
 |Mult=>cases x <;> cases y <;> first|exact (show False from h).elim|exact bd1 pins s U H _ _ v u Q I rx ry ⟨_,_,rfl,rfl,h⟩|exact au8 pins s U H _ _ v u Q I rx ry h
 |FloorDiv=>cases x <;> cases y <;> first|exact (show False from h).elim|exact au7 pins s U H _ _ v u Q I rx ry ⟨_,_,rfl,rfl,h⟩
 |Mod=>cases x <;> cases y <;> first|exact (show False from h).elim|exact bd0 pins s U H _ _ v u Q I rx ry ⟨_,_,rfl,rfl,h⟩
 |Pow=>cases x <;> cases y <;> first|exact (show False from h).elim|exact bd4 pins s U H _ _ v u Q I rx ry ⟨_,_,rfl,rfl,h⟩
 |LShift=>cases x <;> cases y <;> first|exact (show False from h).elim|exact bd5 pins s U H _ _ v u Q I rx ry ⟨_,_,rfl,rfl,h⟩
 |RShift=>cases x <;> cases y <;> first|exact (show False from h).elim|exact bd6 pins s U H _ _ v u Q I rx ry ⟨_,_,rfl,rfl,h⟩
 |BitAnd=>cases x <;> cases y <;> first|exact (show False from h).elim|exact bc6 pins s U H _ _ v u Q I rx ry ⟨_,_,rfl,rfl,h⟩
 |BitOr=>cases x <;> cases y <;> first|exact (show False from h).elim|exact br0 pins s U H _ _ v u Q I rx ry ⟨_,_,rfl,rfl,h⟩
 |BitXor=>cases x <;> cases y <;> first|exact (show False from h).elim|exact bd8 pins s U H _ _ v u Q I rx ry ⟨_,_,rfl,rfl,h⟩
 |_=>exact (show False from h).elim
end
noncomputable def Bx (K:ac) (neg:Bool):R2:=λx y H Q=>match x,y with
 |.ref a,.ref b=>bi4 K neg (.ref a) (.ref b) H Q\/ak5 K neg (.ref a) (.ref b) H Q\/bi3 K neg (.ref a) (.ref b) H Q\/False\/False
 |.ref a,y=>ak5 K neg (.ref a) y H Q\/False
 |x,.ref b=>ak5 K neg x (.ref b) H Q
 |.int i,.int j=>Q (.bl (if neg then !decide (i=j) else decide (i=j))) H
 |.str i,.str j=>Q (.bl (if neg then !decide (i=j) else decide (i=j))) H
 |.bl i,.bl j=>Q (.bl (if neg then !(i==j) else (i==j))) H
 |x,y=>bi5 x y=true/\Q (.bl (if neg then !decide (x=y) else decide (x=y))) H
noncomputable def ay0:R2:=λx y H Q=>match x,y with
 |.int i,.int j=>Q (.bl (decide (i<j))) H
 |.str i,.str j=>Q (.bl (decide (i.cps.toList<j.cps.toList))) H
 |_,_=>False
noncomputable def G1:R2:=λx y H Q=>match x,y with
 |.int i,.int j=>Q (.bl (decide (i<=j))) H
 |.str i,.str j=>Q (.bl (!decide (j.cps.toList<i.cps.toList))) H
 |_,_=>False
noncomputable def Yv:R2:=λx y H Q=>match x,y with
 |.int i,.int j=>Q (.bl (decide (j<i))) H
 |_,_=>False
noncomputable def bz0:R2:=λx y H Q=>match x,y with
 |.int i,.int j=>Q (.bl (decide (j<=i))) H
 |_,_=>False
noncomputable def Pk (K:ac) (neg:Bool):R2:=λx y H Q=>match x,y with
 |.non,_=>False
 |x,.ref p=>rIn K neg x (.ref p) H Q \/ ∃ o,DGet H p x o/\Q (.bl (if neg then !o.isSome else o.isSome)) H
 |_,_=>False
noncomputable def ax9 (neg:Bool):R2:=λx y H Q=>match y with
 |.non=>Q (.bl (if neg then !decide (x=.non) else decide (x=.non))) H
 | .bl d=>(match x with
  |.bl c=>Q (.bl (if neg then !(c==d) else (c==d))) H
  |_=>False)
 |_=>False
noncomputable def Me (K:ac):mK->R2
 |.Eq=>Bx K false
 |.NotEq=>Bx K true
 |.Lt=>ay0
 |.LtE=>G1
 |.Gt=>Yv
 |.GtE=>bz0
 |.In=>Pk K false
 |.NotIn=>Pk K true
 |.Is=>ax9 false
 |.IsNot=>ax9 true
section
variable {X:Cx}
theorem M7 (hu:X.A.units+64<cLine) (op:mK):OpR X (cB op) (Me X.K op):=by
  intro pins s U H x y v u Q I rx ry h
  cases op with
  |Eq=>
    cases x <;> cases y <;> first
      | (rcases h with h|h|h|h|h
         . exact bc8 (by omega) pins s U H _ _ v u Q I rx ry h
         . exact Uj hu I rx ry (.inl ⟨_,rfl⟩) h
         . exact bc7 hu I rx ry h
         . exact h.elim
         . exact h.elim)
      | (rcases h with h|h
         . exact Uj hu I rx ry (.inl ⟨_,rfl⟩) h
         . exact h.elim)
      |exact Uj hu I rx ry (.inr ⟨_,rfl⟩) h
      |exact Wt pins s U H _ _ v u Q I rx ry h
      |exact Wt pins s U H _ _ v u Q I rx ry ⟨rfl,by rw[Jo,fj];exact h⟩
      |exact Wt pins s U H _ _ v u Q I rx ry ⟨rfl,by rw[Jp,fj];exact h⟩
      |exact Wt pins s U H _ _ v u Q I rx ry ⟨rfl,by rw[Oi];exact h⟩
  |NotEq=>
    cases x <;> cases y <;> first
      | (rcases h with h|h|h|h|h
         . exact bd3 (by omega) pins s U H _ _ v u Q I rx ry h
         . exact Uk hu I rx ry (.inl ⟨_,rfl⟩) h
         . exact bd2 hu I rx ry h
         . exact h.elim
         . exact h.elim)
      | (rcases h with h|h
         . exact Uk hu I rx ry (.inl ⟨_,rfl⟩) h
         . exact h.elim)
      |exact Uk hu I rx ry (.inr ⟨_,rfl⟩) h
      |exact Wu pins s U H _ _ v u Q I rx ry h
      |exact Wu pins s U H _ _ v u Q I rx ry ⟨rfl,by rw[Jo,fj];exact h⟩
      |exact Wu pins s U H _ _ v u Q I rx ry ⟨rfl,by rw[Jp,fj];exact h⟩
      |exact Wu pins s U H _ _ v u Q I rx ry ⟨rfl,by rw[Oi];exact h⟩
  |Lt=>cases x <;> cases y <;> first|exact (show False from h).elim|exact bq9 pins s U H _ _ v u Q I rx ry ⟨_,_,rfl,rfl,h⟩|exact Yn pins s U H _ _ v u Q I rx ry ⟨_,_,rfl,rfl,h⟩
  |LtE=>cases x <;> cases y <;> first|exact (show False from h).elim|exact bq8 pins s U H _ _ v u Q I rx ry ⟨_,_,rfl,rfl,h⟩|exact Ym pins s U H _ _ v u Q I rx ry ⟨_,_,rfl,rfl,h⟩
  |Gt=>cases x <;> cases y <;> first|exact (show False from h).elim|exact bq7 pins s U H _ _ v u Q I rx ry ⟨_,_,rfl,rfl,h⟩
  |GtE=>cases x <;> cases y <;> first|exact (show False from h).elim|exact bq6 pins s U H _ _ v u Q I rx ry ⟨_,_,rfl,rfl,h⟩
  |In=>cases x <;> cases y <;> first|exact (show False from h).elim|exact h.elim (Yl pins s U H _ _ v u Q I rx ry) (fun⟨o,g,q⟩=>by cases ry;exact by0 (by omega) I g rx λs' I'=>⟨.bl _,H,I',rfl,q⟩)
  |NotIn=>cases x <;> cases y <;> first|exact (show False from h).elim|exact h.elim (Pd pins s U H _ _ v u Q I rx ry) (fun⟨o,g,q⟩=>by cases ry;exact as1 (by omega) I g rx λs' I'=>⟨.bl _,H,I',rfl,q⟩)
  |Is=>cases y <;> first|exact (show False from h).elim|exact bc9 pins s U H _ _ v u Q I rx ry ⟨rfl,h⟩|(cases x <;> first|exact (show False from h).elim|(cases rx;cases ry;exact is_bool ⟨.bl _,H,I,rfl,h⟩))
  |IsNot=>cases y <;> first|exact (show False from h).elim|exact au9 pins s U H _ _ v u Q I rx ry ⟨rfl,h⟩|(cases x <;> first|exact (show False from h).elim|(cases rx;cases ry;exact isnot_bool ⟨.bl _,H,I,rfl,h⟩))
end
def W2:V->Hp->VK->Prop:=λx H Q=>match x with
 |.int i=>Q (.int (-i)) H
 |_=>False
theorem b37 {X:Cx}:UnR X (mU .USub) W2:=by
 intro pins s U H x v Q I rx h
 cases x <;> first|exact (show False from h).elim|exact bj3 pins s U H _ v Q I rx ⟨_,rfl,h⟩
def Rt:V->Hp->VK->Prop:=λx H Q=>match x with
 |.int i=>Q (.int (bI i)) H
 |_=>False
theorem bn1 {X:Cx}:UnR X (mU .Invert) Rt:=by
 intro pins s U H x v Q I rx h
 cases x <;> first|exact (show False from h).elim|exact bj2 pins s U H _ v Q I rx ⟨_,rfl,h⟩
theorem Xj {X:Cx}:bk6 X (ao4 X.K):=by
 intro pins s U H x v Q I rx h
 cases x with
 |non=>exact Lu pins s U H _ v Q I rx ⟨_,rfl,h⟩
 |bl b=>exact Lu pins s U H _ v Q I rx ⟨_,rfl,h⟩
 |int i=>exact Lu pins s U H _ v Q I rx ⟨_,rfl,h⟩
 |str y=>exact Lu pins s U H _ v Q I rx ⟨_,⟨h.1,rfl⟩,h.2⟩
 |ref p=>exact Lu pins s U H _ v Q I rx h
 |_=>exact (show False from h).elim
inductive SqX (K:ac) (H:Hp) (p:Addr) (i:Int) (xs:List V):Prop where
 |inl (h:SqL K H p xs)
 |inr (h:SqT K H p xs)
 |dk (h:∀ v,atI xs i=some v->DGet H p (.int i) (some v))
noncomputable def A3 (K:ac):R2:=λx y H Q=>match x,y with
 |.str z,.int i=>z.length<=sizeLine /\ ∃ c,atI z.cps.toList i=some c/\Q (.str ⟨#[c]⟩) H
 |.ref p,.int i=>∃ xs v,SqX K H p i xs/\atI xs i=some v/\Q v H
 |.ref p,.str k=>∃ v,DGet H p (.str k) (some v)/\Q v H
 |.ref p,.ref b=>∃ v,DGet H p (.ref b) (some v)/\Q v H
 |_,_=>False
theorem by5 {X:Cx} (hu:X.A.units+64<cLine):IxR X (A3 X.K):=by
  intro value slice pins s U H x y v u Q I rx ry h hs
  cases x <;> cases y <;> first
    |exact (show False from h).elim
    |(obtain⟨h1,c,h2,h3⟩:=h;exact a75 value slice pins s U H _ _ v u Q I rx ry ⟨_,_,c,rfl,rfl,h1,h2,h3⟩ hs)
    | (obtain⟨xs,w,h1|h1|h1,h2,h3⟩:=h
       . exact at3 value slice pins s U H _ _ v u Q I rx ry ⟨_,_,_,_,rfl,rfl,h1,h2,h3⟩ hs
       . exact a76 value slice pins s U H _ _ v u Q I rx ry ⟨_,_,_,_,rfl,rfl,h1,h2,h3⟩ hs
       . exact Jx hu value slice pins s U H _ _ v u Q I rx ry ⟨_,w,rfl,h1 w h2,h3⟩ hs)
    |(obtain⟨w,h1,h2⟩:=h;exact Jx hu value slice pins s U H _ _ v u Q I rx ry ⟨_,w,rfl,h1,h2⟩ hs)
noncomputable def a28:V->V->V->Hp->(Hp->Prop)->Prop:=λo i v H N=>match o,i with
 |.ref p,.int k=>False \/ ∃ H',DPut H p (.int k) v H'/\N H'
 |.ref p,i=>∃ H',DPut H p i v H'/\N H'
 |_,_=>False
theorem bs9 {X:Cx} (hu:X.A.units+64<cLine):bk3 X a28:=by
 intro pins s U H o i v ov iv u Q I ro ri rv h
 cases o with
 |ref p=>
  have dp:∀ {H'},DPut H p i v H'->Q H'->aN (model X.prog X.w) X.A (setItem ov iv u) (λ_ s'=>∃ H',Inv X pins U H' s'/\Q H') X.xe s:=λ{H'} g q=>by
   cases ro
   exact Xx (by omega) I g ri rv λs' I'=>⟨H',I',q⟩
  cases i with
  |int k=>
   rcases h with h|⟨H',g,q⟩
   .exact h.elim
   .exact dp g q
  |_=>obtain⟨H',g,q⟩:=h;exact dp g q
 |_=>exact (show False from h).elim
noncomputable def Bi (K:ac) (f:Str):V->Hp->VK->Prop:=λx H Q=>match x with
 |.ref a=>(∃ C dx fs v,H a=some (.ins C dx fs)/\Cls K C/\NoAttr K C f/\fs.lookup f=some v/\Q v H)\/(∃ C fs v,ExcAt H a C fs/\ECls K C/\NoAttr K C f/\fs.lookup f=some v/\Q v H)
 |_=>False
noncomputable def ak7 (K:ac) (f:Str):V->V->Hp->(Hp->Prop)->Prop:=λx y H N=>match x with
 |.ref a=>(∃ C dx fs,H a=some (.ins C dx fs)/\Cls K C/\NoAttr K C f/\fs.length<1000/\N (upd H a (.ins C dx (Du f y fs))))\/(∃ C,ECls K C/\NoAttr K C f/\bk4 H a C f y N)
 |_=>False
section
variable {X:Cx} {pins:List (Addr×Obj)} {U:St} {H:Hp} {s:aj} {A:bq} {E:Value->aj->Prop}
theorem bm1 {f:Str} {x:V} {u:Value} {b:Bool} {Q:VK} (I:Inv X pins U H s) (rx:RelV x u) (h:Bi X.K f x H Q):aN (model X.prog X.w) A (lL u f b) (EP X pins U Q) E s:=by
 cases x with
 |ref a=>
  cases rx
  rcases h with ⟨C,dx,fs,v,ea,c,n,l,q⟩|⟨C,fs,v,ea,c,n,l,q⟩
  .exact Tq I ea c n l λu' s2 I2 ru=>⟨v,H,I2,ru,q⟩
  .exact X2 I ea c n l λu' s2 I2 ru=>⟨v,H,I2,ru,q⟩
 |_=>exact (show False from h).elim
theorem bs8 {f:Str} {x y:V} {u v:Value} {N:Hp->Prop} {Q:Unit->aj->Prop} (I:Inv X pins U H s) (rx:RelV x u) (ry:RelV y v) (h:ak7 X.K f x y H N) (hQ:∀ H' s',Inv X pins U H' s'->N H'->Q () s') :
  aN (model X.prog X.w) A (mG u f v) Q E s:=by
 cases x with
 |ref a=>
  cases rx
  rcases h with ⟨C,dx,fs,ea,c,n,l,q⟩|⟨C,c,n,q⟩
  .exact Ux I ea c n l ry λs3 I3=>hQ _ _ I3 q
  .exact Y2 I c n ry q hQ
 |_=>exact (show False from h).elim
end
structure FI where
 f:Addr
 fd:a9
 ps:List Str
 k:Nat
 sp:Sp
 dfs:List V
 ds:List Value
structure MI where
 C:Addr
 i:FI
inductive GB where
 |fn (i:FI)
 |cls (C:Addr) (i:Option FI)
 |met (m:Str) (l:List MI)
 |val (v:V) (u:Value)
 |exc (C:Addr) (i:Option FI)
def Cw:List (Str×GB)->Str->Option (List MI)
 |[],_=>none
 |(_,.met m l)::r,x=>if m=x then some l else Cw r x
 |_::r,x=>Cw r x
theorem Ce:∀ {gb:List (Str×GB)} {x:Str} {l:List MI},Cw gb x=some l -> ∃ k,(k,GB.met x l)∈gb
 | (k,.met m l')::r,x,l,h=>by
  unfold Cw at h
  by_cases e:m=x
  .rw[if_pos e] at h;cases h;subst e;exact⟨k,by simp⟩
  .rw[if_neg e] at h;obtain⟨k,q⟩:=Ce h;exact⟨k,aB _ q⟩
 |(_,.fn _)::r,x,l,h=>by unfold Cw at h;obtain⟨k,q⟩:=Ce h;exact⟨k,aB _ q⟩
 |(_,.cls _ _)::r,x,l,h=>by unfold Cw at h;obtain⟨k,q⟩:=Ce h;exact⟨k,aB _ q⟩
 |(_,.val _ _)::r,x,l,h=>by unfold Cw at h;obtain⟨k,q⟩:=Ce h;exact⟨k,aB _ q⟩
 |(_,.exc _ _)::r,x,l,h=>by unfold Cw at h;obtain⟨k,q⟩:=Ce h;exact⟨k,aB _ q⟩
structure Sg where
 K:ac
 N:List Str
 sc:List (Str×cx)
 gb:List (Str×GB)
 bl:List Str
 top:Bool
 calm:Bool
def Cf:List Str->Str->Nat->Option Nat
 |[],_,_=>none
 |y::r,x,i=>if y=x then some i else Cf r x (i+1)
theorem Nx:∀ {N:List Str} {x:Str} {i j:Nat},Cf N x j=some i->j<=i/\N[i - j]? = some x
 |[],_,_,_,h=>by cases h
 | y::r,x,i,j,h=>by
  unfold Cf at h
  by_cases e:y=x
  .rw[if_pos e] at h
   cases h
   refine⟨ai _,?_⟩
   rw[f9,e]
   rfl
  .rw[if_neg e] at h
   obtain⟨h1,h2⟩:=Nx h
   refine⟨by omega,?_⟩
   have:i - j=(i - (j+1))+1:=by omega
   rw[this,bK]
   exact h2
theorem Ea {N:List Str} {x:Str} {i:Nat} (h:Cf N x 0=some i):N[i]? = some x:=(Nx h).2
def D8 (x:Str):Bool:=!(x==("__debug__" : Str)) && !(x==("__classdict__" : Str)) && !(x==("__name__" : Str))
def Jc (G:Sg) (x:Str):Bool:=(G.sc.lookup x==some .globalImplicit)&&D8 x
noncomputable def Vv (x:Str):Option String:=
 if x = "int" then some "int" else if x = "bool" then some "bool" else if x = "str" then some "str" else if x = "list" then some "list" else if x = "tuple" then some "tuple" else if x = "dict" then some "dict" else if x = "ValueError" then some "ValueError" else none
theorem ar9:cQ "ValueError" = some (.type "ValueError"):=by decide +kernel
theorem Zd {x:Str} {T:String} (h:Vv x=some T):cQ x=some (.type T):=by
 unfold Vv at h
 by_cases e1:x = "int"
 .rw[if_pos e1] at h;cases h;rw[e1];exact j3
 rw[if_neg e1] at h
 by_cases e2:x = "bool"
 .rw[if_pos e2] at h;cases h;rw[e2];exact PyProof.Rows.boot_bool
 rw[if_neg e2] at h
 by_cases e3:x = "str"
 .rw[if_pos e3] at h;cases h;rw[e3];exact PyProof.Rows.boot_str
 rw[if_neg e3] at h
 by_cases e4:x = "list"
 .rw[if_pos e4] at h;cases h;rw[e4];exact gL
 rw[if_neg e4] at h
 by_cases e5:x = "tuple"
 .rw[if_pos e5] at h;cases h;rw[e5];exact js
 rw[if_neg e5] at h
 by_cases e6:x = "dict"
 .rw[if_pos e6] at h;cases h;rw[e6];exact PyProof.Rows.boot_dict
 rw[if_neg e6] at h
 by_cases e7:x = "ValueError"
 .rw[if_pos e7] at h;cases h;rw[e7];exact ar9
 rw[if_neg e7] at h
 cases h
noncomputable def Ka (CX:CXT) (X:Cx):Prop:=∀ Ex,Meets X Ex -> ∀ (pins:List (Addr×Obj)) (U:St) (H:Hp) (s:aj) (e:Value) (s':aj),Inv X pins U H s->CX X.stack H s (λv _ H'=>∃ a,v=.ref a/\Ex U a H') e s'->X.xe e s'
structure Gf (X:Cx) (i:FI):Prop where
 kp:ba X.K (.ref i.f)=true
 ok:∃ CX,(∀ X':Cx,X'.prog=X.prog->X'.w=X.w->Ka CX X')/\FnOk X.prog X.w X.K X.mg X.base CX i.k i.f i.fd i.ps i.sp
 room:Room i.k X.A
 binds:∀ j,j<=i.dfs.length->Binds X.K i.fd i.ps (i.ds.drop j)
 vals:Vals i.dfs i.ds
noncomputable def N3 (X:Cx) (C:Addr):Option FI->Prop
 |none=>True
 |some i=>bh X.K (.ref C) "__init__" = some (some (.ref i.f))/\cP X.K (.ref i.f)=true/\Gf X i/\Room (i.k+1) X.A
noncomputable def aa2 (X:Cx) (C:Addr):Option FI->Prop
 |none=>dI X.K C=true/\bh X.K (.ref C) "__init__" = some (some (.builtin "object.__init__"))
 |some i=>dI X.K C=true/\bh X.K (.ref C) "__init__" = some (some (.ref i.f))/\cP X.K (.ref i.f)=true/\Gf X i/\Room (i.k+1) X.A
noncomputable def GBOk (X:Cx) (x:Str):GB->Prop
 |.fn i=>X.mg x=some (.ref i.f)/\Gf X i
 |.val v u=>X.mg x=some u/\RelV v u
 |.exc C oi=>X.mg x=some (.ref C)/\ba X.K (.ref C)=true/\ECls X.K C/\N3 X C oi
 |.cls C oi=>X.mg x=some (.ref C)/\ba X.K (.ref C)=true/\aa2 X C oi
 |.met m l=>∀ mi∈l,Cls X.K mi.C/\Qk X.K mi.C m mi.i.f/\Gf X mi.i
theorem GBOk.to {X X':Cx} (hm:X'.mg=X.mg) (hK:X'.K=X.K) (hP:X'.prog=X.prog) (hw:X'.w=X.w) (hA:∀ k,Room k X.A->Room k X'.A) (hf:∀ i,Gf X i->Gf X' i) {x:Str} {g:GB} (h:GBOk X x g):GBOk X' x g:=by
 cases g with
 |fn i=>exact⟨hm▸h.1,hf i h.2⟩
 |val v u=>exact⟨hm▸h.1,h.2⟩
 |exc C oi=>
  obtain⟨a,b,c,d⟩:=h
  refine⟨hm▸a,hK▸b,hK▸c,?_⟩
  cases oi with
  |none=>exact aR
  |some i=>obtain⟨d1,d2,d3,d4⟩:=d;exact⟨hK▸d1,hK▸d2,hf i d3,hA _ d4⟩
 |cls C oi=>
  obtain⟨a,b,d⟩:=h
  refine⟨hm▸a,hK▸b,?_⟩
  cases oi with
  |none=>unfold aa2 at d ⊢;rw[hK];exact d
  |some i=>obtain⟨d1,d2,d3,d4,d5⟩:=d;exact⟨hK▸d1,hK▸d2,hK▸d3,hf i d4,hA _ d5⟩
 |met m l=>exact λmi hi=>⟨hK▸(h mi hi).1,hK▸(h mi hi).2.1,hf _ (h mi hi).2.2⟩
def FrH (X:Cx):Prop:=∃ (e0:Env) (o0:List Env) (L:Addr),X.stack=e0::o0/\e0.frame=some L/\X.env.frame=some L
structure GOk (X:Cx) (G:Sg):Prop where
 K:X.K=G.K
 kind:X.env.scope.kind=.function
 own:G.top=true->gw (model X.prog X.w) X.A X.env X.xe
 N:X.N=G.N
 nd:G.N.Nodup
 sc:∀ x,X.env.scope.names.lookup x=G.sc.lookup x
 vis:∀ x∈G.N,Vis X.env.scope x
 top:G.top=true -> ∀ x,X.fn x=true
 calm:G.calm=X.calm
 hd:X.calm=true->X.A.handled=none
 units:X.A.units+64<cLine
 cel:∀ x,(X.env.scope.names.lookup x=some .cell\/X.env.scope.names.lookup x=some .free) -> ∃ c,X.env.cells.lookup x=some c
 gb:∀ x g,(x,g)∈G.gb->GBOk X x g
 bl:∀ x,G.bl.contains x=true->X.mg x=none
 frm:G.top=true->X.stack=X.env::X.outer/\X.env.frame=some X.env.locals
 fr:FrH X
section
variable {X:Cx} {G:Sg}
theorem GOk.at_ (O:GOk X G) (x:Str) (g:GB) (e:G.gb.lookup x=some g):GBOk X x g:=O.gb x g (bQ e)
theorem GOk.met (O:GOk X G) (m:Str) (l:List MI) (e:Cw G.gb m=some l):∀ mi∈l,Cls X.K mi.C/\Qk X.K mi.C m mi.i.f/\Gf X mi.i:=by
 obtain⟨x,hx⟩:=Ce e
 exact O.gb x _ hx
theorem GOk.gl (O:GOk X G) {x:Str} (h:Jc G x=true):Gl X x:=by
 unfold Jc at h
 rw[aE] at h
 have:=ck h.1
 unfold Gl
 show X.env.scope.names.lookup x=_
 rw[O.sc x]
 exact this
theorem Pf {x:Str} (h:D8 x=true):(x==("__debug__" : Str))=false/\(x==("__classdict__" : Str))=false/\x ≠ "__name__" := by
 unfold D8 at h
 simp only[aE,gO] at h
 exact⟨h.1.1,h.1.2,λe=>by rw[e] at h;simp at h⟩
theorem Tw {x:Str} (h:Jc G x=true):(x==("__debug__" : Str))=false/\(x==("__classdict__" : Str))=false/\x ≠ "__name__" := by
 unfold Jc at h
 rw[aE] at h
 exact Pf h.2
noncomputable def ap2 (G:Sg) (x:Str):DE:=
 match Cf G.N x 0 with
 |some i=>if D8 x=true then Aa i else dNo
 | none=>if Jc G x=true then (match G.gb.lookup x with
   |some (.val v _)=>dC v
   |some (.exc C _)=>dC (.ref C)
   |some (.cls C _)=>dC (.ref C)
   |some _=>dNo
   | none=>if G.bl.contains x=true then (match Vv x with
    |some T=>dC (.ty T)
    |none=>dNo) else dNo) else dNo
theorem Bp {e:Expr}:QE X e dNo:=λ_ _ _ _ _ _ _ _ h=>h.elim
theorem bg9 {i:Nat} {x:Str} {pos:Pos} (hN:X.N[i]? = some x) (hv:Vis X.env.scope x) (hp:D8 x=true):QE X (.Name x pos) (Aa i):=by
 intro Ex _ pins s U H Q I h
 unfold Aa at h
 split at h
 .rename_i v e
  exact be6 hN hv (Pf hp).1 (Pf hp).2.1 pins s U H Q I ⟨v,e,h⟩
 .exact h.elim
theorem ax0 (O:GOk X G) (x:Str) (pos:Pos):QE X (.Name x pos) (ap2 G x):=by
 unfold ap2
 split
 .rename_i i e
  split
  .rename_i hp
   have hi:=Ea e
   exact bg9 (by rw[O.N];exact hi) (O.vis x (ak hi)) hp
  .exact Bp
 .split
  .rename_i hg
   have dd:=Tw hg
   split
   .rename_i v u e
    obtain⟨h1,h2⟩:=O.at_ x _ e
    exact λ_ _=>Pe (O.gl hg) h1 h2 dd.1
   .rename_i C oi e
    exact λ_ _=>Pe (v:=.ref C) (O.gl hg) (O.at_ x _ e).1 rfl dd.1
   .rename_i C oi e
    exact λ_ _=>Pe (v:=.ref C) (O.gl hg) (O.at_ x _ e).1 rfl dd.1
   .exact Bp
   .split
    .rename_i hb
     split
     .rename_i T e
      exact λ_ _=>av2 (O.gl hg) (O.bl x hb) (Zd e) rfl dd.2.2 dd.1
     .exact Bp
    .exact Bp
  .exact Bp
noncomputable def ap0:Const->DE
 |.int i=>dC (.int i)
 |.bool b=>dC (.bl b)
 |.none=>dC .non
 |.str x=>dC (.str x)
 |_=>dNo
theorem aj4 (c:Const) (j:Nat) (pos:Pos):QE X (.Constant c j pos) (ap0 c):=by
 cases c with
 |int i=>exact λ_ _=>be0
 |bool b=>exact λ_ _=>br2
 |none=>exact λ_ _=>be2
 |str x=>exact λ_ _=>be4
 |_=>exact Bp
variable {a b c:Expr} {da db dc:DE} {ta tb:DT} {es:List Expr} {r:DA} {pos:Pos}
theorem aj0 (op:mL) (ha:QE X a da) (hb:QE X b db):QE X (.BinOp a op b pos) (Ah (rOp X.K op) da db):=λEx m=>br4 (by7 op) (ha Ex m) (hb Ex m)
theorem bg4 (ha:QE X a da):QE X (.UnaryOp .USub a pos) (dUn W2 da):=λEx m=>a22 b37 (ha Ex m)
theorem bf8 (ha:QE X a da):QE X (.UnaryOp .Invert a pos) (dUn Rt da):=λEx m=>a22 bn1 (ha Ex m)
theorem bf7 (hu:X.A.units+64<cLine) (op:mK) (ha:QE X a da) (hb:QE X b db) (hm:jx op b=false):QE X (.Compare a [op] [b] pos) (Ah (Me X.K op) da db):=λEx m=>av3 (M7 hu op) (ha Ex m) (hb Ex m) hm
theorem bh8 (hu:X.A.units+64<cLine) (op:mK) (ha:QE X a da) (hb:QE X b db) (hm:jx op b=false):QT X (.Compare a [op] [b] pos) (Bg (Ah (Me X.K op) da db)):=by
 intro Ex m pins s U H Q I h
 refine wpAny_isTrue_Compare1 (thn (ha Ex m pins s U H _ I h) λv s1 ⟨x,H1,I1,r1,q1⟩=>thn (hb Ex m pins s1 U H1 _ I1 q1) λu s2 ⟨y,H2,I2,r2,q2⟩=>
  thn (M7 hu op pins s2 U H2 x y v u _ I2 r1 r2 q2) λc s3 ⟨z,H3,I3,r3,q3⟩=>?_) hm
 cases z with
 |bl k=>cases r3;exact eC ⟨H3,I3,q3⟩
 |_=>exact (show False from q3).elim
theorem aj3 (hu:X.A.units+64<cLine) (op op':mK) (ha:QE X a da) (hb:QE X b db) (hc:QE X c dc) (hm:lastMarks [op,op'] [b,c]=false) :
  QE X (.Compare a [op,op'] [b,c] pos) (Dr (Me X.K op) (Me X.K op') da db dc):=by
 intro Ex m pins s U H Q I h
 refine Compare_chain (thn (ha Ex m pins s U H _ I h) λv s1 ⟨x,H1,I1,r1,q1⟩=>chain_link (thn (hb Ex m pins s1 U H1 _ I1 q1) λu s2 ⟨y,H2,I2,r2,q2⟩=>
  thn (M7 hu op pins s2 U H2 x y v u _ I2 r1 r2 q2) λd s3 ⟨z,H3,I3,r3,q3⟩=>?_)) hm
 cases z with
 |bl k=>
  cases r3
  refine eC ?_
  cases k with
  |false=>exact ite_ff ⟨.bl false,H3,I3,rfl,q3⟩
  |true=>exact ite_tt (chain_last (thn (hc Ex m pins s3 U H3 _ I3 q3) λw' s4 ⟨z',H4,I4,r4,q4⟩=>M7 hu op' pins s4 U H4 y z' u w' Q I4 r2 r4 q4))
 |_=>exact (show False from q3).elim
theorem ak3 (hu:X.A.units+64<cLine) (op op':mK) (ha:QE X a da) (hb:QE X b db) (hc:QE X c dc) (hm:lastMarks [op,op'] [b,c]=false) :
  QT X (.Compare a [op,op'] [b,c] pos) (Bg (Dr (Me X.K op) (Me X.K op') da db dc)):=by
 intro Ex m pins s U H Q I h
 refine isTrue_chain (thn (ha Ex m pins s U H _ I h) λv s1 ⟨x,H1,I1,r1,q1⟩=>test_link (thn (hb Ex m pins s1 U H1 _ I1 q1) λu s2 ⟨y,H2,I2,r2,q2⟩=>
  thn (M7 hu op pins s2 U H2 x y v u _ I2 r1 r2 q2) λd s3 ⟨z,H3,I3,r3,q3⟩=>?_)) hm
 cases z with
 |bl k=>
  cases r3
  refine eC ?_
  cases k with
  |false=>exact ite_ff ⟨H3,I3,q3⟩
  |true=>
   refine ite_tt (test_last (thn (hc Ex m pins s3 U H3 _ I3 q3) λw' s4 ⟨z',H4,I4,r4,q4⟩=>thn (M7 hu op' pins s4 U H4 y z' u w' _ I4 r2 r4 q4) λd' s5 ⟨z2,H5,I5,r5,q5⟩=>?_))
   cases z2 with
   |bl k2=>cases r5;exact eC ⟨H5,I5,q5⟩
   |_=>exact (show False from q5).elim
 |_=>exact (show False from q3).elim
def ai3:Expr->Bool
 |.UnaryOp .Not _ _=>false
 |.BoolOp _ _ _=>false
 |.IfExp _ _ _ _=>false
 |.Compare _ _ _ _=>false
 |_=>true
theorem Yp {e:Expr} (h:ai3 e=true) (whole:Sem Value):isTrue e X.env whole=(do let v <- whole;mT e.pos;mR [v] (truthy v)):=by
 cases e with
 |UnaryOp op _ _=>cases op <;> first|rfl|cases h
 |BoolOp _ _ _=>cases h
 |IfExp _ _ _ _=>cases h
 |Compare _ _ _ _=>cases h
 |_=>rfl
theorem bi0 (ha:QE X a da) (h:ai3 a=true):QT X a (C3 X.K da):=by
 intro Ex m pins s U H Q I hw
 exact isTrue_plain (thn (ha Ex m pins s U H _ I hw) λv s1 ⟨x,H1,I1,r1,q1⟩=>Xj pins s1 U H1 x v Q I1 r1 q1) (Yp h _)
theorem bh9 (ha:QT X a ta):QT X (.UnaryOp .Not a pos) (Ey ta):=λEx m=>bf2 (ha Ex m)
theorem ax8 (ha:QT X a ta):QW X (.BoolOp .And [a] pos) ta:=λEx m=>aw4 (ha Ex m)
theorem bi2 (ha:QT X a ta):QW X (.BoolOp .Or [a] pos) ta:=λEx m=>bf4 (ha Ex m)
theorem bi1 (ha:QT X a ta) (hb:QW X (.BoolOp .And (b::es) pos) tb):QW X (.BoolOp .And (a::b::es) pos) (L9 ta tb):=λEx m=>bf3 (ha Ex m) (hb Ex m)
theorem bs4 (ha:QT X a ta) (hb:QW X (.BoolOp .Or (b::es) pos) tb):QW X (.BoolOp .Or (a::b::es) pos) (dOr ta tb):=λEx m=>br8 (ha Ex m) (hb Ex m)
theorem bg6 {op:BoolOp} (ha:QE X a da):QE X (.BoolOp op [a] pos) da:=λEx m=>be3 (ha Ex m)
theorem bf5 (ha:QE X a da) (hb:QE X (.BoolOp .And (b::es) pos) db):QE X (.BoolOp .And (a::b::es) pos) (M9 X.K da db):=by
 intro Ex m pins s U H Q I h
 refine BoolOp_and (thn (ha Ex m pins s U H _ I h) λv s1 ⟨x,H1,I1,r1,q1⟩=>thn (Xj pins s1 U H1 x v _ I1 r1 q1) λk s2 ⟨H2,I2,q2⟩=>?_)
 cases k with
 |true=>exact hb Ex m pins s2 U H2 Q I2 q2
 |false=>exact⟨x,H2,I2,r1,q2⟩
theorem bs2 (ha:QE X a da) (hb:QE X (.BoolOp .Or (b::es) pos) db):QE X (.BoolOp .Or (a::b::es) pos) (bl3 X.K da db):=by
 intro Ex m pins s U H Q I h
 refine BoolOp_or (thn (ha Ex m pins s U H _ I h) λv s1 ⟨x,H1,I1,r1,q1⟩=>thn (Xj pins s1 U H1 x v _ I1 r1 q1) λk s2 ⟨H2,I2,q2⟩=>?_)
 cases k with
 |false=>exact hb Ex m pins s2 U H2 Q I2 q2
 |true=>exact⟨x,H2,I2,r1,q2⟩
theorem bg5 (ha:QE X a da):QE X (.UnaryOp .Not a pos) (ac1 X.K da):=by
 intro Ex m pins s U H Q I h
 refine UnaryOp_ (thn (ha Ex m pins s U H _ I h) λv s1 ⟨x,H1,I1,r1,q1⟩=>not_of (thn (Xj pins s1 U H1 x v _ I1 r1 q1) λk s2 ⟨H2,I2,q2⟩=>?_))
 exact⟨.bl (!k),H2,I2,rfl,q2⟩
theorem br9 {t:Expr} (ht:QT X t ta) (ha:QE X a da) (hb:QE X b db):QE X (.IfExp t a b pos) (bl2 ta da db):=λEx m=>ah8 (ht Ex m) (ha Ex m) (hb Ex m)
def noStar:Expr->Bool
 |.Starred _ _=>false
 |_=>true
theorem Au {e:Expr} (h:noStar e=true) (es:List Expr) (env:Env):cS (e::es) env=(false,eval e env)::cS es env:=by
 cases e with
 |Starred _ _=>cases h
 |_=>rfl
theorem Bl {es:List Expr} (h:es.all noStar=true) (env:Env) (pos:Pos):(je pos (cS es env)).any (·.1)=false:=by
 induction es with
 |nil=>rfl
 |cons e es ih=>
  rw[bR,aE] at h
  rw[Au h.1]
  show (false||(je pos (cS es env)).any (·.1))=false
  rw[ih h.2]
  rfl
theorem Iw {es:List Expr} (h:es.all noStar=true) (env:Env) (pos:Pos):(je pos (cS es env)).all (λx=>!x.1)=true:=by
 induction es with
 |nil=>rfl
 |cons e es ih=>
  rw[bR,aE] at h
  rw[Au h.1]
  show (true&&(je pos (cS es env)).all (λx=>!x.1))=true
  rw[ih h.2]
  rfl
theorem Ul:QA X [] Ag:=λ_ _=>bd9
theorem Pg (ha:QE X a da) (hr:QA X es r) (hs:noStar a=true):QA X (a::es) (Ac da r):=λEx m=>av1 (ha Ex m) (hr Ex m) (Au hs es X.env)
theorem bg8 {k:Nat} (h:QA X es r):QE X (.Tuple es k pos) (Dw r):=λEx m=>be5 (h Ex m)
theorem bf9 (h:QA X es r):QE X (.List es pos) (Cj r):=λEx m=>be1 (h Ex m)
def Gy:Expr->Bool
 |.Slice _ _ _ _=>false
 |_=>true
theorem Uf {e:Expr} (h:Gy e=true):V4 e:=by
 intro o i
 cases e with
 |Slice _ _ _ _=>cases h
 |_=>rfl
theorem bs0 (hu:X.A.units+64<cLine) (ha:QE X a da) (hb:QE X b db) (h:Gy b=true):QE X (.Subscript a b pos) (Ah (A3 X.K) da db):=λEx m=>br3 (by5 hu) (ha Ex m) (hb Ex m) (Uf h)
theorem aw5 {f:Str} (ha:QE X a da) (h:jw a f X.env (eval a X.env)=eval a X.env):QE X (.Attribute a f pos) (dUn (Bi X.K f) da):=by
 intro Ex m pins s U H Q I hw
 exact ar5 h (thn (ha Ex m pins s U H _ I hw) λu s1 ⟨x,H1,I1,rx,q⟩=>bm1 I1 rx q)
end
end L2
namespace PySem.SeqAt
open AutoSeq1 (wpAny_loadPart')
open MeetsSeq MeetsSeq2 MeetsSeq3
end PySem.SeqAt
namespace PySem.W
open PySem PySem.Calls PyProof.Rows
def kRun {α:Type} (n:Nat) (lt:Nat->Nat->Bool):KasT α->Option α
 |.ret a=>some a
 |.ask i j k=>if i<n/\j<n then kRun n lt (k (lt i j)) else none
theorem kRun_wp {α:Type} {n:Nat} {lt:Nat->Nat->Bool} {cmp:Nat->Nat->(Bool->aj->Prop)->aj->Prop} {G:α->aj->Prop} {s:aj} (h:∀ i j C,i<n->j<n->C (lt i j) s->cmp i j C s) :
  ∀ {t:KasT α} {a:α},kRun n lt t=some a->G a s->t.kasWp cmp G s
 | .ret b,a,e,g=>by
  have:b=a:=aD e
  subst this
  exact g
 | .ask i j k,a,e,g=>by
  unfold kRun at e
  split at e
  .rename_i hij
   exact h i j _ hij.1 hij.2 (kRun_wp h e g)
  .cases e
section
variable {prog:aS} {w:bz} {A:bq} {E:Value->aj->Prop} {s:aj} {vs:List Value}
noncomputable def SoFin (a:Addr) (e:Nat) (out:List Value) (C:aj->Prop) (s:aj):Prop:=
 s.heap.get? a=some (bb "list" #[] e) /\ ∀ h' c,h'.get? a=some (bb "list" (bo out) c)->bn a s.heap h'->C { s with heap:=h' }
theorem SoFin.mono {a:Addr} {e:Nat} {out:List Value} {C C':aj->Prop} (h:SoFin a e out C s) (hc:∀ s,C s->C' s):SoFin a e out C' s:=⟨h.1,λh' c x y=>hc _ (h.2 h' c x y)⟩
theorem Ps {n:Nat} {a:Addr} {P:lj->aj->Prop} (ho:s.heap.get? a=some (bb "list" vs.toArray n)) (h2:2<=vs.length) (h64:vs.length<64)
  (h:∀ e1 h',h'.get? a=some (bb "list" #[] e1)->(∀ b o,b≠a->s.heap.get? b=some o->h'.get? b=some o) ->
   aN (model prog w) A (mS vs.toArray) (λκ s'=>(kas_sort vs.length).kasWp (kas_ask prog w A κ vs) (λp s''=>SoFin a e1 (p.toList.map λi=>vs.getD i bC) (λs3=>P (.done (.ret .none)) s3) s'') s') (λ_ _=>False) { s with heap:=h' }) :
  aN (model prog w) A (aM.«list.sort» ⟨[.ref a],[]⟩) P E s:=by
 have ha:a<s.heap.objs.size:=aA ho
 have s1:=bJ s.heap a (a_ λ_=>(#[]:Array Value))
 obtain⟨e1,ho1⟩:∃ e1,(s.heap.update a (a_ λ_=>(#[]:Array Value))).get? a=some (bb "list" #[] e1):=⟨_,cZ ho λ_=>#[]⟩
 have ask:=h e1 (((s.heap.update a (a_ λ_=>(#[]:Array Value))).push (bb "tuple" vs.toArray 0)).push (bb "list" #[] 0)) (ag _ (ag _ ho1))
  (λb o nb e=>ag _ (ag _ ((s1.2 b nb).trans e)))
 rw[j_]
 refine af (iN ho rfl ?_)
 refine af (dv ho rfl ?_ (by rw[av,bA];omega) (bx _))
 refine af (fY ho1 rfl ?_)
 refine af (g8 ?_ (by show vs.length<=_;rw[bA];omega))
 refine af (eX ?_ (bx _))
 refine bF ?_
 show aN (model prog w) A _ P E { s with heap:=((s.heap.update a (a_ λ_=>(#[]:Array Value))).push (bb "tuple" vs.toArray 0)).push (bb "list" #[] 0) }
 dsimp only
 have hn2:¬ vs.toArray.size<2:=by rw[av];omega
 rw[if_neg hn2,if_neg hn2]
 refine af (bN ask (λκ s0 hk=>?_) λ_ _ x=>x.elim)
 refine af (bN (kat_run (Q:=λst' s'=>∃ p:Array Nat,p.size=vs.length/\mI st'=p.map (jy (vs.toArray.zip vs.toArray))/\lB st'=none/\SoFin a e1 (p.toList.map λi=>vs.getD i bC) (λs''=>P (.done (.ret .none)) s'') s')
  rfl h2 h64 (λp' st' s' a1 a2 a3 a4=>⟨p',a1,a2,a3,a4⟩) hk) ?_ λ_ _ e=>e)
 rintro⟨⟨⟩,st'⟩ s' ⟨p,hp,har,hf,na,k⟩
 dsimp only
 have hout:=kat_snds rfl har
 have hsz:(bo (p.toList.map λi=>vs.getD i bC)).size=vs.length:=by rw[av,ae,bS,hp]
 rw[hout]
 have s2:=bJ s'.heap a (a_ λ_=>bo (p.toList.map λi=>vs.getD i bC))
 obtain⟨c2,hc2⟩:∃ c2,(s'.heap.update a (a_ λ_=>bo (p.toList.map λi=>vs.getD i bC))).get? a=some (bb "list" (bo (p.toList.map λi=>vs.getD i bC)) c2):=⟨_,cZ na λ_=>bo (p.toList.map λi=>vs.getD i bC)⟩
 refine af (fY na rfl ?_)
 refine af (dv na rfl ?_ (bx _) (aY (lU hsz) (by rw[bA];omega)))
 rw[hf]
 simp only[bne_self_eq_false,bH,if_false]
 exact aq (k _ c2 hc2 s2)
end
end PySem.W
namespace L2
open PySem PySem.Spec PyProof.Rows
section
variable {X:Cx} {pins:List (Addr×Obj)} {U:St} {H:Hp} {s:aj}
theorem Sn {xs:List V} {us:List Value} (r:Vals xs us) {i:Nat} (h:i<us.length):∃ x,xs[i]? = some x/\RelV x (us.getD i bC):=by
 have hl:=r.length
 obtain⟨u,hu,ru⟩:=r.get (i:=i) (x:=xs[i]'(by omega)) (ah (by omega))
 refine⟨_,ah (by omega),?_⟩
 rw[ar,hu]
 exact ru
theorem N1 {xs:List V} {us:List Value} (r:Vals xs us):∀ (p:List Nat),(∀ i∈p,i<us.length)->Vals (p.map λi=>xs.getD i .non) (p.map λi=>us.getD i bC)
 |[],_=>.nil
 | i::p,h=>by
  obtain⟨x,hx,rx⟩:=Sn r (h i aT)
  refine .cons ?_ (N1 r p λj hj=>h j (aB _ hj))
  show RelV (xs.getD i .non) _
  rw[ar,hx]
  exact rx
end
theorem Ip:cQ "sorted" = some (.builtin "sorted"):=by decide +kernel
end L2
namespace PySem.W
open PySem PySem.Calls PyProof.Rows
section
variable {n:Nat} {lt:Nat->Nat->Bool}
theorem Da {α β:Type} {f:α->KasT β}:∀ t:KasT α,kRun n lt (t.bind f)=(kRun n lt t).bind λa=>kRun n lt (f a)
 |.ret a=>rfl
 | .ask i j k=>by
  show (if i<n/\j<n then kRun n lt ((k (lt i j)).bind f) else none)=(if i<n/\j<n then kRun n lt (k (lt i j)) else none).bind _
  by_cases h:i<n/\j<n
  .rw[if_pos h,if_pos h,Da (k (lt i j))]
  .rw[if_neg h,if_neg h];rfl
structure Tot (n:Nat) (lt:Nat->Nat->Bool):Prop where
 tot:∀ i j,i<n->j<n->i≠j->lt i j = !lt j i
 tr:∀ i j k,i<n->j<n->k<n->lt i j=true->lt j k=true->lt i k=true
def pg (p:Array Nat) (i:Nat):Nat:=p.getD i 0
def PermN (n:Nat) (p:Array Nat):Prop:=p.toList.Perm (ay n)
theorem PermN.size {p:Array Nat} (h:PermN n p):p.size=n:=by
 have:=h.length_eq
 simpa using this
theorem pg_get {p:Array Nat} {i:Nat} (h:i<p.size):p[i]? = some (pg p i):=by
 unfold pg
 rw[Array.getD_eq_getD_getElem?,dY h]
 rfl
theorem PermN.bd {p:Array Nat} (h:PermN n p) {i:Nat} (hi:i<n):pg p i<n:=by
 have hs:i<p.size:=by rw[h.size];exact hi
 have hm:pg p i∈p.toList:=by
  have:=pg_get hs
  rw[<- cD] at this
  exact ak this
 exact List.mem_range.mp (h.mem_iff.mp hm)
theorem PermN.inj {p:Array Nat} (h:PermN n p) {i j:Nat} (hi:i<n) (hj:j<n) (e:pg p i=pg p j):i=j:=by
 have nd:p.toList.Nodup:=(h.nodup_iff).mpr List.nodup_range
 have ei:=pg_get (p:=p) (i:=i) (by rw[h.size];exact hi)
 have ej:=pg_get (p:=p) (i:=j) (by rw[h.size];exact hj)
 rw[<- cD] at ei ej
 have li:i<p.toList.length:=by rw[bS,h.size];exact hi
 refine (List.getElem?_inj li nd).mp ?_
 rw[ei,ej,e]
def Srt (lt:Nat->Nat->Bool) (p:Array Nat) (m:Nat):Prop:=∀ i j,i<j->j<m->lt (pg p i) (pg p j)=true
def Dsc (lt:Nat->Nat->Bool) (p:Array Nat) (m:Nat):Prop:=∀ i j,i<j->j<m->lt (pg p j) (pg p i)=true
theorem D0 {α:Type} {i j:Nat} {k:Bool->KasT α} (hi:i<n) (hj:j<n):kRun n lt (.ask i j k)=kRun n lt (k (lt i j)):=if_pos ⟨hi,hj⟩
variable (T:Tot n lt) {p:Array Nat} (h:PermN n p)
include T h
theorem Gm:∀ f k,1<=k->k+f<=n->Srt lt p k -> ∃ m,kRun n lt (mC p f k)=some m/\k<=m/\m<=k+f/\Srt lt p m
 |0,k,h1,h2,hs=>⟨k,rfl,ai _,ai _,hs⟩
 | f+1,k,h1,h2,hs=>by
  have e:kRun n lt (mC p (f+1) k)=kRun n lt (if lt (pg p k) (pg p (k - 1))=true then .ret k else mC p f (k+1)):=D0 (h.bd (by omega)) (h.bd (by omega))
  rw[e]
  cases c:lt (pg p k) (pg p (k - 1)) with
  |true=>exact⟨k,rfl,ai _,by omega,hs⟩
  |false=>
   have c1:lt (pg p (k - 1)) (pg p k)=true:=by
    rw[T.tot _ _ (h.bd (by omega)) (h.bd (by omega)) (λq=>by have:=h.inj (by omega) (by omega) q;omega),c];rfl
   obtain⟨m,r1,r2,r3,r4⟩:=Gm f (k+1) (by omega) (by omega) (λi j hij hj=>by
    by_cases hk:j<k
    .exact hs i j hij hk
    .have:j=k:=by omega
     subst this
     by_cases hi:i=j - 1
     .subst hi;exact c1
     .exact T.tr _ _ _ (h.bd (by omega)) (h.bd (by omega)) (h.bd (by omega)) (hs i (j - 1) (by omega) (by omega)) c1)
   exact⟨m,r1,by omega,by omega,r4⟩
theorem Qw:∀ f k,1<=k->k+f<=n->Dsc lt p k -> ∃ m,kRun n lt (lE f p k 0)=some (p,m,0)/\k<=m/\m<=k+f/\Dsc lt p m
 |0,k,h1,h2,hs=>⟨k,rfl,ai _,ai _,hs⟩
 | f+1,k,h1,h2,hs=>by
  have e:kRun n lt (lE (f+1) p k 0)=kRun n lt (if lt (pg p k) (pg p (k - 1))=true then (if 0 > 0 then lE f (j9 p (k - (0+1)) k) (k+1) 0 else lE f p (k+1) 0) else .ask (pg p (k - 1)) (pg p k) λd=>if d=true then .ret (p,k,0) else lE f p (k+1) (0+1)):=D0 (h.bd (by omega)) (h.bd (by omega))
  rw[e]
  cases c:lt (pg p k) (pg p (k - 1)) with
  |true=>
   rw[if_pos rfl,if_neg (by omega)]
   obtain⟨m,r1,r2,r3,r4⟩:=Qw f (k+1) (by omega) (by omega) (λi j hij hj=>by
    by_cases hk:j<k
    .exact hs i j hij hk
    .have:j=k:=by omega
     subst this
     by_cases hi:i=j - 1
     .subst hi;exact c
     .exact T.tr _ _ _ (h.bd (by omega)) (h.bd (by omega)) (h.bd (by omega)) c (hs i (j - 1) (by omega) (by omega)))
   exact⟨m,r1,by omega,by omega,r4⟩
  |false=>
   have c1:lt (pg p (k - 1)) (pg p k)=true:=by
    rw[T.tot _ _ (h.bd (by omega)) (h.bd (by omega)) (λq=>by have:=h.inj (by omega) (by omega) q;omega),c];rfl
   rw[if_neg au,D0 (h.bd (by omega)) (h.bd (by omega)),c1]
   exact⟨k,rfl,ai _,by omega,hs⟩
omit T in
theorem ay5 {m:Nat} (hm:m<=n) (hd:Dsc lt p m):PermN n (j9 p 0 m)/\Srt lt (j9 p 0 m) m:=by
 have hp:PermN n (j9 p 0 m):=by
  have:=mirror_perm p 0 m ((m - 0) / 2)
  exact (Array.perm_iff_toList_perm.mp this).trans h
 have gt:∀ k,k<m->pg (j9 p 0 m) k=pg p (m - 1 - k):=λk hk=>by
  have e:=getElem?_mirror_all (xs:=p) (i:=0) (j:=m) (by rw[h.size];exact hm) k
  have e1:(j9 p 0 m)[k]? = some (pg (j9 p 0 m) k):=pg_get (by rw[hp.size];omega)
  have e2:p[m - 1 - k]? = some (pg p (m - 1 - k)):=pg_get (by rw[h.size];omega)
  have e':(j9 p 0 m)[k]? = p[m - 1 - k]?:=by
   refine e.trans ?_
   rw[if_pos (by omega)]
   congr 1
   omega
  rw[e1,e2] at e'
  exact aD e'
 refine⟨hp,λi j hij hj=>?_⟩
 rw[gt i (by omega),gt j hj]
 exact hd _ _ (by omega) (by omega)
theorem Xv (hn:1<=n):∃ m p',kRun n lt (lC n p)=some (m,p')/\PermN n p'/\1<=m/\m<=n/\Srt lt p' m:=by
 obtain⟨m,r1,r2,r3,r4⟩:=Gm T h (n - 1) 1 (ai _) (by omega) (λi j hij hj=>by omega)
 unfold lC
 rw[Da,r1,cC]
 by_cases hm:m=n
 .have e:(m==n)=true:=by rw[hm];exact beq_self_eq_true n
  rw[if_pos e]
  exact⟨m,p,rfl,h,r2,by omega,r4⟩
 .have e:¬ (m==n)=true:=λq=>hm (beq_iff_eq.mp q)
  rw[if_neg e]
  by_cases h1:m > 1
  .rw[if_pos h1]
   have:=D0 (n:=n) (lt:=lt) (k:=λc=>if c=true then KasT.ret (m,p) else kas_descPart m n (j9 p 0 m)) (h.bd (i:=0) (by omega)) (h.bd (i:=m - 1) (by omega))
   refine⟨m,p,this.trans ?_,h,r2,by omega,r4⟩
   have e1:lt (pg p 0) (pg p (m - 1))=true:=r4 0 (m - 1) (by omega) (by omega)
   rw[e1]
   rfl
  .rw[if_neg h1]
   have hm1:m=1:=by omega
   subst hm1
   unfold kas_descPart
   have hd:∃ d,kRun n lt (lE (n - (1+1)) p (1+1) 0)=some (p,d,0)/\1<=d/\d<=n/\Dsc lt p d:=by
    by_cases c:lt (pg p 1) (pg p 0)=true
    .obtain⟨d,q1,q2,q3,q4⟩:=Qw T h (n - 2) 2 (by omega) (by omega) (λi j hij hj=>by
      have:i=0:=by omega
      have:j=1:=by omega
      subst i j;exact c)
     exact⟨d,q1,by omega,by omega,q4⟩
    .exfalso
     have e:=Gm T h (n - 1) 1 (ai _) (by omega) (λi j hij hj=>by omega)
     obtain⟨m',a1,a2,a3,a4⟩:=e
     obtain⟨f,hf⟩:∃ f,n - 1=f+1:=⟨n - 2,by omega⟩
     rw[hf] at r1
     have e2:kRun n lt (mC p (f+1) 1)=kRun n lt (if lt (pg p 1) (pg p (1 - 1))=true then .ret 1 else mC p f (1+1)):=D0 (h.bd (by omega)) (h.bd (by omega))
     rw[e2,if_neg c] at r1
     have c0:lt (pg p 1) (pg p 0)=false:=by simpa using c
     have c1:lt (pg p 0) (pg p 1)=true:=by
      rw[T.tot _ _ (h.bd (by omega)) (h.bd (by omega)) (λq=>by have:=h.inj (by omega) (by omega) q;omega),c0];rfl
     obtain⟨m2,b1,b2,b3,b4⟩:=Gm T h f 2 (by omega) (by omega) (λi j hij hj=>by
      have:i=0:=by omega
      have:j=1:=by omega
      subst i j;exact c1)
     rw[r1] at b1
     cases b1
     omega
   obtain⟨d,q1,q2,q3,q4⟩:=hd
   rw[Da,q1,cC]
   show ∃ m p',kRun n lt (if 0 > 0 then _ else kas_tail3 d n p)=some (m,p')/\_
   rw[if_neg (by omega)]
   unfold kas_tail3
   obtain⟨hp,hs⟩:=ay5 h q3 q4
   obtain⟨m',a1,a2,a3,a4⟩:=Gm T hp (n - d) d q2 (by omega) hs
   rw[Da,a1,cC]
   exact⟨m',_,rfl,hp,by omega,by omega,a4⟩
theorem Ic {k:Nat} (hk:k<n) (hs:Srt lt p k):∀ f l r,l<=r->r<=k->r - l<=f->(∀ i,i<l->lt (pg p i) (pg p k)=true)->(∀ i,r<=i->i<k->lt (pg p k) (pg p i)=true) ->
  ∃ m,kRun n lt (iC p k f l r)=some m/\m<=k/\(∀ i,i<m->lt (pg p i) (pg p k)=true)/\(∀ i,m<=i->i<k->lt (pg p k) (pg p i)=true)
 |0,l,r,h1,h2,h3,hl,hr=>⟨l,rfl,by omega,hl,λi a b=>hr i (by omega) b⟩
 | f+1,l,r,h1,h2,h3,hl,hr=>by
  by_cases hlr:l ≥ r
  .have e:iC p k (f+1) l r=.ret l:=by unfold iC;rw[if_pos hlr]
   rw[e]
   exact⟨l,rfl,by omega,hl,λi a b=>hr i (by omega) b⟩
  .have e:kRun n lt (iC p k (f+1) l r)=kRun n lt (if lt (pg p k) (pg p ((l+r) / 2))=true then iC p k f l ((l+r) / 2) else iC p k f ((l+r) / 2+1) r):=by
    conv=>lhs;unfold iC
    rw[if_neg hlr]
    exact D0 (h.bd hk) (h.bd (by omega))
   rw[e]
   have hm1:l<=(l+r) / 2:=by omega
   have hm2:(l+r) / 2<r:=by omega
   generalize (l+r) / 2=mid at hm1 hm2 ⊢
   cases c:lt (pg p k) (pg p mid) with
   |true=>
    rw[if_pos rfl]
    refine Ic hk hs f l mid hm1 (by omega) (by omega) hl λi a b=>?_
    by_cases hi:i=mid
    .subst hi;exact c
    .exact T.tr _ _ _ (h.bd hk) (h.bd (by omega)) (h.bd (by omega)) c (hs mid i (by omega) b)
   |false=>
    rw[if_neg au]
    have c1:lt (pg p mid) (pg p k)=true:=by
     rw[T.tot _ _ (h.bd (by omega)) (h.bd hk) (λq=>by have:=h.inj (by omega) hk q;omega),c];rfl
    refine Ic hk hs f (mid+1) r (by omega) h2 (by omega) (λi a=>?_) hr
    by_cases hi:i=mid
    .subst hi;exact c1
    .exact T.tr _ _ _ (h.bd (by omega)) (h.bd (by omega)) (h.bd hk) (hs i mid (by omega) (by omega)) c1
omit T in
theorem Sz {k l:Nat} (hk:k<n) (hl:l<=k) (hs:Srt lt p k) (h1:∀ i,i<l->lt (pg p i) (pg p k)=true) (h2:∀ i,l<=i->i<k->lt (pg p k) (pg p i)=true):PermN n (mJ p k (k - l))/\Srt lt (mJ p k (k - l)) (k+1):=by
 have hp:PermN n (mJ p k (k - l)):=(Array.perm_iff_toList_perm.mp (bubble_perm p k (k - l))).trans h
 have hk':k<p.size:=by rw[h.size];exact hk
 have gt:∀ i,i<k+1->pg (mJ p k (k - l)) i=if i=l then pg p k else if l<i then pg p (i - 1) else pg p i:=λi hi=>by
  have e:=getElem?_bubble hk' (k - l) (by omega) i
  have e1:(mJ p k (k - l))[i]? = some (pg (mJ p k (k - l)) i):=pg_get (by rw[hp.size];omega)
  rw[e1,show k - (k - l)=l by omega] at e
  by_cases a:i=l
  .rw[if_pos a] at e ⊢
   rw[pg_get hk'] at e
   exact aD e
  .rw[if_neg a] at e ⊢
   by_cases b:l<i
   .rw[if_pos ⟨b,by omega⟩] at e
    rw[if_pos b]
    rw[pg_get (by rw[h.size];omega)] at e
    exact aD e
   .rw[if_neg (λq=>b q.1)] at e
    rw[if_neg b]
    rw[pg_get (by rw[h.size];omega)] at e
    exact aD e
 refine⟨hp,λi j hij hj=>?_⟩
 rw[gt i (by omega),gt j hj]
 by_cases a:i=l
 .rw[if_pos a,if_neg (by omega),if_pos (by omega)]
  exact h2 (j - 1) (by omega) (by omega)
 .rw[if_neg a]
  by_cases b:l<i
  .rw[if_pos b,if_neg (by omega),if_pos (by omega)]
   exact hs (i - 1) (j - 1) (by omega) (by omega)
  .rw[if_neg b]
   by_cases c:j=l
   .rw[if_pos c];exact h1 i (by omega)
   .rw[if_neg c]
    by_cases d:l<j
    .rw[if_pos d]
     exact hs i (j - 1) (by omega) (by omega)
    .rw[if_neg d];exact hs i j hij (by omega)
end
theorem Wb {n:Nat} {lt:Nat->Nat->Bool} (T:Tot n lt):∀ (f:Nat) (p:Array Nat) (k:Nat),PermN n p->k+f=n->Srt lt p k -> ∃ p',kRun n lt (kas_bin f p k)=some p'/\PermN n p'/\Srt lt p' n
 |0,p,k,h,e,hs=>⟨p,rfl,h,by rw[<- e];exact hs⟩
 | f+1,p,k,h,e,hs=>by
  obtain⟨l,a1,a2,a3,a4⟩:=Ic T h (k:=k) (by omega) hs k 0 k (bx _) (ai _) (by omega) (λi hi=>by omega) (λi a b=>by omega)
  obtain⟨b1,b2⟩:=Sz h (by omega) a2 hs a3 a4
  obtain⟨p',c1,c2,c3⟩:=Wb T f _ (k+1) b1 (by omega) b2
  refine⟨p',?_,c2,c3⟩
  show kRun n lt ((iC p k k 0 k).bind λl=>kas_bin f (mJ p k (k - l)) (k+1))=some p'
  rw[Da,a1]
  exact c1
theorem sort_run {n:Nat} {lt:Nat->Nat->Bool} (T:Tot n lt) (hn:1<=n):∃ p,kRun n lt (kas_sort n)=some p/\PermN n p/\Srt lt p n:=by
 have h0:PermN n (bo (ay n)):=by show (bo (ay n)).toList.Perm _;exact iQ _
 obtain⟨m,p,r1,r2,r3,r4,r5⟩:=Xv T h0 hn
 unfold kas_sort
 rw[Da,r1,cC]
 show ∃ q,kRun n lt (if m<n then kas_bin (n - max m 1) p (max m 1) else .ret p)=some q/\_
 by_cases h:m<n
 .rw[if_pos h,Nat.max_eq_left r3]
  exact Wb T (n - m) p m r2 (by omega) r5
 .rw[if_neg h]
  have:m=n:=by omega
  subst this
  exact⟨p,rfl,r2,r5⟩
end PySem.W
namespace L2
open PySem PySem.Spec PyProof.Rows
section
variable {α:Type}
def X6 (lt:α->α->Bool) (z:α):List α->List α
 |[]=>[z]
 |y::ys=>if lt z y=true then z::y::ys else y::X6 lt z ys
def C7 (lt:α->α->Bool):List α->List α
 |[]=>[]
 |z::zs=>X6 lt z (C7 lt zs)
structure OrdL (lt:α->α->Bool) (zs:List α):Prop where
 tot:∀ a∈zs,∀ b∈zs,a≠b->lt a b = !lt b a
 tr:∀ a∈zs,∀ b∈zs,∀ c∈zs,lt a b=true->lt b c=true->lt a c=true
 nd:zs.Nodup
theorem Ht (lt:α->α->Bool) (z:α):∀ ys:List α,(X6 lt z ys).Perm (z::ys)
 |[]=>iQ _
 | y::ys=>by
  unfold X6
  split
  .exact iQ _
  .exact ((Ht lt z ys).cons y).trans (List.Perm.swap z y ys)
theorem Bc (lt:α->α->Bool):∀ zs:List α,(C7 lt zs).Perm zs
 |[]=>iQ _
 |z::zs=>(Ht lt z _).trans ((Bc lt zs).cons z)
theorem OrdL.of {lt:α->α->Bool} {zs ys:List α} (h:OrdL lt zs) (hs:∀ a∈ys,a∈zs) (nd:ys.Nodup):OrdL lt ys:=⟨λa ha b hb=>h.tot a (hs a ha) b (hs b hb),λa ha b hb c hc=>h.tr a (hs a ha) b (hs b hb) c (hs c hc),nd⟩
theorem Nh {lt:α->α->Bool} {z:α}:∀ {ys:List α},OrdL lt (z::ys)->ys.Pairwise (λa b=>lt a b=true)->(X6 lt z ys).Pairwise (λa b=>lt a b=true)
 |[],_,_=>List.pairwise_singleton _ _
 | y::ys,h,hp=>by
  rw[ff] at hp
  have nd:=h.nd
  rw[bZ] at nd
  have ny:=nd.2
  rw[bZ] at ny
  unfold X6
  split
  .rename_i c
   refine List.pairwise_cons.mpr ⟨λb hb=>?_,List.pairwise_cons.mpr hp⟩
   rcases List.mem_cons.mp hb with rfl|hb'
   .exact c
   .exact h.tr z (.head _) y (.tail _ (.head _)) b (.tail _ hb) c (hp.1 b hb')
  .rename_i c
   have c:lt z y=false:=by simpa using c
   have c1:lt y z=true:=by rw[h.tot y (.tail _ (.head _)) z (.head _) (λe=>nd.1 (e▸.head _)),c];rfl
   have hz:OrdL lt (z::ys):=h.of (λa ha=>by rcases List.mem_cons.mp ha with rfl|q;exact .head _;exact .tail _ (.tail _ q)) (List.nodup_cons.mpr ⟨λq=>nd.1 (.tail _ q),ny.2⟩)
   refine List.pairwise_cons.mpr ⟨λb hb=>?_,Nh hz hp.2⟩
   rcases List.mem_cons.mp ((Ht lt z ys).mem_iff.mp hb) with rfl|hb'
   .exact c1
   .exact hp.1 b hb'
theorem Fr {lt:α->α->Bool}:∀ {zs:List α},OrdL lt zs->(C7 lt zs).Pairwise (λa b=>lt a b=true)
 |[],_=>i3
 | z::zs,h=>by
  have nd:=List.nodup_cons.mp h.nd
  have hz:OrdL lt zs:=h.of (λa ha=>.tail _ ha) nd.2
  refine Nh (h.of (λa ha=>?_) ?_) (Fr hz)
  .rcases List.mem_cons.mp ha with rfl|q
   .exact .head _
   .exact .tail _ ((Bc lt zs).mem_iff.mp q)
  .exact List.nodup_cons.mpr ⟨λq=>nd.1 ((Bc lt zs).mem_iff.mp q),((Bc lt zs).nodup_iff).mpr nd.2⟩
theorem Ig {lt:α->α->Bool}:∀ {xs ys:List α},OrdL lt xs->xs.Perm ys->xs.Pairwise (λa b=>lt a b=true)->ys.Pairwise (λa b=>lt a b=true)->xs=ys
 |[],ys,_,h,_,_=>(List.Perm.nil_eq h)
 |x::xs,[],_,h,_,_=>absurd h.symm.nil_eq (by simp)
 | x::xs,y::ys,o,h,hx,hy=>by
  rw[ff] at hx hy
  have e:x=y:=by
   apply fO
   intro ne
   have m1:x∈ys:=by
    have:x∈y::ys:=h.mem_iff.mp (.head _)
    rcases List.mem_cons.mp this with q|q
    .exact absurd q ne
    .exact q
   have m2:y∈xs:=by
    have:y∈x::xs:=h.mem_iff.mpr (.head _)
    rcases List.mem_cons.mp this with q|q
    .exact absurd q.symm ne
    .exact q
   have a:=hx.1 y m2
   have b:=hy.1 x m1
   rw[o.tot x (.head _) y (.tail _ m2) ne,b] at a
   cases a
  subst e
  have nd:=List.nodup_cons.mp o.nd
  rw[Ig (o.of (λa ha=>.tail _ ha) nd.2) ((List.perm_cons x).mp h) hx.2 hy.2]
theorem Y4 {lt:α->α->Bool} {xs ys:List α} (h:xs.Perm ys) (o:OrdL lt xs):C7 lt xs=C7 lt ys:=by
 have o2:OrdL lt ys:=o.of (λa ha=>h.mem_iff.mpr ha) ((h.nodup_iff).mp o.nd)
 exact Ig (o.of (λa ha=>(Bc lt xs).mem_iff.mp ha) (((Bc lt xs).nodup_iff).mpr o.nd)) ((Bc lt xs).trans (h.trans (Bc lt ys).symm)) (Fr o) (Fr o2)
theorem Y3 {lt:α->α->Bool} {zs:List α} (d:α) (o:OrdL lt zs) (hn:1<=zs.length) :
  ∃ p,PySem.W.kRun zs.length (λi j=>lt (zs.getD i d) (zs.getD j d)) (PySem.W.kas_sort zs.length)=some p/\p.toList.length=zs.length/\(∀ i∈p.toList,i<zs.length)/\(p.toList.map λi=>zs.getD i d)=C7 lt zs:=by
 have gm:∀ i,i<zs.length->zs.getD i d∈zs:=λi hi=>by rw[ar,ah hi];exact cM hi
 have gi:∀ i j,i<zs.length->j<zs.length->zs.getD i d=zs.getD j d->i=j:=λi j hi hj e=>by
  rw[ar,ah hi,ar,ah hj] at e
  exact (c9 o.nd).mp e
 obtain⟨p,h1,h2,h3⟩:=PySem.W.sort_run (n:=zs.length) (lt:=λi j=>lt (zs.getD i d) (zs.getD j d)) ⟨λi j hi hj ne=>o.tot _ (gm i hi) _ (gm j hj) (λe=>ne (gi i j hi hj e)),λi j k hi hj hk=>o.tr _ (gm i hi) _ (gm j hj) _ (gm k hk)⟩ hn
 have hp:(p.toList.map λi=>zs.getD i d).Perm zs:=by
  have q:=h2.map (λi=>zs.getD i d)
  have e:((ay zs.length).map λi=>zs.getD i d)=zs:=by
   apply List.ext_getElem?
   intro i
   rw[am]
   by_cases hi:i<zs.length
   .rw[eK hi,ah hi,iy,ar,ah hi];rfl
   .rw[dR (by simp;omega),dR (by omega)];rfl
  rw[e] at q
  exact q
 refine⟨p,h1,by rw[bS,h2.size],λi hi=>List.mem_range.mp (h2.mem_iff.mp hi),?_⟩
 refine Ig (o.of (λa ha=>hp.mem_iff.mp ha) ((hp.nodup_iff).mpr o.nd)) (hp.trans (Bc lt zs).symm) ?_ (Fr o)
 rw[cV]
 intro i j hi hj hij
 rw[ae,bS,h2.size] at hi hj
 have g:∀ k (hk:k<zs.length),∃ hk',(p.toList.map λi=>zs.getD i d)[k]'hk'=zs.getD (PySem.W.pg p k) d:=λk hk=>by
  have e:=PySem.W.pg_get (p:=p) (i:=k) (by rw[h2.size];exact hk)
  rw[<- cD] at e
  obtain⟨a,b⟩:=List.getElem?_eq_some_iff.mp e
  refine⟨by rw[ae];exact a,?_⟩
  rw[cL,b]
 obtain⟨a1,b1⟩:=g i hi
 obtain⟨a2,b2⟩:=g j hj
 rw[b1,b2]
 exact h3 i j hij hj
end
def ltS (a b:Str):Bool:=decide (a.cps.toList<b.cps.toList)
theorem Wn {zs:List Str} (nd:zs.Nodup):OrdL ltS zs where
 nd:=nd
 tot:=λa _ b _ ne=>by
  unfold ltS
  rw[<- decide_not]
  refine decide_eq_decide.mpr ⟨λh q=>List.lt_irrefl _ (List.lt_trans h q),λh=>?_⟩
  apply fO
  intro q
  exact ne (Str.ext' (Array.toList_inj.mp (List.le_antisymm (List.not_lt.mp h) (List.not_lt.mp q))))
 tr:=λa _ b _ c _ h q=>by
  unfold ltS at h q ⊢
  exact decide_eq_true (List.lt_trans (of_decide_eq_true h) (of_decide_eq_true q))
end L2
namespace PySem.W
open PySem PySem.Calls PyProof.Rows
section
variable {prog:aS} {w:bz} {A:bq} {E:Value->aj->Prop} {s:aj} {vs:List Value}
theorem collect_src {T:String} {r d:Addr} {n:Nat} {P:Nat->Value->Prop} {OK:Heap->Prop} {Q:List Value->aj->Prop} (K:KdlSrc prog w T r d n P OK) (hh:A.handled=none) (hok:OK s.heap) (hn:n<=sizeLine)
  (h:∀ h' tk (us:List Value),(∀ b o,s.heap.get? b=some o->h'.get? b=some o)->s.heap.objs.size<h'.objs.size->us.length=n->(∀ j v,us[j]? = some v->P j v)->Q us { s with heap:=h',toks:=tk }) :
  aN (model prog w) A (mN (.ref r)) Q E s:=by
 have hlt:=K.there _ hok
 unfold mN
 refine af (wpAny_runValue (gG entry_proto_collect' ?_))
 show aN _ _ (do again (.builtin "list.__iadd__" ⟨[<- newList [],.ref r],[]⟩)) _ _ s
 refine af (eX (aq ⟨gn _ (by decide +kernel),gG entry_list_iadd' ?_⟩))
 show aN _ _ (Builtin.List.listExtendWith (.ref s.heap.objs.size) (.ref r) (.ref s.heap.objs.size)) _ _ { s with heap:=s.heap.push (bb "list" #[] 0) }
 rw[h_ PySem.F.plain_list_iadd _]
 refine kdl_extend (A:=A) (R:=wants _ _) (s:={ s with heap:=s.heap.push (bb "list" #[] 0) }) K hh (K.keep _ _ hok λb _ o e=>ag _ e) s.heap.objs.size (f8 hlt.1) (f8 hlt.2) _ 0 (az _ rfl) (λh' tk acc' c' hk hS' hacc=>?_) hn
 show aN (model prog w) A (do
   let o <- load s.heap.objs.size
   match o.data with
   |.seq xs _=>pure xs.toList
   |_=>unsupported "internal:collect") Q E { s with heap:=h',toks:=tk }
 refine af (wpAny_load hS' ?_)
 exact aq (h h' tk acc'.toList (λb o e=>hk b o (aQ (aA e)) (ag _ e)) (aA hS') (by rw[bS];exact hacc.1) λj v e=>hacc.2 j v (by rw[<- cD];exact e))
theorem Fy {n:Nat} {a:Addr} {P:lj->aj->Prop} (ho:s.heap.get? a=some (bb "list" vs.toArray n)) (h2:vs.length<2)
  (h:∀ h' c,h'.get? a=some (bb "list" vs.toArray c)->(∀ b o,b≠a->s.heap.get? b=some o->h'.get? b=some o)->P (.done (.ret .none)) { s with heap:=h' }) :
  aN (model prog w) A (aM.«list.sort» ⟨[.ref a],[]⟩) P E s:=by
 have ha:a<s.heap.objs.size:=aA ho
 have s1:=bJ s.heap a (a_ λ_=>(#[]:Array Value))
 obtain⟨e1,ho1⟩:∃ e1,(s.heap.update a (a_ λ_=>(#[]:Array Value))).get? a=some (bb "list" #[] e1):=⟨_,cZ ho λ_=>#[]⟩
 rw[j_]
 refine af (iN ho rfl ?_)
 refine af (dv ho rfl ?_ (by rw[av,bA];omega) (bx _))
 refine af (fY ho1 rfl ?_)
 refine af (g8 ?_ (by show vs.length<=_;rw[bA];omega))
 refine af (eX ?_ (bx _))
 refine bF ?_
 show aN (model prog w) A _ P E { s with heap:=((s.heap.update a (a_ λ_=>(#[]:Array Value))).push (bb "tuple" vs.toArray 0)).push (bb "list" #[] 0) }
 dsimp only
 have hn2:vs.toArray.size<2:=by rw[av];omega
 rw[if_pos hn2,if_pos hn2]
 refine af (aq ?_)
 rw[StateT.run_pure]
 refine af (aq ?_)
 dsimp only
 have ho6:(((s.heap.update a (a_ λ_=>(#[]:Array Value))).push (bb "tuple" vs.toArray 0)).push (bb "list" #[] 0)).get? a=some (bb "list" #[] e1):=ag _ (ag _ ho1)
 have o6:∀ b o,b≠a->s.heap.get? b=some o->(((s.heap.update a (a_ λ_=>(#[]:Array Value))).push (bb "tuple" vs.toArray 0)).push (bb "list" #[] 0)).get? b=some o:=λb o nb e=>ag _ (ag _ ((s1.2 b nb).trans e))
 generalize ((s.heap.update a (a_ λ_=>(#[]:Array Value))).push (bb "tuple" vs.toArray 0)).push (bb "list" #[] 0)=h6 at ho6 o6 ⊢
 have hout:iZ (λx:Keyed=>x.snd) (mI (io mQ (vs.toArray.zip vs.toArray) #[] 7 none))=vs.toArray:=by
  show iZ (λx:Keyed=>x.snd) (vs.toArray.zip vs.toArray)=vs.toArray
  apply Array.ext'
  simp only[Array.toList_map,Array.toList_zip]
  exact List.map_snd_zip (ai _)
 refine af (fY (s:={ s with heap:=h6 }) ho6 rfl ?_)
 refine af (dv (s:={ s with heap:=h6 }) ho6 rfl ?_ (bx _) (by rw[hout,av,bA];omega))
 have s2:=bJ h6 a (a_ λ_=>iZ (λx:Keyed=>x.snd) (mI (io mQ (vs.toArray.zip vs.toArray) #[] 7 none)))
 obtain⟨c2,hc2⟩:∃ c2,(h6.update a (a_ λ_=>iZ (λx:Keyed=>x.snd) (mI (io mQ (vs.toArray.zip vs.toArray) #[] 7 none)))).get? a=some (bb "list" (iZ (λx:Keyed=>x.snd) (mI (io mQ (vs.toArray.zip vs.toArray) #[] 7 none))) c2):=⟨_,cZ ho6 λ_=>_⟩
 rw[hout] at hc2 s2 ⊢
 simp only[bne_self_eq_false,bH,if_false]
 exact aq (h _ c2 hc2 λb o nb e=>(s2.2 b nb).trans (o6 b o nb e))
theorem so_sortedG {x:Value} {OKQ:List Value->aj->Prop} {Q:Value->aj->Prop} (hc:∀ R:List Value->aj->Prop,(∀ us s',OKQ us s'->R us s')->aN (model prog w) A.in1 (mN x) R (λ_ _=>False) s)
  (h:∀ us s',OKQ us s'->us.length<64/\((us.length<2 -> ∀ h2 c,h2.get? s'.heap.objs.size=some (bb "list" us.toArray c)->(∀ b o,s'.heap.get? b=some o->h2.get? b=some o)->Q (.ref s'.heap.objs.size) { s' with heap:=h2 })/\(2<=us.length -> ∀ D e1 h2,s'.heap.objs.size<=D->h2.get? D=some (bb "list" #[] e1)->(∀ b o,s'.heap.get? b=some o->h2.get? b=some o) ->
   aN (model prog w) A.in1.in1 (mS us.toArray) (λκ s''=>(kas_sort us.length).kasWp (kas_ask prog w A.in1.in1 κ us) (λp s3=>SoFin D e1 (p.toList.map λi=>us.getD i bC) (λs4=>Q (.ref D) s4) s3) s'') (λ_ _=>False) { s' with heap:=h2 }))) :
  aN (model prog w) A (call (.builtin "sorted") [x]) Q E s:=by
 refine iP mD l6 l3 (args_sorted1 _) ?_
 unfold aM.«sorted»
 refine af (m:=checkCount "sorted" 1 1 _) (aq ?_)
 refine af (bN (hc _ λus s' ok=>?_) (λ_ _ z=>z) λ_ _ z=>z.elim)
 obtain⟨h64,hs,hb⟩:=h us s' ok
 refine af (eX ?_ (by rw[bA];omega))
 have hoL:(s'.heap.push (bb "list" us.toArray 0)).get? s'.heap.objs.size=some (bb "list" us.toArray 0):=az _ rfl
 show aN _ _ _ _ _ { s' with heap:=s'.heap.push (bb "list" us.toArray 0) }
 refine af (bF (cR kM ⟨_,hoL,rfl⟩ j8 ?body (args_list_sort _)))
 case body=>
  by_cases h2:2<=us.length
  .refine Ps (s:={ s' with heap:=s'.heap.push (bb "list" us.toArray 0) }) hoL h2 h64 λe1 h2' g k=>?_
   refine bN (hb h2 _ e1 h2' (ai _) g λb o q=>k b o (aQ (aA q)) (ag _ q)) (λκ s' hk=>?_) λ_ _ x=>x
   rw[kat_ask_eq rfl] at hk ⊢
   exact kas_wp_mono hk λp s'' hk'=>hk'.mono λs3 hq=>⟨_,rfl,aq ⟨_,rfl,hq⟩⟩
  .have h2:us.length<2:=by omega
   refine Fy (s:={ s' with heap:=s'.heap.push (bb "list" us.toArray 0) }) hoL h2 λh3 c g k=>?_
   exact⟨_,rfl,aq ⟨_,rfl,hs h2 h3 c g λb o q=>k b o (aQ (aA q)) (ag _ q)⟩⟩
end
end PySem.W
namespace L2
open PySem PySem.Spec PyProof.Rows
theorem Xl:∀ {xs:List V} {us:List Value},xs.length=us.length->(∀ (i:Nat) x u,xs[i]? = some x->us[i]? = some u->RelV x u)->Vals xs us
 |[],[],_,_=>.nil
 |[],_::_,h,_=>by simp at h
 |_::_,[],h,_=>by simp at h
 |x::xs,u::us,h,g=>.cons (g 0 x u rfl rfl) (Xl (by simpa using h) λi a b ha hb=>g (i+1) a b ha hb)
theorem Nn {P:aS} {w:bz} {kvs:List (Key×V)} {vs:List (Key×Value)} {us:List Value} (rel:KV kvs vs) (hl:us.length=vs.length) (h:∀ (j:Nat) v,us[j]? = some v -> ∃ k x,vs[j]? = some (k,x)/\(Bh P w).is k v=true):Vals (kvs.map λkv=>kV kv.1) us:=by
 refine Xl (by rw[ae,rel.length,hl]) λi x u hx hu=>?_
 obtain⟨k,y,hk,his⟩:=h i u hu
 have e:(kvs.map (·.1))[i]? = some k:=by rw[rel.keys,am,hk];rfl
 rw[am] at hx e
 obtain⟨kv,hkv,rfl⟩:=Option.map_eq_some_iff.mp hx
 rw[hkv] at e
 cases e
 exact Ov his
section
variable {X:Cx}
noncomputable def ak9 (K:ac):List V->Hp->VK->Prop:=λxs H Q=>∃ p zs,xs=[.ref p]/\(SqL K H p (zs.map V.str) \/ ∃ kvs,Rd H p (.dK kvs)/\kvs.map (·.1)=zs.map hZ)/\zs.Nodup/\zs.length<64 /\ ∀ D,H D=none->Q (.ref D) (upd H D (.lst ((C7 ltS zs).map V.str)))
theorem Xg {zs:List Str} (h:zs.length<2):C7 ltS zs=zs:=by
 match zs,h with
 |[],_=>rfl
 |[z],_=>rfl
theorem Vo {zs:List Str} {us:List Value} (r:Vals (zs.map V.str) us) {i:Nat} (h:i<zs.length):∃ t,us.getD i bC=.str (zs.getD i eh) t:=by
 have hl:us.length=zs.length:=by have:=r.length;simpa using this.symm
 obtain⟨x,hx,rx⟩:=Sn r (i:=i) (by omega)
 rw[am,ah h] at hx
 cases hx
 obtain⟨t,e⟩:=rx
 refine⟨t,?_⟩
 rw[ar (l:=zs),ah h]
 exact e
theorem al5 {pins:List (Addr×Obj)} {s:aj} {U:St} {H:Hp} {Q:VK} {u:Value} {zs:List Str} (I:Inv X pins U H s) (nd:zs.Nodup) (h64:zs.length<64)
  (hc:∀ R:List Value->aj->Prop,(∀ (us:List Value) (ys:List Str) (h':Heap) (tk:Nat) (d:Drawn),ys.Perm zs->(∀ b o,s.heap.get? b=some o->h'.get? b=some o)->s.heap.objs.size<=h'.objs.size->s.toks<=tk->Vals (ys.map V.str) us->R us { s with heap:=h',toks:=tk,drawn:=d })->aN (model X.prog X.w) X.A.in1 (mN u) R (λ_ _=>False) s)
  (q:∀ D,H D=none->Q (.ref D) (upd H D (.lst ((C7 ltS zs).map V.str)))):aN (model X.prog X.w) X.A (call (.builtin "sorted") [u]) (EP X pins U Q) X.xe s:=by
 refine PySem.W.so_sortedG (OKQ:=λus s'=>∃ (ys:List Str) (h':Heap) (tk:Nat) (d:Drawn),s'={ s with heap:=h',toks:=tk,drawn:=d }/\ys.Perm zs/\(∀ b o,s.heap.get? b=some o->h'.get? b=some o)/\s.heap.objs.size<=h'.objs.size/\s.toks<=tk/\Vals (ys.map V.str) us) (λR hR=>hc R λus ys h' tk d p k z e r=>hR us _ ⟨ys,h',tk,d,rfl,p,k,z,e,r⟩) λus s' ⟨ys,h',tk,d,e,perm,keep,hD,htk,rv⟩=>?_
 subst e
 have I1:Inv X pins U H { s with drawn:=d }:={ I with }
 have nd2:ys.Nodup:=perm.nodup_iff.mpr nd
 have same:C7 ltS ys=C7 ltS zs:=Y4 perm (Wn nd2)
 have hyz:=perm.length_eq
 rw[<- same] at q
 have hl:us.length=ys.length:=by have:=rv.length;simpa using this.symm
 refine⟨by omega,λh2 h2' c g k=>?_,λh2 D e1 h2' hD2 gD k=>?_⟩
 .refine⟨.ref h'.objs.size,_,I1.laid (t':=tk) (λb o e=>k b o (keep b o e)) hD (o:=.lst ((C7 ltS ys).map V.str)) ⟨?_,us,c,?_,g⟩,rfl,q _ (I.hok.fresh hD)⟩
  .rw[Xg (by omega),ae,bA];omega
  .rw[Xg (by omega)];exact rv
 .refine PySem.W.kas_kind (T:=.type "str") h2 (λv hv=>?_) rfl rfl ?_
  .obtain⟨i,hi,rfl⟩:=List.getElem_of_mem hv
   obtain⟨t,e⟩:=Vo rv (i:=i) (by omega)
   rw[ar,ah hi] at e
   rw[show us[i]=_ from e]
   exact .now
  .obtain⟨pp,h1,h3,h4,h5⟩:=Y3 (lt:=ltS) (zs:=ys) eh (Wn nd2) (by omega)
   refine PySem.W.kRun_wp (n:=us.length) (lt:=λi j=>ltS (ys.getD i eh) (ys.getD j eh)) (a:=pp) (λi j C hi hj hC=>?_) (by rw[hl];exact h1) ⟨gD,λh3' c g2 sb=>?_⟩
   .unfold PySem.W.kas_ask
    obtain⟨t1,e1⟩:=Vo rv (i:=i) (by omega)
    obtain⟨t2,e2⟩:=Vo rv (i:=j) (by omega)
    rw[e1,e2]
    exact PySem.W.kas_lt_str hC
   .refine⟨.ref D,_,I1.laid (t':=tk) (λb o e=>(sb.2 b (aQ (aJ (aA e) (aY hD hD2)))).trans (k b o (keep b o e))) (aY hD hD2) (o:=.lst ((C7 ltS ys).map V.str)) ⟨?_,_,c,?_,g2⟩,rfl,q D (I.hok.fresh (aY hD hD2))⟩
    .rw[ae,(Bc ltS ys).length_eq,bA];omega
    .have v:=N1 rv pp.toList (λi hi=>by rw[hl];exact h4 i hi)
     have e:(pp.toList.map λi=>(ys.map V.str).getD i .non)=(C7 ltS ys).map V.str:=by
      rw[<- h5,aF]
      refine bU λi hi=>?_
      have:=h4 i hi
      rw[ar,am,ah this]
      show V.str ys[i]=V.str (ys.getD i eh)
      rw[ar,ah this]
      rfl
     rwa[e] at v
theorem Tf (hc:X.calm=true):B6 X (.builtin "sorted") (ak9 X.K):=by
 intro pins s U H xs us Q I r h
 obtain⟨p,zs,rfl,hp,nd,h64,q⟩:=h
 obtain⟨u,rfl,ru⟩:=Dl r
 cases ru
 refine al5 I nd h64 (λR hR=>?_) q
 rcases hp with hp|⟨kvs,hp,ek⟩
 .obtain⟨its,ri,pl,hz⟩:=I.list hp
  refine collect_list pl.isList (hR _ _ _ s.toks s.drawn (.refl _) (λb o e=>?_) ?_ (ai _) ri) (by have:=ri.length;rw[ae] at this;rw[bA];omega)
  .have hlt:b<s.heap.objs.size:=aA e
   rw[kN _ _ _ _ (aQ hlt)]
   exact ag _ e
  .rw[jz,lO]
   exact df _
 .obtain⟨z,lo,vs,rel,dof⟩:=Dd I.hok hp
  obtain⟨ep,dat⟩:=dof.dictAt
  refine bG (ai _) (PySem.W.collect_src (PySem.W.kdl_dict lo) (by simp[I.ok.hd hc]) dat (by rw[<- rel.length];exact z) λh' tk us hk hs hl hi htk=>?_)
  refine hR us zs h' tk s.drawn (.refl _) hk (dy hs) htk ?_
  have v:=Nn rel hl hi
  have e:(kvs.map λkv=>kV kv.1)=zs.map V.str:=by
   have:=congrArg (l9 kV) ek
   rw[aF,aF] at this
   exact this
  rwa[e] at v
end
end L2
namespace PySem.W
open PySem PySem.Calls PyProof.Rows
section
variable {prog:aS} {w:bz} {A:bq} {E:Value->aj->Prop} {s:aj} {vs:List Value} {κ:SortKind} {it:Array Keyed}
theorem Nq:∀ (f n r:Nat),r<=1->minRun' f n r<=n+r
 |0,n,r,_=>ai (n+r)
 | f+1,n,r,h=>by
  rw[minRun'_succ]
  split
  .exact ai _
  .refine aY (Nq f (n / 2) (max r (n % 2)) (by omega)) (by omega)
theorem aa8 {n:Nat} {Q:Unit->lX->aj->Prop} {s:aj} (h2:2<=n)
  (hQ:∀ st',mI st'=(bo (ay n)).map (jy it)->lB st'=none->Q () st' s)
  (h:(lC n (bo (ay n))).kasWp (kas_cmp prog w A κ it) (λr s'=>s'=s/\r=(n,bo (ay n))) s) :
  kasC (model prog w) A E sortRuns' Q (mZ κ it (bo (ay n))) s:=by
 obtain⟨r,rfl⟩:∃ r,n=r+2:=⟨n - 2,by omega⟩
 have hrs:(bo (ay (r+2))).size=r+2:=by simp
 rw[sortRuns'_eq]
 refine jg (kasC_get ?_)
 dsimp only
 have hsz:(mI (mZ κ it (bo (ay (r+2))))).size=r+2:=by
  show ((bo (ay (r+2))).map (jy it)).size=_
  rw[Array.size_map,hrs]
 simp only[hsz]
 have hmr:=Nq (r+2) (r+2) 0 (by omega)
 generalize minRun' (r+2) (r+2) 0=mr at hmr ⊢
 refine jg (kasC_range ?_)
 show kasC _ _ _ (forIn (0::1::mk 2 r) _ _) _ _ _
 refine kasC_cons ?_
 dsimp only
 rw[if_neg (by omega)]
 simp only[Nat.sub_zero,cO]
 refine jg (kas_count_ (by omega) (by rw[hrs];exact ai _) (λm p' s' hm1 hm2 hp hg=>?_) h)
 obtain⟨rfl,hg⟩:=hg
 cases hg
 dsimp only
 rw[if_neg (show ¬ r+2<mr by omega)]
 refine jg (kasC_get ?_)
 rw[show (pendingOf (mZ κ it (bo (ay (r+2))))).back? = none from rfl]
 dsimp only
 refine jg (kasC_modify (mz ?_))
 show kasC _ _ _ (forIn (1::mk 2 r) _ _) _ _ _
 refine kasC_cons ?_
 dsimp only
 rw[if_pos (ai _)]
 refine mz ?_
 dsimp only
 refine jg (kasC_range ?_)
 show kasC _ _ _ (forIn (0::1::mk 2 r) _ _) _ _ _
 refine kasC_cons ?_
 refine jg (kasC_get ?_)
 rw[if_pos (show (pendingOf (setPending (mZ κ it (bo (ay (r+2)))) ((pendingOf (mZ κ it (bo (ay (r+2))))).push (0,r+2,0)))).size<=1 from ai 1)]
 refine mz ?_
 dsimp only
 exact mz (hQ _ rfl rfl)
theorem aa7 {cmp:Nat->Nat->(Bool->aj->Prop)->aj->Prop} {n:Nat} {s:aj} {Q:Nat->aj->Prop} (h:∀ j C,0<j->j<n->C false s->cmp j (j - 1) C s):∀ f k:Nat,1<=k->k+f=n->Q n s->(mC (bo (ay n)) f k).kasWp cmp Q s
 | 0,k,_,e,q=>by
  have e:k=n:=e
  subst e
  exact q
 | f+1,k,hk,e,q=>by
  have g:∀ {j:Nat},j<n->(bo (ay n)).getD j 0=j:=λ{j} hj=>by simp[Array.getD,hj]
  show cmp ((bo (ay n)).getD k 0) ((bo (ay n)).getD (k - 1) 0) _ s
  rw[g (by omega),g (by omega)]
  refine h k _ hk (by omega) ?_
  simp only[bH,if_false]
  exact aa7 h f (k+1) (by omega) (by omega) q
theorem Mz {cmp:Nat->Nat->(Bool->aj->Prop)->aj->Prop} {n:Nat} {s:aj} {Q:Nat×Array Nat->aj->Prop} (h1:1<=n) (h:∀ j C,0<j->j<n->C false s->cmp j (j - 1) C s) (q:Q (n,bo (ay n)) s):(lC n (bo (ay n))).kasWp cmp Q s:=by
 unfold lC
 rw[KasT.kasWp_bind]
 refine aa7 h (n - 1) 1 (ai _) (by omega) ?_
 simp only[beq_self_eq_true,if_true]
 exact q
theorem asc_sort {cmp:Nat->Nat->(Bool->aj->Prop)->aj->Prop} {n:Nat} {s:aj} {Q:Array Nat->aj->Prop} (h1:1<=n) (h:∀ j C,0<j->j<n->C false s->cmp j (j - 1) C s) (q:Q (bo (ay n)) s):(kas_sort n).kasWp cmp Q s:=by
 unfold kas_sort
 rw[KasT.kasWp_bind]
 refine Mz h1 h ?_
 rw[if_neg (fG n)]
 exact q
theorem range_pick {us:List Value}:((bo (ay us.length)).toList.map λi=>us.getD i bC)=us:=by
 apply List.ext_getElem
 .simp
 .intro i h1 h2
  simp[h2]
theorem asc_list_sort {n:Nat} {a:Addr} {ns:List Int} {P:lj->aj->Prop} (ho:s.heap.get? a=some (bb "list" vs.toArray n)) (hi:jq vs ns) (asc:ns.Pairwise (· < ·)) (hl:vs.length<=1000)
  (h:∀ h' c,h'.get? a=some (bb "list" vs.toArray c)->(∀ b o,b≠a->s.heap.get? b=some o->h'.get? b=some o)->P (.done (.ret .none)) { s with heap:=h' }) :
  aN (model prog w) A (aM.«list.sort» ⟨[.ref a],[]⟩) P E s:=by
 by_cases h2:vs.length<2
 .exact Fy ho h2 h
 have h2:2<=vs.length:=by omega
 have ha:a<s.heap.objs.size:=aA ho
 have s1:=bJ s.heap a (a_ λ_=>(#[]:Array Value))
 obtain⟨e1,ho1⟩:∃ e1,(s.heap.update a (a_ λ_=>(#[]:Array Value))).get? a=some (bb "list" #[] e1):=⟨_,cZ ho λ_=>#[]⟩
 have na:(((s.heap.update a (a_ λ_=>(#[]:Array Value))).push (bb "tuple" vs.toArray 0)).push (bb "list" #[] 0)).get? a=some (bb "list" #[] e1):=ag _ (ag _ ho1)
 have old:∀ b o,b≠a->s.heap.get? b=some o->(((s.heap.update a (a_ λ_=>(#[]:Array Value))).push (bb "tuple" vs.toArray 0)).push (bb "list" #[] 0)).get? b=some o:=λb o nb e=>ag _ (ag _ ((s1.2 b nb).trans e))
 rw[j_]
 refine af (iN ho rfl ?_)
 refine af (dv ho rfl ?_ (by rw[av,bA];omega) (bx _))
 refine af (fY ho1 rfl ?_)
 refine af (g8 ?_ (by show vs.length<=_;rw[bA];omega))
 refine af (eX ?_ (bx _))
 refine bF ?_
 show aN (model prog w) A _ P E { s with heap:=((s.heap.update a (a_ λ_=>(#[]:Array Value))).push (bb "tuple" vs.toArray 0)).push (bb "list" #[] 0) }
 generalize ((s.heap.update a (a_ λ_=>(#[]:Array Value))).push (bb "tuple" vs.toArray 0)).push (bb "list" #[] 0)=h6 at na old ⊢
 dsimp only
 have hn2:¬ vs.toArray.size<2:=by rw[av];omega
 rw[if_neg hn2,if_neg hn2,ksk_kind (kz:=ns) hi (by rw[av];exact h2)]
 refine af (aq ?_)
 have est:io l_ (vs.toArray.zip vs.toArray) #[] 7 none=mZ l_ (vs.toArray.zip vs.toArray) (bo (ay vs.length)):=by
  have e:=kas_range (vs.toArray.zip vs.toArray)
  rw[show (vs.toArray.zip vs.toArray).size=vs.length by simp] at e
  show io l_ (vs.toArray.zip vs.toArray) #[] 7 none=io l_ ((bo (ay vs.length)).map (jy (vs.toArray.zip vs.toArray))) #[] 7 none
  rw[e]
 have at_:∀ {j:Nat},j<vs.length -> ∃ t,(jy (vs.toArray.zip vs.toArray) j).1=.int (ns.getD j 0) t:=λ{j} hj=>by
  rw[kat_item rfl]
  have:∀ {vs:List Value} {ns:List Int} {j:Nat},jq vs ns->j<vs.length -> ∃ t,vs.getD j bC=.int (ns.getD j 0) t:=by
   intro vs ns j h
   induction h generalizing j with
   |nil=>intro h;cases h
   |cons n t _ ih=>
    intro h
    cases j with
    |zero=>exact⟨t,rfl⟩
    |succ j=>exact ih (jP h)
  exact this hi hj
 refine af (bN (Q:=λr s'=>s'={ s with heap:=h6 }/\mI r.2=(bo (ay vs.length)).map (jy (vs.toArray.zip vs.toArray))/\lB r.2=none) ?_ ?_ λ_ _ e=>e)
 .rw[est]
  refine aa8 (prog:=prog) (w:=w) (A:=A) (E:=E) (κ:=l_) (it:=vs.toArray.zip vs.toArray) (s:={ s with heap:=h6 }) (Q:=λ_ st' s'=>s'={ s with heap:=h6 }/\mI st'=(bo (ay vs.length)).map (jy (vs.toArray.zip vs.toArray))/\lB st'=none) h2 (λst' a1 a2=>⟨rfl,a1,a2⟩) (Mz (by omega) (λj C h0 hj hC=>?_) ⟨rfl,rfl⟩)
  obtain⟨t,e⟩:=at_ hj
  obtain⟨u,e'⟩:=at_ (j:=j - 1) (by omega)
  unfold kas_cmp
  rw[e,e']
  refine kat_lt_int ?_
  have hlen:ns.length=vs.length:=hi.length.symm
  have:ns.getD (j - 1) 0<ns.getD j 0:=by
   rw[ar,ah (by omega),ar,ah (by omega)]
   exact List.pairwise_iff_getElem.mp asc (j - 1) j (by omega) (by omega) (by omega)
  rw[decide_eq_false (by omega)]
  exact hC
 .rintro⟨⟨⟩,st'⟩ s' ⟨rfl,har,hf⟩
  dsimp only at har hf ⊢
  have hout:=kat_snds (ks:=vs) (vs:=vs) rfl har
  rw[range_pick] at hout
  rw[hout]
  have s2:=bJ h6 a (a_ λ_=>vs.toArray)
  obtain⟨c2,hc2⟩:∃ c2,(h6.update a (a_ λ_=>vs.toArray)).get? a=some (bb "list" vs.toArray c2):=⟨_,cZ na λ_=>vs.toArray⟩
  refine af (fY (s:={ s with heap:=h6 }) na rfl ?_)
  refine af (dv (s:={ s with heap:=h6 }) na rfl ?_ (bx _) (by rw[av,bA];omega))
  rw[hf]
  simp only[bne_self_eq_false,bH,if_false]
  exact aq (h _ c2 hc2 λb o nb e=>(s2.2 b nb).trans (old b o nb e))
end
end PySem.W
namespace L2
open PySem PySem.Spec PyProof.Rows
section
variable {X:Cx}
noncomputable def ak8:List V->Hp->VK->Prop:=λxs H Q=>∃ (p:Addr) (ns:List Int) (kvs:List (Key×V)),xs=[.ref p]/\Rd H p (.dK kvs)/\kvs.map (·.1)=ns.map jv/\ns.Pairwise (· < ·)/\ns.length<=1000 /\ ∀ D,H D=none->Q (.ref D) (upd H D (.lst (ns.map V.int)))
theorem Te (hc:X.calm=true):B6 X (.builtin "sorted") ak8:=by
 intro pins s U H xs us Q I r h
 obtain⟨p,ns,kvs,rfl,hp,ek,asc,hl,q⟩:=h
 obtain⟨u,rfl,ru⟩:=Dl r
 cases ru
 obtain⟨z,lo,vs,rel,dof⟩:=Dd I.hok hp
 obtain⟨ep,dat⟩:=dof.dictAt
 have lk:kvs.length=ns.length:=by have:=congrArg cJ ek;simpa using this
 refine iP mD l6 l3 (args_sorted1 _) ?_
 unfold aM.«sorted»
 refine af (m:=checkCount "sorted" 1 1 _) (aq ?_)
 refine af (bG (ai _) (PySem.W.collect_src (PySem.W.kdl_dict lo) (by simp[I.ok.hd hc]) dat (by rw[<- rel.length];exact z) λh' tk us hk hs hl' hi htk=>?_))
 have v:=Nn rel hl' hi
 have e:(kvs.map λkv=>kV kv.1)=ns.map V.int:=by
  have:=congrArg (l9 kV) ek
  rw[aF,aF] at this
  exact this
 rw[e] at v
 have hu:us.length<=1000:=by have:=v.length;rw[ae] at this;omega
 refine af (eX ?_ (by rw[bA];omega))
 have hoL:(h'.push (bb "list" us.toArray 0)).get? h'.objs.size=some (bb "list" us.toArray 0):=az _ rfl
 show aN _ _ _ _ _ { s with heap:=h'.push (bb "list" us.toArray 0),toks:=tk }
 refine af (bF (cR kM ⟨_,hoL,rfl⟩ j8 ?body (args_list_sort _)))
 case body=>
  refine PySem.W.asc_list_sort (s:={ s with heap:=h'.push (bb "list" us.toArray 0),toks:=tk }) hoL (Kq v) asc hu λh3 c g k=>?_
  refine⟨_,rfl,aq ⟨_,rfl,.ref h'.objs.size,_,I.laid (t':=tk) (λb o e=>k b o (aQ (aA (hk b o e))) (ag _ (hk b o e))) (dy hs) (o:=.lst (ns.map V.int)) ⟨?_,us,c,v,g⟩,rfl,q _ (I.hok.fresh (dy hs))⟩⟩
  rw[ae,bA];omega
noncomputable def ay2 (K:ac):List V->Hp->VK->Prop:=λxs H Q=>∃ (p:Addr) (ns:List Int),xs=[.ref p]/\SqL K H p (ns.map V.int)/\Q (.int ns.sum) H
theorem ab7 (hc:X.calm=true):B6 X (.builtin "sum") (ay2 X.K):=by
 intro pins s U H xs us Q I r h
 obtain⟨p,ns,rfl,hp,q⟩:=h
 obtain⟨u,rfl,ru⟩:=Dl r
 cases ru
 obtain⟨its,ri,pl,hz⟩:=I.list hp
 have ia:=Kq ri
 obtain⟨xs,e⟩:=ia.allInts.items
 have hl:=pl.isList
 rw[e] at hl
 refine bG (ai _) (sum_intListG (I.ok.hd hc) hl λh' tk t' hk htk=>?_)
 refine⟨.int ns.sum,H,I.kept (t':=tk) hk htk,⟨t',?_⟩,q⟩
 rw[preSum_eq,gJ (by simp),<- nums_intItems,<- e,show its.toArray.toList=its from rfl,ia.numsOf]
end
end L2
namespace PySem.W
open PySem PySem.Calls PyProof.Rows
section
variable {prog:aS} {w:bz} {A:bq} {E:Value->aj->Prop} {s:aj} {vs:List Value}
noncomputable def SkFin (a b:Addr) (e e1:Nat) (ks out:List Value) (C:aj->Prop) (s:aj):Prop:=
 s.heap.get? a=some (bb "list" #[] e1)/\s.heap.get? b=some (bb "list" ks.toArray e) /\ ∀ h' c,h'.get? a=some (bb "list" (bo out) c)->(∀ d,d≠a->d≠b->h'.get? d=s.heap.get? d)->C { s with heap:=h' }
theorem Xd {a kS:Addr} {ks:List Value} {st:lX} {e e1:Nat} {out:List Value} {P:lj->aj->Prop} (hne:a≠kS) (har:iZ (λx:Keyed=>x.snd) (mI st)=out.toArray) (h64:out.length<64) (k64:ks.length<64) (hf:lB st=none)
  (h:SkFin a kS e e1 ks out (λs'=>P (.done (.ret .none)) s') s):aN (model prog w) A (ksk_tail a false e1 (.ref kS) st) P E s:=by
 obtain⟨ha,hk,q⟩:=h
 unfold ksk_tail
 rw[har,hf]
 have s1:=bJ s.heap kS (a_ λ_=>(#[]:Array Value))
 have ha1:(s.heap.update kS (a_ λ_=>(#[]:Array Value))).get? a=some (bb "list" #[] e1):=(s1.2 a hne).trans ha
 refine af (dv hk rfl ?_ (by rw[av,bA];omega) (bx _))
 refine af (wpAny_letGo ?_)
 refine af (fY (s:={ s with heap:=s.heap.update kS (a_ λ_=>(#[]:Array Value)) }) ha1 rfl ?_)
 refine af (dv (s:={ s with heap:=s.heap.update kS (a_ λ_=>(#[]:Array Value)) }) ha1 rfl ?_ (bx _) (by simp only[bH,if_false];rw[av,bA];omega))
 simp only[bne_self_eq_false,bH,if_false]
 have s2:=bJ (s.heap.update kS (a_ λ_=>(#[]:Array Value))) a (a_ λ_=>out.toArray)
 obtain⟨c2,hc2⟩:∃ c2,((s.heap.update kS (a_ λ_=>(#[]:Array Value))).update a (a_ λ_=>out.toArray)).get? a=some (bb "list" out.toArray c2):=⟨_,cZ ha1 λ_=>_⟩
 exact aq (q _ c2 hc2 λd d1 d2=>(s2.2 d d1).trans (s1.2 d d2))
theorem az1 {n:Nat} {a:Addr} {f:Value} {P:lj->aj->Prop} (ho:s.heap.get? a=some (bb "list" vs.toArray n)) (h64:vs.length<64)
  (h:∀ e1 kS h',s.heap.objs.size<=kS->h'.get? a=some (bb "list" #[] e1)->h'.get? kS=some (bb "list" #[] 0)->(∀ b o,b≠a->s.heap.get? b=some o->h'.get? b=some o) ->
   ∃ G:List Value->aj->Prop,(∀ e,h'.get? kS=some (bb "list" #[] e)->G [] { s with heap:=h' }) /\
    (∀ (j:Nat) x ks e s',vs[j]? = some x->ks.length=j->s'.heap.get? kS=some (bb "list" ks.toArray e)->G ks s'->aN (model prog w) A (call f [x]) (λk s''=>s''.heap.get? kS=some (bb "list" ks.toArray e) /\ ∀ h2 c,h2.get? kS=some (bb "list" (ks++[k]).toArray c)->bn kS s''.heap h2->G (ks++[k]) { s'' with heap:=h2 }) (λ_ _=>False) s') /\
    (∀ ks e s',ks.length=vs.length->s'.heap.get? kS=some (bb "list" ks.toArray e)->G ks s'->(vs.length<2->SkFin a kS e e1 ks vs (λs3=>P (.done (.ret .none)) s3) s')/\(2<=vs.length ->
     aN (model prog w) A (mS ks.toArray) (λκ s''=>(kas_sort vs.length).kasWp (kas_ask prog w A κ ks) (λp s3=>SkFin a kS e e1 ks (p.toList.map λi=>vs.getD i bC) (λs4=>P (.done (.ret .none)) s4) s3) s'') (λ_ _=>False) s'))) :
  aN (model prog w) A (ksk_tree a f false) P E s:=by
 have ha:a<s.heap.objs.size:=aA ho
 have s1:=bJ s.heap a (a_ λ_=>(#[]:Array Value))
 obtain⟨e1,ho1⟩:∃ e1,(s.heap.update a (a_ λ_=>(#[]:Array Value))).get? a=some (bb "list" #[] e1):=⟨_,cZ ho λ_=>#[]⟩
 have hsz:((s.heap.update a (a_ λ_=>(#[]:Array Value))).push (bb "tuple" vs.toArray 0)).objs.size=s.heap.objs.size+1:=by rw[lO,jz]
 unfold ksk_tree
 refine af (iN ho rfl ?_)
 refine af (dv ho rfl ?_ (by rw[av,bA];omega) (bx _))
 refine af (fY ho1 rfl ?_)
 refine af (g8 ?_ (by show vs.length<=_;rw[bA];omega))
 refine af (eX ?_ (bx _))
 refine bF ?_
 show aN (model prog w) A (ksk_rest a f false vs.toArray e1 (.ref ((s.heap.update a (a_ λ_=>(#[]:Array Value))).push (bb "tuple" vs.toArray 0)).objs.size)) P E { s with heap:=((s.heap.update a (a_ λ_=>(#[]:Array Value))).push (bb "tuple" vs.toArray 0)).push (bb "list" #[] 0) }
 have hk0:(((s.heap.update a (a_ λ_=>(#[]:Array Value))).push (bb "tuple" vs.toArray 0)).push (bb "list" #[] 0)).get? (((s.heap.update a (a_ λ_=>(#[]:Array Value))).push (bb "tuple" vs.toArray 0)).objs.size)=some (bb "list" #[] 0):=az _ rfl
 have ha0:(((s.heap.update a (a_ λ_=>(#[]:Array Value))).push (bb "tuple" vs.toArray 0)).push (bb "list" #[] 0)).get? a=some (bb "list" #[] e1):=ag _ (ag _ ho1)
 obtain⟨G,g0,gs,gf⟩:=h e1 _ _ (by rw[hsz];exact df _) ha0 hk0 (λb o nb e=>ag _ (ag _ ((s1.2 b nb).trans e)))
 have hne:a≠((s.heap.update a (a_ λ_=>(#[]:Array Value))).push (bb "tuple" vs.toArray 0)).objs.size:=by rw[hsz];exact aQ (d_ ha)
 have gz:=g0 0 hk0
 generalize ((s.heap.update a (a_ λ_=>(#[]:Array Value))).push (bb "tuple" vs.toArray 0)).objs.size=kS at *
 generalize ((s.heap.update a (a_ λ_=>(#[]:Array Value))).push (bb "tuple" vs.toArray 0)).push (bb "list" #[] 0)=h' at *
 unfold ksk_rest
 refine af (wpAny_rule ?_)
 rw[<- iL]
 refine af (ksk_fold (λj s'=>∃ ks e,ks.length=j/\s'.heap.get? kS=some (bb "list" ks.toArray e)/\G ks s') vs 0 _ ⟨[],0,rfl,hk0,gz⟩ (λj x s' hx ⟨ks,e,hl,hk,hg⟩=>?_) λs' ⟨ks,e,hl,hk,hg⟩=>?_)
 .rw[cO] at hl
  have hj:j<vs.length:=(List.getElem?_eq_some_iff.mp hx).1
  refine af (eW (bN (gs j x ks e s' hx hl hk hg) (λk s'' hq=>?_) λ_ _ z=>z.elim))
  obtain⟨hk2,hq⟩:=hq
  dsimp only
  refine af (dv hk2 rfl ?_ (by rw[av,bA];omega) (by rw[Array.size_push,av,bA];omega))
  have e3:(ks.toArray.push k)=(ks++[k]).toArray:=by simp
  obtain⟨c,hc⟩:∃ c,(s''.heap.update kS (a_ λx=>x.push k)).get? kS=some (bb "list" (ks++[k]).toArray c):=⟨_,by rw[<- e3];exact cZ hk2 λx=>x.push k⟩
  exact aq ⟨rfl,ks++[k],c,by rw[aW,hl,cO];rfl,hc,hq _ c hc (bJ _ _ _)⟩
 .rw[cO] at hl
  obtain⟨q1,q2⟩:=gf ks e s' hl hk hg
  refine af (iN hk rfl ?_)
  unfold ksk_end
  simp only[bH,if_false]
  by_cases h2:vs.toArray.size<2
  .rw[if_pos h2,if_pos h2]
   refine af (aq ?_)
   rw[StateT.run_pure]
   refine af (aq ?_)
   dsimp only
   refine Xd hne ?_ h64 (by omega) rfl (q1 (by simpa using h2))
   show iZ (λx:Keyed=>x.snd) (ks.toArray.zip vs.toArray)=vs.toArray
   apply Array.ext'
   simp only[Array.toList_map,Array.toList_zip]
   exact List.map_snd_zip (by omega)
  .have h2':2<=vs.length:=by rw[av] at h2;omega
   rw[if_neg h2,if_neg h2]
   refine af (bN (q2 h2') (λκ s0 hk0=>?_) λ_ _ x=>x.elim)
   refine af (bN (kat_run (Q:=λst' s'=>∃ p:Array Nat,p.size=vs.length/\mI st'=p.map (jy (ks.toArray.zip vs.toArray))/\lB st'=none/\SkFin a kS e e1 ks (p.toList.map λi=>vs.getD i bC) (λs''=>P (.done (.ret .none)) s'') s')
    hl h2' h64 (λp' st' s' a1 a2 a3 a4=>⟨p',a1,a2,a3,a4⟩) hk0) ?_ λ_ _ e=>e)
   rintro⟨⟨⟩,st'⟩ s' ⟨p,hp,har,hf,hq⟩
   exact Xd hne (kat_snds hl har) (by rw[ae,bS,hp];exact h64) (by omega) hf hq
theorem sk_sorted {x:Value} {b:Addr} {OKQ:List Value->Heap->Nat->Prop} {Q:Value->aj->Prop} (hc:∀ R:List Value->aj->Prop,(∀ us h' tk,OKQ us h' tk->R us { s with heap:=h',toks:=tk })->aN (model prog w) A.in1 (mN x) R (λ_ _=>False) s)
  (h:∀ us h' tk,OKQ us h' tk->us.length<64 /\ ∀ D e1 kS h2,h'.objs.size<=D->D<kS->h2.get? D=some (bb "list" #[] e1)->h2.get? kS=some (bb "list" #[] 0)->(∀ b o,h'.get? b=some o->h2.get? b=some o) ->
   ∃ G:List Value->aj->Prop,G [] { s with heap:=h2,toks:=tk } /\
    (∀ (j:Nat) x ks e s',us[j]? = some x->ks.length=j->s'.heap.get? kS=some (bb "list" ks.toArray e)->G ks s'->aN (model prog w) A.in1.in1 (call (.ref b) [x]) (λk s''=>s''.heap.get? kS=some (bb "list" ks.toArray e) /\ ∀ h2 c,h2.get? kS=some (bb "list" (ks++[k]).toArray c)->bn kS s''.heap h2->G (ks++[k]) { s'' with heap:=h2 }) (λ_ _=>False) s') /\
    (∀ ks e s',ks.length=us.length->s'.heap.get? kS=some (bb "list" ks.toArray e)->G ks s'->(us.length<2->SkFin D kS e e1 ks us (λs3=>Q (.ref D) s3) s')/\(2<=us.length ->
     aN (model prog w) A.in1.in1 (mS ks.toArray) (λκ s''=>(kas_sort us.length).kasWp (kas_ask prog w A.in1.in1 κ ks) (λp s3=>SkFin D kS e e1 ks (p.toList.map λi=>us.getD i bC) (λs4=>Q (.ref D) s4) s3) s'') (λ_ _=>False) s'))) :
  aN (model prog w) A (call (.builtin "sorted") [x] [("key", .ref b)]) Q E s:=by
 refine call_function_entry_kw mD l6 l3 (ksk_s1 _ _) ?_
 unfold aM.«sorted»
 refine af (m:=checkCount "sorted" 1 1 _) (aq ?_)
 refine af (bN (hc _ λus h' tk ok=>?_) (λ_ _ z=>z) λ_ _ z=>z.elim)
 obtain⟨h64,hb⟩:=h us h' tk ok
 refine af (eX ?_ (by rw[bA];omega))
 have hoL:(h'.push (bb "list" us.toArray 0)).get? h'.objs.size=some (bb "list" us.toArray 0):=az _ rfl
 show aN _ _ _ _ _ { s with heap:=h'.push (bb "list" us.toArray 0),toks:=tk }
 refine af (bF (wpAny_call_entry_kw kM ⟨_,hoL,rfl⟩ j8 ?body (ksk_l1 _ _)))
 case body=>
  rw[ksk_t1]
  refine az1 (s:={ s with heap:=h'.push (bb "list" us.toArray 0),toks:=tk }) hoL h64 λe1 kS h2 hk g gk k=>?_
  have hk2:h'.objs.size<kS:=by
   have hk:(h'.push (bb "list" us.toArray 0)).objs.size<=kS:=hk
   rw[lO] at hk;omega
  obtain⟨G,g0,gs,gf⟩:=hb h'.objs.size e1 kS h2 (ai _) hk2 g gk λb o q=>k b o (aQ (aA q)) (ag _ q)
  refine⟨G,λ_ _=>g0,gs,λks e s' hl hk hg=>?_⟩
  obtain⟨q1,q2⟩:=gf ks e s' hl hk hg
  refine⟨λh2=>?_,λh2=>bN (q2 h2) (λκ s'' hk=>?_) λ_ _ x=>x⟩
  .obtain⟨r1,r2,r3⟩:=q1 h2
   exact⟨r1,r2,λh' c x y=>⟨_,rfl,aq ⟨_,rfl,r3 h' c x y⟩⟩⟩
  .rw[kat_ask_eq hl] at hk ⊢
   exact kas_wp_mono hk λp s3 ⟨r1,r2,r3⟩=>⟨r1,r2,λh' c x y=>⟨_,rfl,aq ⟨_,rfl,r3 h' c x y⟩⟩⟩
end
end PySem.W
namespace L2
open PySem PySem.Spec PyProof.Rows
section
variable {X:Cx} {pins:List (Addr×Obj)} {U:St} {H:Hp} {s:aj}
theorem Inv.adopt {a d:Addr} {o:HO} {h':Heap} (I:Inv X pins U H s) (fa:Ci X pins H a) (fd:Ci X pins H d) (k:∀ b u,b≠a->b≠d->s.heap.get? b=some u->h'.get? b=some u) (new:ObjOk X.prog X.w (upd H a o) h' a o):Inv X pins U (upd H a o) { s with heap:=h' }:=by
 have nit:∀ b u,H b=some u->b≠a/\b≠d:=λb u e=>⟨Ai e fa.1,Ai e fd.1⟩
 have nc:∀ {b:Addr},b∉[a,d]->b≠a/\b≠d:=λh=>by simpa using h
 refine I.step (g':=s.gens) (d':=s.drawn) (t':=s.toks) (ch:=[a,d]) (λb hb=>?_) (λb u _ _ hc e _=>k b u (nc hc).1 (nc hc).2 e) (λb u _ _ hc e _=>⟨u.slots,k b u (nc hc).1 (nc hc).2 e⟩) (λb u hc e n=>by rw[Ad (nc hc).1];exact n)
  (λb u hc e=>⟨u,k b u (nc hc).1 (nc hc).2 e⟩) (λb xs q=>by rw[Ad (nit b _ q).1];exact q) (λb u v q=>by rw[Ad (nit b _ q).1];exact q) (λb ps q=>⟨#[],by rw[Ad (nit b _ q).1,q];simp⟩) (λm hm=>?_) (λb u e=>?_) I.bare
 .rcases List.mem_cons.mp hb with rfl|hb
  .exact⟨fa.2.2.2.1,fa.2.1,fa.2.2.2.2.1,fa.2.2.2.2.2⟩
  .have e:b=d:=by simpa using hb
   subst e
   exact⟨fd.2.2.2.1,fd.2.1,fd.2.2.2.2.1,fd.2.2.2.2.2⟩
 .obtain⟨u,es,ep,ho,r⟩:=hm
  exact⟨u,es,ep,k _ u (ce fa.2.1) (ce fd.2.1) ho,r⟩
 .by_cases hb:b=a
  .subst hb;rw[Ab] at e;cases e;exact new
  .rw[Ad hb] at e
   refine (I.hok b u e).stay (λc v hc q=>?_) (λc q=>by rw[Ad (nit c _ q).1];exact q) λc xs q=>by rw[Ad (nit c _ q).1];exact q
   rcases hc with z|z
   .rw[z] at q ⊢;exact k _ v (nit b u e).1 (nit b u e).2 q
   .exact k c v (nit c _ z).1 (nit c _ z).2 q
end
abbrev RF:=List V->Hp->VK->Prop
noncomputable def Nk (x:V) (T:String):Bool:=match x with
 |.int _=>T == "int"
 |.bl _=>T == "bool" || T == "int"
 |.str _=>T == "str"
 |_=>false
def okT (T:String):Bool:=["int", "bool", "str", "list", "tuple", "dict"].contains T
noncomputable def Fw (K:ac):RF:=λxs H Q=>match xs with
 |[.int i,.ty T]=>okT T=true/\Q (.bl (Nk (.int i) T)) H
 |[.bl i,.ty T]=>okT T=true/\Q (.bl (Nk (.bl i) T)) H
 |[.str i,.ty T]=>okT T=true/\Q (.bl (Nk (.str i) T)) H
 |[.non,.ty T]=>okT T=true/\Q (.bl (Nk .non T)) H
 |[x,.ty T]=>∃ t b,TyX K H x t/\d6 K t (.type T)=some b/\Q (.bl b) H
 |[x,.ref C]=>(∃ t b,TyX K H x t/\d6 K t (.ref C)=some b/\Q (.bl b) H)\/False
 |_=>False
noncomputable def Dm (K:ac):RF:=λxs H Q=>match xs with
 |[.str z]=>z.length<=sizeLine/\Q (.int z.length) H
 |[.ref p]=>(∃ ys,(SqL K H p ys\/SqT K H p ys)/\Q (.int ys.length) H) \/ ∃ kvs,Rd H p (.dK kvs)/\Q (.int kvs.length) H
 |_=>False
noncomputable def Rs (K:ac):RF:=λxs H Q=>match xs with
 |[.ref p]=>∃ bs:List Bool,SqL K H p (bs.map V.bl)/\Q (.bl (bs.all λb=>b)) H
 |_=>False
noncomputable def Up:RF:=λxs H Q=>match xs with
 |[.int i]=>Q (.int i) H
 |[.bl k]=>Q (.int (if k then 1 else 0)) H
 |_=>False
noncomputable def Pm (K:ac):RF:=λxs H Q=>match xs with
 |[.ref p]=>∃ ys,(SqL K H p ys\/SqT K H p ys) /\ ∀ l,H l=none->Q (.ref l) (upd H l (.lst ys))
 |_=>False
noncomputable def F9 (K:ac):RF:=λxs H Q=>match xs with
 |[.ref p]=>∃ ys,(SqL K H p ys /\ ∀ l,H l=none->Q (.ref l) (upd H l (.tup ys)))\/(SqT K H p ys/\Q (.ref p) H)
 |_=>False
noncomputable def Pl (K:ac) (calm:Bool):RF:=λxs H Q=>Pm K xs H Q\/(calm=true/\False)
noncomputable def Uq (K:ac) (calm:Bool):RF:=λxs H Q=>False\/(calm=true/\(ak9 K xs H Q\/ak8 xs H Q))
inductive BF where
 |bf (id:String)|ty (T:String)
noncomputable def a56 (K:ac) (calm:Bool) (x:Str):Option (BF×RF):=
 if x = "len" then some (.bf "len", Dm K) else
 if x = "isinstance" then some (.bf "isinstance", Fw K) else
 if x = "all" then (if calm=true then some (.bf "all", Rs K) else none) else
 if x = "int" then some (.ty "int", Up) else
 if x = "list" then some (.ty "list", Pl K calm) else
 if x = "tuple" then some (.ty "tuple", F9 K) else
 if x = "sorted" then some (.bf "sorted", Uq K calm) else
 if x = "sum" then (if calm=true then some (.bf "sum", ay2 K) else none) else
 if x = "dict" then some (.ty "dict", Pj) else none
def BF.val:BF->Value
 |.bf id=>.builtin id
 |.ty T=>.type T
section
variable {X:Cx}
theorem Tx {K:ac} {x:V} {T:String} (hx:Bv x=true) (h:okT T=true):∃ t,(∀ H,TyOf K H x t)/\d6 K t (.type T)=some (Nk x T):=by
 have hT:T = "int" \/ T = "bool" \/ T = "str" \/ T = "list" \/ T = "tuple" \/ T = "dict" := by
  unfold okT at h
  simpa using h
 cases x with
 |int i=>refine⟨_,λH=>TyOf.int i,?_⟩;rcases hT with rfl|rfl|rfl|rfl|rfl|rfl <;> rfl
 |bl i=>refine⟨_,λH=>TyOf.bl i,?_⟩;rcases hT with rfl|rfl|rfl|rfl|rfl|rfl <;> rfl
 |str i=>refine⟨_,λH=>TyOf.str i,?_⟩;rcases hT with rfl|rfl|rfl|rfl|rfl|rfl <;> rfl
 |non=>refine⟨_,λH=>TyOf.non,?_⟩;rcases hT with rfl|rfl|rfl|rfl|rfl|rfl <;> rfl
 |_=>cases hx
theorem ab6:B6 X (.builtin "isinstance") (Fw X.K):=by
 intro pins s U H xs us Q I r h
 have sc:∀ x T,xs=[x,.ty T]->Bv x=true->okT T=true->Q (.bl (Nk x T)) H->aN (model X.prog X.w) X.A (call (.builtin "isinstance") us) (EP X pins U Q) X.xe s:=λx T e hx hT q=>by
  subst e
  obtain⟨t,ht,hk⟩:=Tx (K:=X.K) hx hT
  exact ab5 pins s U H _ us Q I r ⟨x,T,t,_,rfl,ht H,hk,q⟩
 unfold Fw at h
 split at h
 .exact sc _ _ rfl rfl h.1 h.2
 .exact sc _ _ rfl rfl h.1 h.2
 .exact sc _ _ rfl rfl h.1 h.2
 .exact sc _ _ rfl rfl h.1 h.2
 .obtain⟨t,b,ty,e,q⟩:=h
  obtain⟨u,v,rfl,ru,rv⟩:=r.two
  cases rv
  exact bG (ai _) (Ks I ru ty e λtk htk=>⟨.bl b,H,I.tok tk htk,rfl,q⟩)
 .obtain⟨u,v,rfl,ru,rv⟩:=r.two
  rcases h with ⟨t,b,ty,e,q⟩|h
  .cases rv
   exact bG (ai _) (Ks I ru ty e λtk htk=>⟨.bl b,H,I.tok tk htk,rfl,q⟩)
  .exact h.elim
 .exact h.elim
theorem Xs:B6 X (.builtin "len") (Dm X.K):=by
 intro pins s U H xs us Q I r h
 unfold Dm at h
 split at h
 .exact Ob pins s U H _ us Q I r ⟨_,rfl,h.1,h.2⟩
 .rcases h with ⟨ys,h1,h2⟩|⟨kvs,h1,h2⟩
  .exact Oa pins s U H _ us Q I r ⟨_,ys,rfl,h1,h2⟩
  .obtain⟨u,rfl,ru⟩:=Dl r
   cases ru
   exact bl4 I h1 λt s' I'=>⟨.int _,H,I',⟨t,rfl⟩,h2⟩
 .exact h.elim
theorem Xq (hc:X.calm=true):B6 X (.builtin "all") (Rs X.K):=by
 intro pins s U H xs us Q I r h
 unfold Rs at h
 split at h
 .obtain⟨bs,h1,h2⟩:=h
  exact ab4 hc pins s U H _ us Q I r ⟨_,bs,rfl,h1,h2⟩
 .exact h.elim
theorem Xr:B6 X (.type "int") Up:=by
 intro pins s U H xs us Q I r h
 unfold Up at h
 split at h
 .exact M4 pins s U H _ us Q I r (.inl ⟨_,rfl,h⟩)
 .exact M4 pins s U H _ us Q I r (.inr ⟨_,rfl,h⟩)
 .exact h.elim
theorem Tc:B6 X (.type "list") (Pm X.K):=by
 intro pins s U H xs us Q I r h
 unfold Pm at h
 split at h
 .obtain⟨ys,h1,h2⟩:=h
  exact Oc pins s U H _ us Q I r ⟨_,ys,rfl,h1,h2⟩
 .exact h.elim
theorem Xt:B6 X (.type "tuple") (F9 X.K):=by
 intro pins s U H xs us Q I r h
 unfold F9 at h
 split at h
 .obtain⟨ys,h1⟩:=h
  exact L6 pins s U H _ us Q I r ⟨_,ys,rfl,h1⟩
 .exact h.elim
theorem ar8 (hu:X.A.units+64<cLine) {x:Str} {f:BF} {r:RF} {c:Bool} (h:a56 X.K c x=some (f,r)) (hc:c=X.calm):cQ x=some f.val/\B6 X f.val r:=by
 unfold a56 at h
 by_cases e:x = "len"
 .rw[if_pos e] at h;cases h;rw[e];exact⟨PySem.boot_len,Xs⟩
 rw[if_neg e] at h
 by_cases e:x = "isinstance"
 .rw[if_pos e] at h;cases h;rw[e];exact⟨PyProof.Rows.boot_isinstance,ab6⟩
 rw[if_neg e] at h
 by_cases e:x = "all"
 .rw[if_pos e] at h
  by_cases ec:c=true
  .rw[if_pos ec] at h;cases h;rw[e];exact⟨PyProof.Rows.boot_all,Xq (hc▸ec)⟩
  .rw[if_neg ec] at h;cases h
 rw[if_neg e] at h
 by_cases e:x = "int"
 .rw[if_pos e] at h;cases h;rw[e];exact⟨j3,Xr⟩
 rw[if_neg e] at h
 by_cases e:x = "list"
 .rw[if_pos e] at h;cases h;rw[e];exact⟨gL,λpins s U H xs us Q I r h=>h.elim (Tc pins s U H xs us Q I r) λz=>z.2.elim⟩
 rw[if_neg e] at h
 by_cases e:x = "tuple"
 .rw[if_pos e] at h;cases h;rw[e];exact⟨js,Xt⟩
 rw[if_neg e] at h
 by_cases e:x = "sorted"
 .rw[if_pos e] at h;cases h;rw[e];exact⟨Ip,λpins s U H xs us Q I r h=>h.elim cb λz=>z.2.elim (Tf (hc▸z.1) pins s U H xs us Q I r) (Te (hc▸z.1) pins s U H xs us Q I r)⟩
 rw[if_neg e] at h
 by_cases e:x = "sum"
 .rw[if_pos e] at h
  by_cases ec:c=true
  .rw[if_pos ec] at h;cases h;rw[e];exact⟨PyProof.Rows.boot_sum,ab7 (hc▸ec)⟩
  .rw[if_neg ec] at h;cases h
 rw[if_neg e] at h
 by_cases e:x = "dict"
 .rw[if_pos e] at h;cases h;rw[e];exact⟨boot_dict,Ta⟩
 rw[if_neg e] at h
 cases h
abbrev RM:=V->List V->Hp->VK->Prop
structure BM where
 T:String
 id:String
 r:RM
noncomputable def rMt (K:ac) (bs:List BM):V->Hp->(Hp->(List V->Hp->Prop)->Prop)->VK->Prop:=λx H1 ta Q=>
 match bs with
 |[]=>False
 |[b]=>tyV K b.T x H1/\ta H1 λxs H2=>b.r x xs H2 Q
 |b::rest=>(tyV K b.T x H1/\ta H1 λxs H2=>b.r x xs H2 Q)\/rMt K rest x H1 ta Q
structure a38 (X:Cx) (m:Str) (b:BM):Prop where
 pa:PlainAttrs b.T
 slot:Slot b.T m b.id
 ty:typeOf (.builtin b.id)=pure (.type "method_descriptor")
 mt:MtR X b.id b.r
noncomputable def Nw (K:ac):RM:=λx xs H Q=>∃ z p ys,x=.str z/\xs=[.ref p]/\(SqL K H p (ys.map V.str)\/False)/\(ys.map (·.length)).sum+ys.length * z.length<=16777216/\Q (.str (Txt.join z ys)) H
theorem ag2 {X:Cx}:MtR X "str.join" (Nw X.K):=by
 intro pins s U H x xs v us Q I rx rs h
 obtain⟨z,p,ys,rfl,rfl,hq,hz,q⟩:=h
 exact au1 pins s U H _ _ v us Q I rx rs ⟨z,p,ys,rfl,rfl,hq.resolve_right id,hz,q⟩
def ak4:RM:=λx xs H Q=>∃ i,x=.int i/\xs=[]/\Q (.int (ip i:Nat)) H
noncomputable def K9:RM:=λx xs H Q=>match x,xs with
 |.ref a,[y]=>∃ o,DGet H a y o/\Q (o.getD .non) H
 |.ref a,[y,z]=>∃ o,DGet H a y o/\Q (o.getD z) H
 |_,_=>False
theorem au0 (hu:X.A.units+64<cLine):MtR X "dict.get" K9:=by
 intro pins s U H x xs v us Q I rx rs h
 unfold K9 at h
 split at h
 .obtain⟨o,g,q⟩:=h
  obtain⟨u,rfl,ru⟩:=rs.one
  cases rx
  exact a60 (by omega) I g ru λw' s' I' r'=>⟨_,H,I',r',q⟩
 .obtain⟨o,g,q⟩:=h
  obtain⟨u,w,rfl,ru,rw'⟩:=rs.two
  cases rx
  exact a61 (by omega) I g ru rw' λw' s' I' r'=>⟨_,H,I',r',q⟩
 .exact h.elim
theorem Tn {i:Nat} (h:i<sizeLine):dN (i:Int)=true:=by
 have hs:sizeLine<=9223372036854775807:=aI rfl
 have e:(2:Int) ^ 63=9223372036854775808:=rfl
 unfold dN
 rw[e,aE]
 exact⟨decide_eq_true (by omega),decide_eq_true (by omega)⟩
noncomputable def J6:RM:=λx vs H Q=>∃ l xs y,∃ i:Nat,x=.ref l/\vs=[.int (i:Int),y]/\H l=some (.lst xs)/\i<=xs.length/\xs.length<sizeLine/\Q .non (upd H l (.lst (xs.take i++y::xs.drop i)))
theorem Yg:MtR X "list.insert" J6:=by
 intro pins s U H x vs v us Q I rx rv h
 obtain⟨l,xs,y,i,rfl,rfl,hH,hi,hz,q⟩:=h
 cases rx
 obtain⟨u1,u2,rfl,⟨t,rfl⟩,r2⟩:=rv.two
 obtain⟨z,its,n,r,hl,e⟩:=I.lstM hH
 have hf:dN (i:Int)=true:=Tn (bi hi hz)
 have hz':its.toArray.size<=sizeLine:=by rw[av,<- hl];exact z
 obtain⟨j,hj⟩:∃ j:Int,j=(i:Int):=⟨_,rfl⟩
 rw[<- hj] at hf ⊢
 have hf':¬ (!dN j)=true:=by rw[hf];decide
 have M:=AutoSeq1.list_insert_list_int_val_1 l its.toArray n j t u2 hf' hz'
 refine call_meets i_ ⟨_,e,rfl⟩ PySem.F.entry_list_insert (PySem.F.args_list_insert_3 _ _ _) M ⟨e,?_⟩
 refine⟨.non,_,I.lset (its':=its.take i++u2::its.drop i) hH e ?_ ((r.take i).append (.cons r2 (r.drop i))) ?_,rfl,q⟩
 .have hk:(if j<0 then (j+(its.toArray.size:Int)).toNat else min j.toNat its.toArray.size)=i:=by
   rw[if_neg (by omega),av,hj,aU]
   omega
  show (its.toArray.extract 0 (if j<0 then (j+(its.toArray.size:Int)).toNat else min j.toNat its.toArray.size)).push u2++its.toArray.extract (if j<0 then (j+(its.toArray.size:Int)).toNat else min j.toNat its.toArray.size)=_
  rw[hk]
  apply Array.toList_inj.mp
  simp
  exact gJ (by simp)
 .rw[aW,aO,aK,jA]
  omega
noncomputable def mtR (K:ac) (m:Str):List BM:=
 if m = "append" then [⟨"list", "list.append", C6⟩] else
 if m = "get" then [⟨"dict", "dict.get", K9⟩] else
 if m = "extend" then [⟨"list", "list.extend", J5⟩] else
 if m = "join" then [⟨"str", "str.join", Nw K⟩] else
 if m = "bit_length" then [⟨"int", "int.bit_length", ak4⟩] else
 if m = "insert" then [⟨"list", "list.insert", J6⟩] else []
theorem af9 {m:Str} {b:BM} (hu:X.A.units+64<cLine) (h:b∈mtR X.K m):a38 X m b:=by
 unfold mtR at h
 by_cases e:m = "append"
 .rw[if_pos e] at h
  have:b=⟨"list", "list.append", C6⟩:=by simpa using h
  subst this;subst e
  exact⟨gy,PySem.F.slot_list_append,PySem.F.type_list_append,Nr⟩
 rw[if_neg e] at h
 by_cases e:m = "get"
 .rw[if_pos e] at h
  have:b=⟨"dict", "dict.get", K9⟩:=by simpa using h
  subst this;subst e
  exact⟨PySem.F.plainAttrs_dict,dW,PySem.F.type_dict_get,au0 hu⟩
 rw[if_neg e] at h
 by_cases e:m = "extend"
 .rw[if_pos e] at h
  have:b=⟨"list", "list.extend", J5⟩:=by simpa using h
  subst this;subst e
  exact⟨gy,PySem.F.slot_list_extend,PySem.F.type_list_extend,Yf⟩
 rw[if_neg e] at h
 by_cases e:m = "join"
 .rw[if_pos e] at h
  have:b=⟨"str", "str.join", Nw X.K⟩:=by simpa using h
  subst this;subst e
  exact⟨PySem.F.plainAttrs_str,PySem.F.slot_str_join,PySem.F.type_str_join,ag2⟩
 rw[if_neg e] at h
 by_cases e:m = "bit_length"
 .rw[if_pos e] at h
  have:b=⟨"int", "int.bit_length", ak4⟩:=by simpa using h
  subst this;subst e
  exact⟨PySem.F.plainAttrs_int,PySem.F.slot_int_bit_length,PySem.F.type_int_bit_length,at9⟩
 rw[if_neg e] at h
 by_cases e:m = "insert"
 .rw[if_pos e] at h
  have:b=⟨"list", "list.insert", J6⟩:=by simpa using h
  subst this;subst e
  exact⟨gy,i_,PySem.F.type_list_insert,Yg⟩
 rw[if_neg e] at h
 cases h
theorem Po {K:ac}:∀ {bs:List BM} {x:V} {H1:Hp} {ta:Hp->(List V->Hp->Prop)->Prop} {Q:VK},rMt K bs x H1 ta Q -> ∃ b∈bs,tyV K b.T x H1/\ta H1 λxs H2=>b.r x xs H2 Q
 |[],_,_,_,_,h=>h.elim
 |[b],_,_,_,_,h=>⟨b,by simp,h⟩
 | b::c::rest,x,H1,ta,Q,h=>by
  rcases h with h|h
  .exact⟨b,by simp,h⟩
  .obtain⟨d,hd,q⟩:=Po h
   exact⟨d,aB _ hd,q⟩
def Dq:Expr->Bool
 |.Call (.Name x _) [] [] _=>!(x==("super" : Str))
 |_=>true
theorem El {e:Expr} (h:Dq e=true) (f:Str) (env:Env) (whole:Sem Value):jw e f env whole=whole:=by
 unfold jw
 split
 .rename_i id p pos
  have:(id==("super" : Str))=false:=by
   have h':(!(id==("super" : Str)))=true:=h
   simpa using h'
  have e2:(id != "super")=true:=by
   show (!(id == "super"))=true
   rw[this]
   rfl
  rw[e2]
  simp
 .rfl
variable {o:Expr} {do':DE} {es:List Expr} {r:DA} {m:Str} {apos cpos:Pos}
theorem bg3 {bs:List BM} (hb:∀ b∈bs,a38 X m b) (ho:QE X o do') (h1:Dq o=true) (h4:(apos.endLine==cpos.line)=true) :
  QE X (.Call (.Attribute o m apos) [] [] cpos) (dMt (rMt X.K bs) do' Ag):=by
 intro Ex mt pins s U H Q I h
 refine wpAny_Call_method0_late (El h1 m X.env _) h4 (thn (ho Ex mt pins s U H _ I h) λv s1 ⟨x,H1,I1,r1,q1⟩=>?_)
 obtain⟨b,hbm,ty,q⟩:=Po q1
 obtain⟨k1,k2⟩:=ao8 I1 r1 ty
 have B:=hb b hbm
 exact⟨b.T,b.id,B.pa,B.slot,B.ty,k1,k2,jL rfl (PySem.evalArgs_none (B.mt pins s1 U H1 x [] v [] Q I1 r1 .nil q))⟩
theorem bs1 {bs:List BM} {e:Expr} (hb:∀ b∈bs,a38 X m b) (ho:QE X o do') (ha:QA X (e::es) r) (h1:Dq o=true) (h2:(e::es).all noStar=true) (h3:(e::es).length<30) (h4:(apos.endLine==cpos.line)=true) :
  QE X (.Call (.Attribute o m apos) (e::es) [] cpos) (dMt (rMt X.K bs) do' r):=by
 intro Ex mt pins s U H Q I h
 have hs:=bR▸h2
 rw[aE] at hs
 have hfew:((je cpos (cS (e::es) X.env)).all (λx=>!x.1)&&(mM cpos (kZ [] X.env)).all (λx=>x.1.isSome)
   && decide ((e::es).length+([]:List mj).length+(if ([]:List mj).isEmpty then 0 else 1)<30))=true:=by
  rw[Iw h2]
  have:decide ((e::es).length+([]:List mj).length+(if ([]:List mj).isEmpty then 0 else 1)<30)=true:=by
   rw[decide_eq_true_iff]
   simpa using h3
  rw[this]
  rfl
 refine wpAny_Call_method_late (El h1 m X.env _) hfew h4 rfl (thn (ho Ex mt pins s U H _ I h) λv s1 ⟨x,H1,I1,r1,q1⟩=>?_)
 obtain⟨b,hbm,ty,q⟩:=Po q1
 obtain⟨k1,k2⟩:=ao8 I1 r1 ty
 have B:=hb b hbm
 refine⟨b.T,b.id,B.pa,B.slot,B.ty,k1,k2,?_⟩
 have hA:=ha Ex mt cpos pins s1 U H1 _ I1 q
 rw[Au hs.1] at hA ⊢
 refine jL (by show (false||(je cpos (cS es X.env)).any (·.1))=false;rw[Bl hs.2] <;> rfl) (Calls.evalArgs_plain ?_)
 exact thn hA λus s2 ⟨vs,H2,I2,r2,q2⟩=>B.mt pins s2 U H2 x vs v us Q I2 r1 r2 q2
variable {x:Str} {p pos:Pos} {G:Sg}
theorem bf6 {f:BF} {rf:RF} {e:Expr} (hc:B6 X f.val rf) (hg:Gl X x) (hm:X.mg x=none) (hv:cQ x=some f.val) (ha:QA X (e::es) r) (hs:(e::es).all noStar=true) (hn:x ≠ "__name__") (hdb:(x==("__debug__" : Str))=false) :
  QE X (.Call (.Name x p) (e::es) [] pos) (dFn (λvs H Q _=>rf vs H Q) r):=by
 intro Ex mt
 have h:=bR▸hs
 rw[aE] at h
 cases f with
 |bf id=>exact ah7 hc hg hm hv (ha Ex mt) hn hdb (Au h.1 es X.env) (Bl h.2 X.env pos)
 |ty T=>exact Yo hc hg hm hv (ha Ex mt) hn hdb (Au h.1 es X.env) (Bl h.2 X.env pos)
def spE (sp:Sp) (dvs:List V):List V->Hp->VK->EK->Prop:=λvs H Q E=>sp (vs++dvs) H Q (λv _ H'=>∃ a,v=.ref a/\E a H')
theorem J8 {i:FI} (F:Gf X i) {j:Nat} (hj:j<=i.dfs.length) {Ex:St->EK} (mt:Meets X Ex) {pins:List (Addr×Obj)} {U:St} {H:Hp} {s:aj} {Q:VK} {us:List Value} {vs:List V}
  (I:Inv X pins U H s) (r:Vals vs us) (h:spE i.sp (i.dfs.drop j) vs H Q (Ex U)):aN (model X.prog X.w) X.A (call (.ref i.f) us) (EP X pins U Q) X.xe s:=by
 obtain⟨CX,hx,FO⟩:=F.ok
 have r2:Vals (vs++i.dfs.drop j) (us++i.ds.drop j):=r.append (F.vals.drop j)
 have hl:(us++i.ds.drop j).length=i.ps.length:=by rw[<- r2.length];exact FO.len _ _ _ _ h
 refine gh (eI (FO.run X.A X.stack s H ⟨us,[]⟩ (us++i.ds.drop j) (vs++i.dfs.drop j) Q _ F.room I.env0 (F.binds j hj s us I.kIn hl) r2 h) λr s' hq=>?_)
 cases r with
 |error e=>exact hx X rfl rfl Ex mt pins U H s e s' I hq
 |ok fl=>
  cases fl with
  |ret u=>exact I.after hq
  |next=>exact cb hq
  |brk=>exact cb hq
  |cont=>exact cb hq
theorem aj1 {i:FI} (F:Gf X i) {j:Nat} (hj:j<=i.dfs.length) (hg:Gl X x) (hm:X.mg x=some (.ref i.f)) (hdb:(x==("__debug__" : Str))=false) :
  QE X (.Call (.Name x p) [] [] pos) (dFn (spE i.sp (i.dfs.drop j)) Ag):=by
 intro Ex mt pins s U H Q I h
 refine bO (Dp I hg hm ?_ hdb)
 exact fX I.kIn F.kp (J8 (us:=[]) F hj mt I .nil h)
theorem aw6 {i:FI} {e:Expr} (F:Gf X i) {j:Nat} (hj:j<=i.dfs.length) (hg:Gl X x) (hm:X.mg x=some (.ref i.f)) (ha:QA X (e::es) r) (hs:(e::es).all noStar=true) (hdb:(x==("__debug__" : Str))=false) :
  QE X (.Call (.Name x p) (e::es) [] pos) (dFn (spE i.sp (i.dfs.drop j)) r):=by
 intro Ex mt pins s U H Q I h
 have h2:=bR▸hs
 rw[aE] at h2
 refine bO (Dp I hg hm ?_ hdb)
 refine gC (h₀:=X.base) I.ok.mod.kin F.kp (thn (ha Ex mt pos pins s U H _ I h) λus s1 ⟨vs,H1,I1,r,q⟩=>⟨I1.kIn,?_⟩) (Au h2.1 es X.env) (Bl h2.2 X.env pos)
 exact J8 F hj mt I1 r q
noncomputable def mkX (C:Addr):Option FI->Nat->List V->Hp->VK->EK->Prop
 |none,_=>λ_ _ _ _=>False
 |some i,j=>λvs H Q E=>∀ a,H a=none->i.sp (.ref a::(vs++i.dfs.drop j)) (upd H a (Fv a C none)) (λv H2=>v=.non/\Q (.ref a) H2) (λv _ H'=>∃ b,v=.ref b/\E b H')
theorem W9 {C:Addr} {oi:Option FI} {j:Nat} (c:ECls X.K C) (hi:N3 X C oi) (hj:∀ i,oi=some i->j<=i.dfs.length) {Ex:St->EK} (mt:Meets X Ex) {pins:List (Addr×Obj)} {U:St} {H:Hp} {s:aj} {Q:VK} {us:List Value} {vs:List V}
  (I:Inv X pins U H s) (rv:Vals vs us) (hl:vs.length<=1000) (h:mkX C oi j vs H Q (Ex U)):aN (model X.prog X.w) X.A (call (.ref C) us) (EP X pins U Q) X.xe s:=by
 cases oi with
 |none=>exact h.elim
 |some i=>
  obtain⟨h1,h2,F,hr⟩:=hi
  obtain⟨CX,hx,FO⟩:=F.ok
  exact Yx c h1 h2 FO hr (F.binds j (hj i rfl)) (F.vals.drop j) I rv hl (λe s1 s' H1 I1 q=>hx X rfl rfl Ex mt pins U H1 s1 e s' I1 q) h
theorem Wx {C:Addr} {oi:Option FI} {j:Nat} (c:ECls X.K C) (hi:N3 X C oi) (hj:∀ i,oi=some i->j<=i.dfs.length) (kp:ba X.K (.ref C)=true) (hg:Gl X x) (hm:X.mg x=some (.ref C)) (hdb:(x==("__debug__" : Str))=false) :
  QE X (.Call (.Name x p) [] [] pos) (dFn (mkX C oi j) Ag):=by
 intro Ex mt pins s U H Q I h
 refine bO (Dp I hg hm ?_ hdb)
 exact fX I.kIn kp (W9 (us:=[]) c hi hj mt I .nil (by simp) h)
theorem aj6 {C:Addr} {oi:Option FI} {j:Nat} {e:Expr} (c:ECls X.K C) (hi:N3 X C oi) (hj:∀ i,oi=some i->j<=i.dfs.length) (kp:ba X.K (.ref C)=true) (hg:Gl X x) (hm:X.mg x=some (.ref C)) (ha:QA X (e::es) r) (hs:(e::es).all noStar=true) (hdb:(x==("__debug__" : Str))=false) :
  QE X (.Call (.Name x p) (e::es) [] pos) (dFn (λvs H Q E=>vs.length<=1000/\mkX C oi j vs H Q E) r):=by
 intro Ex mt pins s U H Q I h
 have h2:=bR▸hs
 rw[aE] at h2
 refine bO (Dp I hg hm ?_ hdb)
 refine gC (h₀:=X.base) I.ok.mod.kin kp (thn (ha Ex mt pos pins s U H _ I h) λus s1 ⟨vs,H1,I1,r,q⟩=>⟨I1.kIn,?_⟩) (Au h2.1 es X.env) (Bl h2.2 X.env pos)
 exact W9 c hi hj mt I1 r q.1 q.2
noncomputable def mkC (C:Addr):Option FI->Nat->List V->Hp->VK->EK->Prop
 |none,_=>λ_ _ _ _=>False
 | some i,j=>λvs H Q E=>∀ a dx,H a=none->H dx=none->dx≠a ->
   i.sp (.ref a::(vs++i.dfs.drop j)) (upd (upd H dx (.own a)) a (.ins C dx [])) (λv H2=>v=.non/\Q (.ref a) H2) (λv _ H'=>∃ b,v=.ref b/\E b H')
theorem ay7 {C f:Addr} {CX:CXT} {k:Nat} {fd:a9} {ps:List Str} {sp:Sp} {ds:List Value} {dvs:List V} {E:XK} {pins:List (Addr×Obj)} {U:St} {H:Hp} {s:aj} {Q:VK} {us:List Value} {vs:List V}
  (M:Mk X.K C f) (F:FnOk X.prog X.w X.K X.mg X.base CX k f fd ps sp) (hr:Room (k+1) X.A) (hb:Binds X.K fd ps ds) (hd:Vals dvs ds) (hx:∀ H1 s1 e s',Inv X pins U H1 s1->CX X.stack H1 s1 E e s'->X.xe e s') (I:Inv X pins U H s) (r:Vals vs us)
  (h:∀ x dx,H x=none->H dx=none->dx≠x->sp (.ref x::(vs++dvs)) (upd (upd H dx (.own x)) x (.ins C dx [])) (λv H2=>v=.non/\Q (.ref x) H2) E) :
  aN (model X.prog X.w) X.A (call (.ref C) us) (EP X pins U Q) X.xe s:=by
 have hq:=h (s.heap.objs.size+1) s.heap.objs.size (I.hok.fresh (df _)) (I.hok.fresh (ai _)) (aQ (cg _))
 have I2:=Inv.made (C:=C) I
 have r2:Vals (V.ref (s.heap.objs.size+1)::(vs++dvs)) (aV (s.heap.objs.size+1)::(us++ds)):=.cons rfl (r.append hd)
 have hl:(aV (s.heap.objs.size+1)::us++ds).length=ps.length:=by
  have e:=r2.length
  rw[F.len _ _ _ _ hq] at e
  exact e.symm
 refine gh (af2 (f:=f) I.kIn M.makes M.init (beq_iff_eq.mp M.fn) (eI (F.run _ X.stack _ _ ⟨aV (s.heap.objs.size+1)::us,[]⟩ (aV (s.heap.objs.size+1)::(us++ds)) _ _ E (hr.make C us [])
  (I2.env0.make C us []) (hb _ (aV (s.heap.objs.size+1)::us) I2.kIn hl) r2 hq) λr s' hq'=>?_))
 cases r with
 |error e=>exact hx _ _ e s' I2 hq'
 |ok fl=>
  cases fl with
  |ret u=>
   obtain⟨v,H',I3,rv,ev,q3⟩:=I2.after hq'
   subst ev
   exact⟨rv,⟨V.ref (s.heap.objs.size+1),H',I3,rfl,q3⟩⟩
  |next=>exact cb hq'
  |brk=>exact cb hq'
  |cont=>exact cb hq'
theorem W8 {C:Addr} {oi:Option FI} {j:Nat} (hi:aa2 X C oi) (hj:∀ i,oi=some i->j<=i.dfs.length) {Ex:St->EK} (mt:Meets X Ex) {pins:List (Addr×Obj)} {U:St} {H:Hp} {s:aj} {Q:VK} {us:List Value} {vs:List V}
  (I:Inv X pins U H s) (rv:Vals vs us) (kp:ba X.K (.ref C)=true) (h:mkC C oi j vs H Q (Ex U)):aN (model X.prog X.w) X.A (call (.ref C) us) (EP X pins U Q) X.xe s:=by
 cases oi with
 |none=>exact h.elim
 |some i=>
  obtain⟨h0,h1,h2,F,hr⟩:=hi
  obtain⟨CX,hx,FO⟩:=F.ok
  exact ay7 ⟨h0,h1,h2,kp⟩ FO hr (F.binds j (hj i rfl)) (F.vals.drop j) (λH1 s1 e s' I1 q=>hx X rfl rfl Ex mt pins U H1 s1 e s' I1 q) I rv h
theorem Ww {C:Addr} {oi:Option FI} {j:Nat} (hi:aa2 X C oi) (hj:∀ i,oi=some i->j<=i.dfs.length) (kp:ba X.K (.ref C)=true) (hg:Gl X x) (hm:X.mg x=some (.ref C)) (hdb:(x==("__debug__" : Str))=false) :
  QE X (.Call (.Name x p) [] [] pos) (dFn (mkC C oi j) Ag):=by
 intro Ex mt pins s U H Q I h
 refine bO (Dp I hg hm ?_ hdb)
 exact fX I.kIn kp (W8 (us:=[]) hi hj mt I .nil kp h)
theorem bg2 {C:Addr} {oi:Option FI} {j:Nat} {e:Expr} (hi:aa2 X C oi) (hj:∀ i,oi=some i->j<=i.dfs.length) (kp:ba X.K (.ref C)=true) (hg:Gl X x) (hm:X.mg x=some (.ref C)) (ha:QA X (e::es) r) (hs:(e::es).all noStar=true) (hdb:(x==("__debug__" : Str))=false) :
  QE X (.Call (.Name x p) (e::es) [] pos) (dFn (mkC C oi j) r):=by
 intro Ex mt pins s U H Q I h
 have h2:=bR▸hs
 rw[aE] at h2
 refine bO (Dp I hg hm ?_ hdb)
 refine gC (h₀:=X.base) I.ok.mod.kin kp (thn (ha Ex mt pos pins s U H _ I h) λus s1 ⟨vs,H1,I1,r,q⟩=>⟨I1.kIn,?_⟩) (Au h2.1 es X.env) (Bl h2.2 X.env pos)
 exact W8 hi hj mt I1 r kp q
noncomputable def Cs (m:Str) (n:Nat) (l:List MI) (o:DE) (t:DA):DE:=λU H Q E=>o U H (λx H1=>∃ a dx fs mi,x=.ref a/\mi∈l/\H1 a=some (.ins mi.C dx fs)/\fs.lookup m=none/\(n+1<=mi.i.ps.length/\mi.i.ps.length<=n+1+mi.i.dfs.length) /\
 t U H1 (λvs H2=>spE mi.i.sp (mi.i.dfs.drop (n+1+mi.i.dfs.length - mi.i.ps.length)) (.ref a::vs) H2 Q E) E) E
theorem Rm {es:List Expr} {P:Value->aj->Prop} {s:aj} (h1:Dq o=true) (h2:es.all noStar=true) (h3:es.length<30) (h4:(apos.endLine==cpos.line)=true)
  (h:aN (model X.prog X.w) X.A (eval o X.env) (λov s1=>∀ pl,aN (model X.prog X.w) X.A (getMethod ov m pl) (λfx s2=>aN (model X.prog X.w) X.A (callWith cpos fx.1 fx.2 (je cpos (cS es X.env)) (mM cpos (kZ [] X.env))) P X.xe s2) X.xe s1) X.xe s) :
  aN (model X.prog X.w) X.A (eval (.Call (.Attribute o m apos) es [] cpos) X.env) P X.xe s:=by
 have few:methodCallForm (es.length+([]:List mj).length) (je cpos (cS es X.env)) (mM cpos (kZ [] X.env))=true:=by
  unfold methodCallForm
  rw[Iw h2]
  simpa [mM,kZ] using h3
 rw[arm_eval_Call,El h1]
 refine af (thn h λov s1 h1=>af (eY ?_))
 unfold methodCall calleeOf
 rw[few,if_pos rfl]
 refine af (bF (thn (h1 _) λfx s2 h2=>?_))
 have hp:methodCallPos true o X.env apos cpos=pure cpos:=by unfold methodCallPos;rw[h4];rfl
 rw[hp]
 exact af (aq h2)
theorem ax1 {l:List MI} (hl:∀ mi∈l,Cls X.K mi.C/\Qk X.K mi.C m mi.i.f/\Gf X mi.i) (ho:QE X o do') (h1:Dq o=true) (h4:(apos.endLine==cpos.line)=true) :
  QE X (.Call (.Attribute o m apos) [] [] cpos) (Cs m 0 l do' Ag):=by
 intro Ex mt pins s U H Q I h
 refine Rm (es:=[]) h1 rfl (by decide) h4 (thn (ho Ex mt pins s U H _ I h) λu s1 ⟨x,H1,I1,rx,a,dx,fs,mi,ex,hm,ea,hf,hn,q⟩ pl=>?_)
 subst ex
 obtain rfl:u=aV a:=rx
 obtain⟨c,k,F⟩:=hl mi hm
 refine Kl I1 ea c k hf ?_
 exact fX (first:=[.ref a]) I1.kIn k.kp (J8 (us:=[.ref a]) (vs:=[.ref a]) F (by omega) mt I1 (.cons rfl .nil) q)
theorem bg7 {l:List MI} {e:Expr} (hl:∀ mi∈l,Cls X.K mi.C/\Qk X.K mi.C m mi.i.f/\Gf X mi.i) (ho:QE X o do') (ha:QA X (e::es) r) (h1:Dq o=true) (h2:(e::es).all noStar=true) (h3:(e::es).length<30) (h4:(apos.endLine==cpos.line)=true) :
  QE X (.Call (.Attribute o m apos) (e::es) [] cpos) (Cs m (es.length+1) l do' r):=by
 intro Ex mt pins s U H Q I h
 refine Rm h1 h2 h3 h4 (thn (ho Ex mt pins s U H _ I h) λu s1 ⟨x,H1,I1,rx,a,dx,fs,mi,ex,hm,ea,hf,hn,q⟩ pl=>?_)
 subst ex
 obtain rfl:u=aV a:=rx
 obtain⟨c,k,F⟩:=hl mi hm
 refine Kl I1 ea c k hf ?_
 have hs:=bR▸h2
 rw[aE] at hs
 refine gC (first:=[.ref a]) (h₀:=X.base) I.ok.mod.kin k.kp (thn (ha Ex mt cpos pins s1 U H1 _ I1 q) λus s2 ⟨vs,H2,I2,r2,q2⟩=>⟨I2.kIn,?_⟩) (Au hs.1 es X.env) (Bl hs.2 X.env cpos)
 exact J8 (us:=.ref a::us) (vs:=.ref a::vs) F (by omega) mt I2 (.cons rfl r2) q2
noncomputable def Dn:DE:=λ_ H Q _=>∀ p,H p=none->Q (.ref p) (upd H p (.dK []))\/Q (.ref p) (upd H p (.dT []))
theorem aw8:QE X (.Dict [] [] pos) Dn:=λEx mt pins s U H Q I h=>by
 have fr:=I.hok.fresh (ai s.heap.objs.size)
 rcases h _ fr with q|q
 .exact wpAny_Dict_empty ⟨.ref _,_,I.laid (a:=s.heap.objs.size) (o:=.dK []) (t':=s.toks) (λ_ _ q=>ag _ q) (ai _) (ac3 s.heap I.big),rfl,q⟩
 .exact wpAny_Dict_empty ⟨.ref _,_,I.laid (a:=s.heap.objs.size) (o:=.dT []) (t':=s.toks) (λ_ _ q=>ag _ q) (ai _) (ac5 s.heap I.big),rfl,q⟩
theorem Yu {a:Expr} {da:DE} {p2 pos2:Pos} (hc:X.calm=true) (hg:Gl X "len") (hm:X.mg "len" = none) (hg2:Gl X "set") (hm2:X.mg "set" = none) (ha:QE X a da) (hs:noStar a=true) :
  QE X (.Call (.Name "len" p) [.Call (.Name "set" p2) [a] [] pos2] [] pos) (dUn (J7 X.K) da):=by
 intro Ex mt pins s U H Q I h
 refine bO (Dh I hg hm PySem.boot_len (hO (fc ?_) rfl rfl) (by decide) (by decide))
 refine bO (Dh I hg2 hm2 PyProof.Rows.boot_set (b5 ?_ (Au hs [] X.env) rfl) (by decide) (by decide))
 rw[Au hs]
 show aN _ _ (spliced ((false,eval a X.env)::je pos2 (cS [] X.env))) _ _ s
 refine fc (thn (ha Ex mt pins s U H _ I h) λu s1 ⟨x,H1,I1,r1,q1⟩=>fC ?_)
 exact thn (at7 hc I1 r1 q1) λv s2 q=>fC q
theorem Um {a:Expr} {da:DE} {p2 pos2:Pos} (hc:X.calm=true) (hg:Gl X "list") (hm:X.mg "list" = none) (hg2:Gl X "range") (hm2:X.mg "range" = none) (ha:QE X a da) (hs:noStar a=true) :
  QE X (.Call (.Name "list" p) [.Call (.Name "range" p2) [a] [] pos2] [] pos) (dUn La da):=by
 intro Ex mt pins s U H Q I h
 refine bO (Dh I hg hm gL (b5 (fc ?_) rfl rfl) (by decide) (by decide))
 refine bO (Dh I hg2 hm2 boot_range (b5 ?_ (Au hs [] X.env) rfl) (by decide) (by decide))
 rw[Au hs]
 show aN _ _ (spliced ((false,eval a X.env)::je pos2 (cS [] X.env))) _ _ s
 refine fc (thn (ha Ex mt pins s U H _ I h) λu s1 ⟨x,H1,I1,r1,q1⟩=>fC ?_)
 cases x with
 |int n=>
  obtain⟨t,rfl⟩:=r1
  exact thn (af0 hc I1 q1.1 q1.2.1 q1.2.2) λv s2 q=>fC q
 |_=>exact (show False from q1).elim
end
noncomputable def QI (X:Cx) (tg e:Expr) (t:DI):Prop:=∀ Ex,Meets X Ex->PI X tg e (λU H R=>t U H R (Ex U))
noncomputable def iNo:DI:=λ_ _ _ _=>False
noncomputable def onD (p:Addr) (H:Hp) (R:Obj->List (Key×V)->Hp->Prop):Prop:=(∃ kvs,H p=some (.dK kvs) /\ ∀ o,R o kvs (upd H p (.frz o (.dK kvs)))) \/ ∃ o kvs,H p=some (.frz o (.dK kvs))/\R o kvs H
theorem ah1 {X:Cx} {pins:List (Addr×Obj)} {U:St} {H:Hp} {s:aj} {p:Addr} {R:Obj->List (Key×V)->Hp->Prop} (I:Inv X pins U H s) (h:onD p H R):∃ o kvs H',Inv X pins U H' s/\H' p=some (.frz o (.dK kvs))/\R o kvs H':=by
 rcases h with ⟨kvs,e,q⟩|⟨o,kvs,e,q⟩
 .obtain⟨o,ep,_,_,I'⟩:=I.froze e
  exact⟨o,kvs,_,I',Ab,q o⟩
 .exact⟨o,kvs,H,I,e,q⟩
noncomputable def Bq (K:ac) (a:DE):DI:=λU H R E=>a U H (λx H1=>match x with
 |.str z=>R (Its z) H1
 |.ref p=>((∃ xs,SqL K H1 p xs)/\R (Itl K p) H1)\/((∃ xs,SqT K H1 p xs)/\R (Itt K p) H1)\/(onD p H1 λo kvs H2=>R (Itd p o kvs) H2) \/ ∃ kvs,H1 p=some (.dT kvs) /\ ∀ o,R (ar1 p o kvs) (upd H1 p (.frz o (.dT kvs)))
 |_=>False) E
noncomputable def F4 (t:DA):DI:=λU H R E=>t U H (λvs H1=>match vs with
 |[.int j]=>(-(2 ^ 62)<=j/\j<2 ^ 62)/\R (Itr 0 j.toNat) H1
 |[.int i,.int j]=>(-(2 ^ 62)<=i/\i<2 ^ 62 /\ -(2 ^ 62)<=j/\j<2 ^ 62)/\R (Itr i (j - i).toNat) H1
 |_=>False) E
noncomputable def iEn (K:ac) (t:DA):DI:=λU H R E=>t U H (λvs H1=>match vs with
 |[.ref a]=>((∃ xs,SqL K H1 a xs)/\R (Ite K a) H1)\/onD a H1 λo kvs H2=>R (aa1 a o kvs) H2
 |_=>False) E
section
variable {X:Cx} {tg e a b:Expr} {da:DE} {r:DA} {p pos:Pos}
theorem a23:QI X tg e iNo:=λ_ _ _ _ _ _ _ _ h=>h.elim
theorem aj9 (ha:QE X e da):QI X tg e (Bq X.K da):=by
 intro Ex mt pins s U H R I h
 refine thn (ha Ex mt pins s U H _ I h) λv s1 ⟨x,H1,I1,r1,q1⟩=>?_
 cases x with
 |str z=>
  obtain⟨t,rfl⟩:=r1
  refine wpAny_pyIter_strU ?_
  refine⟨s1.heap.objs.size,[s1.heap.objs.size],_,_,H1,rfl,I1.kept (t':=s1.toks) λb o e=>ag _ e,ao6 s1.heap.objs.size z t (strIterType z) (by unfold strIterType;split <;> simp),⟨_,az _ rfl,rfl,rfl⟩,λb hb=>?_,q1⟩
  have e:b=s1.heap.objs.size:=by simpa using hb
  subst e
  exact I1.fpOk (ai _) (I1.hok.fresh (ai _))
 |ref a=>
  cases r1
  rcases q1 with ⟨⟨xs,hq⟩,q⟩|⟨⟨xs,hq⟩,q⟩|q|⟨kvs,hq,q⟩
  .obtain⟨its,rv,p,hz⟩:=I1.list hq
   refine jj p.isList ?_
   refine⟨s1.heap.objs.size,[s1.heap.objs.size],_,_,H1,rfl,I1.kept (t':=s1.toks) λb o e=>ag _ e,Zc a _,⟨_,az _ rfl,rfl,rfl⟩,λb hb=>?_,q⟩
   have e:b=s1.heap.objs.size:=by simpa using hb
   subst e
   exact I1.fpOk (ai _) (I1.hok.fresh (ai _))
  .obtain⟨its,rv,p,hz⟩:=I1.tuple hq
   refine wpAny_pyIter_tuple (show s1.heap.IsTuple a its.toArray from p) ?_
   refine⟨s1.heap.objs.size,[s1.heap.objs.size],_,_,H1,rfl,I1.kept (t':=s1.toks) λb o e=>ag _ e,Vt a _,⟨_,az _ rfl,rfl,rfl⟩,λb hb=>?_,q⟩
   have e:b=s1.heap.objs.size:=by simpa using hb
   subst e
   exact I1.fpOk (ai _) (I1.hok.fresh (ai _))
  .obtain⟨o,kvs,H2,I2,e,q⟩:=ah1 I1 q
   exact as3 I2 e q
  .exact bl6 I1 hq q
 |_=>exact (show False from q1).elim
variable {es:List Expr}
theorem aj8 (hg:Gl X "range") (hm:X.mg "range" = none) (ha:QA X (a::es) r) (hs:(a::es).all noStar=true):QI X tg (.Call (.Name "range" p) (a::es) [] pos) (F4 r):=by
 intro Ex mt pins s U H R I h
 have h2:=bR▸hs
 rw[aE] at h2
 refine Call_ (Dh I hg hm boot_range (b5 (thn (ha Ex mt pos pins s U H _ I h) λus s1 ⟨vs,H1,I1,r1,q1⟩=>?_) (Au h2.1 es X.env) (Bl h2.2 X.env pos)))
 dsimp only at q1
 split at q1
 .obtain⟨⟨h1,h2⟩,q⟩:=q1
  obtain⟨u,rfl,t,rfl⟩:=Dl r1
  exact call_range_1 (Rv I1 (by first|exact ai _|exact bw _ _|omega|(dsimp only;omega)) (by omega) (by omega) h1 h2 (by simpa using q))
 .obtain⟨⟨h1,h2,h3,h4⟩,q⟩:=q1
  obtain⟨u,v,rfl,⟨t,rfl⟩,⟨t',rfl⟩⟩:=bx4 r1
  exact call_range_2 (Rv I1 (by first|exact ai _|exact bw _ _|omega|(dsimp only;omega)) h1 h2 h3 h4 q)
 .exact q1.elim
theorem ax3 {elts:List Expr} {kt:Nat} {pt:Pos} (hg:Gl X "enumerate") (hm:X.mg "enumerate" = none) (ha:QA X (a::es) r) (hs:(a::es).all noStar=true):QI X (.Tuple elts kt pt) (.Call (.Name "enumerate" p) (a::es) [] pos) (iEn X.K r):=by
 intro Ex mt pins s U H R I h
 have hh:=bR▸hs
 rw[aE] at hh
 refine Call_ (Dh I hg hm boot_enumerate (b5 (thn (ha Ex mt pos pins s U H _ I h) λus s1 ⟨vs,H1,I1,r1,q1⟩=>?_) (Au hh.1 es X.env) (Bl hh.2 X.env pos)))
 dsimp only at q1
 split at q1
 .rename_i l
  obtain⟨u,rfl,ru⟩:=Dl r1
  cases ru
  rcases q1 with ⟨⟨xs,q1⟩,q⟩|q
  case inr=>
   obtain⟨o,kvs,H2,I2,e,q⟩:=ah1 I1 q
   exact ac7 I2 e q
  obtain⟨its1,t1,p1,z1⟩:=I1.list q1
  refine call_enumerate_list p1.isList λh' he hit hsz hk=>?_
  refine gZ he ?_
  refine⟨_,_,_,_,H1,rfl,I1.kept (t':=s1.toks) hk,Zb (Nat.succ_ne_self _),⟨⟨_,he⟩,hit⟩,λb hb=>?_,q⟩
  have hb:b=s1.heap.objs.size+1\/b=s1.heap.objs.size:=by simpa using hb
  have le:s1.heap.objs.size<=b:=by
   rcases hb with e|e
   .rw[e];exact bw _ 1
   .rw[e];exact ai _
  exact I1.fpOk le (I1.hok.fresh le)
 .exact q1.elim
noncomputable def gNo:DG:=λ_ _ _ _=>False
def gdS:List DG->List V->St->Hp->(St->Hp->Prop)->Prop
 |[],[],U,H,Q=>Q U H
 |g::gs,v::vs,U,H,Q=>g v U H λU' H'=>gdS gs vs U' H' Q
 |_,_,_,_,_=>False
noncomputable def gdT (K:ac) (n:Nat) (gs:List DG):DG:=λv U H Q=>match v with
 |.ref a=>∃ xs,(SqT K H a xs\/SqL K H a xs)/\xs.length=n/\gdS gs xs U H Q
 |_=>False
theorem Rn:PG X tg gNo:=λ_ _ _ _ _ _ _ _ _ h=>h.elim
theorem br6:PGs X [] (gdS []):=by
 intro pins s U H vs us Q I r h
 cases vs with
 |nil=>exact av5 pins s U H [] us Q I r ⟨rfl,h⟩
 |cons v vs=>exact (show False from h).elim
theorem br5 {g:DG} {gs:List DG} {ts:List Expr} (h1:PG X tg g) (h2:PGs X ts (gdS gs)) (hs:(c7 (tg::ts) X.env).map (·.2)=lY tg X.env::(c7 ts X.env).map (·.2)):PGs X (tg::ts) (gdS (g::gs)):=by
 intro pins s U H vs us Q I r h
 cases vs with
 |nil=>exact (show False from h).elim
 |cons v vs=>exact ah9 h1 h2 hs pins s U H (v::vs) us Q I r ⟨v,vs,rfl,h⟩
theorem by9 {ts:List Expr} {k n:Nat} {gs:List DG} (hc:X.calm=true) (h:PGs X ts (gdS gs)) (hn:(c7 ts X.env).length=n) (hst:(c7 ts X.env).findIdx? (·.1)=none):PG X (.Tuple ts k pos) (gdT X.K n gs):=by
 intro pins s U H v u Q I r hw
 cases v with
 |ref a=>
  obtain⟨xs,h1|h1,h2,h3⟩:=hw
  .exact be8 hc h hn hst pins s U H _ u Q I r ⟨a,xs,rfl,h1,h2,h3⟩
  cases r
  obtain⟨its,rv,pl,_⟩:=I.list h1
  rw[assign_Tuple]
  refine af (eY ?_)
  unfold unpack
  rw[hst,show (c7 ts X.env).length=its.toArray.size by rw[hn,<- h2,rv.length];rfl]
  refine af (bF (PySem.W.kun_itemsOf (I.ok.hd hc) pl.isList λh' hx=>?_))
  have I1:Inv X pins U H { s with heap:=h' }:=I.kept (t':=s.toks) λb o e=>hx b o (aQ (aA e)) e
  exact h pins _ U H xs _ Q I1 (by simpa using rv) h3
 |_=>exact (show False from hw).elim
end
noncomputable def Sr (K:ac) (a:Addr) (n:Nat):It:=
 ⟨λi H=>i<n /\ ∃ xs,SqL K H a xs/\xs.length=n,λi H x H'=>H'=H /\ ∀ xs,SqL K H a xs->xs[n - 1 - i]? = some x,λi _=>n<=i⟩
theorem ao5 {P:aS} {w:bz} {K:ac} {tg:Expr} (a it:Addr) (n:Nat):Lz P w K tg (Sr K a n) [it] it (λi h=>i<=n/\h.IsRevIter it a ((n:Int) - 1 - (i:Int))) where
 mem:=by simp
 obj:=λi h st b hb=>by
  have e:b=it:=by simpa using hb
  subst e
  obtain⟨_,o,e,c,d⟩:=st
  exact⟨o,e,λv z=>by rw[d] at z;cases z⟩
 keep:=λi h h' st k=>⟨st.1,by
  obtain⟨_,o,e,c,d⟩:=st
  exact⟨o,k it (by simp) o e,c,d⟩⟩
 item:=by
  intro X hP hw hK hc i pins s U H E I hf st hg
  subst hP hw hK
  obtain⟨hi,xs,hq,hl⟩:=hg
  obtain⟨its,rv,p,hz⟩:=I.list hq
  have hx:xs[n - 1 - i]? = some (xs[n - 1 - i]'(by omega)):=ah _
  obtain⟨u,hu,ru⟩:=rv.get hx
  obtain⟨f0,f1,f2,f3,f4,f5⟩:=hf it (by simp)
  have e0:(n:Int) - 1 - (i:Int)=((n - 1 - i:Nat):Int):=by omega
  have st2:=st.2
  rw[e0] at st2
  refine wpAny_pyNext_rev_item st2 p.isList (x:=u) (by simpa using hu) λh' st' sb=>?_
  have I1:Inv X pins U H { s with heap:=h' }:=I.turned (t':=s.toks) (λb o hb e=>(sb.2 b hb).trans e) f0 f1 f3 f4 f5
  obtain⟨o,e,c,d⟩:=id st'
  refine⟨u,rfl,Km (s:={ s with heap:=h' }) e c d (by decide) ⟨_,H,I1,ru,⟨rfl,λys hy=>by rw[I.list_inj hy hq];exact hx⟩,⟨hi,?_⟩,λb hb=>(hf b hb).1⟩⟩
  rw[show (n:Int) - 1 - ((i+1:Nat):Int)=((n - 1 - i:Nat):Int) - 1 by omega]
  exact st'
 done:=by
  intro X hP hw hK hc i pins s U H E I hf st hg
  subst hP hw hK
  obtain⟨f0,f1,f2,f3,f4,f5⟩:=hf it (by simp)
  have hg:n<=i:=hg
  have st2:=st.2
  rw[show (n:Int) - 1 - (i:Int) = -1 by have:=st.1;omega] at st2
  exact wpAny_pyNext_rev_end (I.ok.hd hc) st2 λh' eb=>⟨rfl,I.turned (t':=s.toks) (λb o hb e=>eb b o hb e) f0 f1 f3 f4 f5⟩
 self:=λ_ _ _ _ _ st h=>kH st.2 h
noncomputable def a70 (K:ac) (a:DE):DI:=λU H R E=>a U H (λx H1=>match x with
 |.ref p=>∃ xs,SqL K H1 p xs/\R (Sr K p xs.length) H1
 |_=>False) E
theorem ab0:cQ "reversed" = some (.type "reversed"):=by decide +kernel
theorem bh0 {X:Cx} {tg a:Expr} {da:DE} {p pos:Pos} (hg:Gl X "reversed") (hm:X.mg "reversed" = none) (ha:QE X a da) (hs:noStar a=true):QI X tg (.Call (.Name "reversed" p) [a] [] pos) (a70 X.K da):=by
 intro Ex mt pins s U H R I h
 have hA:QA X [a] (Ac da Ag):=Pg ha Ul hs
 refine Call_ (Dh I hg hm ab0 (b5 (thn (hA Ex mt pos pins s U H (λvs H1=>∃ x,vs=[x]/\(match x with | .ref p=>∃ xs,SqL X.K H1 p xs/\R (Sr X.K p xs.length) H1|_=>False)) I ?_) λus s1 ⟨vs,H1,I1,r1,q1⟩=>?_) (Au hs [] X.env) rfl))
 .have h2:da U H (λx H1=>∃ y,[x]=[y]/\(match y with | .ref p=>∃ xs,SqL X.K H1 p xs/\R (Sr X.K p xs.length) H1|_=>False)) (Ex U):=by
   have e:(λ(x:V) (H1:Hp)=>∃ y,[x]=[y]/\(match y with | .ref p=>∃ xs,SqL X.K H1 p xs/\R (Sr X.K p xs.length) H1|_=>False))=λx H1=>(match x with | .ref p=>∃ xs,SqL X.K H1 p xs/\R (Sr X.K p xs.length) H1|_=>False):=by
    funext x H1
    apply propext
    constructor
    .rintro⟨y,e,h⟩
     cases e
     exact h
    .exact λh=>⟨x,rfl,h⟩
   rw[e]
   exact h
  exact h2
 .obtain⟨x,rfl,q⟩:=q1
  obtain⟨u,rfl,ru⟩:=Dl r1
  cases x with
  |ref l=>
   cases ru
   obtain⟨xs,hq,q⟩:=q
   obtain⟨its,rv,pl,hz⟩:=I1.list hq
   refine call_reversed_list pl.isList ?_
   have e:((its.toArray.size:Nat):Int) - 1=(xs.length:Int) - 1 - ((0:Nat):Int):=by rw[av,rv.length];omega
   rw[e]
   have st:(s1.heap.push (revObj l ((xs.length:Int) - 1 - ((0:Nat):Int)))).IsRevIter s1.heap.objs.size l ((xs.length:Int) - 1 - ((0:Nat):Int)):=⟨_,az _ rfl,rfl,rfl⟩
   refine kH st ?_
   refine⟨s1.heap.objs.size,[s1.heap.objs.size],_,_,H1,rfl,I1.kept (t':=s1.toks) λb o e=>ag _ e,ao5 l s1.heap.objs.size xs.length,⟨bx _,st⟩,λb hb=>?_,q⟩
   have e:b=s1.heap.objs.size:=by simpa using hb
   subst e
   exact I1.fpOk (ai _) (I1.hok.fresh (ai _))
  |_=>exact (show False from q).elim
noncomputable def Cm (cs:List (Str×Addr)):List (Str×cx)->List (Str×Addr)->List (Str×Addr)
 |[],acc=>acc
 |(n,k)::r,acc=>if k==.free then Cm cs r ((n,(cs.lookup n).getD 0)::acc) else Cm cs r acc
theorem L8 {scope:Scope} {env:Env} (h:∀ y∈scope.names,y.2=.free -> ∃ c,env.cells.lookup y.1=some c):kq scope env=pure (Cm env.cells scope.names []):=by
 unfold kq
 generalize scope.names=names at h
 suffices ∀ acc,(forIn names acc λ(x:Str×cx) cs=>do
   if (x.2==.free)=true then do
    let c <- cellOf env x.1
    pure (fv ((x.1,c)::cs))
   else pure (fv cs):Sem (List (Str×Addr)))=pure (Cm env.cells names acc) by
  have:=this []
  simp only[bind_pure]
  exact this
 induction names with
 |nil=>intro acc;rfl
 |cons y r ih=>
  intro acc
  obtain⟨n,k⟩:=y
  rw[List.forIn_cons]
  unfold Cm
  by_cases e:(k==eQ)=true
  .obtain⟨c,hc⟩:=h (n,k) (by simp) (ck e)
   have ec:cellOf env n=pure c:=by
    unfold cellOf
    rw[show env.cells.lookup n=some c from hc]
   simp only[e,if_true,ec,pure_bind]
   rw[ih (λy hy=>h y (aB _ hy))]
   rw[show env.cells.lookup n=some c from hc]
   rfl
  .have e':(k==eQ)=false:=by simpa using e
   simp only[e',bH,if_false,pure_bind]
   rw[ih (λy hy=>h y (aB _ hy))]
theorem Hm {cs:List (Str×Addr)}:∀ {names:List (Str×cx)} {acc:List (Str×Addr)} {p:Str×Addr},p∈Cm cs names acc->p∈acc\/((p.1,eQ)∈names/\p.2=(cs.lookup p.1).getD 0)
 |[],_,_,h=>.inl h
 | (n,k)::r,acc,p,h=>by
  unfold Cm at h
  by_cases e:(k==eQ)=true
  .rw[if_pos e] at h
   rcases Hm h with h|⟨h1,h2⟩
   .rcases List.mem_cons.mp h with h|h
    .subst h
     exact .inr ⟨by rw[ck e];simp,rfl⟩
    .exact .inl h
   .exact .inr ⟨aB _ h1,h2⟩
  .rw[if_neg e] at h
   rcases Hm h with h|⟨h1,h2⟩
   .exact .inl h
   .exact .inr ⟨aB _ h1,h2⟩
theorem Hl {cs:List (Str×Addr)}:∀ {names:List (Str×cx)} {acc:List (Str×Addr)} {p:Str×Addr},p∈acc->p∈Cm cs names acc
 |[],_,_,h=>h
 | (n,k)::r,acc,p,h=>by
  unfold Cm
  split
  .exact Hl (aB _ h)
  .exact Hl h
theorem M6 {cs:List (Str×Addr)}:∀ {names:List (Str×cx)} {acc:List (Str×Addr)} {n:Str},(n,eQ)∈names->n∈(Cm cs names acc).map (·.1)
 |[],_,_,h=>by cases h
 | (m,k)::r,acc,n,h=>by
  unfold Cm
  rcases List.mem_cons.mp h with e|h
  .cases e
   rw[if_pos (show (eQ==eQ)=true from rfl)]
   exact List.mem_map.mpr ⟨_,Hl (aT),rfl⟩
  .split <;> exact M6 h
def Rw (sc:List (Str×cx)) (names:List (Str×cx)):List (Str×cx):=names.map λ(n,k)=>if (k==.free&&sc.lookup n==some .cell) then (n,.cell) else (n,k)
def Q8 (names:List (Str×cx)):List Str:=(names.filter λy=>(y.2==.local) && !(y.1==(".0" : Str))).map (·.1)
def To (names:List (Str×cx)):List Str:=(names.filter λy=>y.2==.free).map (·.1)
def cfV (o:Option cx):Bool:=o==some .cell||o==some .free
def Cn (G:Sg) (names:List (Str×cx)):Sg:={ G with N:=Q8 names++To names,sc:=Rw G.sc names,top:=false }
def Fm (G:Sg) (names:List (Str×cx)):List (Option Nat):=(Q8 names).map (λ_=>none)++(To names).map (λx=>Cf G.N x 0)
noncomputable def E2 (G:Sg) (sc:Scope):Bool:=
 (sc.names.all λy=>!(y.2==.cell))&&(sc.names.all λy=>!(y.2==.local)||(sc.names.lookup y.1==some .local))&&(sc.kind==.function) &&
 decide (Q8 sc.names++To sc.names).Nodup&&((To sc.names).all λx=>(Cf G.N x 0).isSome&&cfV (G.sc.lookup x)&&cfV ((Rw G.sc sc.names).lookup x)) &&
 ((Q8 sc.names).all λx=>(Rw G.sc sc.names).lookup x==some .local)
section
variable {X:Cx} {G:Sg} {sc:Scope}
theorem Gn {o:Option cx} (h:cfV o=true):o=some .cell\/o=some .free:=by
 unfold cfV at h
 rw[cI] at h
 exact h.elim (λe=>.inl (ck e)) λe=>.inr (ck e)
theorem Ga (O:GOk X G):(iV sc X.env).names=Rw G.sc sc.names:=by
 unfold iV Rw
 apply bU
 rintro⟨n,k⟩ _
 have e:X.env.kindOf n=G.sc.lookup n:=O.sc n
 dsimp only
 rw[e,O.kind]
 simp
theorem Oh (O:GOk X G) (h:E2 G sc=true):J9 X (Cn G sc.names).N (Fm G sc.names) sc (Cm X.env.cells sc.names []):=by
 unfold E2 at h
 simp only[aE,be,gO,decide_eq_true_eq,cI] at h
 obtain⟨⟨⟨⟨⟨h1,h2⟩,h3⟩,h4⟩,h5⟩,h6⟩:=h
 have fr:∀ y∈sc.names,y.2=.free -> ∃ c,X.env.cells.lookup y.1=some c:=λy hy hf=>by
  refine O.cel y.1 ?_
  rw[O.sc]
  refine Gn (h5 y.1 ?_).1.2
  exact List.mem_map.mpr ⟨y,List.mem_filter.mpr ⟨hy,by rw[hf];rfl⟩,rfl⟩
 have nc:∀ y∈sc.names,y.2≠.cell:=λy hy e=>by
  have:=h1 y hy
  rw[e] at this
  cases this
 refine⟨L8 fr,nc,ck h3,λy hy hl=>?_,λx c hx=>?_,λx hx=>?_,?_,λk j x e1 e2=>?_⟩
 .rcases h2 y hy with z|z
  .rw[hl] at z;cases z
  .exact ck z
 .have hm:=bQ hx
  rcases Hm hm with z|⟨z1,z2⟩
  .cases z
  .obtain⟨c',hc'⟩:=fr _ z1 rfl
   have z2':c=(X.env.cells.lookup x).getD 0:=z2
   rw[show X.env.cells.lookup x=some c' from hc'] at z2' ⊢
   rw[z2']
   rfl
 .have hn:(iV sc X.env).names=Rw G.sc sc.names:=Ga O
  have key:∀ kd,(iV sc X.env).names.lookup x=some kd->cfV (some kd)=true -> ∃ c,(Cm X.env.cells sc.names []).lookup x=some c:=λkd hkd hc=>by
   rw[hn] at hkd
   have hm:=bQ hkd
   unfold Rw at hm
   obtain⟨⟨n,k⟩,hy,e⟩:=List.mem_map.mp hm
   dsimp only at e
   have hfree:k=.free/\n=x:=by
    have hkc:=nc _ hy
    by_cases e1:(k==eQ&&G.sc.lookup n==some .cell)=true
    .rw[if_pos e1] at e
     rw[aE] at e1
     exact⟨ck e1.1,congrArg Prod.fst e⟩
    .rw[if_neg e1] at e
     cases e
     rcases Gn hc with z|z
     .exact absurd (aD z) hkc
     .exact⟨aD z,rfl⟩
   obtain⟨rfl,rfl⟩:=hfree
   exact af3 (M6 hy)
  rcases hx with hx|hx
  .exact key _ hx rfl
  .exact key _ hx rfl
 .unfold Fm Cn
  simp
 .have e1':(Q8 sc.names++To sc.names)[k]? = some x:=e1
  have e2':((Q8 sc.names).map (λ_=>(none:Option Nat))++(To sc.names).map (λx=>Cf G.N x 0))[k]? = some (some j):=e2
  by_cases hlt:k<(Q8 sc.names).length
  .rw[bT (by simpa using hlt),am] at e2'
   cases q:(Q8 sc.names)[k]? with
   |none=>rw[q] at e2';cases e2'
   |some z=>rw[q] at e2';cases e2'
  .rw[bD (by simpa using hlt)] at e1' 
   rw[bD (by simpa using hlt),ae,am,e1'] at e2'
   have hs:Cf G.N x 0=some j:=aD e2'
   have hx:x∈To sc.names:=ak e1'
   obtain⟨⟨_,c1⟩,c2⟩:=h5 x hx
   refine⟨by rw[O.N];exact Ea hs,?_,?_⟩
   .rw[O.sc];exact Gn c1
   .rw[Ga O];exact Gn c2
theorem We (O:GOk X G) (h:E2 G sc=true) (fp:List Addr) (C:Addr) (s:aj) (H:Hp) (xe:Value->aj->Prop) :
  GOk (X.comp (Cn G sc.names).N sc (Cm X.env.cells sc.names []) fp C s H xe) (Cn G sc.names):=by
 have S:=Oh O h
 unfold E2 at h
 simp only[aE,be,gO,decide_eq_true_eq,cI] at h
 obtain⟨⟨⟨⟨⟨h1,h2⟩,h3⟩,h4⟩,h5⟩,h6⟩:=h
 have hn:(iV sc X.env).names=Rw G.sc sc.names:=Ga O
 refine⟨O.K,ck h3,(λz=>by cases z),rfl,h4,λx=>?_,λx hx=>?_,λz=>(by cases z),O.calm,O.hd,O.units,λx hx=>S.has x hx,λx g e=>?_,O.bl,λz=>(by cases z),O.fr⟩
 .show (iV sc X.env).names.lookup x=_
  rw[hn]
  rfl
 .show Vis (iV sc X.env) x
  unfold Vis
  rw[hn]
  rcases List.mem_append.mp hx with q|q
  .exact .inl (ck (h6 x q))
  .exact .inr (Gn (h5 x q).2)
 .refine GBOk.to (X:=X) ?_ ?_ ?_ ?_ ?_ ?_ (O.gb x g e)
  .rfl
  .rfl
  .rfl
  .rfl
  .exact λ_ r=>r
  .exact λi F=>⟨F.kp,F.ok,F.room,F.binds,F.vals⟩
end
def Ke:St->Hp->(Option Int->Hp->Prop)->EK->Prop:=λ_ H Q _=>Q none H
def Kd (a:DE):St->Hp->(Option Int->Hp->Prop)->EK->Prop:=λU H Q E=>a U H (λx H1=>match x with
 |.int i=>Q (some i) H1
 |_=>False) E
abbrev DO:=St->Hp->(Option Int->Hp->Prop)->EK->Prop
noncomputable def bz4 (K:ac):V->Option Int->Option Int->Hp->VK->Prop:=λx lo hi H Q=>match x with
 |.str z=>z.length<=sizeLine/\Q (.str (Txt.slice z lo hi)) H
 | .ref a=>(∃ xs,SqL K H a xs /\ ∀ p,H p=none->Q (.ref p) (upd H p (.lst (Tj xs lo hi)))) \/
   False
 |_=>False
noncomputable def dSl (K:ac) (a:DE) (l h:DO):DE:=λU H Q E=>a U H (λx H1=>l U H1 (λlo H2=>h U H2 (λhi H3=>bz4 K x lo hi H3 Q) E) E) E
noncomputable def QO (X:Cx) (e:Option Expr) (t:DO):Prop:=∀ Ex,Meets X Ex->PO X e (λU H Q=>t U H Q (Ex U))
section
variable {X:Cx} {G:Sg} {e:Expr} {de:DE} {lo hi:Option Expr} {dl dh:DO} {pos p2:Pos}
theorem Wz:QO X none Ke:=λ_ _=>av6
theorem W0 (h:QE X e de):QO X (some e) (Kd de):=by
 intro Ex m pins s U H Q I hw
 rw[evalPart_some]
 refine thn (h Ex m pins s U H _ I hw) λu s1 ⟨x,H1,I1,r1,q1⟩=>?_
 cases x with
 |int i=>obtain⟨t,rfl⟩:=r1;exact⟨some i,H1,I1,.int i t,q1⟩
 |_=>exact (show False from q1).elim
theorem O9 (e:Expr) (z:Str) (t:Tok) (r:Value):letTemporaryGo e (.str z t) r=pure ():=by
 cases e <;> rfl
theorem aj7 (he:QE X e de) (hl:QO X lo dl) (hh:QO X hi dh):QE X (.Subscript e (.Slice lo hi none p2) pos) (dSl X.K de dl dh):=by
 intro Ex m pins s U H Q I h
 refine Subscript_ (thn (he Ex m pins s U H _ I h) λv s1 ⟨x,H1,I1,r1,q1⟩=>?_)
 refine wpAny_Slice (thn (hl Ex m pins s1 U H1 _ I1 q1) λvl s2 ⟨l,H2,I2,pl,q2⟩=>thn (hh Ex m pins s2 U H2 _ I2 q2) λvu s3 ⟨u,H3,I3,pu,q3⟩=>?_)
 rw[evalPart_none]
 refine aq ?_
 show aN (model X.prog X.w) X.A (lH e (.Slice lo hi none p2) v (.ref s3.heap.objs.size)) (EP X pins U Q) X.xe { s3 with heap:=s3.heap.push { cls:=.type "slice", data:=.fields #[vl,vu,.none] } }
 have I4:Inv X pins U H3 { s3 with heap:=s3.heap.push { cls:=.type "slice", data:=.fields #[vl,vu,.none] } }:=I3.kept (t':=s3.toks) λb ob q=>ag _ q
 have gen:∀ r,SlR X r->r x l u H3 Q->aN (model X.prog X.w) X.A (lH e (.Slice lo hi none p2) v (.ref s3.heap.objs.size)) (EP X pins U Q) X.xe { s3 with heap:=s3.heap.push { cls:=.type "slice", data:=.fields #[vl,vu,.none] } }:=λr hr q=>by
  obtain⟨T,id,hT,ht,hg⟩:=hr pins _ U H3 x v vl vu l u s3.heap.objs.size Q I4 r1 (Heap.IsSliceOf.new ..) pl pu q
  exact tail_any (ops:=[.ref s3.heap.objs.size,v]) ht hT hg (by with_unfolding_all rfl)
 cases x with
 |str z=>
  obtain⟨hz,q⟩:=q3
  obtain⟨t,rfl⟩:=r1
  have hk:KeptH (λh=>Inv X pins U H3 { s3 with heap:=h }):=λh ob J=>J.kept (t':=s3.toks) λb o eb=>ag _ eb
  have fin:∀ h' t' k,Inv X pins U H3 { s3 with heap:=h' }->(λ(a:Value) (s':aj)=>s3.toks<=s'.toks->EP X pins U Q a s') (.str (Txt.slice z l u) t') { s3 with heap:=h',toks:=k }:=λh' t' k J htk=>⟨.str _,H3,J.tok k htk,⟨_,rfl⟩,q⟩
  refine bG (n:=s3.toks) (ai _) ?_
  cases pl with
  |none=>
   cases pu with
   |none=>exact iW (SBH.sliceItem_nn hk I3 fin hz) (by with_unfolding_all rfl) (O9 e z t)
   |int j uj=>exact iW (SBH.sliceItem_ns hk I3 fin hz) (by with_unfolding_all rfl) (O9 e z t)
  |int i ui=>
   cases pu with
   |none=>exact iW (SBH.sliceItem_sn hk I3 fin hz) (by with_unfolding_all rfl) (O9 e z t)
   |int j uj=>exact iW (SBH.sliceItem_ss hk I3 fin hz) (by with_unfolding_all rfl) (O9 e z t)
 |ref a=>
  rcases q3 with ⟨xs,h1,h2⟩|h
  .exact gen _ az2 ⟨a,xs,rfl,h1,h2⟩
  .exact h.elim
 |_=>exact (show False from q3).elim
def K0:Expr->Bool
 |.Set _ _ _=>false
 |_=>true
theorem K2 {e:Expr} (h:K0 e=true) (env:Env) (x:Value):fH e env x=pure x:=by
 cases e with
 |Set _ _ _=>cases h
 |_=>rfl
theorem Gx:Meets X (λ_ _ _=>False):=λ_ _ _ _ _ _ _ h=>h.elim
variable {tg iter elt:Expr} {ifs:List Expr} {sc:Scope} {wi:DI} {g:DG} {tc:DT}
def Uh (G:Sg) (x:Str):Bool:=(G.sc.lookup x==some .local)||(G.top&&(G.sc.lookup x==some .cell))
noncomputable def wG:Nat->Sg->Expr->DG
 |0,_,_=>gNo
 | n+1,G,e=>match e with
  | .Name x _=>match Cf G.N x 0 with
   |some i=>if Uh G x=true then gdN i else gNo
   |none=>gNo
  |.Tuple ts _ _=>if G.calm=true/\ts.all noStar=true then gdT G.K ts.length (ts.map (wG n G)) else gNo
  |_=>gNo
theorem Pb (O:GOk X G) {x:Str} (h:Uh G x=true):Loc X.env.scope x/\(X.fn x=true\/X.env.scope.names.lookup x=some .local):=by
 unfold Uh at h
 rw[cI,aE] at h
 rcases h with h|⟨h1,h2⟩
 .have:X.env.scope.names.lookup x=some .local:=by rw[O.sc];exact ck h
  exact⟨.inl this,.inr this⟩
 .have:X.env.scope.names.lookup x=some .cell:=by rw[O.sc];exact ck h2
  exact⟨.inr this,.inl (O.top h1 x)⟩
theorem Es {e:Expr} (h:noStar e=true) (es:List Expr) (env:Env):c7 (e::es) env=(false,lY e env)::c7 es env:=by
 cases e with
 |Starred _ _=>cases h
 |_=>rfl
theorem Kb {es:List Expr} (h:es.all noStar=true) (env:Env):(c7 es env).length=es.length/\(c7 es env).findIdx? (·.1)=none:=by
 induction es with
 |nil=>exact⟨rfl,rfl⟩
 |cons e es ih=>
  rw[bR,aE] at h
  obtain⟨h1,h2⟩:=ih h.2
  rw[Es h.1]
  refine⟨by rw[aO,aO,h1],?_⟩
  rw[List.findIdx?_cons,h2]
  rfl
theorem So:∀ (n:Nat) (X:Cx) (G:Sg),GOk X G -> ∀ e,PG X e (wG n G e)
 |0,_,_,_,_=>Rn
 | n+1,X,G,O,e=>by
  cases e with
  |Name x p=>
   unfold wG
   dsimp only
   split
   .rename_i i e
    split
    .rename_i h
     obtain⟨h1,h2⟩:=Pb O h
     exact av4 (by rw[O.N];exact O.nd) (by rw[O.N];exact Ea e) h1 h2
    .exact Rn
   .exact Rn
  |Tuple ts k p=>
   unfold wG
   dsimp only
   split
   .rename_i h
    obtain⟨h1,h2⟩:=h
    obtain⟨h3,h4⟩:=Kb h2 X.env
    rw[<- O.K]
    refine by9 (O.calm▸h1) ?_ h3 h4
    clear h3 h4
    induction ts with
    |nil=>exact br6
    |cons t ts ih=>
     rw[bR,aE] at h2
     refine br5 (So n X G O t) (ih h2.2) ?_
     rw[Es h2.1]
     rfl
   .exact Rn
  |_=>exact Rn
end
end L2
namespace L2
open PySem PySem.Spec
structure V3 (l:List Addr) (e C:Addr) (dx:Option Addr) (h h':Heap):Prop where
 exc:∃ (vs':Array Value) (T:Addr) (oT:Obj) (ts':Array Value),h'.get? e=some (Aq C dx vs')/\vs'.size=6/\vs'[1]? = some (.ref T)/\h.objs.size<=T/\T≠e/\h'.get? T=some oT/\oT.data=.fields ts'/\3<ts'.size /\ ∀ vs,h.get? e=some (Aq C dx vs)->vs'[2]? = vs[2]?
 keep:∀ b o,b≠e->b∉l->h.get? b=some o->h'.get? b=some o
 slot:∀ b o,b≠e->h.get? b=some o -> ∃ sl,h'.get? b=some { o with slots:=sl }
abbrev tbO (fs:Array Value):Obj:={ cls:=.type "traceback", dict:=none,data:=.fields fs }
abbrev Kx (T:Addr):Obj->Obj:=eU (·.setIfInBounds 1 (.ref T))
abbrev Jq (h:Heap) (e:Addr) (fs:Array Value):Heap:=(h.push (tbO fs)).update e (Kx h.objs.size)
section
variable {h:Heap} {e C:Addr} {dx:Option Addr} {vs fs:Array Value}
theorem apart (q:h.get? e=some (Aq C dx vs)):h.objs.size≠e:=f8 (aA q)
theorem Q7 (T:Addr):(Kx T (Aq C dx vs)).data=.fields (vs.setIfInBounds 1 (.ref T)):=rfl
theorem Tk (q:h.get? e=some (Aq C dx vs)):(Jq h e fs).get? e=some (Aq C dx (vs.setIfInBounds 1 (.ref h.objs.size))):=
 fw (Kx h.objs.size) (ag (tbO fs) q) (hG (Q7 h.objs.size))
theorem Tl (q:h.get? e=some (Aq C dx vs)):(Jq h e fs).get? h.objs.size=some (tbO fs):=
 (cy (h.push (tbO fs)) (Kx h.objs.size) (apart q).symm).trans (az h rfl)
theorem Iq {b:Addr} {o:Obj} (ne:b≠e) (q:h.get? b=some o):(Jq h e fs).get? b=some o:=
 (cy (h.push (tbO fs)) (Kx h.objs.size) ne.symm).trans (ag (tbO fs) q)
theorem Tz {h0:Heap} {l:List Addr} (hz:h.objs.size=h0.objs.size) (k1:∀ b,b∉l->h.get? b=h0.get? b) (k2:∀ b o,h0.get? b=some o -> ∃ sl,h.get? b=some { o with slots:=sl }) (q:h.get? e=some (Aq C dx vs)) (hs:vs.size=6) (hf:3<fs.size) :
  V3 l e C dx h0 (Jq h e fs) where
 exc:=⟨_,h.objs.size,_,_,Tk q,by rw[Array.size_setIfInBounds];exact hs,fh (by omega),by omega,apart q,Tl q,rfl,hf,λvs0 q0=>by
  obtain⟨sl,z⟩:=k2 e _ q0
  rw[q] at z
  cases z
  exact Array.getElem?_setIfInBounds_ne (by decide)⟩
 keep:=λb o ne nl hb=>Iq ne ((k1 b nl).trans hb)
 slot:=λb o ne hb=>let ⟨sl,z⟩:=k2 b o hb;⟨sl,Iq ne z⟩
end
section
variable {M:mW} {A:bq} {E:Value->aj->Prop} {s:aj} {base:Heap} {env:Env} {outer:List Env} {L e C:Addr} {dx:Option Addr} {vs:Array Value} {Q:Unit->aj->Prop}
theorem Yi {head:Value} {hadNext:Bool} {env0:Env} (hfr:A.frames=some (env0::outer)) (hl:s.heap.FunFrames base (env0::outer)) (h0:env0.frame=some L) (hf:env.frame=some L) (q:s.heap.get? e=some (Aq C dx vs)) (hs:vs.size=6) (k:∀ h',V3 (frs (env0::outer)) e C dx s.heap h'->Q () { s with heap:=h' }) :
  aN M A ((mP env >>= λa=>entryPlaceOf L hadNext >>= λpl=>iq head a .none (dX L) .none pl >>= λb=>ku (.ref e) 1 b)) Q E s:=by
 have off:e∉frs (env0::outer):=λz=>by
  obtain⟨_,o,z1,z2⟩:=hl.mem z
  rw[q] at z1
  cases z1
  exact z2 vs rfl
 have fe:mP env=mP env0:=by unfold mP;rw[hf,h0]
 rw[fe]
 refine af (wpAny_frameOf_fun hfr hl h0 λh1 ⟨a1,a2,a3⟩=>af (wpAny_entryPlaceOf λpl hpl=>?_))
 unfold iq newFields
 refine af (dE ?_ (hpl.sizeOk5 _ _ _ _ _))
 have q1:h1.get? e=some (Aq C dx vs):=(a2 e off).trans q
 have lt:3<([head,.ref L,.none,dX L,.none]++(if pl.isEmpty then g7 6 bC else pl)).toArray.size:=by rw[av,aW];simp only[aO,jZ];omega
 generalize ([head,.ref L,.none,dX L,.none]++(if pl.isEmpty then g7 6 bC else pl)).toArray=fs at lt ⊢
 exact fT (ag (tbO fs) q1) rfl (show 1<vs.size by omega) (k _ (Tz a1 a2 a3 q1 hs lt))
end
open PyProof.Rows
open Sem (wp)
noncomputable def bk2 (n:Nat) (a:Addr) (H':Hp) (s':aj):Prop:=
 ∃ (C:Addr) (dx:Option Addr) (vs:Array Value) (T:Addr) (oT:Obj) (ts:Array Value),FlO H' a C dx/\s'.heap.get? a=some (Aq C dx vs)/\vs.size=6/\vs[1]? = some (.ref T)/\T≠a/\s'.heap.get? T=some oT/\oT.data=.fields ts/\ts[3]? = some .none/\n<=T/\H' T=none
noncomputable def CXE (P:aS) (w:bz):CXT:=λouter H s E e s'=>
 ∃ (a:Addr) (H':Hp),e=.ref a/\(s'.os=s.os/\s.toks<=s'.toks)/\jT s'.gens/\Un (frs outer) [] H H' s.heap s'.heap/\HOk P w H' s'.heap/\bk2 s.heap.objs.size a H' s'/\E e none H'
section
variable {X:Cx} {pins:List (Addr×Obj)} {U:St} {H:Hp} {s:aj} {a C:Addr} {dx:Option Addr} {h':Heap}
theorem at5 (I:Inv X pins U H s) (ea:FlO H a C dx) (L:V3 (frs X.stack) a C dx s.heap h'):Un (frs X.stack) [] H H s.heap h' where
 keep:=λb o q n hb _=>L.keep b o (λz=>by rw[z] at n;rcases ea with ea|ea <;> (rw[ea] at n;cases n)) hb q
 slot:=λb o q n _ _=>L.slot b o (λz=>by rw[z] at n;rcases ea with ea|ea <;> (rw[ea] at n;cases n)) q
 free:=λb o _ n _=>n
 there:=λb o q _=>by
  by_cases hb:b=a
  .obtain⟨vs',T,oT,ts',h1,_⟩:=L.exc
   exact⟨_,by rw[hb];exact h1⟩
  .obtain⟨sl,h1⟩:=L.slot b o hb q
   exact⟨_,h1⟩
 tups:=λ_ _ e=>e
 frzs:=λ_ _ _ e=>e
 tbls:=λb ps e=>⟨#[],by rw[e];simp⟩
theorem at4 (I:Inv X pins U H s) (ea:FlO H a C dx) (L:V3 (frs X.stack) a C dx s.heap h'):HOk X.prog X.w H h':=λb o e=>by
 by_cases hb:b=a
 .subst hb
  obtain⟨vs',T,oT,ts',h1,h2,_,_,_,_,_,_,hc⟩:=L.exc
  rcases ea with ea|ea
  .obtain⟨vs,g1,_,g3⟩:=a16 I ea
   rw[ea] at e
   cases e
   exact ad2 h1 h2 ((hc vs g1).trans g3)
  .rw[ea] at e
   cases e
   exact a66 h1 h2
 .refine (I.hok b o e).stay (λc u hc q=>L.keep c u ?_ ?_ q) (λ_ q=>q) λ_ _ q=>q
  .rcases hc with rfl|hc
   .exact hb
   .rintro rfl
    rcases ea with ea|ea <;> (rw[ea] at hc;cases hc)
  .intro hm
   have n:=I.stkFree c hm
   rcases hc with rfl|hc
   .rw[n] at e;cases e
   .rw[n] at hc;cases hc
end
end L2
namespace L2
open PySem PySem.Spec PyProof.Rows
open Sem (wp)
section
variable {X:Cx} {pins:List (Addr×Obj)} {U:St} {H:Hp} {s:aj} {a:Addr} {E:Value->aj->Prop} {Q:Unit->aj->Prop}
noncomputable def FlyT (X:Cx) (pins:List (Addr×Obj)) (H:Hp) (a:Addr) (s:aj) (z:Value):Prop:=
 ∃ (C:Addr) (dx:Option Addr) (vs:Array Value) (T:Addr) (oT:Obj) (ts:Array Value),FlO H a C dx/\s.heap.get? a=some (Aq C dx vs)/\vs.size=6/\vs[1]? = some (.ref T)/\T≠a/\s.heap.get? T=some oT/\oT.data=.fields ts/\ts[3]? = some z/\Ci X pins H T
theorem FlyT.at {z:Value} (F:FlyT X pins H a s z):Gg X pins H a s:=by
 obtain⟨C,dx,vs,T,oT,ts,h1,h2,h3,q1,q2,q3,q4,q5,q6⟩:=F
 exact⟨C,dx,vs,h1,h2,h3,.inr ⟨T,oT,ts,q1,q2,q3,q4,⟨z,q5⟩,q6⟩⟩
theorem bs7 {C T:Addr} {dx:Option Addr} {vs ts:Array Value} {oT:Obj} {y:Value} (I:Inv X pins U H s) (h1:FlO H a C dx) (h2:s.heap.get? a=some (Aq C dx vs)) (h3:vs.size=6) (q1:vs[1]? = some (.ref T)) (q2:T≠a) (q3:s.heap.get? T=some oT) (q4:oT.data=.fields ts) (q5:ts[3]? = some y) (q6:Ci X pins H T) (v:Value) :
  Inv X pins U H { s with heap:=s.heap.update T (eU (·.setIfInBounds 3 v)) }/\FlyT X pins H a { s with heap:=s.heap.update T (eU (·.setIfInBounds 3 v)) } v/\(s.heap.update T (eU (·.setIfInBounds 3 v))).get? a=some (Aq C dx vs):=by
 have ha:(s.heap.update T (eU (·.setIfInBounds 3 v))).get? a=some (Aq C dx vs):=(cy _ _ q2).trans h2
 obtain⟨c0,d0,dt0,sl0⟩:=oT
 cases (show dt0=.fields ts from q4)
 have hT:(s.heap.update T (eU (·.setIfInBounds 3 v))).get? T=some ⟨c0,d0,.fields (ts.setIfInBounds 3 v),sl0⟩:=fw _ q3 (hG (vs:=ts.setIfInBounds 3 v) rfl)
 exact⟨I.turned (t':=s.toks) (λb o ne e=>(cy _ _ (ce ne)).trans e) q6.1 q6.2.1 q6.2.2.2.1 q6.2.2.2.2.1 q6.2.2.2.2.2,⟨C,dx,vs,T,_,_,h1,ha,h3,q1,q2,hT,rfl,fh (Array.getElem?_eq_some_iff.mp q5).1,q6⟩,ha⟩
theorem al1 {A:bq} {fr:Option Addr} {z:Value} (I:Inv X pins U H s) (F:FlyT X pins H a s z) (h:∀ s',Inv X pins U H s'->FlyT X pins H a s' (fr.elim .none λf=>dX f)->Q () s'):aN (model X.prog X.w) A (kc (.ref a) fr) Q E s:=by
 obtain⟨C,dx,vs,T,oT,ts,h1,h2,h3,q1,q2,q3,q4,q5,q6⟩:=F
 obtain⟨I',F',_⟩:=bs7 I h1 h2 h3 q1 q2 q3 q4 q5 q6 (fr.elim .none λf=>dX f)
 unfold kc
 refine af (dm h2 rfl q1 ?_)
 rw[if_pos (by simp)]
 exact fT q3 q4 (Array.getElem?_eq_some_iff.mp q5).1 (h _ I' F')
theorem a21 {env:Env} (I:Inv X pins U H s) {e0:Env} {o0:List Env} {L:Addr} (hs:X.stack=e0::o0) (h0:e0.frame=some L) (hf:env.frame=some L) (F:Gg X pins H a s) (h:∀ s' z,Inv X pins U H s'->FlyT X pins H a s' z->Q () s') :
  aN (model X.prog X.w) X.A (lF (.ref a) env) Q E s:=by
 obtain⟨C,dx,vs,h1,h2,h3,h4⟩:=F
 have fr:X.A.frames=some (e0::o0):=hs▸I.ok.frames
 have new:∀ {s1:aj} {head:Value} {hadNext:Bool},Inv X pins U H s1->s1.heap.get? a=some (Aq C dx vs)->aN (model X.prog X.w) X.A ((mP env >>= λy=>entryPlaceOf L hadNext >>= λpl=>iq head y .none (dX L) .none pl >>= λb=>ku (.ref a) 1 b)) Q E s1:=λ{s1 head hadNext} I1 q=>by
  have fn:s1.heap.FunFrames X.base (e0::o0):=hs▸I1.stack
  refine Yi (base:=X.base) fr fn h0 hf q h3 λh' L=>?_
  rw[<- hs] at L
  have I':=I1.call (h':=h') (g':=s1.gens) (t':=s1.toks) (d':=s1.drawn) (ch:=[]) (at5 I1 h1 L) (at4 I1 h1 L) I1.bare (λb z=>absurd z (by simp))
  obtain⟨vs',T,oT,ts',a1,a2,a3,a4,a5,a6,a7,a8,_⟩:=L.exc
  exact h _ _ I' ⟨C,dx,vs',T,oT,ts',h1,a1,a2,a3,a5,a6,a7,dY a8,I1.fpOk a4 (I1.hok.fresh a4)⟩
 unfold lF
 simp only[hf]
 rcases h4 with c|⟨T,oT,ts,c,ne,hT,hd,⟨z,hz⟩,fp⟩
 .refine af (dm h2 rfl c ?_)
  rw[if_neg (by decide)]
  exact new I h2
 .refine af (dm h2 rfl c ?_)
  rw[if_pos (by simp)]
  refine af (dm hT hd hz ?_)
  by_cases e:(z==dX L)=true
  .rw[if_pos e]
   exact aq (h s z I ⟨C,dx,vs,T,oT,ts,h1,h2,h3,c,ne,hT,hd,hz,fp⟩)
  .rw[if_neg e]
   obtain⟨I',_,ha⟩:=bs7 I h1 h2 h3 c ne hT hd hz fp .none
   exact af (fT hT hd (Array.getElem?_eq_some_iff.mp hz).1 (new I' ha))
theorem Wq (I:Inv X pins U H s) (hs:X.stack=X.env::X.outer) (hf:X.env.frame=some X.env.locals) (F:Gg X pins H a s) (h:∀ s',Inv X pins U H s'->FlyT X pins H a s' .none->Q () s') :
  aN (model X.prog X.w) X.A (lF (.ref a) X.env) (λ_ s1=>aN (model X.prog X.w) X.A (kc (.ref a) none) Q E s1) E s:=
 a21 I hs hf hf F λs1 z I1 F1=>al1 I1 F1 h
theorem Nd {A:bq} (I:Inv X pins U H s) (F:Gg X pins H a s) (h:∀ s',Inv X pins U H s'->Gg X pins H a s'->Q () s'):aN (model X.prog X.w) A (kc (.ref a) none) Q E s:=by
 obtain⟨C,dx,vs,h1,h2,h3,h4⟩:=F
 rcases h4 with h4|⟨T,oT,ts,q1,q2,q3,q4,⟨z,q5⟩,q6⟩
 .unfold kc
  refine af (dm h2 rfl h4 ?_)
  rw[if_neg (by decide)]
  exact aq (h s I ⟨C,dx,vs,h1,h2,h3,.inl h4⟩)
 .exact al1 I ⟨C,dx,vs,T,oT,ts,h1,h2,h3,q1,q2,q3,q4,q5,q6⟩ λs' I' F'=>h s' I' F'.at
end
section
variable {prog:aS} {w:bz} {A:bq} {E:Value->aj->Prop} {s:aj} {K:ac} {a C D:Addr} {dx:Option Addr} {vs:Array Value} {b:Bool} {Q:Bool->aj->Prop}
open PySem.W in
theorem Uc (X:K.In s.heap) (c:ECls K C) (d:ECls K D) (ha:s.heap.get? a=some (Aq C dx vs)) (m:mroIn K C (.ref D)=some b) (h:Q b s) :
  aN (model prog w) A (excMatches (.ref a) (.ref D)) Q E s:=by
 obtain⟨nm,qn,N,bs,bm,hdct,sn,sub,ab,col,dd,k0,k1,k2,k3,k5,hl,ht,hd⟩:=c.obj
 obtain⟨nm',qn',N',bs',bm',hdct',sn',sub',ab',col',dd',k0',k1',k2',k3',k5',hl',ht',hd'⟩:=d.obj
 have hC:=X _ _ hl
 have hD:=X _ _ hl'
 have hcB:(aV D::bm').contains (.type "BaseException")=true:=by rw[cq,Cd ht' (show valTail.contains (.type "BaseException")=true by decide +kernel),fZ]
 have hcD:(aV C::bm).contains (.ref D)=b:=by
  unfold mroIn at m
  obtain⟨cd,e,em⟩:∃ cd,mx K C=some cd/\cd.mro=.ref C::bm:=⟨_,by unfold mx;rw[hl],rfl⟩
  rw[e,cC,em] at m
  exact aD m
 have f:=tc_notTuple
 obtain⟨hp,g,dr,tk,os⟩:=s
 unfold excMatches
 repeat (first|with_reducible refine cG ha ?_|with_reducible refine cG hD ?_|(with_reducible refine dJ hD ?_;rw[hcB])|(with_reducible refine dJ hC ?_;rw[hcD])|wp_step)
 cases b <;> (wp_walk;exact h)
end
end L2
namespace L2
open PySem PySem.Spec PyProof.Rows
section
variable {X:Cx} {G:Sg} {elt tg iter:Expr} {ifs:List Expr} {sc:Scope} {wi:DI} {g:DG} {tc:DT} {de:DE} {pos:Pos}
theorem bl9 {pins pins':List (Addr×Obj)} {U:St} {H2 H':Hp} {s2:aj} {N':List Str} {cl:List (Str×Addr)} {fp:List Addr} {C T:Addr} {xe:Value->aj->Prop} (I2:Inv X pins U H2 s2) (f2:∀ b∈fp,Ci X pins H2 b)
  (F:Ci (X.comp N' sc cl fp C s2 H2 xe) pins' H' T):Ci X pins H' T:=by
 obtain⟨r1,r2,r3,r4,r5,r6⟩:=F
 rcases r4 with r4|r4
 .exact⟨r1,(f2 T r4).2⟩
 .exact I2.fpOk r4 r1
theorem Ky {Ex:St->EK} (m:Meets X Ex) (fr:FrH X) {pins:List (Addr×Obj)} {U:St} {H2:Hp} {s2:aj} {N':List Str} {cl:List (Str×Addr)} {fp:List Addr} {C D:Addr} {us:Option (Value->Sem Unit)} {Q2:Value->aj->Prop} (I2:Inv X pins U H2 s2) (f2:∀ b∈fp,Ci X pins H2 b)
  (hC:s2.heap.objs.size<=C):Meets (X.comp N' sc cl fp C s2 H2 (Bn X sc cl us Q2 D C)) (λ_ a H'=>Ex U a H'):=by
 intro pins' U' H' s' a I' F' hE
 obtain⟨e0,o0,L,f1,f3,f4⟩:=fr
 refine a21 (X:=X.comp N' sc cl fp C s2 H2 (Bn X sc cl us Q2 D C)) (env:=mO sc cl C X.env) I' f1 f3 f4 F' λs3 z I3 F3=>?_
 obtain⟨mm,hn,_⟩:=id I3.loc
 refine⟨mm,hn,λh' sb cenv hce=>?_⟩
 have I4:Inv X pins U H' s3:=I2.call' (ch:=fp) I3.os I3.base I3.hok I3.bare λb hb=>⟨(f2 b hb).2.2.2.1,(f2 b hb).2.1,(f2 b hb).2.2.2.2.1,(f2 b hb).2.2.2.2.2⟩
 have fo:=I2.fpOk hC I3.free
 obtain⟨g0,g1,g2,g3,g4,g5⟩:=id fo
 have I5:Inv X pins U H' { s3 with heap:=h' }:=I4.turned (t':=s3.toks) (λb o hb e=>(sb.2 b hb).trans e) g0 g1 g3 g4 g5
 obtain⟨C0,dx,vs,T,oT,ts,h1,h2,h3,q1,q2,q3,q4,q5,q6⟩:=F3
 have na:a≠C:=λz=>by rcases h1 with h1|h1 <;> (rw[z,g0] at h1;cases h1)
 have nT:T≠C:=q6.2.1
 have F5:FlyT X pins H' a { s3 with heap:=h' } z:=⟨C0,dx,vs,T,oT,ts,h1,(sb.2 a na).trans h2,h3,q1,q2,(sb.2 T nT).trans q3,q4,q5,bl9 I2 f2 q6⟩
 unfold PySem.passOn
 refine af (dm (s:={ s3 with heap:=h' }) ((sb.2 a na).trans h2) rfl q1 ?_)
 rw[if_neg (by simp)]
 refine af (al1 I5 F5 λs6 I6 F6=>?_)
 exact mH (m pins U H' s6 a I6 F6.at hE)
noncomputable def ar2 (X:Cx) (ifs:List Expr) (t:DT):Prop:=∀ Ex,Meets X Ex->Xo X ifs (λU H Q=>t U H Q (Ex U))
theorem Rp:ar2 X [] Ck:=λ_ _=>ai1
theorem Rq {c:Expr} {t:DT} (h:QT X c t):ar2 X [c] t:=λEx m=>ai2 (h Ex m)
theorem Wv (O:GOk X G) (hc:X.calm=true) (hk:E2 G sc=true) (hs:K0 iter=true) (hi:QI X tg iter wi) (hg:∀ X',GOk X' (Cn G sc.names)->PG X' tg g) (ht:∀ X',GOk X' (Cn G sc.names)->ar2 X' ifs tc) (he:∀ X',GOk X' (Cn G sc.names)->QE X' elt de) :
  QE X (.ListComp elt [⟨tg,iter,ifs,0⟩] sc pos) (Bf (Fm G sc.names) wi g tc de):=by
 intro Ex m pins s U H Q I h
 exact ab9 hc (Oh O hk) (hi Ex m) (λQ2 fp C D s2 H2 I2 f2 hC=>
  have M:=Ky (N':=(Cn G sc.names).N) (cl:=Cm X.env.cells sc.names []) (us:=none) (Q2:=Q2) (D:=D) m O.fr I2 f2 hC
  have K:=We O hk fp C s2 H2 (Bn X sc (Cm X.env.cells sc.names []) none Q2 D C)
  ⟨hg _ K,ht _ K _ M,he _ K _ M⟩) I h (λx=>K2 hs X.env x)
end
noncomputable def Wd (K:ac) (op:BoolOp):List DE->DE
 |[]=>dNo
 |[a]=>a
 | a::r=>match op with
  |.And=>M9 K a (Wd K op r)
  |.Or=>bl3 K a (Wd K op r)
noncomputable def Wc (op:BoolOp):List DT->DT
 |[]=>λ_ _ _ _=>False
 |[a]=>a
 | a::r=>match op with
  |.And=>L9 a (Wc op r)
  |.Or=>dOr a (Wc op r)
noncomputable def C5:List DE->DA
 |[]=>Ag
 |a::r=>Ac a (C5 r)
noncomputable def tNo:DT:=λ_ _ _ _=>False
noncomputable def Ze (G:Sg) (ops:List mK) (bs:List Expr) (a:DE) (ds:List DE):DE:=match ops,bs,ds with
 |[op],[b],[d]=>if jx op b=false then Ah (Me G.K op) a d else dNo
 |[op,op'],[b,c],[d,d']=>if lastMarks [op,op'] [b,c]=false then Dr (Me G.K op) (Me G.K op') a d d' else dNo
 |_,_,_=>dNo
noncomputable def ao9 (G:Sg) (x:Str) (es:List Expr) (ds:List DE):DE:=
 if Jc G x=true/\(Cf G.N x 0)=none/\es.all noStar=true then (match G.gb.lookup x with
  |some (.fn i)=>if es.length<=i.ps.length/\i.ps.length<=es.length+i.dfs.length then dFn (spE i.sp (i.dfs.drop (es.length+i.dfs.length - i.ps.length))) (C5 ds) else dNo
  | some (.exc C oi)=>(match oi with
   |none=>if es.isEmpty=true then dFn (mkX C none 0) (C5 ds) else dFn (λvs H Q E=>vs.length<=1000/\mkX C none 0 vs H Q E) (C5 ds)
   | some i=>if es.length+1<=i.ps.length/\i.ps.length<=es.length+1+i.dfs.length then (if es.isEmpty=true then dFn (mkX C (some i) (es.length+1+i.dfs.length - i.ps.length)) (C5 ds)
    else dFn (λvs H Q E=>vs.length<=1000/\mkX C (some i) (es.length+1+i.dfs.length - i.ps.length) vs H Q E) (C5 ds)) else dNo)
  | some (.cls C oi)=>(match oi with
   |none=>if es.isEmpty=true then dFn (mkC C none 0) (C5 ds) else dNo
   |some i=>if es.length+1<=i.ps.length/\i.ps.length<=es.length+1+i.dfs.length then dFn (mkC C (some i) (es.length+1+i.dfs.length - i.ps.length)) (C5 ds) else dNo)
  |some _=>dNo
  | none=>if G.bl.contains x=true then (match a56 G.K G.calm x with
   |some (_,r)=>if es.isEmpty=true then dNo else dFn (λvs H Q _=>r vs H Q) (C5 ds)
   |none=>dNo) else dNo) else dNo
noncomputable def ap1 (G:Sg) (o:Expr) (m:Str) (es:List Expr) (ap cp:Pos) (d:DE) (ds:List DE):DE:=
 if Dq o=true/\es.all noStar=true/\es.length<30/\(ap.endLine==cp.line)=true then (match Cw G.gb m with
  |none=>dMt (rMt G.K (mtR G.K m)) d (C5 ds)
  |some l=>Cs m es.length l d (C5 ds)) else dNo
noncomputable def Wf (d:DE):DE:=λU H Q E=>d U H (λv H'=>Thaw H H' (Q v)) E
theorem Wy {X:Cx} {e:Expr} {d:DE} (h:QE X e d):QE X e (Wf d):=λEx mt pins s U H Q I q=>
 thn (h Ex mt pins s U H _ I q) λv s1 ⟨x,H1,I1,r1,q1⟩=>
  let ⟨H2,I2,q2⟩:=Thaw.inv I I1 q1
  ⟨x,H2,I2,r1,q2⟩
inductive Fz where
 |lenSet (a:Expr)|rngList (a:Expr)
noncomputable def fzD (K:ac) (w:Expr->DE):Fz->DE
 |.lenSet a=>dUn (J7 K) (w a)
 |.rngList a=>dUn La (w a)
noncomputable def X7 (G:Sg) (x:Str):Bool:=Jc G x&&(G.gb.lookup x).isNone&&G.bl.contains x
noncomputable def Tp (G:Sg) (x:Str) (es:List Expr):Option Fz:=match es with
 | [.Call (.Name y _) [a] [] _]=>if x = "len" /\ y = "set" /\ X7 G x=true/\X7 G y=true/\noStar a=true/\G.calm=true then some (.lenSet a)
  else if x = "list" /\ y = "range" /\ X7 G x=true/\X7 G y=true/\noStar a=true/\G.calm=true then some (.rngList a) else none
 |_=>none
mutual
noncomputable def wE:Nat->Sg->Expr->DE
 |0,_,_=>dNo
 | n+1,G,e=>match e with
  |.Constant c _ _=>ap0 c
  |.Name x _=>ap2 G x
  |.BinOp a op (.ListComp x1 x2 x3 x4) _=>Wf (Ah (rOp G.K op) (wE n G a) (wE n G (.ListComp x1 x2 x3 x4)))
  |.BinOp a op b _=>Ah (rOp G.K op) (wE n G a) (wE n G b)
  |.UnaryOp .USub a _=>dUn W2 (wE n G a)
  |.UnaryOp .Not a _=>ac1 G.K (wE n G a)
  |.UnaryOp .Invert a _=>dUn Rt (wE n G a)
  |.BoolOp op es _=>Wd G.K op (es.map (wE n G))
  |.Compare a ops bs _=>Ze G ops bs (wE n G a) (bs.map (wE n G))
  |.IfExp t a b _=>bl2 (wT n G t) (wE n G a) (wE n G b)
  |.List es _=>if es.all noStar=true then Cj (C5 (es.map (wE n G))) else dNo
  |.Tuple es _ _=>if es.all noStar=true then Dw (C5 (es.map (wE n G))) else dNo
  |.Subscript a (.Slice lo hi none _) _=>dSl G.K (wE n G a) (match lo with|none=>Ke|some l=>Kd (wE n G l)) (match hi with|none=>Ke|some h=>Kd (wE n G h))
  |.Subscript a b _=>if Gy b=true then Ah (A3 G.K) (wE n G a) (wE n G b) else dNo
  |.Attribute o f _=>if Dq o=true then dUn (Bi G.K f) (wE n G o) else dNo
  | .Call (.Name x _) es [] _=>match Tp G x es with
   |some z=>fzD G.K (wE n G) z
   |none=>ao9 G x es (es.map (wE n G))
  |.Dict ks vs _=>if ks.isEmpty=true/\vs.isEmpty=true then Dn else dNo
  |.Call (.Attribute o m ap) es [] cp=>ap1 G o m es ap cp (wE n G o) (es.map (wE n G))
  | .ListComp elt [⟨tg,iter,ifs,0⟩] sc _=>if G.calm=true/\E2 G sc=true/\K0 iter=true then
    Bf (Fm G sc.names) (wI n G tg iter) (wG n (Cn G sc.names) tg) (match ifs with | []=>Ck | [c]=>wT n (Cn G sc.names) c|_=>tNo) (wE n (Cn G sc.names) elt) else dNo
  |_=>dNo
noncomputable def wT:Nat->Sg->Expr->DT
 |0,_,_=>tNo
 | n+1,G,e=>match e with
  |.UnaryOp .Not a _=>Ey (wT n G a)
  |.BoolOp op es _=>Wc op (es.map (wT n G))
  |.Compare a ops bs _=>Bg (Ze G ops bs (wE n G a) (bs.map (wE n G)))
  |.IfExp _ _ _ _=>tNo
  |e=>C3 G.K (wE n G e)
noncomputable def wI:Nat->Sg->Expr->Expr->DI
 |0,_,_,_=>iNo
 | n+1,G,tg,e=>match e with
  |.Call (.Name x _) (a::es) [] _=>
   if x = "range" /\ Jc G x=true/\G.gb.lookup x=none/\G.bl.contains x=true/\(a::es).all noStar=true then F4 (C5 ((a::es).map (wE n G)))
   else if x = "enumerate" /\ Jc G x=true/\G.gb.lookup x=none/\G.bl.contains x=true/\(a::es).all noStar=true then (match tg with
    |.Tuple _ _ _=>iEn G.K (C5 ((a::es).map (wE n G)))
    |_=>iNo)
   else if x = "reversed" /\ Jc G x=true/\G.gb.lookup x=none/\G.bl.contains x=true/\noStar a=true/\es.isEmpty=true then a70 G.K (wE n G a)
   else Bq G.K (wE n G e)
  |.ListComp a b c d=>Bq G.K (Wf (wE n G (.ListComp a b c d)))
  |e=>Bq G.K (wE n G e)
end
theorem a24 {X:Cx} {e:Expr}:QT X e tNo:=λ_ _ _ _ _ _ _ _ h=>h.elim
theorem B8 {X:Cx} {w:Expr->DE} (h:∀ e,QE X e (w e)):∀ {es:List Expr},es.all noStar=true->QA X es (C5 (es.map w))
 |[],_=>Ul
 | e::es,hs=>by
  rw[bR,aE] at hs
  exact Pg (h e) (B8 h hs.2) hs.1
theorem Ph {X:Cx} {w:Expr->DE} {op:BoolOp} {pos:Pos} (h:∀ e,QE X e (w e)):∀ {es:List Expr},QE X (.BoolOp op es pos) (Wd X.K op (es.map w))
 |[]=>Bp
 |[e]=>bg6 (h e)
 | e::e'::es=>by
  cases op with
  |And=>exact bf5 (h e) (Ph h)
  |Or=>exact bs2 (h e) (Ph h)
theorem Pi {X:Cx} {w:Expr->DT} {op:BoolOp} {pos:Pos} (h:∀ e,QT X e (w e)):∀ {es:List Expr},QW X (.BoolOp op es pos) (Wc op (es.map w))
 |[]=>λ_ _ _ _ _ _ _ _ _ h=>h.elim
 | [e]=>by
  cases op with
  |And=>exact ax8 (h e)
  |Or=>exact bi2 (h e)
 | e::e'::es=>by
  cases op with
  |And=>exact bi1 (h e) (Pi h)
  |Or=>exact bs4 (h e) (Pi h)
section
variable {X:Cx} {G:Sg}
theorem aw7 (O:GOk X G) {w:Expr->DE} (h:∀ e,QE X e (w e)) (a:Expr) (ops:List mK) (bs:List Expr) (pos:Pos):QE X (.Compare a ops bs pos) (Ze G ops bs (w a) (bs.map w)):=by
 unfold Ze
 rw[<- O.K]
 split
 .rename_i op b d e
  have:d=w b:=by simpa using e.symm
  subst this
  split
  .exact bf7 O.units op (h a) (h b) ‹_›
  .exact Bp
 .rename_i op op' b c d d' e
  have:w b=d/\w c=d':=by simpa using e
  obtain⟨rfl,rfl⟩:=this
  split
  .exact aj3 O.units op op' (h a) (h b) (h c) ‹_›
  .exact Bp
 .exact Bp
theorem ax7 (O:GOk X G) {w:Expr->DE} (h:∀ e,QE X e (w e)) (a:Expr) (ops:List mK) (bs:List Expr) (pos:Pos):QT X (.Compare a ops bs pos) (Bg (Ze G ops bs (w a) (bs.map w))):=by
 unfold Ze
 rw[<- O.K]
 split
 .rename_i op b d e
  have:d=w b:=by simpa using e.symm
  subst this
  split
  .exact bh8 O.units op (h a) (h b) ‹_›
  .exact λ_ _ _ _ _ _ _ _ h=>h.elim
 .rename_i op op' b c d d' e
  have:w b=d/\w c=d':=by simpa using e
  obtain⟨rfl,rfl⟩:=this
  split
  .exact ak3 O.units op op' (h a) (h b) (h c) ‹_›
  .exact λ_ _ _ _ _ _ _ _ h=>h.elim
 .exact λ_ _ _ _ _ _ _ _ h=>h.elim
theorem aj2 (O:GOk X G) {w:Expr->DE} (h:∀ e,QE X e (w e)) (x:Str) (es:List Expr) (p pos:Pos):QE X (.Call (.Name x p) es [] pos) (ao9 G x es (es.map w)):=by
 unfold ao9
 split
 .rename_i hh
  obtain⟨hg,_,hs⟩:=hh
  have dd:=Tw hg
  split
  .rename_i i e
   obtain⟨hm,F⟩:=O.at_ x _ e
   split
   .rename_i hl
    cases es with
    |nil=>exact aj1 F (by have:=hl.1;omega) (O.gl hg) hm dd.1
    |cons e es=>exact aw6 F (by have:=hl.1;omega) (O.gl hg) hm (B8 h hs) hs dd.1
   .exact Bp
  .rename_i C oi e
   obtain⟨hm,kp,c,hi⟩:=O.at_ x _ e
   split
   .cases es with
    |nil=>exact Wx (j:=0) c hi (λi z=>nomatch z) kp (O.gl hg) hm dd.1
    |cons e es=>exact aj6 (j:=0) c hi (λi z=>nomatch z) kp (O.gl hg) hm (B8 h hs) hs dd.1
   .rename_i i
    split
    .rename_i hl
     cases es with
     |nil=>exact Wx c hi (λi z=>by cases z;have:=hl.1;omega) kp (O.gl hg) hm dd.1
     |cons e es=>exact aj6 c hi (λi z=>by cases z;have:=hl.1;omega) kp (O.gl hg) hm (B8 h hs) hs dd.1
    .exact Bp
  .rename_i C oi e
   obtain⟨hm,kp,hi⟩:=O.at_ x _ e
   split
   .cases es with
    |nil=>exact Ww (j:=0) hi (λi z=>nomatch z) kp (O.gl hg) hm dd.1
    |cons e es=>exact Bp
   .rename_i i
    split
    .rename_i hl
     cases es with
     |nil=>exact Ww hi (λi z=>by cases z;have:=hl.1;omega) kp (O.gl hg) hm dd.1
     |cons e es=>exact bg2 hi (λi z=>by cases z;have:=hl.1;omega) kp (O.gl hg) hm (B8 h hs) hs dd.1
    .exact Bp
  .exact Bp
  .rename_i e
   split
   .rename_i hb
    split
    .rename_i f r er
     split
     .exact Bp
     .rename_i hne
      cases es with
      |nil=>exact absurd rfl hne
      |cons e es=>
       rw[<- O.K] at er
       obtain⟨b1,b2⟩:=ar8 O.units er O.calm
       exact bf6 b2 (O.gl hg) (O.bl x hb) b1 (B8 h hs) hs dd.2.2 dd.1
    .exact Bp
   .exact Bp
 .exact Bp
theorem aj5 (O:GOk X G) {w:Expr->DE} (h:∀ e,QE X e (w e)) (o:Expr) (m:Str) (es:List Expr) (ap cp:Pos):QE X (.Call (.Attribute o m ap) es [] cp) (ap1 G o m es ap cp (w o) (es.map w)):=by
 unfold ap1
 rw[<- O.K]
 split
 .rename_i hh
  obtain⟨h1,h2,h3,h4⟩:=hh
  split
  .cases es with
   |nil=>exact bg3 (λb hb=>af9 O.units hb) (h o) h1 h4
   |cons e es=>exact bs1 (λb hb=>af9 O.units hb) (h o) (B8 h h2) h1 h2 h3 h4
  .rename_i l e
   cases es with
   |nil=>exact ax1 (O.met m l e) (h o) h1 h4
   |cons e es=>exact bg7 (O.met m l ‹_›) (h o) (B8 h h2) h1 h2 h3 h4
 .exact Bp
end
theorem Do {X:Cx} {G:Sg} (O:GOk X G) {x:Str} (h:X7 G x=true):Gl X x/\X.mg x=none:=by
 unfold X7 at h
 rw[aE,aE] at h
 exact⟨O.gl h.1.1,O.bl _ h.2⟩
theorem aw9 {X:Cx} {G:Sg} (O:GOk X G) {w:Expr->DE} (h:∀ e,QE X e (w e)) {x:Str} {es:List Expr} {p pos:Pos} {z:Fz} (e:Tp G x es=some z) :
  QE X (.Call (.Name x p) es [] pos) (fzD G.K w z):=by
 unfold Tp at e
 split at e
 .split at e
  .rename_i hh
   obtain⟨rfl,rfl,h1,h2,h3,h4⟩:=hh
   cases e
   rw[<- O.K]
   exact Yu (O.calm▸h4) (Do O h1).1 (Do O h1).2 (Do O h2).1 (Do O h2).2 (h _) h3
  .split at e
   .rename_i hh
    obtain⟨rfl,rfl,h1,h2,h3,h4⟩:=hh
    cases e
    exact Um (O.calm▸h4) (Do O h1).1 (Do O h1).2 (Do O h2).1 (Do O h2).2 (h _) h3
   .cases e
 .cases e
theorem ap3:∀ (n:Nat) (X:Cx) (G:Sg),GOk X G->(∀ e,QE X e (wE n G e))/\(∀ e,QT X e (wT n G e))/\(∀ tg e,QI X tg e (wI n G tg e)):=by
 intro n
 induction n with
 |zero=>
  intro X G O
  refine⟨λe=>?_,λe=>?_,λtg e=>?_⟩
  .unfold wE;exact Bp
  .unfold wT;exact a24
  .unfold wI;exact a23
 |succ n ih=>
  intro X G O
  obtain⟨hE,hT,hI⟩:=ih X G O
  have hv:∀ tg e,QI X tg e (Bq G.K (wE n G e)):=λtg e=>by rw[<- O.K];exact aj9 (hE e)
  refine⟨λe=>?_,λe=>?_,λtg e=>?_⟩
  .unfold wE
   split
   .exact aj4 _ _ _
   .exact ax0 O _ _
   .rw[<- O.K];exact Wy (aj0 _ (hE _) (hE _))
   .rw[<- O.K];exact aj0 _ (hE _) (hE _)
   .exact bg4 (hE _)
   .rw[<- O.K];exact bg5 (hE _)
   .exact bf8 (hE _)
   .rw[<- O.K];exact Ph hE
   .exact aw7 O hE _ _ _ _
   .exact br9 (hT _) (hE _) (hE _)
   .split
    .exact bf9 (B8 hE ‹_›)
    .exact Bp
   .split
    .exact bg8 (B8 hE ‹_›)
    .exact Bp
   .rw[<- O.K]
    refine aj7 (hE _) ?_ ?_
    .split
     .exact Wz
     .exact W0 (hE _)
    .split
     .exact Wz
     .exact W0 (hE _)
   .split
    .rename_i hs
     rw[<- O.K];exact bs0 O.units (hE _) (hE _) hs
    .exact Bp
   .split
    .rw[<- O.K];exact aw5 (hE _) (El ‹_› _ X.env _)
    .exact Bp
   .split
    .exact aw9 O hE ‹_›
    .exact aj2 O hE _ _ _ _
   .rename_i ks vs p0
    split
    .rename_i hh
     have e1:ks=[]:=by simpa using hh.1
     have e2:vs=[]:=by simpa using hh.2
     subst e1 e2
     exact aw8
    .exact Bp
   .exact aj5 O hE _ _ _ _ _
   .split
    .rename_i hh
     obtain⟨h1,h2,h3⟩:=hh
     refine Wv O (O.calm▸h1) h2 h3 (hI _ _) (λX' O'=>So n X' _ O' _) (λX' O'=>?_) (λX' O'=>(ih X' _ O').1 _)
     split
     .exact Rp
     .exact Rq ((ih X' _ O').2.1 _)
     .exact λ_ _ _ _ _ _ _ _ h=>h.elim
    .exact Bp
   .exact Bp
  .unfold wT
   split
   .exact bh9 (hT _)
   .exact λEx m=>PW.pt (Pi hT Ex m)
   .exact ax7 O hE _ _ _ _
   .exact a24
   .rename_i h1 h2 h3 h4
    rw[<- O.K]
    refine bi0 (hE _) ?_
    cases e with
    |UnaryOp op a p=>cases op <;> first|rfl|exact absurd rfl (h1 _ _)
    |BoolOp op es p=>exact absurd rfl (h2 _ _ _)
    |Compare a b c p=>exact absurd rfl (h3 _ _ _ _)
    |IfExp a b c p=>exact absurd rfl (h4 _ _ _ _)
    |_=>rfl
  .unfold wI
   split
   .split
    .rename_i hh
     obtain⟨rfl,h1,_,h2,h3⟩:=hh
     exact aj8 (O.gl h1) (O.bl _ h2) (B8 hE h3) h3
    .split
     .rename_i hh
      obtain⟨rfl,h1,_,h2,h3⟩:=hh
      split
      .rw[<- O.K];exact ax3 (O.gl h1) (O.bl _ h2) (B8 hE h3) h3
      .exact a23
     .split
      .rename_i hh
       obtain⟨rfl,h1,_,h2,h3,h4⟩:=hh
       rw[List.isEmpty_iff.mp h4,<- O.K]
       exact bh0 (O.gl h1) (O.bl _ h2) (hE _) h3
      .exact hv _ _
   .rw[<- O.K];exact aj9 (Wy (hE _))
   .exact hv _ _
def Cx.tr (X:Cx) (pn:List (Addr×Obj)) (xe:Value->aj->Prop):Cx:={ X with pn:=pn,xe:=xe }
def Cx.hd (X:Cx) (a:Addr):Cx:={ X with A:=X.A.mark (some (.ref a)),calm:=false,xe:=λ_ _=>False }
section
variable {X:Cx} {pins pins':List (Addr×Obj)} {U:St} {H:Hp} {s:aj} {a C:Addr} {dx:Option Addr} {xe:Value->aj->Prop}
theorem bn9 {pn:List (Addr×Obj)} (o:X.Ok):(X.tr pn xe).Ok:=⟨o.mod,o.kind,o.glob,o.blt,o.above,o.inj,o.has,o.cab,o.hd,o.frames,o.stk,o.exf,o.bs,o.bsz,o.noex,o.exfs,o.funs,o.frf,o.tk⟩
theorem au4 {pn:List (Addr×Obj)} (o:(X.tr pn xe).Ok):X.Ok:=⟨o.mod,o.kind,o.glob,o.blt,o.above,o.inj,o.has,o.cab,o.hd,o.frames,o.stk,o.exf,o.bs,o.bsz,o.noex,o.exfs,o.funs,o.frf,o.tk⟩
theorem a74 (I:Inv X pins U H s):Inv (X.tr (X.pn++pins) xe) [] U H s:=
 ⟨bn9 I.ok,I.os,I.bare,I.base,I.loc,I.cell,I.free,I.freeC,λp hp=>I.pin p (by rw[cz] at hp;exact hp),I.hok,I.len⟩
theorem E8 (I:Inv (X.tr (X.pn++pins) xe) pins' U H s):Inv X pins U H s:=
 ⟨au4 I.ok,I.os,I.bare,I.base,I.loc,I.cell,I.free,I.freeC,λp hp=>I.pin p (bW _ hp),I.hok,I.len⟩
theorem ad3 (F:Gg (X.tr (X.pn++pins) xe) pins' H a s):Gg X pins H a s:=by
 obtain⟨C,dx,vs,h1,h2,h3,h4⟩:=F
 refine⟨C,dx,vs,h1,h2,h3,h4.imp id fun⟨T,oT,ts,q1,q2,q3,q4,q5,q6⟩=>⟨T,oT,ts,q1,q2,q3,q4,q5,?_⟩⟩
 obtain⟨r1,r2,r3,r4,r5,r6⟩:=q6
 exact⟨r1,r2,r3,r4,r5,λp hp=>r6 p (bW _ hp)⟩
theorem az3 {D:Ly} {f:Flow} (h:SP (X.tr (X.pn++pins) xe) pins' D f s):SP X pins D f s:=by
 cases f with
 |next=>obtain⟨U',H',I,q⟩:=h;exact⟨U',H',E8 I,q⟩
 |brk=>obtain⟨U',H',I,q⟩:=h;exact⟨U',H',E8 I,q⟩
 |cont=>obtain⟨U',H',I,q⟩:=h;exact⟨U',H',E8 I,q⟩
 |ret u=>obtain⟨v,U',H',I,r,q⟩:=h;exact⟨v,U',H',E8 I,r,q⟩
theorem Tu (I:Inv X pins U H s):Inv (X.hd a) pins U H s:=
 ⟨⟨I.ok.mod,I.ok.kind,I.ok.glob,I.ok.blt,I.ok.above,I.ok.inj,I.ok.has,I.ok.cab,(λz=>by cases z),I.ok.frames,I.ok.stk,I.ok.exf,I.ok.bs,I.ok.bsz,I.ok.noex,I.ok.exfs,I.ok.funs,I.ok.frf,I.ok.tk⟩,I.os,I.bare,I.base,I.loc,I.cell,I.free,I.freeC,I.pin,I.hok,I.len⟩
theorem Gw (o:X.Ok) (I:Inv (X.hd a) pins U H s):Inv X pins U H s:=⟨o,I.os,I.bare,I.base,I.loc,I.cell,I.free,I.freeC,I.pin,I.hok,I.len⟩
theorem Xe {D:Ly} {f:Flow} (o:X.Ok) (h:SP (X.hd a) pins D f s):SP X pins D f s:=by
 cases f with
 |next=>obtain⟨U',H',I,q⟩:=h;exact⟨U',H',Gw o I,q⟩
 |brk=>obtain⟨U',H',I,q⟩:=h;exact⟨U',H',Gw o I,q⟩
 |cont=>obtain⟨U',H',I,q⟩:=h;exact⟨U',H',Gw o I,q⟩
 |ret u=>obtain⟨v,U',H',I,r,q⟩:=h;exact⟨v,U',H',Gw o I,r,q⟩
end
inductive HK where
 |no
 |as (i:Nat)
noncomputable def asD (a:Addr) (u:DS):HK->DS
 |.no=>λD U H=>u { D with ex:=λ_ _ _=>False } U H
 |.as i=>λD U H=>u ⟨λU' H'=>D.nx (U'.set i none) H',D.rt,λU' H'=>D.bk (U'.set i none) H',λU' H'=>D.ct (U'.set i none) H',λ_ _ _=>False⟩ (U.set i (some (.ref a))) H
noncomputable def Od (K:ac) (C a:Addr):List (Addr×HK×DS)->Outs->St->Hp->Prop
 |[],_,_,_=>False
 |(T,oi,u)::r,D,U,H=>∃ b,du K C (.ref T)=some b/\(if b=true then asD a u oi D U H else Od K C a r D U H)
noncomputable def as0 (K:ac) (tb:DS) (us:List (Addr×HK×DS)):DS:=λD U H=>tb { D with ex:=λU' a H'=>∃ C dx,FlO H' a C dx/\ECls K C/\Od K C a us D U' H' } U H
inductive Zi (X:Cx):Option Str->HK->Prop where
 |no:Zi X none .no
 |as {n:Str} {i:Nat} (hN:X.N.Nodup) (hi:X.N[i]? = some n) (hl:X.env.scope.names.lookup n=some .local):Zi X (some n) (.as i)
inductive Xn (X:Cx):List ExceptHandler->List (Addr×HK×DS)->Prop where
 |nil {hl:List ExceptHandler}:Xn X hl []
 | cons {x:Str} {p pos:Pos} {nm:Option Str} {oi:HK} {b:Stmt} {suite:List Stmt} {rest:List ExceptHandler} {T:Addr} {u:DS} {us:List (Addr×HK×DS)} (hg:Gl X x) (hm:X.mg x=some (.ref T)) (hd:(x==("__debug__" : Str))=false) (ec:ECls X.K T) (ha:Zi X nm oi) (hs:∀ a,QSs (X.hd a) (b::suite) u) (r:Xn X rest us) :
   Xn X (.ExceptHandler (some (.Name x p)) nm (b::suite) pos::rest) ((T,oi,u)::us)
section
variable {X:Cx} {pins:List (Addr×Obj)}
theorem Fp {M:mW} {A:bq} {E:Value->aj->Prop} {U:St} {H:Hp} {s:aj} {i:Nat} {x:Str} {pos:Pos} {Q:Unit->aj->Prop} (I:Inv X pins U H s) (hN:X.N.Nodup) (hi:X.N[i]? = some x) (hk:X.env.scope.names.lookup x=some .local)
  (h:∀ s',Inv X pins (U.set i none) H s'->Q () s'):aN M A (do bindName X.env x .none;unbindBehindTheSuite X.env x pos) Q E s:=by
 obtain⟨m,hn,hl⟩:=id I.loc
 refine wpAny_nameGoes_keeps hk hn (by rw[I.ok.kind];rfl) λh' v hn' sb=>h _ ?_
 have old:∀ {b o},X.s₀.heap.get? b=some o->h'.get? b=s.heap.get? b:=λ{b o} e=>sb.2 b (aQ (aJ (aA e) I.ok.above))
 exact {
  ok:=I.ok
  os:=⟨I.os.1,gR I.os.2⟩
  bare:=I.bare
  base:={ I.base with
   keep:=λb o e n hb hx=>by show h'.get? b=_;rw[old e];exact I.base.keep b o e n hb hx
   slot:=λb o e n hb hx=>by show ∃ sl,h'.get? b=_;rw[old e];exact I.base.slot b o e n hb hx
   there:=λb o e hx=>by show ∃ o',h'.get? b=_;rw[old e];exact I.base.there b o e hx }
  loc:=⟨_,hn',λj y w e1 e2 e3=>by
   have hj:j≠i:=λz=>by
    have lt:i<U.length:=by rw[I.len];exact (List.getElem?_eq_some_iff.mp hi).1
    rw[z,gI lt] at e2
    cases e2
   rw[ib (ce hj)] at e2
   obtain⟨u,r,q⟩:=hl j y w e1 e2 e3
   have ny:y≠x:=λz=>hj (K3 hN e1 (z▸hi))
   refine⟨u,r,q.imp (fun⟨k,e⟩=>⟨k,(if_neg ny).trans e⟩) fun⟨k,c,e,z⟩=>⟨k,c,e,z.sameBut sb (I.cne y c e)⟩⟩⟩
  cell:=λy c e=>let ⟨w,z⟩:=I.cell y c e;⟨w,z.sameBut sb (I.cne y c e)⟩
  free:=I.free
  freeC:=I.freeC
  pin:=λp hp=>let ⟨e,n,ne,nf,d⟩:=I.pin p hp;⟨(sb.2 p.1 ne).trans e,n,ne,nf,d⟩
  hok:=λb ob e=>(I.hok b ob e).stay (λc w hc q=>(sb.2 c (by
   rintro rfl
   have f:=I.free
   rcases hc with rfl|hc
   .rw[f] at e;cases e
   .rw[f] at hc;cases hc)).trans q) (λ_ q=>q) λ_ _ q=>q
  len:=by rw[j0];exact I.len }
theorem X3 (hst:X.stack=X.env::X.outer) (hfr:X.env.frame=some X.env.locals) {Ex:St->EK} (mt:Meets X Ex) {D:Ly} {hl:List ExceptHandler} {us:List (Addr×HK×DS)} (K:Xn X hl us):∀ {U:St} {H:Hp} {s:aj} {a C:Addr} {dx:Option Addr},Inv X pins U H s->Gg X pins H a s->FlO H a C dx->ECls X.K C->Od X.K C a us (av0 Ex D) U H ->
  aN (model X.prog X.w) X.A (handleBy (.ref a) X.env hl) (SP X pins D) X.xe s:=by
 induction K with
 |nil=>intro U H s a C dx I F e ec h;exact h.elim
 |@cons x p pos nm oi b suite rest T u us hg hm hd ecT ha hs r ih=>
  intro U H s a C dx I F e ec h
  obtain⟨m,hm2,h⟩:=h
  have hx:∃ vs:Array Value,s.heap.get? a=some (Aq C dx vs):=by
   obtain⟨vs,z,_⟩:=ad0 I (.inr e)
   exact⟨vs,z⟩
  obtain⟨vs,hx⟩:=hx
  refine wpAny_handleBy_cons (codeAny_handlers_test (Dp (X:=X.hd a) (Tu I) hg hm ?_ hd)) (by intro q;cases q)
  refine Uc (A:=(X.hd a).A) I.kIn ec ecT hx hm2 ?_
  cases m with
  |false=>exact ih I F e ec h
  |true=>
   cases ha with
   |no=>
    refine codeAny_handlers_suite (Nd (A:=(X.hd a).A) I F λs1 I1 F1=>?_)
    exact bN (hs a (λ_ _ _=>False) Gx pins s1 U H D (Tu I1) h) (λf s2 q=>Xe I.ok q) λ_ _ z=>z.elim
   |@as n i hN hi hlo=>
    refine codeAny_handlers_suite_as (Nd (A:=(X.hd a).A) I F λs1 I1 F1=>?_)
    refine G6 (i:=i) (v:=.ref a) I1 hN hi (.inl hlo) rfl (λs2 I2=>?_) (.inr hlo)
    refine bN (hs a (λ_ _ _=>False) Gx pins s2 (U.set i (some (.ref a))) H ⟨λU' H'=>D.nx (U'.set i none) H',D.rt,λU' H'=>D.bk (U'.set i none) H',λU' H'=>D.ct (U'.set i none) H'⟩ (Tu I2) h) (λf s3 q=>?_) λ_ _ z=>z.elim
    have q:=Xe I.ok q
    cases f with
    |next=>obtain⟨U',H',I',q⟩:=q;exact Fp I' hN hi hlo λs4 I4=>⟨_,H',I4,q⟩
    |brk=>obtain⟨U',H',I',q⟩:=q;exact Fp I' hN hi hlo λs4 I4=>⟨_,H',I4,q⟩
    |cont=>obtain⟨U',H',I',q⟩:=q;exact Fp I' hN hi hlo λs4 I4=>⟨_,H',I4,q⟩
    |ret w=>obtain⟨v,U',H',I',r,q⟩:=q;exact Fp I' hN hi hlo λs4 I4=>⟨v,_,H',I4,r,q⟩
theorem bh7 {Y:Cx} {body:List Stmt} {h0:ExceptHandler} {hs:List ExceptHandler} {pos:Pos} {tb:DS} {us:List (Addr×HK×DS)} (hst:Y.stack=Y.env::Y.outer) (hfr:Y.env.frame=some Y.env.locals)
  (hb:∀ pn xe,gw (model Y.prog Y.w) Y.A Y.env xe->QSs (Y.tr pn xe) body tb) (hh:Xn Y (h0::hs) us):QS Y (.Try body (h0::hs) [] [] pos) (as0 Y.K tb us):=by
 intro Ex m pins s U H D I hw
 refine wpAny_Try_except ?_
 refine bN (hb (Y.pn++pins) (λe s1=>aN (model Y.prog Y.w) Y.A (lF e Y.env) (λ_ s2=>aN (model Y.prog Y.w) Y.A (kc e none) (λ_ s3=>aN (model Y.prog Y.w) Y.A (handleBy e Y.env (h0::hs)) (SP Y pins D) Y.xe s3) Y.xe s2) Y.xe s1) PassesOwn.looking
  (λU' a H'=>∃ C dx,FlO H' a C dx/\ECls Y.K C/\Od Y.K C a us (av0 Ex D) U' H') ?_ [] s U H D (a74 I) hw) (λf s1 q=>?_) λ_ _ z=>z
 .intro pins' U' H' s' a I' F' ⟨C,dx,e,ec,h⟩
  exact Wq (E8 I') hst hfr (ad3 F') λs2 I2 F2=>X3 hst hfr m hh I2 F2.at e ec h
 .have q:=az3 q
  cases f with
  |next=>exact ke q
  |_=>exact q
end
def Hx:Expr->Bool
 |.ListComp _ _ _ _=>false
 |.SetComp _ _ _ _=>false
 |.DictComp _ _ _ _ _=>false
 |_=>true
theorem Hy {e:Expr} (h:Hx e=true) (t:Option Expr) (l:Nat) (env:Env):jh e t l env=pure false:=by
 cases e with
 |ListComp _ _ _ _=>cases h
 |SetComp _ _ _ _=>cases h
 |DictComp _ _ _ _ _=>cases h
 |_=>rfl
section
variable {X:Cx} {G:Sg} {st:Stmt} {rest:List Stmt} {t u:DS} {e:Expr} {de:DE} {pos p':Pos}
theorem Bw:QS X st Cg:=λ_ _ _ _ _ _ _ _ h=>h.elim
theorem W1:QSs X [] Af:=λ_ _=>aw1
theorem Rr (h1:QS X st t) (h2:QSs X rest u):QSs X (st::rest) (Ae t u):=λEx m=>ai7 (h1 Ex m) (h2 Ex m)
theorem ax5:QS X (.Pass pos) Af:=λ_ _=>av8
theorem bh2:QS X (.Break pos) bl0:=λ_ _=>ai5
theorem bh3:QS X (.Continue pos) bl1:=λ_ _=>Ro
theorem ak1 (h:QE X e de):QS X (.Return (some e) pos) (Ar de):=λEx m=>bf0 (h Ex m)
theorem ax6:QS X (.Return none pos) a12:=λ_ _=>av9
theorem ax4 (h:QE X e de) (hn:Hx e=true):QS X (.Expr e pos) (Et de):=λEx m=>av7 (h Ex m) (Hy hn _ _ _)
theorem bs3 {c:Expr} {a b:List Stmt} {tc:DT} (hc:QT X c tc) (ha:QSs X a t) (hb:QSs X b u):QS X (.If c a b pos) (dIf tc t u):=λEx m=>br7 (hc Ex m) (ha Ex m) (hb Ex m)
theorem ak2 {i:Nat} {x:Str} (O:GOk X G) (hi:Cf G.N x 0=some i) (hx:Uh G x=true) (h:QE X e de) (hn:jh e (some (.Name x p')) pos.line X.env=pure false):QS X (.Assign [.Name x p'] e pos) (Ao i de):=by
 obtain⟨h1,h2⟩:=Pb O hx
 exact λEx m=>bf1 (by rw[O.N];exact O.nd) (by rw[O.N];exact Ea hi) h1 (h Ex m) hn h2
variable {tg iter elt:Expr} {ifs:List Expr} {sc:Scope} {wi:DI} {g:DG} {tc:DT}
theorem Uo {i:Nat} {x:Str} {cp:Pos} (O:GOk X G) (hi:Cf G.N x 0=some i) (hx:Uh G x=true) (hc:X.calm=true) (hk:E2 G sc=true) (hs:K0 iter=true) (hq:QI X tg iter wi) (hg:∀ X',GOk X' (Cn G sc.names)->PG X' tg g)
  (ht:∀ X',GOk X' (Cn G sc.names)->ar2 X' ifs tc) (he:∀ X',GOk X' (Cn G sc.names)->QE X' elt de) :
  QS X (.Assign [.Name x p'] (.ListComp elt [⟨tg,iter,ifs,0⟩] sc cp) pos) (Ao i (Bf (Fm G sc.names) wi g tc de)):=by
 obtain⟨h1,h2⟩:=Pb O hx
 have sw:jh (.ListComp elt [⟨tg,iter,ifs,0⟩] sc cp) (some (.Name x p')) pos.line X.env=pure (X.env.blockKind==.function&&X.env.kindOf x==some .local&&p'.line==(Expr.ListComp elt [⟨tg,iter,ifs,0⟩] sc cp).pos.line
   && !(sc.names.any λ(n,k)=>n==x&&(k==.local||k==.cell))):=rfl
 cases hb:(X.env.blockKind==.function&&X.env.kindOf x==some .local&&p'.line==(Expr.ListComp elt [⟨tg,iter,ifs,0⟩] sc cp).pos.line
   && !(sc.names.any λ(n,k)=>n==x&&(k==.local||k==.cell))) with
 |false=>
  rw[hb] at sw
  exact ak2 O hi hx (Wv O hc hk hs hq hg ht he) sw
 |true=>
  rw[hb] at sw
  simp only[aE] at hb
  have hl:X.env.scope.names.lookup x=some .local:=ck hb.1.1.2
  intro Ex m pins s U H D I h
  exact ab8 hc (by rw[O.N];exact O.nd) (by rw[O.N];exact Ea hi) hl (Oh O hk) (hq Ex m) (λus Q2 fp C D s2 H2 I2 f2 hC=>
   have M:=Ky (N':=(Cn G sc.names).N) (cl:=Cm X.env.cells sc.names []) (us:=us) (Q2:=Q2) (D:=D) m O.fr I2 f2 hC
   have K:=We O hk fp C s2 H2 (Bn X sc (Cm X.env.cells sc.names []) us Q2 D C)
   ⟨hg _ K,ht _ K _ M,he _ K _ M⟩) I h sw (λx=>K2 hs X.env x)
theorem bh5 {body:List Stmt} (O:GOk X G) (ht:G.top=true) (hc:X.calm=true) (hi:QI X tg iter wi) (hg:PG X tg g) (hb:QSs X body t) (hs:K0 iter=true):QS X (.For tg iter body [] pos) (B9 wi g t):=by
 intro Ex m pins s U H D I h
 refine bN (be9 (O.own ht) hc (hi Ex m) hg (hb Ex m) (λx=>K2 hs X.env x) pins s U H { D with nx:=λU' H'=>Thaw H H' (D.nx U') } I h) (λf s' q=>?_) λ_ _ z=>z
 cases f with
 |next=>
  obtain⟨U',H',I',q⟩:=q
  obtain⟨H2,I2,q2⟩:=Thaw.inv I I' q
  exact⟨U',H2,I2,q2⟩
 |_=>exact q
noncomputable def By (K:ac) (e:DE):DS:=λD U H=>e U H (Pp K (D.ex U)) (D.ex U)
theorem ak0 (O:GOk X G) (hc:X.A.handled=none) (h:QE X e de):QS X (.Raise (some e) none pos) (By X.K de):=λEx m=>ai6 m hc (h Ex m)
def ag5:Expr->Bool
 |.Tuple _ _ _=>false
 |_=>true
theorem ag6 {e:Expr} (h:ag5 e=true) (tg:Expr) (env:Env):swappedStores [tg] e env=pure none:=by
 cases e with
 |Tuple _ _ _=>cases h
 |_=>cases tg <;> rfl
theorem bh1 {ts:List Expr} {kt:Nat} {pt:Pos} {g:DG} (h:QE X e de) (hg:PG X (.Tuple ts kt pt) g) (hn:Hx e=true) (ht:ag5 e=true):QS X (.Assign [.Tuple ts kt pt] e pos) (Ew de g):=
 λEx m=>ai4 (h Ex m) hg (show lI [.Tuple ts kt pt] e pos.line X.env=pure false from Hy hn (some (.Tuple ts kt pt)) pos.line X.env) (ag6 ht _ _)
noncomputable def Co (K:ac) (o i:DE):DG:=λv U H Q=>o U H (λx H1=>i U H1 (λy H2=>a28 x y v H2 (Q U)) λ_ _=>False) λ_ _=>False
theorem bh6 {o i:Expr} {do' di:DE} (hu:X.A.units+64<cLine) (ho:QE X o do') (hi:QE X i di) (h:QE X e de) (hsl:Gy i=true):QS X (.Assign [.Subscript o i p'] e pos) (Ew de (Co X.K do' di)):=by
 intro Ex m
 have hg:PG X (.Subscript o i p') (Co X.K do' di):=be7 (ho _ Gx) (hi _ Gx) (bs9 hu) (by
  intro v
  cases i with
  |Slice _ _ _ _=>cases hsl
  |_=>rfl)
 exact ai4 (h Ex m) hg (show lI [.Subscript o i p'] e pos.line X.env=pure false from by show jh e (some (.Subscript o i p')) pos.line X.env=pure false;cases e <;> rfl) (by cases e <;> rfl)
noncomputable def Eg (K:ac) (f:Str) (o e:DE):DS:=λD U H=>e U H (λy H1=>o U H1 (λx H2=>ak7 K f x y H2 (D.nx U)) (D.ex U)) (D.ex U)
theorem bh4 {o:Expr} {f:Str} {do':DE} (ho:QE X o do') (h:QE X e de):QS X (.Assign [.Attribute o f p'] e pos) (Eg X.K f do' de):=by
 intro Ex m pins s U H D I hw
 refine plainObj_wpAny_Assign_Attribute (thn (h Ex m pins s U H _ I hw) λu s1 ⟨y,H1,I1,ry,q⟩=>thn (ho Ex m pins s1 U H1 _ I1 q) λov s2 ⟨x,H2,I2,rx,q2⟩=>?_) (by cases e <;> rfl)
 exact bs8 I2 rx ry q2 λH' s' I' hN=>⟨U,H',I',hN⟩
end
def bx3:GB->GB
 |.val v u=>.val v u
 |.exc C _=>.val (.ref C) (.ref C)
 |.cls C _=>.val (.ref C) (.ref C)
 |_=>.met "" []
def bj5 (gb:List (Str×GB)):List (Str×GB):=gb.map λp=>(p.1,bx3 p.2)
def hdG (G:Sg):Sg:={ G with gb:=bj5 G.gb,calm:=false }
def Q3 (gb:List (Str×GB)) (x:Str):Option Addr:=match gb.lookup x with
 |some (.exc T _)=>some T
 |_=>none
noncomputable def okH (G:Sg):ExceptHandler->Bool
 | .ExceptHandler (some (.Name x _)) nm (_::_) _=>Jc G x&&(Q3 G.gb x).isSome&&(match nm with
  |none=>true
  |some n=>(Cf G.N n 0).isSome&&(G.sc.lookup n==some .local))
 |_=>false
def bn6 (G:Sg):ExceptHandler->Option Nat
 |.ExceptHandler _ (some n) _ _=>Cf G.N n 0
 |_=>none
def ae6 (G:Sg) (h:ExceptHandler):HK:=match bn6 G h with
 |some i=>.as i
 |none=>.no
def bk9 (G:Sg):ExceptHandler->Addr
 |.ExceptHandler (some (.Name x _)) _ _ _=>(Q3 G.gb x).getD 0
 |_=>0
def bk8:ExceptHandler->List Stmt
 |.ExceptHandler _ _ b _=>b
theorem a69 {X:Cx} {G:Sg} (O:GOk X G) (a:Addr):GOk (X.hd a) (hdG G) where
 K:=O.K
 kind:=O.kind
 own:=λ_=>iz
 N:=O.N
 nd:=O.nd
 sc:=O.sc
 vis:=O.vis
 top:=O.top
 calm:=rfl
 hd:=λz=>by cases z
 units:=O.units
 cel:=O.cel
 gb:=λx g e=>by
  obtain⟨⟨y,g'⟩,hg,z⟩:=List.mem_map.mp (show (x,g)∈G.gb.map λp=>(p.1,bx3 p.2) from e)
  cases z
  have h:=O.gb _ g' hg
  cases g' with
  |val v u=>exact h
  |exc C i=>exact⟨h.1,rfl⟩
  |cls C i=>exact⟨h.1,rfl⟩
  |fn i=>exact λmi hm=>by cases hm
  |met m l=>exact λmi hm=>by cases hm
 bl:=O.bl
 frm:=O.frm
 fr:=O.fr
theorem bx2 {X:Cx} {pn:List (Addr×Obj)} {xe:Value->aj->Prop} {i:FI} (F:Gf X i):Gf (X.tr pn xe) i:=⟨F.kp,F.ok,F.room,F.binds,F.vals⟩
theorem bj1 {X:Cx} {G:Sg} (O:GOk X G) {pn:List (Addr×Obj)} {xe:Value->aj->Prop} (ho:gw (model X.prog X.w) X.A X.env xe):GOk (X.tr pn xe) G where
 K:=O.K
 kind:=O.kind
 own:=λ_=>ho
 N:=O.N
 nd:=O.nd
 sc:=O.sc
 vis:=O.vis
 top:=O.top
 calm:=O.calm
 hd:=O.hd
 units:=O.units
 cel:=O.cel
 gb:=λx g e=>by
  refine GBOk.to (X:=X) ?_ ?_ ?_ ?_ ?_ ?_ (O.gb x g e)
  .rfl
  .rfl
  .rfl
  .rfl
  .exact λ_ r=>r
  .exact λi F=>bx2 F
 bl:=O.bl
 frm:=O.frm
 fr:=O.fr
theorem ag9 {G:Sg} {h:ExceptHandler} (hh:okH G h=true):∃ x p nm b suite pos,h=.ExceptHandler (some (.Name x p)) nm (b::suite) pos/\Jc G x=true/\(Q3 G.gb x).isSome=true /\ ∀ n,nm=some n->(Cf G.N n 0).isSome=true/\G.sc.lookup n=some .local:=by
 unfold okH at hh
 split at hh
 .rw[aE,aE] at hh
  refine⟨_,_,_,_,_,_,rfl,hh.1.1,hh.1.2,λn e=>?_⟩
  have h2:=hh.2
  rw[e] at h2
  have h2:((Cf G.N n 0).isSome&&(G.sc.lookup n==some .local))=true:=h2
  rw[aE] at h2
  exact⟨h2.1,ck h2.2⟩
 .cases hh
noncomputable def hsD (G:Sg) (w:List Stmt->DS) (hl:List ExceptHandler):List (Addr×HK×DS):=(hl.takeWhile (okH G)).map λh=>(bk9 G h,ae6 G h,w (bk8 h))
theorem a17 {X:Cx} {G:Sg} (O:GOk X G) {w:List Stmt->DS} (h:∀ a ss,QSs (X.hd a) ss (w ss)):∀ hl:List ExceptHandler,Xn X hl (hsD G w hl)
 |[]=>.nil
 | e0::r=>by
  unfold hsD
  rw[List.takeWhile_cons]
  cases h1:okH G e0 with
  |false=>exact .nil
  |true=>
  obtain⟨x,p,nm,b,suite,pos,rfl,hg,hs,hnm⟩:=ag9 h1
  obtain⟨T,hT⟩:=Option.isSome_iff_exists.mp hs
  have hl:∃ oi,G.gb.lookup x=some (.exc T oi):=by
   unfold Q3 at hT
   split at hT
   .rename_i T' oi e;cases hT;exact⟨oi,e⟩
   .cases hT
  obtain⟨oi,hl⟩:=hl
  obtain⟨m,kp,ec,_⟩:=O.at_ x _ hl
  have e:bk9 G (.ExceptHandler (some (.Name x p)) nm (b::suite) pos)=T:=by show (Q3 G.gb x).getD 0=T;rw[hT];rfl
  simp only[if_true,aZ]
  rw[e]
  have ao:Zi X nm (ae6 G (.ExceptHandler (some (.Name x p)) nm (b::suite) pos)):=by
   unfold ae6
   cases nm with
   |none=>exact .no
   |some n=>
    obtain⟨z1,z2⟩:=hnm n rfl
    obtain⟨i,hi⟩:=Option.isSome_iff_exists.mp z1
    show Zi X (some n) (match Cf G.N n 0 with|some i=>HK.as i|none=>HK.no)
    rw[hi]
    exact .as (by rw[O.N];exact O.nd) (by rw[O.N];exact Ea hi) (by rw[O.sc];exact z2)
  exact .cons (O.gl hg) m (Tw hg).1 ec ao (λa=>h a _) (a17 O h r)
mutual
noncomputable def wS:Nat->Sg->Stmt->DS
 |0,_,_=>Cg
 | n+1,G,st=>match st with
  |.Pass _=>Af
  |.Break _=>bl0
  |.Continue _=>bl1
  |.Return (some e) _=>Ar (wE n G e)
  |.Return none _=>a12
  |.Expr e _=>if Hx e=true then Et (wE n G e) else Cg
  |.If c a b _=>dIf (wT n G c) (wSs n G a) (wSs n G b)
  | .Assign [.Name x _] (.ListComp elt [⟨tg,iter,ifs,0⟩] sc _) _=>match Cf G.N x 0 with
   | some i=>if Uh G x=true/\G.calm=true/\E2 G sc=true/\K0 iter=true then
     Ao i (Bf (Fm G sc.names) (wI n G tg iter) (wG n (Cn G sc.names) tg) (match ifs with | []=>Ck | [c]=>wT n (Cn G sc.names) c|_=>tNo) (wE n (Cn G sc.names) elt)) else Cg
   |none=>Cg
  | .Assign [.Name x _] e _=>match Cf G.N x 0 with
   |some i=>if Uh G x=true/\Hx e=true then Ao i (wE n G e) else Cg
   |none=>Cg
  |.Assign [.Tuple ts kt pt] e _=>if Hx e=true/\ag5 e=true then Ew (wE n G e) (wG n G (.Tuple ts kt pt)) else Cg
  |.Assign [.Attribute o f _] e _=>Eg G.K f (wE n G o) (wE n G e)
  |.Assign [.Subscript o i _] e _=>if Gy i=true then Ew (wE n G e) (Co G.K (wE n G o) (wE n G i)) else Cg
  |.Raise (some e) none _=>if G.calm=true then By G.K (wE n G e) else Cg
  |.For tg iter body [] _=>if G.calm=true/\K0 iter=true/\G.top=true then B9 (wI n G tg iter) (wG n G tg) (wSs n G body) else Cg
  |.Try body (h::hs) [] [] _=>if G.top=true then as0 G.K (wSs n G body) (hsD G (wSs n (hdG G)) (h::hs)) else Cg
  |_=>Cg
noncomputable def wSs:Nat->Sg->List Stmt->DS
 |0,_,_=>Cg
 |_+1,_,[]=>Af
 |n+1,G,s::r=>Ae (wS n G s) (wSs n G r)
end
theorem ap4:∀ (n:Nat) (X:Cx) (G:Sg),GOk X G->(∀ s,QS X s (wS n G s))/\(∀ ss,QSs X ss (wSs n G ss)):=by
 intro n
 induction n with
 |zero=>
  intro X G O
  refine⟨λs=>?_,λs=>?_⟩
  .unfold wS;exact Bw
  .unfold wSs;exact λ_ _ _ _ _ _ _ _ h=>h.elim
 |succ n ih=>
  intro X G O
  obtain⟨hS,hSs⟩:=ih X G O
  obtain⟨hE,hT,hI⟩:=ap3 n X G O
  refine⟨λs=>?_,λs=>?_⟩
  .unfold wS
   split
   .exact ax5
   .exact bh2
   .exact bh3
   .exact ak1 (hE _)
   .exact ax6
   .split
    .exact ax4 (hE _) ‹_›
    .exact Bw
   .exact bs3 (hT _) (hSs _) (hSs _)
   .split
    .rename_i i e
     split
     .rename_i hh
      obtain⟨h1,h2,h3,h4⟩:=hh
      refine Uo O e h1 (O.calm▸h2) h3 h4 (hI _ _) (λX' O'=>So n X' _ O' _) (λX' O'=>?_) (λX' O'=>(ap3 n X' _ O').1 _)
      split
      .exact Rp
      .exact Rq ((ap3 n X' _ O').2.1 _)
      .exact λ_ _ _ _ _ _ _ _ h=>h.elim
     .exact Bw
    .exact Bw
   .split
    .rename_i i e
     split
     .rename_i hh
      exact ak2 O e hh.1 (hE _) (Hy hh.2 _ _ _)
     .exact Bw
    .exact Bw
   .split
    .rename_i hh
     exact bh1 (hE _) (So n X G O _) hh.1 hh.2
    .exact Bw
   .rw[<- O.K];exact bh4 (hE _) (hE _)
   .split
    .rename_i hh
     rw[<- O.K];exact bh6 O.units (hE _) (hE _) (hE _) hh
    .exact Bw
   .split
    .rename_i hcm
     rw[<- O.K];exact ak0 O (O.hd (O.calm▸hcm)) (hE _)
    .exact Bw
   .split
    .rename_i hh
     exact bh5 O hh.2.2 (O.calm▸hh.1) (hI _ _) (So n X G O _) (hSs _) hh.2.1
    .exact Bw
   .split
    .rename_i hh
     rw[<- O.K]
     exact bh7 (O.frm hh).1 (O.frm hh).2 (λpn xe ho=>(ih _ _ (bj1 O ho)).2 _) (a17 O (λa ss=>(ih _ _ (a69 O a)).2 ss) _)
    .exact Bw
   .exact Bw
  .cases s with
   |nil=>unfold wSs;exact W1
   |cons a r=>unfold wSs;exact Rr (hS a) (hSs r)
section
variable {P:aS} {w:bz} {K:ac} {mg:Str->Option Value} {base:Heap}
structure FnIn (P:aS) (w:bz) (K:ac) (mg:Str->Option Value) (base:Heap) (k:Nat) (x:Str) (i:FI):Prop where
 at_:mg x=some (.ref i.f)
 kp:ba K (.ref i.f)=true
 ok:∃ CX,(∀ X':Cx,X'.prog=P->X'.w=w->Ka CX X')/\FnOk P w K mg base CX i.k i.f i.fd i.ps i.sp
 le:i.k<=k
 binds:∀ j,j<=i.dfs.length->Binds K i.fd i.ps (i.ds.drop j)
 vals:Vals i.dfs i.ds
noncomputable def a50 (P:aS) (w:bz) (K:ac) (mg:Str->Option Value) (base:Heap) (k:Nat) (C:Addr):Option FI->Prop
 |none=>True
 | some i=>bh K (.ref C) "__init__" = some (some (.ref i.f))/\cP K (.ref i.f)=true/\ba K (.ref i.f)=true/\(∃ CX,(∀ X':Cx,X'.prog=P->X'.w=w->Ka CX X')/\FnOk P w K mg base CX i.k i.f i.fd i.ps i.sp) /\
   i.k+1<=k/\(∀ j,j<=i.dfs.length->Binds K i.fd i.ps (i.ds.drop j))/\Vals i.dfs i.ds
structure ExcIn (P:aS) (w:bz) (K:ac) (mg:Str->Option Value) (base:Heap) (k:Nat) (x:Str) (C:Addr) (oi:Option FI):Prop where
 at_:mg x=some (.ref C)
 kp:ba K (.ref C)=true
 cls:ECls K C
 init:a50 P w K mg base k C oi
structure FiIn (P:aS) (w:bz) (K:ac) (mg:Str->Option Value) (base:Heap) (k:Nat) (i:FI):Prop where
 kp:ba K (.ref i.f)=true
 ok:∃ CX,(∀ X':Cx,X'.prog=P->X'.w=w->Ka CX X')/\FnOk P w K mg base CX i.k i.f i.fd i.ps i.sp
 le:i.k<=k
 binds:∀ j,j<=i.dfs.length->Binds K i.fd i.ps (i.ds.drop j)
 vals:Vals i.dfs i.ds
theorem FiIn.mono {k k':Nat} {i:FI} (F:FiIn P w K mg base k i) (h:k<=k'):FiIn P w K mg base k' i:=⟨F.kp,F.ok,aY F.le h,F.binds,F.vals⟩
noncomputable def bx7 (P:aS) (w:bz) (K:ac) (mg:Str->Option Value) (base:Heap) (k:Nat) (C:Addr):Option FI->Prop
 |none=>dI K C=true/\bh K (.ref C) "__init__" = some (some (.builtin "object.__init__"))
 |some i=>dI K C=true/\bh K (.ref C) "__init__" = some (some (.ref i.f))/\cP K (.ref i.f)=true/\FiIn P w K mg base k i/\i.k+1<=k
structure ClsIn (P:aS) (w:bz) (K:ac) (mg:Str->Option Value) (base:Heap) (k:Nat) (x:Str) (C:Addr) (oi:Option FI):Prop where
 at_:mg x=some (.ref C)
 kp:ba K (.ref C)=true
 made:bx7 P w K mg base k C oi
theorem ClsIn.mono {k k':Nat} {x:Str} {C:Addr} {oi:Option FI} (F:ClsIn P w K mg base k x C oi) (h:k<=k'):ClsIn P w K mg base k' x C oi:=by
 refine⟨F.at_,F.kp,?_⟩
 cases oi with
 |none=>exact F.made
 |some i=>obtain⟨a,b,c,d,e⟩:=F.made;exact⟨a,b,c,d.mono h,aY e h⟩
structure MetIn (P:aS) (w:bz) (K:ac) (mg:Str->Option Value) (base:Heap) (k:Nat) (m:Str) (mi:MI):Prop where
 cls:Cls K mi.C
 at_:Qk K mi.C m mi.i.f
 fi:FiIn P w K mg base k mi.i
theorem MetIn.mono {k k':Nat} {m:Str} {mi:MI} (F:MetIn P w K mg base k m mi) (h:k<=k'):MetIn P w K mg base k' m mi:=⟨F.cls,F.at_,F.fi.mono h⟩
theorem ExcIn.mono {P:aS} {w:bz} {K:ac} {mg:Str->Option Value} {base:Heap} {k k':Nat} {x:Str} {C:Addr} {oi:Option FI} (F:ExcIn P w K mg base k x C oi) (h:k<=k'):ExcIn P w K mg base k' x C oi:=by
 refine⟨F.at_,F.kp,F.cls,?_⟩
 cases oi with
 |none=>exact F.init
 |some i=>obtain⟨a,b,c,d,e,f⟩:=F.init;exact⟨a,b,c,d,aY e h,f⟩
noncomputable def GBIn (P:aS) (w:bz) (K:ac) (mg:Str->Option Value) (base:Heap) (k:Nat) (x:Str):GB->Prop
 |.fn i=>FnIn P w K mg base k x i
 |.val v u=>mg x=some u/\RelV v u
 |.exc C oi=>ExcIn P w K mg base k x C oi
 |.cls C oi=>ClsIn P w K mg base k x C oi
 |.met m l=>∀ mi∈l,MetIn P w K mg base k m mi
structure Tab (P:aS) (w:bz) (K:ac) (mg:Str->Option Value) (base:Heap) (k:Nat) (gb:List (Str×GB)) (bl:List Str):Prop where
 all:∀ x g,(x,g)∈gb->GBIn P w K mg base k x g
 bl:∀ x∈bl,mg x=none
theorem FnIn.mono {k k':Nat} {x:Str} {i:FI} (F:FnIn P w K mg base k x i) (h:k<=k'):FnIn P w K mg base k' x i:=⟨F.at_,F.kp,F.ok,aY F.le h,F.binds,F.vals⟩
theorem GBIn.mono {k k':Nat} {x:Str} {g:GB} (F:GBIn P w K mg base k x g) (h:k<=k'):GBIn P w K mg base k' x g:=by
 cases g with
 |fn i=>exact FnIn.mono F h
 |val v u=>exact F
 |exc C oi=>exact ExcIn.mono F h
 |cls C oi=>exact ClsIn.mono F h
 |met m l=>exact λmi hm=>(F mi hm).mono h
theorem GBIn.there {X:Cx} {k:Nat} {x:Str} {g:GB} (F:GBIn X.prog X.w X.K X.mg X.base k x g) (hr:Room k X.A):GBOk X x g:=by
 cases g with
 |fn i=>exact⟨F.at_,F.kp,F.ok,hr.mono F.le,F.binds,F.vals⟩
 |val v u=>exact F
 |exc C oi=>
  refine⟨F.at_,F.kp,F.cls,?_⟩
  cases oi with
  |none=>exact F.init
  |some i=>obtain⟨a,b,c,d,e,f,g⟩:=F.init;exact⟨a,b,⟨c,d,hr.mono (by omega),f,g⟩,hr.mono e⟩
 |cls C oi=>
  refine⟨F.at_,F.kp,?_⟩
  cases oi with
  |none=>exact F.made
  |some i=>obtain⟨a,b,c,d,e⟩:=F.made;exact⟨a,b,c,⟨d.kp,d.ok,hr.mono d.le,d.binds,d.vals⟩,hr.mono e⟩
 |met m l=>exact λmi hm=>⟨(F mi hm).cls,(F mi hm).at_,⟨(F mi hm).fi.kp,(F mi hm).fi.ok,hr.mono (F mi hm).fi.le,(F mi hm).fi.binds,(F mi hm).fi.vals⟩⟩
theorem Gz (X:Cx):Ka CX0 X:=λ_ _ _ _ _ _ _ _ _ h=>h.elim
noncomputable def Hn (K:ac) (N:List Str) (sc:Scope) (gb:List (Str×GB)) (bl:List Str):Sg:=⟨K,N,sc.names,gb,bl,true,true⟩
def Ja (N:List Str) (sc:Scope):Bool:=N.all λx=>(sc.names.lookup x==some .local)||(sc.names.lookup x==some .cell)
def ac6 (Q:VK) (E:EK):Outs:=⟨λ_ H'=>Q .non H',Q,λ_ _=>False,λ_ _=>False,λ_=>E⟩
structure FunD (K:ac) (x qual:Str) (st:Stmt) (f:Addr) (fd:a9) (dV:Value):Prop where
 ex:∃ (oc:Value) (od:Option Addr) (kV doc pm:Value) (an:Option Addr) (cdv ct:Value) (osl:Array (Option Value)),
  fd=cr x qual (Bz st) (A0 st) (Ak st) dV kV doc pm an cdv ct/\K.lookup f=some ⟨oc,od,.func fd,osl⟩/\dA K cdv qual=true
 kp:ba K (.ref f)=true
theorem Fun.toD {x qual:Str} {st:Stmt} {f:Addr} {fd:a9} (F:Fun K x qual st f fd):FunD K x qual st f fd .none:=⟨F.ex,F.kp⟩
theorem as9 {x qual:Str} {st:Stmt} {f:Addr} {oc:Value} {od an:Option Addr} {osl:Array (Option Value)} {dV kV doc pm cdv ct:Value} (l:K.lookup f=some ⟨oc,od,.func (cr x qual (Bz st) (A0 st) (Ak st) dV kV doc pm an cdv ct),osl⟩)
  (c:dA K cdv qual=true) (k:ba K (.ref f)=true):FunD K x qual st f (cr x qual (Bz st) (A0 st) (Ak st) dV kV doc pm an cdv ct) dV:=⟨⟨oc,od,kV,doc,pm,an,cdv,ct,osl,rfl,l,c⟩,k⟩
theorem FunD.ok {x qual:Str} {st:Stmt} {f:Addr} {fd:a9} {dV:Value} {N ps:List Str} {k:Nat} {sp:Sp} (F:FunD K x qual st f fd dV) (S:B7 N ps (Ak st)) (len:∀ vs H Q E,sp vs H Q E->vs.length=ps.length)
  (hbody:∀ (cdv:Value) (A:bq) (outer:List Env) (s:aj) (H:Hp) (vs:List V) (Q:VK) (E:XK),Room k (A.deeper (kL qual (Ak st) s.heap.objs.size f cdv))->sp vs H Q E ->
   ∃ t,PSs (Fu CX0 P w K mg base N qual (Ak st) f cdv A outer s H E).nox (A0 st) t/\t { nx:=λ_ H'=>Q .non H',rt:=Q } (Ch N vs) H):FnOk P w K mg base CX0 (k+1) f fd ps sp:=by
 obtain⟨oc,od,kV,doc,pm,an,cdv,ct,osl,rfl,lk,hcd⟩:=F.ex
 refine ad4 lk hcd S len λA outer s H vs Q E hr hsp=>?_
 obtain⟨t,h,q⟩:=hbody cdv A outer s H vs Q E hr hsp
 exact⟨t,h.nox,q⟩
theorem Sx {fd:a9} {ps:List Str} {T:Addr} {o:Obj} {items:Array Value} {n:Nat} {ds:List Value} (hd:fd.defaults=.ref T) (ho:K.lookup T=some o) (hs:o.data=.seq items n)
  (h:∀ us:List Value,(us++ds).length=ps.length -> ∃ k:Option (Array Value)->Sem (List (Str×Value)),im fd ⟨us,[]⟩=seqItems? fd.defaults >>= k/\k (some items)=pure (ps.zip (us++ds))):Binds K fd ps ds:=λs us X hl=>by
 obtain⟨k,h1,h2⟩:=h us hl
 exact PySem.W.binds_K X hd ho hs h1 h2
theorem FunD.okW0 {x qual:Str} {st:Stmt} {f:Addr} {fd:a9} {N ps:List Str} {k n:Nat} {sp:Sp} {gb:List (Str×GB)} {bl:List Str} {t:DS} {dV:Value} (F:FunD K x qual st f fd dV) (S:B7 N ps (Ak st)) (hv:Ja N (Ak st)=true)
  (T:Tab P w K mg base k gb bl) (rd:wSs n (Hn K N (Ak st) gb bl) (A0 st)=t) (len:∀ vs H Q E,sp vs H Q E->vs.length=ps.length)
  (hbody:∀ (vs:List V) (H:Hp) (Q:VK) (E:XK),sp vs H Q E->t (ac6 Q λ_ _=>False) (Ch N vs) H):FnOk P w K mg base CX0 (k+1) f fd ps sp:=by
 refine F.ok S len λcdv A outer s H vs Q E hr h=>?_
 have O:GOk (Fu CX0 P w K mg base N qual (Ak st) f cdv A outer s H E).nox (Hn K N (Ak st) gb bl):=by
  refine⟨rfl,S.kind,(λ_=>iz),rfl,S.nd,λx=>rfl,λx hx=>?_,λ_ _=>rfl,rfl,(λ_=>hr.hd),hr.units,λx hx=>?_,λx g e=>?_,λx hx=>?_,(λ_=>⟨rfl,rfl⟩),⟨_,_,_,rfl,rfl,rfl⟩⟩
  .have:=List.all_eq_true.mp hv x hx
   rw[cI] at this
   exact this.elim (λz=>.inl (ck z)) λz=>.inr (.inl (ck z))
  .rcases hx with hx|hx
   .exact Dv hx
   .exact absurd rfl (S.nofree _ (bQ hx))
  .exact (T.all x g e).there hr
  .exact T.bl x (by have hx':bl.contains x=true:=hx;simpa using hx')
 refine⟨_,(ap4 n _ _ O).2 (A0 st) (λ_ _ _=>False) (λ_ _ _ _ _ _ _ h=>h.elim),?_⟩
 rw[rd]
 exact hbody vs H Q E h
def a14 (Q:VK) (H:Hp) (E:EK):Outs:=⟨λ_ H'=>Q .non H',λv H'=>Thaw H H' (Q v),λ_ _=>False,λ_ _=>False,λ_=>E⟩
theorem aw0 {X:Cx} {st:List Stmt} {t:TS} (h:PSs X st t):PSs X st (λD U H=>t { D with rt:=λv H'=>Thaw H H' (D.rt v) } U H):=λpins s U H D I q=>thn (h pins s U H _ I q) λf s' p=>by
 cases f with
 |ret u=>
  obtain⟨v,U',H',I',r,q'⟩:=p
  obtain⟨H2,I2,q2⟩:=Thaw.inv I I' q'
  exact⟨v,U',H2,I2,r,q2⟩
 |next=>exact p
 |brk=>exact p
 |cont=>exact p
theorem FunD.okWT {x qual:Str} {st:Stmt} {f:Addr} {fd:a9} {N ps:List Str} {k n:Nat} {sp:Sp} {gb:List (Str×GB)} {bl:List Str} {t:DS} {dV:Value} (F:FunD K x qual st f fd dV) (S:B7 N ps (Ak st)) (hv:Ja N (Ak st)=true)
  (T:Tab P w K mg base k gb bl) (rd:wSs n (Hn K N (Ak st) gb bl) (A0 st)=t) (len:∀ vs H Q E,sp vs H Q E->vs.length=ps.length)
  (hbody:∀ (vs:List V) (H:Hp) (Q:VK) (E:XK),sp vs H Q E->t (a14 Q H λ_ _=>False) (Ch N vs) H):FnOk P w K mg base CX0 (k+1) f fd ps sp:=by
 refine F.ok S len λcdv A outer s H vs Q E hr h=>?_
 have O:GOk (Fu CX0 P w K mg base N qual (Ak st) f cdv A outer s H E).nox (Hn K N (Ak st) gb bl):=by
  refine⟨rfl,S.kind,(λ_=>iz),rfl,S.nd,λx=>rfl,λx hx=>?_,λ_ _=>rfl,rfl,(λ_=>hr.hd),hr.units,λx hx=>?_,λx g e=>?_,λx hx=>?_,(λ_=>⟨rfl,rfl⟩),⟨_,_,_,rfl,rfl,rfl⟩⟩
  .have:=List.all_eq_true.mp hv x hx
   rw[cI] at this
   exact this.elim (λz=>.inl (ck z)) λz=>.inr (.inl (ck z))
  .rcases hx with hx|hx
   .exact Dv hx
   .exact absurd rfl (S.nofree _ (bQ hx))
  .exact (T.all x g e).there hr
  .exact T.bl x (by have hx':bl.contains x=true:=hx;simpa using hx')
 refine⟨_,aw0 ((ap4 n _ _ O).2 (A0 st) (λ_ _ _=>False) (λ_ _ _ _ _ _ _ h=>h.elim)),?_⟩
 rw[rd]
 exact hbody vs H Q E h
end
def Ql (p:Addr) (H H':Hp):Prop:=∀ b u,b≠p->H b=some u->H' b=some u
theorem ad8 {P:aS} {w:bz} {K:ac} {mg:Str->Option Value} {base:Heap} {N ps:List Str} {qual:Str} {scope:Scope} {f:Addr} {cdv:Value} {A:bq} {outer:List Env} {s:aj} {H:Hp} {E:XK} {k:Nat} {gb:List (Str×GB)} {bl:List Str}
  (S:B7 N ps scope) (hv:Ja N scope=true) (T:Tab P w K mg base k gb bl) (hr:Room k (A.deeper (kL qual scope s.heap.objs.size f cdv))):GOk (Fu CX0 P w K mg base N qual scope f cdv A outer s H E).nox (Hn K N scope gb bl):=by
 refine⟨rfl,S.kind,(λ_=>iz),rfl,S.nd,λx=>rfl,λx hx=>?_,λ_ _=>rfl,rfl,(λ_=>hr.hd),hr.units,λx hx=>?_,λx g e=>?_,λx hx=>?_,(λ_=>⟨rfl,rfl⟩),⟨_,_,_,rfl,rfl,rfl⟩⟩
 .have:=List.all_eq_true.mp hv x hx
  rw[cI] at this
  exact this.elim (λz=>.inl (ck z)) λz=>.inr (.inl (ck z))
 .rcases hx with hx|hx
  .exact Dv hx
  .exact absurd rfl (S.nofree _ (bQ hx))
 .exact (T.all x g e).there hr
 .exact T.bl x (by have hx':bl.contains x=true:=hx;simpa using hx')
theorem ay6 {P:aS} {w:bz} {K:ac} {mg:Str->Option Value} {base:Heap} {k:Nat} {f c':Addr} {name qual:Str} {params:Arguments} {lb:Expr} {scope:Scope} {pm ctv:Value} {N ps:List Str} {A:bq} {outer:List Env} {s:aj} {H:Hp} {us:List Value} {vs:List V} {Q:VK} {E:XK}
  (hr:Room (k+1) A) (e0:Env0 P w K mg base A outer s H) (ho:s.heap.get? f=some (PySem.W.kla_obj name qual params lb scope [] pm c' ctv)) (hcd:s.heap.CodeRec (.ref c') qual) (S:B7 N ps scope)
  (hb:im (kK name qual params lb scope [] pm (.ref c') ctv) ⟨us,[]⟩=pure (ps.zip us)) (hl:vs.length=ps.length) (r:Vals vs us)
  (hbody:Room k (A.deeper (kL qual scope s.heap.objs.size f (.ref c'))) -> ∃ t,PE (Fu CX0 P w K mg base N qual scope f (.ref c') A outer s H E).nox lb t/\t (Ch N vs) H Q) :
  gE (model P w) A (.call (.ref f) ⟨us,[]⟩) (CR CX0 outer P w H s Q E) s:=by
 have lim:s.heap.NoLimit:=e0.mod.nolimit.keeps λb o e=>(e0.bs b o e).1
 have hkind:∀ y∈ps.zip us,scope.names.lookup y.1=some .local\/(scope.names.lookup y.1=some .cell/\((mw (s.heap.objs.size+1) scope.names []).lookup y.1).isSome=true):=fun⟨n,v⟩ hy=>by
  rcases S.par n (iw hy).1 with q|q
  .exact .inl q
  .exact .inr ⟨q,gN _ _ _ (.inl q)⟩
 refine PySem.W.kla_callFunE hr.depth ho rfl S.co S.gen rfl hcd ?_
 rw[hb]
 refine aq (bG (ai _) (iK S.kind hkind λenv he s1 x htk=>?_))
 subst he
 refine⟨lim.keeps x.toInCall.keep,PySem.W.kla_codeExpr ?_⟩
 obtain⟨t,ht,hq⟩:=hbody (hr.deeper _)
 have I:Inv (Fu CX0 P w K mg base N qual scope f (.ref c') A outer s H E) [] (Ch N vs) H s1:=Nj S hr.hd e0 htk hl r x
 exact bN (ht.nox [] s1 (Ch N vs) H _ I hq) (λu s' ⟨v,H',J,rv,q⟩=>⟨v,H',J.os,J.bare,J.base,J.hok,rv,q⟩) λe s' hs=>hs
section
variable {X:Cx} {pins:List (Addr×Obj)} {U:St} {H:Hp} {s:aj}
theorem Inv.grow {p:Addr} {ps more:Array Value} {h':Heap} {t':Nat} (I:Inv X pins U H s) (hp:H p=some (.tbl ps)) (k:∀ b o,b≠p->s.heap.get? b=some o->h'.get? b=some o) (g:h'.get? p=some (fS (ps++more))) (ht:s.toks<=t'):Inv X pins U (upd H p (.tbl (ps++more))) { s with heap:=h',toks:=t' }:=by
 have ne:∀ {b:Addr},H b=none->b≠p:=λe z=>by rw[z,hp] at e;cases e
 refine I.step (g':=s.gens) (d':=s.drawn) (ch:=[]) (λ_ z=>nomatch z) (λb o _ _ _ e n=>k b o (ne n) e) (λb o _ _ _ e n=>⟨o.slots,k b o (ne n) e⟩) (λb o _ _ n=>by rw[Ad (ne n)];exact n)
  (λb o _ e=>?_) (λb xs e=>by rw[Ad λz=>by rw[z,hp] at e;cases e];exact e) (λb o u e=>by rw[Ad λz=>by rw[z,hp] at e;cases e];exact e) (λb qs e=>?_) (λm hm=>?_) (λb u e=>?_) I.bare ht
 .by_cases z:b=p
  .exact⟨_,z▸g⟩
  .exact⟨o,k b o z e⟩
 .by_cases z:b=p
  .subst z
   rw[hp] at e
   cases e
   exact⟨more,Ab⟩
  .exact⟨#[],by rw[Ad z,e];simp⟩
 .obtain⟨o,es,ep,ho,r⟩:=hm
  exact⟨o,es,ep,k _ o (ne I.free) ho,r⟩
 .by_cases z:b=p
  .subst z
   rw[Ab] at e
   cases e
   exact g
  .rw[Ad z] at e
   refine (I.hok b u e).stay (λc v hc q=>k c v ?_ q) (λc q=>by rw[Ad λz=>by rw[z,hp] at q;cases q];exact q) λc xs q=>by rw[Ad λz=>by rw[z,hp] at q;cases q];exact q
   rcases hc with hc|hc
   .rw[hc];exact z
   .exact λz=>by rw[z,hp] at hc;cases hc
theorem an9 (hc:X.calm=true) {fn p:Addr} {ds:List (Int×V)} {Q:VK} (I:Inv X pins U H s) (hp:SqL X.K H p (ds.map (·.2))) (h64:ds.length<64) (asc:(ds.map (·.1)).Pairwise (· < ·))
  (hk:∀ d∈ds,∀ (pl:List (Addr×Obj)) (s':aj) (H3:Hp) (u:Value),Inv X (pins++pl) U H3 s'->Same H H3->RelV d.2 u->aN (model X.prog X.w) X.A.in1.in1 (call (.ref fn) [u]) (EP X (pins++pl) U λv H4=>v=.int d.1/\Same H3 H4) (λ_ _=>False) s')
  (q:∀ H3 D,Same H H3->H D=none->H3 D=some (.lst (ds.map (·.2)))->Q (.ref D) H3) :
  aN (model X.prog X.w) X.A (call (.builtin "sorted") [.ref p] [("key", .ref fn)]) (EP X pins U Q) X.xe s:=by
 refine PySem.W.sk_sorted (OKQ:=λus h' tk=>(∀ b o,s.heap.get? b=some o->h'.get? b=some o)/\s.heap.objs.size<=h'.objs.size/\s.toks<=tk/\Vals (ds.map (·.2)) us) (λR hR=>?_) λus h' tk ⟨keep,hD,htk,rv⟩=>?_
 .obtain⟨its,ri,pl,hz⟩:=I.list hp
  refine collect_list pl.isList (hR _ _ s.toks ⟨λb o e=>?_,?_,ai _,ri⟩) (by have:=ri.length;rw[ae] at this;rw[bA];omega)
  .have hlt:b<s.heap.objs.size:=aA e
   rw[kN _ _ _ _ (aQ hlt)]
   exact ag _ e
  .rw[jz,lO]
   exact df _
 .have hl:us.length=ds.length:=by have:=rv.length;simpa using this.symm
  refine⟨by omega,λD e1 kS h2 hD2 hDk gD gk k=>?_⟩
  have lD:s.heap.objs.size<=D:=aY hD hD2
  have lk:s.heap.objs.size<=kS:=aY lD (dy hDk)
  have I2:Inv X pins U H { s with heap:=h2,toks:=tk }:=I.kept (t':=tk) λb o e=>k b o (keep b o e)
  have fD:∀ {H':Hp},H' D=none->Ci X pins H' D:=λhn=>I.fpOk lD hn
  have fk:∀ {H':Hp},H' kS=none->Ci X (pins++[(D,bb "list" #[] e1)]) H' kS:=λhn=>by
   obtain⟨a1,a2,a3,a4,a5,a6⟩:=I.fpOk (H':=H) lk (I.hok.fresh lk)
   refine⟨hn,a2,a3,a4,a5,λp hp=>?_⟩
   rw[<- i5] at hp
   rcases List.mem_append.mp hp with hp|hp
   .exact a6 p hp
   .rw[List.mem_singleton.mp hp]
    exact aQ hDk
  refine⟨λks s'=>∃ H',Inv X (pins++[(D,bb "list" #[] e1)]) U H' s'/\Same H H'/\H' kS=none/\jq ks ((ds.map (·.1)).take ks.length),⟨H,?_,Same.refl _,I.hok.fresh lk,.nil⟩,?_,?_⟩
  .refine I2.pins_of λp hp=>?_
   rcases List.mem_append.mp hp with hp|hp
   .exact I2.pin p (aP _ hp)
   .rw[List.mem_singleton.mp hp]
    have f:=fD (I.hok.fresh lD)
    exact⟨gD,f.1,f.2.1,f.2.2.1,λv z=>by cases z⟩
  .intro j x ks e s' hx hlk hks ⟨H',I',S,hn,ka⟩
   have hj:j<us.length:=(List.getElem?_eq_some_iff.mp hx).1
   obtain⟨u,hu,ru⟩:=rv.get (i:=j) (x:=(ds[j]'(by omega)).2) (by rw[am,ah (by omega)];rfl)
   rw[hx] at hu
   cases hu
   have I1:Inv X (pins++([(D,bb "list" #[] e1)]++[(kS,bb "list" ks.toArray e)])) U H' s':=I'.pins_of λp hp=>by
    rw[<- i5] at hp
    rcases List.mem_append.mp hp with hp|hp
    .exact I'.pin p (aP _ hp)
    .rw[List.mem_singleton.mp hp]
     have f:=fk hn
     exact⟨hks,f.1,f.2.1,f.2.2.1,λv z=>by cases z⟩
   refine bN (hk _ (cM _) _ s' H' _ I1 S ru) (λk s'' hq=>?_) λ_ _ z=>z
   obtain⟨v,H'',I'',rk,rfl,S2⟩:=hq
   obtain⟨t,rfl⟩:=rk
   have pk:=I''.pin (kS,bb "list" ks.toArray e) (by simp)
   refine⟨pk.1,λh3 c g sb=>⟨H'',?_,S.trans S2,pk.2.1,?_⟩⟩
   .have f:=fk pk.2.1
    have I3:Inv X (pins++[(D,bb "list" #[] e1)]) U H'' s'':=I''.pins_of λp hp=>I''.pin p (by
     rcases List.mem_append.mp hp with hp|hp
     .exact aP _ (bW _ hp)
     .exact aP _ (aP _ (bW _ hp)))
    exact I3.turned (t':=s''.toks) (λb o nb e=>(sb.2 b nb).trans e) f.1 f.2.1 f.2.2.2.1 f.2.2.2.2.1 f.2.2.2.2.2
   .subst hlk
    rw[aW,cY,aL,am,ah (by omega)]
    exact ksk_snoc ka
  .intro ks e s' hlk hks ⟨H',I',S,hn,ka⟩
   have pD:=I'.pin (D,bb "list" #[] e1) (by simp)
   have Iu:=I'.unpinned
   rw[gJ (by rw[ae];omega)] at ka
   have fk':Ci X pins H' kS:=by
    have f:=fk hn
    exact⟨f.1,f.2.1,f.2.2.1,f.2.2.2.1,f.2.2.2.2.1,λp hp=>f.2.2.2.2.2 p (by rw[<- i5];exact bW _ hp)⟩
   have fin:PySem.W.SkFin D kS e e1 ks us (λs3=>EP X pins U Q (.ref D) s3) s':=by
    refine⟨pD.1,hks,λh4 c g sm=>?_⟩
    refine⟨.ref D,upd H' D (.lst (ds.map (·.2))),Iu.adopt (fD pD.2.1) fk' (λb u b1 b2 e=>(sm b b1 b2).trans e) ⟨?_,us,c,rv,g⟩,rfl,q _ D (λb o e=>?_) (I.hok.fresh lD) Ab⟩
    .rw[ae,bA];omega
    .rw[Ad (Ai (S b o e) pD.2.1)]
     exact S b o e
   refine⟨λ_=>fin,λh2=>?_⟩
   rw[ksk_kind (keys:=ks.toArray) ka (by rw[av];omega)]
   refine aq (PySem.W.asc_sort (by omega) (λj C h0 hj hC=>?_) ?_)
   .unfold PySem.W.kas_ask
    have at_:∀ {vs:List Value} {ns:List Int} {j:Nat},jq vs ns->j<vs.length -> ∃ t,vs.getD j bC=.int (ns.getD j 0) t:=by
     intro vs ns j h
     induction h generalizing j with
     |nil=>intro h;cases h
     |cons n t _ ih=>
      intro h
      cases j with
      |zero=>exact⟨t,rfl⟩
      |succ j=>exact ih (jP h)
    obtain⟨t,e⟩:=at_ (j:=j) ka (by omega)
    obtain⟨u,e'⟩:=at_ (j:=j - 1) ka (by omega)
    rw[e,e']
    refine PySem.W.kat_lt_int ?_
    have:(ds.map (·.1)).getD (j - 1) 0<(ds.map (·.1)).getD j 0:=by
     rw[ar,ah (by rw[ae];omega),ar,ah (by rw[ae];omega)]
     exact List.pairwise_iff_getElem.mp asc (j - 1) j (by rw[ae];omega) (by rw[ae];omega) (by omega)
    rw[decide_eq_false (by omega)]
    exact hC
   .rw[PySem.W.range_pick]
    exact fin
noncomputable def bx5 (K:ac) (Pt bm:Addr) (N:List Str) (dl:DE) (v:V) (H:Hp) (Q:VK):Prop:=∃ (b:Addr) (ob:Obj) (u:HO) (ds:List (Int×V)),v=.ref b/\SqL K H b (ds.map (·.2))/\ds.length<64/\(ds.map (·.1)).Pairwise (· < ·)/\H Pt=some (.tbl #[])/\H bm=some (.frz ob u) /\
 (ob.cls=.type "module" /\ ob.dict=some jf/\ob.data=.plain)/\(∀ d∈ds,∀ H3,Ql Pt H H3->dl (Ch N [d.2]) H3 (λv H4=>v=.int d.1/\Same H3 H4) (λ_ _=>False)) /\ ∀ H' D,Ql Pt H H'->H D=none->H' D=some (.lst (ds.map (·.2)))->Q (.ref D) H'
noncomputable def a13 (K:ac) (Pt bm:Addr) (N:List Str) (dl a:DE):DE:=λU H Q E=>Ac a Ag U H (λxs H1=>∃ v,xs=[v]/\bx5 K Pt bm N dl v H1 Q) E
theorem ax2 {a lb:Expr} {da dl:DE} {p kp lpos pos:Pos} {c Pt bm:Addr} {lp:Arguments} {ls:Scope} {N:List Str} {j n:Nat} {gb:List (Str×GB)} {bl:List Str} (hc:X.calm=true) (hg:Gl X "sorted") (hm:X.mg "sorted" = none) (ha:QE X a da) (hs:noStar a=true)
  (hr:Room (j+3) X.A) (T:Tab X.prog X.w X.K X.mg X.base j gb bl) (hcode:X.env.code=.ref c) (hd:dP X.K c Pt=true) (hbm:X.mg "__builtins__" = some (.ref bm)) (hcl:kq ls X.env=pure []) (hdf:defaultsOf lp X.env=([],[])) (S:B7 N N ls) (hv:Ja N ls=true) (hN:N.length=1)
  (hb:∀ (q:Str) (pm cd ct:Value) (u:Value),im (kK "<lambda>" q lp lb ls [] pm cd ct) ⟨[u],[]⟩=pure (N.zip [u])) (rd:wE n (Hn X.K N ls gb bl) lb=dl) :
  QE X (.Call (.Name "sorted" p) [a] [⟨some "key", .Lambda lp lb ls lpos,kp⟩] pos) (a13 X.K Pt bm N dl da):=by
 intro Ex mt pins s U H Q I h
 have hA:QA X [a] (Ac da Ag):=Pg ha Ul hs
 refine bO (Dh I hg hm Ip ?_ (by decide) (by decide))
 refine callWith_builtin_kwB (first:=[]) ?_ rfl ?_
 .rw[Au hs [] X.env];rfl
 have e0:cS [a] X.env=[(false,eval a X.env)]:=by rw[Au hs [] X.env];rfl
 have hh:=hA Ex mt pos pins s U H _ I h
 rw[e0] at hh ⊢
 refine af (thn hh λus s1 ⟨vs,H1,I1,r1,q1⟩=>af (aq (bF ?_)))
 obtain⟨v,rfl,b,ob,u,ds,rfl,hp,h64,asc,hP,hB,⟨b1,b2,b3⟩,hk,q⟩:=q1
 obtain⟨u1,rfl,ru⟩:=Dl r1
 cases ru
 show aN (model X.prog X.w) X.A (do
  let l <- evalAll [do let v <- eval (.Lambda lp lb ls lpos) X.env;mT pos;pure v]
  let ps <- (pure [aV b]:Sem (List Value))
  pure (⟨ps,[("key" : Str)].zip l⟩:Args)) _ _ s1
 have gP:s1.heap.get? Pt=some (fS #[]):=I1.hok Pt _ hP
 have gB:s1.heap.get? bm=some ob:=(I1.hok bm _ hB).1
 have ns:=I1.mod.glob.keeps I1.bk
 have nG:∀ {z:Addr} {o:Obj},s1.heap.get? z=some o->(∀ es ep,o.data≠.dict es ep)->z≠mainGlobals:=λe d z=>by
  obtain⟨o',es,ep,e2,d2,_⟩:=ns
  rw[z,e2] at e;cases e;exact d _ _ d2
 refine af (wpAny_evalAll_cons (af (PySem.W.kla_eval hdf (bG (ai _) (PySem.W.kla_makeFunction (mg:=X.mg) (ps:=#[]) hcl I1.ok.glob ns hcode (kQ I1.kIn hd) gP trivial rfl (ce (nG gP λ_ _ z=>by cases z)) ⟨bm,ob,hbm,?_,nG gB (λes ep z=>by rw[b3] at z;cases z),?_,gB,b1,b2,b3⟩ λc' ctv h' tk hx hge hlt hrec htb htk=>?_)))))
 .obtain⟨mb,nb,_⟩:=I1.mod.blt
  obtain⟨o',es,ep,e2,d2,_⟩:=nb.keeps I1.bk
  rintro rfl
  rw[e2] at gB;cases gB;rw[b3] at d2;cases d2
 .rintro rfl
  rw[hP] at hB;cases hB
 generalize ef:PySem.W.kla_obj "<lambda>" (X.env.qual ++ "<lambda>") lp lb ls [] ((X.mg "__name__").getD .none) c' ctv=fo
 have I2:Inv X pins U (upd H1 Pt (.tbl (#[] ++ #[dX lpos.line,dX lpos.col,.ref c']))) { s1 with heap:=h'.push fo,toks:=tk }:=
  I1.grow hP (λb o nb e=>ag _ (hx b o nb e)) (ag _ htb) htk
 have gF:(h'.push fo).get? h'.objs.size=some fo:=by rw[<- ef];exact az _ rfl
 obtain⟨c2,oc,vs,t,e2,hoc,hdc,hvc⟩:=hrec
 cases e2
 have nP:∀ {b:Addr},s1.heap.objs.size<=b->b≠Pt:=λh z=>absurd (aA gP) (Nat.not_lt.mpr (z▸h))
 have f1:Ci X pins (upd H1 Pt (.tbl (#[] ++ #[dX lpos.line,dX lpos.col,.ref c']))) c':=I1.fpOk hge (by rw[Ad (nP hge)];exact I1.hok.fresh hge)
 have hle:s1.heap.objs.size<=h'.objs.size:=dy (bi hge hlt)
 have f2:Ci X pins (upd H1 Pt (.tbl (#[] ++ #[dX lpos.line,dX lpos.col,.ref c']))) h'.objs.size:=I1.fpOk hle (by rw[Ad (nP hle)];exact I1.hok.fresh hle)
 have O2:Ql Pt H1 (upd H1 Pt (.tbl (#[] ++ #[dX lpos.line,dX lpos.col,.ref c']))):=λb u nb e=>by rw[Ad nb];exact e
 have nD:∀ D,upd H1 Pt (.tbl (#[] ++ #[dX lpos.line,dX lpos.col,.ref c'])) D=none->H1 D=none:=λD e=>by
  by_cases z:D=Pt
  .rw[z,Ab] at e;cases e
  .rwa[Ad z] at e
 generalize upd H1 Pt (.tbl (#[] ++ #[dX lpos.line,dX lpos.col,.ref c']))=H2 at I2 f1 f2 O2 nD
 have I3:Inv X (pins++[(c',oc),(h'.objs.size,fo)]) U H2 { s1 with heap:=h'.push fo,toks:=tk }:=I2.pins_of λp hp=>by
  rcases List.mem_append.mp hp with hp|hp
  .exact I2.pin p (aP _ hp)
  .simp only[aH,c_,or_false] at hp
   rcases hp with rfl|rfl
   .exact⟨ag _ hoc,f1.1,f1.2.1,f1.2.2.1,λv z=>by have z:oc.data=.cell v:=z;rw[hdc] at z;cases z⟩
   .exact⟨gF,f2.1,f2.2.1,f2.2.2.1,λv z=>by have z:fo.data=.cell v:=z;rw[<- ef] at z;cases z⟩
 have hp2:SqL X.K H2 b (ds.map (·.2)):=by
  rcases hp with hp|hp
  .rcases hp with hp|⟨o,hp⟩
   .exact .inl (.inl (O2 _ _ (λz=>by rw[z,hP] at hp;cases hp) hp))
   .exact .inl (.inr ⟨o,O2 _ _ (λz=>by rw[z,hP] at hp;cases hp) hp⟩)
  .exact .inr hp
 refine af (eY (aq (wpAny_evalAll_nil (af (aq (aq ?_))))))
 refine bN (an9 (Q:=Q) hc I3 hp2 h64 asc (λd hd pl s' H3 u I' S' ru=>?_) λH3 D S3 nd e3=>q H3 D (λb u nb e=>S3 _ _ (O2 b u nb e)) (nD D nd) e3) (λv s' ⟨y,H',J,r,qq⟩=>⟨y,H',J.unpinned,r,qq⟩) λ_ _ z=>z
 have g1:=(I'.pin (h'.objs.size,fo) (by simp)).1
 have g2:=(I'.pin (c',oc) (by simp)).1
 rw[<- ef] at g1
 have hl:[d.2].length=N.length:=hN.symm
 refine gh (eI (ay6 (k:=j) (E:=λ_ _ _=>False) (Q:=λv H4=>v=.int d.1/\Same H3 H4) hr.in1.in1 I'.env0.in1.in1 g1 ⟨c',oc,vs,t,rfl,g2,hdc,hvc⟩ S (hb _ _ _ _ u) hl (.cons ru .nil) λhr'=>?_) λr s'' hq=>?_)
 .refine⟨_,(ap3 n _ _ (ad8 S hv T hr')).1 lb (λ_ _ _=>False) (λ_ _ _ _ _ _ _ h=>h.elim),?_⟩
  rw[rd]
  exact hk d hd H3 (λb u nb e=>S' _ _ (O2 b u nb e))
 .cases r with
  |error e=>exact cb hq
  |ok fl=>
   cases fl with
   |ret u=>exact I'.after hq
   |next=>exact cb hq
   |brk=>exact cb hq
   |cont=>exact cb hq
end
theorem a67 {P:aS} {w:bz} {K:ac} {mg:Str->Option Value} {base:Heap} {x qual:Str} {st:Stmt} {f:Addr} {fd:a9} {dV:Value} {a lb:Expr} {da dl:DE} {p kp lpos pos rp:Pos} {c Pt bm:Addr} {lp:Arguments} {ls:Scope} {N ps N':List Str} {j m n:Nat} {gb gb':List (Str×GB)} {bl:List Str} {sp:Sp}
  (F:FunD K x qual st f fd dV) (S:B7 N ps (Ak st)) (hv:Ja N (Ak st)=true) (T:Tab P w K mg base (j+3) gb bl) (T':Tab P w K mg base j gb' bl) (hst:A0 st=[.Return (some (.Call (.Name "sorted" p) [a] [⟨some "key", .Lambda lp lb ls lpos,kp⟩] pos)) rp])
  (hg:(Ak st).names.lookup ("sorted" : Str)=some .globalImplicit) (hm:mg "sorted" = none) (hs:noStar a=true) (hcode:fd.code=.ref c) (hd:dP K c Pt=true) (hbm:mg "__builtins__" = some (.ref bm)) (hcl:∀ env,kq ls env=pure []) (hdf:∀ env,defaultsOf lp env=([],[]))
  (S':B7 N' N' ls) (hv':Ja N' ls=true) (hN:N'.length=1) (hb:∀ (q:Str) (pm cd ct:Value) (u:Value),im (kK "<lambda>" q lp lb ls [] pm cd ct) ⟨[u],[]⟩=pure (N'.zip [u])) (rd:wE n (Hn K N' ls gb' bl) lb=dl) (ra:wE m (Hn K N (Ak st) gb bl) a=da)
  (len:∀ vs H Q E,sp vs H Q E->vs.length=ps.length) (hsp:∀ (vs:List V) (H:Hp) (Q:VK) (E:XK),sp vs H Q E->a13 K Pt bm N' dl da (Ch N vs) H Q (λ_ _=>False)):FnOk P w K mg base CX0 (j+4) f fd ps sp:=by
 obtain⟨oc,od,kV,doc,pm,an,cdv,ct,osl,rfl,lk,hcd⟩:=F.ex
 obtain rfl:cdv=.ref c:=hcode
 refine ad4 (k:=j+3) lk hcd S len λA outer s H vs Q E hr hq=>?_
 have O:=ad8 (qual:=qual) (f:=f) (cdv:=.ref c) (A:=A) (outer:=outer) (s:=s) (H:=H) (E:=E) S hv T hr
 have ha:=(ap3 m _ _ O).1 a
 rw[ra] at ha
 have h:=Rr (ak1 (pos:=rp) (ax2 (X:=(Fu CX0 P w K mg base N qual (Ak st) f (.ref c) A outer s H E).nox) (p:=p) (kp:=kp) (lpos:=lpos) (pos:=pos) (bm:=bm) rfl hg hm ha hs hr T' rfl hd hbm (hcl _) (hdf _) S' hv' hN hb rd)) W1 (λ_ _ _=>False) (λ_ _ _ _ _ _ _ h=>h.elim)
 rw[hst]
 exact⟨_,h.nox,hsp vs H Q E hq⟩
def aa4 (H:Hp) (Pt bm:Addr):Prop:=H Pt=some (.tbl #[]) /\ ∃ ob u,H bm=some (.frz ob u)/\ob.cls=.type "module" /\ ob.dict=some jf/\ob.data=.plain
theorem Ya {P:aS} {w:bz} {K:ac} {mg mb:Str->Option Value} {k:Nat} {fa a c Pt bm:Addr} {fd:a9} {x:Str} {sp:Sp} {s₁:aj} {vs:List Value} {ns:List Int} {ob:Obj}
  (KX:K.In s₁.heap) (hns:s₁.heap.Ns mainGlobals mg) (hb:s₁.heap.Ns jf mb) (hbb:∀ x:Str,x ≠ "__name__" -> mb x=cQ x) (htk:V5 K s₁.toks) (hlim:s₁.heap.NoLimit) (hg:s₁.gens = #[])
  (ha:s₁.heap.get? a=some { cls:=.type "list", data:=.seq vs.toArray }) (hi:jq vs ns) (hl:ns.length<=sizeLine) (hr:Room k mq)
  (F:∀ base:Heap,K.In base->base.Ns mainGlobals mg->FnOk P w K mg base CX0 k fa fd [x] sp) (hbind:∀ (s:aj) (u:Value),lJ s fd ⟨[u],[]⟩ [(x,u)])
  (hP:s₁.heap.get? Pt=some (fS #[])) (hT:isCodeTable s₁.heap Pt) (hB:s₁.heap.get? bm=some ob) (b1:ob.cls=.type "module") (b2:ob.dict=some jf) (b3:ob.data=.plain) (kP:K.lookup Pt=none) (kB:K.lookup bm=none) (kA:K.lookup a=none)
  (hsp:∀ H:Hp,aa4 H Pt bm->SqL K H a (ns.map V.int)->sp [.ref a] H (λv _=>v=.bl true) λ_ _ _=>False) :
  gE (model P w) mq (.call (.ref fa) ⟨[.ref a],[]⟩) (λr s'=>r=.ok (.ret (.bool true))/\OldK s₁.heap s'.heap/\s'.os=s₁.os/\jT s'.gens) s₁:=by
 have rv:=N0 hi
 have n1:Pt≠a:=λz=>by rw[z,ha] at hP;cases hP
 have n2:bm≠a:=λz=>by
  rw[z,ha] at hB
  cases hB
  have b1:gd "list" = gd "module" := b1
  injection b1 with b1
  exact absurd b1 (by decide)
 have n3:bm≠Pt:=λz=>by rw[z,hP] at hB;cases hB;cases b1
 let H:Hp:=λb=>if b=a then some (.frz { cls:=.type "list", data:=.seq vs.toArray } (.lst (ns.map V.int))) else if b=Pt then some (.tbl #[]) else if b=bm then some (.frz ob (.ext λ_=>True)) else none
 have eA:H a=some (.frz { cls:=.type "list", data:=.seq vs.toArray } (.lst (ns.map V.int))):=if_pos rfl
 have eP:H Pt=some (.tbl #[]):=by show (if _ then _ else _)=_;rw[if_neg n1,if_pos rfl]
 have eB:H bm=some (.frz ob (.ext λ_=>True)):=by show (if _ then _ else _)=_;rw[if_neg n2,if_neg n3,if_pos rfl]
 have only:∀ b u,H b=some u->(b=a/\u=.frz { cls:=.type "list", data:=.seq vs.toArray } (.lst (ns.map V.int)))\/(b=Pt/\u=.tbl #[])\/(b=bm/\u=.frz ob (.ext λ_=>True)):=λb u e=>by
  by_cases z:b=a
  .rw[z,eA] at e;exact .inl ⟨z,(aD e).symm⟩
  by_cases z2:b=Pt
  .rw[z2,eP] at e;exact .inr (.inl ⟨z2,(aD e).symm⟩)
  by_cases z3:b=bm
  .rw[z3,eB] at e;exact .inr (.inr ⟨z3,(aD e).symm⟩)
  have e:(if b=a then _ else if b=Pt then _ else if b=bm then _ else none)=some u:=e
  rw[if_neg z,if_neg z2,if_neg z3] at e
  cases e
 have hok:HOk P w H s₁.heap:=λb u e=>by
  rcases only b u e with ⟨rfl,rfl⟩|⟨rfl,rfl⟩|⟨rfl,rfl⟩
  .exact⟨ha,by rw[ae];exact hl,vs,_,rv,ha⟩
  .exact hP
  .exact⟨hB,trivial,⟨ob,hB⟩,λ_ _ _ _=>trivial⟩
 have base_of:∀ {b:Addr} {o:Obj},s₁.heap.get? b=some o->H b=none->(Os s₁.heap H).get? b=some o:=λe n=>ae0 e n
 have noA:∀ {b:Addr} {o:Obj} {es:Array ma} {ep:Nat},s₁.heap.get? b=some o->o.data=.dict es ep->H b=none:=λ{b o es ep} e d=>by
  cases q:H b with
  |none=>rfl
  |some u=>
   rcases only b u q with ⟨rfl,_⟩|⟨rfl,_⟩|⟨rfl,_⟩
   .rw[ha] at e;cases e;cases d
   .rw[hP] at e;cases e;cases d
   .rw[hB] at e;cases e;rw[b3] at d;cases d
 have nsK:∀ {b:Addr} {m:Str->Option Value},s₁.heap.Ns b m->(Os s₁.heap H).Ns b m:=λ{b m} ⟨o,es,ep,e,d,r⟩=>⟨o,es,ep,base_of e (noA e d),d,r⟩
 have hKb:K.In (Os s₁.heap H):=λb o e=>base_of (KX b o e) (by
  cases q:H b with
  |none=>rfl
  |some u=>
   rcases only b u q with ⟨rfl,_⟩|⟨rfl,_⟩|⟨rfl,_⟩
   .rw[kA] at e;cases e
   .rw[kP] at e;cases e
   .rw[kB] at e;cases e)
 have hM:Mod K mg (Os s₁.heap H):=⟨hKb,nsK hns,⟨mb,nsK hb,hbb⟩,let ⟨mc,h1,h2⟩:=hlim;⟨mc,nsK h1,h2⟩⟩
 have e0:Env0 P w K mg (Os s₁.heap H) mq [] s₁ H:=⟨rfl,hM,λb o e=>au3 e,lU (X4 _ _),trivial,λb hb=>absurd (show b∈([]:List Addr) from hb) (by simp),hok,.of_eq hg,htk⟩
 refine eI ((F _ hKb (nsK hns)).run mq [] s₁ H ⟨[.ref a],[]⟩ [.ref a] [.ref a] _ _ hr e0 (hbind s₁ (.ref a)) (.cons rfl .nil) (hsp H ⟨eP,ob,_,eB,b1,b2,b3⟩ (.inl (.inr ⟨_,eA⟩)))) λr s' h=>?_
 cases r with
 |error e=>exact cb h
 |ok fl=>
  cases fl with
  |next=>exact cb h
  |brk=>exact cb h
  |cont=>exact cb h
  |ret u=>
   obtain⟨v,H',os,bare,un,hok',r',q⟩:=h
   have q':v=.bl true:=q
   subst q'
   obtain rfl:u=lK true:=r'
   have keep:∀ b o,b≠Pt->s₁.heap.get? b=some o->s'.heap.get? b=some o:=λb o nb e=>by
    cases q:H b with
    |none=>exact un.keep b o e q (by intro z;exact absurd (show b∈([]:List Addr) from z) (by simp)) (by simp)
    |some u=>
     have fz:∀ {o':Obj} {u':HO},H b=some (.frz o' u')->s'.heap.get? b=some o:=λz=>by
      have z2:=un.frzs b _ _ z
      obtain⟨e1,_⟩:=hok b _ z
      obtain⟨e2,_⟩:=hok' b _ z2
      rw[e] at e1;cases e1
      exact e2
     rcases only b u q with ⟨rfl,rfl⟩|⟨rfl,_⟩|⟨rfl,rfl⟩
     .exact fz eA
     .exact absurd rfl nb
     .exact fz eB
   obtain⟨more,hm⟩:=un.tbls Pt #[] eP
   have gP:s'.heap.get? Pt=some (fS (#[]++more)):=hok' Pt _ hm
   refine⟨rfl,⟨λb o e=>?_,λb o e=>?_⟩,os.1,bare⟩
   .by_cases z:b=Pt
    .subst z
     rw[hP] at e
     cases e
     exact .inr (.inl ⟨hT,rfl,#[],#[]++more,rfl,by rw[Array.empty_append];exact gP⟩)
    .exact .inl (keep b o z e)
   .by_cases z:b=Pt
    .exact⟨_,z▸gP⟩
    .exact⟨o,keep b o z e⟩
theorem walk_ofT {l:j5} {n k:Nat} {q:aS} {loose:List Str} {XP:(Str->Option Value)->Heap->Prop} {YP:bz->Heap->Prop} {d:DefRec} {K:Params->ac} {sp:bz->Sp} {x:Str} {Pt bm:Addr}
  (hT:∀ (w:bz) (m:Nat),V5 (K w.params) m) (hn:l.most=some n) (hn2:n<=sizeLine) (hdf:d.params.defaults=[]) (hr:Room k mq)
  (hY:∀ (w:bz) (h:Heap),YP w h->(K w.params).In h/\h.get? Pt=some (fS #[]))
  (hK:∀ w:bz,(∃ c,dP (K w.params) c Pt=true)/\(K w.params).lookup Pt=none/\(K w.params).lookup bm=none/\b_ (K w.params) mainGlobals "__builtins__" = some (some (.ref bm))/\((K w.params).all λp=>!(p.2.cls==gd "list"))=true)
  (F:∀ (w:bz) (mg:Str->Option Value) (fa:Addr) (h:Heap),(K w.params).In h->h.Ns mainGlobals mg->mg d.name=some (.ref fa) ->
   ∃ fd:a9,(∀ (s:aj) (u:Value),lJ s fd ⟨[u],[]⟩ [(x,u)]) /\ ∀ base:Heap,(K w.params).In base->base.Ns mainGlobals mg->FnOk l.prog w (K w.params) mg base CX0 k fa fd [x] (sp w))
  (hsp:∀ (w:bz) (H:Hp) (a:Addr) (ns:List Int),ns.length<=n->aa4 H Pt bm->SqL (K w.params) H a (ns.map V.int)->sp w [.ref a] H (λv _=>v=.bl true) λ_ _ _=>False) :
  PySem.W.WalkO q loose XP YP l.row.toRowW d [] (λf vs=>PySem.call f vs):=by
 refine Att.attach_call hn hdf λw s₀ s₁ mg mb fa o pm cd doc a vs ns G Y ho hd hcd hmg hobj hints hlen hg=>?_
 obtain⟨KX,hP⟩:=hY w _ Y
 obtain⟨⟨c,k1⟩,k2,k3,k4,k5⟩:=hK w
 obtain⟨fd,hb,hF⟩:=F w mg fa _ KX G.T.g hmg
 obtain⟨bm',ob,c1,c2,c3,c4,c5,c6⟩:=G.T.bmain
 have eb:bm'=bm:=by
  have:=eV KX G.T.g k4
  rw[c1] at this
  injection this with this
  injection this
 subst eb
 have kA:(K w.params).lookup a=none:=by
  cases e:(K w.params).lookup a with
  |none=>rfl
  |some o=>
   have:=KX a o e
   rw[hobj] at this
   cases this
   have:=List.all_eq_true.mp k5 _ (PySem.W.mem_of_lookupK e)
   simp at this
 exact Ya (c:=c) KX G.T.g G.T.b G.T.builtins (hT _ _) G.T.nolimit hg hobj hints (aY hlen hn2) hr hF hb hP (((kQ KX k1).tab hP).isCodeTable) c3 c4 c5 c6 k2 k3 kA λH h1 h2=>hsp w H a ns hlen h1 h2
theorem Same.upd {H:Hp} {a:Addr} {o:HO} (h:H a=none):Same H (upd H a o):=λb u e=>by rw[Ad (Ai e h)];exact e
theorem Same.set {H H':Hp} {a:Addr} {o:HO} (s:Same H H') (h:H a=none):Same H (L2.upd H' a o):=λb u e=>by rw[Ad (Ai e h)];exact s b u e
theorem Same.seqT {K:ac} {H H':Hp} {a:Addr} {xs:List V} (e:Same H H') (h:SqT K H a xs):SqT K H' a xs:=by
 rcases h with (h|⟨o,h⟩)|h
 .exact .inl (.inl (e _ _ h))
 .exact .inl (.inr ⟨o,e _ _ h⟩)
 .exact .inr h
structure Cp (J:It) (its:List V) (ok:Hp->Prop):Prop where
 go:∀ i H,ok H->i<its.length->J.go i H
 stop:∀ H,ok H->J.stop its.length H
 yld:∀ i H x H',ok H->i<its.length->J.yld i H x H'->H'=H/\its[i]? = some x
structure Jl (J:It) (its:List (V×V)) (ok:Hp->Prop):Prop where
 go:∀ i H,ok H->i<its.length->J.go i H
 stop:∀ H,ok H->J.stop its.length H
 yld:∀ i H v H',ok H->i<its.length->J.yld i H v H' -> ∃ T x y,H T=none/\v=.ref T/\its[i]? = some (x,y)/\H'=upd H T (.tup [x,y])
def Fe (z:Str):List V:=z.cps.toList.map λc=>V.str ⟨#[c]⟩
theorem bj8 (z:Str):Cp (Its z) (Fe z) (λ_=>True):=by
 have e:(Fe z).length=z.cps.size:=by unfold Fe;simp
 refine⟨λi H _ h=>?_,λH _=>?_,λi H x H' _ _ h=>?_⟩
 .show i<z.cps.size;omega
 .show (Fe z).length=z.cps.size;exact e
 .obtain⟨h1,c,h2,h3⟩:=h
  refine⟨h1,?_⟩
  unfold Fe
  rw[am,cD,h2,h3]
  rfl
theorem A5 {K:ac} {a:Addr} (xs:List V):Cp (Itl K a) xs (λH=>SqL K H a xs):=by
 refine⟨λi H q h=>⟨xs,xs[i],q,by simp[h]⟩,λH q=>⟨xs,q,ai _⟩,λi H x H' q _ h=>?_⟩
 obtain⟨h1,h2⟩:=h
 exact⟨h1,h2 xs q⟩
theorem ap7 {K:ac} {a:Addr} (xs:List V):Cp (Itt K a) xs (λH=>SqT K H a xs):=by
 refine⟨λi H q h=>⟨xs,xs[i],q,by simp[h]⟩,λH q=>⟨xs,q,ai _⟩,λi H x H' q _ h=>?_⟩
 obtain⟨h1,h2⟩:=h
 exact⟨h1,h2 xs q⟩
def Uv (lo:Int) (n:Nat):List V:=(ay n).map λ(i:Nat)=>V.int (lo+(i:Int))
theorem Az (lo:Int) (n:Nat):(Uv lo n).length=n:=by unfold Uv;simp
theorem Rx {lo:Int} {n i:Nat} (h:i<n):(Uv lo n)[i]? = some (.int (lo+(i:Int))):=by unfold Uv;simp[h]
theorem Bt (lo:Int) (n:Nat):Cp (Itr lo n) (Uv lo n) (λ_=>True):=by
 refine⟨λi H _ h=>?_,λH _=>?_,λi H x H' _ hi h=>?_⟩
 .rw[Az] at h;exact h
 .show n<=(Uv lo n).length;rw[Az];exact ai _
 .obtain⟨h1,h2⟩:=h
  rw[Az] at hi
  exact⟨h1,by rw[Rx hi,h2]⟩
def Dy:Nat->List V->List (V×V)
 |_,[]=>[]
 |k,x::r=>(.int k,x)::Dy (k+1) r
theorem Br:∀ (k:Nat) (xs:List V),(Dy k xs).length=xs.length
 |_,[]=>rfl
 |k,_::r=>by rw[Dy,aO,aO,Br (k+1) r]
theorem Ct:∀ {k i:Nat} {xs:List V} {x:V},xs[i]? = some x->(Dy k xs)[i]? = some (.int ((k+i:Nat):Int),x)
 |_,_,[],_,h=>by simp at h
 | k,0,y::r,x,h=>by
  simp only[eJ,gS] at h
  subst h
  rfl
 | k,i+1,y::r,x,h=>by
  rw[bK] at h
  rw[Dy,bK,Ct h]
  congr 4
  omega
theorem Fs {K:ac} {a:Addr} (xs:List V):Jl (Ite K a) (Dy 0 xs) (λH=>SqL K H a xs):=by
 have e:=Br 0 xs
 refine⟨λi H q h=>⟨xs,xs[i]'(by omega),q,by simp⟩,λH q=>⟨xs,q,by omega⟩,λi H v H' q _ h=>?_⟩
 obtain⟨T,x,hT,h1,h2,h4⟩:=h
 refine⟨T,.int i,x,hT,h1,?_,h4⟩
 have:=Ct (k:=0) (h2 xs q)
 rw[cO] at this
 exact this
section
variable {J:It} {its:List V} {ok:Hp->Prop} {g:DG} {tb:DS} {D:Outs} {U:St} {H:Hp}
theorem Bd (Y:Cp J its ok) (Pv:Nat->St->Hp->Prop) (h0:Pv 0 U H) (hok:∀ i U H,i<=its.length->Pv i U H->ok H)
  (hs:∀ i x U H,its[i]? = some x->Pv i U H->g x U H λU2 H2=>tb (D.lp (Pv (i+1))) U2 H2) (hd:∀ U H,Pv its.length U H->D.nx U H):Gh J g tb D U H:=by
 refine⟨λi m U H=>m=its.length - i/\i<=its.length/\Pv i U H,⟨its.length,by simp,bx _,h0⟩,?_⟩
 rintro i m U H ⟨rfl,hi,p⟩
 by_cases hlt:i<its.length
 .refine .inr ⟨Y.go i H (hok i U H hi p) hlt,Pv (i+1),λU' H' p'=>⟨its.length - (i+1),by omega,rfl,hlt,p'⟩,λx H' y=>?_⟩
  obtain⟨e,y2⟩:=Y.yld i H x H' (hok i U H hi p) hlt y
  subst e
  exact hs i x U _ y2 p
 .have e:i=its.length:=by omega
  subst e
  exact .inl ⟨Y.stop H (hok _ U H hi p),hd U H p⟩
theorem Jr {its:List (V×V)} (Y:Jl J its ok) (Pv:Nat->St->Hp->Prop) (h0:Pv 0 U H) (hok:∀ i U H,i<=its.length->Pv i U H->ok H)
  (hs:∀ i x y T U H,its[i]? = some (x,y)->H T=none->Pv i U H->g (.ref T) U (upd H T (.tup [x,y])) λU2 H2=>tb (D.lp (Pv (i+1))) U2 H2) (hd:∀ U H,Pv its.length U H->D.nx U H):Gh J g tb D U H:=by
 refine⟨λi m U H=>m=its.length - i/\i<=its.length/\Pv i U H,⟨its.length,by simp,bx _,h0⟩,?_⟩
 rintro i m U H ⟨rfl,hi,p⟩
 by_cases hlt:i<its.length
 .refine .inr ⟨Y.go i H (hok i U H hi p) hlt,Pv (i+1),λU' H' p'=>⟨its.length - (i+1),by omega,rfl,hlt,p'⟩,λx H' y=>?_⟩
  obtain⟨T,u,v,hT,e1,e2,e3⟩:=Y.yld i H x H' (hok i U H hi p) hlt y
  subst e1 e3
  exact hs i u v T U _ e2 hT p
 .have e:i=its.length:=by omega
  subst e
  exact .inl ⟨Y.stop H (hok _ U H hi p),hd U H p⟩
variable {tc:DT} {te:DE} {L:Addr} {R:Hp->Prop} {E:EK}
theorem Cr (Y:Cp J its ok) (Pv:Nat->St->Hp->Prop) (h0:Pv 0 U H) (hok:∀ i U H,i<=its.length->Pv i U H->ok H)
  (hs:∀ i x U H,its[i]? = some x->Pv i U H->g x U H λU3 H3=>tc U3 H3 (λb H4=>if b=true then te U3 H4 (λv H5=>∃ ys,H5 L=some (.lst ys)/\ys.length<sizeLine/\Pv (i+1) U3 (upd H5 L (.lst (ys++[v])))) E else Pv (i+1) U3 H4) E)
  (hd:∀ U H,Pv its.length U H->R H):Ef J g tc te L R U H E:=by
 refine⟨λi m U H=>m=its.length - i/\i<=its.length/\Pv i U H,⟨its.length,by simp,bx _,h0⟩,?_⟩
 rintro i m U H ⟨rfl,hi,p⟩
 by_cases hlt:i<its.length
 .refine .inr ⟨Y.go i H (hok i U H hi p) hlt,Pv (i+1),λU' H' p'=>⟨its.length - (i+1),by omega,rfl,hlt,p'⟩,λx H' y=>?_⟩
  obtain⟨e,y2⟩:=Y.yld i H x H' (hok i U H hi p) hlt y
  subst e
  exact hs i x U _ y2 p
 .have e:i=its.length:=by omega
  subst e
  exact .inl ⟨Y.stop H (hok _ U H hi p),hd U H p⟩
theorem Oe {its:List (V×V)} (Y:Jl J its ok) (Pv:Nat->St->Hp->Prop) (h0:Pv 0 U H) (hok:∀ i U H,i<=its.length->Pv i U H->ok H)
  (hs:∀ i x y T U H,its[i]? = some (x,y)->H T=none->Pv i U H->g (.ref T) U (upd H T (.tup [x,y])) λU3 H3=>tc U3 H3 (λb H4=>if b=true then te U3 H4 (λv H5=>∃ ys,H5 L=some (.lst ys)/\ys.length<sizeLine/\Pv (i+1) U3 (upd H5 L (.lst (ys++[v])))) E else Pv (i+1) U3 H4) E)
  (hd:∀ U H,Pv its.length U H->R H):Ef J g tc te L R U H E:=by
 refine⟨λi m U H=>m=its.length - i/\i<=its.length/\Pv i U H,⟨its.length,by simp,bx _,h0⟩,?_⟩
 rintro i m U H ⟨rfl,hi,p⟩
 by_cases hlt:i<its.length
 .refine .inr ⟨Y.go i H (hok i U H hi p) hlt,Pv (i+1),λU' H' p'=>⟨its.length - (i+1),by omega,rfl,hlt,p'⟩,λx H' y=>?_⟩
  obtain⟨T,u,v,hT,e1,e2,e3⟩:=Y.yld i H x H' (hok i U H hi p) hlt y
  subst e1 e3
  exact hs i u v T U _ e2 hT p
 .have e:i=its.length:=by omega
  subst e
  exact .inl ⟨Y.stop H (hok _ U H hi p),hd U H p⟩
theorem Ev {α β:Type} {its:List α} {i:Nat} {x:α} (h:its[i]? = some x) (p:α->Bool) (f:α->β):((its.take (i+1)).filter p).map f=((its.take i).filter p).map f++(if p x=true then [f x] else []):=by
 rw[aL,h]
 simp only[cK,iM,ax]
 congr 1
 cases e:p x <;> simp[e]
theorem Of (Y:Cp J its ok) (Sg:St->Prop) (p:V->Bool) (f:V->V) (h0:H L=none) (hok:∀ H1,Same H H1->ok H1) (hn:its.length<sizeLine) (hU:Sg U)
  (hs:∀ x U H1,x∈its->Sg U->Same H H1 -> ∀ (Fin:V->St->Hp->Prop) (Skip:St->Hp->Prop),(∀ v U3 H5,Sg U3->Same H1 H5->p x=true->v=f x->Fin v U3 H5)->(∀ U3 H4,Sg U3->Same H1 H4->p x=false->Skip U3 H4) ->
   g x U H1 λU3 H3=>tc U3 H3 (λb H4=>if b=true then te U3 H4 (λv H5=>Fin v U3 H5) E else Skip U3 H4) E)
  (hd:∀ H',Same H H'->H' L=some (.lst ((its.filter p).map f))->R H'):Ef J g tc te L R U (upd H L (.lst [])) E:=by
 refine Cr Y (λi U' H'=>Sg U'/\Same H H'/\H' L=some (.lst (((its.take i).filter p).map f))) ⟨hU,Same.upd h0,Ab⟩ (λi U' H' _ q=>hok H' q.2.1) ?_ ?_
 .rintro i x U' H' hx ⟨q1,q2,q3⟩
  have hi:i<its.length:=(List.getElem?_eq_some_iff.mp hx).1
  refine hs x U' H' (ak hx) q1 q2 (λv U3 H5=>∃ ys,H5 L=some (.lst ys)/\ys.length<sizeLine/\Sg U3/\Same H (upd H5 L (.lst (ys++[v])))/\upd H5 L (.lst (ys++[v])) L=some (.lst (((its.take (i+1)).filter p).map f)))
   (λU3 H4=>Sg U3/\Same H H4/\H4 L=some (.lst (((its.take (i+1)).filter p).map f))) (λv U3 H5 s1 s2 hp hv=>?_) (λU3 H4 s1 s2 hp=>?_)
  .refine⟨_,s2 _ _ q3,?_,s1,(q2.trans s2).set h0,?_⟩
   .rw[ae]
    have h1:=dS p (its.take i)
    have h2:(its.take i).length<=i:=by rw[aK];omega
    omega
   .rw[Ab,Ev hx,if_pos hp,hv]
  .refine⟨s1,q2.trans s2,?_⟩
   rw[s2 _ _ q3,Ev hx,if_neg (by rw[hp];exact au),cz]
 .rintro U' H' ⟨_,q2,q3⟩
  rw[aC] at q3
  exact hd H' q2 q3
end
section
variable {K:ac} {H H':Hp}
theorem Same.seqL {a:Addr} {xs:List V} (e:Same H H') (h:SqL K H a xs):SqL K H' a xs:=by
 rcases h with (h|⟨o,h⟩)|h
 .exact .inl (.inl (e _ _ h))
 .exact .inl (.inr ⟨o,e _ _ h⟩)
 .exact .inr h
theorem aa5 {J:It} {its:List V} {ok:Hp->Prop} {te:DE} {U:St} {D:Addr} {R:Hp->Prop} {E:EK} (Y:Cp J its ok) (Sg:St->Prop) (hD:H D=none) (hok:∀ H1,Same H H1->ok H1) (hn:its.length<sizeLine) (hU:Sg U) (hS:∀ U x,Sg U->Sg (U.set 0 (some x)))
  (he:∀ x U H1 Q1,x∈its->Sg U->Same H H1->(∀ H2,Same H1 H2->Q1 (.bl true) H2)->te (U.set 0 (some x)) H1 Q1 E) (k:∀ H',Same H H'->SqL K H' D ((its.map λ_=>true).map V.bl)->R H') :
  Ef J (gdN 0) Ck te D R U (upd H D (.lst [])) E:=by
 refine Of Y Sg (λ_=>true) (λ_=>.bl true) hD hok hn hU ?_ ?_
 .intro x U H1 hx hs S Fin Skip hF hK
  exact he x U H1 _ hx hs S λH2 S2=>hF _ _ _ (hS _ _ hs) S2 rfl rfl
 .intro H' S hD'
  exact k H' S (SqL.of (hD'.trans (by rw[List.filter_eq_self.mpr (λ_ _=>rfl),aF];rfl)))
theorem Wa (its:List V):((its.map λ_=>true).all λb=>b)=true:=by rw[g9,be];exact λ_ _=>rfl
end
end L2
namespace L2
open PySem PySem.Spec PySem.W
structure XC (K:ac) (C:Addr) (bm:List Value):Prop where
 lk:∃ nm q N bs sn sub ab col dd k0 k1 k2 k3 k5,K.lookup C=some (gW nm q C N bs bm true sn sub ab col dd k0 k1 k2 k3 k5 "ValueError.__new__")
 ty:typeIn K (.ref C)=some (.type "type")
 sa:findIn K (.ref C) "__setattr__" = some (some (.builtin "object.__setattr__"))
 ga:findIn K (.ref C) "__getattribute__" = some (some (.builtin "BaseException.__getattribute__"))
 gt:findIn K (.ref C) "__getattr__" = some none
 ca:findIn K (.ref C) "__class__" = some (some (.builtin "object.__class__"))
 hn:specialIn K (.builtin "object.__class__") "__get__" = some (some (.builtin "getset_descriptor.__get__"))
 htk:takesIn K (.builtin "object.__class__")=some true
theorem xc_mk {K:ac} {C N:Addr} {bm bs:List Value} {nm q:Str} {sn:List Str} {sub:List Value} {ab:Bool} {col:Option Bool} {dd:Option Addr} {k0 k1 k2 k3 k5:Option Value}
  (lk:K.lookup C=some (gW nm q C N bs bm true sn sub ab col dd k0 k1 k2 k3 k5 "ValueError.__new__")) (ty:typeIn K (.ref C)=some (.type "type")) (sa:findIn K (.ref C) "__setattr__" = some (some (.builtin "object.__setattr__")))
  (ga:findIn K (.ref C) "__getattribute__" = some (some (.builtin "BaseException.__getattribute__"))) (gt:findIn K (.ref C) "__getattr__" = some none) (ca:findIn K (.ref C) "__class__" = some (some (.builtin "object.__class__")))
  (hn:specialIn K (.builtin "object.__class__") "__get__" = some (some (.builtin "getset_descriptor.__get__"))) (htk:takesIn K (.builtin "object.__class__")=some true):XC K C bm:=⟨⟨_,_,_,_,_,_,_,_,_,_,_,_,_,_,lk⟩,ty,sa,ga,gt,ca,hn,htk⟩
theorem XC.ecls {K:ac} {C:Addr} {bm:List Value} (x:XC K C bm) (h:A7 bm=true):ECls K C:=by
 obtain⟨nm,q,N,bs,sn,sub,ab,col,dd,k0,k1,k2,k3,k5,lk⟩:=x.lk
 exact⟨⟨_,_,_,_,bm,true,_,_,_,_,_,_,_,_,_,_,lk,h,rfl⟩,x.sa,x.ga,x.gt,x.ca,x.hn,x.htk⟩
theorem XC.cls {K:ac} {C:Addr} {bm:List Value} (x:XC K C bm):∃ cd,mx K C=some cd/\cd.mro=.ref C::bm:=by
 obtain⟨nm,q,N,bs,sn,sub,ab,col,dd,k0,k1,k2,k3,k5,lk⟩:=x.lk
 exact⟨_,by unfold mx;rw[lk],rfl⟩
theorem XC.kit {K:ac} {C D:Addr} {bm bd:List Value} (x:XC K C bm) (y:XC K D bd) {b:Bool} (h:(aV C::bm).contains (.ref D)=b):kitOne K (.ref C) (.ref D)=some b:=by
 obtain⟨cd,h1,h2⟩:=x.cls
 obtain⟨cd',h3,_⟩:=y.cls
 unfold kitOne
 by_cases e:(aV C==aV D)=true
 .rw[if_pos e]
  have e':aV D=aV C:=(ck e).symm
  rw[<- h,cq,e']
  simp
 .rw[if_neg e]
  unfold kitCls
  dsimp only
  rw[h3,y.ty,if_pos (by rfl)]
  show mroIn K C (.ref D)=_
  unfold mroIn
  rw[h1,cC,h2,h]
  rfl
theorem Io {K:ac} {fd:a9} {ps:List Str} {T:Addr} {o:Obj} {items:Array Value} {n:Nat} {ds:List Value} (m:Nat) (hd:fd.defaults=.ref T) (ho:K.lookup T=some o) (hs:o.data=.seq items n) (hm:m+ds.length=ps.length)
  (h:∀ us:List Value,us.length=m -> ∃ k:Option (Array Value)->Sem (List (Str×Value)),im fd ⟨us,[]⟩=seqItems? fd.defaults >>= k/\k (some items)=pure (ps.zip (us++ds))):Binds K fd ps ds:=
 Sx hd ho hs λus hl=>h us (by rw[aW] at hl;omega)
end L2
namespace L2
open PySem PySem.Spec PyProof.Rows
open Sem (wp)
section
variable {X:Cx} {pins:List (Addr×Obj)} {U:St} {H:Hp} {s:aj} {a C:Addr} {dx:Option Addr} {h':Heap}
theorem ah6 (X:Cx):Ka (CXE X.prog X.w) X:=by
 intro Ex m pins U H s e s' I h
 obtain⟨a,H',rfl,os,bare,u,hok,F,a',e',hE⟩:=h
 cases e'
 have I':=I.call' os u hok bare (λb z=>absurd z (by simp))
 obtain⟨C,dx,vs,T,oT,ts,h1,h2,h3,h4,h5,h6,h7,h8,h9,h10⟩:=F
 exact m pins U H' s' a I' ⟨C,dx,vs,h1,h2,h3,.inr ⟨T,oT,ts,h4,h5,h6,h7,⟨_,h8⟩,I.fpOk h9 h10⟩⟩ hE
end
section
variable {P:aS} {w:bz} {K:ac} {mg:Str->Option Value} {base:Heap}
theorem Yd {N:List Str} {qual:Str} {scope:Scope} {f:Addr} {cdv:Value} {A:bq} {outer:List Env} {s:aj} {H:Hp} {E:XK} :
  Meets (Fu (CXE P w) P w K mg base N qual scope f cdv A outer s H E) (λ_ a H'=>E (.ref a) none H'):=by
 intro pins U H1 s1 a I F hE
 refine af (Wq (X:=Fu (CXE P w) P w K mg base N qual scope f cdv A outer s H E) I rfl rfl F λs' I' F'=>?_)
 obtain⟨C,dx,vs,T,oT,ts,h1,h2,h3,q1,q2,q3,q4,q5,q6⟩:=F'
 exact⟨a,H1,rfl,I'.os,I'.bare,I'.base,I'.hok,⟨C,dx,vs,T,oT,ts,h1,h2,h3,q1,q2,q3,q4,q5,q6.2.2.2.1.elim (λz=>absurd z (by simp[Fu])) id,q6.1⟩,hE⟩
def a15 (Q:VK) (E:XK):Outs:=⟨λ_ H'=>Q .non H',Q,λ_ _=>False,λ_ _=>False,λ_ a H'=>E (.ref a) none H'⟩
theorem FunD.okWX {x qual:Str} {st:Stmt} {f:Addr} {fd:a9} {N ps:List Str} {k n:Nat} {sp:Sp} {gb:List (Str×GB)} {bl:List Str} {t:DS} {dV:Value} (F:FunD K x qual st f fd dV) (S:B7 N ps (Ak st)) (hv:Ja N (Ak st)=true)
  (T:Tab P w K mg base k gb bl) (rd:wSs n (Hn K N (Ak st) gb bl) (A0 st)=t) (len:∀ vs H Q E,sp vs H Q E->vs.length=ps.length)
  (hbody:∀ (vs:List V) (H:Hp) (Q:VK) (E:XK),sp vs H Q E->t (a15 Q E) (Ch N vs) H):FnOk P w K mg base (CXE P w) (k+1) f fd ps sp:=by
 obtain⟨oc,od,kV,doc,pm,an,cdv,ct,osl,rfl,lk,hcd⟩:=F.ex
 refine ad4 lk hcd S len λA outer s H vs Q E hr h=>?_
 have O:GOk (Fu (CXE P w) P w K mg base N qual (Ak st) f cdv A outer s H E) (Hn K N (Ak st) gb bl):=by
  refine⟨rfl,S.kind,(λ_=>PassesOwn.leaving),rfl,S.nd,λx=>rfl,λx hx=>?_,λ_ _=>rfl,rfl,(λ_=>hr.hd),hr.units,λx hx=>?_,λx g e=>?_,λx hx=>?_,(λ_=>⟨rfl,rfl⟩),⟨_,_,_,rfl,rfl,rfl⟩⟩
  .have:=List.all_eq_true.mp hv x hx
   rw[cI] at this
   exact this.elim (λz=>.inl (ck z)) λz=>.inr (.inl (ck z))
  .rcases hx with hx|hx
   .exact Dv hx
   .exact absurd rfl (S.nofree _ (bQ hx))
  .exact (T.all x g e).there hr
  .exact T.bl x (by have hx':bl.contains x=true:=hx;simpa using hx')
 refine⟨_,(ap4 n _ _ O).2 (A0 st) (λ_ a H'=>E (.ref a) none H') Yd,?_⟩
 rw[rd]
 exact hbody vs H Q E h
end
end L2
namespace Pn
open PySem L2
abbrev Sw:=List (Str×List Str)
def J2 (c:Nat):Bool:=decide (97<=c)&&decide (c<=122)
def okW (z:Str):Prop:=1<=z.length/\z.length<=8/\z.cps.toList.all J2=true
def okL (l:List Str):Prop:=(∀ z∈l,okW z)/\l.Nodup/\l.length<=8
def Fx (l:List Str):Prop:=okL l/\2<=l.length/\l.length<=4
def B4 (sw:Sw):Nat:=sw.foldl (λn x=>n * x.2.length) 1
def okSw (sw:Sw):Prop:=1<=sw.length/\sw.length<=5/\(sw.map (·.1)).Nodup/\(∀ x∈sw,okW x.1/\Fx x.2)/\B4 sw<=256
def Eb (acc:List (List Str)) (x:Str×List Str):List (List Str):=acc.flatMap λa=>x.2.map λz=>a++[z]
def Aj (sw:Sw):List (List Str):=sw.foldl Eb [[]]
def Y0 (ns:List Nat):Int:=ns.foldl (λ(c:Int) n=>cU c (2 ^ n)) 0
def Gd (ms:List Int):Int:=ms.foldl (λc m=>cU c m) 0
def Dg (p:Nat) (z:Str):Nat->List (List Str)->List Nat
 |_,[]=>[]
 |k,r::rs=>if r[p]? = some z then k::Dg p z (k+1) rs else Dg p z (k+1) rs
def D6 (rows:List (List Str)) (p:Nat) (z:Str):Int:=Y0 (Dg p z 0 rows)
def F8 (sw:Sw) (w:Str):Nat:=sw.findIdx λx=>decide (x.1=w)
def Iz (sw:Sw) (e:Str×List Str):Int:=Gd (e.2.map (D6 (Aj sw) (F8 sw e.1)))
def N7 (sw:Sw):Int:=2 ^ (Aj sw).length - 1
def ab1 (sw:Sw) (rule:Sw):Int:=rule.foldl (λc e=>b9 c (Iz sw e)) (N7 sw)
def Im (sw:Sw) (rules:List Sw):List Int:=rules.map (ab1 sw)
def Kj (sw:Sw) (rules:List Sw):Int:=b9 (N7 sw) (bI (Gd (Im sw rules)))
def Ia (sw:Sw) (e:Str×List Str):Prop:=e.2≠[]/\okL e.2 /\ ∃ x∈sw,x.1=e.1 /\ ∀ z∈e.2,z∈x.2
def Em (sw:Sw) (rule:Sw):Prop:=rule≠[]/\rule.length<=100/\(rule.map (·.1)).Nodup /\ ∀ e∈rule,Ia sw e
theorem Nz (acc:List (List Str)) (x:Str×List Str):(Eb acc x).length=acc.length * x.2.length:=by
 unfold Eb
 induction acc with
 |nil=>simp
 |cons a acc ih=>rw[i6,aW,ih,ae,aO,Nat.add_mul,Nat.one_mul,lT]
theorem G4:∀ (sw:Sw) (acc:List (List Str)),(sw.foldl Eb acc).length=sw.foldl (λn x=>n * x.2.length) acc.length
 |[],_=>rfl
 |x::sw,acc=>by rw[bY,bY,G4 sw,Nz]
theorem G3 (sw:Sw):(Aj sw).length=B4 sw:=G4 sw [[]]
def K5 (k:Nat) (rs:List (List Str)):Prop:=rs.Nodup/\(∀ r∈rs,r.length=k) /\ ∀ r∈rs,∀ z∈r,okW z
theorem ao0 {k:Nat} {acc:List (List Str)} {x:Str×List Str} (h:K5 k acc) (hx:Fx x.2):K5 (k+1) (Eb acc x):=by
 obtain⟨h1,h2,h3⟩:=h
 refine⟨?_,?_,?_⟩
 .unfold Eb
  clear h3
  induction acc with
  |nil=>exact kJ
  |cons a acc ih=>
   rw[i6,i8]
   rw[bZ] at h1
   refine⟨?_,ih h1.2 (λr hr=>h2 r (aB _ hr)),?_⟩
   .refine fE _ ?_ hx.1.2.1
    intro y z ne e
    exact ne (by simpa using e)
   .intro r hr q hq e
    subst e
    obtain⟨y,hy,rfl⟩:=List.mem_map.mp hr
    obtain⟨b,hb,hq⟩:=List.mem_flatMap.mp hq
    obtain⟨z,hz,e⟩:=List.mem_map.mp hq
    have:b=a/\z=y:=by simpa using e
    rw[this.1] at hb
    exact h1.1 hb
 .intro r hr
  obtain⟨b,hb,hq⟩:=List.mem_flatMap.mp hr
  obtain⟨z,hz,rfl⟩:=List.mem_map.mp hq
  rw[aW,h2 b hb]
  rfl
 .intro r hr y hy
  obtain⟨b,hb,hq⟩:=List.mem_flatMap.mp hr
  obtain⟨z,hz,rfl⟩:=List.mem_map.mp hq
  rcases List.mem_append.mp hy with hy|hy
  .exact h3 b hb y hy
  .have:y=z:=by simpa using hy
   subst this
   exact hx.1.1 _ hz
theorem Iy:∀ {sw:Sw} {k:Nat} {acc:List (List Str)},K5 k acc->(∀ x∈sw,Fx x.2)->K5 (k+sw.length) (sw.foldl Eb acc)
 |[],_,_,h,_=>h
 | x::sw,k,acc,h,hs=>by
  have:=Iy (ao0 h (hs x (aT))) (λy hy=>hs y (aB _ hy))
  rw[bY,aO,show k+(sw.length+1)=k+1+sw.length by omega]
  exact this
theorem G5 {sw:Sw} (h:∀ x∈sw,Fx x.2):K5 sw.length (Aj sw):=by
 have:=Iy (sw:=sw) (k:=0) (acc:=[[]]) ⟨by simp,by simp,by simp⟩ h
 rwa[cO] at this
theorem Cy:∀ {sw:Sw} {n:Nat},1<=n->(∀ x∈sw,Fx x.2)->n<=sw.foldl (λn x=>n * x.2.length) n
 |[],n,_,_=>ai _
 | x::sw,n,h,hs=>by
  rw[bY]
  have h2:2<=x.2.length:=(hs x aT).2.1
  have:n<=n * x.2.length:=Nat.le_mul_of_pos_right _ (by omega)
  exact aY this (Cy (by omega) (λy hy=>hs y (aB _ hy)))
theorem okSw.sets {sw:Sw} (h:okSw sw):∀ x∈sw,Fx x.2:=λx hx=>(h.2.2.2.1 x hx).2
theorem okSw.len {sw:Sw} (h:okSw sw):(Aj sw).length<=256:=by rw[G3];exact h.2.2.2.2
theorem okSw.pos {sw:Sw} (h:okSw sw):1<=(Aj sw).length:=by rw[G3];exact Cy (ai 1) h.sets
theorem Yr {sw:Sw} (h:okSw sw) (i:Nat):B4 (sw.take i)<=B4 sw:=by
 conv=>rhs;rw[<- j2 i sw]
 unfold B4
 rw[fF]
 exact Cy (Cy (ai 1) λx hx=>h.sets x (fL hx)) λx hx=>h.sets x (List.mem_of_mem_drop hx)
theorem Ca {α β:Type} {l:List α} {i:Nat} {x:α} (h:l[i]? = some x) (f:β->α->β) (b:β):(l.take (i+1)).foldl f b=f ((l.take i).foldl f b) x:=by
 rw[aL,h,cK,fF]
 rfl
theorem B1 {α β:Type} {l:List α} {i:Nat} {x:α} (h:l[i]? = some x) (f:α->β):(l.take (i+1)).map f=(l.take i).map f++[f x]:=by
 rw[aL,h,cK,ax]
 rfl
abbrev Own (ok:Addr->Prop) (H:Hp) (a:Addr) (o:HO):Prop:=ok a/\H a=some o
abbrev Kp (ok:Addr->Prop) (H:Hp) (ok':Addr->Prop) (H':Hp):Prop:=∀ a o,Own ok H a o->Own ok' H' a o
abbrev fresh (H:Hp):Addr->Prop:=λa=>H a=none
abbrev any:Addr->Prop:=λ_=>True
theorem Kp.same {ok:Addr->Prop} {H H':Hp} (S:Same H H'):Kp ok H ok H':=λa o h=>⟨h.1,S _ _ h.2⟩
theorem Kp.any {ok:Addr->Prop} {H:Hp}:Kp ok H Pn.any H:=λa o h=>⟨trivial,h.2⟩
theorem Kp.weak {ok ok':Addr->Prop} {H:Hp} (h:∀ a,ok a->ok' a):Kp ok H ok' H:=λa o q=>⟨h a q.1,q.2⟩
theorem Kp.trans {ok1 ok2 ok3:Addr->Prop} {H1 H2 H3:Hp} (h:Kp ok1 H1 ok2 H2) (g:Kp ok2 H2 ok3 H3):Kp ok1 H1 ok3 H3:=λa o q=>g a o (h a o q)
theorem Yy {H H':Hp} (S:Same H H') {a:Addr} (h:H' a=none):H a=none:=by
 cases e:H a with
 |none=>rfl
 |some o=>rw[S _ _ e] at h;cases h
theorem Kp.fresh {H1 H2 H:Hp} (S:Same H1 H2):Kp (fresh H2) H (Pn.fresh H1) H:=Kp.weak λa h=>Yy S h
theorem Kp.off {ok:Addr->Prop} {H:Hp} {p:Addr} {o:HO} (h:¬ ok p):Kp ok H ok (upd H p o):=λa u q=>⟨q.1,by
 have n:a≠p:=λe=>h (by rw[<- e];exact q.1)
 rw[Ad n];exact q.2⟩
abbrev kR (x:(Str×List Str)×Addr):Key×V:=(.inr x.1.1,.ref x.2)
abbrev C9 (r:List Str):HO:=.tup (r.map V.str)
abbrev Be (r:List Str):HO:=.lst (r.map V.str)
noncomputable def SwAt (ok:Addr->Prop) (H:Hp) (d:Addr) (sw:Sw):Prop:=∃ ds:List ((Str×List Str)×Addr),ds.map (·.1)=sw/\Own ok H d (.dK (ds.map kR)) /\ ∀ x∈ds,Own ok H x.2 (C9 x.1.2)
noncomputable def RuleAt (ok:Addr->Prop) (H:Hp) (d:Addr) (sw:Sw):Prop:=∃ ds:List ((Str×List Str)×Addr),ds.map (·.1)=sw/\Own ok H d (.dK (ds.map kR)) /\ ∀ x∈ds,Own ok H x.2 (Be x.1.2)
noncomputable def TupsAt (ok:Addr->Prop) (H:Hp) (l:Addr) (rows:List (List Str)):Prop:=∃ ds:List (List Str×Addr),ds.map (·.1)=rows/\Own ok H l (.lst (ds.map λx=>.ref x.2)) /\ ∀ x∈ds,Own ok H x.2 (C9 x.1)
noncomputable def SwIn (ok:Addr->Prop) (H:Hp) (l:Addr) (sw:Sw):Prop:=∃ ds:List (((Str×List Str)×Addr)×Addr),ds.map (·.1.1)=sw/\Own ok H l (.lst (ds.map λx=>.ref x.2)) /\ ∀ x∈ds,Own ok H x.2 (.tup [.str x.1.1.1,.ref x.1.2])/\Own ok H x.1.2 (Be x.1.1.2)
def Md (r:List Str):TK:=.tup (r.map λz=>.at_ (.inr z))
def K4 (k:Nat):List (List Str)->List (TK×V)
 |[]=>[]
 |r::rs=>(Md r,.int (k:Int))::K4 (k+1) rs
def NumAt (ok:Addr->Prop) (H:Hp) (n:Addr) (rows:List (List Str)):Prop:=Own ok H n (.dT (K4 0 rows))
def Uw (rows:List (List Str)) (i:Nat) (l:List Str):HO:=.dK (l.map λz=>(.inr z,.int (D6 rows i z)))
noncomputable def SetsAt (ok:Addr->Prop) (H:Hp) (d:Addr) (sw:Sw):Prop:=∃ ds:List ((Str×List Str)×Addr),ds.map (·.1)=sw/\Own ok H d (.dK (ds.map kR)) /\ ∀ i x,ds[i]? = some x->Own ok H x.2 (Uw (Aj sw) i x.1.2)
noncomputable def RulesAt (ok:Addr->Prop) (H:Hp) (k:Addr) (rules:List Sw):Prop:=∃ ds:List (Sw×Addr),ds.map (·.1)=rules/\Own ok H k (.lst (ds.map λx=>.ref x.2)) /\ ∀ x∈ds,RuleAt ok H x.2 x.1
section
variable {ok ok':Addr->Prop} {H H':Hp} {d:Addr} {sw:Sw} {rows:List (List Str)} {rules:List Sw}
theorem SwAt.mono (h:SwAt ok H d sw) (k:Kp ok H ok' H'):SwAt ok' H' d sw:=by
 obtain⟨ds,e,o,q⟩:=h;exact⟨ds,e,k _ _ o,λx hx=>k _ _ (q x hx)⟩
theorem RuleAt.mono (h:RuleAt ok H d sw) (k:Kp ok H ok' H'):RuleAt ok' H' d sw:=by
 obtain⟨ds,e,o,q⟩:=h;exact⟨ds,e,k _ _ o,λx hx=>k _ _ (q x hx)⟩
theorem TupsAt.mono (h:TupsAt ok H d rows) (k:Kp ok H ok' H'):TupsAt ok' H' d rows:=by
 obtain⟨ds,e,o,q⟩:=h;exact⟨ds,e,k _ _ o,λx hx=>k _ _ (q x hx)⟩
theorem SwIn.mono (h:SwIn ok H d sw) (k:Kp ok H ok' H'):SwIn ok' H' d sw:=by
 obtain⟨ds,e,o,q⟩:=h;exact⟨ds,e,k _ _ o,λx hx=>⟨k _ _ (q x hx).1,k _ _ (q x hx).2⟩⟩
theorem SetsAt.mono (h:SetsAt ok H d sw) (k:Kp ok H ok' H'):SetsAt ok' H' d sw:=by
 obtain⟨ds,e,o,q⟩:=h;exact⟨ds,e,k _ _ o,λi x hx=>k _ _ (q i x hx)⟩
theorem RulesAt.mono (h:RulesAt ok H d rules) (k:Kp ok H ok' H'):RulesAt ok' H' d rules:=by
 obtain⟨ds,e,o,q⟩:=h;exact⟨ds,e,k _ _ o,λx hx=>(q x hx).mono k⟩
theorem NumAt.mono (h:NumAt ok H d rows) (k:Kp ok H ok' H'):NumAt ok' H' d rows:=k _ _ h
end
noncomputable def bl8 (d l n s k b:Addr) (f:Int):List (Str×V):=[("settings", .ref d),("tuples", .ref l),("numbers", .ref n),("sets", .ref s),("kept_rules", .ref k),("bars", .ref b),("free", .int f)]
structure PanAt (C:Addr) (ok:Addr->Prop) (H:Hp) (p:Addr) (sw:Sw) (rules:List Sw) (dx d l n s k b:Addr):Prop where
 ins:Own ok H p (.ins C dx (bl8 d l n s k b (Kj sw rules)))
 sws:SwAt ok H d sw
 tps:TupsAt ok H l (Aj sw)
 nms:NumAt ok H n (Aj sw)
 sts:SetsAt ok H s sw
 rls:RulesAt ok H k rules
 brs:Own ok H b (.lst ((Im sw rules).map V.int))
def PanelAt (C:Addr) (ok:Addr->Prop) (H:Hp) (p:Addr) (sw:Sw) (rules:List Sw):Prop:=∃ dx d l n s k b,PanAt C ok H p sw rules dx d l n s k b
theorem PanelAt.mono {C p:Addr} {ok ok':Addr->Prop} {H H':Hp} {sw:Sw} {rules:List Sw} (h:PanelAt C ok H p sw rules) (k:Kp ok H ok' H'):PanelAt C ok' H' p sw rules:=by
 obtain⟨dx,d,l,n,s,kk,b,h⟩:=h
 exact⟨dx,d,l,n,s,kk,b,⟨k _ _ h.ins,h.sws.mono k,h.tps.mono k,h.nms.mono k,h.sts.mono k,h.rls.mono k,k _ _ h.brs⟩⟩
noncomputable def SelfAt (C:Addr) (ok:Addr->Prop) (H:Hp) (p l s:Addr):Prop:=∃ dx fs,Own ok H p (.ins C dx fs)/\fs.lookup ("tuples" : Str)=some (.ref l)/\fs.lookup ("sets" : Str)=some (.ref s) /\ ∀ m∈(["all_choices", "box", "many", "term", "read_rule", "read_rules"]:List Str),fs.lookup m=none
theorem SelfAt.mono {C p l s:Addr} {ok ok':Addr->Prop} {H H':Hp} (h:SelfAt C ok H p l s) (k:Kp ok H ok' H'):SelfAt C ok' H' p l s:=by
 obtain⟨dx,fs,o,q⟩:=h;exact⟨dx,fs,k _ _ o,q⟩
theorem Er {p:Addr} {o:Obj} (kvs:List (Key×V)):Cp (Itd p o kvs) (kvs.map λkv=>kV kv.1) (λH=>H p=some (.frz o (.dK kvs))):=by
 refine⟨λi H q h=>⟨q,by simpa using h⟩,λH q=>⟨q,by simp⟩,λi H x H' q hi h=>?_⟩
 obtain⟨h1,k,v,h2,h3⟩:=h
 refine⟨h1,?_⟩
 rw[am,h2,h3]
 rfl
theorem ap6 {p:Addr} {o:Obj} (kvs:List (Key×V)):Jl (aa1 p o kvs) (Dy 0 (kvs.map λkv=>kV kv.1)) (λH=>H p=some (.frz o (.dK kvs))):=by
 have e:(Dy 0 (kvs.map λkv=>kV kv.1)).length=kvs.length:=by rw[Br];simp
 refine⟨λi H q h=>⟨q,by omega⟩,λH q=>⟨q,by omega⟩,λi H x H' q hi h=>?_⟩
 obtain⟨T,k,v,hT,h1,h2,h3⟩:=h
 refine⟨T,.int i,kV k,hT,h1,?_,h3⟩
 have:=Ct (k:=0) (xs:=kvs.map λkv=>kV kv.1) (i:=i) (x:=kV k) (by rw[am,h2];rfl)
 rw[cO] at this
 exact this
theorem Same.thaw {H H':Hp} {p:Addr} {o:Obj} {kvs:List (Key×V)} (h:H p=some (.dK kvs)) (S:Same (upd H p (.frz o (.dK kvs))) H'):Same H (upd H' p (.dK kvs)):=by
 intro b u e
 by_cases hb:b=p
 .subst hb;rw[Ab,<- h,e]
 .rw[Ad hb];exact S _ _ (by rw[Ad hb];exact e)
theorem Fq {H:Hp} {d:Addr} {u:HO} (h:H d=some u):¬ Pn.fresh H d:=λe=>by
 have e:H d=none:=e
 rw[h] at e
 cases e
theorem E9 {b:Bool} {A B:Prop} (e:b=false) (h:B):if b=true then A else B:=by subst e;exact ae3 h
theorem Ir {b:Bool} {A B:Prop} (e:b=true) (h:A):if b=true then A else B:=by subst e;exact Q6 h
theorem Am {α β:Type} {l:List α} {f:α->β} {i:Nat} {x:β} (h:(l.map f)[i]? = some x):∃ m,l[i]? = some m/\x=f m:=by
 rw[am] at h
 cases e:l[i]? with
 |none=>rw[e] at h;cases h
 |some m=>rw[e] at h;exact⟨m,rfl,by simpa using h.symm⟩
theorem Al {α:Type} {l:List α} {i:Nat} {x:α} (h:l[i]? = some x):i<l.length:=(List.getElem?_eq_some_iff.mp h).1
theorem Cu {n i:Nat} {x:V} (h:(Uv 0 n)[i]? = some x):i<n/\x=.int (i:Int):=by
 have hi:=Al h
 rw[Az] at hi
 rw[Rx hi] at h
 refine⟨hi,?_⟩
 have:V.int (0+(i:Int))=x:=by simpa using h
 rw[<- this,Int.zero_add]
theorem G7 (z:Str):z.cps.toList.length=z.length:=by simp[Str.length]
theorem ah2 (a c:Nat):decide ([c]<[a])=decide (c<a):=by
 rw[bX,decide_eq_true_iff,decide_eq_true_iff,List.cons_lt_cons_iff]
 simp
theorem leL {s:Str} {a c:Nat} (h:s.cps.toList=[a]):(!decide ((⟨#[c]⟩:Str).cps.toList<s.cps.toList))=decide (a<=c):=by
 rw[h]
 show (!decide ([c]<[a]))=_
 rw[ah2,<- decide_not]
 exact decide_eq_decide.mpr Nat.not_lt
theorem leR {s:Str} {a c:Nat} (h:s.cps.toList=[a]):(!decide (s.cps.toList<(⟨#[c]⟩:Str).cps.toList))=decide (c<=a):=by
 rw[h]
 show (!decide ([a]<[c]))=_
 rw[ah2,<- decide_not]
 exact decide_eq_decide.mpr Nat.not_lt
theorem Xu {s1 s2:Str} {a b c:Nat} {Q:VK} {H:Hp} (h1:s1.cps.toList=[a]) (h2:s2.cps.toList=[b]) (k:Q (.bl (decide (a<=c)&&decide (c<=b))) H) :
  if (!decide ((⟨#[c]⟩:Str).cps.toList<s1.cps.toList))=true then Q (.bl (!decide (s2.cps.toList<(⟨#[c]⟩:Str).cps.toList))) H else Q (.bl false) H:=by
 rw[leL h1,leR h2]
 cases e:decide (a<=c) with
 |true=>rw[e,jm] at k;exact Q6 k
 |false=>rw[e,kI] at k;exact ae3 k
theorem M5 {a b c:Int} {Q:VK} {H:Hp} (k:Q (.bl (decide (a<=c)&&decide (c<=b))) H):if decide (a<=c)=true then Q (.bl (decide (c<=b))) H else Q (.bl false) H:=by
 cases e:decide (a<=c) with
 |true=>rw[e,jm] at k;exact Q6 k
 |false=>rw[e,kI] at k;exact ae3 k
theorem as2 {s1 s2:Str} {a b c i:Nat} {Q:VK} {E:EK} {H:Hp} {U:St} (h1:s1.cps.toList=[a]) (h2:s2.cps.toList=[b]) (hv:U[i]? = some (some (.str ⟨#[c]⟩))) (k:Q (.bl (decide (a<=c)&&decide (c<=b))) H) :
  Dr G1 G1 (dC (.str s1)) (Aa i) (dC (.str s2)) U H Q E:=by
 unfold Dr dC Aa
 rw[hv]
 exact Xu h1 h2 k
theorem Xp {K:ac} {z:Str} {te:DE} {p:Nat->Bool} {H:Hp} {Q:VK} {E:EK} (hz:z.length<=1000) (he:∀ (c:Nat) (U:St) (H1:Hp) (Q1:VK),U.length=1->Q1 (.bl (p c)) H1->te (U.set 0 (some (.str ⟨#[c]⟩))) H1 Q1 E) (k:∀ H',Same H H'->Q (.bl (z.cps.toList.all p)) H') :
  ∀ D,H D=none->Ef (Its z) (gdN 0) Ck te D (λH'=>Rs K [.ref D] H' Q) (Tg [none] [some (.str z)]) (upd H D (.lst [])) E:=by
 intro D hD
 refine Of (bj8 z) (λU=>U.length=1) (λ_=>true) (λv=>match v with | .str y=>.bl (p (y.cps.getD 0 0))|_=>.non) hD (λ_ _=>aR) ?_ rfl ?_ ?_
 .unfold Fe
  rw[ae]
  exact bi (show z.cps.toList.length<=1000 from by have:z.cps.size<=1000:=hz;simpa using this) (by decide)
 .intro x U H1 hx hU S Fin Skip hF hS
  obtain⟨c,hc,rfl⟩:=List.mem_map.mp hx
  refine he c U H1 _ hU ?_
  exact hF _ _ _ (by rw[j0];exact hU) (Same.refl _) rfl rfl
 .intro H' S hD'
  have e:((Fe z).filter λ_=>true).map (λv=>match v with | .str y=>V.bl (p (y.cps.getD 0 0))|_=>.non)=(z.cps.toList.map p).map V.bl:=by
   unfold Fe
   rw[List.filter_eq_self.mpr (λ_ _=>rfl),aF,aF]
   rfl
  refine⟨z.cps.toList.map p,SqL.of (hD'.trans (by rw[e])),?_⟩
  have e2:(z.cps.toList.map p).all (λb=>b)=z.cps.toList.all p:=by rw[g9];rfl
  rw[e2]
  exact k H' S
theorem Qr {K:ac} {J:It} {its:List V} {ok:Hp->Prop} {te:DE} {U:St} {H:Hp} {R:Hp->Addr->Prop} {E:EK} (Y:Cp J its ok) (Sg:St->Prop) (hok:∀ H1,Same H H1->ok H1) (hn:its.length<sizeLine) (hU:Sg U) (hS:∀ U x,Sg U->Sg (U.set 0 (some x)))
  (he:∀ x U H1 Q1,x∈its->Sg U->Same H H1->(∀ H2,Same H1 H2->Q1 (.bl true) H2)->te (U.set 0 (some x)) H1 Q1 E) (k:∀ D H',Same H H'->SqL K H' D ((its.map λ_=>true).map V.bl)->R H' D) :
  ∀ D,H D=none->Ef J (gdN 0) Ck te D (λH'=>R H' D) U (upd H D (.lst [])) E:=λD hD=>aa5 (K:=K) Y Sg hD hok hn hU hS he (k D)
theorem Ra:∀ (xs acc:List Str),(acc++xs).Nodup->xs.foldl (λU k=>if U.any (λj=>decide (j=k)) then U else U++[k]) acc=acc++xs
 |[],acc,_=>by rw[List.foldl_nil,cz]
 | x::xs,acc,h=>by
  have hx:(acc.any λj=>decide (j=x))=false:=by
   rw[i4]
   intro j hj e
   have e:j=x:=by simpa using e
   subst e
   exact (List.nodup_append.mp h).2.2 j hj j aT rfl
  rw[bY,hx]
  have h2:(acc++[x]++xs).Nodup:=by simpa using h
  show List.foldl _ (acc++[x]) xs=_
  rw[Ra xs (acc++[x]) h2]
  simp
theorem at8 {xs:List Str} (h:xs.Nodup):D7 xs=xs:=Ra xs [] (by simpa using h)
theorem Bm {κ:Type} [DecidableEq κ]:∀ {kvs:List (κ×V)} {i:Nat} {k:κ} {v:V},(kvs.map (·.1)).Nodup->kvs[i]? = some (k,v)->B0 kvs k=some v
 |[],_,_,_,_,e=>by simp at e
 | p::r,0,k,v,_,e=>by
  rw[eJ] at e
  cases e
  exact Hg rfl
 | p::r,i+1,k,v,h,e=>by
  rw[bK] at e
  rw[aZ,bZ] at h
  have ne:¬ p.1=k:=λz=>h.1 (List.mem_map.mpr ⟨(k,v),ak e,z.symm⟩)
  rw[Fk ne]
  exact Bm h.2 e
theorem B3 {κ:Type} [DecidableEq κ]:∀ {kvs:List (κ×V)} {k:κ},¬ k∈kvs.map (·.1)->B0 kvs k=none
 |[],_,_=>rfl
 | p::r,k,h=>by
  rw[aZ,aH,not_or] at h
  rw[Fk (λe=>h.1 e.symm)]
  exact B3 h.2
theorem Hz {l:List Str} (h:l.Nodup):(l.map (hZ:Str->Key)).Nodup:=fE _ (λa b ne e=>ne (by injection e)) h
theorem J0 (ds:List ((Str×List Str)×Addr)):(ds.map kR).map (·.1)=((ds.map (·.1)).map (·.1)).map (hZ:Str->Key):=by simp[aF]
theorem Ej {ds:List ((Str×List Str)×Addr)} {sw:Sw} (e:ds.map (·.1)=sw) (h:(sw.map (·.1)).Nodup):((ds.map kR).map (·.1)).Nodup:=by
 rw[J0,e]
 exact Hz h
theorem Fl (x y:Nat):cU (x:Int) (y:Int)=((x ||| y:Nat):Int):=by
 unfold cU
 have hx:¬ (0:Int)<=bI (x:Int):=by unfold bI;omega
 have hy:¬ (0:Int)<=bI (y:Int):=by unfold bI;omega
 rw[PyProof.Rows.bitAnd_nn hx hy]
 have e:∀ z:Nat,(bI (bI (z:Int)))=(z:Int):=λz=>by unfold bI;omega
 rw[e,e,e,aU,aU]
theorem Cq (x y:Nat):b9 (x:Int) (y:Int)=((x &&& y:Nat):Int):=by
 rw[PyProof.Rows.bitAnd_pp (by omega) (by omega),aU,aU]
theorem Ee (n:Nat):(2:Int) ^ n=((2 ^ n:Nat):Int):=by simp
def Dj (ns:List Nat):Nat:=ns.foldl (λc n=>c ||| 2 ^ n) 0
theorem Rz:∀ (ns:List Nat) (c:Nat),ns.foldl (λ(c:Int) n=>cU c (2 ^ n)) (c:Int)=((ns.foldl (λc n=>c ||| 2 ^ n) c:Nat):Int)
 |[],c=>rfl
 |n::ns,c=>by rw[bY,bY,Ee,Fl,Rz ns]
theorem al2 (ns:List Nat):Y0 ns=(Dj ns:Nat):=Rz ns 0
theorem R0:∀ (ns:List Nat) (c k:Nat),(ns.foldl (λc n=>c ||| 2 ^ n) c).testBit k=(c.testBit k||decide (k∈ns))
 |[],c,k=>by simp
 | n::ns,c,k=>by
  rw[bY,R0 ns,fP,cT,Bool.or_assoc]
  congr 1
  rw[bX,cI,decide_eq_true_iff,decide_eq_true_iff,decide_eq_true_iff,aH]
  exact or_congr ⟨Eq.symm,Eq.symm⟩ Iff.rfl
theorem C1 (ns:List Nat) (k:Nat):(Dj ns).testBit k=decide (k∈ns):=by
 unfold Dj
 rw[R0,dj,jk]
def Dk (ms:List Nat):Nat:=ms.foldl (λc m=>c ||| m) 0
theorem Lv:∀ (ms:List Nat) (c:Nat),(ms.map λm:Nat=>(m:Int)).foldl (λc m=>cU c m) (c:Int)=((ms.foldl (λc m=>c ||| m) c:Nat):Int)
 |[],c=>rfl
 |n::ns,c=>by rw[aZ,bY,bY,Fl,Lv ns]
theorem Ge (ms:List Nat):Gd (ms.map λm:Nat=>(m:Int))=(Dk ms:Nat):=Lv ms 0
theorem Lw:∀ (ms:List Nat) (c k:Nat),(ms.foldl (λc m=>c ||| m) c).testBit k=(c.testBit k||ms.any λm=>m.testBit k)
 |[],c,k=>by simp
 |n::ns,c,k=>by rw[bY,Lw ns,fP,gr,Bool.or_assoc]
theorem Ep (ms:List Nat) (k:Nat):(Dk ms).testBit k=ms.any λm=>m.testBit k:=by
 unfold Dk
 rw[Lw,dj,jk]
def Tt (rows:List (List Str)) (p:Nat) (z:Str) (k:Nat):Bool:=decide ((rows[k]?.bind λr=>r[p]?)=some z)
theorem Wk (p:Nat) (z:Str):∀ (rows:List (List Str)) (j n:Nat),n∈Dg p z j rows ↔ j<=n/\(rows[n - j]?.bind λr=>r[p]?)=some z
 |[],j,n=>by simp[Dg]
 | r::rows,j,n=>by
  have ih:=Wk p z rows (j+1) n
  have e:∀ b,(n=j/\b)\/(j+1<=n/\(rows[n - (j+1)]?.bind λr=>r[p]?)=some z) ↔ j<=n/\((n=j/\b)\/(n≠j/\(rows[n - (j+1)]?.bind λr=>r[p]?)=some z)):=λb=>by
   constructor
   .rintro (⟨h1,h2⟩|⟨h1,h2⟩)
    .exact⟨by omega,.inl ⟨h1,h2⟩⟩
    .exact⟨by omega,.inr ⟨by omega,h2⟩⟩
   .rintro⟨h0,⟨h1,h2⟩|⟨h1,h2⟩⟩
    .exact .inl ⟨h1,h2⟩
    .exact .inr ⟨by omega,h2⟩
  have g:j<=n->(((r::rows)[n - j]?.bind λr=>r[p]?)=some z ↔ ((n=j/\r[p]? = some z)\/(n≠j/\(rows[n - (j+1)]?.bind λr=>r[p]?)=some z))):=λh=>by
   by_cases hn:n=j
   .subst hn
    simp
   .have e2:n - j=(n - (j+1))+1:=by omega
    rw[e2,bK]
    simp[hn]
  rw[Dg]
  by_cases hr:r[p]? = some z
  .rw[if_pos hr,aH,ih]
   have:=e (r[p]? = some z)
   constructor
   .intro h
    have h2:=this.mp (h.imp (λx=>⟨x,hr⟩) id)
    exact⟨h2.1,(g h2.1).mpr h2.2⟩
   .rintro⟨h1,h2⟩
    exact (this.mpr ⟨h1,(g h1).mp h2⟩).imp (λx=>x.1) id
  .rw[if_neg hr,ih]
   have:=e (r[p]? = some z)
   constructor
   .intro h
    have h2:=this.mp (.inr h)
    exact⟨h2.1,(g h2.1).mpr h2.2⟩
   .rintro⟨h1,h2⟩
    rcases this.mpr ⟨h1,(g h1).mp h2⟩ with h|h
    .exact absurd h.2 hr
    .exact h
def Wo (rows:List (List Str)) (p:Nat) (z:Str):Nat:=Dj (Dg p z 0 rows)
theorem Yb (rows:List (List Str)) (p:Nat) (z:Str):D6 rows p z=(Wo rows p z:Nat):=al2 _
theorem Yc (rows:List (List Str)) (p:Nat) (z:Str) (k:Nat):(Wo rows p z).testBit k=Tt rows p z k:=by
 unfold Wo Tt
 rw[C1]
 refine decide_eq_decide.mpr ?_
 rw[Wk]
 simp
def Ls (sw:Sw) (e:Str×List Str):Nat:=Dk (e.2.map (Wo (Aj sw) (F8 sw e.1)))
theorem Y7 (sw:Sw) (e:Str×List Str):Iz sw e=(Ls sw e:Nat):=by
 unfold Iz Ls
 rw[<- Ge,aF]
 congr 1
 exact bU λz _=>Yb _ _ _
theorem Y8 (sw:Sw) (e:Str×List Str) (k:Nat):(Ls sw e).testBit k=e.2.any λz=>Tt (Aj sw) (F8 sw e.1) z k:=by
 unfold Ls
 rw[Ep,lS]
 congr 1
 funext z
 exact Yc _ _ _ _
def Qp (sw:Sw):Nat:=2 ^ (Aj sw).length - 1
theorem Qo (sw:Sw):N7 sw=(Qp sw:Nat):=by
 unfold N7 Qp
 rw[Ee]
 have:0<2 ^ (Aj sw).length:=Nat.two_pow_pos _
 omega
theorem Qq (sw:Sw) (k:Nat):(Qp sw).testBit k=decide (k<(Aj sw).length):=by
 unfold Qp
 rw[Nat.testBit_two_pow_sub_one]
def Ft (sw:Sw) (rule:Sw):Nat:=rule.foldl (λc e=>c &&& Ls sw e) (Qp sw)
theorem Qt (sw:Sw):∀ (rule:Sw) (c:Nat),rule.foldl (λc e=>b9 c (Iz sw e)) (c:Int)=((rule.foldl (λc e=>c &&& Ls sw e) c:Nat):Int)
 |[],c=>rfl
 |e::rule,c=>by rw[bY,bY,Y7,Cq,Qt sw rule]
theorem ab2 (sw rule:Sw):ab1 sw rule=(Ft sw rule:Nat):=by
 unfold ab1 Ft
 rw[Qo,Qt]
theorem Qu (sw:Sw):∀ (rule:Sw) (c k:Nat),(rule.foldl (λc e=>c &&& Ls sw e) c).testBit k=(c.testBit k&&rule.all λe=>e.2.any λz=>Tt (Aj sw) (F8 sw e.1) z k)
 |[],c,k=>by simp
 |e::rule,c,k=>by rw[bY,Qu sw rule,cA,Y8,bR,Bool.and_assoc]
theorem ab3 (sw rule:Sw) (k:Nat):(Ft sw rule).testBit k=(decide (k<(Aj sw).length)&&rule.all λe=>e.2.any λz=>Tt (Aj sw) (F8 sw e.1) z k):=by
 unfold Ft
 rw[Qu,Qq]
def Dz (sw:Sw) (rules:List Sw):Nat:=Qp sw - (Qp sw &&& Dk (rules.map (Ft sw)))
theorem Hs (sw:Sw) (rules:List Sw):Kj sw rules=(Dz sw rules:Nat):=by
 unfold Kj Dz Im
 have e:rules.map (ab1 sw)=(rules.map (Ft sw)).map λm:Nat=>(m:Int):=by
  rw[aF]
  exact bU λr _=>ab2 sw r
 rw[e,Ge,Qo,jQ (by omega) (by unfold bI;omega),show bI (bI ((Dk (rules.map (Ft sw)):Nat):Int))=((Dk (rules.map (Ft sw)):Nat):Int) by unfold bI;omega,aU,aU]
 have:=Nat.and_le_left (n:=Qp sw) (m:=Dk (rules.map (Ft sw)))
 omega
theorem Xi (a b:Nat):a - (a &&& b)=a ^^^ (a &&& b):=by
 have h:(a ^^^ (a &&& b)) &&& (a &&& b)=0:=by
  refine dn λk=>?_
  rw[cA,ix,cA,dj]
  cases a.testBit k <;> cases b.testBit k <;> rfl
 have h2:(a ^^^ (a &&& b)) ||| (a &&& b)=a:=by
  refine dn λk=>?_
  rw[fP,ix,cA]
  cases a.testBit k <;> cases b.testBit k <;> rfl
 have h3:(a ^^^ (a &&& b))+(a &&& b)=(a ^^^ (a &&& b)) ||| (a &&& b):=by
  have e:=PyProof.Rows.bitOr_and ((a ^^^ (a &&& b):Nat):Int) ((a &&& b:Nat):Int)
  rw[Fl,Cq,h] at e
  omega
 omega
theorem X1 (sw:Sw) (rules:List Sw) (k:Nat):(Dz sw rules).testBit k=(decide (k<(Aj sw).length) && !rules.any λr=>(Ft sw r).testBit k):=by
 unfold Dz
 rw[Xi,ix,cA,Qq,Ep,lS]
 show (_ ^^ (_&&rules.any λr=>(Ft sw r).testBit k))=_
 cases decide (k<(Aj sw).length) <;> cases rules.any (λr=>(Ft sw r).testBit k) <;> rfl
end Pn
namespace L2
open PySem PySem.Spec PyProof.Rows
section
variable {P:aS} {w:bz} {K:ac} {mg:Str->Option Value} {base:Heap} {x q:Str} {st:Stmt} {f:Addr} {d:a9} {ps:List Str}
def bk1 (K:ac) (x q:Str) (st:Stmt) (f:Addr):Prop:=∃ d,Fun K x q st f d
structure bk5 (K:ac) (q:Str) (st:Stmt) (f:Addr):Prop where
 at_:b_ K mainGlobals q=some (some (.ref f))
 d:bk1 K q q st f
structure MetD (K:ac) (x q:Str) (st:Stmt) (f:Addr):Prop where
 fn:cP K (.ref f)=true
 d:bk1 K x q st f
theorem top_mk {oc:Value} {od an:Option Addr} {osl:Array (Option Value)} {kV doc pm cdv ct:Value} (a:b_ K mainGlobals q=some (some (.ref f))) (l:K.lookup f=some ⟨oc,od,.func (cr q q (Bz st) (A0 st) (Ak st) .none kV doc pm an cdv ct),osl⟩)
  (c:dA K cdv q=true) (k:ba K (.ref f)=true):bk5 K q st f:=⟨a,_,Oo l c k⟩
theorem met_mk {oc:Value} {od an:Option Addr} {osl:Array (Option Value)} {kV doc pm cdv ct:Value} (l:K.lookup f=some ⟨oc,od,.func (cr x q (Bz st) (A0 st) (Ak st) .none kV doc pm an cdv ct),osl⟩)
  (c:dA K cdv q=true) (k:ba K (.ref f)=true) (i:cP K (.ref f)=true):MetD K x q st f:=⟨i,_,Oo l c k⟩
structure DOk (K:ac) (mg:Str->Option Value) (q:Str) (st:Stmt) (f:Addr) (d:a9) (ps:List Str):Prop where
 F:FunD K q q st f d .none
 b:Binds K d ps []
 m:mg q=some (.ref f)
structure MOk (K:ac) (x q:Str) (st:Stmt) (f:Addr) (d:a9) (ps:List Str):Prop where
 F:FunD K x q st f d .none
 b:Binds K d ps []
 i:cP K (.ref f)=true
theorem MetD.ok (D:MetD K x q st f) (hb:∀ (kV doc pm:Value) (an:Option Addr) (cdv ct:Value) (us:List Value),us.length=ps.length->im (cr x q (Bz st) (A0 st) (Ak st) .none kV doc pm an cdv ct) ⟨us,[]⟩=pure (ps.zip us)):∃ d,MOk K x q st f d ps:=by
 obtain⟨a,d,F⟩:=D
 exact⟨d,F.toD,F.binds hb,a⟩
theorem bn8 {i:FI} (h2:i.ds=[]) (b:Binds K i.fd i.ps []):∀ j,j<=i.dfs.length->Binds K i.fd i.ps (i.ds.drop j):=λj _=>by
 rw[h2,List.drop_nil];exact b
theorem MOk.fi {k:Nat} (i:FI) (g:MOk K x q st i.f i.fd i.ps) (ok:FnOk P w K mg base CX0 i.k i.f i.fd i.ps i.sp) (hk:i.k<=k:=by exact aI rfl) (h1:i.dfs=[]:=by rfl) (h2:i.ds=[]:=by rfl):FiIn P w K mg base k i:=
 ⟨g.F.kp,⟨CX0,λX' _ _=>Gz X',ok⟩,hk,bn8 h2 g.b,by rw[h1,h2];exact .nil⟩
theorem one {C:Addr} {i:FI} {m:Str} {k:Nat} (h:MetIn P w K mg base k m ⟨C,i⟩):∀ mi∈[(⟨C,i⟩:MI)],MetIn P w K mg base k m mi:=λmi hm=>by
 rw[dU] at hm
 exact hm▸h
end
structure Df where
 x:Str
 q:Str
 st:Stmt
 N:List Str
 np:Nat
 lv:Nat
def Df.ps (d:Df):List Str:=d.N.take d.np
abbrev Ds (D:Df) (f:Addr) (d:a9) (s:Sp):FI:=⟨f,d,D.ps,D.lv,s,[],[]⟩
noncomputable def ScOk (N P:List Str) (sc:Scope):Prop:=(sc.kind=.function/\sc.isCoroutine=false/\sc.isGenerator=false)/\N.Nodup/\N.take P.length=P/\(∀ x∈P,sc.names.lookup x=some .local\/sc.names.lookup x=some .cell)/\(∀ y∈sc.names,y.2≠.free)/\Ja N sc=true
noncomputable instance (N P:List Str) (sc:Scope):Decidable (ScOk N P sc):=by unfold ScOk;infer_instance
theorem ScOk.fn {N P:List Str} {sc:Scope} (h:ScOk N P sc):B7 N P sc:=⟨h.1.1,h.1.2.1,h.1.2.2,h.2.1,h.2.2.1,h.2.2.2.1,h.2.2.2.2.1⟩
structure Ent where
 lv:Nat
 x:Str
 g:GB
def gbT (es:List Ent) (n:Nat):List (Str×GB):=es.filterMap λe=>if e.lv<=n then some (e.x,e.g) else none
noncomputable def Il (P:aS) (w:bz) (K:ac) (mg:Str->Option Value) (base:Heap) (es:List Ent) (bl:List Str) (n:Nat):Prop:=∀ m,m<n->Tab P w K mg base m (gbT es m) bl
noncomputable def AllE (P:aS) (w:bz) (K:ac) (mg:Str->Option Value) (base:Heap) (es:List Ent) (bl:List Str):List Ent->Prop
 |[]=>True
 |e::r=>(Il P w K mg base es bl e.lv->GBIn P w K mg base e.lv e.x e.g)/\AllE P w K mg base es bl r
section
variable {P:aS} {w:bz} {K:ac} {mg:Str->Option Value} {base:Heap} {es:List Ent} {bl:List Str} {f:Nat->Addr} {d:Nat->a9}
theorem AllE.app:∀ {a b:List Ent},AllE P w K mg base es bl a->AllE P w K mg base es bl b->AllE P w K mg base es bl (a++b)
 |[],_,_,h=>h
 |_::_,_,h,g=>⟨h.1,AllE.app h.2 g⟩
theorem AllE.at_:∀ {a:List Ent} {e:Ent},AllE P w K mg base es bl a->e∈a->Il P w K mg base es bl e.lv->GBIn P w K mg base e.lv e.x e.g
 |[],_,_,he=>by cases he
 | _::_,_,h,he=>by
  rcases List.mem_cons.mp he with rfl|he
  .exact h.1
  .exact AllE.at_ h.2 he
theorem a01 (hz:∀ x∈bl,mg x=none) (h:AllE P w K mg base es bl es) (n:Nat):Tab P w K mg base n (gbT es n) bl:=by
 induction n using Nat.strongRecOn with
 |ind n ih=>
  refine⟨λx g hx=>?_,hz⟩
  obtain⟨e,he,q⟩:=List.mem_filterMap.mp hx
  split at q
  .rename_i hl
   cases q
   exact (h.at_ he λm hm=>ih m (aJ hm hl)).mono hl
  .cases q
noncomputable def OkD (K:ac) (D:Df) (es:List Ent) (bl:List Str) (f:Addr) (d:a9) (s:Sp):Prop:=∀ (P:aS) (w:bz) (mg:Str->Option Value) (base:Heap) (dV:Value),FunD K D.x D.q D.st f d dV->Il P w K mg base es bl D.lv->FnOk P w K mg base CX0 D.lv f d D.ps s
noncomputable def OkG (P:aS) (w:bz) (K:ac) (mg:Str->Option Value) (base:Heap) (D:Df) (es:List Ent) (bl:List Str) (f:Addr) (d:a9) (s:Sp):Prop:=Il P w K mg base es bl D.lv -> ∃ C,(∀ X':Cx,X'.prog=P->X'.w=w->Ka C X')/\FnOk P w K mg base C D.lv f d D.ps s
noncomputable def OkX (K:ac) (D:Df) (es:List Ent) (bl:List Str) (f:Addr) (d:a9) (s:Sp):Prop:=∀ (P:aS) (w:bz) (mg:Str->Option Value) (base:Heap) (dV:Value),FunD K D.x D.q D.st f d dV->Il P w K mg base es bl D.lv->FnOk P w K mg base (CXE P w) D.lv f d D.ps s
theorem okD {D:Df} {f:Addr} {d:a9} {s:Sp} {k n:Nat} {t:DS} (hl:D.lv=k+1) (c:ScOk D.N D.ps (Ak D.st)) (rd:wSs n (Hn K D.N (Ak D.st) (gbT es k) bl) (A0 D.st)=t) (len:∀ vs H Q E,s vs H Q E->vs.length=D.ps.length)
  (body:∀ (vs:List V) (H:Hp) (Q:VK) (E:XK),s vs H Q E->t (ac6 Q λ_ _=>False) (Ch D.N vs) H):OkD K D es bl f d s:=λ_ _ _ _ _ F T=>by
 rw[hl] at T ⊢
 exact F.okW0 c.fn c.2.2.2.2.2 (T k (cg k)) rd len body
theorem okX {D:Df} {f:Addr} {d:a9} {s:Sp} {k n:Nat} {t:DS} (hl:D.lv=k+1) (c:ScOk D.N D.ps (Ak D.st)) (rd:wSs n (Hn K D.N (Ak D.st) (gbT es k) bl) (A0 D.st)=t) (len:∀ vs H Q E,s vs H Q E->vs.length=D.ps.length)
  (body:∀ (vs:List V) (H:Hp) (Q:VK) (E:XK),s vs H Q E->t (a15 Q E) (Ch D.N vs) H):OkX K D es bl f d s:=λ_ _ _ _ _ F T=>by
 rw[hl] at T ⊢
 exact F.okWX c.fn c.2.2.2.2.2 (T k (cg k)) rd len body
def BtD (D:Df) (d:a9):Prop:=∀ (s:aj) (us:List Value),us.length=D.ps.length->lJ s d ⟨us,[]⟩ (D.ps.zip us)
noncomputable def AllG (K:ac) (mg:Str->Option Value) (f:Nat->Addr) (d:Nat->a9):Nat->List Df->Prop
 |_,[]=>True
 |k,D::r=>(DOk K mg D.q D.st (f k) (d k) D.ps/\BtD D (d k))/\AllG K mg f d (k+1) r
theorem AllG.get:∀ {L:List Df} {k:Nat} (j:Nat) {D:Df},AllG K mg f d k L->L[j]? = some D->DOk K mg D.q D.st (f (k+j)) (d (k+j)) D.ps/\BtD D (d (k+j))
 |[],_,_,_,_,e=>by simp at e
 |_::_,_,0,_,h,e=>by cases e;exact h.1
 | _::_,k,j+1,_,h,e=>by
  rw[show k+(j+1)=k+1+j by omega]
  exact AllG.get j h.2 e
def a36 (K:ac):List Df->Prop
 |[]=>True
 |D::r=>(∃ a,bk5 K D.q D.st a)/\a36 K r
noncomputable def Vx (D:Df):Prop:=∀ (kV doc pm:Value) (an:Option Addr) (cdv ct:Value) (us:List Value),us.length=D.ps.length->im (cr D.x D.q (Bz D.st) (A0 D.st) (Ak D.st) .none kV doc pm an cdv ct) ⟨us,[]⟩=pure (D.ps.zip us)
noncomputable def bj9:List Df->Prop
 |[]=>True
 |D::r=>(D.x=D.q/\Vx D)/\bj9 r
theorem AllG.congr {f':Nat->Addr} {d':Nat->a9}:∀ {L:List Df} {k:Nat},(∀ n,k<=n->f' n=f n/\d' n=d n)->AllG K mg f d k L->AllG K mg f' d' k L
 |[],_,_,_=>aR
 |_::_,k,e,h=>⟨by rw[(e k (ai _)).1,(e k (ai _)).2];exact h.1,AllG.congr (λn hn=>e n (by omega)) h.2⟩
theorem V8 {h:Heap} (d₀:a9) (X:K.In h) (G:h.Ns mainGlobals mg):∀ {L:List Df} (k:Nat),a36 K L->bj9 L -> ∃ (f:Nat->Addr) (d:Nat->a9),AllG K mg f d k L
 |[],_,_,_=>⟨λ_=>0,λ_=>d₀,aR⟩
 | D::r,k,⟨⟨a,q⟩,t⟩,⟨⟨e,b⟩,bs⟩=>by
  obtain⟨f,d,g⟩:=V8 d₀ X G (k+1) t bs
  obtain⟨m,d0,F⟩:=q
  have b:=b
  unfold Vx at b
  rw[e] at b
  have g0:DOk K mg D.q D.st a d0 D.ps/\BtD D d0:=⟨⟨F.toD,F.binds b,eV X G m⟩,by
   obtain⟨oc,od,kV,doc,pm,an,cdv,ct,osl,rfl,_⟩:=F.ex
   exact λs us hl=>.of_eq (b _ _ _ _ _ _ us hl)⟩
  refine⟨λn=>if n=k then a else f n,λn=>if n=k then d0 else d n,⟨?_,?_⟩⟩
  .simp only[if_true];exact g0
  .exact AllG.congr (λn hn=>by rw[if_neg (by omega),if_neg (by omega)];exact⟨rfl,rfl⟩) g
theorem AllG.pre:∀ {a b:List Df} {k:Nat},AllG K mg f d k (a++b)->AllG K mg f d k a
 |[],_,_,_=>aR
 |_::_,_,_,h=>⟨h.1,AllG.pre h.2⟩
theorem OkD.g {D:Df} {a:Addr} {fd:a9} {s:Sp} (h:OkD K D es bl a fd s) (g:DOk K mg D.q D.st a fd D.ps) (e:D.x=D.q:=by rfl):OkG P w K mg base D es bl a fd s:=λT=>⟨CX0,λX' _ _=>Gz X',h _ _ _ _ _ (by rw[e];exact g.F) T⟩
theorem OkX.g {D:Df} {a:Addr} {fd:a9} {s:Sp} (h:OkX K D es bl a fd s) (g:DOk K mg D.q D.st a fd D.ps) (e:D.x=D.q:=by rfl):OkG P w K mg base D es bl a fd s:=λT=>⟨CXE P w,λX' e1 e2=>e1▸e2▸ah6 X',h _ _ _ _ _ (by rw[e];exact g.F) T⟩
def fnE (f:Nat->Addr) (d:Nat->a9):Nat->List (Df×Sp)->List Ent
 |_,[]=>[]
 |k,p::r=>⟨p.1.lv,p.1.q,.fn (Ds p.1 (f k) (d k) p.2)⟩::fnE f d (k+1) r
noncomputable def Zf (P:aS) (w:bz) (K:ac) (mg:Str->Option Value) (base:Heap) (es:List Ent) (bl:List Str) (f:Nat->Addr) (d:Nat->a9):Nat->List (Df×Sp)->Prop
 |_,[]=>True
 |k,p::r=>OkG P w K mg base p.1 es bl (f k) (d k) p.2/\Zf P w K mg base es bl f d (k+1) r
theorem V7:∀ {L:List (Df×Sp)} {k:Nat},AllG K mg f d k (L.map (·.1))->Zf P w K mg base es bl f d k L->AllE P w K mg base es bl (fnE f d k L)
 |[],_,_,_=>aR
 |_::_,_,g,o=>⟨λT=>⟨g.1.1.m,g.1.1.F.kp,o.1 T,ai _,bn8 rfl g.1.1.b,.nil⟩,V7 g.2 o.2⟩
noncomputable def AllM (K:ac) (c:Addr) (f:Nat->Addr) (d:Nat->a9):Nat->List Df->Prop
 |_,[]=>True
 |k,D::r=>(MOk K D.x D.q D.st (f k) (d k) D.ps/\Qk K c D.x (f k))/\AllM K c f d (k+1) r
theorem AllM.congr {c:Addr} {f':Nat->Addr} {d':Nat->a9}:∀ {L:List Df} {k:Nat},(∀ n,k<=n->f' n=f n/\d' n=d n)->AllM K c f d k L->AllM K c f' d' k L
 |[],_,_,_=>aR
 |_::_,k,e,h=>⟨by rw[(e k (ai _)).1,(e k (ai _)).2];exact h.1,AllM.congr (λn hn=>e n (by omega)) h.2⟩
def Qj (K:ac) (c:Addr):List Df->Prop
 |[]=>True
 |D::r=>(∃ a,bh K (.ref c) D.x=some (some (.ref a))/\MetD K D.x D.q D.st a)/\Qj K c r
noncomputable def a08:List Df->Prop
 |[]=>True
 |D::r=>Vx D/\a08 r
theorem Jm {c:Addr} (d₀:a9):∀ {L:List Df} (k:Nat),Qj K c L->a08 L -> ∃ (f:Nat->Addr) (d:Nat->a9),AllM K c f d k L
 |[],_,_,_=>⟨λ_=>0,λ_=>d₀,aR⟩
 | D::r,k,⟨⟨a,i,q⟩,t⟩,⟨b,bs⟩=>by
  obtain⟨f,d,g⟩:=Jm d₀ (k+1) t bs
  obtain⟨d0,g0⟩:=q.ok (ps:=D.ps) b
  refine⟨λn=>if n=k then a else f n,λn=>if n=k then d0 else d n,⟨?_,?_⟩⟩
  .simp only[if_true];exact⟨g0,i,g0.i,g0.F.kp⟩
  .exact AllM.congr (λn hn=>by rw[if_neg (by omega),if_neg (by omega)];exact⟨rfl,rfl⟩) g
noncomputable def AllC (mg:Str->Option Value) (u:Nat->Value):Nat->List (Str×V)->Prop
 |_,[]=>True
 |k,c::r=>(mg c.1=some (u k)/\RelV c.2 (u k))/\AllC mg u (k+1) r
theorem AllC.congr {u u':Nat->Value}:∀ {L:List (Str×V)} {k:Nat},(∀ n,k<=n->u' n=u n)->AllC mg u k L->AllC mg u' k L
 |[],_,_,_=>aR
 |_::_,k,e,h=>⟨by rw[e k (ai _)];exact h.1,AllC.congr (λn hn=>e n (by omega)) h.2⟩
noncomputable def Zh (K:ac):List (Str×V)->Prop
 |[]=>True
 |(x,v)::r=>(∃ u,b_ K mainGlobals x=some (some u)/\RelV v u)/\Zh K r
theorem con_mk {x:Str} {v:V} {u:Value} (a:b_ K mainGlobals x=some (some u)) (r:RelV v u):∃ u,b_ K mainGlobals x=some (some u)/\RelV v u:=⟨u,a,r⟩
theorem V6 {h:Heap} (X:K.In h) (G:h.Ns mainGlobals mg):∀ {L:List (Str×V)} (k:Nat),Zh K L -> ∃ u:Nat->Value,AllC mg u k L
 |[],_,_=>⟨λ_=>.none,aR⟩
 | c::r,k,⟨⟨v,i,q⟩,t⟩=>by
  obtain⟨u,g⟩:=V6 X G (k+1) t
  refine⟨λn=>if n=k then v else u n,⟨?_,?_⟩⟩
  .simp only[if_true];exact⟨eV X G i,q⟩
  .exact AllC.congr (λn hn=>if_neg (by omega)) g
def a59 (u:Nat->Value):Nat->List (Str×V)->List Ent
 |_,[]=>[]
 |k,c::r=>⟨0,c.1,.val c.2 (u k)⟩::a59 u (k+1) r
theorem Qn {u:Nat->Value}:∀ {L:List (Str×V)} {k:Nat},AllC mg u k L->AllE P w K mg base es bl (a59 u k L)
 |[],_,_=>aR
 |_::_,_,h=>⟨λ_=>h.1,Qn h.2⟩
def a37 (K:ac):List Str->Prop
 |[]=>True
 |x::r=>b_ K mainGlobals x=some none/\a37 K r
theorem V9 {h:Heap} (X:K.In h) (G:h.Ns mainGlobals mg):∀ {L:List Str},a37 K L -> ∀ x∈L,mg x=none
 |[],_,_,hx=>by cases hx
 | _::_,z,x,hx=>by
  rcases List.mem_cons.mp hx with rfl|hx
  .exact PySem.W.mg_none_of X G z.1
  .exact V9 X G z.2 x hx
structure Qm (K:ac) (x:Str) (c f:Addr):Prop where
 a:b_ K mainGlobals x=some (some (.ref c))
 i:bh K (.ref c) "__init__" = some (some (.ref f))
 kp:ba K (.ref c)=true
 mm:dI K c=true
 cl:Cls K c
theorem own_mk {x:Str} {c f:Addr} (a:b_ K mainGlobals x=some (some (.ref c))) (i:bh K (.ref c) "__init__" = some (some (.ref f))) (k:ba K (.ref c)=true) (m:dI K c=true) (pg:fU K c eh=true) (hd:gT K c=true) (po:jc K c=true) (sa:bh K (.ref c) "__setattr__" = some (some (.builtin "object.__setattr__"))):Qm K x c f:=⟨a,i,k,m,⟨pg,hd,po,sa⟩⟩
structure Gi (K:ac) (D:Df) (f:Addr) (d:a9) (vs:List V) (us:List Value):Prop where
 F:∃ dV,FunD K D.x D.q D.st f d dV
 b:∀ j,j<=vs.length->Binds K d D.ps (us.drop j)
 w:Vals vs us
 i:cP K (.ref f)=true
theorem ini0 {D:Df} {f:Addr} {oc:Value} {od an:Option Addr} {osl:Array (Option Value)} {kV doc pm cdv ct:Value} (b:Vx D) (l:K.lookup f=some ⟨oc,od,.func (cr D.x D.q (Bz D.st) (A0 D.st) (Ak D.st) .none kV doc pm an cdv ct),osl⟩) (c:dA K cdv D.q=true) (k:ba K (.ref f)=true) (i:cP K (.ref f)=true):∃ d,Gi K D f d [] []:=
 ⟨_,⟨_,(Oo l c k).toD⟩,λj _=>by rw[List.drop_nil];exact (Oo l c k).binds b,.nil,i⟩
noncomputable def a09 (D:Df) (ds:List Value):Prop:=∀ (T:Addr) (kV doc pm:Value) (an:Option Addr) (cdv ct:Value) (us:List Value),us.length+ds.length=D.ps.length -> ∃ k:Option (Array Value)->Sem (List (Str×Value)),im (cr D.x D.q (Bz D.st) (A0 D.st) (Ak D.st) (.ref T) kV doc pm an cdv ct) ⟨us,[]⟩=seqItems? (.ref T) >>= k/\k (some #[.none])=pure (D.ps.zip (us++ds))
theorem ini1 {D:Df} {f T:Addr} {oc tc:Value} {od an td:Option Addr} {osl ts:Array (Option Value)} {tn:Nat} {kV doc pm cdv ct:Value} (b0:a09 D []) (b1:a09 D [.none]) (hm:0<D.np/\D.np<=D.N.length) (l:K.lookup f=some ⟨oc,od,.func (cr D.x D.q (Bz D.st) (A0 D.st) (Ak D.st) (.ref T) kV doc pm an cdv ct),osl⟩) (c:dA K cdv D.q=true) (k:ba K (.ref f)=true) (i:cP K (.ref f)=true) (ld:K.lookup T=some ⟨tc,td,.seq #[.none] tn,ts⟩):∃ d,Gi K D f d [.non] [.none]:=by
 have hl:D.ps.length=D.np:=by unfold Df.ps;rw[aK];omega
 refine⟨_,⟨_,as9 l c k⟩,λj hj=>?_,.cons rfl .nil,i⟩
 match j,hj with
 |0,_=>exact Io (D.np - 1) rfl ld rfl (by rw[hl,List.drop_zero,cY];omega) λus e=>b1 T _ _ _ _ _ _ us (by rw[hl,cY];omega)
 |1,_=>exact Io D.np rfl ld rfl (by rw[hl];rfl) λus e=>b0 T _ _ _ _ _ _ us (by rw[hl];exact e)
theorem Th {x:Str} {c:Addr} {D:Df} {f:Addr} {d:a9} {vs:List V} {us:List Value} {s:Sp} {h:Heap} (X:K.In h) (G:h.Ns mainGlobals mg) (o:Qm K x c f) (i:Gi K D f d vs us) (ok:OkD K D es bl f d s) (T:Il P w K mg base es bl (D.lv+1)):ClsIn P w K mg base (D.lv+1) x c (some ⟨f,d,D.ps,D.lv,s,vs,us⟩):=
 let ⟨_,F⟩:=i.F
 ⟨eV X G o.a,o.kp,o.mm,o.i,i.i,⟨F.kp,⟨CX0,λX' _ _=>Gz X',ok _ _ _ _ _ F λm h=>T m (d_ h)⟩,df _,i.b,i.w⟩,ai _⟩
noncomputable def af4 (c:Addr) (f:Nat->Addr) (d:Nat->a9):Nat->List (Df×Sp)->List Ent
 |_,[]=>[]
 |k,p::r=>⟨p.1.lv, "", .met p.1.x [⟨c,Ds p.1 (f k) (d k) p.2⟩]⟩::af4 c f d (k+1) r
noncomputable def Zg (K:ac) (es:List Ent) (bl:List Str) (f:Nat->Addr) (d:Nat->a9):Nat->List (Df×Sp)->Prop
 |_,[]=>True
 |k,p::r=>OkD K p.1 es bl (f k) (d k) p.2/\Zg K es bl f d (k+1) r
theorem a86 {c a:Addr} {e:a9} {D:Df} {s:Sp} {n:Nat} (cl:Cls K c) (g:MOk K D.x D.q D.st a e D.ps/\Qk K c D.x a) (ok:OkD K D es bl a e s) (h:D.lv<=n) (T:Il P w K mg base es bl n):MetIn P w K mg base n D.x ⟨c,Ds D a e s⟩:=⟨cl,g.2,g.1.fi (Ds D a e s) (ok _ _ _ _ _ g.1.F λm q=>T m (aJ q h)) h⟩
theorem Gj {c:Addr} (cl:Cls K c):∀ {L:List (Df×Sp)} {k:Nat},AllM K c f d k (L.map (·.1))->Zg K es bl f d k L->AllE P w K mg base es bl (af4 c f d k L)
 |[],_,_,_=>aR
 |_::_,_,g,o=>⟨λT=>one (a86 cl g.1 o.1 (ai _) T),Gj cl g.2 o.2⟩
theorem bj4 {x:Str} {c:Addr} {n:Nat} {h:Heap} (X:K.In h) (G:h.Ns mainGlobals mg) (a:b_ K mainGlobals x=some (some (.ref c))):GBIn P w K mg base n x (.val (.ref c) (.ref c)):=⟨eV X G a,rfl⟩
def AllN (K:ac) (c:Addr):List Str->Prop
 |[]=>True
 |x::r=>bh K (.ref c) x=some none/\AllN K c r
theorem AllN.all {c:Addr}:∀ {L:List Str},AllN K c L -> ∀ x∈L,NoAttr K c x
 |[],_,_,hx=>by cases hx
 | _::_,z,x,hx=>by
  rcases List.mem_cons.mp hx with rfl|hx
  .exact z.1
  .exact AllN.all z.2 x hx
structure aa0 (K:ac) (x:Str) (c f:Addr) (bm:List Value):Prop where
 a:b_ K mainGlobals x=some (some (.ref c))
 i:bh K (.ref c) "__init__" = some (some (.ref f))
 kp:ba K (.ref c)=true
 x:XC K c bm
theorem ad1 {x:Str} {c:Addr} {bm:List Value} {D:Df} {f:Addr} {d:a9} {vs:List V} {us:List Value} {s:Sp} {h:Heap} (X:K.In h) (G:h.Ns mainGlobals mg) (o:aa0 K x c f bm) (e:ECls K c) (i:Gi K D f d vs us) (ok:OkD K D es bl f d s) (T:Il P w K mg base es bl (D.lv+1)):ExcIn P w K mg base (D.lv+1) x c (some ⟨f,d,D.ps,D.lv,s,vs,us⟩):=
 let ⟨_,F⟩:=i.F
 ⟨eV X G o.a,o.kp,e,o.i,i.i,F.kp,⟨CX0,λX' _ _=>Gz X',ok _ _ _ _ _ F λm h=>T m (d_ h)⟩,ai _,i.b,i.w⟩
end
section
variable {P:List Value->Prop}
@[elab_as_elim] theorem len1 (h:∀ a,P [a]):∀ us:List Value,us.length=1->P us
 |[a],_=>h a
@[elab_as_elim] theorem len2 (h:∀ a b,P [a,b]):∀ us:List Value,us.length=2->P us
 |[a,b],_=>h a b
@[elab_as_elim] theorem len3 (h:∀ a b c,P [a,b,c]):∀ us:List Value,us.length=3->P us
 |[a,b,c],_=>h a b c
@[elab_as_elim] theorem len4 (h:∀ a b c d,P [a,b,c,d]):∀ us:List Value,us.length=4->P us
 |[a,b,c,d],_=>h a b c d
@[elab_as_elim] theorem at6 (h:∀ a b c d e f,P [a,b,c,d,e,f]):∀ us:List Value,us.length=6->P us
 |[a,b,c,d,e,f],_=>h a b c d e f
end
end L2
namespace K53
open PySem L2
set_option genInjectivity false in
set_option genSizeOfSpec false in
structure Adr where
 f:Nat->Addr
 d:Nat->a9
 u:Nat->Value
 f_zac:Addr
 d_zac:a9
 f_zah:Addr
 d_zah:a9
 f_zz:Addr
 d_zz:a9
 f_zu:Addr
 d_zu:a9
 f_zj:Addr
 d_zj:a9
 c_zbu:Addr
 m_zbu:Nat->Addr
 e_zbu:Nat->a9
 c_zbv:Addr
 m_zbv:Nat->Addr
 e_zbv:Nat->a9
 c_zbt:Addr
 m_zbt:Nat->Addr
 e_zbt:Nat->a9
 c_zbq:Addr
 c_zbs:Addr
 c_zbp:Addr
 c_zbr:Addr
end K53
namespace K53
open PySem L2 Pn
structure a51 (K:ac) (C:Addr):Prop where
 cl:Cls K C
 na:∀ f∈(["settings", "tuples", "numbers", "sets", "kept_rules", "bars", "free"]:List Str),NoAttr K C f
def Kv (K:ac) (f:Addr):Bool:=match K.lookup f with
 | some ⟨_,_,.func fn,_⟩=>(match fn.code with
  |.ref c=>dP K c 317
  |_=>false)
 |_=>false
structure An (K:ac) (t:Adr):Prop where
 pf:a51 K t.c_zbt
 pc:Cls K t.c_zbu
 pr:NoAttr K t.c_zbu "records"
 bc:Cls K t.c_zbv
 bp:NoAttr K t.c_zbv "panel"
 bk:NoAttr K t.c_zbv "kept"
 ec:ECls K t.c_zbr
 n1:NoAttr K t.c_zbr "part"
 n2:NoAttr K t.c_zbr "choice"
 eu:ECls K t.c_zbs
 u1:NoAttr K t.c_zbs "part"
 u2:NoAttr K t.c_zbs "one"
 u3:NoAttr K t.c_zbs "other"
 me:du K t.c_zbr (.ref t.c_zbr)=some true
 m2:du K t.c_zbs (.ref t.c_zbr)=some false
 m3:du K t.c_zbs (.ref t.c_zbq)=some true
 k1:d6 K (.ref t.c_zbs) (.ref t.c_zbs)=some true
 k2:d6 K (.ref t.c_zbs) (.ref t.c_zbp)=some false
 lam:Kv K (t.f 17)=true
def Cc (ns:List Int) (k:Nat):Int:=ns.getD k 0
noncomputable def Bo (c k:Int):Int:=
 if c % 2=0/\c / 2 ^ (27 * k+1).toNat≠0/\c / 2 ^ (27 * k+1).toNat ≠ -1 then b9 (c / 2 ^ (27 * k+1).toNat) 134217727
 else
  let n:=(c+7919 * k) * 48271 % 2147483647
  let m:=n * n % 2147483629
  m * (m+3) % 2147483587 / 32
def okB (sw rule:Sw):Prop:=(rule.map (·.1)).Nodup /\ ∀ e∈rule,Ia sw e
abbrev nO (l:List Nat):HO:=.lst (l.map λn:Nat=>V.int (n:Int))
def Ma:List Nat->Nat->List Nat
 |[],_=>[]
 |s::r,n=>Ma r (n / s)++[n % s]
def Oj (sw:Sw) (n:Nat):List Nat:=Ma (sw.map (·.2.length)).reverse n
def Hk (sw:Sw) (rules:List Sw) (n:Nat):Bool:=rules.any λr=>(Ft sw r).testBit n
def As (sw:Sw) (rules:List Sw):List Nat:=(ay (Aj sw).length).filter λn=>!Hk sw rules n
def a06 (sg:Str) (lo:Nat) (ws:List Str):Prop:=ws.Nodup /\ ∀ z∈ws,1<=z.length/\z.length<=lo /\ ∀ c∈z.cps.toList,c∈sg.cps.toList
structure Rc where
 k:Str
 p:Str
 r:Int
 c:TK
def rcT (x:Rc):TK:=.tup [.at_ (.inr x.k),.at_ (.inr x.p),.at_ (.inl x.r),x.c]
abbrev Tr:=List (Str×Rc)
def RcAt (H:Hp) (a:Addr) (x:Rc):Prop:=∃ v,H a=some (.tup [.str x.k,.str x.p,.int x.r,v])/\TkAt H x.c v
def Cl (T:Tr):Prop:=(T.map (·.1)).Nodup/\T.length<=8 /\ ∀ x∈T,Ap x.2.c<=2
abbrev kT (e:(Str×Rc)×Addr):Key×V:=(.inr e.1.1,.ref e.2)
noncomputable def TrAt (ok:Addr->Prop) (H:Hp) (d:Addr) (T:Tr):Prop:=∃ es:List ((Str×Rc)×Addr),es.map (·.1)=T/\Own ok H d (.dK (es.map kT)) /\ ∀ e∈es,RcAt H e.2 e.1.2
noncomputable def PlAt (C:Addr) (ok:Addr->Prop) (H:Hp) (p:Addr) (T:Tr):Prop:=∃ dx d,Own ok H p (.ins C dx [("records", .ref d)])/\TrAt ok H d T
def Ur (T:Tr) (n:Str):TK:=((T.lookup n).map rcT).getD (.tup [])
def vkT (T:Tr):TK:=.tup ((C7 ltS (T.map (·.1))).map λn=>.tup [.at_ (.inr n),Ur T n])
abbrev Gp:=TK×Nat×Nat
noncomputable def G0 (gs:List Gp) (k:TK) (n:Nat):List Gp:=if k∈gs.map (·.1) then gs.map λg=>if g.1=k then (g.1,g.2.1,g.2.2 ||| 2 ^ n) else g else gs++[(k,n,2 ^ n)]
noncomputable def Cb (f:Nat->TK) (ns:List Nat):List Gp:=ns.foldl (λgs n=>G0 gs (f n) n) []
structure WorldAt (H:Hp) (W:Addr) (sw:Sw) (rules:List Sw) (l k f:Addr):Prop where
 at_:H W=some (.lst [.ref l,.ref k,.ref f])
 sws:SwIn any H l sw
 ok:okSw sw
 rl:RulesAt any H k rules
 rok:∀ r∈rules,Em sw r
 few:rules.length<=8
 fr:H f=some (nO (As sw rules))
 ne:As sw rules≠[]
abbrev kF (g:Nat->Addr) (n:Nat):Key×V:=(.inl (n:Int),.ref (g n))
structure FoundAt (H:Hp) (F:Addr) (ns:List Nat) (g:Nat->Addr) (tr:Nat->Tr):Prop where
 at_:H F=some (.dK (ns.map (kF g)))
 one:∀ n∈ns,TrAt any H (g n) (tr n)/\Cl (tr n)
 few:∃ Ts:List Tr,Ts.length<=4 /\ ∀ n∈ns,tr n∈Ts
structure a11 (C:Addr) (H:Hp) (l:Addr) (ns:List Nat) (tr:Nat->Tr) (rs:List (Nat×Addr×Addr)):Prop where
 nms:rs.map (·.1)=ns
 at_:H l=some (.lst (rs.map λr=>.ref r.2.1))
 one:∀ r∈rs,H r.2.1=some (.tup [.int ((2 ^ r.1:Nat):Int),.ref r.2.2])/\PlAt C any H r.2.2 (tr r.1)
def stT (T:Tr) (n:Str):Option TK:=(T.lookup n).map rcT
def StAt (H:Hp):Option TK->V->Prop
 |none,v=>v=.non
 |some x,v=>(∃ a,v=.ref a)/\TkAt H x v
noncomputable def aa3 (C:Addr) (H:Hp) (l:Addr) (rs:List ((Nat×Tr)×Addr×Addr)):Prop:=H l=some (.lst (rs.map λr=>.ref r.2.2)) /\ ∀ r∈rs,H r.2.2=some (.tup [.int (r.1.1:Int),.ref r.2.1])/\PlAt C any H r.2.1 r.1.2/\Cl r.1.2
noncomputable def a10 (C:Addr) (H:Hp) (D:Addr) (gs:List Gp):Prop:=∃ es:List ((Gp×Tr)×Addr×Addr),es.map (·.1.1)=gs/\H D=some (.lst (es.map λe=>.ref e.2.2)) /\ ∀ e∈es,H e.2.2=some (.tup [.int (e.1.1.2.2:Int),.ref e.2.1])/\PlAt C any H e.2.1 e.1.2/\Cl e.1.2/\vkT e.1.2=e.1.1.1
noncomputable def BookAt (t:Adr) (H:Hp) (b:Addr) (sw:Sw) (rules:List Sw) (gs:List Gp):Prop:=∃ dx p l,H b=some (.ins t.c_zbv dx [("panel", .ref p),("kept", .ref l)])/\PanelAt t.c_zbt any H p sw rules/\a10 t.c_zbu H l gs
def ad9 (k:TK) (n:Str):Prop:=∃ T,Cl T/\vkT T=k/\(stT T n).isSome=true
structure Bk (ns:List Nat) (tr:Nat->Tr) (gs:List Gp):Prop where
 ge:gs=Cb (λn=>vkT (tr n)) ns
 asc:ns.Pairwise (· < ·)
 ok:∀ n∈ns,Cl (tr n)/\n<256
 few:gs.length<=4
structure Seen (ns:List Nat) (tr:Nat->Tr) (gs:List Gp) (Ws:List Nat) (M:Nat):Prop extends Bk ns tr gs where
 sub:Ws.Sublist ns
 ne:Ws≠[]
 bit:∀ n,M.testBit n=decide (n∈Ws)
noncomputable def Sk (tr:Nat->Tr) (Ws:List Nat) (z:Str):Option Nat:=Ws.find? λn=>decide (stT (tr n) z≠stT (tr (Ws.headD 0)) z)
def by8:Option Nat->V
 |none=>.non
 |some n=>.int (n:Int)
def hvF (ns:List Nat) (tr:Nat->Tr) (M:Nat) (n:Str):List Nat:=ns.filter λj=>M.testBit j&&(stT (tr j) n).isSome
noncomputable def alF (ns:List Nat) (tr:Nat->Tr) (n:Str) (x:Nat):List Nat:=ns.filter λj=>decide (stT (tr j) n=stT (tr x) n)
inductive Td where
 |no
 |un (a b:Nat)
 |al (c:Nat)
noncomputable def tdF (ns:List Nat) (tr:Nat->Tr) (M:Nat) (n:Str):Td:=match hvF ns tr M n with
 |[]=>.no
 | x::r=>match Sk tr (x::r) n with
  |some o=>.un x o
  |none=>.al (Dj (alF ns tr n x))
def tdL (n:Str):Td->List V
 |.no=>[.str "no part", .str n,.non]
 |.un a b=>[.str "unlike", .str n,.int (a:Int),.int (b:Int)]
 |.al _=>[]
def TdAt (H:Hp) (n:Str):Td->V->Prop
 |.al c,v=>v=.int (c:Int)
 |x,v=>∃ a,v=.ref a/\H a=some (.tup (tdL n x))
noncomputable def FxAt (C:Addr) (H:Hp) (a:Addr) (fs:List (Str×V)):Prop:=∃ dx,dx≠a/\H a=some (flO a C (some dx))/\H dx=some (xdO dx fs)
noncomputable def Bad (C:Addr) (fs:List (Str×V)) (H:Hp) (E:XK):Prop:=∀ H' a,Same H H'->FxAt C H' a fs->E (.ref a) none H'
abbrev St0 (H:Hp):Prop:=aa4 H 317 4
section
noncomputable def Vl (K:ac) (t:Adr):Sp:=λvs H Q _=>∃ (a:Addr) (ns:List Nat),vs=[.ref a]/\SqL K H a (ns.map λn:Nat=>V.int (n:Int))/\(∀ n∈ns,n<=1000)/\Q (.int (Y0 ns)) H
noncomputable def Gb (K:ac) (t:Adr):Sp:=λvs H Q _=>∃ (a:Addr) (ms:List Int),vs=[.ref a]/\SqL K H a (ms.map V.int)/\Q (.int (Gd ms)) H
noncomputable def U0 (K:ac) (t:Adr):Sp:=λvs H Q _=>∃ (z:Str) (lo hi:Int),vs=[.str z,.int lo,.int hi]/\z.length<=1000/\Q (.bl (decide (lo<=(z.length:Int))&&decide ((z.length:Int)<=hi))) H
noncomputable def U6 (K:ac) (t:Adr):Sp:=λvs H Q _=>∃ c,vs=[.str ⟨#[c]⟩]/\Q (.bl (J2 c)) H
noncomputable def Px (K:ac) (t:Adr):Sp:=λvs H Q _=>∃ z,vs=[.str z]/\okW z /\ ∀ H',Same H H'->Q (.bl true) H'
noncomputable def Xf (K:ac) (t:Adr):Sp:=λvs H Q _=>∃ (a:Addr) (l:List Str),vs=[.ref a]/\SqL K H a (l.map V.str)/\okL l /\ ∀ H',Same H H'->Q (.bl true) H'
noncomputable def U7 (K:ac) (t:Adr):Sp:=λvs H Q _=>∃ (a b:Addr) (w:Str) (l:List Str),vs=[.ref a]/\H a=some (.tup [.str w,.ref b])/\H b=some (Be l)/\okW w/\Fx l /\ ∀ H',Same H H'->Q (.bl true) H'
noncomputable def am7 (K:ac) (t:Adr):Sp:=λvs H Q _=>∃ (a:Addr) (sw:Sw),vs=[.ref a]/\SwIn any H a sw/\okSw sw /\ ∀ H' d,Same H H'->SwAt (fresh H) H' d sw->Q (.ref d) H'
noncomputable def al9 (K:ac) (t:Adr):Sp:=λvs H Q _=>∃ (d:Addr) (sw:Sw),vs=[.ref d]/\SwAt any H d sw/\okSw sw /\ ∀ H' l,Same H H'->TupsAt (fresh H) H' l (Aj sw)->Q (.ref l) H'
noncomputable def al6 (K:ac) (t:Adr):Sp:=λvs H Q _=>∃ (l:Addr) (rows:List (List Str)),vs=[.ref l]/\TupsAt any H l rows/\rows.Nodup/\rows.length<=256 /\ ∀ H' n,Same H H'->NumAt (fresh H) H' n rows->Q (.ref n) H'
noncomputable def am2 (K:ac) (t:Adr):Sp:=λvs H Q _=>∃ (d l:Addr) (sw:Sw),vs=[.ref d,.ref l]/\SwAt any H d sw/\TupsAt any H l (Aj sw)/\okSw sw /\ ∀ H' s,Same H H'->SetsAt (fresh H) H' s sw->Q (.ref s) H'
noncomputable def an5 (K:ac) (t:Adr):Sp:=λvs H Q _=>∃ (r:Addr) (rule:Sw),vs=[.ref r]/\RuleAt any H r rule/\(rule.map (·.1)).Nodup/\rule.length<=100 /\ ∀ H' c,Same H H'->RuleAt (fresh H) H' c rule->Q (.ref c) H'
noncomputable def Uy (K:ac) (t:Adr):Sp:=λvs H Q _=>∃ (p l s:Addr) (sw:Sw),vs=[.ref p]/\SelfAt t.c_zbt any H p l s/\TupsAt any H l (Aj sw)/\Q (.int (Aj sw).length) H
noncomputable def am0 (K:ac) (t:Adr):Sp:=λvs H Q _=>∃ (p l s:Addr) (sw:Sw),vs=[.ref p]/\SelfAt t.c_zbt any H p l s/\TupsAt any H l (Aj sw)/\(Aj sw).length<=256/\Q (.int (N7 sw)) H
noncomputable def Uz (K:ac) (t:Adr):Sp:=λvs H Q _=>∃ (p a l s:Addr) (w:Str) (ss:List Str) (sw:Sw),vs=[.ref p,.str w,.ref a]/\SelfAt t.c_zbt any H p l s/\SetsAt any H s sw/\okSw sw/\H a=some (Be ss)/\Ia sw (w,ss) /\ ∀ H',Same H H'->Q (.int (Iz sw (w,ss))) H'
noncomputable def am3 (K:ac) (t:Adr):Sp:=λvs H Q _=>∃ (p r l s:Addr) (sw rule:Sw),vs=[.ref p,.ref r]/\SelfAt t.c_zbt (· ≠ r) H p l s/\TupsAt (· ≠ r) H l (Aj sw)/\SetsAt (· ≠ r) H s sw/\okSw sw/\RuleAt any H r rule/\Em sw rule /\ ∀ H' c,Same H H'->RuleAt (fresh H) H' c rule->Q (.ref c) H'
noncomputable def N4 (ok:Addr->Prop) (H:Hp) (v:V) (rules:List Sw):Prop:=(v=.non/\rules=[]) \/ ∃ k,v=.ref k/\RulesAt ok H k rules
noncomputable def am1 (K:ac) (t:Adr):Sp:=λvs H Q _=>∃ (p l s:Addr) (ok:Addr->Prop) (v:V) (sw:Sw) (rules:List Sw),vs=[.ref p,v]/\SelfAt t.c_zbt ok H p l s/\TupsAt ok H l (Aj sw)/\SetsAt ok H s sw/\okSw sw /\
 N4 (λa=>¬ ok a) H v rules/\(∀ r∈rules,Em sw r)/\rules.length<=8 /\ ∀ H' k,Same H H'->RulesAt (fresh H) H' k rules->Q (.ref k) H'
noncomputable def a32 (K:ac) (t:Adr):Sp:=λvs H Q _=>∃ (p a dx:Addr) (v:V) (sw:Sw) (rules:List Sw),vs=[.ref p,.ref a,v]/\H p=some (.ins t.c_zbt dx [])/\SwIn (· ≠ p) H a sw/\okSw sw/\N4 (· ≠ p) H v rules/\(∀ r∈rules,Em sw r)/\rules.length<=8/\Kj sw rules≠0 /\
 ∀ H',(∀ b o,b≠p->H b=some o->H' b=some o)->PanelAt t.c_zbt (λb=>b=p\/H b=none) H' p sw rules->Q .non H'
noncomputable def U3 (K:ac) (t:Adr):Sp:=λvs H Q _=>∃ (p r l s:Addr) (sw rule:Sw),vs=[.ref p,.ref r]/\SelfAt t.c_zbt (· ≠ r) H p l s/\TupsAt (· ≠ r) H l (Aj sw)/\SetsAt (· ≠ r) H s sw/\okSw sw/\RuleAt any H r rule/\okB sw rule /\ ∀ H',Same H H'->Q (.int (ab1 sw rule)) H'
def am6 (K:ac) (t:Adr):Sp:=λvs H Q _=>∃ (p:Addr) (sw:Sw) (rules:List Sw),vs=[.ref p]/\PanelAt t.c_zbt any H p sw rules/\Q (.int (Kj sw rules)) H
noncomputable def al7 (K:ac) (t:Adr):Sp:=λvs H Q _=>∃ p dx,vs=[.ref p]/\H p=some (.ins t.c_zbu dx []) /\ ∀ d,H d=none->d≠p->Q .non (upd (upd H d (.dK [])) p (.ins t.c_zbu dx [("records", .ref d)]))
noncomputable def U5 (K:ac) (t:Adr):Sp:=λvs H Q _=>∃ (p dx d:Addr) (kvs:List (Key×V)) (n k q:Str) (r:Int) (v:V),vs=[.ref p,.str n,.str k,.str q,.int r,v]/\H p=some (.ins t.c_zbu dx [("records", .ref d)])/\H d=some (.dK kvs)/\kvs.length<=8 /\ ∀ a,H a=none->Q .non (upd (upd H a (.tup [.str k,.str q,.int r,v])) d (.dK (C4 kvs (.inr n) (.ref a))))
noncomputable def an3 (K:ac) (t:Adr):Sp:=λvs H Q _=>∃ (p:Addr) (T:Tr),vs=[.ref p]/\PlAt t.c_zbu any H p T/\Cl T /\ ∀ l,H l=none->Q (.ref l) (upd H l (Be (C7 ltS (T.map (·.1)))))
noncomputable def am9 (K:ac) (t:Adr):Sp:=λvs H Q _=>∃ (p:Addr) (T:Tr),vs=[.ref p]/\PlAt t.c_zbu any H p T /\ ∀ H' q,Same H H'->PlAt t.c_zbu any H' q T->Q (.ref q) H'
noncomputable def am4 (K:ac) (t:Adr):Sp:=λvs H Q _=>∃ (p:Addr) (T:Tr),vs=[.ref p]/\PlAt t.c_zbu any H p T/\Cl T /\ ∀ H' b,Same H H'->TkAt H' (vkT T) (.ref b)->Q (.ref b) H'
noncomputable def Py (K:ac) (t:Adr):Sp:=λvs H Q _=>∃ c n:Nat,vs=[.int (c:Int),.int (n:Int)]/\Q (.bl (c.testBit n)) H
def Ty (c:Nat):Option Nat->Prop
 |some n=>c.testBit n=true /\ ∀ j,j<n->c.testBit j=false
 |none=>c=0
def R5 (K:ac) (t:Adr):Sp:=λvs H Q _=>∃ (c:Nat) (o:Option Nat),vs=[.int (c:Int)]/\Ty c o/\c<2 ^ 1000/\Q (by8 o) H
noncomputable def Ve (K:ac) (t:Adr):Sp:=λvs H Q _=>∃ (b:Addr) (es:List (Gp×V×Addr)),vs=[.ref b]/\St0 H/\H b=some (.lst (es.map λe=>.ref e.2.2))/\es.length<64/\(es.map (·.1.2.1)).Pairwise (· < ·)/\(∀ e∈es,H e.2.2=some (.tup [.int (e.1.2.2:Int),e.2.1])/\e.1.2.2.testBit e.1.2.1=true/\(∀ j,j<e.1.2.1->e.1.2.2.testBit j=false)/\e.1.2.2<2 ^ 1000) /\ ∀ H' D,Ql 317 H H'->H' D=some (.lst (es.map λe=>.ref e.2.2))->Q (.ref D) H'
noncomputable def U8 (K:ac) (t:Adr):Sp:=λvs H Q _=>∃ (A:Nat) (l:Addr) (ns:List Nat) (tr:Nat->Tr) (rs:List (Nat×Addr×Addr)),vs=[.int (A:Int),.ref l]/\St0 H/\a11 t.c_zbu H l ns tr rs/\(∀ n∈ns,Cl (tr n)/\A.testBit n=true/\n<256)/\ns.Pairwise (· < ·)/\(∃ Ts:List Tr,Ts.length<=4 /\ ∀ n∈ns,tr n∈Ts) /\ ∀ H' D,Ql 317 H H'->a10 t.c_zbu H' D (Cb (λn=>vkT (tr n)) ns)->Q (.ref D) H'
noncomputable def al8 (K:ac) (t:Adr):Sp:=λvs H Q _=>∃ (b p dx:Addr) (sw:Sw) (rules:List Sw),vs=[.ref b,.ref p]/\H b=some (.ins t.c_zbv dx [])/\PanelAt t.c_zbt (· ≠ b) H p sw rules /\ ∀ H' l,(∀ a o,a≠b->H a=some o->H' a=some o)->H' b=some (.ins t.c_zbv dx [("panel", .ref p),("kept", .ref l)])->Q .non H'
noncomputable def Vd (K:ac) (t:Adr):Sp:=λvs H Q _=>∃ (p l:Addr) (sw:Sw) (rules:List Sw) (ns:List Nat) (tr:Nat->Tr) (rs:List (Nat×Addr×Addr)),vs=[.ref p,.ref l]/\St0 H/\PanelAt t.c_zbt (· ≠ 317) H p sw rules/\a11 t.c_zbu H l ns tr rs/\(∀ n∈ns,Cl (tr n)/\(Dz sw rules).testBit n=true/\n<256)/\ns.Pairwise (· < ·)/\(∃ Ts:List Tr,Ts.length<=4 /\ ∀ n∈ns,tr n∈Ts) /\ ∀ H' b,Ql 317 H H'->BookAt t H' b sw rules (Cb (λn=>vkT (tr n)) ns)->Q (.ref b) H'
noncomputable def En (K:ac) (t:Adr):Sp:=λvs H Q _=>∃ (a:Addr) (ns:List Int) (k:Nat),vs=[.ref a,.int k]/\SqL K H a (ns.map V.int)/\Q (.int (Cc ns k)) H
noncomputable def Bj (K:ac) (t:Adr):Sp:=λvs H Q _=>∃ c k:Int,vs=[.int c,.int k]/\0<=k/\Q (.int (Bo c k)) H
noncomputable def Lb (K:ac) (t:Adr):Sp:=λvs H Q _=>∃ (c:Int) (sg:Str) (lo m:Nat),vs=[.int c,.str sg,.int lo,.int m]/\1<=lo/\lo<=12/\m<=sg.length/\1<=sg.length/\sg.length<=100/\sg.cps.toList.Nodup /\ ∀ H' l ws,Same H H'->H l=none->H' l=some (Be ws)->ws.length=m->a06 sg lo ws->Q (.ref l) H'
noncomputable def an1 (K:ac) (t:Adr):Sp:=λvs H Q _=>∃ (c:Int) (m:Nat),vs=[.int c,.int m]/\4<=m/\m<=256 /\ ∀ H' l sw,Same H H'->SwIn any H' l sw->okSw sw->Q (.ref l) H'
noncomputable def Lc (K:ac) (t:Adr):Sp:=λvs H Q _=>∃ (l:Addr) (sw:Sw),vs=[.ref l]/\SwIn any H l sw/\okSw sw/\Q (.int (Aj sw).length) H
noncomputable def Vb (K:ac) (t:Adr):Sp:=λvs H Q _=>∃ (c:Int) (l:Addr) (sw:Sw),vs=[.int c,.ref l]/\SwIn any H l sw/\okSw sw /\ ∀ H' k rules,Same H H'->RulesAt any H' k rules->(∀ r∈rules,Em sw r)->rules.length<=3->Q (.ref k) H'
noncomputable def Pu (K:ac) (t:Adr):Sp:=λvs H Q _=>∃ (l:Addr) (n:Nat) (sw:Sw),vs=[.ref l,.int (n:Int)]/\SwIn any H l sw/\okSw sw /\ ∀ H' r,Same H H'->H' r=some (nO (Oj sw n))->Q (.ref r) H'
noncomputable def U1 (K:ac) (t:Adr):Sp:=λvs H Q _=>∃ (l k:Addr) (n:Nat) (sw:Sw) (rules:List Sw),vs=[.ref l,.ref k,.int (n:Int)]/\SwIn any H l sw/\okSw sw/\RulesAt any H k rules/\(∀ r∈rules,Em sw r)/\n<(Aj sw).length /\ ∀ H',Same H H'->Q (.bl (Hk sw rules n)) H'
noncomputable def Vc (K:ac) (t:Adr):Sp:=λvs H Q _=>∃ (c:Int) (m:Nat),vs=[.int c,.int m]/\4<=m/\m<=256 /\ ∀ H' W sw rules l k f,Same H H'->WorldAt H' W sw rules l k f->Q (.ref W) H'
def Pw (K:ac) (t:Adr):Sp:=λvs H Q _=>∃ c:Int,vs=[.int c] /\ ∀ H' (z:Str),Same H H'->z.length<=60->Q (.str z) H'
def an6 (K:ac) (t:Adr):Sp:=λvs H Q _=>∃ (k:Str) (c:Int),vs=[.str k,.int c] /\ ∀ H' x v,Same H H'->TkAt H' x v->Ap x<=2->Q v H'
noncomputable def Vj (K:ac) (t:Adr):Sp:=λvs H Q _=>∃ (c:Int) (v:Nat) (l:Addr) (ws:List Str),vs=[.int c,.int (v:Int),.ref l]/\H l=some (Be ws)/\ws.Nodup/\ws.length<=8 /\ ∀ H' d T,Same H H'->TrAt any H' d T->Cl T->Q (.ref d) H'
noncomputable def U9 (K:ac) (t:Adr):Sp:=λvs H Q _=>∃ (c:Int) (m:Nat),vs=[.int c,.int m]/\m<=8 /\ ∀ H' l ws,Same H H'->H' l=some (Be ws)->ws.length=m->ws.Nodup->(∀ z∈ws,z.length<=12)->Q (.ref l) H'
noncomputable def an7 (K:ac) (t:Adr):Sp:=λvs H Q _=>∃ (c:Int) (l:Addr) (sw:Sw) (n m:Nat),vs=[.int c,.ref l,.int (n:Int),.int (m:Int)]/\SwIn any H l sw/\okSw sw/\1<=m /\ ∀ H' (v:Nat),Same H H'->v<m->Q (.int (v:Int)) H'
noncomputable def Vh (K:ac) (t:Adr):Sp:=λvs H Q _=>∃ (a:Addr) (ns:List Int) (b:Bool),vs=[.ref a,.bl b]/\SqL K H a (ns.map V.int) /\ ∀ H' L W nm F sw rules l k f ws g tr,Same H H'->H' L=some (.lst [.ref W,.ref nm,.ref F])->H' nm=some (Be ws)->1<=ws.length/\ws.length<=8/\(∀ z∈ws,z.length<=12)->WorldAt H' W sw rules l k f->FoundAt H' F (As sw rules) g tr->Q (.ref L) H'
noncomputable def Va (K:ac) (t:Adr):Sp:=λvs H Q _=>∃ (d:Addr) (T:Tr),vs=[.ref d]/\TrAt any H d T/\Cl T /\ ∀ H' p,Same H H'->PlAt t.c_zbu any H' p T->Q (.ref p) H'
noncomputable def Vg (K:ac) (t:Adr):Sp:=λvs H Q _=>∃ (W F l k f:Addr) (sw:Sw) (rules:List Sw) (g:Nat->Addr) (tr:Nat->Tr),vs=[.ref W,.ref F]/\St0 H/\WorldAt H W sw rules l k f/\FoundAt H F (As sw rules) g tr /\ ∀ H' b,Ql 317 H H'->BookAt t H' b sw rules (Cb (λn=>vkT (tr n)) (As sw rules))->Q (.ref b) H'
noncomputable def U4 (K:ac) (t:Adr):Sp:=λvs H Q _=>∃ (p:Addr) (T:Tr) (n:Str),vs=[.ref p,.str n]/\PlAt t.c_zbu any H p T/\Cl T/\Q (.bl (stT T n).isSome) H
noncomputable def Vf (K:ac) (t:Adr):Sp:=λvs H Q _=>∃ i:Int,vs=[.int i]/\Q (.bl true) H
noncomputable def am8 (K:ac) (t:Adr):Sp:=λvs H Q _=>∃ (b:Addr) (M:Nat) (sw:Sw) (rules:List Sw) (gs:List Gp),vs=[.ref b,.int (M:Int)]/\BookAt t H b sw rules gs/\gs.length<=4 /\ ∀ H' l rs,Same H H'->aa3 t.c_zbu H' l rs->rs.length<=4->(∀ r∈rs,∃ g∈gs,r.1.1=g.2.2 &&& M/\vkT r.1.2=g.1)->(∀ g∈gs,g.2.2 &&& M≠0 -> ∃ r∈rs,r.1.1=g.2.2 &&& M/\vkT r.1.2=g.1)->Q (.ref l) H'
noncomputable def an2 (K:ac) (t:Adr):Sp:=λvs H Q _=>∃ (b:Addr) (n:Nat) (sw:Sw) (rules:List Sw) (gs:List Gp),vs=[.ref b,.int (n:Int)]/\BookAt t H b sw rules gs/\n<(Aj sw).length/\(∃ g∈gs,g.2.2.testBit n=true) /\ ∀ a m q T,H a=some (.tup [m,.ref q])->PlAt t.c_zbu any H q T->Cl T->(∃ g∈gs,g.2.2.testBit n=true/\vkT T=g.1)->Q (.ref a) H
noncomputable def a30 (K:ac) (t:Adr):Sp:=λvs H Q _=>∃ (H0:Hp) (a:Addr) (x y:V),vs=[.ref a,x,y]/\H0 a=none/\H=upd H0 a (Fv a t.c_zbr none) /\ ∀ H' dx,Same H0 H'->dx≠a->H' a=some (Fv a t.c_zbr (some dx))->H' dx=some (xdO dx [("part", x),("choice", y)])->Q .non H'
noncomputable def a31 (K:ac) (t:Adr):Sp:=λvs H Q _=>∃ (H0:Hp) (a:Addr) (x y z:V),vs=[.ref a,x,y,z]/\H0 a=none/\H=upd H0 a (Fv a t.c_zbs none) /\ ∀ H' dx,Same H0 H'->dx≠a->H' a=some (Fv a t.c_zbs (some dx))->H' dx=some (xdO dx [("part", x),("one", y),("other", z)])->Q .non H'
noncomputable def an4 (K:ac) (t:Adr):Sp:=λvs H Q _=>∃ (p:Addr) (T:Tr) (n:Str),vs=[.ref p,.str n]/\PlAt t.c_zbu any H p T/\Cl T/\(stT T n).isSome=true /\ ∀ v,StAt H (stT T n) v->Q v H
noncomputable def am5 (K:ac) (t:Adr):Sp:=λvs H Q _=>∃ (b:Addr) (n:Str) (sw:Sw) (rules:List Sw) (gs:List Gp),vs=[.ref b,.str n]/\BookAt t H b sw rules gs/\gs.length<=4/\(∃ g∈gs,ad9 g.1 n) /\ ∀ H' l rs,Same H H'->aa3 t.c_zbu H' l rs->rs.length<=4->(∀ r∈rs,∃ g∈gs,r.1.1=g.2.2/\vkT r.1.2=g.1/\(stT r.1.2 n).isSome=true)->(∀ g∈gs,ad9 g.1 n -> ∃ r∈rs,r.1.1=g.2.2/\vkT r.1.2=g.1)->Q (.ref l) H'
noncomputable def an8 (K:ac) (t:Adr):Sp:=λvs H Q _=>∃ (b:Addr) (n:Str) (m:Nat) (sw:Sw) (rules:List Sw) (gs:List Gp) (ns:List Nat) (tr:Nat->Tr),vs=[.ref b,.str n,.int (m:Int)]/\BookAt t H b sw rules gs/\Bk ns tr gs/\m∈ns/\m<(Aj sw).length/\(stT (tr m) n).isSome=true /\ ∀ H',Same H H'->Q (.int (Dj (alF ns tr n m):Nat)) H'
noncomputable def an0 (K:ac) (t:Adr):Sp:=λvs H Q _=>∃ (b:Addr) (n:Str) (M:Nat) (sw:Sw) (rules:List Sw) (gs:List Gp) (ns:List Nat) (tr:Nat->Tr),vs=[.ref b,.str n,.int (M:Int)]/\BookAt t H b sw rules gs/\Bk ns tr gs /\ ∀ H',Same H H'->Q (.int (Dj (hvF ns tr M n):Nat)) H'
noncomputable def U2 (K:ac) (t:Adr):Sp:=λvs H Q E=>∃ (b:Addr) (n:Str) (M:Nat) (sw:Sw) (rules:List Sw) (gs:List Gp) (ns:List Nat) (tr:Nat->Tr),vs=[.ref b,.str n,.int (M:Int)]/\BookAt t H b sw rules gs/\Bk ns tr gs/\(∀ m∈ns,m<(Aj sw).length)/\match tdF ns tr M n with
 |.no=>Bad t.c_zbr [("part", .str n),("choice", .non)] H E
 |.un x y=>Bad t.c_zbs [("part", .str n),("one", .int (x:Int)),("other", .int (y:Int))] H E
 |.al c=>∀ H',Same H H'->Q (.int (c:Int)) H'
noncomputable def Vi (K:ac) (t:Adr):Sp:=λvs H Q _=>∃ (b:Addr) (n:Str) (M:Nat) (sw:Sw) (rules:List Sw) (gs:List Gp) (ns:List Nat) (tr:Nat->Tr),vs=[.ref b,.str n,.int (M:Int)]/\BookAt t H b sw rules gs/\Bk ns tr gs/\(∀ m∈ns,m<(Aj sw).length) /\ ∀ H' v,Same H H'->TdAt H' n (tdF ns tr M n) v->Q v H'
noncomputable def Vk (K:ac) (t:Adr):Sp:=λvs H Q _=>∃ (F:Addr) (n:Str) (M:Nat) (ns:List Nat) (g:Nat->Addr) (tr:Nat->Tr),vs=[.ref F,.str n,.int (M:Int)]/\FoundAt H F ns g tr/\ns.Pairwise (· < ·)/\(∀ m∈ns,m<256) /\ ∀ H' v,Same H H'->TdAt H' n (tdF ns tr M n) v->Q v H'
noncomputable def Pz (K:ac) (t:Adr):Sp:=λvs H Q _=>∃ (a:Addr) (ns:List Int),vs=[.ref a]/\SqL K H a (ns.map V.int)/\ns.length<=63/\St0 H /\ ∀ H',Q (.bl true) H'
end
end K53
namespace K53
open PySem L2
def top (i:Nat):Stmt:=PySem.Challenge.pw_manyleaf_k53_seen_alike.main.body.getD i (.Pass ⟨0,0,0,0⟩)
noncomputable def bl:List Str:=["all", "bool", "dict", "enumerate", "int", "isinstance", "len", "list", "range", "reversed", "set", "sorted", "str", "sum", "tuple"]
abbrev Zz:Df:=⟨"_law_cell", "_law_cell", top 44,["_law_script", "_law_k"],2,1⟩
abbrev Z7:Df:=⟨"_law_mix", "_law_mix", top 45,["_law_cell_here", "_law_k", "_law_left", "_law_number"],2,1⟩
abbrev Zu:Df:=⟨"_law_total", "_law_total", top 49,["_law_switches_here", "_law_total_here", "_law_word", "_law_settings"],1,1⟩
noncomputable abbrev Zt:Df:=⟨"_law_spelt", "_law_spelt", top 46,["_law_cell_here", "_law_signs", "_law_longest", "_law_many", "_law_word", "_law_k", "_law_long", "_law_at", "_law_words", "_law_steps"],4,2⟩
noncomputable abbrev a45:Df:=⟨"_law_switches", "_law_switches", top 47,["_law_cell_here", "_law_most", "_law_letters", "_law_words", "_law_switches_here", "_law_total_here", "_law_k", "_law_size"],2,3⟩
noncomputable abbrev Zs:Df:=⟨"_law_rules", "_law_rules", top 50,["_law_cell_here", "_law_switches_here", "_law_rules_here", "_law_j", "_law_rule", "_law_k", "_law_word", "_law_settings", "_law_bits", "_law_some"],2,2⟩
abbrev Zl:Df:=⟨"_law_digits", "_law_digits", top 48,["_law_switches_here", "_law_number", "_law_found", "_law_word", "_law_settings"],2,1⟩
noncomputable abbrev Zk:Df:=⟨"_law_barred", "_law_barred", top 51,["_law_switches_here", "_law_rules_here", "_law_number", "_law_digits_here", "_law_rule", "_law_inside"],3,2⟩
abbrev Zv:Df:=⟨"_law_world", "_law_world", top 52,["_law_cell_here", "_law_most", "_law_switches_here", "_law_rules_here", "_law_free"],2,4⟩
abbrev Z1:Df:=⟨"_law_text", "_law_text", top 53,["_law_cell_here", "_law_signs", "_law_long"],1,2⟩
abbrev a48:Df:=⟨"_law_content", "_law_content", top 54,["_law_kind", "_law_cell_here", "_law_wide", "_law_rows", "_law_row"],2,3⟩
noncomputable abbrev Z3:Df:=⟨"_law_tree", "_law_tree", top 55,["_law_cell_here", "_law_variant_here", "_law_names_here", "_law_tree_here", "_law_k", "_law_name", "_law_number", "_law_kind", "_law_holders", "_law_rank"],3,4⟩
abbrev Zq:Df:=⟨"_law_names", "_law_names", top 56,["_law_cell_here", "_law_many"],2,3⟩
abbrev a49:Df:=⟨"_law_variant", "_law_variant", top 57,["_law_cell_here", "_law_switches_here", "_law_number", "_law_many"],4,2⟩
noncomputable abbrev Z0:Df:=⟨"_law_made", "_law_made", top 59,["_law_script", "_law_much", "_law_world_here", "_law_names_here", "_law_many", "_law_trees", "_law_found", "_law_number"],2,5⟩
abbrev D_zac:Df:=⟨"__init__", "Plain.__init__", A8 (top 10) 0,["self"],1,1⟩
abbrev aq4:Df:=⟨"allowed", "Panel.allowed", A8 (top 35) 10,["self"],1,1⟩
abbrev D_zah:Df:=⟨"__init__", "Book.__init__", A8 (top 23) 0,["self", "panel"],2,3⟩
abbrev aq6:Df:=⟨"copied", "Plain.copied", A8 (top 10) 19,["self", "twin"],1,3⟩
abbrev aq8:Df:=⟨"names", "Plain.names", A8 (top 10) 8,["self"],1,1⟩
abbrev aq2:Df:=⟨"value_key", "Plain.value_key", A8 (top 10) 21,["self"],1,3⟩
abbrev Z8:Df:=⟨"in_set", "in_set", top 12,["choices", "number"],2,1⟩
abbrev a46:Df:=⟨"least_choice", "least_choice", top 13,["choices", "number"],1,2⟩
abbrev D_zav:Df:=⟨"in_order", "in_order", top 16,["pairs"],1,6⟩
abbrev Zp:Df:=⟨"kept_rows", "kept_rows", top 25,["allowed", "rows", "sets", "plains", "choices", "plain", "key"],2,7⟩
abbrev Zw:Df:=⟨"gathered", "gathered", top 24,["panel", "rows", "book"],2,8⟩
abbrev Z4:Df:=⟨"union_of", "union_of", top 15,["sets", "choices", "one"],1,1⟩
abbrev Vy:Df:=⟨"many", "Panel.many", A8 (top 35) 3,["self"],1,1⟩
abbrev ap9:Df:=⟨"all_choices", "Panel.all_choices", A8 (top 35) 9,["self"],1,2⟩
abbrev Zj:Df:=⟨"has_length", "has_length", top 20,["thing", "least", "greatest"],3,1⟩
abbrev Zn:Df:=⟨"is_letter", "is_letter", top 21,["sign"],1,1⟩
abbrev Z5:Df:=⟨"is_word", "is_word", top 19,["thing"],1,2⟩
abbrev a41:Df:=⟨"are_unlike_words", "are_unlike_words", top 36,["things"],1,3⟩
abbrev Vz:Df:=⟨"term", "Panel.term", A8 (top 35) 12,["self", "word", "settings"],3,4⟩
abbrev V0:Df:=⟨"box", "Panel.box", A8 (top 35) 11,["self", "terms", "choices", "word"],2,5⟩
abbrev a47:Df:=⟨"copied_rule", "copied_rule", top 42,["rule", "copied", "word"],1,1⟩
abbrev aq1:Df:=⟨"read_rule", "Panel.read_rule", A8 (top 35) 2,["self", "rule"],2,6⟩
abbrev aq0:Df:=⟨"read_rules", "Panel.read_rules", A8 (top 35) 1,["self", "rules"],2,7⟩
abbrev Zo:Df:=⟨"is_switch", "is_switch", top 38,["switch"],1,4⟩
abbrev a43:Df:=⟨"read_switches", "read_switches", top 37,["switches", "settings", "many", "switch"],1,5⟩
abbrev a40:Df:=⟨"settings_of_choices", "settings_of_choices", top 39,["settings", "tuples", "word", "longer", "ahead"],1,1⟩
abbrev a39:Df:=⟨"numbers_by_settings", "numbers_by_settings", top 40,["tuples", "numbers", "number", "told"],1,1⟩
abbrev Z9:Df:=⟨"set_of", "set_of", top 14,["numbers", "choices", "number"],1,1⟩
abbrev a42:Df:=⟨"sets_of_settings", "sets_of_settings", top 41,["settings", "tuples", "sets", "place", "word", "setting", "having"],2,2⟩
abbrev D_zz:Df:=⟨"__init__", "Panel.__init__", A8 (top 35) 0,["self", "switches", "rules"],3,8⟩
abbrev V2:Df:=⟨"lay", "Plain.lay", A8 (top 10) 17,["self", "name", "kind", "parent", "rank", "content"],6,1⟩
noncomputable abbrev Zr:Df:=⟨"_law_plain", "_law_plain", top 58,["_law_tree_here", "_law_plain_here", "_law_name", "_law_kind", "_law_parent", "_law_rank", "_law_content_here"],1,3⟩
noncomputable abbrev Zy:Df:=⟨"_law_book", "_law_book", top 60,["_law_world_here", "_law_found", "_law_switches_here", "_law_rules_here", "_law_free", "_law_panel", "_law_rows", "_law_number"],2,10⟩
abbrev D_zu:Df:=⟨"__init__", "Unlike.__init__", A8 (top 6) 0,["self", "part", "one", "other"],4,1⟩
abbrev D_zj:Df:=⟨"__init__", "EditError.__init__", A8 (top 7) 0,["self", "part", "choice"],3,1⟩
abbrev V1:Df:=⟨"has", "Plain.has", A8 (top 10) 1,["self", "name"],2,1⟩
abbrev aq9:Df:=⟨"state", "Plain.state", A8 (top 10) 2,["self", "name"],2,3⟩
abbrev aq3:Df:=⟨"rows_with", "Book.rows_with", A8 (top 23) 2,["self", "name", "rows"],2,3⟩
abbrev Zx:Df:=⟨"is_whole", "is_whole", top 18,["thing"],1,1⟩
abbrev aq7:Df:=⟨"row_of", "Book.row_of", A8 (top 23) 8,["self", "number", "row"],2,2⟩
abbrev ar0:Df:=⟨"alike", "Book.alike", A8 (top 23) 10,["self", "name", "number", "there", "record"],3,4⟩
abbrev aq5:Df:=⟨"rows_in", "Book.rows_in", A8 (top 23) 1,["self", "within"],2,1⟩
abbrev a44:Df:=⟨"choices_with", "choices_with", top 28,["book", "name", "within"],3,2⟩
abbrev Zm:Df:=⟨"seen_alike", "seen_alike", top 27,["book", "name", "within", "having", "one", "alike", "other"],3,5⟩
abbrev Z2:Df:=⟨"_law_told", "_law_told", top 61,["_law_book_here", "_law_name", "_law_within", "_law_told_here", "e"],3,6⟩
abbrev Z6:Df:=⟨"_law_due", "_law_due", top 62,["_law_found", "_law_name", "_law_within", "_law_number", "_law_there", "_law_record"],3,1⟩
noncomputable abbrev D_zbj:Df:=⟨"law", "law", top 63,["_law_script", "_law_world_here", "_law_names_here", "_law_found", "_law_book_here", "_law_total_here", "_law_sets", "_law_cell_here", "_law_name", "_law_within", "_law_told_here"],1,11⟩
section
variable (K:ac) (t:Adr)
noncomputable abbrev bm7:FI:=Ds aq6 (t.m_zbu 0) (t.e_zbu 0) (am9 K t)
noncomputable abbrev Wl:FI:=Ds V1 (t.m_zbu 1) (t.e_zbu 1) (U4 K t)
noncomputable abbrev a19:FI:=Ds V2 (t.m_zbu 2) (t.e_zbu 2) (U5 K t)
noncomputable abbrev bm9:FI:=Ds aq8 (t.m_zbu 3) (t.e_zbu 3) (an3 K t)
noncomputable abbrev a73:FI:=Ds aq9 (t.m_zbu 4) (t.e_zbu 4) (an4 K t)
noncomputable abbrev bm4:FI:=Ds aq2 (t.m_zbu 5) (t.e_zbu 5) (am4 K t)
noncomputable abbrev bn0:FI:=Ds ar0 (t.m_zbv 0) (t.e_zbv 0) (an8 K t)
noncomputable abbrev bm8:FI:=Ds aq7 (t.m_zbv 1) (t.e_zbv 1) (an2 K t)
noncomputable abbrev bm6:FI:=Ds aq5 (t.m_zbv 2) (t.e_zbv 2) (am8 K t)
noncomputable abbrev bm5:FI:=Ds aq3 (t.m_zbv 3) (t.e_zbv 3) (am5 K t)
noncomputable abbrev a71:FI:=Ds ap9 (t.m_zbt 0) (t.e_zbt 0) (am0 K t)
abbrev a72:FI:=Ds aq4 (t.m_zbt 1) (t.e_zbt 1) (am6 K t)
noncomputable abbrev ae2:FI:=Ds V0 (t.m_zbt 2) (t.e_zbt 2) (U3 K t)
noncomputable abbrev ae1:FI:=Ds Vy (t.m_zbt 3) (t.e_zbt 3) (Uy K t)
noncomputable abbrev bm3:FI:=Ds aq1 (t.m_zbt 4) (t.e_zbt 4) (am3 K t)
noncomputable abbrev bm2:FI:=Ds aq0 (t.m_zbt 5) (t.e_zbt 5) (am1 K t)
noncomputable abbrev a18:FI:=Ds Vz (t.m_zbt 6) (t.e_zbt 6) (Uz K t)
noncomputable def i_zac:FI:=⟨t.f_zac,t.d_zac,D_zac.ps,1,al7 K t,[],[]⟩
noncomputable def i_zah:FI:=⟨t.f_zah,t.d_zah,D_zah.ps,3,al8 K t,[],[]⟩
noncomputable def i_zz:FI:=⟨t.f_zz,t.d_zz,D_zz.ps,8,a32 K t,[.non],[.none]⟩
noncomputable def i_zu:FI:=⟨t.f_zu,t.d_zu,D_zu.ps,1,a31 K t,[],[]⟩
noncomputable def i_zj:FI:=⟨t.f_zj,t.d_zj,D_zj.ps,1,a30 K t,[.non],[.none]⟩
noncomputable def ag0:List MI:=[⟨t.c_zbv,bn0 K t⟩]
noncomputable def Fd:List MI:=[⟨t.c_zbt,a71 K t⟩]
def Kz:List MI:=[⟨t.c_zbt,a72 K t⟩]
noncomputable def ag1:List MI:=[⟨t.c_zbt,ae2 K t⟩]
noncomputable def Ye:List MI:=[⟨t.c_zbu,bm7 K t⟩]
noncomputable def Ud:List MI:=[⟨t.c_zbu,Wl K t⟩]
noncomputable def a87:List MI:=[⟨t.c_zbu,a19 K t⟩]
noncomputable def Wp:List MI:=[⟨t.c_zbt,ae1 K t⟩]
noncomputable def ag3:List MI:=[⟨t.c_zbu,bm9 K t⟩]
noncomputable def Ox:List MI:=[⟨t.c_zbt,bm3 K t⟩]
noncomputable def Mc:List MI:=[⟨t.c_zbt,bm2 K t⟩]
noncomputable def Yh:List MI:=[⟨t.c_zbv,bm8 K t⟩]
noncomputable def Ue:List MI:=[⟨t.c_zbv,bm6 K t⟩]
noncomputable def Oy:List MI:=[⟨t.c_zbv,bm5 K t⟩]
noncomputable def Rg:List MI:=[⟨t.c_zbu,a73 K t⟩]
noncomputable def au2:List MI:=[⟨t.c_zbt,a18 K t⟩]
noncomputable def Oz:List MI:=[⟨t.c_zbu,bm4 K t⟩]
noncomputable def cons:List (Str×V):=[("__builtins__", .ref 4),("MOST_SWITCHES", (.int 5)),("LEAST_SETTINGS", (.int 2)),("MOST_SETTINGS", (.int 4)),("MOST_CHOICES", (.int 256)),("MOST_RULES", (.int 8))]
noncomputable def fns:List (Df×Sp):=[(Zz,En K t),(Z7,Bj K t),(Zu,Lc K t),(Zt,Lb K t),(a45,an1 K t),(Zs,Vb K t),(Zl,Pu K t),(Zk,U1 K t),(Zv,Vc K t),(Z1,Pw K t),(a48,an6 K t),(Z3,Vj K t),(Zq,U9 K t),(a49,an7 K t),(Z0,Vh K t),(Z8,Py K t),(a46,R5 K t),(D_zav,Ve K t),(Zp,U8 K t),(Zw,Vd K t),(Z4,Gb K t),(Zj,U0 K t),(Zn,U6 K t),(Z5,Px K t),(a41,Xf K t),(a47,an5 K t),(Zo,U7 K t),(a43,am7 K t),(a40,al9 K t),(a39,al6 K t),(Z9,Vl K t),(a42,am2 K t),(Zr,Va K t),(Zy,Vg K t),(Zx,Vf K t),(a44,an0 K t),(Zm,U2 K t),(Z2,Vi K t),(Z6,Vk K t)]
noncomputable def a84:List (Df×Sp):=[(aq6,am9 K t),(V1,U4 K t),(V2,U5 K t),(aq8,an3 K t),(aq9,an4 K t),(aq2,am4 K t)]
noncomputable def a85:List (Df×Sp):=[(ar0,an8 K t),(aq7,an2 K t),(aq5,am8 K t),(aq3,am5 K t)]
noncomputable def a83:List (Df×Sp):=[(ap9,am0 K t),(aq4,am6 K t),(V0,U3 K t),(Vy,Uy K t),(aq1,am3 K t),(aq0,am1 K t),(Vz,Uz K t)]
noncomputable def Ay:List Ent:=[⟨2, "Plain", .cls t.c_zbu (some (i_zac K t))⟩,⟨4, "Book", .cls t.c_zbv (some (i_zah K t))⟩,⟨9, "Panel", .cls t.c_zbt (some (i_zz K t))⟩,⟨0, "LeafError", .exc t.c_zbq none⟩,⟨2, "Unlike", .exc t.c_zbs (some (i_zu K t))⟩,⟨0, "EditError", .val (.ref t.c_zbp) (.ref t.c_zbp)⟩,⟨2, "NoPart", .exc t.c_zbr (some (i_zj K t))⟩]++(a59 t.u 0 cons++(af4 t.c_zbu t.m_zbu t.e_zbu 0 (a84 K t)++(af4 t.c_zbv t.m_zbv t.e_zbv 0 (a85 K t)++(af4 t.c_zbt t.m_zbt t.e_zbt 0 (a83 K t)++(fnE t.f t.d 0 (fns K t))))))
end
noncomputable abbrev v0_:DE:=Aa 0
noncomputable abbrev v1_:DE:=Aa 1
noncomputable abbrev v2_:DE:=Aa 2
noncomputable abbrev v3_:DE:=Aa 3
noncomputable abbrev v4_:DE:=Aa 4
noncomputable abbrev v5_:DE:=Aa 5
noncomputable abbrev v6_:DE:=Aa 6
noncomputable abbrev v7_:DE:=Aa 7
noncomputable abbrev v8_:DE:=Aa 8
noncomputable abbrev v9_:DE:=Aa 9
noncomputable abbrev v10_:DE:=Aa 10
noncomputable abbrev m_ (i:Int):DE:=dC (.int i)
noncomputable abbrev n_ (a:DE):DA:=Ac a Ag
noncomputable abbrev o_ (a b:DE):DA:=Ac a (n_ b)
noncomputable abbrev p_ (a b c:DE):DA:=Ac a (o_ b c)
noncomputable abbrev q_ (s:Sp) (a:DA):DE:=dFn (spE s []) a
noncomputable abbrev r_ (r:RF) (a:DA):DE:=dFn (λvs H Q _=>r vs H Q) a
noncomputable def bv7 (K:ac) (t:Adr):DS:=(Ae (dIf (Bg (Ah ay0 v1_ (r_  (Dm K) (n_ v0_)))) (Ae (Ar (Ah (A3 K) v0_ v1_)) Af) Af) (Ae (Ar (m_ 0)) Af))
noncomputable def Se (K:ac) (t:Adr):DS:=(Ae (Ao 3 (Ah Bb (Ah (Cz K) v3_ v3_) (m_ 2147483629))) (Ae (Ar (Ah Di (Ah Bb (Ah (Cz K) v3_ (Ah (A9 K) v3_ (m_ 3))) (m_ 2147483587)) (m_ 32))) Af))
noncomputable def Sh (K:ac) (t:Adr):DS:=(Ae (dIf (L9 (Bg (Ah (Bx K false) (Ah Bb v0_ (m_ 2)) (m_ 0))) (L9 (Bg (Ah (Bx K true) v2_ (m_ 0))) (Bg (Ah (Bx K true) v2_ (dUn W2 (m_ 1)))))) (Ae (Ar (Ah Eu v2_ (m_ 134217727))) Af) Af) (Ae (Ao 3 (Ah Bb (Ah (Cz K) (Ah (A9 K) v0_ (Ah (Cz K) (m_ 7919) v1_)) (m_ 48271)) (m_ 2147483647))) (Se K t)))
noncomputable def bw5 (K:ac) (t:Adr):DS:=(Ae (Ao 2 (Ah Ru v0_ (Ah (A9 K) (Ah (Cz K) (m_ 27) v1_) (m_ 1)))) (Sh K t))
noncomputable def bv1 (K:ac) (t:Adr):DS:=(Ae (Ao 1 (m_ 1)) (Ae (B9 (Bq K v0_) (gdT K 2 [(gdN 2),(gdN 3)]) (Ae (Ao 1 (Ah (Cz K) v1_ (r_  (Dm K) (n_ v3_)))) Af)) (Ae (Ar v1_) Af)))
noncomputable def Mr (K:ac) (t:Adr):DS:=(Ae (Ao 4 (dMt (rMt K [⟨"str", "str.join", Nw K⟩]) (dC (.str "")) (n_ (Bf [none,some 0,some 1] (F4 (n_ v2_)) (gdN 0) Ck (Ah (A3 K) v2_ (Ah Bb (q_ (Bj K t) (o_ v1_ (Ah (A9 K) (m_ 2) v0_))) (r_  (Dm K) (n_ v2_)))))))) (Ae (Ar (Bf [none,some 2,some 4] (F4 (n_ v3_)) (gdN 0) Ck (dSl K v2_ Ke (Kd (Ah W3 v1_ v0_))))) Af))
noncomputable def Mt (K:ac) (t:Adr):DS:=(Ae (Et (dMt (rMt K [⟨"list", "list.append", C6⟩]) v8_ (n_ (dMt (rMt K [⟨"str", "str.join", Nw K⟩]) (dC (.str "")) (n_ (Bf [none,some 1] (Bq K v9_) (gdN 0) Ck (Ah (A3 K) v1_ (Ah Bb v0_ (r_  (Dm K) (n_ v1_)))))))))) Af)
noncomputable def Mu (K:ac) (t:Adr):DS:=(Ae (Ao 9 (Bf [none,some 7,some 0,some 5] (F4 (n_ v6_)) (gdN 0) Ck (Ah (A9 K) (q_ (Bj K t) (o_ v2_ (Ah (A9 K) (m_ 22) v0_))) (Ah (Cz K) v3_ (r_ Up (n_ (Ah (Bx K false) v0_ v1_))))))) (Mt K t))
noncomputable def Mv (K:ac) (t:Adr):DS:=(Ae (Ao 7 (Ah Bb (q_ (Bj K t) (o_ v0_ (m_ 21))) v6_)) (Ae (Ao 8 (Cj Ag)) (Ae (B9 (F4 (n_ v3_)) (gdN 5) (Mu K t)) (Ae (Ar v8_) Af))))
noncomputable def bv0 (K:ac) (t:Adr):DS:=(Ae (dIf (L9 (Bg (Ah (Bx K false) (Ah Bb (q_ (Bj K t) (o_ v0_ (m_ 1))) (m_ 3)) (m_ 0))) (Bg (Ah G1 v3_ v2_))) (Mr K t) Af) (Ae (Ao 6 (Ah (A9 K) (m_ 1) (Ah Bb (q_ (Bj K t) (o_ v0_ (m_ 20))) v2_))) (Mv K t)))
noncomputable def Ih (K:ac) (t:Adr):DS:=(Ae (Et (dMt (rMt K [⟨"list", "list.append", C6⟩]) v4_ (n_ (Dw (o_ (Ah (A3 K) v3_ v6_) (q_ (Lb K t) (Ac (Ah (A9 K) (Ah (A9 K) v0_ (m_ 1)) v6_) (p_ v2_ (m_ 8) v7_)))))))) Af)
noncomputable def Ii (K:ac) (t:Adr):DS:=(Ae (Ao 7 (Ah (A9 K) (m_ 2) (Ah Bb (q_ (Bj K t) (o_ v0_ (Ah (A9 K) (m_ 41) v6_))) (m_ 3)))) (Ae (dIf (Bg (Ah G1 (Ah (Cz K) v5_ v7_) v1_)) (Ae (Ao 5 (Ah (Cz K) v5_ v7_)) (Ih K t)) Af) Af))
noncomputable def Ij (K:ac) (t:Adr):DS:=(Ae (B9 (F4 (n_ (Ah (A9 K) (m_ 1) (Ah Bb (q_ (Bj K t) (o_ v0_ (m_ 40))) (m_ 5))))) (gdN 6) (Ii K t)) (Ae (Ar v4_) Af))
noncomputable def Ik (K:ac) (t:Adr):DS:=(Ae (Ao 3 (q_ (Lb K t) (Ac v0_ (p_ v2_ (m_ 8) (m_ 5))))) (Ae (Ao 4 (Cj Ag)) (Ae (Ao 5 (m_ 1)) (Ij K t))))
noncomputable def b26 (K:ac) (t:Adr):DS:=(Ae (Ao 2 (dC (.str "abcdefghijklmnopqrstuvwxyz"))) (Ik K t))
noncomputable def Mn (K:ac) (t:Adr):DS:=(Ae (dIf (L9 (Bg (Ah (Bx K true) v9_ (Cj Ag))) (Bg (Ah Yv (Ah Bb (Ah Di v8_ (m_ 16)) (m_ 3)) (m_ 0)))) (Ae (Ew v9_ (Co K v4_ v6_)) Af) Af) Af)
noncomputable def Mo (K:ac) (t:Adr):DS:=(Ae (Ao 9 (Bf [none,none,some 8] (iEn K (n_ v7_)) (gdT K 2 [(gdN 0),(gdN 1)]) (Bg (Ah (Bx K false) (Ah Eu (Ah Ru v2_ v0_) (m_ 1)) (m_ 1))) v1_)) (Mn K t))
noncomputable def Mp (K:ac) (t:Adr):DS:=(Ae (B9 (iEn K (n_ v1_)) (gdT K 2 [(gdN 5),(gdT K 2 [(gdN 6),(gdN 7)])]) (Ae (Ao 8 (q_ (Bj K t) (o_ v0_ (Ah (A9 K) (Ah (A9 K) (m_ 61) (Ah (Cz K) (m_ 8) v3_)) v5_)))) (Mo K t))) (Ae (dIf (Bg (Ah (Bx K true) v4_ Dn)) (Ae (Et (dMt (rMt K [⟨"list", "list.append", C6⟩]) v2_ (n_ v4_))) Af) Af) Af))
noncomputable def Mq (K:ac) (t:Adr):DS:=(Ae (B9 (F4 (n_ (Ah Bb (q_ (Bj K t) (o_ v0_ (m_ 60))) (m_ 4)))) (gdN 3) (Ae (Ao 4 Dn) (Mp K t))) (Ae (Ar v2_) Af))
noncomputable def bu9 (K:ac) (t:Adr):DS:=(Ae (Ao 2 (Cj Ag)) (Mq K t))
noncomputable def Lo (K:ac) (t:Adr):DS:=(Ae (Et (dMt (rMt K [⟨"list", "list.insert", J6⟩]) v2_ (o_ (m_ 0) (Ah Bb v1_ (r_  (Dm K) (n_ v4_)))))) (Ae (Ao 1 (Ah Di v1_ (r_  (Dm K) (n_ v4_)))) Af))
noncomputable def bt9 (K:ac) (t:Adr):DS:=(Ae (Ao 2 (Cj Ag)) (Ae (B9 (a70 K v0_) (gdT K 2 [(gdN 3),(gdN 4)]) (Lo K t)) (Ae (Ar v2_) Af)))
noncomputable def Ln (K:ac) (t:Adr):DS:=(Ae (Ao 5 (Bf [none,none,none,some 3,some 4] (iEn K (n_ v0_)) (gdT K 2 [(gdN 0),(gdT K 2 [(gdN 1),(gdN 2)])]) Ck (Ah (Pk K false) (Ah (A3 K) v2_ (Ah (A3 K) v3_ v0_)) (dMt (rMt K [⟨"dict", "dict.get", K9⟩]) v4_ (o_ v1_ v2_))))) (Ae (dIf (C3 K (r_  (Rs K) (n_ v5_))) (Ae (Ar (dC (.bl true))) Af) Af) Af))
noncomputable def bt8 (K:ac) (t:Adr):DS:=(Ae (Ao 3 (q_ (Pu K t) (o_ v0_ v2_))) (Ae (B9 (Bq K v1_) (gdN 4) (Ln K t)) (Ae (Ar (dC (.bl false))) Af)))
noncomputable def Mw (K:ac) (t:Adr):DS:=(Ae (dIf (Bg (Ah (Bx K false) v4_ (Cj Ag))) (Ae (Ao 3 (Cj Ag)) (Ae (Ao 4 (dUn La (q_ (Lc K t) (n_ v2_)))) Af)) Af) (Ae (Ar (Cj (p_ v2_ v3_ v4_))) Af))
noncomputable def Mx (K:ac) (t:Adr):DS:=(Ae (Ao 4 (Bf [none,some 3,some 2] (F4 (n_ (q_ (Lc K t) (n_ v2_)))) (gdN 0) (Ey (C3 K (q_ (U1 K t) (p_ v2_ v1_ v0_)))) v0_)) (Mw K t))
noncomputable def bv2 (K:ac) (t:Adr):DS:=(Ae (Ao 2 (q_ (an1 K t) (o_ v0_ v1_))) (Ae (Ao 3 (q_ (Vb K t) (o_ v0_ v2_))) (Mx K t)))
noncomputable def P5 (K:ac) (t:Adr):DS:=(Ae (Ar (dMt (rMt K [⟨"str", "str.join", Nw K⟩]) (dC (.str "")) (n_ (Bf [none,some 0,some 1] (F4 (n_ v2_)) (gdN 0) Ck (Ah (A3 K) v2_ (Ah Bb (q_ (Bj K t) (o_ v1_ (Ah (A9 K) (m_ 302) v0_))) (r_  (Dm K) (n_ v2_)))))))) Af)
noncomputable def P6 (K:ac) (t:Adr):DS:=(Ae (Ao 2 (Ah (A3 K) (Cj (Ac (m_ 0) (Ac (m_ 1) (p_ (m_ 2) (m_ 5) (m_ 60))))) (Ah Bb (q_ (Bj K t) (o_ v0_ (m_ 301))) (m_ 5)))) (P5 K t))
noncomputable def bv9 (K:ac) (t:Adr):DS:=(Ae (Ao 1 (dC (.str " !\"#$&'()*+,-./0123456789:;<=>?@ABCDEFGHIJKLMNOPQRSTUVWXYZ[\\]^_`"))) (Ae (Ao 1 (Ah (A9 K) v1_ (dC (.str "abcdefghijklmnopqrstuvwxyz{|}~")))) (P6 K t)))
noncomputable def Jh (K:ac) (t:Adr):DS:=(Ae (Et (dMt (rMt K [⟨"list", "list.append", C6⟩]) v3_ (n_ (r_  (F9 K) (n_ (Bf [none,some 1,some 4] (F4 (n_ v2_)) (gdN 0) Ck (dSl K (q_ (Pw K t) (n_ (Ah (A9 K) (Ah (A9 K) v1_ (Ah (Cz K) (m_ 5) v2_)) (Ah (Cz K) (m_ 17) v0_)))) Ke (Kd (m_ 3))))))))) Af)
noncomputable def Ji (K:ac) (t:Adr):DS:=(Ae (B9 (F4 (n_ (Ah (A9 K) (m_ 1) (Ah Bb (q_ (Bj K t) (o_ v1_ (m_ 311))) (m_ 3))))) (gdN 4) (Jh K t)) (Ae (Ar (r_  (F9 K) (n_ v3_))) Af))
noncomputable def Jj (K:ac) (t:Adr):DS:=(Ae (Ao 2 (Ah (A9 K) (m_ 1) (Ah Bb (q_ (Bj K t) (o_ v1_ (m_ 310))) (m_ 3)))) (Ae (Ao 3 (Cj Ag)) (Ji K t)))
noncomputable def b33 (K:ac) (t:Adr):DS:=(Ae (dIf (Bg (Ah (Bx K true) v0_ (dC (.str "table")))) (Ae (Ar (q_ (Pw K t) (n_ v1_))) Af) Af) (Jj K t))
noncomputable def P9 (K:ac) (t:Adr):DS:=(Ae (Ew (Dw (Ac v7_ (p_ (Ah (A3 K) v8_ (Ah Bb (Ah Di v6_ (m_ 384)) (r_  (Dm K) (n_ v8_)))) v9_ (q_ (an6 K t) (o_ v7_ (Ah Di v6_ (m_ 96))))))) (Co K v3_ v5_)) Af)
noncomputable def Qa (K:ac) (t:Adr):DS:=(Ae (Ao 9 (Ah (A3 K) (Cj (Ac (m_ 0) (p_ (m_ 1) (Ah a27 (m_ 10) (m_ 9)) (Ah Bb (Ah Di v6_ (m_ 96)) (m_ 1000))))) (Ah Bb (Ah Di v6_ (m_ 24)) (m_ 4)))) (P9 K t))
noncomputable def Qb (K:ac) (t:Adr):DS:=(Ae (Ao 8 (Wf (Ah (A9 K) (Cj (n_ (dC (.str "")))) (Bf [none,some 3] (Bq K v3_) (gdN 0) (Bg (Ah (Bx K false) (Ah (A3 K) (Ah (A3 K) v1_ v0_) (m_ 0)) (dC (.str "chapter")))) v0_)))) (Qa K t))
noncomputable def Qc (K:ac) (t:Adr):DS:=(Ae (Ao 7 (Ah (A3 K) (Cj (Ac (dC (.str "chapter")) (p_ (dC (.str "para")) (dC (.str "table")) (dC (.str "chapter"))))) (Ah Bb (Ah Di v6_ (m_ 6)) (m_ 4)))) (Qb K t))
noncomputable def Qd (K:ac) (t:Adr):DS:=(Ae (dIf (L9 (Bg (Ah Yv v1_ (m_ 0))) (Bg (Ah (Bx K false) (Ah Bb (q_ (Bj K t) (o_ v0_ (Ah (A9 K) (Ah (A9 K) (m_ 130) (Ah (Cz K) (m_ 40) v1_)) v4_))) (m_ 3)) (m_ 0)))) (Ae (Ao 6 (q_ (Bj K t) (o_ v0_ (Ah (A9 K) (Ah (A9 K) (m_ 500) (Ah (Cz K) (m_ 40) v1_)) v4_)))) Af) Af) (Ae (dIf (Bg (Ah Yv (Ah Bb v6_ (m_ 6)) (m_ 0))) (Qc K t) Af) Af))
noncomputable def Qe (K:ac) (t:Adr):DS:=(Ae (B9 (iEn K (n_ v2_)) (gdT K 2 [(gdN 4),(gdN 5)]) (Ae (Ao 6 (q_ (Bj K t) (o_ v0_ (Ah (A9 K) (m_ 100) v4_)))) (Qd K t))) (Ae (Ar v3_) Af))
noncomputable def bw1 (K:ac) (t:Adr):DS:=(Ae (Ao 3 Dn) (Qe K t))
noncomputable def bu7 (K:ac) (t:Adr):DS:=(Ae (Ar (q_ (Lb K t) (Ac v0_ (p_ (dC (.str "abcdefghijklmnopqrstuvwxyz0123456789.")) (m_ 12) v1_)))) Af)
noncomputable def Jk (K:ac) (t:Adr):DS:=(Ae (Ar (Ah Bb (Ah (A3 K) (q_ (Pu K t) (o_ v1_ v2_)) (Ah Bb (q_ (Bj K t) (o_ v0_ (m_ 71))) (r_  (Dm K) (n_ v1_)))) v3_)) Af)
noncomputable def b34 (K:ac) (t:Adr):DS:=(Ae (dIf (Bg (Ah (Bx K false) (Ah Bb (q_ (Bj K t) (o_ v0_ (m_ 70))) (m_ 2)) (m_ 0))) (Jk K t) Af) (Ae (Ar (Ah Bb (q_ (Bj K t) (o_ v0_ (Ah (A9 K) (m_ 700) v2_))) v3_)) Af))
noncomputable def P2 (K:ac) (t:Adr):DS:=(Ae (Ew (Ah (A3 K) v5_ (q_ (an7 K t) (Ac (q_ (En K t) (o_ v0_ (m_ 4))) (p_ (Ah (A3 K) v2_ (m_ 0)) v7_ v4_)))) (Co K v6_ v7_)) Af)
noncomputable def P3 (K:ac) (t:Adr):DS:=(Ae (Ao 5 (Bf [none,some 3,some 0] (F4 (n_ v4_)) (gdN 0) Ck (q_ (Vj K t) (p_ (q_ (En K t) (o_ v2_ (m_ 3))) v0_ v1_)))) (Ae (Ao 6 Dn) (Ae (B9 (Bq K (Ah (A3 K) v2_ (m_ 2))) (gdN 7) (P2 K t)) (Ae (Ar (Cj (p_ v2_ v3_ v6_))) Af))))
noncomputable def P4 (K:ac) (t:Adr):DS:=(Ae (Ao 3 (q_ (U9 K t) (o_ (q_ (En K t) (o_ v0_ (m_ 1))) (Ah (A9 K) (m_ 1) (Ah Bb (q_ (En K t) (o_ v0_ (m_ 2))) (Ah (A3 K) (Cj (o_ (m_ 8) (m_ 3))) (r_ Up (n_ v1_)))))))) (Ae (Ao 4 (Ah (A9 K) (m_ 1) (Ah Bb (Ah Di (q_ (En K t) (o_ v0_ (m_ 2))) (m_ 8)) (m_ 4)))) (P3 K t)))
noncomputable def bv8 (K:ac) (t:Adr):DS:=(Ae (Ao 2 (q_ (Vc K t) (o_ (Ah Di (q_ (En K t) (o_ v0_ (m_ 0))) (m_ 8)) (Ah (A3 K) (Cj (o_ (m_ 24) (m_ 256))) (r_ Up (n_ v1_)))))) (P4 K t))
noncomputable def bt6 (K:ac) (t:Adr):DS:=(Ae (Eg K "records" v0_ Dn) Af)
noncomputable def b21 (K:ac) (t:Adr):DS:=(Ae (Ar (dUn (Bi K "free") v0_)) Af)
noncomputable def bu1 (K:ac) (t:Adr):DS:=(Ae (Eg K "panel" v0_ v1_) (Ae (Eg K "kept" v0_ (Cj (n_ (Dw (o_ (Cs "allowed" 0 (Kz K t) v1_ Ag) (dFn (mkC t.c_zbu (some (i_zac K t)) 0) Ag)))))) Af))
noncomputable def b24 (K:ac) (t:Adr):DS:=(Ae (Ao 1 (dFn (mkC t.c_zbu (some (i_zac K t)) 0) Ag)) (Ae (Eg K "records" v1_ (r_ Pj (n_ (dUn (Bi K "records") v0_)))) (Ae (Ar v1_) Af)))
noncomputable def b29 (K:ac) (t:Adr):DS:=(Ae (Ar (r_  (Uq K true) (n_ (dUn (Bi K "records") v0_)))) Af)
noncomputable def b18 (K:ac) (t:Adr):DS:=(Ae (Ar (r_  (F9 K) (n_ (Bf [none,some 0] (Bq K (Cs "names" 0 (ag3 K t) v0_ Ag)) (gdN 0) Ck (Dw (o_ v0_ (Ah (A3 K) (dUn (Bi K "records") v1_) v0_))))))) Af)
noncomputable def bw6 (K:ac) (t:Adr):DS:=(Ae (Ar (Ah (Bx K false) (Ah Eu (Ah Ru v0_ v1_) (m_ 1)) (m_ 1))) Af)
noncomputable def b27 (K:ac) (t:Adr):DS:=(Ae (B9 (F4 (n_ (dMt (rMt K [⟨"int", "int.bit_length", ak4⟩]) v0_ Ag))) (gdN 1) (Ae (dIf (C3 K (q_ (Py K t) (o_ v0_ v1_))) (Ae (Ar v1_) Af) Af) Af)) (Ae (Ar (dC .non)) Af))
noncomputable def bv4 (K:ac) (t:Adr):DE:=
 (dFn (spE (R5 K t) []) (Ac (Ah (A3 K) (Aa 0) (dC (.int 0))) Ag))
noncomputable def Mi (K:ac) (t:Adr):DS:=(Ae (Ew (Ah ay1 (dMt (rMt K [⟨"dict", "dict.get", K9⟩]) v2_ (o_ v6_ (m_ 0))) (Ah Eu v4_ v0_)) (Co K v2_ v6_)) (Ae (Ew v5_ (Co K v3_ v6_)) Af))
noncomputable def Mj (K:ac) (t:Adr):DS:=(Ae (Ar (q_ (Ve K t) (n_ (Bf [none,some 3,some 2] (Bq K v2_) (gdN 0) Ck (Dw (o_ (Ah (A3 K) v2_ v0_) (Cs "copied" 0 (Ye K t) (Ah (A3 K) v1_ v0_) Ag))))))) Af)
noncomputable def Ml (K:ac) (t:Adr):DS:=(Ae (B9 (Bq K v1_) (gdT K 2 [(gdN 4),(gdN 5)]) (Ae (dIf (Bg (Ah (Bx K true) (Ah Eu v4_ v0_) (m_ 0))) (Ae (Ao 6 (Cs "value_key" 0 (Oz K t) v5_ Ag)) (Mi K t)) Af) Af)) (Mj K t))
noncomputable def bu6 (K:ac) (t:Adr):DS:=(Ae (Ao 2 Dn) (Ae (Ao 3 Dn) (Ml K t)))
noncomputable def bv3 (K:ac) (t:Adr):DS:=(Ae (Ao 2 (dFn (mkC t.c_zbv (some (i_zah K t)) 0) (n_ v0_))) (Ae (Eg K "kept" v2_ (q_ (U8 K t) (o_ (Cs "allowed" 0 (Kz K t) v0_ Ag) v1_))) (Ae (Ar v2_) Af)))
noncomputable def bw2 (K:ac) (t:Adr):DS:=(Ae (Ao 1 (m_ 0)) (Ae (B9 (Bq K v0_) (gdN 2) (Ae (Ao 1 (Ah ay1 v1_ v2_)) Af)) (Ae (Ar v1_) Af)))
noncomputable def bt4 (K:ac) (t:Adr):DS:=(Ae (Ar (r_  (Dm K) (n_ (dUn (Bi K "tuples") v0_)))) Af)
noncomputable def b11 (K:ac) (t:Adr):DS:=(Ae (Ar (Ah W3 (Ah Ix (m_ 1) (Cs "many" 0 (Wp K t) v0_ Ag)) (m_ 1))) Af)
noncomputable def bt7 (K:ac) (t:Adr):DS:=(Ae (Ar (M9 K (r_  (Fw K) (o_ v0_ (dC (.ty "str")))) (Dr G1 G1 v1_ (r_  (Dm K) (n_ v0_)) v2_))) Af)
noncomputable def a34 (K:ac) (t:Adr):DS:=(Ae (Ar (Dr G1 G1 (dC (.str "a")) v0_ (dC (.str "z")))) Af)
noncomputable def bw3 (K:ac) (t:Adr):DS:=(Ae (Ar (M9 K (q_ (U0 K t) (p_ v0_ (m_ 1) (m_ 8))) (r_  (Rs K) (n_ (Bf [none] (Bq K v0_) (gdN 0) Ck (q_ (U6 K t) (n_ v0_))))))) Af)
noncomputable def b15 (K:ac) (t:Adr):DS:=(Ae (dIf (dOr (Ey (C3 K (r_  (Fw K) (o_ v0_ (dC (.ty "list")))))) (Ey (C3 K (r_  (Rs K) (n_ (Bf [none] (Bq K v0_) (gdN 0) Ck (q_ (Px K t) (n_ v0_)))))))) (Ae (Ar (dC (.bl false))) Af) Af) (Ae (Ar (Ah (Bx K false) (dUn (J7 K) v0_) (r_  (Dm K) (n_ v0_)))) Af))
noncomputable def Lk (K:ac) (t:Adr):DS:=(Ae (Ar (q_ (Gb K t) (n_ (Bf [none,some 0,some 1] (Bq K v2_) (gdN 0) Ck (Ah (A3 K) (Ah (A3 K) (dUn (Bi K "sets") v1_) v2_) v0_))))) Af)
noncomputable def Ll (K:ac) (t:Adr):DS:=(Ae (dIf (Ey (C3 K (r_  (Rs K) (n_ (Bf [none,some 0,some 1] (Bq K v2_) (gdN 0) Ck (Ah (Pk K false) v0_ (Ah (A3 K) (dUn (Bi K "sets") v1_) v2_))))))) (Ae (By K dNo) Af) Af) (Lk K t))
noncomputable def Lm (K:ac) (t:Adr):DS:=(Ae (dIf (dOr (Ey (C3 K (q_ (Xf K t) (n_ v2_)))) (Bg (Ah (Bx K false) v2_ (Cj Ag)))) (Ae (By K dNo) Af) Af) (Ll K t))
noncomputable def bt5 (K:ac) (t:Adr):DS:=(Ae (dIf (dOr (Ey (C3 K (r_  (Fw K) (o_ v1_ (dC (.ty "str")))))) (Bg (Ah (Pk K true) v1_ (dUn (Bi K "sets") v0_)))) (Ae (By K dNo) Af) Af) (Lm K t))
noncomputable def Mg (K:ac) (t:Adr):DS:=(Ae (B9 (Bq K v1_) (gdN 3) (Ae (Ao 2 (Ah Eu v2_ (Cs "term" 2 (au2 K t) v0_ (o_ v3_ (Ah (A3 K) v1_ v3_))))) Af)) (Ae (Ar v2_) Af))
noncomputable def bu2 (K:ac) (t:Adr):DS:=(Ae (dIf (Ey (C3 K (r_  (Fw K) (o_ v1_ (dC (.ty "dict")))))) (Ae (By K dNo) Af) Af) (Ae (Ao 2 (Cs "all_choices" 0 (Fd K t) v0_ Ag)) (Mg K t)))
noncomputable def Jg (K:ac) (t:Adr):DS:=(Ae (B9 (Bq K v0_) (gdN 2) (Ae (Ew (r_  (Pl K true) (n_ (Ah (A3 K) v0_ v2_))) (Co K v1_ v2_)) Af)) (Ae (Ar v1_) Af))
noncomputable def b32 (K:ac) (t:Adr):DS:=(Ae (Ao 1 Dn) (Jg K t))
noncomputable def b17 (K:ac) (t:Adr):DS:=(Ae (dIf (dOr (Ey (C3 K (r_  (Fw K) (o_ v1_ (dC (.ty "dict")))))) (Bg (Ah (Bx K false) (r_  (Dm K) (n_ v1_)) (m_ 0)))) (Ae (By K dNo) Af) Af) (Ae (as0 K (Ae (Et (Cs "box" 1 (ag1 K t) v0_ (n_ v1_))) Af) []) (Ae (Ar (q_ (an5 K t) (n_ v1_))) Af)))
noncomputable def Fg (K:ac) (t:Adr):DS:=(Ae (dIf (dOr (Ey (C3 K (r_  (Fw K) (o_ v1_ (dC (.ty "list")))))) (Bg (Ah Yv (r_  (Dm K) (n_ v1_)) (m_ 8)))) (Ae (By K dNo) Af) Af) (Ae (Ar (Bf [none,some 0] (Bq K v1_) (gdN 0) Ck (Cs "read_rule" 1 (Ox K t) v1_ (n_ v0_)))) Af))
noncomputable def b13 (K:ac) (t:Adr):DS:=(Ae (dIf (Bg (Ah (ax9 false) v1_ (dC .non))) (Ae (Ar (Cj Ag)) Af) Af) (Fg K t))
noncomputable def Mh (K:ac) (t:Adr):DS:=(Ae (Ar (M9 K (q_ (Xf K t) (n_ (Ah (A3 K) v0_ (m_ 1)))) (Dr G1 G1 (m_ 2) (r_  (Dm K) (n_ (Ah (A3 K) v0_ (m_ 1)))) (m_ 4)))) Af)
noncomputable def bu5 (K:ac) (t:Adr):DS:=(Ae (dIf (dOr (Ey (C3 K (r_  (Fw K) (o_ v0_ (dC (.ty "tuple")))))) (dOr (Bg (Ah (Bx K true) (r_  (Dm K) (n_ v0_)) (m_ 2))) (Ey (C3 K (q_ (Px K t) (n_ (Ah (A3 K) v0_ (m_ 0)))))))) (Ae (Ar (dC (.bl false))) Af) Af) (Mh K t))
noncomputable def G8 (K:ac) (t:Adr):DS:=(Ae (Ew (r_  (F9 K) (n_ (Ah (A3 K) v3_ (m_ 1)))) (Co K v1_ (Ah (A3 K) v3_ (m_ 0)))) (Ae (Ao 2 (Ah (Cz K) v2_ (r_  (Dm K) (n_ (Ah (A3 K) v3_ (m_ 1)))))) Af))
noncomputable def G9 (K:ac) (t:Adr):DS:=(Ae (dIf (dOr (Ey (C3 K (q_ (U7 K t) (n_ v3_)))) (Bg (Ah (Pk K false) (Ah (A3 K) v3_ (m_ 0)) v1_))) (Ae (By K dNo) Af) Af) (G8 K t))
noncomputable def Ha (K:ac) (t:Adr):DS:=(Ae (Ao 2 (m_ 1)) (Ae (B9 (Bq K v0_) (gdN 3) (G9 K t)) (Ae (dIf (Bg (Ah Yv v2_ (m_ 256))) (Ae (By K dNo) Af) Af) (Ae (Ar v1_) Af))))
noncomputable def b22 (K:ac) (t:Adr):DS:=(Ae (dIf (dOr (Ey (C3 K (r_  (Fw K) (o_ v0_ (dC (.ty "list")))))) (Ey (Bg (Dr G1 G1 (m_ 1) (r_  (Dm K) (n_ v0_)) (m_ 5))))) (Ae (By K dNo) Af) Af) (Ae (Ao 1 Dn) (Ha K t)))
noncomputable def Ec (K:ac) (t:Adr):DS:=(Ae (Et (dMt (rMt K [⟨"list", "list.extend", J5⟩]) v3_ (n_ (Bf [none,some 4] (Bq K (Ah (A3 K) v0_ v2_)) (gdN 0) Ck (Ah (A9 K) v1_ (Dw (n_ v0_))))))) Af)
noncomputable def b09 (K:ac) (t:Adr):DS:=(Ae (Ao 1 (Cj (n_ (Dw Ag)))) (Ae (B9 (Bq K v0_) (gdN 2) (Ae (Ao 3 (Cj Ag)) (Ae (B9 (Bq K v1_) (gdN 4) (Ec K t)) (Ae (Ao 1 v3_) Af)))) (Ae (Ar v1_) Af)))
noncomputable def b08 (K:ac) (t:Adr):DS:=(Ae (Ao 1 Dn) (Ae (B9 (iEn K (n_ v0_)) (gdT K 2 [(gdN 2),(gdN 3)]) (Ae (Ew v2_ (Co K v1_ v3_)) Af)) (Ae (Ar v1_) Af)))
noncomputable def bw7 (K:ac) (t:Adr):DS:=(Ae (Ao 1 (m_ 0)) (Ae (B9 (Bq K v0_) (gdN 2) (Ae (Ao 1 (Ah ay1 v1_ (Ah Ix (m_ 1) v2_))) Af)) (Ae (Ar v1_) Af)))
noncomputable def Fh (K:ac) (t:Adr):DS:=(Ae (Ao 6 (Bf [none,none,some 3,some 5] (iEn K (n_ v1_)) (gdT K 2 [(gdN 0),(gdN 1)]) (Bg (Ah (Bx K false) (Ah (A3 K) v1_ v2_) v3_)) v0_)) (Ae (Ew (q_ (Vl K t) (n_ v6_)) (Co K (Ah (A3 K) v2_ v4_) v5_)) Af))
noncomputable def Fi (K:ac) (t:Adr):DS:=(Ae (B9 (iEn K (n_ v0_)) (gdT K 2 [(gdN 3),(gdN 4)]) (Ae (Ew Dn (Co K v2_ v4_)) (Ae (B9 (Bq K (Ah (A3 K) v0_ v4_)) (gdN 5) (Fh K t)) Af))) (Ae (Ar v2_) Af))
noncomputable def b16 (K:ac) (t:Adr):DS:=(Ae (Ao 2 Dn) (Fi K t))
noncomputable def Lh (K:ac) (t:Adr):DS:=(Ae (Eg K "free" v0_ (Ah Eu (Cs "all_choices" 0 (Fd K t) v0_ Ag) (dUn Rt (q_ (Gb K t) (n_ (dUn (Bi K "bars") v0_)))))) (Ae (dIf (Bg (Ah (Bx K false) (dUn (Bi K "free") v0_) (m_ 0))) (Ae (By K dNo) Af) Af) Af))
noncomputable def Li (K:ac) (t:Adr):DS:=(Ae (Eg K "kept_rules" v0_ (Cs "read_rules" 1 (Mc K t) v0_ (n_ v2_))) (Ae (Eg K "bars" v0_ (Bf [none,some 0] (Bq K (dUn (Bi K "kept_rules") v0_)) (gdN 0) Ck (Cs "box" 1 (ag1 K t) v1_ (n_ v0_)))) (Lh K t)))
noncomputable def Lj (K:ac) (t:Adr):DS:=(Ae (Eg K "numbers" v0_ (q_ (al6 K t) (n_ (dUn (Bi K "tuples") v0_)))) (Ae (Eg K "sets" v0_ (q_ (am2 K t) (o_ (dUn (Bi K "settings") v0_) (dUn (Bi K "tuples") v0_)))) (Li K t)))
noncomputable def b36 (K:ac) (t:Adr):DS:=(Ae (Eg K "settings" v0_ (q_ (am7 K t) (n_ v1_))) (Ae (Eg K "tuples" v0_ (q_ (al9 K t) (n_ (dUn (Bi K "settings") v0_)))) (Lj K t)))
noncomputable def bu4 (K:ac) (t:Adr):DS:=(Ae (Ew (Dw (Ac v2_ (p_ v3_ v4_ v5_))) (Co K (dUn (Bi K "records") v0_) v1_)) Af)
noncomputable def Mm (K:ac) (t:Adr):DS:=(Ae (Ew (Ah (A3 K) v0_ v2_) (gdT K 4 [(gdN 3),(gdN 4),(gdN 5),(gdN 6)])) (Ae (Et (Cs "lay" 5 (a87 K t) v1_ (Ac v2_ (Ac v3_ (p_ v4_ v5_ v6_))))) Af))
noncomputable def bu8 (K:ac) (t:Adr):DS:=(Ae (Ao 1 (dFn (mkC t.c_zbu (some (i_zac K t)) 0) Ag)) (Ae (B9 (Bq K v0_) (gdN 2) (Mm K t)) (Ae (Ar v1_) Af)))
noncomputable def P0 (K:ac) (t:Adr):DS:=(Ae (Et (dMt (rMt K [⟨"list", "list.append", C6⟩]) v6_ (n_ (Dw (o_ (Ah Ix (m_ 1) v7_) (q_ (Va K t) (n_ (Ah (A3 K) v1_ v7_)))))))) Af)
noncomputable def P1 (K:ac) (t:Adr):DS:=(Ae (Ao 5 (dFn (mkC t.c_zbt (some (i_zz K t)) 1) (o_ (Bf [none,none] (Bq K v2_) (gdT K 2 [(gdN 0),(gdN 1)]) Ck (Dw (o_ v0_ (r_  (Pl K true) (n_ v1_))))) v3_))) (Ae (Ao 6 (Cj Ag)) (Ae (B9 (Bq K v1_) (gdN 7) (P0 K t)) (Ae (Ar (q_ (Vd K t) (o_ v5_ v6_))) Af))))
noncomputable def bv6 (K:ac) (t:Adr):DS:=(Ae (Ew v0_ (gdT K 3 [(gdN 2),(gdN 3),(gdN 4)])) (P1 K t))
noncomputable def b31 (K:ac) (t:Adr):DS:=(Ae (Eg K "part" v0_ v1_) (Ae (Eg K "one" v0_ v2_) (Ae (Eg K "other" v0_ v3_) Af)))
noncomputable def b20 (K:ac) (t:Adr):DS:=(Ae (Eg K "part" v0_ v1_) (Ae (Eg K "choice" v0_ v2_) Af))
noncomputable def bu3 (K:ac) (t:Adr):DS:=(Ae (Ar (Ah (Pk K false) v1_ (dUn (Bi K "records") v0_))) Af)
noncomputable def b30 (K:ac) (t:Adr):DS:=(Ae (dIf (Bg (Ah (Pk K true) v1_ (dUn (Bi K "records") v0_))) (Ae (By K (dFn (λvs H Q E=>vs.length<=1000/\mkX t.c_zbr (some (i_zj K t)) 0 vs H Q E) (n_ v1_))) Af) Af) (Ae (Ar (Ah (A3 K) (dUn (Bi K "records") v0_) v1_)) Af))
noncomputable def Gc (K:ac) (t:Adr):DS:=(Ae (dIf (Bg (Ah (Bx K false) v2_ (Cj Ag))) (Ae (By K (dFn (λvs H Q E=>vs.length<=1000/\mkX t.c_zbr (some (i_zj K t)) 1 vs H Q E) (o_ v1_ (dC .non)))) Af) Af) (Ae (Ar v2_) Af))
noncomputable def b19 (K:ac) (t:Adr):DS:=(Ae (Ao 2 (Bf [none,none,some 1] (Bq K (dUn (Bi K "kept") v0_)) (gdT K 2 [(gdN 0),(gdN 1)]) (C3 K (Cs "has" 1 (Ud K t) v1_ (n_ v2_))) (Dw (o_ v0_ v1_)))) (Gc K t))
noncomputable def bv5 (K:ac) (t:Adr):DS:=(Ae (Ar (M9 K (r_  (Fw K) (o_ v0_ (dC (.ty "int")))) (ac1 K (r_  (Fw K) (o_ v0_ (dC (.ty "bool"))))))) Af)
noncomputable def Jf (K:ac) (t:Adr):DS:=(Ae (B9 (Bq K (dUn (Bi K "kept") v0_)) (gdN 2) (Ae (dIf (C3 K (q_ (Py K t) (o_ (Ah (A3 K) v2_ (m_ 0)) v1_))) (Ae (Ar v2_) Af) Af) Af)) Af)
noncomputable def b28 (K:ac) (t:Adr):DS:=(Ae (dIf (L9 (C3 K (q_ (Vf K t) (n_ v1_))) (Bg (Dr G1 ay0 (m_ 0) v1_ (Cs "many" 0 (Wp K t) (dUn (Bi K "panel") v0_) Ag)))) (Jf K t) Af) (Ae (By K dNo) Af))
noncomputable def Lf (K:ac) (t:Adr):DS:=(Ae (Ar (q_ (Gb K t) (n_ (Bf [none,none,some 1,some 4] (Bq K (Cs "rows_with" 1 (Oy K t) v0_ (n_ v1_))) (gdT K 2 [(gdN 0),(gdN 1)]) (Bg (Ah (Bx K false) (Cs "state" 1 (Rg K t) v1_ (n_ v2_)) v3_)) v0_)))) Af)
noncomputable def Lg (K:ac) (t:Adr):DS:=(Ae (dIf (Ey (C3 K (Cs "has" 1 (Ud K t) v3_ (n_ v1_)))) (Ae (By K (dFn (λvs H Q E=>vs.length<=1000/\mkX t.c_zbr (some (i_zj K t)) 1 vs H Q E) (o_ v1_ v2_))) Af) Af) (Ae (Ao 4 (Cs "state" 1 (Rg K t) v3_ (n_ v1_))) (Lf K t)))
noncomputable def b35 (K:ac) (t:Adr):DS:=(Ae (Ao 3 (Ah (A3 K) (Cs "row_of" 1 (Yh K t) v0_ (n_ v2_)) (m_ 1))) (Lg K t))
noncomputable def b23 (K:ac) (t:Adr):DS:=(Ae (Ar (Bf [none,none,some 1] (Bq K (dUn (Bi K "kept") v0_)) (gdT K 2 [(gdN 0),(gdN 1)]) (Bg (Ah (Bx K true) (Ah Eu v0_ v2_) (m_ 0))) (Dw (o_ (Ah Eu v0_ v2_) v1_)))) Af)
noncomputable def b25 (K:ac) (t:Adr):DS:=(Ae (Ar (q_ (Gb K t) (n_ (Bf [none,none,some 1] (Bq K (Cs "rows_in" 1 (Ue K t) v0_ (n_ v2_))) (gdT K 2 [(gdN 0),(gdN 1)]) (C3 K (Cs "has" 1 (Ud K t) v1_ (n_ v2_))) v0_)))) Af)
noncomputable def Lp (K:ac) (t:Adr):DS:=(Ae (dIf (Bg (Ah (ax9 true) v6_ (dC .non))) (Ae (By K (dFn (λvs H Q E=>vs.length<=1000/\mkX t.c_zbs (some (i_zu K t)) 0 vs H Q E) (p_ v1_ v4_ v6_))) Af) Af) (Ae (Ar v5_) Af))
noncomputable def Lq (K:ac) (t:Adr):DS:=(Ae (Ao 5 (Cs "alike" 2 (ag0 K t) v0_ (o_ v1_ v4_))) (Ae (Ao 6 (q_ (R5 K t) (n_ (Ah Eu v3_ (dUn Rt v5_))))) (Lp K t)))
noncomputable def Lr (K:ac) (t:Adr):DS:=(Ae (dIf (Bg (Ah (Bx K false) v3_ (m_ 0))) (Ae (By K (dFn (λvs H Q E=>vs.length<=1000/\mkX t.c_zbr (some (i_zj K t)) 1 vs H Q E) (o_ v1_ (dC .non)))) Af) Af) (Ae (Ao 4 (q_ (R5 K t) (n_ v3_))) (Lq K t)))
noncomputable def bu0 (K:ac) (t:Adr):DS:=(Ae (Ao 3 (q_ (an0 K t) (p_ v0_ v1_ v2_))) (Lr K t))
noncomputable def P7 (K:ac) (t:Adr):DS:=(Ae (as0 K (Ae (Ao 3 (q_ (U2 K t) (p_ v0_ v1_ v2_))) Af) [(t.c_zbr,.as 4,(Ae (Ao 3 (Dw (Ac (dC (.str "no part")) (Ac (dUn (Bi K "part") (Aa 4)) (Ac (dUn (Bi K "choice") (Aa 4)) Ag)))))
  Af)),(t.c_zbq,.as 4,(Ae (dIf (L9 (C3 K (dFn (λvs H Q _=>(Fw K) vs H Q) (Ac (Aa 4) (Ac (dC (.ref t.c_zbs)) Ag)))) (Ey (C3 K (dFn (λvs H Q _=>(Fw K) vs H Q) (Ac (Aa 4) (Ac (dC (.ref t.c_zbp)) Ag)))))) (Ae (Ao 3 (Dw (Ac (dC (.str "unlike")) (Ac (dUn (Bi K "part") (Aa 4)) (Ac (dUn (Bi K "one") (Aa 4)) (Ac (dUn (Bi K "other") (Aa 4)) Ag))))))
   Af) Af)
  Af))]) (Ae (Ar v3_) Af))
noncomputable def bw0 (K:ac) (t:Adr):DS:=(Ae (Ao 3 (dC .non)) (P7 K t))
noncomputable def R7 (K:ac) (t:Adr):DS:=(Ae (dIf (Bg (Ah (Bx K true) (Ah (A3 K) (Ah (A3 K) v0_ v3_) v1_) v5_)) (Ae (Ar (Dw (Ac (dC (.str "unlike")) (p_ v1_ (Ah (A3 K) v4_ (m_ 0)) v3_)))) Af) Af) Af)
noncomputable def R8 (K:ac) (t:Adr):DS:=(Ae (Ar (r_  (ay2 K) (n_ (Bf [none,some 0,some 1,some 5] (Bq K v0_) (gdN 0) (Bg (Ah (Bx K false) (dMt (rMt K [⟨"dict", "dict.get", K9⟩]) (Ah (A3 K) v1_ v0_) (o_ v2_ (dC .non))) v3_)) (Ah Ix (m_ 1) v0_))))) Af)
noncomputable def Sc (K:ac) (t:Adr):DS:=(Ae (dIf (Bg (Ah (Bx K false) v4_ (Cj Ag))) (Ae (Ar (Dw (p_ (dC (.str "no part")) v1_ (dC .non)))) Af) Af) (Ae (Ao 5 (Ah (A3 K) (Ah (A3 K) v0_ (Ah (A3 K) v4_ (m_ 0))) v1_)) (Ae (B9 (Bq K v4_) (gdN 3) (R7 K t)) (R8 K t))))
noncomputable def bw4 (K:ac) (t:Adr):DS:=(Ae (Ao 4 (Bf [none,some 0,some 1,some 2] (Bq K (r_  (Uq K true) (n_ v0_))) (gdN 0) (L9 (Bg (Ah (Bx K false) (Ah Eu (Ah Ru v3_ v0_) (m_ 1)) (m_ 1))) (Bg (Ah (Pk K false) v2_ (Ah (A3 K) v1_ v0_)))) v0_)) (Sc K t))
noncomputable def az6 (K:ac) (t:Adr):DS:=(Ae (Et (dMt (rMt K [⟨"list", "list.append", C6⟩]) v6_ (n_ (r_  (ay2 K) (n_ (Bf [none,some 7] (F4 (n_ v5_)) (gdN 0) (Bg (Ah (Bx K false) (Ah Bb (q_ (Bj K t) (o_ v1_ v0_)) (Ah (A9 K) (m_ 2) (Ah Bb v1_ (m_ 4)))) (m_ 0))) (Ah Ix (m_ 1) v0_))))))) Af)
noncomputable def az7 (K:ac) (t:Adr):DS:=(Ae (dIf (dOr (Bg (Ah (Bx K true) v10_ (q_ (Vk K t) (p_ v3_ v8_ v9_)))) (C3 K (r_  (Fw K) (o_ v10_ (dC (.ty "bool")))))) (Ae (Ar (dC (.bl false))) Af) Af) Af)
noncomputable def az8 (K:ac) (t:Adr):DS:=(Ae (B9 (Bq K (Ah (A9 K) v2_ (Cj (n_ (Ah (A9 K) (Ah (A3 K) v2_ (m_ 0)) (Ah (Cz K) (dC (.str "0")) (r_ Up (n_ (Ah ay0 (r_  (Dm K) (n_ (Ah (A3 K) v2_ (m_ 0)))) (m_ 12)))))))))) (gdN 8) (Ae (B9 (Bq K v6_) (gdN 9) (Ae (Ao 10 (q_ (Vi K t) (p_ v4_ v8_ v9_))) (az7 K t))) Af)) (Ae (Ar (dC (.bl true))) Af))
noncomputable def az9 (K:ac) (t:Adr):DS:=(Ae (Ao 6 (Cj (p_ (m_ 0) (Ah W3 (Ah Ix (m_ 1) v5_) (m_ 1)) (Ah Ix (m_ 1) (Ah (A3 K) (Ah (A3 K) v1_ (m_ 2)) (m_ 0)))))) (Ae (B9 (Bq K (dSl K v0_ (Kd (m_ 5)) (Kd (m_ 21)))) (gdN 7) (az6 K t)) (az8 K t)))
noncomputable def a00 (K:ac) (t:Adr):DS:=(Ae (Ao 4 (q_ (Vg K t) (o_ v1_ v3_))) (Ae (Ao 5 (q_ (Lc K t) (n_ (Ah (A3 K) v1_ (m_ 0))))) (az9 K t)))
noncomputable def bw8 (K:ac) (t:Adr):DS:=(Ae (Ew (q_ (Vh K t) (o_ v0_ (Ah (Bx K false) (Ah Bb (q_ (En K t) (o_ v0_ (m_ 0))) (m_ 8)) (m_ 1)))) (gdT K 3 [(gdN 1),(gdN 2),(gdN 3)])) (a00 K t))
end K53
namespace K53
open PySem L2 Pn
theorem R4 {α:Type} [DecidableEq α] {l:List α} {x:List α} (nd:l.Nodup) (h:∀ z∈l,z∈x):l.length<=x.length:=by
 induction l generalizing x with
 |nil=>exact bx _
 |cons a l ih=>
  obtain⟨na,nd⟩:=List.nodup_cons.mp nd
  have ha:=h a aT
  have:=ih (x:=x.erase a) nd λz hz=>(List.mem_erase_of_ne (λe:z=a=>na (e▸hz))).mpr (h z (aB _ hz))
  rw[List.length_erase_of_mem ha] at this
  have:0<x.length:=jN ha
  rw[aO]
  omega
theorem ah4 {a n:Nat} (h:a<2 ^ n):a ||| 2 ^ n=a+2 ^ n:=by
 have:=Nat.two_pow_add_eq_or_of_lt h 1
 rw[Nat.mul_one] at this
 rw[Nat.or_comm,<- this,lT]
theorem Le:∀ l:List Nat,(l.map λn:Nat=>(1 * 2 ^ ((n:Int)).toNat:Int)).sum=(((l.map λi=>2 ^ i).sum:Nat):Int)
 |[]=>rfl
 | n::l=>by
  rw[aZ,lg,Le l,aZ,lg,jp,aU,Ee,Int.natCast_add]
theorem as7 (sw:Sw) (rules:List Sw):As sw rules=(ay (Aj sw).length).filter λi=>(Dz sw rules).testBit i:=by
 unfold As
 refine List.filter_congr λi hi=>?_
 rw[X1,decide_eq_true (List.mem_range.mp hi),jm]
 rfl
theorem E5 {sw:Sw} {rules:List Sw} {n:Nat} (h:n∈As sw rules):n<(Aj sw).length/\(Dz sw rules).testBit n=true:=by
 rw[as7,cf,cu] at h
 exact h
theorem Kk (sw:Sw) (rules:List Sw):(As sw rules).Pairwise (· < ·):=List.Pairwise.filter _ jO
theorem as8 {sw:Sw} {rules:List Sw} (h:As sw rules≠[]):Kj sw rules≠0:=by
 obtain⟨n,hn⟩:=List.exists_mem_of_ne_nil _ h
 have:=(E5 hn).2
 rw[Hs]
 intro e
 have e:Dz sw rules=0:=by omega
 rw[e,dj] at this
 cases this
theorem Q4 {α β:Type} (f:α->List β) {s:Nat} (hs:0<s):∀ (l:List α),(∀ a∈l,(f a).length=s) -> ∀ n,(l.flatMap f)[n]? = (l[n / s]?).bind λa=>(f a)[n % s]?
 |[],_,n=>by simp
 | a::l,h,n=>by
  have ha:=h a aT
  rw[i6]
  by_cases hn:n<s
  .rw[bT (by rw[ha];exact hn),Nat.div_eq_of_lt hn,Nat.mod_eq_of_lt hn];rfl
  .rw[bD (by rw[ha];omega),ha,Q4 f hs l (λb hb=>h b (aB _ hb)),Nat.div_eq_sub_div (a:=n) hs (by omega),bK,Nat.mod_eq_sub_mod (a:=n) (by omega)]
theorem Dx:∀ (l:List Nat) (n:Nat),(Ma l n).length=l.length
 |[],_=>rfl
 |s::r,n=>by rw[Ma,aW,Dx r];rfl
theorem W7:∀ (L:Sw),(∀ x∈L,Fx x.2) -> ∀ (n:Nat) (r:List Str),(Aj L.reverse)[n]? = some r -> ∀ (i:Nat) (x:Str×List Str),L.reverse[i]? = some x -> ∃ d,(Ma (L.map (·.2.length)) n)[i]? = some d/\d<x.2.length/\r[i]? = x.2[d]?
 |[],_,n,r,_,i,x,hx=>by simp at hx
 | y::L,h,n,r,hr,i,x,hx=>by
  have oy:=h y aT
  have h2:∀ x∈L,Fx x.2:=λx hx=>h x (aB _ hx)
  have pos:0<y.2.length:=by have:=oy.2.1;omega
  have e:Aj (y::L).reverse=Eb (Aj L.reverse) y:=by unfold Aj;rw[List.reverse_cons,fF];rfl
  rw[e] at hr
  unfold Eb at hr
  rw[Q4 _ pos _ (λa _=>ae _)] at hr
  obtain⟨a,ha,hb⟩:=Option.bind_eq_some_iff.mp hr
  rw[am] at hb
  obtain⟨z,hz,rfl⟩:=Option.map_eq_some_iff.mp hb
  have la:a.length=L.length:=by
   have:=(G5 (sw:=L.reverse) λx hx=>h2 x (List.mem_reverse.mp hx)).2.1 a (ak ha)
   rwa[bP] at this
  rw[List.reverse_cons] at hx
  rw[aZ,Ma]
  by_cases hi:i<L.length
  .rw[bT (by rw[bP];exact hi)] at hx
   obtain⟨d,h3,h4,h5⟩:=W7 L h2 (n / y.2.length) a ha i x hx
   refine⟨d,?_,h4,?_⟩
   .rw[bT (by rw[Dx,ae];exact hi)];exact h3
   .rw[bT (by omega)];exact h5
  .have hi2:i=L.length:=by
    have:=Al hx
    rw[aW,bP] at this
    have:i<L.length+1:=this
    omega
   subst hi2
   rw[bD (by rw[bP];exact ai _),bP,f9] at hx
   cases hx
   refine⟨n % y.2.length,?_,Nat.mod_lt _ pos,?_⟩
   .rw[bD (by rw[Dx,ae];exact ai _),Dx,ae,f9];rfl
   .rw[bD (by omega),la,f9,hz];rfl
theorem a62 {sw:Sw} {n i:Nat} {r:List Str} {x:Str×List Str} (hw:okSw sw) (hn:(Aj sw)[n]? = some r) (hx:sw[i]? = some x):∃ d,(Oj sw n)[i]? = some d/\d<x.2.length/\r[i]? = x.2[d]?:=by
 have:=W7 sw.reverse (λx hx=>hw.sets x (List.mem_reverse.mp hx)) n r (by rw[kC];exact hn) i x (by rw[kC];exact hx)
 unfold Oj
 rwa[jC] at this
theorem Kf (sw:Sw) (n:Nat):(Oj sw n).length=sw.length:=by unfold Oj;rw[Dx,bP,ae]
structure GInv (n:Nat) (gs:List Gp):Prop where
 nd:(gs.map (·.1)).Nodup
 asc:(gs.map (·.2.1)).Pairwise (· < ·)
 one:∀ g∈gs,g.2.1<n/\g.2.2<2 ^ n/\g.2.2.testBit g.2.1=true /\ ∀ j,j<g.2.1->g.2.2.testBit j=false
theorem GInv.mono {n m:Nat} {gs:List Gp} (h:GInv n gs) (hm:n<=m):GInv m gs:=⟨h.nd,h.asc,λg hg=>let ⟨a,b,c⟩:=h.one g hg;⟨by omega,aJ b (ic (by decide) hm),c⟩⟩
theorem GInv.put {n:Nat} {gs:List Gp} (k:TK) (h:GInv n gs):GInv (n+1) (G0 gs k n):=by
 have h1:=h.mono (df n)
 unfold G0
 split
 .refine⟨?_,?_,λg hg=>?_⟩
  .have:(gs.map λg=>if g.1=k then (g.1,g.2.1,g.2.2 ||| 2 ^ n) else g).map (·.1)=gs.map (·.1):=by
    rw[aF]
    exact bU λg _=>by show (if _ then _ else _:Gp).1=_;split <;> rfl
   rw[this];exact h.nd
  .have:(gs.map λg=>if g.1=k then (g.1,g.2.1,g.2.2 ||| 2 ^ n) else g).map (·.2.1)=gs.map (·.2.1):=by
    rw[aF]
    exact bU λg _=>by show (if _ then _ else _:Gp).2.1=_;split <;> rfl
   rw[this];exact h.asc
  .obtain⟨g,hg0,rfl⟩:=List.mem_map.mp hg
   clear hg
   split
   .obtain⟨a,b,c,d⟩:=h.one g hg0
    refine⟨d_ a,?_,?_,λj hj=>?_⟩
    .show g.2.2 ||| 2 ^ n<2 ^ (n+1)
     rw[ah4 b,Nat.pow_succ];omega
    .show (g.2.2 ||| 2 ^ n).testBit g.2.1=true
     rw[fP,c];rfl
    .show (g.2.2 ||| 2 ^ n).testBit j=false
     rw[fP,d j hj,cT]
     exact decide_eq_false (by have:j<g.2.1:=hj;omega)
   .exact h1.one g hg0
 .rename_i hk
  refine⟨?_,?_,λg hg=>?_⟩
  .rw[ax]
   refine List.nodup_append.mpr ⟨h.nd,by simp,λa ha b hb e=>?_⟩
   have:b=k:=by simpa using hb
   exact hk (by rw[<- this,<- e];exact ha)
  .rw[ax]
   refine List.pairwise_append.mpr ⟨h.asc,by simp,λa ha b hb=>?_⟩
   have:b=n:=by simpa using hb
   obtain⟨g,hg,rfl⟩:=List.mem_map.mp ha
   rw[this]
   exact (h.one g hg).1
  .rcases List.mem_append.mp hg with hg|hg
   .exact h1.one g hg
   .obtain rfl:g=(k,n,2 ^ n):=by simpa using hg
    refine⟨cg n,?_,?_,λj hj=>?_⟩
    .show 2 ^ n<2 ^ (n+1)
     exact Nat.pow_lt_pow_right (by decide) (cg n)
    .show (2 ^ n).testBit n=true
     rw[cT];exact decide_eq_true rfl
    .show (2 ^ n).testBit j=false
     rw[cT];exact decide_eq_false (by have:j<n:=hj;omega)
theorem E6 {f:Nat->TK} {ns:List Nat} {i n:Nat} (h:ns[i]? = some n):Cb f (ns.take (i+1))=G0 (Cb f (ns.take i)) (f n) n:=Ca h _ _
theorem Qf {ns:List Nat} (asc:ns.Pairwise (· < ·)) {i n:Nat} (h:ns[i]? = some n):∀ m∈ns.take i,m<n:=λm hm=>by
 obtain⟨j,hj,rfl⟩:=List.mem_iff_getElem.mp hm
 rw[aK] at hj
 have hi:=Al h
 have e:ns[i]=n:=aD ((ah hi).symm.trans h)
 rw[i7,<- e]
 exact List.pairwise_iff_getElem.mp asc j i (by omega) hi (by omega)
theorem Gv {f:Nat->TK} {ns:List Nat} (asc:ns.Pairwise (· < ·)):∀ (i n:Nat),(∀ m∈ns.take i,m<n)->GInv n (Cb f (ns.take i))
 |0,n,_=>⟨kJ,i3,λg hg=>by cases hg⟩
 | i+1,n,h=>by
  cases e:ns[i]? with
  |none=>
   have e2:ns.take (i+1)=ns.take i:=by rw[aL,e];simp
   rw[e2] at h ⊢
   exact Gv asc i n h
  |some m=>
   rw[E6 e]
   have hm:m<n:=h m (by rw[aL,e];simp)
   exact ((Gv asc i m (Qf asc e)).put (f m)).mono hm
theorem ai9 {gs:List Gp} {k:TK} {n:Nat} {g:Gp} (h:g∈G0 gs k n):g.1=k\/g.1∈gs.map (·.1):=by
 unfold G0 at h
 split at h
 .obtain⟨g',hg,rfl⟩:=List.mem_map.mp h
  split
  .exact .inl ‹_›
  .exact .inr (dF hg)
 .rcases List.mem_append.mp h with h|h
  .exact .inr (dF h)
  .obtain rfl:g=(k,n,2 ^ n):=by simpa using h
   exact .inl rfl
theorem Kn {f:Nat->TK} {ns:List Nat}:∀ (i:Nat) {g:Gp},g∈Cb f (ns.take i) -> ∃ n∈ns,g.1=f n
 |0,g,h=>by cases h
 | i+1,g,h=>by
  cases e:ns[i]? with
  |none=>
   have e2:ns.take (i+1)=ns.take i:=by rw[aL,e];simp
   rw[e2] at h
   exact Kn i h
  |some m=>
   rw[E6 e] at h
   rcases ai9 h with h|h
   .exact⟨m,ak e,h⟩
   .obtain⟨g',hg,e3⟩:=List.mem_map.mp h
    obtain⟨n,hn,q⟩:=Kn i hg
    exact⟨n,hn,by rw[<- e3];exact q⟩
theorem bnd:∀ l:List Nat,∃ N,∀ m∈l,m<N
 |[]=>⟨0,λ_ h=>by cases h⟩
 | n::l=>by
  obtain⟨N,h⟩:=bnd l
  exact⟨N+n+1,λm hm=>by rcases List.mem_cons.mp hm with rfl|hm;omega;have:=h m hm;omega⟩
theorem Wj {tr:Nat->Tr} {ns:List Nat} (asc:ns.Pairwise (· < ·)) (h:∃ Ts:List Tr,Ts.length<=4 /\ ∀ n∈ns,tr n∈Ts) (i:Nat):(Cb (λn=>vkT (tr n)) (ns.take i)).length<=4:=by
 obtain⟨Ts,h4,hm⟩:=h
 obtain⟨N,hN⟩:=bnd (ns.take i)
 have:=R4 (x:=Ts.map vkT) (Gv (f:=λn=>vkT (tr n)) asc i N hN).nd λz hz=>by
  obtain⟨g,hg,rfl⟩:=List.mem_map.mp hz
  obtain⟨n,hn,e⟩:=Kn i hg
  rw[e]
  exact dF (hm n hn)
 rw[ae,ae] at this
 omega
theorem aw2 {gs:List Gp} {k:TK} {n:Nat} (h:¬ k∈gs.map (·.1)):G0 gs k n=gs++[(k,n,2 ^ n)]:=by unfold G0;rw[if_neg h]
mutual
def tkD:TK->Dt
 |.at_ k=>.at_ (kV k)
 |.tup l=>.tup (Hc l)
def Hc:List TK->List Dt
 |[]=>[]
 |k::ks=>tkD k::Hc ks
end
theorem Vq {K:ac} {H:Hp} (x:TK):∀ {v:V},TkAt H x v->At K H (tkD x) v:=by
 refine TK.rec (motive_1:=λx=>∀ {v:V},TkAt H x v->At K H (tkD x) v) (motive_2:=λl=>∀ {vs:List V},Aw H l vs->AtL K H (Hc l) vs) ?_ ?_ ?_ ?_ x
 .intro k v h;unfold TkAt at h;unfold tkD At;exact⟨h,Ou k⟩
 .intro l ih v h;unfold TkAt at h;obtain⟨a,xs,e,q,i⟩:=h;unfold tkD At;exact⟨a,xs,e,SqT.of q,ih i⟩
 .intro vs h;unfold Aw at h;unfold Hc AtL;exact h
 .intro x l h1 h2 vs h;unfold Aw at h;obtain⟨v,r,e,q1,q2⟩:=h;unfold Hc AtL;exact⟨v,r,e,h1 q1,h2 q2⟩
theorem a04 (x:TK):dep (tkD x)=Ap x:=by
 refine TK.rec (motive_1:=λx=>dep (tkD x)=Ap x) (motive_2:=λl=>Ez (Hc l)=B5 l) ?_ ?_ ?_ ?_ x
 .intro k;unfold tkD dep Ap;rfl
 .intro l ih;unfold tkD dep Ap;rw[ih]
 .unfold Hc Ez B5;rfl
 .intro x l h1 h2;unfold Hc Ez B5;rw[h1,h2]
theorem bi9 (x:TK):∀ y,deq (tkD x) (tkD y)=decide (x=y):=by
 refine TK.rec (motive_1:=λx=>∀ y,deq (tkD x) (tkD y)=decide (x=y)) (motive_2:=λl=>∀ l',E0 (Hc l) (Hc l')=decide (l=l')) ?_ ?_ ?_ ?_ x
 .intro k y
  cases y with
  |at_ k'=>unfold tkD deq;exact (aa9 k k').symm
  |tup l=>unfold tkD deq;exact (decide_eq_false λe=>by cases e).symm
 .intro l ih y
  cases y with
  |at_ k'=>unfold tkD deq;exact (decide_eq_false λe=>by cases e).symm
  |tup l'=>unfold tkD deq;rw[ih l'];exact decide_eq_decide.mpr ⟨λe=>by rw[e],λe=>by injection e⟩
 .intro l'
  cases l' with
  |nil=>unfold Hc E0;exact (decide_eq_true rfl).symm
  |cons _ _=>unfold Hc E0;exact (decide_eq_false λe=>by cases e).symm
 .intro x l h1 h2 l'
  cases l' with
  |nil=>unfold Hc E0;exact (decide_eq_false λe=>by cases e).symm
  |cons y l'=>
   unfold Hc E0
   rw[h1,h2,<- Bool.decide_and]
   exact decide_eq_decide.mpr ⟨fun⟨a,b⟩=>by rw[a,b],λe=>by injection e with a b;exact⟨a,b⟩⟩
theorem RcAt.tk {H:Hp} {a:Addr} {x:Rc} (h:RcAt H a x):TkAt H (rcT x) (.ref a):=by
 obtain⟨v,e,q⟩:=h
 unfold rcT TkAt
 refine⟨a,_,rfl,e,?_⟩
 unfold Aw;refine⟨_,_,rfl,by unfold TkAt;rfl,?_⟩
 unfold Aw;refine⟨_,_,rfl,by unfold TkAt;rfl,?_⟩
 unfold Aw;refine⟨_,_,rfl,by unfold TkAt;rfl,?_⟩
 unfold Aw;refine⟨_,_,rfl,q,?_⟩
 unfold Aw;rfl
theorem RcAt.up {H H':Hp} (h:∀ b ys,H b=some (.tup ys)->H' b=some (.tup ys)) {a:Addr} {x:Rc} (q:RcAt H a x):RcAt H' a x:=let ⟨v,e,q⟩:=q;⟨v,h _ _ e,q.up h⟩
theorem J3:∀ {T:Tr} {n:Str} {x:Rc},T.lookup n=some x->(n,x)∈T
 |[],_,_,h=>by cases h
 | (m,y)::T,n,x,h=>by
  rw[jB] at h
  split at h
  .rename_i e
   cases h
   rw[ck e]
   exact aT
  .exact aB _ (J3 h)
theorem T8:∀ {T:Tr} {n:Str} {x:Rc},(T.map (·.1)).Nodup->(n,x)∈T->T.lookup n=some x
 | (m,y)::T,n,x,nd,h=>by
  rw[aZ,bZ] at nd
  rw[jB]
  rcases List.mem_cons.mp h with e|h
  .cases e
   rw[beq_self_eq_true]
  .have:(n==m)=false:=beq_false_of_ne λe=>nd.1 (by rw[<- e];exact List.mem_map.mpr ⟨(n,x),h,rfl⟩)
   rw[this]
   exact T8 nd.2 h
theorem Db {n:Nat}:∀ {l:List TK},(∀ k∈l,Ap k<=n)->B5 l<=n
 |[],_=>by unfold B5;exact bx _
 |d::ds,h=>by unfold B5;exact Nat.max_le.mpr ⟨h d aT,Db λx hx=>h x (aB _ hx)⟩
theorem Hj (k:Key) (n:Nat):Ap (.at_ k)<=n:=by unfold Ap;exact bx _
theorem W4 {x:Rc} (h:Ap x.c<=2):Ap (rcT x)<=3:=by
 unfold rcT Ap
 refine cN (Db λk hk=>?_)
 simp only[aH,c_,or_false] at hk
 rcases hk with rfl|rfl|rfl|rfl
 .exact Hj _ _
 .exact Hj _ _
 .exact Hj _ _
 .exact h
theorem bj6 {T:Tr} (o:Cl T):Ap (vkT T)<=8:=by
 unfold vkT Ap
 refine cN (aY (Db (n:=4) λk hk=>?_) (by decide))
 obtain⟨n,_,rfl⟩:=List.mem_map.mp hk
 unfold Ap
 refine cN (Db λk hk=>?_)
 simp only[aH,c_,or_false] at hk
 rcases hk with rfl|rfl
 .exact Hj _ _
 .unfold Ur
  cases e:T.lookup n with
  |none=>unfold Option.map Option.getD Ap B5;decide
  |some x=>exact W4 (o.2.2 (n,x) (J3 e))
theorem Q9 {α β:Type} {F G:α->β} (h:∀ a b,F a=G b->a=b):∀ {l m:List α},l.map F=m.map G->l=m
 |[],[],_=>rfl
 |[],_::_,e=>by cases e
 |_::_,[],e=>by cases e
 | a::l,b::m,e=>by
  rw[aZ,aZ] at e
  injection e with e1 e2
  rw[h a b e1,Q9 h e2]
theorem Us {T:Tr} {n:Str} {x:Rc} (h:T.lookup n=some x):Ur T n=rcT x:=by unfold Ur;rw[h];rfl
theorem Ow {T:Tr} {n:Str} (h:¬ n∈T.map (·.1)):T.lookup n=none:=by
 cases e:T.lookup n with
 |none=>rfl
 |some x=>exact absurd (List.mem_map.mpr ⟨(n,x),J3 e,rfl⟩) h
theorem T7 {T:Tr} {n:Str} (o:Cl T) (h:n∈T.map (·.1)):∃ x,T.lookup n=some x/\(n,x)∈T:=by
 obtain⟨⟨m,x⟩,hx,rfl⟩:=List.mem_map.mp h
 exact⟨x,T8 o.1 hx,hx⟩
theorem Ny {T T':Tr} (o:Cl T) (o':Cl T') (e:vkT T=vkT T') (n:Str):stT T n=stT T' n:=by
 unfold vkT at e
 injection e with e
 have en:C7 ltS (T.map (·.1))=C7 ltS (T'.map (·.1)):=Q9 (λa b z=>by injection z with z;injection z with z _;injection z with z;injection z) e
 have mm:∀ n,n∈T.map (·.1) ↔ n∈T'.map (·.1):=λn=>by rw[<- (Bc ltS (T.map (·.1))).mem_iff,en,(Bc _ _).mem_iff]
 by_cases h:n∈T.map (·.1)
 .obtain⟨x,ex,_⟩:=T7 o h
  obtain⟨y,ey,_⟩:=T7 o' ((mm n).mp h)
  rw[<- en] at e
  have:=List.map_inj_left.mp e n ((Bc _ _).mem_iff.mpr h)
  injection this with this
  injection this with _ this
  injection this with this _
  rw[Us ex,Us ey] at this
  unfold stT
  rw[ex,ey,iy,iy,this]
 .unfold stT
  rw[Ow h,Ow λz=>h ((mm n).mpr z)]
theorem Op {T:Tr} (o:Cl T) (n:Str):ad9 (vkT T) n ↔ (stT T n).isSome=true:=⟨fun⟨T',o',e,h⟩=>by rw[<- Ny o' o e];exact h,λh=>⟨T,o,rfl,h⟩⟩
theorem Jv {f:Nat->TK} {ns:List Nat}:∀ (i:Nat),∀ n∈ns.take i,∃ g∈Cb f (ns.take i),g.1=f n
 |0,n,h=>by cases h
 | i+1,n,h=>by
  cases e:ns[i]? with
  |none=>
   have e2:ns.take (i+1)=ns.take i:=by rw[aL,e];simp
   rw[e2] at h ⊢
   exact Jv i n h
  |some m=>
   have km:∀ k,k∈(Cb f (ns.take i)).map (·.1)\/k=f m -> ∃ g∈Cb f (ns.take (i+1)),g.1=k:=λk hk=>by
    have:k∈(Cb f (ns.take (i+1))).map (·.1):=by
     rw[E6 e]
     unfold G0
     split
     .rename_i hh
      have q:((Cb f (ns.take i)).map λg=>if g.1=f m then (g.1,g.2.1,g.2.2 ||| 2 ^ m) else g).map (·.1)=(Cb f (ns.take i)).map (·.1):=by
       rw[aF]
       exact bU λg _=>by show (if _ then _ else _:Gp).1=_;split <;> rfl
      rw[q]
      rcases hk with hk|rfl
      .exact hk
      .exact hh
     .rw[ax]
      rcases hk with hk|rfl
      .exact bW _ hk
      .exact aP _ (by simp)
    obtain⟨g,hg,q⟩:=List.mem_map.mp this
    exact⟨g,hg,q⟩
   rw[aL,e] at h
   rcases List.mem_append.mp h with h|h
   .obtain⟨g,hg,q⟩:=Jv i n h
    exact km _ (.inl (List.mem_map.mpr ⟨g,hg,q⟩))
   .obtain rfl:n=m:=by simpa using h
    exact km _ (.inr rfl)
theorem Ju {f:Nat->TK} {ns:List Nat}:∀ (i:Nat) {g:Gp},g∈Cb f (ns.take i) -> ∀ n,g.2.2.testBit n=true ↔ n∈ns.take i/\f n=g.1
 |0,g,h=>by cases h
 | i+1,g,h=>by
  intro n
  cases e:ns[i]? with
  |none=>
   have e2:ns.take (i+1)=ns.take i:=by rw[aL,e];simp
   rw[e2] at h ⊢
   exact Ju i h n
  |some m=>
   have mt:n∈ns.take (i+1) ↔ n∈ns.take i\/n=m:=by rw[aL,e];simp
   rw[E6 e] at h
   unfold G0 at h
   rw[mt]
   split at h
   .obtain⟨g,hg,rfl⟩:=List.mem_map.mp h
    have ih:=Ju i hg n
    split
    .rename_i ek
     show (g.2.2 ||| 2 ^ m).testBit n=true ↔ _
     rw[fP,cT,cI,decide_eq_true_iff,ih]
     refine⟨λq=>q.elim (fun⟨a,b⟩=>⟨.inl a,b⟩) λz=>⟨.inr z.symm,by rw[<- z];exact ek.symm⟩,fun⟨a,b⟩=>a.elim (λa=>.inl ⟨a,b⟩) λz=>.inr z.symm⟩
    .rename_i ek
     rw[ih]
     refine⟨fun⟨a,b⟩=>⟨.inl a,b⟩,fun⟨a,b⟩=>a.elim (λa=>⟨a,b⟩) λz=>absurd (by rw[<- b,z]) ek⟩
   .rename_i hk
    rcases List.mem_append.mp h with h|h
    .rw[Ju i h n]
     refine⟨fun⟨a,b⟩=>⟨.inl a,b⟩,fun⟨a,b⟩=>a.elim (λa=>⟨a,b⟩) λz=>absurd (List.mem_map.mpr ⟨g,h,by rw[<- b,z]⟩) hk⟩
    .obtain rfl:g=(f m,m,2 ^ m):=by simpa using h
     show (2 ^ m).testBit n=true ↔ _
     rw[cT,decide_eq_true_iff]
     refine⟨λz=>⟨.inr z.symm,by rw[z]⟩,fun⟨a,b⟩=>a.elim (λa=>?_) λz=>z.symm⟩
     obtain⟨g,hg,q⟩:=Jv (f:=f) i n a
     exact absurd (List.mem_map.mpr ⟨g,hg,q.trans b⟩) hk
theorem Xb {l:List Nat} (asc:l.Pairwise (· < ·)):(l.map λi=>2 ^ i).sum=Dj l:=by
 have:∀ i,((l.take i).map λi=>2 ^ i).sum=Dj (l.take i):=λi=>by
  induction i with
  |zero=>rfl
  |succ i ih=>
   cases e:l[i]? with
   |none=>
    have e2:l.take (i+1)=l.take i:=by rw[aL,e];simp
    rw[e2];exact ih
   |some n=>
    have st:Dj (l.take (i+1))=Dj (l.take i) ||| 2 ^ n:=Ca e _ _
    rw[B1 e,List.sum_append,ih,st,ah4 (iS _ λj hj=>by
     rw[C1]
     exact decide_eq_false λz=>by have:=Qf asc e j z;omega)]
    simp
 have:=this l.length
 rwa[aC] at this
theorem and_ne {a b:Nat}:a &&& b≠0 ↔ ∃ j,a.testBit j=true/\b.testBit j=true:=by
 constructor
 .intro h
  refine fO λn=>h (dn λj=>?_)
  rw[cA,dj]
  cases e1:a.testBit j <;> cases e2:b.testBit j <;> first|rfl|exact absurd ⟨j,e1,e2⟩ n
 .rintro⟨j,h1,h2⟩ e
  have:=congrArg (·.testBit j) e
  simp[cA,h1,h2] at this
section
variable {ns Ws:List Nat} {tr:Nat->Tr} {gs:List Gp} {M:Nat}
theorem Bk.bits (S:Bk ns tr gs) {g:Gp} (hg:g∈gs) (n:Nat):g.2.2.testBit n=true ↔ n∈ns/\vkT (tr n)=g.1:=by
 have:=Ju (f:=λn=>vkT (tr n)) (ns:=ns) ns.length (g:=g) (by rw[aC,<- S.ge];exact hg) n
 rwa[aC] at this
theorem Bk.get (S:Bk ns tr gs) {n:Nat} (h:n∈ns):∃ g∈gs,g.1=vkT (tr n)/\g.2.2.testBit n=true:=by
 obtain⟨g,hg,e⟩:=Jv (f:=λn=>vkT (tr n)) (ns:=ns) ns.length n (by rw[aC];exact h)
 rw[aC,<- S.ge] at hg
 exact⟨g,hg,e,(S.bits hg n).mpr ⟨h,e.symm⟩⟩
theorem Seen.wasc (S:Seen ns tr gs Ws M):Ws.Pairwise (· < ·):=S.asc.sublist S.sub
theorem Seen.wns (S:Seen ns tr gs Ws M) {n:Nat} (h:n∈Ws):n∈ns:=S.sub.subset h
theorem Seen.lt (S:Seen ns tr gs Ws M):M<2 ^ 1000:=iS _ λj hj=>by
 rw[S.bit]
 exact decide_eq_false λz=>by have:=(S.ok j (S.wns z)).2;omega
theorem Seen.head (S:Seen ns tr gs Ws M):Ws.headD 0∈Ws /\ ∀ n∈Ws,Ws.headD 0<=n:=by
 have a:=S.wasc
 have ne:=S.ne
 cases Ws with
 |nil=>exact absurd rfl ne
 |cons w ws=>
  refine⟨aT,λn hn=>?_⟩
  rcases List.mem_cons.mp hn with rfl|hn
  .exact ai _
  .exact dy (iR a hn)
theorem Seen.least (S:Seen ns tr gs Ws M):Ty M (some (Ws.headD 0)):=⟨by rw[S.bit];exact decide_eq_true S.head.1,λj hj=>by rw[S.bit];exact decide_eq_false λz=>by have:=S.head.2 j z;omega⟩
theorem Seen.unl (S:Seen ns tr gs Ws M) {c:Nat} {z:Str} (h:∀ n,c.testBit n=true ↔ n∈Ws/\stT (tr n) z≠stT (tr (Ws.headD 0)) z):Ty c (Sk tr Ws z):=by
 unfold Sk
 cases e:Ws.find? λn=>decide (stT (tr n) z≠stT (tr (Ws.headD 0)) z) with
 |none=>
  refine dn λj=>?_
  rw[dj,i0]
  intro q
  obtain⟨a,b⟩:=(h j).mp q
  exact List.find?_eq_none.mp e j a (decide_eq_true b)
 |some n=>
  obtain⟨p,as,bs,ew,no⟩:=List.find?_eq_some_iff_append.mp e
  refine⟨(h n).mpr ⟨by rw[ew];simp,of_decide_eq_true p⟩,λj hj=>?_⟩
  rw[i0]
  intro q
  obtain⟨a,b⟩:=(h j).mp q
  have asc:=S.wasc
  rw[ew] at a asc
  rcases List.mem_append.mp a with a|a
  .have:=no j a
   rw[decide_eq_true b] at this
   cases this
  .rcases List.mem_cons.mp a with rfl|a
   .omega
   .have:=iR (List.pairwise_append.mp asc).2.1 a
    omega
end
section
variable {P:aS} {w:bz} {K:ac} {mg:Str->Option Value} {base:Heap} {t:Adr}
theorem bb8 (Z:An K t):OkD K Z4 (Ay K t) bl (t.f 20) (t.d 20) (Gb K t):=by
 refine okD (n:=40) (t:=bw2 K t) rfl (by decide +kernel) (by kernel_rfl) (λvs H Q E h=>?_) (λvs H Q E h=>?_)
 .obtain⟨a,ms,rfl,_⟩:=h;rfl
 .obtain⟨a,ms,rfl,hS,k⟩:=h
  refine .inl ⟨⟨_,hS⟩,?_⟩
  refine Bd (A5 (ms.map V.int)) (λi U H'=>(∃ v2,U=[some (.ref a),some (.int (Gd (ms.take i))),v2])/\H'=H) ⟨⟨_,rfl⟩,rfl⟩ (λi U H' _ q=>q.2▸hS) ?_ ?_
  .rintro i x U H' hx ⟨⟨v2,rfl⟩,rfl⟩
   obtain⟨m,hm,rfl⟩:=Am hx
   have e:Gd (ms.take (i+1))=cU (Gd (ms.take i)) m:=Ca hm _ _
   exact⟨⟨_,congrArg (λz=>[some (V.ref a),some (V.int z),some (V.int m)]) e.symm⟩,rfl⟩
  .rintro U H' ⟨⟨v2,rfl⟩,rfl⟩
   rw[ae,aC]
   exact .inl k
theorem bc3 (Z:An K t):OkD K Z9 (Ay K t) bl (t.f 30) (t.d 30) (Vl K t):=by
 refine okD (n:=40) (t:=bw7 K t) rfl (by decide +kernel) (by kernel_rfl) (λvs H Q E h=>?_) (λvs H Q E h=>?_)
 .obtain⟨a,ms,rfl,_⟩:=h;rfl
 .obtain⟨a,ms,rfl,hS,hb,k⟩:=h
  refine .inl ⟨⟨_,hS⟩,?_⟩
  refine Bd (A5 (ms.map λn:Nat=>V.int (n:Int))) (λi U H'=>(∃ v2,U=[some (.ref a),some (.int (Y0 (ms.take i))),v2])/\H'=H) ⟨⟨_,rfl⟩,rfl⟩ (λi U H' _ q=>q.2▸hS) ?_ ?_
  .rintro i x U H' hx ⟨⟨v2,rfl⟩,rfl⟩
   obtain⟨m,hm,rfl⟩:=Am hx
   have e:Y0 (ms.take (i+1))=cU (Y0 (ms.take i)) (1 * 2 ^ ((m:Int)).toNat):=by
    rw[jp,aU]
    exact Ca hm _ _
   have hm2:=hb m (ak hm)
   refine⟨⟨by omega,by omega,by decide⟩,?_⟩
   exact⟨⟨_,congrArg (λz=>[some (V.ref a),some (V.int z),some (V.int (m:Int))]) e.symm⟩,rfl⟩
  .rintro U H' ⟨⟨v2,rfl⟩,rfl⟩
   rw[ae,aC]
   exact .inl k
theorem a89 (Z:An K t):OkD K Vy (Ay K t) bl (t.m_zbt 3) (t.e_zbt 3) (Uy K t):=by
 refine okD (n:=40) (t:=bt4 K t) rfl (by decide +kernel) (by kernel_rfl) (λvs H Q E h=>?_) (λvs H Q E h=>?_)
 .obtain⟨p,l,s,sw,rfl,_⟩:=h;rfl
 .obtain⟨p,l,s,sw,rfl,⟨dx,fs,⟨_,hp⟩,hl,hs,hm⟩,⟨ds,e,⟨_,o⟩,_⟩,k⟩:=h
  refine fJ ⟨_,_,_,_,hp,Z.pf.cl,(Z.pf.na _ (by simp)),hl,(.inl ⟨_,.inl (SqL.of o),?_⟩)⟩
  have el:(ds.map λx=>V.ref x.2).length=(Aj sw).length:=by rw[<- e];simp
  rw[el]
  exact k
theorem bo2 (Z:An K t):OkD K ap9 (Ay K t) bl (t.m_zbt 0) (t.e_zbt 0) (am0 K t):=by
 refine okD (n:=40) (t:=b11 K t) rfl (by decide +kernel) (by kernel_rfl) (λvs H Q E h=>?_) (λvs H Q E h=>?_)
 .obtain⟨p,l,s,sw,rfl,_⟩:=h;rfl
 .obtain⟨p,l,s,sw,rfl,hs,ht,hn,k⟩:=h
  obtain⟨dx,fs,⟨_,hp⟩,_,_,hm⟩:=id hs
  refine⟨p,dx,fs,⟨t.c_zbt,ae1 K t⟩,rfl,.head _,hp,hm _ (by decide),⟨aI rfl,aI rfl⟩,?_⟩
  refine⟨p,l,s,sw,rfl,hs,ht,⟨by omega,by omega,by decide⟩,?_⟩
  have e:1 * 2 ^ (((Aj sw).length:Int)).toNat - 1=N7 sw:=by rw[jp,aU];rfl
  show Q (.int (1 * 2 ^ (((Aj sw).length:Int)).toNat - 1)) H
  rw[e]
  exact k
theorem a92 (Z:An K t):OkD K Zj (Ay K t) bl (t.f 21) (t.d 21) (U0 K t):=by
 refine okD (n:=40) (t:=bt7 K t) rfl (by decide +kernel) (by kernel_rfl) (λvs H Q E h=>?_) (λvs H Q E h=>?_)
 .obtain⟨z,lo,hi,rfl,_⟩:=h;rfl
 .obtain⟨z,lo,hi,rfl,hz,k⟩:=h
  exact⟨rfl,aY hz (by decide),M5 k⟩
theorem ba0 (Z:An K t):OkD K Zn (Ay K t) bl (t.f 22) (t.d 22) (U6 K t):=by
 refine okD (n:=40) (t:=a34 K t) rfl (by decide +kernel) (by kernel_rfl) (λvs H Q E h=>?_) (λvs H Q E h=>?_)
 .obtain⟨x,rfl,_⟩:=h;rfl
 .obtain⟨c,rfl,k⟩:=h
  dsimp only[a34,Ae,Ar]
  exact as2 (s1 := "a") (s2 := "z") (c:=c) (i:=0) (a:=97) (b:=122) (by decide +kernel) (by decide +kernel) (by rfl) k
theorem bb9 (Z:An K t):OkD K Z5 (Ay K t) bl (t.f 23) (t.d 23) (Px K t):=by
 refine okD (n:=40) (t:=bw3 K t) rfl (by decide +kernel) (by kernel_rfl) (λvs H Q E h=>?_) (λvs H Q E h=>?_)
 .obtain⟨x,rfl,_⟩:=h;rfl
 .obtain⟨z,rfl,hz,k⟩:=h
  have hl:z.length<=1000:=aY hz.2.1 (by decide)
  refine⟨z,1,8,rfl,hl,?_⟩
  have e:(decide (1<=(z.length:Int))&&decide ((z.length:Int)<=8))=true:=by
   have h1:=hz.1
   have h2:=hz.2.1
   simp
   omega
  refine Ir e ?_
  refine Xp (p:=J2) hl (λc U H1 Q1 hU q=>?_) λH' S=>?_
  .match U,hU with
   |[_],_=>exact⟨c,rfl,q⟩
  .rw[hz.2.2];exact k H' S
theorem bo4 (Z:An K t):OkD K a41 (Ay K t) bl (t.f 24) (t.d 24) (Xf K t):=by
 refine okD (n:=40) (t:=b15 K t) rfl (by decide +kernel) (by kernel_rfl) (λvs H Q E h=>?_) (λvs H Q E h=>?_)
 .obtain⟨a,l,rfl,_⟩:=h;rfl
 .obtain⟨a,l,rfl,hS,hl,k⟩:=h
  refine⟨_,true,.sqL rfl hS rfl,rfl,?_⟩
  refine .inl ⟨⟨_,hS⟩,?_⟩
  refine Qr (K:=K) (U:=[none]) (A5 (l.map V.str)) (λU=>U.length=1) (λH1 S=>S.seqL hS) ?_ rfl (λU x hU=>by rw[j0];exact hU) ?_ λD1 H1 S1 q1=>⟨_,q1,?_⟩
  .rw[ae];exact bi hl.2.2 (by decide)
  .intro x U H1 Q1 hx hU S q
   obtain⟨z,hz,rfl⟩:=List.mem_map.mp hx
   match U,hU with
   |[_],_=>exact⟨z,rfl,hl.1 z hz,q⟩
  .rw[Wa]
   refine⟨l,S1.seqL hS,bi hl.2.2 (by decide),.inl ⟨_,.inl (S1.seqL hS),?_⟩⟩
   rw[at8 hl.2.1,ae]
   have e:decide ((l.length:Int)=(l.length:Int))=true:=by simp
   show Q (.bl (decide ((l.length:Int)=(l.length:Int)))) H1
   rw[e]
   exact k H1 S1
theorem ba1 (Z:An K t):OkD K Zo (Ay K t) bl (t.f 26) (t.d 26) (U7 K t):=by
 refine okD (n:=40) (t:=bu5 K t) rfl (by decide +kernel) (by kernel_rfl) (λvs H Q E h=>?_) (λvs H Q E h=>?_)
 .obtain⟨a,b,wd,l,rfl,_⟩:=h;rfl
 .obtain⟨a,b,wd,l,rfl,ha,hb,hw,hl,k⟩:=h
  have qa:=SqT.of (K:=K) ha
  have qb:=SqL.of (K:=K) hb
  refine⟨_,true,.sqT rfl qa rfl,rfl,?_⟩
  refine .inl ⟨_,.inr qa,?_⟩
  refine⟨_,_,.inr qa,rfl,?_⟩
  refine⟨wd,rfl,hw,λH1 S1=>?_⟩
  refine⟨_,_,.inr (S1.seqT qa),rfl,?_⟩
  refine⟨b,l,rfl,S1.seqL qb,hl.1,λH2 S2=>?_⟩
  have S:=S1.trans S2
  refine⟨_,_,.inr (S.seqT qa),rfl,.inl ⟨_,.inl (S.seqL qb),?_⟩⟩
  rw[ae]
  have e:(decide (2<=(l.length:Int))&&decide ((l.length:Int)<=4))=true:=by
   have h1:=hl.2.1
   have h2:=hl.2.2
   simp
   omega
  exact M5 (e▸k H2 S)
theorem O7 {es:List ((Str×List Str)×Addr)} {sw:Sw} {i:Nat} {e:Str×List Str} (he:es.map (·.1)=sw.take i) (hi:sw[i]? = some e) (nd:(sw.map (·.1)).Nodup):B0 (es.map kR) (.inr e.1)=none:=by
 refine B3 ?_
 rw[J0,he]
 intro hm
 obtain⟨w,hw,e2⟩:=List.mem_map.mp hm
 cases e2
 have h1:(sw.map (·.1))[i]? = some e.1:=by rw[am,hi];rfl
 rw[ig] at hw
 obtain⟨j,hj,e3⟩:=List.mem_iff_getElem.mp hw
 rw[aK] at hj
 rw[i7] at e3
 have hi2:=Al h1
 have e4:(sw.map (·.1))[i]=e.1:=by
  have:=ah hi2
  rw[this] at h1
  exact aD h1
 have:=(c9 (i:=j) (j:=i) (h₀:=by omega) (h₁:=hi2) nd).mp (by rw[e3,e4])
 omega
theorem Jz {es:List ((Str×List Str)×Addr)} {e:Str×List Str} {a:Addr} (h:B0 (es.map kR) (.inr e.1)=none):C4 (es.map kR) (.inr e.1) (.ref a)=(es++[(e,a)]).map kR:=by
 rw[D9 _ h,ax]
 rfl
theorem Tm {α β:Type} {es:List (α×β)} {sw:List α} {i:Nat} (h:es.map (·.1)=sw.take i):es.length<=sw.length:=by
 have:=congrArg cJ h
 rw[ae,aK] at this
 omega
theorem Gu {α β:Type} {es:List (α×β)} {sw:List α} {i:Nat} {e:α} {a:β} (h:es.map (·.1)=sw.take i) (hi:sw[i]? = some e):(es++[(e,a)]).map (·.1)=sw.take (i+1):=by
 rw[ax,h,aL,hi]
 rfl
theorem bp1 (Z:An K t):OkD K a43 (Ay K t) bl (t.f 27) (t.d 27) (am7 K t):=by
 refine okD (n:=40) (t:=b22 K t) rfl (by decide +kernel) (by kernel_rfl) (λvs H Q E h=>?_) (λvs H Q E h=>?_)
 .obtain⟨a,sw,rfl,_⟩:=h;rfl
 .obtain⟨a,sw,rfl,⟨ds,ed,⟨_,oa⟩,hd⟩,hw,k⟩:=h
  have ql:=SqL.of (K:=K) oa
  have el:(ds.map λx=>V.ref x.2).length=sw.length:=by rw[<- ed];simp
  refine⟨_,true,.sqL rfl ql rfl,rfl,?_⟩
  refine .inl ⟨_,.inl ql,?_⟩
  rw[el]
  have e1:decide (1<=(sw.length:Int))=true:=by have:=hw.1;simp;omega
  have e2:decide ((sw.length:Int)<=5)=true:=by have:=hw.2.1;simp;omega
  refine Ir e1 (E9 (by rw[e2];rfl) ?_)
  intro d hd0
  refine .inl (.inl ⟨⟨_,(Same.upd hd0).seqL ql⟩,?_⟩)
  refine Bd (A5 (ds.map λx=>V.ref x.2)) (λi U H'=>(∃ v3,U=[some (.ref a),some (.ref d),some (.int (B4 (sw.take i):Nat)),v3])/\Same H H' /\
    ∃ es:List ((Str×List Str)×Addr),es.map (·.1)=sw.take i/\H' d=some (.dK (es.map kR)) /\ ∀ x∈es,H x.2=none/\H' x.2=some (C9 x.1.2))
   ⟨⟨_,rfl⟩,Same.upd hd0,[],rfl,Ab,λx hx=>by cases hx⟩ (λi U H' _ q=>q.2.1.seqL ql) ?_ ?_
  .rintro i x U H1 hx ⟨⟨v3,rfl⟩,S1,es,ee,e1d,he⟩
   obtain⟨⟨⟨e,la⟩,ta⟩,hi,rfl⟩:=Am hx
   have hi2:sw[i]? = some e:=by rw[<- ed,am,hi];rfl
   obtain⟨⟨_,h1⟩,_,h2⟩:=hd _ (ak hi)
   have hok:=hw.2.2.2.1 e (ak hi2)
   have nk:=O7 ee hi2 hw.2.2.1
   refine⟨ta,la,e.1,e.2,rfl,S1 _ _ h1,S1 _ _ h2,hok.1,hok.2,λH2 S2=>?_⟩
   have S:=S1.trans S2
   have qt:=SqT.of (K:=K) (S _ _ h1)
   have qa:=SqL.of (K:=K) (S _ _ h2)
   refine⟨_,_,.inr qt,rfl,.inr ⟨_,DGet.k (k:=.inr e.1) (S2 _ _ e1d),?_⟩⟩
   rw[nk]
   refine⟨_,_,.inr qt,rfl,_,.inl ⟨qa,λtp htp=>?_⟩⟩
   have S3:=Same.upd (o:=C9 e.2) htp
   have et:upd H2 tp (C9 e.2) tp=some (C9 e.2):=Ab
   show Co K (Aa 1) (Ah (A3 K) (Aa 3) (dC (.int 0))) (.ref tp) [some (.ref a),some (.ref d),some (.int (B4 (sw.take i):Nat)),some (.ref ta)] (upd H2 tp (C9 e.2)) _
   have hft:H tp=none:=S.free htp
   generalize upd H2 tp (C9 e.2)=H3 at S3 et ⊢
   have Sa:=S.trans S3
   have e3d:=S3 _ _ (S2 _ _ e1d)
   have ndt:d≠tp:=Ai (S2 _ _ e1d) htp
   refine⟨_,_,.inr (S3.seqT qt),rfl,_,DPut.k (k:=.inr e.1) e3d ?_,?_⟩
   .rw[ae]
    have:=Tm ee
    have:=hw.2.1
    exact bi (show es.length<=5 by omega) (by decide)
   rw[Jz nk]
   have Sb:Same H (upd H3 d (.dK ((es++[(e,tp)]).map kR))):=Sa.set hd0
   have keep:∀ b,b≠d->upd H3 d (.dK ((es++[(e,tp)]).map kR)) b=H3 b:=λb hb=>Ad hb
   have ebd:upd H3 d (.dK ((es++[(e,tp)]).map kR)) d=some (.dK ((es++[(e,tp)]).map kR)):=Ab
   generalize upd H3 d (.dK ((es++[(e,tp)]).map kR))=H4 at Sb keep ebd ⊢
   refine⟨_,_,.inr (SqT.of (Sb _ _ h1)),rfl,.inl ⟨_,.inl (SqL.of (Sb _ _ h2)),?_⟩⟩
   rw[ae]
   have pm:((B4 (sw.take i):Nat):Int) * (e.2.length:Int)=((B4 (sw.take (i+1)):Nat):Int):=by
    unfold B4
    rw[Ca hi2,jW]
   have hb4:=hok.2.2.2
   refine⟨.inr ⟨show -(2 ^ 64)<(e.2.length:Int) by omega,show (e.2.length:Int)<2 ^ 64 by omega⟩,?_⟩
   refine⟨⟨_,congrArg (λz=>[some (V.ref a),some (V.ref d),some (V.int z),some (V.ref ta)]) pm⟩,Sb,es++[(e,tp)],Gu ee hi2,ebd,?_⟩
   intro x hx
   rcases List.mem_append.mp hx with hx|hx
   .obtain⟨a1,a2⟩:=he x hx
    refine⟨a1,?_⟩
    rw[keep x.2 (λz=>by rw[z,e1d] at a2;cases a2)]
    exact S3 _ _ (S2 _ _ a2)
   .have:x=(e,tp):=by simpa using hx
    subst this
    exact⟨hft,by rw[keep _ (ce ndt)];exact et⟩
  .rintro U H1 ⟨⟨v3,rfl⟩,S1,es,ee,e1d,he⟩
   rw[el,aC] at ee
   rw[el,aC]
   refine .inl (E9 ?_ ?_)
   .have:=hw.2.2.2.2
    simp
    omega
   .exact k H1 d S1 ⟨es,ee,⟨hd0,e1d⟩,he⟩
theorem bq1 (Z:An K t):OkD K a47 (Ay K t) bl (t.f 25) (t.d 25) (an5 K t):=by
 refine okD (n:=40) (t:=b32 K t) rfl (by decide +kernel) (by kernel_rfl) (λvs H Q E h=>?_) (λvs H Q E h=>?_)
 .obtain⟨r,rule,rfl,_⟩:=h;rfl
 .obtain⟨r,rule,rfl,⟨ds,ed,⟨_,od⟩,hd⟩,nd,hl,k⟩:=h
  intro c hc
  have ncr:r≠c:=Ai od hc
  have od1:upd H c (.dK []) r=some (.dK (ds.map kR)):=by rw[Ad ncr];exact od
  refine .inl (.inr (.inr (.inl (.inl ⟨_,od1,λo=>?_⟩))))
  have Hf:∀ b u,b≠r->H b=some u->upd (upd H c (.dK [])) r (.frz o (.dK (ds.map kR))) b=some u:=λb u hb e=>by
   rw[Ad hb,Ad (Ai e hc)];exact e
  have ef:upd (upd H c (.dK [])) r (.frz o (.dK (ds.map kR))) r=some (.frz o (.dK (ds.map kR))):=Ab
  have ec:upd (upd H c (.dK [])) r (.frz o (.dK (ds.map kR))) c=some (.dK []):=by rw[Ad (ce ncr),Ab]
  have len:ds.length=rule.length:=by rw[<- ed];simp
  generalize upd (upd H c (.dK [])) r (.frz o (.dK (ds.map kR)))=H0 at Hf ef ec ⊢
  refine Bd (Er (ds.map kR)) (λi U H'=>(∃ v2,U=[some (.ref r),some (.ref c),v2])/\(∀ b u,b≠r->H b=some u->H' b=some u)/\H' r=some (.frz o (.dK (ds.map kR))) /\
    ∃ es:List ((Str×List Str)×Addr),es.map (·.1)=rule.take i/\H' c=some (.dK (es.map kR)) /\ ∀ x∈es,H x.2=none/\H' x.2=some (Be x.1.2))
   ⟨⟨_,rfl⟩,Hf,ef,[],rfl,ec,λx hx=>by cases hx⟩ (λi U H' _ q=>q.2.2.1) ?_ ?_
  .rintro i x U H1 hx ⟨⟨v2,rfl⟩,S1,f1,es,ee,e1c,he⟩
   obtain⟨kv,hi0,rfl⟩:=Am hx
   obtain⟨⟨e,la⟩,hi,rfl⟩:=Am hi0
   have hi2:rule[i]? = some e:=by rw[<- ed,am,hi];rfl
   obtain⟨_,h2⟩:=hd _ (ak hi)
   have nla:la≠r:=λz=>by rw[z,od] at h2;cases h2
   have nk:=O7 ee hi2 nd
   have hv:B0 (ds.map kR) (.inr e.1)=some (.ref la):=Bm (Ej ed nd) hi0
   refine⟨.ref la,.inl ⟨_,.inr e.1,.inr ⟨o,f1⟩,rfl,hv.symm⟩,.inl ⟨_,.inl (SqL.of (S1 _ _ nla h2)),λlc hlc=>?_⟩⟩
   have S3:=Same.upd (o:=Be e.2) hlc
   have et:upd H1 lc (Be e.2) lc=some (Be e.2):=Ab
   have nlr:lc≠r:=(Ai f1 hlc).symm
   have hft:H lc=none:=by
    cases q:H lc with
    |none=>rfl
    |some u=>rw[S1 _ _ nlr q] at hlc;cases hlc
   have ndt:c≠lc:=Ai e1c hlc
   show Co K (Aa 1) (Aa 2) (.ref lc) [some (.ref r),some (.ref c),some (.str e.1)] (upd H1 lc (Be e.2)) _
   generalize upd H1 lc (Be e.2)=H3 at S3 et ⊢
   refine⟨_,DPut.k (k:=.inr e.1) (S3 _ _ e1c) ?_,?_⟩
   .rw[ae]
    have:=Tm ee
    exact bi (show es.length<=100 by omega) (by decide)
   rw[Jz nk]
   refine⟨⟨_,rfl⟩,λb u hb e4=>?_,?_,es++[(e,lc)],Gu ee hi2,Ab,?_⟩
   .rw[Ad (Ai e4 hc)];exact S3 _ _ (S1 _ _ hb e4)
   .rw[Ad ncr];exact S3 _ _ f1
   .intro x hx
    rcases List.mem_append.mp hx with hx|hx
    .obtain⟨a1,a2⟩:=he x hx
     refine⟨a1,?_⟩
     rw[Ad (λz=>by rw[z,e1c] at a2;cases a2)]
     exact S3 _ _ a2
    .have:x=(e,lc):=by simpa using hx
     subst this
     exact⟨hft,by rw[Ad (ce ndt)];exact et⟩
  .rintro U H1 ⟨⟨v2,rfl⟩,S1,f1,es,ee,e1c,he⟩
   rw[ae,ae,len,aC] at ee
   refine .inr ⟨r,o,_,od1,f1,?_⟩
   refine k _ c (λb u e4=>?_) ⟨es,ee,⟨hc,?_⟩,λx hx=>⟨(he x hx).1,?_⟩⟩
   .by_cases hb:b=r
    .subst hb;rw[Ab,<- od,e4]
    .rw[Ad hb];exact S1 _ _ hb e4
   .rw[Ad (ce ncr)];exact e1c
   .rw[Ad (λz=>by have:=(he x hx).1;rw[z,od] at this;cases this)];exact (he x hx).2
theorem Nu:∀ (a:List (List Str)) (r:List Str) (k:Nat),K4 k (a++[r])=K4 k a++[(Md r,.int ((k+a.length:Nat):Int))]
 |[],r,k=>rfl
 | b::a,r,k=>by
  rw[e8,K4,Nu a r (k+1),K4,aO,e8,show k+1+a.length=k+(a.length+1) by omega]
theorem Nt:∀ (a:List (List Str)) (k:Nat),(K4 k a).map (·.1)=a.map Md
 |[],_=>rfl
 |b::a,k=>by rw[K4,aZ,aZ,Nt a]
theorem Rl:∀ (a:List (List Str)) (k:Nat),(K4 k a).length=a.length
 |[],_=>rfl
 |b::a,k=>by rw[K4,aO,aO,Rl a]
theorem ag8 {a b:List Str} (h:Md a=Md b):a=b:=by
 unfold Md at h
 injection h with h
 exact (List.map_inj_right (λx y e=>by injection e with e;injection e)).mp h
theorem J4 {H:Hp}:∀ r:List Str,Aw H (r.map λz=>.at_ (.inr z)) (r.map V.str)/\B5 (r.map λz=>.at_ (.inr z))=0
 |[]=>⟨by unfold Aw;rfl,rfl⟩
 |z::r=>⟨by rw[aZ];unfold Aw;exact⟨_,_,rfl,by unfold TkAt;rfl,(J4 r).1⟩,by rw[aZ,B5,(J4 (H:=H) r).2];rfl⟩
theorem a88 {H:Hp} {b:Addr} {r:List Str} (h:H b=some (C9 r)):Ap (Md r)<=8/\TkAt H (Md r) (.ref b):=by
 refine⟨?_,?_⟩
 .unfold Md Ap;rw[(J4 (H:=H) r).2];decide
 .unfold Md TkAt;exact⟨b,_,rfl,h,(J4 r).1⟩
theorem Ed {α:Type} {l:List α} {i:Nat} {x:α} (nd:l.Nodup) (h:l[i]? = some x):¬ x∈l.take i:=by
 intro hm
 obtain⟨j,hj,e⟩:=List.mem_iff_getElem.mp hm
 rw[aK] at hj
 rw[i7] at e
 have hi:=Al h
 rw[ah hi] at h
 have:=(c9 (i:=j) (j:=i) (h₀:=by omega) (h₁:=hi) nd).mp (by rw[e];exact (aD h).symm)
 omega
theorem bo0 (Z:An K t):OkD K a39 (Ay K t) bl (t.f 29) (t.d 29) (al6 K t):=by
 refine okD (n:=40) (t:=b08 K t) rfl (by decide +kernel) (by kernel_rfl) (λvs H Q E h=>?_) (λvs H Q E h=>?_)
 .obtain⟨l,rows,rfl,_⟩:=h;rfl
 .obtain⟨l,rows,rfl,⟨ds,ed,⟨_,ol⟩,hd⟩,nd,hl,k⟩:=h
  intro n hn
  have ql:=SqL.of (K:=K) ol
  have len:(Dy 0 (ds.map λx=>V.ref x.2)).length=rows.length:=by rw[Br,<- ed];simp
  refine .inr (.inl ⟨⟨_,(Same.upd hn).seqL ql⟩,?_⟩)
  refine Jr (Fs (ds.map λx=>V.ref x.2)) (λi U H'=>(∃ v2 v3,U=[some (.ref l),some (.ref n),v2,v3])/\Same H H'/\H' n=some (.dT (K4 0 (rows.take i))))
   ⟨⟨_,_,rfl⟩,Same.upd hn,Ab⟩ (λi U H' _ q=>q.2.1.seqL ql) ?_ ?_
  .rintro i x y T U H1 hxy hT ⟨⟨v2,v3,rfl⟩,S1,e1⟩
   have hi':=Al hxy
   rw[Br,ae] at hi'
   obtain⟨⟨r,b⟩,hi⟩:∃ z,ds[i]? = some z:=⟨_,ah hi'⟩
   have:=Ct (k:=0) (xs:=ds.map λx=>V.ref x.2) (i:=i) (x:=.ref b) (by rw[am,hi];rfl)
   rw[this] at hxy
   obtain⟨rfl,rfl⟩:V.int ((0+i:Nat):Int)=x/\V.ref b=y:=by simpa using hxy
   have hi2:rows[i]? = some r:=by rw[<- ed,am,hi];rfl
   have hb:=(hd _ (ak hi)).2
   have ST:=Same.upd (o:=.tup [.int ((0+i:Nat):Int),.ref b]) hT
   refine⟨_,.inl (SqT.of Ab),rfl,?_⟩
   generalize upd H1 T (.tup [.int ((0+i:Nat):Int),.ref b])=H2 at ST ⊢
   have S2:=S1.trans ST
   have hb2:=S2 _ _ hb
   refine⟨_,DPut.t (ST _ _ e1) (a88 hb2) ?_,⟨_,_,rfl⟩,S2.set hn,?_⟩
   .rw[Rl,aK]
    exact bi (show min i rows.length<=256 by omega) (by decide)
   .rw[Ab,D9,aL,hi2,cK,Nu,aK,Nat.min_eq_left (dy (Al hi2))]
    refine B3 ?_
    rw[Nt]
    intro hm
    obtain⟨r2,h1,h2⟩:=List.mem_map.mp hm
    rw[ag8 h2] at h1
    exact Ed nd hi2 h1
  .rintro U H1 ⟨⟨v2,v3,rfl⟩,S1,e1⟩
   rw[len,aC] at e1
   exact .inl (k H1 n S1 ⟨hn,e1⟩)
theorem bx9 {H:Hp} {aa p:Addr} {a:List Str} {z:Str} {Q:VK} (ha:H aa=some (C9 a)) (hp:H p=some (.tup [.str z])) (hl:a.length<=100) (k:∀ q H',Same H H'->H' q=some (C9 (a++[z]))->(H q=none\/q=p)->Q (.ref q) H'):A9 K (.ref aa) (.ref p) H Q:=by
 cases a with
 |nil=>exact .inr (.inr ⟨aa,p,_,rfl,rfl,SqT.of ha,SqT.of hp,k p H (Same.refl _) hp (.inr rfl)⟩)
 |cons y a=>
  refine .inr (.inl ⟨aa,p,_,_,rfl,rfl,SqT.of ha,SqT.of hp,by simp,?_,(λe=>by cases e),λ_ q hq=>?_⟩)
  .rw[ae]
   exact aY (show (y::a).length+1<=101 by omega) (by decide)
  .refine k q _ (Same.upd hq) ?_ (.inl hq)
   rw[Ab,C9,ax]
   rfl
theorem Xy {α:Type} {ok:Addr->Prop} {H:Hp} {f:α->HO} {es:List (α×Addr)} {e:α} {a:Addr} (h:∀ x∈es,ok x.2/\H x.2=some (f x.1)) (h1:ok a) (h2:H a=some (f e)):∀ x∈es++[(e,a)],ok x.2/\H x.2=some (f x.1):=by
 intro x hx
 rcases List.mem_append.mp hx with hx|hx
 .exact h x hx
 .have:x=(e,a):=by simpa using hx
  subst this
  exact⟨h1,h2⟩
theorem as4 {α:Type} {ok:Addr->Prop} {H H':Hp} {f:α->HO} {es:List (α×Addr)} (S:Same H H') (h:∀ x∈es,ok x.2/\H x.2=some (f x.1)):∀ x∈es,ok x.2/\H' x.2=some (f x.1):=λx hx=>⟨(h x hx).1,S _ _ (h x hx).2⟩
theorem Y5 {rows:List (List Str)} {j:Nat} {r:List Str} {x:Str×List Str} (h:rows[j]? = some r):Eb (rows.take (j+1)) x=Eb (rows.take j) x++x.2.map λz=>r++[z]:=by
 unfold Eb
 rw[aL,h,cK,List.flatMap_append]
 simp
theorem T9 {E:EK} {H0 H:Hp} {aa ta:Addr} {a:List Str} {l:List Str} {U:St} {R:Hp->Addr->Prop} (hU:∃ v,U=[v,some (.ref aa)]) (S0:Same H0 H) (ha:H aa=some (C9 a)) (ht:H ta=some (C9 l)) (hl:a.length<=100) (hl2:l.length<=8)
  (k:∀ D H',Same H H'->H D=none -> ∀ fs:List (List Str×Addr),fs.map (·.1)=l.map (λz=>a++[z])->H' D=some (.lst (fs.map λx=>.ref x.2))->(∀ x∈fs,H0 x.2=none/\H' x.2=some (C9 x.1))->R H' D) :
  ∀ D,H D=none->Ef (Itt K ta) (gdN 0) Ck (Ah (A9 K) (Aa 1) (Dw (Ac (Aa 0) Ag))) D (λH'=>R H' D) U (upd H D (.lst [])) E:=by
 intro D hD
 refine Cr (ap7 (l.map V.str)) (λm U H'=>(∃ v,U=[v,some (.ref aa)])/\Same H H' /\ ∃ fs:List (List Str×Addr),fs.map (·.1)=(l.take m).map (λz=>a++[z])/\H' D=some (.lst (fs.map λx=>.ref x.2)) /\ ∀ x∈fs,H0 x.2=none/\H' x.2=some (C9 x.1))
  ⟨hU,Same.upd hD,[],rfl,Ab,λx hx=>by cases hx⟩ (λm U H' _ q=>q.2.1.seqT (SqT.of ht)) ?_ ?_
 .rintro m x U H1 hx ⟨⟨v,rfl⟩,S1,fs,ef,eD,hf⟩
  obtain⟨z,hz,rfl⟩:=Am hx
  refine⟨(show 1<=sizeLine by decide),λp hp=>?_⟩
  have Sp:=Same.upd (o:=.tup [.str z]) hp
  have ep:upd H1 p (.tup [.str z]) p=some (.tup [.str z]):=Ab
  show A9 K (.ref aa) (.ref p) (upd H1 p (.tup [.str z])) _
  generalize upd H1 p (.tup [.str z])=H2 at Sp ep ⊢
  refine bx9 (Sp _ _ (S1 _ _ ha)) ep hl λq H3 S3 eq nq=>?_
  have S03:=S0.trans (S1.trans (Sp.trans S3))
  have hq0:H0 q=none:=by
   rcases nq with nq|rfl
   .exact (S0.trans (S1.trans Sp)).free nq
   .exact (S0.trans S1).free hp
  have qD:q≠D:=by
   rcases nq with nq|rfl
   .exact (Ai (Sp _ _ eD) nq).symm
   .exact (Ai eD hp).symm
  have eD3:=S3 _ _ (Sp _ _ eD)
  refine⟨_,eD3,?_,⟨_,rfl⟩,(S1.trans (Sp.trans S3)).set hD,fs++[(a++[z],q)],?_,?_,?_⟩
  .rw[ae]
   have:=congrArg cJ ef
   rw[ae,ae,aK] at this
   exact bi (show fs.length<=8 by omega) (by decide)
  .rw[ax,ef,B1 hz];rfl
  .rw[Ab,ax];rfl
  .have hf3:∀ x∈fs++[(a++[z],q)],H0 x.2=none/\H3 x.2=some (C9 x.1):=Xy (ok:=λa=>H0 a=none) (f:=C9) (as4 (ok:=λa=>H0 a=none) (f:=C9) (Sp.trans S3) hf) hq0 eq
   intro x hx
   refine⟨(hf3 x hx).1,?_⟩
   rw[Ad (λe=>by have:=(hf3 x hx).2;rw[e,eD3] at this;cases this)]
   exact (hf3 x hx).2
 .rintro U H1 ⟨_,S1,fs,ef,eD,hf⟩
  rw[ae,aC] at ef
  exact k D H1 S1 hD fs ef eD hf
theorem bo1 (Z:An K t):OkD K a40 (Ay K t) bl (t.f 28) (t.d 28) (al9 K t):=by
 refine okD (n:=40) (t:=b09 K t) rfl (by decide +kernel) (by kernel_rfl) (λvs H Q E h=>?_) (λvs H Q E h=>?_)
 .obtain⟨d,sw,rfl,_⟩:=h;rfl
 .obtain⟨d,sw,rfl,⟨ds,ed,⟨_,od⟩,hd⟩,hw,k⟩:=h
  refine⟨(show 0<=sizeLine by decide),λt0 h0=>⟨(show 1<=sizeLine by decide),λl0 hl0=>?_⟩⟩
  have St:=Same.upd (o:=.tup []) h0
  have Sl:=Same.upd (o:=.lst [.ref t0]) hl0
  have ft:H t0=none:=h0
  have fl:H l0=none:=St.free hl0
  have et:upd (upd H t0 (.tup [])) l0 (.lst [.ref t0]) t0=some (C9 []):=Sl _ _ Ab
  have el:upd (upd H t0 (.tup [])) l0 (.lst [.ref t0]) l0=some (.lst [.ref t0]):=Ab
  have S0:=St.trans Sl
  generalize upd (upd H t0 (.tup [])) l0 (.lst [.ref t0])=H0 at S0 et el ⊢
  have od0:=S0 _ _ od
  refine .inr (.inr (.inl (.inl ⟨_,od0,λo=>?_⟩)))
  have len:ds.length=sw.length:=by rw[<- ed];simp
  have kf:Kp (fresh H) H0 (fresh H) (upd H0 d (.frz o (.dK (ds.map kR)))):=Kp.off (Fq od)
  have ef:upd H0 d (.frz o (.dK (ds.map kR))) d=some (.frz o (.dK (ds.map kR))):=Ab
  have ht0:∀ x∈ds,upd H0 d (.frz o (.dK (ds.map kR))) x.2=some (C9 x.1.2):=λx hx=>by
   rw[Ad (λe=>by have:=(hd x hx).2;rw[e,od] at this;cases this)]
   exact S0 _ _ (hd x hx).2
  have T0:TupsAt (fresh H) (upd H0 d (.frz o (.dK (ds.map kR)))) l0 (Aj (sw.take 0)):=⟨[([],t0)],rfl,kf _ _ ⟨fl,el⟩,λx hx=>by
   have:x=([],t0):=by simpa using hx
   subst this
   exact kf _ _ ⟨ft,et⟩⟩
  have frees:∀ {H':Hp} {b:Addr},Same (upd H0 d (.frz o (.dK (ds.map kR)))) H'->H' b=none->H b=none:=λ{H' b} S e=>by
   have e1:=S.free e
   have nb:b≠d:=λz=>by rw[z,ef] at e1;cases e1
   rw[Ad nb] at e1
   exact S0.free e1
  generalize hHf:upd H0 d (.frz o (.dK (ds.map kR)))=Hf at kf ef ht0 T0 frees ⊢
  refine Bd (Er (ds.map kR)) (λi U H'=>(∃ l v2 v3 v4,U=[some (.ref d),some (.ref l),v2,v3,v4]/\TupsAt (fresh H) H' l (Aj (sw.take i)))/\Same Hf H') ⟨⟨_,_,_,_,rfl,T0⟩,Same.refl _⟩ (λi U H' _ q=>q.2 _ _ ef) ?_ ?_
  .rintro i x U H1 hx ⟨⟨l,v2,v3,v4,rfl,⟨es,ee,⟨fl1,el1⟩,he⟩⟩,S1⟩
   obtain⟨kv,hi0,rfl⟩:=Am hx
   obtain⟨⟨e,ta⟩,hi,rfl⟩:=Am hi0
   have hi2:sw[i]? = some e:=by rw[<- ed,am,hi];rfl
   have hta:=ht0 _ (ak hi)
   have hoke:=hw.sets e (ak hi2)
   have hv:B0 (ds.map kR) (.inr e.1)=some (.ref ta):=Bm (Ej ed hw.2.2.1) hi0
   refine⟨by decide,λl2 hl2=>.inl ⟨⟨_,(Same.upd hl2).seqL (SqL.of el1)⟩,?_⟩⟩
   have f2:H l2=none:=frees S1 hl2
   have Sl2:=Same.upd (o:=.lst []) hl2
   have rl:∀ r∈Aj (sw.take i),r.length<=100:=λr hr=>by
    have h1:=(G5 (sw:=sw.take i) (λx hx=>hw.sets x (fL hx))).2.1 r hr
    rw[h1,aK]
    have:=hw.2.1
    omega
   have lenr:es.length=(Aj (sw.take i)).length:=by rw[<- ee];simp
   have few:(Aj (sw.take i)).length<=256:=by rw[G3];exact aY (Yr hw i) hw.2.2.2.2
   refine Bd (A5 (es.map λx=>V.ref x.2)) (λj U H'=>(∃ v4,U=[some (.ref d),some (.ref l),some (.str e.1),some (.ref l2),v4])/\Same H1 H' /\ ∃ fs:List (List Str×Addr),fs.map (·.1)=Eb ((Aj (sw.take i)).take j) e /\
     H' l2=some (.lst (fs.map λx=>.ref x.2)) /\ ∀ x∈fs,H x.2=none/\H' x.2=some (C9 x.1))
    ⟨⟨_,rfl⟩,Sl2,[],rfl,Ab,λx hx=>by cases hx⟩ (λj U H' _ q=>q.2.1.seqL (SqL.of el1)) ?_ ?_
   .rintro j y U H2 hy ⟨⟨v4,rfl⟩,S2,fs,efs,e2l,hf⟩
    obtain⟨⟨r,ra⟩,hj,rfl⟩:=Am hy
    have hj2:(Aj (sw.take i))[j]? = some r:=by rw[<- ee,am,hj];rfl
    obtain⟨_,hra⟩:=he _ (ak hj)
    have S12:=S1.trans S2
    refine⟨.inl ⟨rfl,_,SqL.of e2l⟩,.ref ta,.inl ⟨_,.inr e.1,.inr ⟨o,S12 _ _ ef⟩,rfl,hv.symm⟩,.inr (.inl ⟨⟨_,SqT.of (S12 _ _ hta)⟩,?_⟩)⟩
    refine T9 (H0:=H1) ⟨_,rfl⟩ S2 (S2 _ _ hra) (S12 _ _ hta) (rl r (ak hj2)) (aY hoke.2.2 (by decide)) λD H3 S3 hD gs eg eD hg=>?_
    have e3l:=S3 _ _ e2l
    have lfs:fs.length<=1024:=by
     have:=congrArg cJ efs
     rw[ae,Nz,aK] at this
     have h4:=hoke.2.2
     have:min j (Aj (sw.take i)).length * e.2.length<=256 * 4:=Nat.mul_le_mul (by omega) h4
     omega
    have lgs:gs.length<=4:=by
     have h1:gs.length=e.2.length:=by simpa using congrArg cJ eg
     have h2:e.2.length<=4:=hoke.2.2
     omega
    refine⟨l2,D,_,_,rfl,rfl,e3l,eD,?_,⟨_,rfl⟩,(S2.trans S3).set hl2,fs++gs,?_,?_,?_⟩
    .rw[ae,ae]
     exact aY (show fs.length+gs.length<=1028 by omega) (by decide)
    .rw[ax,efs,eg,Y5 hj2]
    .rw[Ab,ax]
    .have h3:∀ x∈fs++gs,H x.2=none/\H3 x.2=some (C9 x.1):=λx hx=>by
      rcases List.mem_append.mp hx with hx|hx
      .exact⟨(hf x hx).1,S3 _ _ (hf x hx).2⟩
      .exact⟨frees S1 (hg x hx).1,(hg x hx).2⟩
     intro x hx
     refine⟨(h3 x hx).1,?_⟩
     rw[Ad (λe=>by have:=(h3 x hx).2;rw[e,e3l] at this;cases this)]
     exact (h3 x hx).2
   .rintro U H2 ⟨⟨v4,rfl⟩,S2,fs,efs,e2l,hf⟩
    rw[ae,lenr,aC] at efs
    refine .inl ⟨⟨_,_,_,_,rfl,fs,?_,⟨f2,e2l⟩,hf⟩,S1.trans S2⟩
    rw[efs]
    exact (Ca hi2 _ _).symm
  .rintro U H1 ⟨⟨l,v2,v3,v4,rfl,T1⟩,S1⟩
   rw[ae,ae,len,aC] at T1
   refine .inr ⟨d,o,_,od0,S1 _ _ ef,?_⟩
   exact k _ l (S0.trans (Same.thaw od0 (hHf▸S1))) (T1.mono (Kp.off (Fq od)))
def Off (d:Addr) (H H':Hp):Prop:=∀ b u,b≠d->H b=some u->H' b=some u
theorem Off.up {d:Addr} {H H1 H2:Hp} (h:Off d H H1) (S:Same H1 H2):Off d H H2:=λb u n e=>S _ _ (h b u n e)
theorem Off.set {d a:Addr} {o:HO} {H H1:Hp} (h:Off d H H1) (e:H a=none):Off d H (upd H1 a o):=λb u n q=>by rw[Ad (Ai q e)];exact h b u n q
theorem Off.free {d b:Addr} {H H1:Hp} (h:Off d H H1) (n:b≠d) (e:H1 b=none):H b=none:=by
 cases q:H b with
 |none=>rfl
 |some u=>rw[h b u n q] at e;cases e
theorem Off.thaw {d:Addr} {kvs:List (Key×V)} {H H1:Hp} (h:Off d H H1) (e:H d=some (.dK kvs)):Same H (upd H1 d (.dK kvs)):=λb u q=>by
 by_cases n:b=d
 .subst n;rw[Ab,<- e,q]
 .rw[Ad n];exact h b u n q
theorem Ng (p:Nat) (z:Str):∀ (a:List (List Str)) (r:List Str) (k:Nat),Dg p z k (a++[r])=Dg p z k a++(if r[p]? = some z then [k+a.length] else [])
 | [],r,k=>by
  rw[List.nil_append,Dg,Dg,Dg,List.nil_append]
  rfl
 | b::a,r,k=>by
  rw[e8,Dg,Dg,Ng p z a r (k+1),aO,show k+1+a.length=k+(a.length+1) by omega]
  split <;> simp
theorem Oq (p:Nat) (z:Str):∀ (a:List (List Str)) (k n:Nat),n∈Dg p z k a->n<k+a.length
 |[],k,n,h=>by cases h
 | b::a,k,n,h=>by
  rw[Dg] at h
  rw[aO]
  split at h
  .rcases List.mem_cons.mp h with h|h
   .omega
   .have:=Oq p z a (k+1) n h;omega
  .have:=Oq p z a (k+1) n h;omega
theorem Ko (p:Nat) (z:Str):∀ (a:List (List Str)) (k:Nat),(Dg p z k a).length<=a.length
 |[],k=>ai _
 | b::a,k=>by
  rw[Dg,aO]
  split
  .rw[aO];have:=Ko p z a (k+1);omega
  .have:=Ko p z a (k+1);omega
theorem Ol {α:Type} {ds:List (α×Addr)} {i:Nat} {x y:V} (h:(Dy 0 (ds.map λx=>V.ref x.2))[i]? = some (x,y)):∃ z,ds[i]? = some z/\x=.int (i:Int)/\y=.ref z.2:=by
 have hi:=Al h
 rw[Br,ae] at hi
 refine⟨_,ah hi,?_⟩
 have:=Ct (k:=0) (xs:=ds.map λx=>V.ref x.2) (i:=i) (x:=.ref ds[i].2) (by rw[am,ah hi];rfl)
 rw[this,cO] at h
 obtain⟨rfl,rfl⟩:V.int (i:Int)=x/\V.ref ds[i].2=y:=by simpa using h
 exact⟨rfl,rfl⟩
theorem a68 {E:EK} {H:Hp} {l:Addr} {ds:List (List Str×Addr)} {rows:List (List Str)} {i:Nat} {z:Str} {R:Hp->Addr->Prop} (ed:ds.map (·.1)=rows) (ol:H l=some (.lst (ds.map λx=>.ref x.2))) (hd:∀ x∈ds,H x.2=some (C9 x.1)) (hr:∀ r∈rows,i<r.length) (few:rows.length<=256)
  (k:∀ D H',Same H H'->H D=none->H' D=some (.lst ((Dg i z 0 rows).map λn:Nat=>V.int (n:Int)))->R H' D) :
  ∀ D,H D=none->Ef (Ite K l) (gdT K 2 [gdN 0,gdN 1]) (Bg (Ah (Bx K false) (Ah (A3 K) (Aa 1) (Aa 2)) (Aa 3))) (Aa 0) D (λH'=>R H' D) [none,none,some (.int (i:Int)),some (.str z)] (upd H D (.lst [])) E:=by
 intro D hD
 have len:(Dy 0 (ds.map λx=>V.ref x.2)).length=rows.length:=by rw[Br,<- ed];simp
 refine Oe (Fs (ds.map λx=>V.ref x.2)) (λm U H'=>(∃ v0 v1,U=[v0,v1,some (.int (i:Int)),some (.str z)])/\Same H H'/\H' D=some (.lst ((Dg i z 0 (rows.take m)).map λn:Nat=>V.int (n:Int))))
  ⟨⟨_,_,rfl⟩,Same.upd hD,Ab⟩ (λm U H' _ q=>q.2.1.seqL (SqL.of ol)) ?_ ?_
 .rintro m x y T U H1 hxy hT ⟨⟨v0,v1,rfl⟩,S1,eD⟩
  obtain⟨⟨r,b⟩,hm,rfl,rfl⟩:=Ol hxy
  have hm2:rows[m]? = some r:=by rw[<- ed,am,hm];rfl
  have hb:=hd _ (ak hm)
  have hi:=hr r (ak hm2)
  have ST:=Same.upd (o:=.tup [.int (m:Int),.ref b]) hT
  refine⟨_,.inl (SqT.of Ab),rfl,?_⟩
  show Bg _ [some (.int (m:Int)),some (.ref b),some (.int (i:Int)),some (.str z)] (upd H1 T (.tup [.int (m:Int),.ref b])) _ _
  generalize upd H1 T (.tup [.int (m:Int),.ref b])=H2 at ST ⊢
  have S2:=S1.trans ST
  have eD2:=ST _ _ eD
  have mm:min m rows.length=m:=Nat.min_eq_left (dy (Al hm2))
  have he:Dg i z 0 (rows.take (m+1))=Dg i z 0 (rows.take m)++(if r[i]? = some z then [m] else []):=by
   rw[aL,hm2,cK,Ng,aK,mm,cO]
  refine⟨_,_,.inr (SqT.of (S2 _ _ hb)),Bu (j:=i) (by rw[am,ah hi];rfl),?_⟩
  rw[ah hi] at he
  show if decide (r[i]=z)=true then _ else _
  refine Jd (λe=>?_) (λe=>?_)
  .have e:r[i]=z:=by simpa using e
   rw[if_pos (by rw[e])] at he
   refine⟨_,eD2,?_,⟨_,_,rfl⟩,S2.set hD,?_⟩
   .rw[ae]
    have h1:=Ko i z (rows.take m) 0
    rw[aK] at h1
    exact bi (show (Dg i z 0 (rows.take m)).length<=256 by omega) (by decide)
   .rw[Ab,he,ax];rfl
  .have e:¬ r[i]=z:=by simpa using e
   rw[if_neg (by simpa using e),cz] at he
   exact⟨⟨_,_,rfl⟩,S2,by rw[he];exact eD2⟩
 .rintro U H1 ⟨_,S1,eD⟩
  rw[len,aC] at eD
  exact k D H1 S1 hD eD
theorem Y1 {rows:List (List Str)} {i m:Nat} {l:List Str} {z:Str} (hz:l[m]? = some z) (nd:l.Nodup) :
  C4 ((l.take m).map λz=>((.inr z:Key),V.int (D6 rows i z))) (.inr z) (.int (D6 rows i z))=(l.take (m+1)).map λz=>((.inr z:Key),V.int (D6 rows i z)):=by
 rw[D9,B1 hz]
 refine B3 ?_
 rw[aF]
 intro hm
 obtain⟨y,hy,e⟩:=List.mem_map.mp hm
 have e:y=z:=by injection e
 subst e
 exact Ed nd hz hy
theorem bo5 (Z:An K t):OkD K a42 (Ay K t) bl (t.f 31) (t.d 31) (am2 K t):=by
 refine okD (n:=40) (t:=b16 K t) rfl (by decide +kernel) (by kernel_rfl) (λvs H Q E h=>?_) (λvs H Q E h=>?_)
 .obtain⟨d,l,sw,rfl,_⟩:=h;rfl
 .obtain⟨d,l,sw,rfl,⟨ds,ed,⟨_,od⟩,hd⟩,⟨ts,et,⟨_,ol⟩,htp⟩,hw,k⟩:=h
  intro s hs
  have nds:d≠s:=Ai od hs
  have nld:l≠d:=λe=>by rw[e,od] at ol;cases ol
  have od1:upd H s (.dK []) d=some (.dK (ds.map kR)):=by rw[Ad nds];exact od
  refine .inl (.inr (.inl ⟨_,od1,λo=>?_⟩))
  have O0:Off d H (upd (upd H s (.dK [])) d (.frz o (.dK (ds.map kR)))):=λb u n e=>by rw[Ad n,Ad (Ai e hs)];exact e
  have ef:upd (upd H s (.dK [])) d (.frz o (.dK (ds.map kR))) d=some (.frz o (.dK (ds.map kR))):=Ab
  have es0:upd (upd H s (.dK [])) d (.frz o (.dK (ds.map kR))) s=some (.dK []):=by rw[Ad (ce nds),Ab]
  have len:(Dy 0 ((ds.map kR).map λkv=>kV kv.1)).length=sw.length:=by rw[Br,<- ed];simp
  have few:=hw.len
  have rlen:=(G5 hw.sets).2.1
  show Gh (aa1 d o (ds.map kR)) _ _ _ [some (.ref d),some (.ref l),some (.ref s),none,none,none,none] _
  generalize upd (upd H s (.dK [])) d (.frz o (.dK (ds.map kR)))=H0 at O0 ef es0 ⊢
  refine Jr (ap6 (ds.map kR)) (λi U H'=>(∃ v3 v4 v5 v6,U=[some (.ref d),some (.ref l),some (.ref s),v3,v4,v5,v6])/\Off d H H'/\H' d=some (.frz o (.dK (ds.map kR))) /\
    ∃ es:List ((Str×List Str)×Addr),es.map (·.1)=sw.take i/\H' s=some (.dK (es.map kR)) /\ ∀ j x,es[j]? = some x->H x.2=none/\H' x.2=some (Uw (Aj sw) j x.1.2))
   ⟨⟨_,_,_,_,rfl⟩,O0,ef,[],rfl,es0,λj x hx=>by simp at hx⟩ (λi U H' _ q=>q.2.2.1) ?_ ?_
  .rintro i x y T U H1 hxy hT ⟨⟨v3,v4,v5,v6,rfl⟩,O1,f1,es,ee,e1s,he⟩
   have hi':=Al hxy
   rw[len] at hi'
   have hids:i<ds.length:=by rw[<- ed,ae] at hi';exact hi'
   obtain⟨⟨e,ta⟩,hi⟩:∃ z,ds[i]? = some z:=⟨_,ah hids⟩
   have hxy2:=Ct (k:=0) (xs:=(ds.map kR).map λkv=>kV kv.1) (i:=i) (x:=.str e.1) (by rw[am,am,hi];rfl)
   rw[hxy2,cO] at hxy
   obtain⟨rfl,rfl⟩:V.int (i:Int)=x/\V.str e.1=y:=by simpa using hxy
   have hi2:sw[i]? = some e:=by rw[<- ed,am,hi];rfl
   have hta:=(hd _ (ak hi)).2
   have nta:ta≠d:=λz=>by rw[z,od] at hta;cases hta
   have hoke:=hw.sets e (ak hi2)
   have hv:B0 (ds.map kR) (.inr e.1)=some (.ref ta):=Bm (Ej ed hw.2.2.1) (by rw[am,hi];rfl)
   have nk:=O7 ee hi2 hw.2.2.1
   have les:es.length=i:=by
    have:=congrArg cJ ee
    rw[ae,aK] at this
    omega
   have ST:=Same.upd (o:=.tup [.int (i:Int),.str e.1]) hT
   refine⟨_,.inl (SqT.of Ab),rfl,?_⟩
   show Ae _ _ _ [some (.ref d),some (.ref l),some (.ref s),some (.int (i:Int)),some (.str e.1),v5,v6] (upd H1 T (.tup [.int (i:Int),.str e.1]))
   generalize upd H1 T (.tup [.int (i:Int),.str e.1])=H2 at ST ⊢
   have O2:=O1.up ST
   have f2:=ST _ _ f1
   have e2s:=ST _ _ e1s
   intro q hq
   have nqd:q≠d:=(Ai f2 hq).symm
   have nqs:q≠s:=(Ai e2s hq).symm
   have fq:H q=none:=O2.free nqd hq
   have Sq:=Same.upd (o:=.dK []) hq
   have eq:upd H2 q (.dK []) q=some (.dK []):=Ab
   refine .inl ?_
   show Co K (Aa 2) (Aa 4) (.ref q) [some (.ref d),some (.ref l),some (.ref s),some (.int (i:Int)),some (.str e.1),v5,v6] (upd H2 q (.dK [])) _
   generalize upd H2 q (.dK [])=H3 at Sq eq ⊢
   refine⟨_,DPut.k (k:=.inr e.1) (Sq _ _ e2s) ?_,?_⟩
   .rw[ae]
    have:=hw.2.1
    exact bi (show es.length<=5 by omega) (by decide)
   rw[Jz nk]
   have O4:Off d H (upd H3 s (.dK ((es++[(e,q)]).map kR))):=(O2.up Sq).set hs
   have f4:upd H3 s (.dK ((es++[(e,q)]).map kR)) d=some (.frz o (.dK (ds.map kR))):=by rw[Ad nds];exact Sq _ _ f2
   have e4s:upd H3 s (.dK ((es++[(e,q)]).map kR)) s=some (.dK ((es++[(e,q)]).map kR)):=Ab
   have e4q:upd H3 s (.dK ((es++[(e,q)]).map kR)) q=some (Uw (Aj sw) i (e.2.take 0)):=by rw[Ad nqs];exact eq
   have he4:∀ j x,es[j]? = some x->H x.2=none/\upd H3 s (.dK ((es++[(e,q)]).map kR)) x.2=some (Uw (Aj sw) j x.1.2)/\x.2≠q/\x.2≠s:=λj x hx=>by
    obtain⟨a1,a2⟩:=he j x hx
    have b1:=Ai (ST _ _ a2) hq
    have b2:x.2≠s:=λz=>by
     rw[z,e1s] at a2
     unfold Uw at a2
     have a3:es.map kR=x.1.2.map λz=>((.inr z:Key),V.int (D6 (Aj sw) j z)):=by injection (aD a2)
     have m1:kR x∈es.map kR:=dF (ak hx)
     rw[a3] at m1
     obtain⟨y,_,hy⟩:=List.mem_map.mp m1
     injection hy with _ hy
     cases hy
    refine⟨a1,?_,b1,b2⟩
    rw[Ad b2];exact Sq _ _ (ST _ _ a2)
   generalize upd H3 s (.dK ((es++[(e,q)]).map kR))=H4 at O4 f4 e4s e4q he4 ⊢
   have nd4:(((es++[(e,q)]).map kR).map (·.1)).Nodup:=Ej (Gu ee hi2) (by rw[ig];exact hw.2.2.1.sublist (d9 _ _))
   have hq4:B0 ((es++[(e,q)]).map kR) (.inr e.1)=some (.ref q):=Bm (i:=es.length) nd4 (by rw[am,bD (ai _),f9];rfl)
   refine⟨.ref ta,.inl ⟨_,.inr e.1,.inr ⟨o,f4⟩,rfl,hv.symm⟩,.inr (.inl ⟨⟨_,SqT.of (O4 _ _ nta hta)⟩,?_⟩)⟩
   refine Bd (ap7 (e.2.map V.str)) (λm U H'=>(∃ v5 v6,U=[some (.ref d),some (.ref l),some (.ref s),some (.int (i:Int)),some (.str e.1),v5,v6])/\Off d H H'/\H' d=some (.frz o (.dK (ds.map kR)))/\H' s=some (.dK ((es++[(e,q)]).map kR)) /\
     H' q=some (Uw (Aj sw) i (e.2.take m)) /\ ∀ j x,es[j]? = some x->H' x.2=some (Uw (Aj sw) j x.1.2))
    ⟨⟨_,_,rfl⟩,O4,f4,e4s,e4q,λj x hx=>(he4 j x hx).2.1⟩ (λm U H' _ q=>SqT.of (q.2.1 _ _ nta hta)) ?_ ?_
   .rintro m x U H5 hx ⟨⟨v5,v6,rfl⟩,O5,f5,e5s,e5q,he5⟩
    obtain⟨z,hz,rfl⟩:=Am hx
    refine .inl ⟨⟨_,SqL.of (O5 _ _ nld ol)⟩,?_⟩
    refine a68 et (O5 _ _ nld ol) (λx hx=>O5 _ _ (λe=>by have:=(htp x hx).2;rw[e,od] at this;cases this) (htp x hx).2) (λr hr=>by rw[rlen r hr];exact hi') few λD H6 S6 hD eD=>?_
    refine⟨D,_,rfl,SqL.of eD,(λn hn=>?_),?_⟩
    .have:=Oq i z (Aj sw) 0 n hn
     omega
    show Co K (Ah (A3 K) (Aa 2) (Aa 4)) (Aa 5) (.int (D6 (Aj sw) i z)) [some (.ref d),some (.ref l),some (.ref s),some (.int (i:Int)),some (.str e.1),some (.str z),some (.ref D)] H6 _
    refine⟨.ref q,.inl ⟨_,.inr e.1,.inl (S6 _ _ e5s),rfl,hq4.symm⟩,_,DPut.k (k:=.inr z) (S6 _ _ e5q) ?_,?_⟩
    .rw[ae,aK]
     have:=hoke.2.2
     exact bi (show min m e.2.length<=4 by omega) (by decide)
    rw[Y1 hz hoke.1.2.1]
    refine⟨⟨_,_,rfl⟩,(O5.up S6).set fq,?_,?_,Ab,λj x hx=>?_⟩
    .rw[Ad (ce nqd)];exact S6 _ _ f5
    .rw[Ad (ce nqs)];exact S6 _ _ e5s
    .rw[Ad (he4 j x hx).2.2.1];exact S6 _ _ (he5 j x hx)
   .rintro U H5 ⟨⟨v5,v6,rfl⟩,O5,f5,e5s,e5q,he5⟩
    rw[ae,aC] at e5q
    refine .inl ⟨⟨_,_,_,_,rfl⟩,O5,f5,es++[(e,q)],Gu ee hi2,e5s,λj x hx=>?_⟩
    by_cases hj:j<es.length
    .rw[bT hj] at hx
     exact⟨(he4 j x hx).1,he5 j x hx⟩
    .have hj2:=Al hx
     rw[aW] at hj2
     have hj3:j=es.length:=by have:[(e,q)].length=1:=rfl;omega
     subst hj3
     rw[bD (ai _),f9] at hx
     have:(e,q)=x:=by simpa using hx
     subst this
     rw[les]
     exact⟨fq,e5q⟩
  .rintro U H1 ⟨⟨v3,v4,v5,v6,rfl⟩,O1,f1,es,ee,e1s,he⟩
   rw[len,aC] at ee
   refine .inr ⟨d,o,_,od1,f1,?_⟩
   refine k _ s (O1.thaw od) ⟨es,ee,⟨hs,?_⟩,λj x hx=>⟨(he j x hx).1,?_⟩⟩
   .rw[Ad (ce nds)];exact e1s
   .rw[Ad (λz=>by have:=(he j x hx).1;rw[z,od] at this;cases this)];exact (he j x hx).2
theorem Fn (l:List Str):(l.map V.str).all Bv=true:=by rw[g9,be];exact λ_ _=>rfl
theorem K6 {sw:Sw} {i:Nat} {x:Str×List Str} (h:sw[i]? = some x) (nd:(sw.map (·.1)).Nodup):F8 sw x.1=i:=by
 have hi:=Al h
 have ex:sw[i]=x:=by rw[ah hi] at h;exact aD h
 unfold F8
 rw[List.findIdx_eq hi]
 refine⟨by rw[ex];simp,λj hj=>?_⟩
 have hj2:j<sw.length:=by omega
 refine decide_eq_false λe=>?_
 have:=(c9 (i:=j) (j:=i) (h₀:=by rw[ae];exact hj2) (h₁:=by rw[ae];exact hi) nd).mp (by rw[cL,cL,e,ex])
 omega
theorem Sm {rows:List (List Str)} {i:Nat} {l:List Str} {z:Str} (nd:l.Nodup) (h:z∈l):B0 (l.map λz=>((.inr z:Key),V.int (D6 rows i z))) (.inr z)=some (.int (D6 rows i z)):=by
 obtain⟨j,hj,e⟩:=List.mem_iff_getElem.mp h
 refine Bm (i:=j) ?_ ?_
 .rw[aF];exact Hz nd
 .rw[am,ah hj,e];rfl
theorem a90 (Z:An K t):OkD K Vz (Ay K t) bl (t.m_zbt 6) (t.e_zbt 6) (Uz K t):=by
 refine okD (n:=40) (t:=bt5 K t) rfl (by decide +kernel) (by kernel_rfl) (λvs H Q E h=>?_) (λvs H Q E h=>?_)
 .obtain⟨p,a,l,s,wd,ss,sw,rfl,_⟩:=h;rfl
 .obtain⟨p,a,l,s,wd,ss,sw,rfl,⟨dx,fs,⟨_,hp⟩,hl,hs,hm⟩,⟨ds,ed,⟨_,os⟩,hd⟩,hw,ha,⟨ne,hL,x,hx,ex,hin⟩,k⟩:=h
  have ex:x.1=wd:=ex
  have ne:ss≠[]:=ne
  have hL:okL ss:=hL
  have hin:∀ z∈ss,z∈x.2:=hin
  subst ex
  obtain⟨i,hi2⟩:=List.mem_iff_getElem?.mp hx
  have hids:i<ds.length:=by have:=Al hi2;rw[<- ed,ae] at this;exact this
  obtain⟨⟨x',q⟩,hi⟩:∃ z,ds[i]? = some z:=⟨_,ah hids⟩
  have:x'=x:=by
   rw[<- ed,am,hi] at hi2
   exact aD hi2
  subst this
  have oq:=(hd i _ hi).2
  have hok:=hw.sets x' hx
  have hv:B0 (ds.map kR) (.inr x'.1)=some (.ref q):=Bm (Ej ed hw.2.2.1) (by rw[am,hi];rfl)
  have pl:=K6 hi2 hw.2.2.1
  have cl:=Z.pf.cl
  have na:NoAttr K t.c_zbt "sets" := Z.pf.na _ (by simp)
  have gq:∀ {H'},Same H H'->DGet H' s (.str x'.1) (some (.ref q)):=λS=>.inl ⟨_,.inr x'.1,.inl (S _ _ os),rfl,hv.symm⟩
  refine⟨rfl,?_⟩
  refine fJ ⟨_,_,_,_,hp,cl,na,hs,?_⟩
  refine .inr ⟨_,gq (Same.refl _),?_⟩
  refine⟨a,ss,rfl,SqL.of ha,hL,λH1 S1=>⟨by decide,λe he=>.inl ⟨a,e,_,_,rfl,rfl,(S1.trans (Same.upd he)).seqL (SqL.of ha),SqL.of Ab,Fn ss,rfl,E9 ?_ ?_⟩⟩⟩
  .exact E4 (by rw[ae];intro z;exact ne (List.length_eq_zero_iff.mp z))
  have S2:=S1.trans (Same.upd (o:=.lst []) he)
  generalize upd H1 e (.lst [])=H2 at S2 ⊢
  refine .inl ⟨⟨_,S2.seqL (SqL.of ha)⟩,?_⟩
  refine Qr (K:=K) (U:=[none,some (.ref p),some (.str x'.1)]) (A5 (ss.map V.str)) (λU=>∃ v,U=[v,some (.ref p),some (.str x'.1)]) (λH3 S3=>(S2.trans S3).seqL (SqL.of ha)) ?_ ⟨_,rfl⟩ (λU x ⟨v,e⟩=>⟨some x,by rw[e];rfl⟩) ?_ λD3 H3 S3 q3=>⟨_,q3,?_⟩
  .rw[ae];exact bi hL.2.2 (by decide)
  .rintro y U H3 Q1 hy ⟨v,rfl⟩ S3 q1
   obtain⟨z,hz,rfl⟩:=List.mem_map.mp hy
   have S:=S2.trans S3
   refine fJ ⟨_,_,_,_,(S _ _ hp),cl,na,hs,⟨.ref q,gq S,.inr ⟨_,.inl ⟨_,.inr z,.inl (S _ _ oq),rfl,rfl⟩,?_⟩⟩⟩
   rw[Sm hok.1.2.1 (hin z hz)]
   exact q1 H3 (Same.refl _)
  .rw[Wa]
   have S:=S2.trans S3
   refine .inl ⟨⟨_,S.seqL (SqL.of ha)⟩,λD hD=>?_⟩
   refine Of (A5 (ss.map V.str)) (λU=>∃ v,U=[v,some (.ref p),some (.str x'.1)]) (λ_=>true) (λv=>match v with | .str z=>.int (D6 (Aj sw) i z)|_=>.non) hD (λH4 S4=>(S.trans S4).seqL (SqL.of ha)) ?_ ⟨_,rfl⟩ ?_ ?_
   .rw[ae];exact bi hL.2.2 (by decide)
   .rintro y U H4 hy ⟨v,rfl⟩ S4 Fin Skip hF hK
    obtain⟨z,hz,rfl⟩:=List.mem_map.mp hy
    have S5:=S.trans S4
    refine (fJ ⟨_,_,_,_,(S5 _ _ hp),cl,na,hs,⟨.ref q,gq S5,.int (D6 (Aj sw) i z),.inl ⟨_,.inr z,.inl (S5 _ _ oq),rfl,?_⟩,?_⟩⟩)
    .rw[Sm hok.1.2.1 (hin z hz)]
    .exact hF _ _ _ ⟨_,rfl⟩ (Same.refl _) rfl rfl
   .intro H4 S4 eD
    refine⟨D,ss.map (D6 (Aj sw) i),rfl,SqL.of (eD.trans ?_),?_⟩
    .rw[List.filter_eq_self.mpr (λ_ _=>rfl),aF,aF];rfl
    .have:=k H4 (S.trans S4)
     unfold Iz at this
     rw[pl] at this
     exact this
theorem a97 (Z:An K t):OkD K V0 (Ay K t) bl (t.m_zbt 2) (t.e_zbt 2) (U3 K t):=by
 refine okD (n:=40) (t:=bu2 K t) rfl (by decide +kernel) (by kernel_rfl) (λvs H Q E h=>?_) (λvs H Q E h=>?_)
 .obtain⟨p,r,l,s,sw,rule,rfl,_⟩:=h;rfl
 .obtain⟨p,r,l,s,sw,rule,rfl,hs,ht,hse,hw,⟨ds,ed,⟨_,od⟩,hd⟩,hr,k⟩:=h
  obtain⟨dx,fs,⟨np,hp⟩,_,_,hm⟩:=id hs
  have len:ds.length=rule.length:=by rw[<- ed];simp
  refine⟨_,true,.of (.dK od),rfl,⟨p,dx,fs,⟨t.c_zbt,a71 K t⟩,rfl,.head _,hp,hm _ (by decide),⟨aI rfl,aI rfl⟩,p,l,s,sw,rfl,hs.mono Kp.any,ht.mono Kp.any,hw.len,?_⟩⟩
  refine .inr (.inr (.inl (.inl ⟨_,od,λo=>?_⟩)))
  have kf:Kp (· ≠ r) H (· ≠ r) (upd H r (.frz o (.dK (ds.map kR)))):=Kp.off (λe=>e rfl)
  have ef:upd H r (.frz o (.dK (ds.map kR))) r=some (.frz o (.dK (ds.map kR))):=Ab
  have hd2:∀ x∈ds,upd H r (.frz o (.dK (ds.map kR))) x.2=some (Be x.1.2):=λx hx=>by
   rw[Ad (λe=>by have:=(hd x hx).2;rw[e,od] at this;cases this)]
   exact (hd x hx).2
  show Gh (Itd r o (ds.map kR)) _ _ _ [some (.ref p),some (.ref r),some (.int (N7 sw)),none] _
  generalize hHf:upd H r (.frz o (.dK (ds.map kR)))=Hf at kf ef hd2 ⊢
  refine Bd (Er (ds.map kR)) (λi U H'=>(∃ v3,U=[some (.ref p),some (.ref r),some (.int ((rule.take i).foldl (λc e=>b9 c (Iz sw e)) (N7 sw))),v3])/\Same Hf H') ⟨⟨_,rfl⟩,Same.refl _⟩ (λi U H' _ q=>q.2 _ _ ef) ?_ ?_
  .rintro i x U H1 hx ⟨⟨v3,rfl⟩,S1⟩
   obtain⟨kv,hi0,rfl⟩:=Am hx
   obtain⟨⟨e,la⟩,hi,rfl⟩:=Am hi0
   have hi2:rule[i]? = some e:=by rw[<- ed,am,hi];rfl
   have hv:B0 (ds.map kR) (.inr e.1)=some (.ref la):=Bm (Ej ed hr.1) hi0
   have kn:Kp (· ≠ r) H any H1:=(kf.trans (Kp.same S1)).trans Kp.any
   refine⟨p,dx,fs,⟨t.c_zbt,a18 K t⟩,rfl,.head _,(kn _ _ ⟨np,hp⟩).2,hm _ (by decide),⟨aI rfl,aI rfl⟩,.ref la,.inl ⟨_,.inr e.1,.inr ⟨o,S1 _ _ ef⟩,rfl,hv.symm⟩,?_⟩
   refine⟨p,la,l,s,e.1,e.2,sw,rfl,hs.mono kn,hse.mono kn,hw,S1 _ _ (hd2 _ (ak hi)),hr.2 e (ak hi2),λH2 S2=>?_⟩
   exact⟨⟨_,congrArg (λz=>[some (V.ref p),some (V.ref r),some (V.int z),some (V.str e.1)]) (Ca hi2 (λc e=>b9 c (Iz sw e)) (N7 sw)).symm⟩,S1.trans S2⟩
  .rintro U H1 ⟨⟨v3,rfl⟩,S1⟩
   rw[ae,ae,len,aC]
   exact .inr ⟨r,o,_,od,S1 _ _ ef,k _ (Same.thaw od (hHf▸S1))⟩
theorem bo6 (Z:An K t):OkD K aq1 (Ay K t) bl (t.m_zbt 4) (t.e_zbt 4) (am3 K t):=by
 refine okD (n:=40) (t:=b17 K t) rfl (by decide +kernel) (by kernel_rfl) (λvs H Q E h=>?_) (λvs H Q E h=>?_)
 .obtain⟨p,r,l,s,sw,rule,rfl,_⟩:=h;rfl
 .obtain⟨p,r,l,s,sw,rule,rfl,hs,ht,hse,hw,hrl,hr,k⟩:=h
  obtain⟨ds,ed,⟨_,od⟩,hd⟩:=id hrl
  obtain⟨dx,fs,⟨np,hp⟩,_,_,hm⟩:=id hs
  have len:ds.length=rule.length:=by rw[<- ed];simp
  have pos:0<rule.length:=List.length_pos_iff.mpr hr.1
  refine⟨_,true,.of (.dK od),rfl,(.inr ⟨_,.inl od,E9 ?_ ?_⟩)⟩
  .refine decide_eq_false λe=>?_
   rw[ae] at e
   omega
  refine⟨p,dx,fs,⟨t.c_zbt,ae2 K t⟩,rfl,.head _,hp,hm _ (by decide),⟨aI rfl,aI rfl⟩,p,r,l,s,sw,rule,rfl,hs,ht,hse,hw,hrl,⟨hr.2.2.1,hr.2.2.2⟩,λH1 S1=>?_⟩
  exact⟨r,rule,rfl,hrl.mono (Kp.same S1),hr.2.2.1,hr.2.1,λH2 c S2 R2=>k H2 c (S1.trans S2) (R2.mono (Kp.fresh S1))⟩
theorem bo3 (Z:An K t):OkD K aq0 (Ay K t) bl (t.m_zbt 5) (t.e_zbt 5) (am1 K t):=by
 refine okD (n:=40) (t:=b13 K t) rfl (by decide +kernel) (by kernel_rfl) (λvs H Q E h=>?_) (λvs H Q E h=>?_)
 .obtain⟨p,l,s,ok,v,sw,rules,rfl,_⟩:=h;rfl
 .obtain⟨p,l,s,ok,v,sw,rules,rfl,hs,ht,hse,hw,hv,hr,h8,k⟩:=h
  rcases hv with ⟨rfl,rfl⟩|⟨kk,rfl,ds,ed,⟨nk,ok1⟩,hd⟩
  .refine⟨by decide,λq hq=>k _ q (Same.upd hq) ⟨[],rfl,⟨hq,Ab⟩,λx hx=>by cases hx⟩⟩
  .obtain⟨dx,fs,⟨op,hp⟩,_,_,hm⟩:=id hs
   have len:(ds.map λx=>V.ref x.2).length=rules.length:=by rw[<- ed];simp
   refine⟨_,true,.sqL rfl (SqL.of ok1) rfl,rfl,(.inl ⟨_,.inl (SqL.of ok1),E9 ?_ ?_⟩)⟩
   .refine decide_eq_false λe=>?_
    rw[len] at e
    omega
   refine .inl ⟨⟨_,SqL.of ok1⟩,λD hD=>?_⟩
   refine Cr (A5 (ds.map λx=>V.ref x.2)) (λm U H'=>(∃ v,U=[v,some (.ref p)])/\Same H H' /\ ∃ fs:List (Sw×Addr),fs.map (·.1)=rules.take m/\H' D=some (.lst (fs.map λx=>.ref x.2)) /\ ∀ x∈fs,RuleAt (λa=>H a=none/\a≠D) H' x.2 x.1)
    ⟨⟨_,rfl⟩,Same.upd hD,[],rfl,Ab,λx hx=>by cases hx⟩ (λm U H' _ q=>q.2.1.seqL (SqL.of ok1)) ?_ ?_
   .rintro m x U H1 hx ⟨⟨v,rfl⟩,S1,gs,eg,eD,hg⟩
    obtain⟨⟨rule,r⟩,hm2,rfl⟩:=Am hx
    have hm3:rules[m]? = some rule:=by rw[<- ed,am,hm2];rfl
    have hrl:=hd _ (ak hm2)
    have nr:¬ ok r:=by obtain⟨_,_,o,_⟩:=hrl;exact o.1
    have kw:Kp ok H (· ≠ r) H1:=(Kp.same S1).trans (Kp.weak λa h e=>nr (e▸h))
    refine⟨p,dx,fs,⟨t.c_zbt,bm3 K t⟩,rfl,.head _,S1 _ _ hp,hm _ (by decide),⟨aI rfl,aI rfl⟩,p,r,l,s,sw,rule,rfl,hs.mono kw,ht.mono kw,hse.mono kw,hw,hrl.mono ((Kp.same S1).trans Kp.any),hr rule (ak hm3),λH2 c S2 R2=>?_⟩
    have eD2:=S2 _ _ eD
    refine⟨_,eD2,?_,⟨_,rfl⟩,(S1.trans S2).set hD,gs++[(rule,c)],Gu eg hm3,?_,?_⟩
    .rw[ae]
     have:=Tm eg
     exact bi (show gs.length<=8 by omega) (by decide)
    .rw[Ab,ax];rfl
    .have ko:Kp (λa=>H a=none/\a≠D) H2 (λa=>H a=none/\a≠D) (upd H2 D (.lst ((gs.map λx=>V.ref x.2)++[.ref c]))):=Kp.off (λe=>e.2 rfl)
     intro x hx
     rcases List.mem_append.mp hx with hx|hx
     .exact (hg x hx).mono ((Kp.same S2).trans ko)
     .have:x=(rule,c):=by simpa using hx
      subst this
      exact R2.mono ((Kp.weak λa h=>⟨S1.free h,(Ai eD h).symm⟩).trans ko)
   .rintro U H1 ⟨_,S1,gs,eg,eD,hg⟩
    rw[len,aC] at eg
    exact k H1 D S1 ⟨gs,eg,⟨hD,eD⟩,λx hx=>(hg x hx).mono (Kp.weak λa h=>h.1)⟩
theorem F0 {f:Str} {p C dx:Addr} {fs fs':List (Str×V)} {y:V} {H:Hp} {N:Hp->Prop} (hp:H p=some (.ins C dx fs)) (c:Cls K C) (n:NoAttr K C f) (l:fs.length<1000) (e:Du f y fs=fs') (k:∀ H',(∀ b,b≠p->H' b=H b)->H' p=some (.ins C dx fs')->N H'):ak7 K f (.ref p) y H N:=
 .inl ⟨C,dx,fs,hp,c,n,l,k _ (λb hb=>Ad hb) (by rw[Ab,e])⟩
theorem Kp.but {ok:Addr->Prop} {p:Addr} {H H':Hp} (h:∀ b,b≠p->H' b=H b) (n:¬ ok p):Kp ok H ok H':=λa o q=>⟨q.1,by rw[h a (λe=>n (e▸q.1))];exact q.2⟩
theorem Off.but {p:Addr} {H H1 H2:Hp} (h:Off p H H1) (e:∀ b,b≠p->H2 b=H1 b):Off p H H2:=λb u n q=>by rw[e b n];exact h b u n q
theorem Off.fr {p:Addr} {u:HO} {H H1:Hp} (h:Off p H H1) (e:H1 p=some u):∀ b,H1 b=none->H b=none:=λb q=>h.free (λz=>by rw[z,e] at q;cases q) q
structure Pc (ok:Addr->Prop) (H:Hp) (d l n s:Addr) (sw:Sw):Prop where
 sws:SwAt ok H d sw
 tps:TupsAt ok H l (Aj sw)
 nms:NumAt ok H n (Aj sw)
 sts:SetsAt ok H s sw
theorem Pc.mono {ok ok':Addr->Prop} {H H':Hp} {d l n s:Addr} {sw:Sw} (h:Pc ok H d l n s sw) (k:Kp ok H ok' H'):Pc ok' H' d l n s sw:=⟨h.sws.mono k,h.tps.mono k,h.nms.mono k,h.sts.mono k⟩
abbrev fl1 (d:Addr):List (Str×V):=[("settings", .ref d)]
abbrev fl2 (d l:Addr):List (Str×V):=[("settings", .ref d),("tuples", .ref l)]
abbrev fl3 (d l n:Addr):List (Str×V):=[("settings", .ref d),("tuples", .ref l),("numbers", .ref n)]
abbrev fl4 (d l n s:Addr):List (Str×V):=[("settings", .ref d),("tuples", .ref l),("numbers", .ref n),("sets", .ref s)]
abbrev fl5 (d l n s k:Addr):List (Str×V):=[("settings", .ref d),("tuples", .ref l),("numbers", .ref n),("sets", .ref s),("kept_rules", .ref k)]
noncomputable abbrev fl6 (d l n s k b:Addr):List (Str×V):=[("settings", .ref d),("tuples", .ref l),("numbers", .ref n),("sets", .ref s),("kept_rules", .ref k),("bars", .ref b)]
theorem Pa {fs:List (Str×V)} (h:fs.lookup ("all_choices" : Str)=none/\fs.lookup ("box" : Str)=none/\fs.lookup ("many" : Str)=none/\fs.lookup ("term" : Str)=none/\fs.lookup ("read_rule" : Str)=none/\fs.lookup ("read_rules" : Str)=none):∀ m∈(["all_choices", "box", "many", "term", "read_rule", "read_rules"]:List Str),fs.lookup m=none:=by
 intro m hm
 simp only[aH,c_,or_false] at hm
 rcases hm with rfl|rfl|rfl|rfl|rfl|rfl
 .exact h.1
 .exact h.2.1
 .exact h.2.2.1
 .exact h.2.2.2.1
 .exact h.2.2.2.2.1
 .exact h.2.2.2.2.2
theorem bq5 (Z:An K t):OkD K D_zz (Ay K t) bl t.f_zz t.d_zz (a32 K t):=by
 refine okD (n:=40) (t:=b36 K t) rfl (by decide +kernel) (by kernel_rfl) (λvs H Q E h=>?_) (λvs H Q E h=>?_)
 .obtain⟨p,a,dx,v,sw,rules,rfl,_⟩:=h;rfl
 .obtain⟨p,a,dx,v,sw,rules,rfl,hp,hsw,hw,hrl,hr,h8,hf,k⟩:=h
  have cl:=Z.pf.cl
  have na:=Z.pf.na
  have nf:¬ fresh H p:=(Fq hp)
  refine⟨a,sw,rfl,hsw.mono Kp.any,hw,λH1 d S1 A1=>?_⟩
  refine F0 (S1 _ _ hp) cl (na _ (by simp)) (aI rfl) (fs':=fl1 d) rfl λH2 b2 p2=>?_
  have O2:Off p H H2:=λb u n e=>by rw[b2 b n];exact S1 _ _ e
  have A2:=A1.mono (Kp.but b2 nf)
  refine fJ ⟨_,_,_,_,p2,cl,(na _ (by simp)),rfl,⟨d,sw,rfl,A2.mono Kp.any,hw,λH3 l S3 T3=>?_⟩⟩
  refine F0 (S3 _ _ p2) cl (na _ (by simp)) (aI rfl) (fs':=fl2 d l) rfl λH4 b4 p4=>?_
  have O4:=(O2.up S3).but b4
  have A4:=A2.mono ((Kp.same S3).trans (Kp.but b4 nf))
  have T4:=T3.mono ((Kp.weak (O2.fr p2)).trans (Kp.but b4 nf))
  refine fJ ⟨_,_,_,_,p4,cl,(na _ (by simp)),rfl,⟨l,Aj sw,rfl,T4.mono Kp.any,(G5 hw.sets).1,hw.len,λH5 n S5 N5=>?_⟩⟩
  refine F0 (S5 _ _ p4) cl (na _ (by simp)) (aI rfl) (fs':=fl3 d l n) rfl λH6 b6 p6=>?_
  have O6:=(O4.up S5).but b6
  have A6:=A4.mono ((Kp.same S5).trans (Kp.but b6 nf))
  have T6:=T4.mono ((Kp.same S5).trans (Kp.but b6 nf))
  have N6:=N5.mono ((Kp.weak (O4.fr p4)).trans (Kp.but b6 nf))
  refine fJ ⟨_,_,_,_,p6,cl,(na _ (by simp)),rfl,(fJ ⟨_,_,_,_,p6,cl,(na _ (by simp)),rfl,⟨d,l,sw,rfl,A6.mono Kp.any,T6.mono Kp.any,hw,λH7 s S7 E7=>?_⟩⟩)⟩
  refine F0 (S7 _ _ p6) cl (na _ (by simp)) (aI rfl) (fs':=fl4 d l n s) rfl λH8 b8 p8=>?_
  have O8:=(O6.up S7).but b8
  have k78:=(Kp.same (ok:=fresh H) S7).trans (Kp.but b8 nf)
  have P8:Pc (fresh H) H8 d l n s sw:=⟨A6.mono k78,T6.mono k78,N6.mono k78,E7.mono ((Kp.weak (O6.fr p6)).trans (Kp.but b8 nf))⟩
  have P8':Pc (λb=>H b=none/\H8 b≠none) H8 d l n s sw:=P8.mono λb o q=>⟨⟨q.1,by rw[q.2];exact λz=>nomatch z⟩,q.2⟩
  have w8:Kp (fresh H) H8 (λb=>b=p\/H b=none) H8:=Kp.weak λb e=>.inr e
  have RI:N4 (λb=>¬ (b=p\/H b=none)) H8 v rules:=by
   rcases hrl with h|⟨kk,e,R⟩
   .exact .inl h
   .refine .inr ⟨kk,e,R.mono λb o q=>⟨λz=>?_,O8 _ _ q.1 q.2⟩⟩
    rcases z with z|z
    .exact q.1 z
    .have:=q.2;rw[z] at this;cases this
  refine⟨p,dx,_,⟨t.c_zbt,bm2 K t⟩,rfl,.head _,p8,rfl,⟨aI rfl,aI rfl⟩,p,l,s,(λb=>b=p\/H b=none),v,sw,rules,rfl,⟨dx,_,⟨.inl rfl,p8⟩,rfl,rfl,Pa ⟨rfl,rfl,rfl,rfl,rfl,rfl⟩⟩,P8.tps.mono w8,P8.sts.mono w8,hw,RI,hr,h8,λH9 kk S9 R9=>?_⟩
  refine F0 (S9 _ _ p8) cl (na _ (by simp)) (aI rfl) (fs':=fl5 d l n s kk) rfl λH10 b10 p10=>?_
  have O10:=(O8.up S9).but b10
  have n8:¬ fresh H8 p:=(Fq p8)
  have R10:=R9.mono (Kp.but b10 n8)
  have P10:Pc (λb=>H b=none/\H8 b≠none) H10 d l n s sw:=P8'.mono ((Kp.same S9).trans (Kp.but b10 (λe=>nf e.1)))
  obtain⟨rs,er,⟨fk,ok⟩,hrs⟩:=id R10
  have lenr:(rs.map λx=>V.ref x.2).length=rules.length:=by rw[<- er];simp
  refine fJ ⟨_,_,_,_,p10,cl,(na _ (by simp)),rfl,(.inl ⟨⟨_,SqL.of ok⟩,λD hD=>?_⟩)⟩
  have fD:H D=none:=O10.fr p10 D hD
  refine Cr (A5 (rs.map λx=>V.ref x.2)) (λm U H'=>(∃ v,U=[v,some (.ref p)])/\Same H10 H'/\H' D=some (.lst ((Im sw (rules.take m)).map V.int))) ⟨⟨_,rfl⟩,Same.upd hD,Ab⟩ (λm U H' _ q=>q.2.1.seqL (SqL.of ok)) ?_ ?_
  .rintro m x U H11 hx ⟨⟨v,rfl⟩,S11,eD⟩
   obtain⟨⟨rule,r⟩,hm2,rfl⟩:=Am hx
   have hm3:rules[m]? = some rule:=by rw[<- er,am,hm2];rfl
   have hrl2:=hrs _ (ak hm2)
   have nr:H8 r=none:=by obtain⟨_,_,o,_⟩:=hrl2;exact o.1
   have npr:p≠r:=Ai p8 nr
   have kw:Kp (λb=>H b=none/\H8 b≠none) H10 (· ≠ r) H11:=(Kp.same S11).trans (Kp.weak λb h e=>h.2 (e▸nr))
   refine⟨p,dx,_,⟨t.c_zbt,ae2 K t⟩,rfl,.head _,S11 _ _ p10,rfl,⟨aI rfl,aI rfl⟩,p,r,l,s,sw,rule,rfl,⟨dx,_,⟨npr,S11 _ _ p10⟩,rfl,rfl,Pa ⟨rfl,rfl,rfl,rfl,rfl,rfl⟩⟩,P10.tps.mono kw,P10.sts.mono kw,hw,hrl2.mono ((Kp.same S11).trans Kp.any),(hr rule (ak hm3)).2.2,λH12 S12=>?_⟩
   refine⟨_,S12 _ _ eD,?_,⟨_,rfl⟩,(S11.trans S12).set hD,?_⟩
   .rw[ae]
    unfold Im
    rw[ae,aK]
    exact bi (show min m rules.length<=8 by omega) (by decide)
   .rw[Ab]
    unfold Im
    rw[B1 hm3,ax]
    rfl
  rintro U H11 ⟨_,S11,eD⟩
  rw[lenr,aC] at eD
  refine F0 (S11 _ _ p10) cl (na _ (by simp)) (aI rfl) (fs':=fl6 d l n s kk D) rfl λH12 b12 p12=>?_
  have O12:=(O10.up S11).but b12
  have nDp:D≠p:=(Ai p10 hD).symm
  have B12:H12 D=some (.lst ((Im sw rules).map V.int)):=by rw[b12 D nDp];exact eD
  have k12:∀ {ok:Addr->Prop},¬ ok p->Kp ok H10 ok H12:=λh=>(Kp.same S11).trans (Kp.but b12 h)
  have P12:=P10.mono (k12 λe=>nf e.1)
  have R12:=R10.mono (k12 n8)
  refine⟨p,dx,_,⟨t.c_zbt,a71 K t⟩,rfl,.head _,p12,rfl,⟨aI rfl,aI rfl⟩,p,l,s,sw,rfl,⟨dx,_,⟨trivial,p12⟩,rfl,rfl,Pa ⟨rfl,rfl,rfl,rfl,rfl,rfl⟩⟩,P12.tps.mono Kp.any,hw.len,fJ ⟨_,_,_,_,p12,cl,(na _ (by simp)),rfl,⟨D,Im sw rules,rfl,SqL.of B12,?_⟩⟩⟩
  refine F0 p12 cl (na _ (by simp)) (aI rfl) (fs':=bl8 d l n s kk D (Kj sw rules)) rfl λH14 b14 p14=>?_
  refine fJ ⟨_,_,_,_,p14,cl,(na _ (by simp)),rfl,(E9 (decide_eq_false hf) ?_)⟩
  have kk14:∀ {ok:Addr->Prop},¬ ok p->(∀ b,ok b->H b=none)->Kp ok H12 (λb=>b=p\/H b=none) H14:=λh g=>(Kp.but b14 h).trans (Kp.weak λb e=>.inr (g b e))
  have P14:=P12.mono (kk14 (λe=>nf e.1) λb e=>e.1)
  refine k H14 ((O12.but b14)) ⟨dx,d,l,n,s,kk,D,⟨.inl rfl,p14⟩,P14.sws,P14.tps,P14.nms,P14.sts,R12.mono (kk14 n8 (O8.fr p8)),⟨.inr fD,?_⟩⟩
  rw[b14 D nDp];exact B12
end
theorem aa6 {a b:Bool} {A B:Prop} (hB:¬ (a=true/\b=true)->B) (hA:a=true->b=true->A):if a=true then (if b=true then A else B) else B:=by
 cases a with
 |false=>exact hB λz=>by cases z.1
 | true=>cases b with
  |false=>exact hB λz=>by cases z.2
  |true=>exact hA rfl rfl
theorem ar3 {a b c:Bool} {A B:Prop} (hB:¬ (a=true/\b=true/\c=true)->B) (hA:a=true->b=true->c=true->A):if a=true then (if b=true then (if c=true then A else B) else B) else B:=by
 cases a with
 |false=>exact hB λz=>by cases z.1
 |true=>exact Q6 (aa6 (λz=>hB λy=>z y.2) (hA rfl))
def NL (H H':Hp):Prop:=∀ a o,(∀ l,o≠.lst l)->H a=some o->H' a=some o
theorem NL.same {H H':Hp} (S:Same H H'):NL H H':=λa o _ e=>S a o e
theorem NL.tup {H H':Hp} (S:NL H H'):∀ b ys,H b=some (.tup ys)->H' b=some (.tup ys):=λb ys=>S b _ λ_ z=>by cases z
theorem NL.upd {H:Hp} {D:Addr} {l m:List V} (h:H D=some (.lst l)):NL H (upd H D (.lst m)):=λa o n e=>by rw[Ad λz=>by rw[z,h] at e;cases e;exact n _ rfl];exact e
theorem Jn {J:It} {its:List V} {ok:Hp->Prop} {te:DE} {rest:St} {H:Hp} {R:Hp->Addr->Prop} {E:EK} {P:Nat->V->Hp->Prop} (up:∀ i v H1 H2,NL H1 H2->P i v H1->P i v H2) (Y:Cp J its ok) (hok:∀ H1,Same H H1->ok H1) (hn:its.length<=1000)
  (he:∀ i x H1 Q1,its[i]? = some x->Same H H1->(∀ v H2,Same H1 H2->P i v H2->Q1 v H2)->te (some x::rest) H1 Q1 E) (k:∀ D H' vs,Same H H'->H D=none->H' D=some (.lst vs)->vs.length=its.length->(∀ (i:Nat) v,vs[i]? = some v->P i v H')->R H' D) :
  ∀ D,H D=none->Ef J (gdN 0) Ck te D (λH'=>R H' D) (none::rest) (upd H D (.lst [])) E:=by
 intro D hD
 refine Cr Y (λi U H'=>(∃ v,U=v::rest)/\Same H H' /\ ∃ vs:List V,H' D=some (.lst vs)/\vs.length=i /\ ∀ (i:Nat) v,vs[i]? = some v->P i v H') ⟨⟨_,rfl⟩,Same.upd hD,[],Ab,rfl,λi v h=>by simp at h⟩ (λ_ _ H' _ q=>hok H' q.2.1) ?_ ?_
 .rintro i x U H1 hx ⟨⟨v,rfl⟩,S1,vs,eD,lv,hv⟩
  have hi:=Al hx
  have big:(1000:Nat)<sizeLine:=by decide
  refine he i x H1 _ hx S1 λv H2 S2 pv=>⟨vs,S2 _ _ eD,by omega,⟨_,rfl⟩,(S1.trans S2).set hD,vs++[v],Ab,by rw[aW,lv];rfl,λj u hj=>?_⟩
  have nl:=NL.upd (m:=vs++[v]) (S2 _ _ eD)
  by_cases hj2:j<vs.length
  .rw[bT hj2] at hj
   exact up _ _ _ _ nl (up _ _ _ _ (NL.same S2) (hv j u hj))
  .have hj3:=Al hj
   rw[aW] at hj3
   have hj4:j=vs.length:=by have:j<vs.length+1:=hj3;omega
   subst hj4
   rw[bD (ai _),f9] at hj
   cases hj
   rw[lv]
   exact up _ _ _ _ nl pv
 .rintro U H1 ⟨_,S1,vs,eD,lv,hv⟩
  exact k D H1 vs S1 hD eD lv hv
theorem Kc {J:It} {its:List V} {ok:Hp->Prop} {te:DE} {rest:St} {H:Hp} {R:Hp->Addr->Prop} {E:EK} {f:Nat->V} (Y:Cp J its ok) (hok:∀ H1,Same H H1->ok H1) (hn:its.length<=1000)
  (he:∀ i x H1 Q1,its[i]? = some x->Same H H1->(∀ H2,Same H1 H2->Q1 (f i) H2)->te (some x::rest) H1 Q1 E) (k:∀ D H',Same H H'->H D=none->H' D=some (.lst ((ay its.length).map f))->R H' D) :
  ∀ D,H D=none->Ef J (gdN 0) Ck te D (λH'=>R H' D) (none::rest) (upd H D (.lst [])) E:=
 Jn (P:=λi v _=>v=f i) (λ_ _ _ _ _ h=>h) Y hok hn (λi x H1 Q1 hx S q=>he i x H1 Q1 hx S λH2 S2=>q _ H2 S2 rfl) λD H' vs S hD eD lv hv=>k D H' S hD (by
  rw[eD]
  congr 2
  refine List.ext_getElem? λi=>?_
  rw[am]
  by_cases hi:i<its.length
  .rw[eK hi,ah (by omega)]
   exact congrArg some (hv i _ (ah (by omega)))
  .rw[dR (by omega),dR (by rw[bj];omega)]
   rfl)
section
variable {P:aS} {w:bz} {K:ac} {mg:Str->Option Value} {base:Heap} {t:Adr}
theorem bb3 (Z:An K t):OkD K Zz (Ay K t) bl (t.f 0) (t.d 0) (En K t):=by
 refine okD (n:=40) (t:=bv7 K t) rfl (by decide +kernel) (by kernel_rfl) (λvs H Q E h=>?_) (λvs H Q E h=>?_)
 .obtain⟨a,ns,k,rfl,_⟩:=h;rfl
 .obtain⟨a,ns,k,rfl,hS,q⟩:=h
  refine .inl ⟨_,.inl hS,?_⟩
  refine Jd (λe=>?_) (λe=>?_)
  .have e:(k:Int)<((ns.map V.int).length:Int):=by simpa using e
   have hk:k<ns.length:=by rw[ae] at e;omega
   have:Cc ns k=ns[k]:=by unfold Cc;rw[ar,ah hk];rfl
   rw[this] at q
   exact⟨_,_,.inl hS,Bu (j:=k) (by rw[am,ah hk];rfl),q⟩
  .have e:¬ (k:Int)<((ns.map V.int).length:Int):=by simpa using e
   have hk:ns.length<=k:=by rw[ae] at e;omega
   have:Cc ns k=0:=by unfold Cc;rw[ar,dR hk];rfl
   rw[this] at q
   exact q
theorem bc1 (Z:An K t):OkD K Z7 (Ay K t) bl (t.f 1) (t.d 1) (Bj K t):=by
 refine okD (n:=40) (t:=bw5 K t) rfl (by decide +kernel) (by kernel_rfl) (λvs H Q E h=>?_) (λvs H Q E h=>?_)
 .obtain⟨c,k,rfl,_⟩:=h;rfl
 .obtain⟨c,k,rfl,hk,q⟩:=h
  unfold Bo at q
  refine⟨.inl ⟨by decide,by decide⟩,by omega,by decide,ar3 (λhn=>?_) (λe1 e2 e3=>?_)⟩
  .rw[if_neg (λz=>hn ⟨decide_eq_true z.1,by simp[z.2.1],by simp[z.2.2]⟩)] at q
   have b1:0<=(c+7919 * k) * 48271 % 2147483647/\(c+7919 * k) * 48271 % 2147483647<2147483647:=⟨cX _ (by decide),cw _ (by decide)⟩
   refine⟨.inl ⟨by decide,by decide⟩,.inr ⟨by decide,by decide⟩,by decide,?_⟩
   dsimp only at q
   generalize (c+7919 * k) * 48271 % 2147483647=n at b1 q ⊢
   have b2:0<=n * n % 2147483629/\n * n % 2147483629<2147483629:=⟨cX _ (by decide),cw _ (by decide)⟩
   refine⟨.inl ⟨by omega,by omega⟩,by decide,?_⟩
   generalize n * n % 2147483629=m at b2 q ⊢
   exact⟨.inl ⟨by omega,by omega⟩,by decide,⟨by decide,by decide⟩,q⟩
  .rw[if_pos ⟨of_decide_eq_true e1,by simpa using e2,by simpa using e3⟩] at q
   exact q
theorem Ei (l:List Nat):Txt.join (dB "") (l.map λk=>(⟨#[k]⟩:Str))=⟨l.toArray⟩:=by
 show Builtin.Str.glued (dB "") _=_
 rw[StrLaws.glued_eq_join,show dB "" = (⟨#[]⟩:Str) from by decide +kernel]
 exact PyProof.Rows.join_ones l
theorem Ff (l:List Nat):((l.map λk=>(⟨#[k]⟩:Str)).map (·.length)).sum+(l.map λk=>(⟨#[k]⟩:Str)).length * (dB "").length=l.length:=by
 rw[show (dB "").length=0 from by decide +kernel,Nat.mul_zero,Nat.add_zero]
 induction l with
 |nil=>rfl
 |cons a l ih=>rw[aZ,aZ,lg,ih,aO,show (⟨#[a]⟩:Str).length=1 from rfl,lT]
def sgC (sg:Str) (x:Int):Nat:=sg.cps.toList.getD (x % (sg.length:Int)).toNat 0
theorem al4 {sg:Str} (x:Int) (h:1<=sg.length):atI sg.cps.toList (x % (sg.length:Int))=some (sgC sg x):=by
 have h0:=cX x (show (sg.length:Int)≠0 by omega)
 have h1:=cw x (show 0<(sg.length:Int) by omega)
 have e:x % (sg.length:Int)=(((x % (sg.length:Int)).toNat:Nat):Int):=by omega
 have hl:(x % (sg.length:Int)).toNat<sg.cps.toList.length:=by rw[G7];omega
 unfold sgC
 rw[e,aU]
 exact Bu (by rw[ar,ah hl];rfl)
theorem Xc {sg:Str} (x:Int) (h:1<=sg.length):sgC sg x∈sg.cps.toList:=by
 have h1:=cw x (show 0<(sg.length:Int) by omega)
 have hl:(x % (sg.length:Int)).toNat<sg.cps.toList.length:=by
  rw[G7]
  have h0:=cX x (show (sg.length:Int)≠0 by omega)
  omega
 unfold sgC
 rw[ar,ah hl]
 exact cM hl
theorem az0 {sg:Str} {x:Int} {i j:Nat} (nd:sg.cps.toList.Nodup) (hi:i<sg.length) (hj:j<sg.length) (e:sgC sg (x+i)=sgC sg (x+j)):i=j:=by
 have hp:0<(sg.length:Int):=by omega
 have a0:=cX (x+i) (show (sg.length:Int)≠0 by omega)
 have a1:=cw (x+i) hp
 have b0:=cX (x+j) (show (sg.length:Int)≠0 by omega)
 have b1:=cw (x+j) hp
 unfold sgC at e
 have l1:((x+i) % (sg.length:Int)).toNat<sg.cps.toList.length:=by rw[G7];omega
 have l2:((x+j) % (sg.length:Int)).toNat<sg.cps.toList.length:=by rw[G7];omega
 rw[ar,ar,ah l1,ah l2] at e
 have e2:=(c9 nd).mp (show _=_ from e)
 have e3:(x+i) % (sg.length:Int)=(x+j) % (sg.length:Int):=by omega
 have e4:=Int.emod_emod_of_dvd (m:=(sg.length:Int)) (k:=(sg.length:Int))
 have d1:=jV (x+i) (sg.length:Int)
 have d2:=jV (x+j) (sg.length:Int)
 rw[e3] at d1
 generalize (x+i) / (sg.length:Int)=q1 at d1
 generalize (x+j) / (sg.length:Int)=q2 at d2
 have d3:(sg.length:Int) * q1 - (sg.length:Int) * q2=(i:Int) - j:=by omega
 rw[<- Int.mul_sub] at d3
 have:q1 - q2=0:=by
  by_cases z:q1 - q2=0
  .exact z
  .exfalso
   have:1<=q1 - q2\/q1 - q2 <= -1:=by omega
   rcases this with z|z
   .have:=hU z (Int.le_of_lt hp);omega
   .have:=hU z (Int.le_of_lt hp);omega
 rw[this,Int.mul_zero] at d3
 omega
def wA (g:Nat->Nat) (lo k:Nat):Str:=⟨(((ay lo).map g).take (lo - k)).toArray⟩
def wB (g:Nat->Nat) (n:Nat):Str:=⟨((ay n).map g).toArray⟩
theorem Vw (g:Nat->Nat) (lo k:Nat):(wA g lo k).length=lo - k:=by
 show (((ay lo).map g).take (lo - k)).toArray.size=_
 rw[av,aK,ae,bj]
 omega
theorem Qi (g:Nat->Nat) (n:Nat):(wB g n).length=n:=by
 show ((ay n).map g).toArray.size=_
 rw[av,ae,bj]
theorem Ri {α:Type} {f:Nat->α} {m:Nat} (h:∀ i j,i<m->j<m->f i=f j->i=j):((ay m).map f).Nodup:=by
 refine List.pairwise_iff_getElem.mpr λi j hi hj hij=>?_
 rw[ae,bj] at hi hj
 rw[cL,cL,k_,k_]
 intro e
 have:=h i j hi hj e
 omega
theorem Pq (g:Nat->Nat) (n:Nat):(ay n).map (λj=>V.str ⟨#[g j]⟩)=(((ay n).map g).map λc=>(⟨#[c]⟩:Str)).map V.str:=by rw[aF,aF];rfl
theorem ba6 (Z:An K t):OkD K Zt (Ay K t) bl (t.f 3) (t.d 3) (Lb K t):=by
 refine okD (n:=40) (t:=bv0 K t) rfl (by decide +kernel) (by kernel_rfl) (λvs H Q E h=>?_) (λvs H Q E h=>?_)
 .obtain⟨c,sg,lo,m,rfl,_⟩:=h;rfl
 .obtain⟨c,sg,lo,m,rfl,h1,h12,hm,s1,s100,nd,k⟩:=h
  have big:(1000:Nat)<sizeLine:=by decide
  refine⟨c,1,rfl,by decide,by decide,aa6 (λ_=>?_) (λ_ e2=>?_)⟩
  .have b1:1<=1+Bo c 20 % (lo:Int)/\1+Bo c 20 % (lo:Int)<=lo:=by
    have:=cX (Bo c 20) (show (lo:Int)≠0 by omega)
    have:=cw (Bo c 20) (show 0<(lo:Int) by omega)
    omega
   refine⟨c,20,rfl,by decide,by omega,c,21,rfl,by decide,by omega,by decide,λD hD=>⟨⟨by omega,by omega⟩,?_⟩⟩
   show Gh (Itr 0 ((m:Int)).toNat) _ _ _ [some (.int c),some (.str sg),some (.int (lo:Int)),some (.int (m:Int)),none,none,some (.int (1+Bo c 20 % (lo:Int))),some (.int (Bo c 21 % (1+Bo c 20 % (lo:Int)))),some (.ref D),none] _
   obtain⟨n,en⟩:∃ n:Nat,1+Bo c 20 % (lo:Int)=(n:Int):=⟨(1+Bo c 20 % (lo:Int)).toNat,by omega⟩
   rw[en] at b1 ⊢
   have b2:0<=Bo c 21 % (n:Int)/\Bo c 21 % (n:Int)<n:=⟨cX _ (by omega),cw _ (by omega)⟩
   obtain⟨a,ea⟩:∃ a:Nat,Bo c 21 % (n:Int)=(a:Int):=⟨(Bo c 21 % (n:Int)).toNat,by omega⟩
   rw[ea] at b2 ⊢
   let gB:Nat->Nat->Nat:=λi j=>sgC sg (Bo c (22+(j:Int))+(i:Int) * (if decide ((j:Int)=(a:Int))=true then 1 else 0))
   rw[aU]
   refine Bd (Bt 0 m) (λi U H'=>(∃ v5 v9,U=[some (.int c),some (.str sg),some (.int (lo:Int)),some (.int (m:Int)),none,v5,some (.int (n:Int)),some (.int (a:Int)),some (.ref D),v9])/\Same H H'/\H' D=some (Be ((ay i).map λi=>wB (gB i) n))) ⟨⟨_,_,rfl⟩,Same.upd hD,Ab⟩ (λ_ _ _ _ _=>aR) ?_ ?_
   .rintro i x U H2 hx ⟨⟨v5,v9,rfl⟩,S2,eL⟩
    obtain⟨hi,rfl⟩:=Cu hx
    refine⟨⟨by omega,by omega⟩,?_⟩
    show ∀ D,H2 D=none->Ef (Itr 0 ((n:Int)).toNat) _ _ _ D _ _ _ _
    rw[aU]
    refine Kc (f:=λj=>.int (Bo c (22+(j:Int))+(i:Int) * (if decide ((j:Int)=(a:Int))=true then 1 else 0))) (rest:=[some (.int (a:Int)),some (.int c),some (.int (i:Int))]) (Bt 0 n) (λ_ _=>aR) (by rw[Az];omega) (λj x H3 Q1 hj _ q=>?_) λD1 H3 S3 hD1 eD1=>?_
    .obtain⟨hj,rfl⟩:=Cu hj
     exact⟨c,22+(j:Int),rfl,by omega,.inl ⟨by omega,by omega⟩,q _ (Same.refl _)⟩
    .rw[Az] at eD1
     refine⟨.inl ⟨rfl,_,SqL.of (S3 _ _ eL)⟩,rfl,.inl ⟨⟨_,SqL.of eD1⟩,?_⟩⟩
     refine Kc (f:=λj=>.str ⟨#[gB i j]⟩) (rest:=[some (.str sg)]) (A5 _) (λH4 S4=>S4.seqL (SqL.of eD1)) (by rw[ae,bj];omega) (λj x H4 Q1 hj _ q=>?_) λD2 H4 S4 hD2 eD2=>?_
     .obtain⟨j',hj',rfl⟩:=Am hj
      obtain rfl:j'=j:=by
       have:=Al hj'
       rw[bj] at this
       rw[eK this] at hj'
       exact (aD hj').symm
      exact⟨by omega,by omega,by omega,_,al4 _ s1,q _ (Same.refl _)⟩
     .rw[ae,bj,Pq] at eD2
      have S34:=S3.trans S4
      refine⟨_,D2,_,rfl,rfl,.inl (SqL.of eD2),?_,?_⟩
      .rw[Ff,ae,bj];omega
      rw[Ei]
      refine⟨D,_,_,rfl,rfl,S34 _ _ eL,?_,⟨_,_,rfl⟩,(S2.trans S34).set hD,?_⟩
      .rw[ae,ae,bj]
       omega
      .rw[Ab,Be,gv,ax,ax]
       rfl
   .rintro U H2 ⟨⟨v5,v9,rfl⟩,S2,eL⟩
    rw[Az] at eL
    refine .inl (k H2 D _ S2 hD eL (by simp) ⟨Ri λi j hi hj e=>?_,λz hz=>?_⟩)
    .have h:(ay n).map (gB i)=(ay n).map (gB j):=congrArg (λz:Str=>z.cps.toList) e
     have h2:=congrArg (λl:List Nat=>l[a]?) h
     have ha:a<n:=by omega
     simp only[am,eK ha,iy,gS] at h2
     have h3:sgC sg (Bo c (22+(a:Int))+(i:Int))=sgC sg (Bo c (22+(a:Int))+(j:Int)):=by
      have e1:∀ x:Nat,gB x a=sgC sg (Bo c (22+(a:Int))+(x:Int)):=λx=>by
       show sgC sg (_+(x:Int) * (if decide ((a:Int)=(a:Int))=true then 1 else 0))=_
       rw[decide_eq_true rfl,if_pos rfl,Int.mul_one]
      rw[<- e1,<- e1];exact h2
     exact az0 nd (by omega) (by omega) h3
    .obtain⟨i,_,rfl⟩:=List.mem_map.mp hz
     rw[Qi]
     refine⟨by omega,by omega,λx hx=>?_⟩
     have hx:x∈(ay n).map (gB i):=hx
     obtain⟨j,_,rfl⟩:=List.mem_map.mp hx
     exact Xc _ s1
  .have e2:m<=lo:=by
    have e2:(m:Int)<=(lo:Int):=of_decide_eq_true e2
    omega
   let gA:Nat->Nat:=λj=>sgC sg (Bo c (2+(j:Int)))
   refine⟨rfl,⟨by omega,by omega⟩,?_⟩
   show ∀ D,H D=none->Ef (Itr 0 ((lo:Int)).toNat) _ _ _ D _ _ _ _
   rw[aU]
   refine Kc (f:=λj=>.str ⟨#[gA j]⟩) (rest:=[some (.int c),some (.str sg)]) (Bt 0 lo) (λ_ _=>aR) (by rw[Az];omega) (λj x H2 Q1 hj _ q=>?_) λD H2 S2 hD eD=>?_
   .obtain⟨hj,rfl⟩:=Cu hj
    exact⟨c,2+(j:Int),rfl,by omega,by omega,by omega,by omega,_,al4 _ s1,q _ (Same.refl _)⟩
   .rw[Az,Pq] at eD
    refine⟨_,D,_,rfl,rfl,.inl (SqL.of eD),?_,?_⟩
    .rw[Ff,ae,bj];omega
    rw[Ei]
    refine⟨⟨by omega,by omega⟩,?_⟩
    show ∀ D,H2 D=none->Ef (Itr 0 ((m:Int)).toNat) _ _ _ D _ _ _ _
    rw[aU]
    refine Kc (f:=λk=>.str (wA gA lo k)) (rest:=[some (.int (lo:Int)),some (.str ⟨((ay lo).map gA).toArray⟩)]) (Bt 0 m) (λ_ _=>aR) (by rw[Az];omega) (λj x H3 Q1 hj _ q=>?_) λD3 H3 S3 hD3 eD3=>?_
    .obtain⟨hj,rfl⟩:=Cu hj
     have es:Txt.slice ⟨((ay lo).map gA).toArray⟩ none (some ((lo:Int) - (j:Int)))=wA gA lo j:=by
      have hl:((⟨((ay lo).map gA).toArray⟩:Str).length:Int)=lo:=by
       have:=Qi gA lo
       unfold wB at this
       rw[this]
      have e:=ck (PyProof.Rows.slice_closes_to (x:=⟨((ay lo).map gA).toArray⟩) (j:=(lo:Int) - (j:Int)) ⟨by omega,by rw[G7,hl];omega⟩)
      rw[e,Int.sub_zero,show ((lo:Int) - (j:Int)).toNat=lo - j by omega]
      unfold wA
      simp
     refine⟨?_,?_⟩
     .have:=Qi gA lo
      unfold wB at this
      rw[this]
      omega
     .rw[es];exact q _ (Same.refl _)
    .rw[Az] at eD3
     refine k H3 D3 ((ay m).map (wA gA lo)) (S2.trans S3) (S2.free hD3) (by rw[eD3,Be,aF];rfl) (by simp) ⟨Ri λi j hi hj e=>?_,λz hz=>?_⟩
     .have h:=congrArg Str.length e
      rw[Vw,Vw] at h
      omega
     .obtain⟨i,hi,rfl⟩:=List.mem_map.mp hz
      have hi:=List.mem_range.mp hi
      rw[Vw]
      refine⟨by omega,by omega,λx hx=>?_⟩
      have hx:x∈((ay lo).map gA).take (lo - i):=hx
      obtain⟨j,_,rfl⟩:=List.mem_map.mp (fL hx)
      exact Xc _ s1
theorem ba3 (Z:An K t):OkD K Zq (Ay K t) bl (t.f 12) (t.d 12) (U9 K t):=by
 refine okD (n:=40) (t:=bu7 K t) rfl (by decide +kernel) (by kernel_rfl) (λvs H Q E h=>?_) (λvs H Q E h=>?_)
 .obtain⟨c,m,rfl,_⟩:=h;rfl
 .obtain⟨c,m,rfl,hm,k⟩:=h
  have l37:(dB "abcdefghijklmnopqrstuvwxyz0123456789.").length=37:=by decide +kernel
  exact⟨c,_,12,m,rfl,by decide,by decide,by rw[l37];omega,by rw[l37];decide,by rw[l37];decide,by decide +kernel,λH' l ws S _ e hl hw=>k H' l ws S e hl hw.1 λz h=>(hw.2 z h).2.1⟩
theorem Qz {xs:List V} {i:Nat} {x y:V} (h:(Dy 0 xs)[i]? = some (x,y)):x=.int (i:Int)/\xs[i]? = some y:=by
 have hi:=Al h
 rw[Br] at hi
 have:=Ct (k:=0) (ah hi)
 rw[h] at this
 injection this with e
 injection e with e1 e2
 rw[cO] at e1
 exact⟨e1,by rw[e2,ah hi]⟩
structure SwL (H':Hp) (ls:Addr) (ds:List (((Str×List Str)×Addr)×Addr)):Prop where
 at_:H' ls=some (.lst (ds.map λx=>.ref x.2))
 tup:∀ x∈ds,H' x.2=some (.tup [.str x.1.1.1,.ref x.1.2])
 lst:∀ x∈ds,H' x.1.2=some (Be x.1.1.2)/\x.1.2≠ls
theorem SwL.up {H1 H2:Hp} {ls:Addr} {ds:List (((Str×List Str)×Addr)×Addr)} (h:SwL H1 ls ds) (S:Same H1 H2):SwL H2 ls ds:=⟨S _ _ h.at_,λx hx=>S _ _ (h.tup x hx),λx hx=>⟨S _ _ (h.lst x hx).1,(h.lst x hx).2⟩⟩
theorem SwL.snoc {H1:Hp} {ls:Addr} {ds:List (((Str×List Str)×Addr)×Addr)} (h:SwL H1 ls ds) {e:Str×List Str} {la ta:Addr} (ht:H1 ta=some (.tup [.str e.1,.ref la])) (hl:H1 la=some (Be e.2)) (nl:la≠ls) :
  SwL (upd H1 ls (.lst ((ds.map λx=>V.ref x.2)++[.ref ta]))) ls (ds++[((e,la),ta)]):=by
 have nt:∀ {a:Addr} {xs:List V},H1 a=some (.tup xs)->a≠ls:=λq z=>by rw[z,h.at_] at q;cases q
 refine⟨by rw[Ab,ax];rfl,λx hx=>?_,λx hx=>?_⟩
 .rcases List.mem_append.mp hx with hx|hx
  .rw[Ad (nt (h.tup x hx))];exact h.tup x hx
  .obtain rfl:x=((e,la),ta):=by simpa using hx
   rw[Ad (nt ht)];exact ht
 .rcases List.mem_append.mp hx with hx|hx
  .rw[Ad (h.lst x hx).2];exact h.lst x hx
  .obtain rfl:x=((e,la),ta):=by simpa using hx
   rw[Ad nl];exact⟨hl,nl⟩
theorem K7 (sw:Sw) (e:Str×List Str):B4 (sw++[e])=B4 sw * e.2.length:=by unfold B4;rw[fF];rfl
abbrev lettersS:Str := "abcdefghijklmnopqrstuvwxyz"
theorem ah0 {z:Str} (h:1<=z.length/\z.length<=8 /\ ∀ c∈z.cps.toList,c∈lettersS.cps.toList):okW z:=⟨h.1,h.2.1,by
 rw[be]
 intro c hc
 have:=h.2.2 c hc
 rw[show lettersS.cps.toList=(ay 26).map (97 + ·) by decide +kernel] at this
 obtain⟨i,hi,rfl⟩:=List.mem_map.mp this
 have:=List.mem_range.mp hi
 unfold J2
 simp
 omega⟩
theorem bp5 (Z:An K t):OkD K a45 (Ay K t) bl (t.f 4) (t.d 4) (an1 K t):=by
 refine okD (n:=40) (t:=b26 K t) rfl (by decide +kernel) (by kernel_rfl) (λvs H Q E h=>?_) (λvs H Q E h=>?_)
 .obtain⟨c,m,rfl,_⟩:=h;rfl
 .obtain⟨c,m,rfl,hm,hm2,k⟩:=h
  have l26:lettersS.length=26:=by decide +kernel
  have nd26:lettersS.cps.toList.Nodup:=by decide +kernel
  refine⟨c,lettersS,8,5,rfl,by decide,by decide,by rw[l26];decide,by rw[l26];decide,by rw[l26];decide,nd26,λH1 lw ws S1 _ elw lws okw=>⟨by decide,λls hls=>?_⟩⟩
  have fls:=S1.free hls
  have nwl:lw≠ls:=Ai elw hls
  have S2:=S1.trans (Same.upd (o:=.lst []) hls)
  have elw2:upd H1 ls (.lst []) lw=some (Be ws):=by rw[Ad nwl];exact elw
  have L2:SwL (upd H1 ls (.lst [])) ls []:=⟨Ab,λx hx=>(by cases hx),λx hx=>(by cases hx)⟩
  generalize upd H1 ls (.lst [])=H2 at S2 elw2 L2 ⊢
  refine⟨c,40,rfl,by decide,by decide,⟨by omega,by omega⟩,?_⟩
  have hN:1<=(1+Bo c 40 % 5).toNat/\(1+Bo c 40 % 5).toNat<=5:=by omega
  refine Bd (Bt 0 (1+Bo c 40 % 5).toNat) (λi U H'=>∃ ds:List (((Str×List Str)×Addr)×Addr),(∃ v6 v7,U=[some (.int c),some (.int (m:Int)),some (.str lettersS),some (.ref lw),some (.ref ls),some (.int (B4 (ds.map (·.1.1)):Nat)),v6,v7])/\Same H H'/\H' lw=some (Be ws)/\SwL H' ls ds /\
    (ds.map (·.1.1.1)).Sublist (ws.take i)/\(∀ x∈ds,Fx x.1.1.2)/\B4 (ds.map (·.1.1))<=m/\(i=0->ds=[])/\(1<=i->ds≠[]))
   ⟨[],⟨_,_,rfl⟩,S2,elw2,L2,dD _,λx hx=>(by cases hx),(show 1<=m by omega),λ_=>rfl,λh=>(by omega)⟩ (λ_ _ _ _ _=>aR) ?_ ?_
  .rintro i x U H5 hx ⟨ds,⟨v6,v7,rfl⟩,S45,elw5,L5,sub,oks,pm,z0,z1⟩
   obtain⟨hi,rfl⟩:=Cu hx
   have hs:2<=2+Bo c (41+(i:Int)) % 3/\2+Bo c (41+(i:Int)) % 3<=4:=by omega
   obtain⟨sz,esz⟩:∃ sz:Nat,2+Bo c (41+(i:Int)) % 3=(sz:Int):=⟨(2+Bo c (41+(i:Int)) % 3).toNat,by omega⟩
   refine⟨c,41+(i:Int),rfl,by omega,by decide,?_⟩
   refine⟨.inr ⟨by omega,by omega⟩,Jd (λe=>⟨.inr ⟨by omega,by omega⟩,?_⟩) (λe=>?_)⟩
   .have e:((B4 (ds.map (·.1.1)):Nat):Int) * (2+Bo c (41+(i:Int)) % 3)<=m:=of_decide_eq_true e
    have hiw:i<ws.length:=by omega
    refine⟨.inl ⟨rfl,_,SqL.of L5.at_⟩,_,_,.inl (SqL.of elw5),Bu (j:=i) (by rw[am,ah hiw];rfl),?_⟩
    refine⟨c+1+(i:Int),lettersS,8,sz,by rw[<- esz];rfl,by decide,by decide,by rw[l26];omega,by rw[l26];decide,by rw[l26];decide,nd26,λH6 la ss S6 fla ela lss okss=>⟨(show 2<=sizeLine by decide),λta hta=>?_⟩⟩
    have nla:la≠ls:=(Ai L5.at_ fla).symm
    have ST:=Same.upd (o:=.tup [.str ws[i],.ref la]) hta
    have et:upd H6 ta (.tup [.str ws[i],.ref la]) ta=some (.tup [.str ws[i],.ref la]):=Ab
    generalize upd H6 ta (.tup [.str ws[i],.ref la])=H7 at ST et ⊢
    have L7:=L5.up (S6.trans ST)
    have lds:ds.length<=5:=by
     have:=sub.length_le
     rw[ae,aK] at this
     omega
    refine⟨ls,_,_,rfl,rfl,L7.at_,?_,?_⟩
    .rw[ae];exact bi lds (by decide)
    have pe:((B4 ((ds++[(((ws[i],ss),la),ta)]).map (·.1.1)):Nat):Int)=(B4 (ds.map (·.1.1)):Nat) * (2+Bo c (41+(i:Int)) % 3):=by
     rw[ax,show [(((ws[i],ss),la),ta)].map (λx:((Str×List Str)×Addr)×Addr=>x.1.1)=[(ws[i],ss)] from rfl,K7,jW,lss,esz]
    refine⟨ds++[(((ws[i],ss),la),ta)],⟨_,_,congrArg (λz=>[some (V.int c),some (V.int (m:Int)),some (V.str lettersS),some (V.ref lw),some (V.ref ls),some (V.int z),some (V.int (i:Int)),some (V.int (2+Bo c (41+(i:Int)) % 3))]) pe.symm⟩,(S45.trans (S6.trans ST)).set fls,?_,L7.snoc et (ST _ _ ela) nla,?_,?_,by omega,λh=>(by omega),λ_ h=>by simp at h⟩
    .rw[Ad nwl];exact (S6.trans ST) _ _ elw5
    .rw[ax,aL,ah hiw]
     exact sub.append (dD _)
    .intro x hx
     rcases List.mem_append.mp hx with hx|hx
     .exact oks x hx
     .obtain rfl:x=(((ws[i],ss),la),ta):=by simpa using hx
      exact⟨⟨λz hz=>ah0 (okss.2 z hz),okss.1,by rw[lss];omega⟩,by rw[lss];omega,by rw[lss];omega⟩
   .have e:¬ ((B4 (ds.map (·.1.1)):Nat):Int) * (2+Bo c (41+(i:Int)) % 3)<=m:=of_decide_eq_false (by simpa using e)
    have hi0:i≠0:=λz=>e (by
     rw[z0 z]
     show ((1:Nat):Int) * _<=_
     omega)
    exact⟨ds,⟨_,_,rfl⟩,S45,elw5,L5,sub.trans (dG (by omega)),oks,pm,λh=>(by omega),λ_=>z1 (by omega)⟩
  .rintro U H4 ⟨ds,⟨v5,v6,rfl⟩,S4,elw4,L4,sub,oks,pm,z0,z1⟩
   rw[Az] at sub z0 z1
   have sub2:=sub.trans (d9 _ ws)
   have hl:=sub2.length_le
   rw[ae] at hl
   have e1:(ds.map (·.1.1)).map (·.1)=ds.map (·.1.1.1):=by rw[aF];rfl
   refine .inl (k H4 ls (ds.map (·.1.1)) S4 ⟨ds,rfl,⟨trivial,L4.at_⟩,λx hx=>⟨⟨trivial,L4.tup x hx⟩,trivial,(L4.lst x hx).1⟩⟩ ⟨?_,?_,?_,?_,?_⟩)
   .rw[ae]
    exact List.length_pos_iff.mpr (z1 hN.1)
   .rw[ae];omega
   .rw[e1];exact okw.1.sublist sub2
   .intro y hy
    obtain⟨x,hx,rfl⟩:=List.mem_map.mp hy
    exact⟨ah0 (okw.2 _ (sub2.subset (List.mem_map.mpr ⟨x,hx,rfl⟩))),oks x hx⟩
   .omega
theorem ba7 (Z:An K t):OkD K Zu (Ay K t) bl (t.f 2) (t.d 2) (Lc K t):=by
 refine okD (n:=40) (t:=bv1 K t) rfl (by decide +kernel) (by kernel_rfl) (λvs H Q E h=>?_) (λvs H Q E h=>?_)
 .obtain⟨l,sw,rfl,_⟩:=h;rfl
 .obtain⟨l,sw,rfl,⟨ds,ed,⟨_,ol⟩,hd⟩,hw,k⟩:=h
  have len:ds.length=sw.length:=by rw[<- ed];simp
  refine .inl ⟨⟨_,SqL.of ol⟩,?_⟩
  refine Bd (A5 (ds.map λx=>V.ref x.2)) (λi U H'=>(∃ v2 v3,U=[some (.ref l),some (.int (B4 (sw.take i):Nat)),v2,v3])/\H'=H) ⟨⟨_,_,rfl⟩,rfl⟩ (λ_ _ H' _ q=>q.2▸SqL.of ol) ?_ ?_
  .rintro i x U H' hx ⟨⟨v2,v3,rfl⟩,rfl⟩
   obtain⟨⟨⟨x',la⟩,ta⟩,hi,rfl⟩:=Am hx
   have hi2:sw[i]? = some x':=by rw[<- ed,am,hi];rfl
   obtain⟨⟨_,h1⟩,_,h2⟩:=hd _ (ak hi)
   have h2:H' la=some (Be x'.2):=h2
   have o4:=(hw.sets x' (ak hi2)).2.2
   refine⟨_,.inl (SqT.of h1),rfl,.inl ⟨_,.inl (SqL.of h2),?_⟩⟩
   have e:((B4 (sw.take (i+1)):Nat):Int)=(B4 (sw.take i):Nat) * ((x'.2.map V.str).length:Nat):=by
    rw[aL,hi2,cK,K7,jW,ae]
   exact⟨.inr ⟨by rw[ae];omega,by rw[ae];omega⟩,⟨_,_,congrArg (λz=>[some (V.ref l),some (V.int z),some (V.str x'.1),some (V.ref la)]) e.symm⟩,rfl⟩
  .rintro U H' ⟨⟨v2,v3,rfl⟩,rfl⟩
   rw[ae,len,aC]
   rw[G3] at k
   exact .inl k
theorem bj7 {a:Addr} (xs:List V):Cp (Sr K a xs.length) xs.reverse (λH=>SqL K H a xs):=by
 refine⟨λi H q h=>⟨by rw[bP] at h;exact h,xs,q,rfl⟩,λH q=>by show xs.length<=xs.reverse.length;rw[bP];exact ai _,λi H x H' q hi h=>?_⟩
 obtain⟨h1,h2⟩:=h
 rw[bP] at hi
 refine⟨h1,?_⟩
 rw[List.getElem?_reverse hi]
 exact h2 xs q
def Kw:List Nat->Nat->Nat
 |[],n=>n
 |s::r,n=>Kw r (n / s)
theorem No:∀ (l:List Nat) (s n:Nat),Kw (l++[s]) n=Kw l n / s
 |[],_,_=>rfl
 |a::l,s,n=>No l s (n / a)
theorem Qy:∀ (l:List Nat) (s n:Nat),Ma (l++[s]) n=(Kw l n % s)::Ma l n
 |[],_,_=>rfl
 | a::l,s,n=>by
  show Ma (l++[s]) (n / a)++[n % a]=_
  rw[Qy l s (n / a)]
  rfl
theorem a94 (Z:An K t):OkD K Zl (Ay K t) bl (t.f 6) (t.d 6) (Pu K t):=by
 refine okD (n:=40) (t:=bt9 K t) rfl (by decide +kernel) (by kernel_rfl) (λvs H Q E h=>?_) (λvs H Q E h=>?_)
 .obtain⟨l,n,sw,rfl,_⟩:=h;rfl
 .obtain⟨l,n,sw,rfl,⟨ds,ed,⟨_,ol⟩,hd⟩,hw,k⟩:=h
  refine⟨(show 0<=sizeLine by decide),λD hD=>?_⟩
  have S0:=Same.upd (o:=.lst []) hD
  have e0:upd H D (.lst []) D=some (nO []):=Ab
  generalize upd H D (.lst [])=H0 at S0 e0 ⊢
  refine⟨_,SqL.of (S0 _ _ ol),?_⟩
  have big:(1000:Nat)<sizeLine:=by decide
  have rv:(ds.map λx=>V.ref x.2).reverse=(ds.reverse).map λx=>V.ref x.2:=List.map_reverse.symm
  have es:(ds.reverse.map λx=>x.1.1.2.length)=(sw.map (·.2.length)).reverse:=by rw[<- ed,aF,jC];rfl
  have ld:ds.reverse.length<=5:=by
   have:=hw.2.1
   rw[<- ed,ae] at this
   rw[bP];exact this
  refine Bd (bj7 (ds.map λx=>V.ref x.2)) (λi U H'=>(∃ v3 v4,U=[some (.ref l),some (.int (Kw ((ds.reverse.take i).map λx=>x.1.1.2.length) n:Nat)),some (.ref D),v3,v4])/\Same H H'/\H' D=some (nO (Ma ((ds.reverse.take i).map λx=>x.1.1.2.length) n)))
   ⟨⟨_,_,rfl⟩,S0,e0⟩ (λ_ _ H' _ q=>q.2.1.seqL (SqL.of ol)) ?_ ?_
  .rintro i x U H1 hx ⟨⟨v3,v4,rfl⟩,S1,e1⟩
   rw[rv] at hx
   obtain⟨⟨⟨x',la⟩,ta⟩,hi,rfl⟩:=Am hx
   have hm:((x',la),ta)∈ds:=List.mem_reverse.mp (ak hi)
   have o2:=(hw.sets x' (by rw[<- ed];exact List.mem_map.mpr ⟨_,hm,rfl⟩)).2
   obtain⟨⟨_,h1⟩,_,h2⟩:=hd _ hm
   have h2:H la=some (Be x'.2):=h2
   have tk:=B1 hi λx=>x.1.1.2.length
   have li:=Al hi
   refine⟨_,.inl (SqT.of (S1 _ _ h1)),rfl,.inl ⟨rfl,_,SqL.of e1⟩,.inl ⟨_,.inl (SqL.of (S1 _ _ h2)),?_⟩⟩
   have cl:(((x'.2.map V.str).length:Nat):Int)=(x'.2.length:Int):=by rw[ae]
   have md:∀ a:Nat,(a:Int) % (x'.2.length:Int)=((a % x'.2.length:Nat):Int):=λa=>(Int.natCast_emod a _).symm
   have el:((Kw ((ds.reverse.take (i+1)).map λx=>x.1.1.2.length) n:Nat):Int)=(Kw ((ds.reverse.take i).map λx=>x.1.1.2.length) n:Nat) / (((x'.2.map V.str).length:Nat):Int):=by
    rw[tk,No,cl];exact Int.natCast_ediv _ _
   refine⟨by omega,D,_,_,0,rfl,rfl,e1,bx _,?_,.inl ⟨_,.inl (SqL.of ((S1.set hD) _ _ h2)),⟨by omega,by omega⟩,⟨_,_,congrArg (λz=>[some (V.ref l),some (V.int z),some (V.ref D),some (V.str x'.1),some (V.ref la)]) el.symm⟩,S1.set hD,?_⟩⟩
   .rw[ae,Dx,ae,aK];omega
   .rw[Ab,nO,tk,Qy,cl,md]
    rfl
  .rintro U H1 ⟨⟨v3,v4,rfl⟩,S1,e1⟩
   rw[bP,ae,<- bP,aC,es] at e1
   exact .inl (k H1 D S1 e1)
theorem a63 {sw:Sw} {x e:Str×List Str} (hw:okSw sw) (hx:x∈sw) (h:e.1=x.1/\e.2≠[]/\e.2.Sublist x.2):Ia sw e:=by
 have ox:=hw.sets x hx
 refine⟨h.2.1,⟨λz hz=>ox.1.1 z (h.2.2.subset hz),ox.1.2.1.sublist h.2.2,?_⟩,x,hx,h.1.symm,λz hz=>h.2.2.subset hz⟩
 have:=h.2.2.length_le
 have:=ox.2.2
 omega
theorem ba5 (Z:An K t):OkD K Zs (Ay K t) bl (t.f 5) (t.d 5) (Vb K t):=by
 refine okD (n:=40) (t:=bu9 K t) rfl (by decide +kernel) (by kernel_rfl) (λvs H Q E h=>?_) (λvs H Q E h=>?_)
 .obtain⟨c,l,sw,rfl,_⟩:=h;rfl
 .obtain⟨c,l,sw,rfl,⟨ds,ed,⟨_,ol⟩,hd⟩,hw,k⟩:=h
  have len:ds.length=sw.length:=by rw[<- ed];simp
  have l5:=hw.2.1
  have big:(1000:Nat)<sizeLine:=by decide
  refine⟨(show 0<=sizeLine by decide),λkk hkk=>?_⟩
  have S0:=Same.upd (o:=.lst []) hkk
  have ek0:upd H kk (.lst []) kk=some (.lst []):=Ab
  generalize upd H kk (.lst [])=H0 at S0 ek0 ⊢
  refine⟨c,60,rfl,by decide,by decide,⟨by omega,by omega⟩,?_⟩
  refine Bd (Bt 0 (Bo c 60 % 4).toNat) (λi U H'=>∃ gs:List (Sw×Addr),(∃ v3 v4 v5 v6 v7 v8 v9,U=[some (.int c),some (.ref l),some (.ref kk),v3,v4,v5,v6,v7,v8,v9])/\Same H H'/\H' kk=some (.lst (gs.map λx=>.ref x.2))/\(∀ x∈gs,RuleAt (· ≠ kk) H' x.2 x.1)/\(∀ r∈gs.map (·.1),Em sw r)/\gs.length<=i)
   ⟨[],⟨_,_,_,_,_,_,_,rfl⟩,S0,ek0,(λx hx=>by cases hx),(λx hx=>by cases hx),ai _⟩ (λ_ _ _ _ _=>aR) ?_ ?_
  .rintro i x U H1 hx ⟨gs,⟨v3,v4,v5,v6,v7,v8,v9,rfl⟩,S1,ek,hg,okg,gl⟩
   obtain⟨hi,rfl⟩:=Cu hx
   intro d hd0
   refine .inl (.inl ⟨⟨_,(S1.trans (Same.upd hd0)).seqL (SqL.of ol)⟩,?_⟩)
   have Sd:=Same.upd (o:=.dK []) hd0
   have e0:upd H1 d (.dK []) d=some (.dK (([]:List ((Str×List Str)×Addr)).map kR)):=Ab
   have ndk:d≠kk:=(Ai ek hd0).symm
   show Gh (Ite K l) _ _ _ [some (.int c),some (.ref l),some (.ref kk),some (.int (i:Int)),some (.ref d),v5,v6,v7,v8,v9] (upd H1 d (.dK []))
   generalize upd H1 d (.dK [])=H2 at Sd e0 ⊢
   refine Jr (Fs (ds.map λx=>V.ref x.2)) (λj U H'=>(∃ v5 v6 v7 v8 v9,U=[some (.int c),some (.ref l),some (.ref kk),some (.int (i:Int)),some (.ref d),v5,v6,v7,v8,v9])/\Same H1 H' /\ ∃ es:List ((Str×List Str)×Addr),H' d=some (.dK (es.map kR))/\(∀ e∈es,H1 e.2=none/\e.2≠d/\H' e.2=some (Be e.1.2))/\((es.map (·.1)).map (·.1)).Sublist ((sw.take j).map (·.1)) /\ ∀ e∈es,Ia sw e.1)
    ⟨⟨_,_,_,_,_,rfl⟩,Sd,[],e0,(λe he=>by cases he),dD _,(λe he=>by cases he)⟩ (λ_ _ H' _ q=>(S1.trans q.2.1).seqL (SqL.of ol)) ?_ ?_
   .rintro j x y T U H3 hx3 hT ⟨⟨v5,v6,v7,v8,v9,rfl⟩,S3,es,ed3,he,sub,oke⟩
    obtain⟨⟨⟨x',la⟩,ta⟩,hj,rfl,rfl⟩:=Ol hx3
    have hj2:sw[j]? = some x':=by rw[<- ed,am,hj];rfl
    have jl:=Al hj2
    obtain⟨⟨_,h1⟩,_,h2⟩:=hd _ (ak hj)
    have h2:H la=some (Be x'.2):=h2
    have o4:=(hw.sets x' (ak hj2)).2.2
    have ST:=Same.upd (o:=.tup [.int (j:Int),.ref ta]) hT
    refine⟨_,.inl (SqT.of Ab),rfl,?_⟩
    generalize upd H3 T (.tup [.int (j:Int),.ref ta])=H4 at ST ⊢
    have S14:=S3.trans ST
    have S04:=S1.trans S14
    refine⟨_,.inl (SqT.of (S04 _ _ h1)),rfl,⟨.inl ⟨by decide,by decide⟩,c,61+8 * (i:Int)+(j:Int),rfl,by omega,?_⟩⟩
    refine .inl ⟨⟨_,SqL.of (S04 _ _ h2)⟩,λD hD=>?_⟩
    refine Oe (Fs (x'.2.map V.str)) (λm U H'=>(∃ v0 v1,U=[v0,v1,some (.int (Bo c (61+8 * (i:Int)+(j:Int))))])/\Same H4 H' /\ ∃ ss,H' D=some (Be ss)/\ss.Sublist (x'.2.take m)) ⟨⟨_,_,rfl⟩,Same.upd hD,[],Ab,jF _⟩ (λm U H' _ q=>(S04.trans q.2.1).seqL (SqL.of h2)) ?_ ?_
    .rintro m u y T2 U H5 hx5 hT2 ⟨⟨v0,v1,rfl⟩,S5,ss,eD,sb⟩
     obtain⟨rfl,hy⟩:=Qz hx5
     obtain⟨z,hz,rfl⟩:=Am hy
     have ST2:=Same.upd (o:=.tup [.int (m:Int),.str z]) hT2
     refine⟨_,.inl (SqT.of Ab),rfl,by omega,?_⟩
     have pl:ss.length<=4:=by
      have:=sb.length_le
      rw[aK] at this
      omega
     refine Jd (λ_=>?_) (λ_=>?_)
     .refine⟨_,ST2 _ _ eD,by rw[ae];omega,⟨_,_,rfl⟩,(S5.trans ST2).set hD,ss++[z],by rw[Ab,Be,ax];rfl,?_⟩
      rw[aL,hz]
      exact sb.append (dD _)
     .exact⟨⟨_,_,rfl⟩,S5.trans ST2,ss,ST2 _ _ eD,sb.trans (dG (by omega))⟩
    .rintro U H5 ⟨_,S5,ss,eD,sb⟩
     have sb2:ss.Sublist x'.2:=sb.trans (d9 _ _)
     have S15:=S14.trans S5
     refine⟨(show 0<=sizeLine by decide),λq hq=>.inl ⟨D,q,_,_,rfl,rfl,SqL.of ((Same.upd hq) _ _ eD),SqL.of Ab,Fn _,rfl,?_⟩⟩
     have Sq:=Same.upd (o:=.lst []) hq
     generalize upd H5 q (.lst [])=H6 at Sq ⊢
     have S16:=S15.trans Sq
     have stay:(∃ v5 v6 v7 v8 v9,[some (V.int c),some (.ref l),some (.ref kk),some (.int (i:Int)),some (.ref d),some (.int (j:Int)),some (.str x'.1),some (.ref la),some (.int (Bo c (61+8 * (i:Int)+(j:Int)))),some (.ref D)]=[some (V.int c),some (.ref l),some (.ref kk),some (.int (i:Int)),some (.ref d),v5,v6,v7,v8,v9])/\Same H1 H6 /\ ∃ es:List ((Str×List Str)×Addr),H6 d=some (.dK (es.map kR))/\(∀ e∈es,H1 e.2=none/\e.2≠d/\H6 e.2=some (Be e.1.2))/\((es.map (·.1)).map (·.1)).Sublist ((sw.take (j+1)).map (·.1)) /\ ∀ e∈es,Ia sw e.1:=
      ⟨⟨_,_,_,_,_,rfl⟩,S16,es,(ST.trans (S5.trans Sq)) _ _ ed3,λe h=>⟨(he e h).1,(he e h).2.1,(ST.trans (S5.trans Sq)) _ _ (he e h).2.2⟩,sub.trans ((dG (by omega)).map _),oke⟩
     by_cases hp:ss=[]
     .subst hp
      exact stay
     .refine Ir (by rw[E4 (by rw[ae];intro z;exact hp (List.length_eq_zero_iff.mp z))];rfl) ?_
      refine⟨⟨by decide,by decide⟩,by decide,Jd (λ_=>?_) (λ_=>stay)⟩
      have nk:B0 (es.map kR) (.inr x'.1)=none:=by
       refine B3 λq=>?_
       rw[J0] at q
       obtain⟨y,hy,e⟩:=List.mem_map.mp q
       cases e
       have hm:=sub.subset hy
       rw[ig] at hm
       exact Ed hw.2.2.1 (show (sw.map (·.1))[j]? = some x'.1 by rw[am,hj2];rfl) hm
      have el:es.length<=5:=by
       have:=sub.length_le
       rw[ae,ae,ae,aK] at this
       omega
      have e6D:=Sq _ _ eD
      have e6d:=(ST.trans (S5.trans Sq)) _ _ ed3
      have ndD:D≠d:=λz=>by rw[z,e6d] at e6D;cases e6D
      refine⟨_,DPut.k (k:=.inr x'.1) e6d (by rw[ae];omega),?_⟩
      rw[Jz (e:=(x'.1,ss)) nk]
      refine⟨⟨_,_,_,_,_,rfl⟩,S16.set hd0,es++[((x'.1,ss),D)],Ab,λx hx=>?_,?_,λx hx=>?_⟩
      .rcases List.mem_append.mp hx with hx|hx
       .obtain⟨a1,a2,a3⟩:=he x hx
        exact⟨a1,a2,by rw[Ad a2];exact (ST.trans (S5.trans Sq)) _ _ a3⟩
       .obtain rfl:x=((x'.1,ss),D):=by simpa using hx
        exact⟨S14.free hD,ndD,by rw[Ad ndD];exact e6D⟩
      .rw[ax,ax,aL,hj2,ax]
       exact sub.append (dD _)
      .rcases List.mem_append.mp hx with hx|hx
       .exact oke x hx
       .obtain rfl:x=((x'.1,ss),D):=by simpa using hx
        exact a63 hw (ak hj2) ⟨rfl,hp,sb2⟩
   .rintro U H3 ⟨⟨v5,v6,v7,v8,v9,rfl⟩,S3,es,ed3,he,sub,oke⟩
    rw[Br,ae,len,aC] at sub
    refine .inl ?_
    intro q hq
    refine .inl (.inr (.inr (.inl (.inr (.inl ⟨_,.inl ((Same.upd hq) _ _ ed3),.inl Ab,?_⟩)))))
    have Sq:=Same.upd (o:=.dK []) hq
    generalize upd H3 q (.dK [])=H4 at Sq ⊢
    have S14:=S3.trans Sq
    have ek4:=S14 _ _ ek
    have hg4:∀ x∈gs,RuleAt (· ≠ kk) H4 x.2 x.1:=λx hx=>(hg x hx).mono (Kp.same S14)
    cases es with
    |nil=>exact⟨gs,⟨_,_,_,_,_,_,_,rfl⟩,S1.trans S14,ek4,hg4,okg,gR gl⟩
    |cons e0 es0=>
     refine Q6 ?_
     refine⟨.inl ⟨rfl,_,SqL.of ek4⟩,kk,_,_,rfl,rfl,ek4,by rw[ae];omega,?_⟩
     refine⟨gs++[((e0::es0).map (·.1),d)],⟨_,_,_,_,_,_,_,rfl⟩,(S1.trans S14).set hkk,by rw[Ab,ax];rfl,λx hx=>?_,λr hr=>?_,by rw[aW];exact cN gl⟩
     .refine RuleAt.mono (H:=H4) (ok:=(· ≠ kk)) ?_ (Kp.off λz=>z rfl)
      rcases List.mem_append.mp hx with hx|hx
      .exact hg4 x hx
      .obtain rfl:x=((e0::es0).map (·.1),d):=by simpa using hx
       exact⟨e0::es0,rfl,⟨ndk,Sq _ _ ed3⟩,λx hx=>⟨(Ai ek (he x hx).1).symm,Sq _ _ (he x hx).2.2⟩⟩
     .rw[ax] at hr
      rcases List.mem_append.mp hr with hr|hr
      .exact okg r hr
      .obtain rfl:r=(e0::es0).map (·.1):=by simpa using hr
       have sl:=sub.length_le
       rw[ae,ae,ae] at sl
       refine⟨by simp,by rw[ae];omega,hw.2.2.1.sublist sub,λe h=>?_⟩
       obtain⟨x,hx,rfl⟩:=List.mem_map.mp h
       exact oke x hx
  .rintro U H1 ⟨gs,⟨v3,v4,v5,v6,v7,v8,v9,rfl⟩,S1,ek,hg,okg,gl⟩
   rw[Az] at gl
   exact .inl (k H1 kk (gs.map (·.1)) S1 ⟨gs,rfl,⟨trivial,ek⟩,λx hx=>(hg x hx).mono Kp.any⟩ okg (by rw[ae];omega))
theorem Q5 (z:Str) (l:List Str):inV (.str z) (l.map V.str)=decide (z∈l):=by
 unfold inV
 rw[lS,bX,decide_eq_true_iff,dO]
 constructor
 .rintro⟨y,hy,e⟩
  have e:(y==z)=true:=e
  rw[<- ck e]
  exact hy
 .intro h
  exact⟨z,h,beq_self_eq_true z⟩
def inE (rule:Sw) (x z:Str):Bool:=rule.all λe=>!decide (e.1=x)||decide (z∈e.2)
def X5 (sw rule:Sw) (r:List Str) (j:Nat):Bool:=inE rule ((sw.map (·.1)).getD j eh) (r.getD j eh)
theorem Jt {α:Type} {l:List α} {i:Nat} {x d:α} (h:l[i]? = some x):l.getD i d=x:=by rw[ar,h];rfl
theorem a57 {sw rule:Sw} {n:Nat} {r:List Str} (hw:okSw sw) (hb:Em sw rule) (hn:(Aj sw)[n]? = some r):((ay sw.length).all (X5 sw rule r))=(Ft sw rule).testBit n:=by
 have rl:r.length=sw.length:=(G5 hw.sets).2.1 r (ak hn)
 have nm:∀ {j:Nat} {x:Str×List Str},sw[j]? = some x->(sw.map (·.1)).getD j eh=x.1:=λh=>Jt (by rw[am,h];rfl)
 have hz:∀ {j:Nat},j<sw.length->r[j]? = some (r.getD j eh):=λh=>by rw[ar,ah (by omega)];rfl
 rw[ab3,decide_eq_true (Al hn),jm,bX,be,be]
 constructor
 .intro h e he
  obtain⟨_,_,x,hx,ex,_⟩:=hb.2.2.2 e he
  obtain⟨j,hj⟩:=List.mem_iff_getElem?.mp hx
  have jl:=Al hj
  have:=List.all_eq_true.mp (h j (List.mem_range.mpr jl)) e he
  rw[nm hj,ex,decide_eq_true rfl,k8,jk,decide_eq_true_iff] at this
  refine List.any_eq_true.mpr ⟨_,this,?_⟩
  unfold Tt
  rw[hn,<- ex,K6 hj hw.2.2.1]
  exact decide_eq_true (hz jl)
 .intro h j hj
  have jl:=List.mem_range.mp hj
  have hx:sw[j]? = some sw[j]:=ah jl
  refine List.all_eq_true.mpr λe he=>?_
  rw[nm hx]
  by_cases c:e.1=sw[j].1
  .obtain⟨z,hz1,hz2⟩:=List.any_eq_true.mp (h e he)
   unfold Tt at hz2
   have hz2:=of_decide_eq_true hz2
   rw[hn,c,K6 hx hw.2.2.1] at hz2
   have hz2:r[j]? = some z:=hz2
   rw[Jt hz2,decide_eq_true hz1,fZ]
  .rw[decide_eq_false c];rfl
theorem a55 (f:Nat->Bool) (n:Nat):(((ay n).map f).all λb=>b)=(ay n).all f:=by rw[g9];rfl
theorem a93 (Z:An K t):OkD K Zk (Ay K t) bl (t.f 7) (t.d 7) (U1 K t):=by
 refine okD (n:=40) (t:=bt8 K t) rfl (by decide +kernel) (by kernel_rfl) (λvs H Q E h=>?_) (λvs H Q E h=>?_)
 .obtain⟨l,k,n,sw,rules,rfl,_⟩:=h;rfl
 .obtain⟨l,kk,n,sw,rules,rfl,hsw,hw,⟨gs,eg,⟨_,ok⟩,hg⟩,hr,hn,k⟩:=h
  have big:(1000:Nat)<sizeLine:=by decide
  have l5:=hw.2.1
  refine⟨l,n,sw,rfl,hsw,hw,λH1 r S1 er=>?_⟩
  obtain⟨ds,ed,⟨_,ol⟩,hd⟩:=hsw
  have len:ds.length=sw.length:=by rw[<- ed];simp
  have hrow:(Aj sw)[n]? = some (Aj sw)[n]:=ah hn
  generalize (Aj sw)[n]=row at hrow
  refine .inl ⟨⟨_,SqL.of (S1 _ _ ok)⟩,?_⟩
  refine Bd (A5 (gs.map λx=>V.ref x.2)) (λi U H'=>(∃ v4 v5,U=[some (.ref l),some (.ref kk),some (.int (n:Int)),some (.ref r),v4,v5])/\Same H1 H' /\ ∀ q∈rules.take i,(Ft sw q).testBit n=false) ⟨⟨_,_,rfl⟩,Same.refl _,λq hq=>(by cases hq)⟩ (λ_ _ H' _ q=>(S1.trans q.2.1).seqL (SqL.of ok)) ?_ ?_
  .rintro i x U H2 hx ⟨⟨v4,v5,rfl⟩,S2,pre⟩
   obtain⟨⟨rule,ra⟩,hi,rfl⟩:=Am hx
   have hi2:rules[i]? = some rule:=by rw[<- eg,am,hi];rfl
   obtain⟨es,ee,⟨_,oe⟩,he⟩:=hg _ (ak hi)
   have ee:es.map (·.1)=rule:=ee
   have oe:H ra=some (.dK (es.map kR)):=oe
   have okr:=hr rule (ak hi2)
   have S02:=S1.trans S2
   refine .inl ⟨⟨_,SqL.of (S02 _ _ ol)⟩,λD hD=>?_⟩
   refine Oe (Fs (ds.map λx=>V.ref x.2)) (λm U H'=>(∃ v0 v1 v2,U=[v0,v1,v2,some (.ref r),some (.ref ra)])/\Same H2 H'/\H' D=some (.lst (((ay m).map (X5 sw rule row)).map V.bl))) ⟨⟨_,_,_,rfl⟩,Same.upd hD,Ab⟩ (λm U H' _ q=>(S02.trans q.2.1).seqL (SqL.of ol)) ?_ ?_
   .rintro j x y T U H3 hx3 hT ⟨⟨v0,v1,v2,rfl⟩,S3,eD⟩
    obtain⟨⟨⟨x',la⟩,ta⟩,hj,rfl,rfl⟩:=Ol hx3
    have hj2:sw[j]? = some x':=by rw[<- ed,am,hj];rfl
    have jl:=Al hj2
    obtain⟨⟨_,h1⟩,_,h2⟩:=hd _ (ak hj)
    have h2:H la=some (Be x'.2):=h2
    have ST:=Same.upd (o:=.tup [.int (j:Int),.ref ta]) hT
    refine⟨_,.inl (SqT.of Ab),rfl,?_⟩
    generalize upd H3 T (.tup [.int (j:Int),.ref ta])=H4 at ST ⊢
    have S24:=S3.trans ST
    have S04:=S02.trans S24
    obtain⟨dg,hd1,hd2,hd3⟩:=a62 hw hrow hj2
    have hz:x'.2[dg]? = some x'.2[dg]:=ah hd2
    rw[hz] at hd3
    generalize x'.2[dg]=z at hz hd3
    refine⟨_,.inl (SqT.of (S04 _ _ h1)),rfl,?_⟩
    refine⟨_,.int (dg:Int),.inl (SqL.of ((S2.trans S24) _ _ er)),Bu (j:=j) (by rw[am,hd1];rfl),_,.str z,.inl (SqL.of (S04 _ _ h2)),Bu (j:=dg) (by rw[am,hz];rfl),?_⟩
    refine⟨.inr (.inr (.inl ⟨rfl,.inl ⟨_,S04 _ _ oe⟩⟩)),_,DGet.k (k:=.inr x'.1) (S04 _ _ oe),?_⟩
    have fin:∀ b:Bool,b=X5 sw rule row j -> ∃ ys,H4 D=some (.lst ys)/\ys.length<sizeLine/\(∃ v0 v1 v2,[some (V.int (j:Int)),some (.str x'.1),some (.ref la),some (.ref r),some (.ref ra)]=[v0,v1,v2,some (.ref r),some (.ref ra)])/\Same H2 (upd H4 D (.lst (ys++[.bl b])))/\upd H4 D (.lst (ys++[.bl b])) D=some (.lst (((ay (j+1)).map (X5 sw rule row)).map V.bl)):=λb hb=>
     ⟨_,ST _ _ eD,by rw[ae,ae,bj];omega,⟨_,_,_,rfl⟩,S24.set hD,by rw[Ab,hb,gv,ax,ax];rfl⟩
    have ins:X5 sw rule row j=inE rule x'.1 z:=by unfold X5;rw[Jt hd3,Jt (x:=x'.1) (by rw[am,hj2];rfl)]
    by_cases hin:x'.1∈rule.map (·.1)
    .obtain⟨e,hee,en⟩:=List.mem_map.mp hin
     rw[<- ee] at hee
     obtain⟨⟨e',le⟩,hes,rfl⟩:=List.mem_map.mp hee
     obtain⟨a,ha⟩:=List.mem_iff_getElem?.mp hes
     have hv:B0 (es.map kR) (.inr x'.1)=some (.ref le):=by
      rw[<- en]
      exact Bm (Ej ee okr.2.2.1) (by rw[am,ha];rfl)
     rw[hv]
     refine .inl ⟨le,_,rfl,.inl (SqL.of (S04 _ _ (he _ hes).2)),rfl,Fn _,fin _ ?_⟩
     show inV (.str z) _=_
     rw[Q5,ins]
     have em:e'∈rule:=by rw[<- ee];exact hee
     unfold inE
     rw[bX,decide_eq_true_iff,be]
     refine⟨λhz e he2=>?_,λh=>by simpa [show e'.1=x'.1 from en] using h e' em⟩
     by_cases c:e.1=x'.1
     .have:e=e':=by
       obtain⟨a1,q1⟩:=List.mem_iff_getElem?.mp he2
       obtain⟨a2,q2⟩:=List.mem_iff_getElem?.mp em
       have l1:=Al q1
       have l2:=Al q2
       rw[ah l1] at q1
       rw[ah l2] at q2
       have:=(c9 (i:=a1) (j:=a2) (h₀:=by rw[ae];exact l1) (h₁:=by rw[ae];exact l2) okr.2.2.1).mp (by rw[cL,cL,aD q1,aD q2,c];exact en.symm)
       subst this
       exact (aD q1).symm.trans (aD q2)
      rw[this,decide_eq_true hz,fZ]
     .rw[decide_eq_false c];rfl
    .have hv:B0 (es.map kR) (.inr x'.1)=none:=by
      refine B3 λq=>hin ?_
      rw[J0,ee] at q
      obtain⟨y,hy,e⟩:=List.mem_map.mp q
      cases e
      exact hy
     rw[hv]
     refine .inl ⟨la,_,rfl,.inl (SqL.of (S04 _ _ h2)),rfl,Fn _,fin _ ?_⟩
     show inV (.str z) _=_
     rw[Q5,ins,decide_eq_true (ak hz)]
     refine (List.all_eq_true.mpr λe he2=>?_).symm
     rw[decide_eq_false λc=>hin (List.mem_map.mpr ⟨e,he2,c⟩)];rfl
   .rintro U H3 ⟨_,S3,eD⟩
    rw[Br,ae,len] at eD
    refine⟨_,SqL.of eD,?_⟩
    rw[a55,a57 hw okr hrow]
    cases hc:(Ft sw rule).testBit n with
    |true=>
     have:=k H3 (S02.trans S3)
     have hb:Hk sw rules n=true:=List.any_eq_true.mpr ⟨rule,ak hi2,hc⟩
     rw[hb] at this
     exact this
    |false=>
     refine⟨⟨_,_,rfl⟩,S2.trans S3,λq hq=>?_⟩
     rw[aL,hi2] at hq
     rcases List.mem_append.mp hq with hq|hq
     .exact pre q hq
     .obtain rfl:q=rule:=by simpa using hq
      exact hc
  .rintro U H2 ⟨⟨v4,v5,rfl⟩,S2,pre⟩
   rw[ae,<- ae (f:=Prod.fst) (as:=gs),eg,aC] at pre
   have hb:Hk sw rules n=false:=by
    unfold Hk
    rw[i4]
    exact λq hq z=>by rw[pre q hq] at z;cases z
   have:=k H2 (S1.trans S2)
   rw[hb] at this
   exact .inl this
theorem Nc (l:List Nat):(l.map λn:Nat=>V.int (n:Int)).all Bv=true:=by rw[g9,be];exact λ_ _=>rfl
theorem ba8 (Z:An K t):OkD K Zv (Ay K t) bl (t.f 8) (t.d 8) (Vc K t):=by
 refine okD (n:=40) (t:=bv2 K t) rfl (by decide +kernel) (by kernel_rfl) (λvs H Q E h=>?_) (λvs H Q E h=>?_)
 .obtain⟨c,m,rfl,_⟩:=h;rfl
 .obtain⟨c,m,rfl,hm,hm2,k⟩:=h
  have big:(1000:Nat)<sizeLine:=by decide
  refine⟨c,m,rfl,hm,hm2,λH1 l sw S1 hsw hw=>⟨c,l,sw,rfl,hsw,hw,λH2 kk rules S2 hr okr lr=>?_⟩⟩
  have few:=hw.len
  have S02:=S1.trans S2
  have hsw2:=hsw.mono (Kp.same S2)
  refine⟨l,sw,rfl,hsw2,hw,⟨by omega,by omega⟩,λD hD=>?_⟩
  rw[aU]
  refine Cr (Bt 0 (Aj sw).length) (λi U H'=>(∃ v,U=[v,some (.ref kk),some (.ref l)])/\Same H2 H'/\H' D=some (nO ((ay i).filter λn=>!Hk sw rules n))) ⟨⟨_,rfl⟩,Same.upd hD,Ab⟩ (λ_ _ _ _ _=>aR) ?_ ?_
  .rintro i x U H3 hx ⟨⟨v,rfl⟩,S3,eD⟩
   obtain⟨hi,rfl⟩:=Cu hx
   refine⟨l,kk,i,sw,rules,rfl,hsw2.mono (Kp.same S3),hw,hr.mono (Kp.same S3),okr,hi,λH4 S4=>?_⟩
   have S34:=S3.trans S4
   have fs:(ay (i+1)).filter (λn=>!Hk sw rules n)=(ay i).filter (λn=>!Hk sw rules n)++(if (!Hk sw rules i)=true then [i] else []):=by
    rw[gv,iM,List.filter_cons,List.filter_nil]
   cases hc:Hk sw rules i with
   |true=>
    rw[hc,if_neg (by decide),cz] at fs
    exact⟨⟨_,rfl⟩,S34,by rw[fs];exact S4 _ _ eD⟩
   |false=>
    rw[hc,if_pos (by decide)] at fs
    refine⟨_,S4 _ _ eD,?_,⟨_,rfl⟩,S34.set hD,?_⟩
    .rw[ae]
     have:=dS (λn=>!Hk sw rules n) (ay i)
     rw[bj] at this
     omega
    .rw[Ab,fs,nO,ax];rfl
  .rintro U H3 ⟨_,S3,eD⟩
   rw[Az] at eD
   have eD:H3 D=some (nO (As sw rules)):=eD
   refine⟨(show 0<=sizeLine by decide),λq hq=>.inl ⟨D,q,_,_,rfl,rfl,SqL.of ((Same.upd hq) _ _ eD),SqL.of Ab,Nc _,rfl,?_⟩⟩
   have Sq:=Same.upd (o:=.lst []) hq
   generalize upd H3 q (.lst [])=H4 at Sq ⊢
   have S24:=S3.trans Sq
   have S04:=S02.trans S24
   by_cases hf:As sw rules=[]
   .rw[hf]
    refine Q6 ?_
    refine⟨(show 0<=sizeLine by decide),λk2 hk2=>?_⟩
    have S5:=Same.upd (o:=.lst []) hk2
    have e5:upd H4 k2 (.lst []) k2=some (.lst []):=Ab
    generalize upd H4 k2 (.lst [])=H5 at S5 e5 ⊢
    refine⟨l,sw,rfl,hsw2.mono (Kp.same (S24.trans S5)),hw,by omega,by omega,λD2 hD2=>?_⟩
    rw[aU]
    have S6:=Same.upd (o:=nO (ay (Aj sw).length)) hD2
    have e6:upd H5 D2 (nO (ay (Aj sw).length)) D2=some (nO (ay (Aj sw).length)):=Ab
    show Ae _ _ _ _ (upd H5 D2 (nO (ay (Aj sw).length)))
    generalize upd H5 D2 (nO (ay (Aj sw).length))=H6 at S6 e6 ⊢
    refine⟨(show 3<=sizeLine by decide),λW hW=>?_⟩
    have S7:=Same.upd (o:=.lst [.ref l,.ref k2,.ref D2]) hW
    have f0:As sw []=ay (Aj sw).length:=List.filter_eq_self.mpr λ_ _=>rfl
    refine k _ W sw [] l k2 D2 (S04.trans (S5.trans (S6.trans S7))) ⟨Ab,hsw2.mono (Kp.same (S24.trans (S5.trans (S6.trans S7)))),hw,⟨[],rfl,⟨trivial,(S6.trans S7) _ _ e5⟩,λx hx=>by cases hx⟩,λr hr=>(by cases hr),bx _,by rw[f0];exact S7 _ _ e6,?_⟩
    rw[f0]
    intro z
    have:=congrArg cJ z
    rw[bj,jZ] at this
    have:=hw.pos
    omega
   .refine E9 (E4 (by rw[ae];intro z;exact hf (List.length_eq_zero_iff.mp z))) ?_
    refine⟨(show 3<=sizeLine by decide),λW hW=>?_⟩
    have S7:=Same.upd (o:=.lst [.ref l,.ref kk,.ref D]) hW
    exact k _ W sw rules l kk D (S04.trans S7) ⟨Ab,hsw2.mono (Kp.same (S24.trans S7)),hw,hr.mono (Kp.same (S24.trans S7)),okr,by omega,(Sq.trans S7) _ _ eD,hf⟩
theorem Gr (x:Int) {m:Nat} (h:1<=m):∃ v:Nat,v<m/\x % (m:Int)=(v:Int):=by
 have h0:=cX x (show (m:Int)≠0 by omega)
 have h1:=cw x (show 0<(m:Int) by omega)
 exact⟨(x % (m:Int)).toNat,by omega,by omega⟩
theorem bq3 (Z:An K t):OkD K a49 (Ay K t) bl (t.f 13) (t.d 13) (an7 K t):=by
 refine okD (n:=40) (t:=b34 K t) rfl (by decide +kernel) (by kernel_rfl) (λvs H Q E h=>?_) (λvs H Q E h=>?_)
 .obtain⟨c,l,sw,n,m,rfl,_⟩:=h;rfl
 .obtain⟨c,l,sw,n,m,rfl,hsw,hw,hm,k⟩:=h
  obtain⟨ds,ed,⟨_,ol⟩,hd⟩:=id hsw
  have len:ds.length=sw.length:=by rw[<- ed];simp
  have l1:=hw.1
  refine⟨c,70,rfl,by decide,by decide,Jd (λ_=>?_) (λ_=>?_)⟩
  .refine⟨l,n,sw,rfl,hsw,hw,λH1 r S1 er=>⟨c,71,rfl,by decide,.inl ⟨_,.inl (SqL.of (S1 _ _ ol)),?_⟩⟩⟩
   rw[ae,len]
   obtain⟨j,hj,ej⟩:=Gr (Bo c 71) l1
   have hd2:(Oj sw n)[j]? = some ((Oj sw n)[j]'(by rw[Kf];exact hj)):=ah _
   refine⟨by omega,_,.int ((Oj sw n)[j]'(by rw[Kf];exact hj):Nat),.inl (SqL.of er),?_,by omega,?_⟩
   .rw[ej];exact Bu (by rw[am,hd2];rfl)
   .obtain⟨v,hv,ev⟩:=Gr (((Oj sw n)[j]'(by rw[Kf];exact hj):Nat):Int) hm
    rw[ev]
    exact k H1 v S1 hv
  .obtain⟨v,hv,ev⟩:=Gr (Bo c (700+(n:Int))) hm
   refine⟨c,700+(n:Int),rfl,by omega,by omega,?_⟩
   rw[ev]
   exact k H v (Same.refl _) hv
def textS:Str := " !\"#$&'()*+,-./0123456789:;<=>?@ABCDEFGHIJKLMNOPQRSTUVWXYZ[\\]^_`" ++ "abcdefghijklmnopqrstuvwxyz{|}~"
theorem by1 (x:Int) (h0:0<=x) (h:x<5):∃ L:Nat,L<=60/\atI [V.int 0,.int 1,.int 2,.int 5,.int 60] x=some (.int (L:Int)):=by
 have:x=0\/x=1\/x=2\/x=3\/x=4:=by omega
 rcases this with rfl|rfl|rfl|rfl|rfl
 .exact⟨0,by decide,rfl⟩
 .exact⟨1,by decide,rfl⟩
 .exact⟨2,by decide,rfl⟩
 .exact⟨5,by decide,rfl⟩
 .exact⟨60,by decide,rfl⟩
theorem bb5 (Z:An K t):OkD K Z1 (Ay K t) bl (t.f 9) (t.d 9) (Pw K t):=by
 refine okD (n:=40) (t:=bv9 K t) rfl (by decide +kernel) (by kernel_rfl) (λvs H Q E h=>?_) (λvs H Q E h=>?_)
 .obtain⟨c,rfl,_⟩:=h;rfl
 .obtain⟨c,rfl,k⟩:=h
  have ts:1<=textS.length/\textS.length<=1000:=by decide +kernel
  have big:(1000:Nat)<sizeLine:=by decide
  refine⟨by decide +kernel,(show 5<=sizeLine by decide),λq hq=>⟨c,301,rfl,by decide,by decide,?_⟩⟩
  have S1:=Same.upd (o:=.lst [.int 0,.int 1,.int 2,.int 5,.int 60]) hq
  obtain⟨L,hL,eL⟩:=by1 (Bo c 301 % 5) (by omega) (by omega)
  refine⟨_,_,.inl (SqL.of Ab),eL,?_⟩
  show Ae _ _ _ _ (upd H q (.lst [.int 0,.int 1,.int 2,.int 5,.int 60]))
  generalize upd H q (.lst [.int 0,.int 1,.int 2,.int 5,.int 60])=H1 at S1 ⊢
  refine⟨rfl,⟨by omega,by omega⟩,?_⟩
  show ∀ D,H1 D=none->Ef (Itr 0 ((L:Int)).toNat) _ _ _ D _ _ _ _
  rw[aU]
  refine Kc (f:=λj=>.str ⟨#[sgC textS (Bo c (302+(j:Int)))]⟩) (rest:=[some (.int c),some (.str textS)]) (Bt 0 L) (λ_ _=>aR) (by rw[Az];omega) (λj x H2 Q1 hj _ q=>?_) λD H2 S2 hD eD=>?_
  .obtain⟨hj,rfl⟩:=Cu hj
   exact⟨c,302+(j:Int),rfl,by omega,by omega,by omega,by omega,_,al4 _ ts.1,q _ (Same.refl _)⟩
  .rw[Az,Pq] at eD
   refine⟨_,D,_,rfl,rfl,.inl (SqL.of eD),?_,?_⟩
   .rw[Ff,ae,bj];omega
   rw[Ei]
   exact k H2 _ (S1.trans S2) (by have:=Qi (λj=>sgC textS (Bo c (302+(j:Int)))) L;unfold wB at this;rw[this];exact hL)
theorem Sj {H:Hp} {x:TK} {v:V} (hx:TkAt H x v):∀ {l:List TK} {vs:List V},Aw H l vs->Aw H (l++[x]) (vs++[v])
 |[],vs,h=>by unfold Aw at h;subst h;show Aw H [x] [v];unfold Aw;exact⟨v,[],rfl,hx,by unfold Aw;rfl⟩
 |y::l,vs,h=>by unfold Aw at h;obtain⟨u,r,rfl,h1,h2⟩:=h;show Aw H (y::(l++[x])) _;unfold Aw;exact⟨u,_,rfl,h1,Sj hx h2⟩
theorem Qh {H H':Hp} (hs:∀ b ys,H b=some (.tup ys)->H' b=some (.tup ys)):∀ {l:List TK} {vs:List V},Aw H l vs->Aw H' l vs
 |[],vs,h=>by unfold Aw at h ⊢;exact h
 |y::l,vs,h=>by unfold Aw at h ⊢;obtain⟨u,r,e,h1,h2⟩:=h;exact⟨u,r,e,h1.up hs,Qh hs h2⟩
theorem R6 {H:Hp}:∀ {vs:List V},(∀ v∈vs,∃ z,v=.str z) -> ∃ l:List TK,Aw H l vs /\ ∀ k∈l,Ap k<=0
 |[],_=>⟨[],by unfold Aw;rfl,λk hk=>by cases hk⟩
 | v::vs,h=>by
  obtain⟨l,h1,h2⟩:=R6 (H:=H) λu hu=>h u (aB _ hu)
  obtain⟨z,rfl⟩:=h v aT
  refine⟨.at_ (.inr z)::l,by unfold Aw;exact⟨_,_,rfl,by unfold TkAt;rfl,h1⟩,λk hk=>?_⟩
  rcases List.mem_cons.mp hk with rfl|hk
  .exact Hj _ _
  .exact h2 k hk
theorem bq2 (Z:An K t):OkD K a48 (Ay K t) bl (t.f 10) (t.d 10) (an6 K t):=by
 refine okD (n:=40) (t:=b33 K t) rfl (by decide +kernel) (by kernel_rfl) (λvs H Q E h=>?_) (λvs H Q E h=>?_)
 .obtain⟨kd,c,rfl,_⟩:=h;rfl
 .obtain⟨kd,c,rfl,k⟩:=h
  have big:(1000:Nat)<sizeLine:=by decide
  refine Jd (λ_=>?_) (λ_=>?_)
  .exact⟨c,rfl,λH' z S hz=>k H' (.at_ (.inr z)) (.str z) S (by unfold TkAt;rfl) (Hj _ _)⟩
  .refine⟨c,310,rfl,by decide,by decide,(show 0<=sizeLine by decide),λR hR=>?_⟩
   have S0:=Same.upd (o:=.lst []) hR
   have e0:upd H R (.lst []) R=some (.lst []):=Ab
   show Ae _ _ _ _ (upd H R (.lst []))
   generalize upd H R (.lst [])=H0 at S0 e0 ⊢
   refine⟨c,311,rfl,by decide,by decide,⟨by omega,by omega⟩,?_⟩
   refine Bd (Bt 0 (1+Bo c 311 % 3).toNat) (λi U H'=>(∃ v4,U=[some (.str kd),some (.int c),some (.int (1+Bo c 310 % 3)),some (.ref R),v4])/\Same H H' /\ ∃ (ks:List TK) (vs:List V),H' R=some (.lst vs)/\Aw H' ks vs/\(∀ k∈ks,Ap k<=1)/\vs.length=i)
    ⟨⟨_,rfl⟩,S0,[],[],e0,(by unfold Aw;rfl),(λk hk=>by cases hk),rfl⟩ (λ_ _ _ _ _=>aR) ?_ ?_
   .rintro i x U H1 hx ⟨⟨v4,rfl⟩,S1,ks,vs,eR,tk,dp,lv⟩
    obtain⟨hi,rfl⟩:=Cu hx
    refine⟨.inl ⟨rfl,_,SqL.of eR⟩,⟨by omega,by omega⟩,?_⟩
    refine Jn (P:=λ_ v _=>∃ z,v=.str z) (rest:=[some (.int c),some (.int (i:Int))]) (λ_ _ _ _ _ h=>h) (Bt 0 (1+Bo c 310 % 3).toNat) (λ_ _=>aR) (by rw[Az];omega) (λj x H2 Q1 hj _ q=>?_) λD H2 us S2 hD eD lu hu=>?_
    .obtain⟨hj,rfl⟩:=Cu hj
     exact⟨.inl ⟨by decide,by decide⟩,.inl ⟨by decide,by decide⟩,_,rfl,λH3 z S3 hz=>⟨by omega,q _ H3 S3 ⟨_,rfl⟩⟩⟩
    .refine⟨_,.inl ⟨SqL.of eD,λT hT=>?_⟩⟩
     have ST:=Same.upd (o:=.tup us) hT
     have eT:upd H2 T (.tup us) T=some (.tup us):=Ab
     generalize upd H2 T (.tup us)=H3 at ST eT ⊢
     have S13:=S2.trans ST
     obtain⟨l,tl,dl⟩:=R6 (H:=H3) λv hv=>by
      obtain⟨j,hj⟩:=List.mem_iff_getElem?.mp hv
      exact hu j v hj
     have e3:=S13 _ _ eR
     have nl:=NL.upd (m:=vs++[.ref T]) e3
     refine⟨R,_,_,rfl,rfl,e3,by omega,⟨_,rfl⟩,(S1.trans S13).set hR,ks++[.tup l],_,Ab,?_,λk hk=>?_,by rw[aW,lv];rfl⟩
     .refine Qh nl.tup (Sj ?_ (Qh (NL.same S13).tup tk))
      unfold TkAt
      exact⟨T,us,rfl,eT,tl⟩
     .rcases List.mem_append.mp hk with hk|hk
      .exact dp k hk
      .obtain rfl:k=.tup l:=by simpa using hk
       unfold Ap
       exact cN (Db dl)
   .rintro U H1 ⟨⟨v4,rfl⟩,S1,ks,vs,eR,tk,dp,lv⟩
    refine .inl ⟨_,.inl ⟨SqL.of eR,λT hT=>?_⟩⟩
    have ST:=Same.upd (o:=.tup vs) hT
    refine k _ (.tup ks) (.ref T) (S1.trans ST) ?_ ?_
    .unfold TkAt
     exact⟨T,vs,rfl,Ab,Qh (NL.same ST).tup tk⟩
    .unfold Ap
     exact cN (Db dp)
theorem ao7 {S:St->Prop} {C:St->Hp->Prop} {H:Hp} {G:Prop} (use:(∀ U,S U->C U H)->G) (h:∀ U,S U->C U H):G:=use h
theorem Sv {xs:List V} (x:Int) {n:Int} (hn:n=xs.length) (h:0<xs.length):∃ v∈xs,atI xs (x % n)=some v:=by
 obtain⟨j,hj,e⟩:=Gr x (show 1<=xs.length from h)
 subst hn
 rw[e]
 exact⟨xs[j],cM hj,Bu (ah hj)⟩
theorem J1 (es:List ((Str×Rc)×Addr)):(es.map kT).map (·.1)=(es.map (·.1.1)).map (hZ:Str->Key):=by simp[aF,Function.comp_def]
theorem bn3 {es:List ((Str×Rc)×Addr)} (h:(es.map (·.1.1)).Nodup):((es.map kT).map (·.1)).Nodup:=by rw[J1];exact Hz h
theorem Ot {es:List ((Str×Rc)×Addr)} (h:(es.map (·.1.1)).Nodup) {i:Nat} {e:(Str×Rc)×Addr} (hi:es[i]? = some e):B0 (es.map kT) (.inr e.1.1)=some (.ref e.2):=Bm (bn3 h) (by rw[am,hi];rfl)
theorem ae5 {es:List ((Str×Rc)×Addr)} {n:Str} (h:¬ n∈es.map (·.1.1)):B0 (es.map kT) (.inr n)=none:=by
 refine B3 λq=>h ?_
 rw[J1] at q
 obtain⟨y,hy,e⟩:=List.mem_map.mp q
 cases e
 exact hy
theorem Wm {es:List ((Str×Rc)×Addr)} {e:Str×Rc} {a:Addr} (h:¬ e.1∈es.map (·.1.1)):C4 (es.map kT) (.inr e.1) (.ref a)=(es++[(e,a)]).map kT:=by rw[D9 _ (ae5 h),ax];rfl
theorem Hq {H:Hp} {d:Addr} {kvs:List (Key×V)} {o:HO} (h:H d=some (.dK kvs) \/ ∃ x,H d=some (.frz x (.dK kvs))):∀ b ys,H b=some (.tup ys)->upd H d o b=some (.tup ys):=λb ys e=>by
 rw[Ad λz=>?_];exact e
 rcases h with h|⟨x,h⟩ <;> (rw[z,h] at e;cases e)
def kdsL:List Str:=["chapter", "para", "table", "chapter"]
theorem bb7 (Z:An K t):OkD K Z3 (Ay K t) bl (t.f 11) (t.d 11) (Vj K t):=by
 refine okD (n:=40) (t:=bw1 K t) rfl (by decide +kernel) (by kernel_rfl) (λvs H Q E h=>?_) (λvs H Q E h=>?_)
 .obtain⟨c,v,l,ws,rfl,_⟩:=h;rfl
 .obtain⟨c,v,l,ws,rfl,hl,nd,few,k⟩:=h
  have big:(1000:Nat)<sizeLine:=by decide
  intro d hd0
  refine .inl (.inl ⟨⟨_,(Same.upd hd0).seqL (SqL.of hl)⟩,?_⟩)
  have Sd:=Same.upd (o:=.dK []) hd0
  have e0:upd H d (.dK []) d=some (.dK (([]:List ((Str×Rc)×Addr)).map kT)):=Ab
  show Gh (Ite K l) _ _ _ [some (.int c),some (.int (v:Int)),some (.ref l),some (.ref d),none,none,none,none,none,none] (upd H d (.dK []))
  generalize upd H d (.dK [])=H0 at Sd e0 ⊢
  refine Jr (Fs (ws.map V.str)) (λi U H'=>(∃ v4 v5 v6 v7 v8 v9,U=[some (.int c),some (.int (v:Int)),some (.ref l),some (.ref d),v4,v5,v6,v7,v8,v9])/\Same H H' /\ ∃ es:List ((Str×Rc)×Addr),H' d=some (.dK (es.map kT))/\(∀ e∈es,RcAt H' e.2 e.1.2/\Ap e.1.2.c<=2)/\(es.map (·.1.1)).Sublist (ws.take i))
   ⟨⟨_,_,_,_,_,_,rfl⟩,Sd,[],e0,(λe he=>by cases he),jF _⟩ (λ_ _ H' _ q=>q.2.1.seqL (SqL.of hl)) ?_ ?_
  .rintro i x y T U H1 hx hT ⟨⟨v4,v5,v6,v7,v8,v9,rfl⟩,S1,es,ed,he,sub⟩
   obtain⟨rfl,hy⟩:=Qz hx
   obtain⟨n,hn,rfl⟩:=Am hy
   have il:=Al hn
   have ST:=Same.upd (o:=.tup [.int (i:Int),.str n]) hT
   refine⟨_,.inl (SqT.of Ab),rfl,?_⟩
   generalize upd H1 T (.tup [.int (i:Int),.str n])=H2 at ST ⊢
   have S2:=S1.trans ST
   have ed2:=ST _ _ ed
   have he2:∀ e∈es,RcAt H2 e.2 e.1.2/\Ap e.1.2.c<=2:=λe h=>⟨(he e h).1.up (NL.same ST).tup,(he e h).2⟩
   clear he ed
   have sub1:(es.map (·.1.1)).Sublist (ws.take (i+1)):=sub.trans (dG (by omega))
   refine⟨c,100+(i:Int),rfl,by omega,?_⟩
   show Ae _ _ _ _ _
   refine' ao7 (S:=λU=>∃ N:Int,U=[some (.int c),some (.int (v:Int)),some (.ref l),some (.ref d),some (.int (i:Int)),some (.str n),some (.int N),v7,v8,v9]) (H:=H2) (λrest=>?u) ?v
   case u=>
    refine Jd (λ_=>?_) (λ_=>ae3 (rest _ ⟨_,rfl⟩))
    exact⟨.inl ⟨by decide,by decide⟩,c,130+40 * (v:Int)+(i:Int),rfl,by omega,by decide,Jd (λ_=>⟨.inl ⟨by decide,by decide⟩,c,500+40 * (v:Int)+(i:Int),rfl,by omega,rest _ ⟨_,rfl⟩⟩) (λ_=>rest _ ⟨_,rfl⟩)⟩
   case v=>
    rintro U ⟨N,rfl⟩
    refine⟨by decide,Jd (λ_=>?_) (λ_=>⟨⟨_,_,_,_,_,_,rfl⟩,S2,es,ed2,he2,sub1⟩)⟩
    refine⟨(show 4<=sizeLine by decide),λq1 hq1=>⟨⟨by decide,by decide⟩,by decide,?_⟩⟩
    have S3:=Same.upd (o:=.lst (kdsL.map V.str)) hq1
    obtain⟨kv,hkv,ekv⟩:=Sv (xs:=kdsL.map V.str) (N / 6) (n:=4) rfl (by decide)
    obtain⟨kd,_,rfl⟩:=List.mem_map.mp hkv
    refine⟨_,_,.inl (SqL.of Ab),ekv,?_⟩
    show Ae _ _ _ _ (upd H2 q1 (.lst (kdsL.map V.str)))
    generalize upd H2 q1 (.lst (kdsL.map V.str))=H3 at S3 ⊢
    have ed3:=S3 _ _ ed2
    refine⟨(show 1<=sizeLine by decide),λb1 hb1=>?_⟩
    have S4:=Same.upd (o:=.lst [.str ""]) hb1
    have e4:upd H3 b1 (.lst [.str ""]) b1=some (.lst [.str ""]):=Ab
    generalize upd H3 b1 (.lst [.str ""])=H4 at S4 e4 ⊢
    have ed4:=S4 _ _ ed3
    have he4:∀ e∈es,RcAt H4 e.2 e.1.2/\Ap e.1.2.c<=2:=λe h=>⟨(he2 e h).1.up (NL.same (S3.trans S4)).tup,(he2 e h).2⟩
    have nde:(es.map (·.1.1)).Nodup:=nd.sublist (sub.trans (d9 _ _))
    refine .inr (.inr (.inl (.inl ⟨_,ed4,λo L hL=>?_⟩)))
    have ef:upd H4 d (.frz o (.dK (es.map kT))) d=some (.frz o (.dK (es.map kT))):=Ab
    have tf:=Hq (o:=.frz o (.dK (es.map kT))) (.inl ed4)
    have e4f:upd H4 d (.frz o (.dK (es.map kT))) b1=some (.lst [.str ""]):=by rw[Ad λz=>by rw[z,ed4] at e4;cases e4];exact e4
    have th:∀ H',Same (upd H4 d (.frz o (.dK (es.map kT)))) H'->Same H4 (upd H' d (.dK (es.map kT))):=λH' S=>Same.thaw ed4 S
    generalize upd H4 d (.frz o (.dK (es.map kT)))=Hf at ef tf e4f th hL ⊢
    refine Cr (Er (es.map kT)) (λi U' H'=>(∃ v,U'=[v,some (.ref d)])/\Same Hf H' /\ ∃ ps:List Str,H' L=some (Be ps)/\ps.length<=i) ⟨⟨_,rfl⟩,Same.upd hL,[],Ab,ai _⟩ (λ_ _ H' _ q=>q.2.1 _ _ ef) ?_ ?_
    .rintro j x U' H5 hx ⟨⟨vv,rfl⟩,S5,ps,eL,lp⟩
     rw[aF] at hx
     obtain⟨e,hj,rfl⟩:=Am hx
     obtain⟨cv,er,_⟩:=(he4 e (ak hj)).1
     have jl:=Al hj
     have sl:=sub.length_le
     rw[ae,aK] at sl
     refine⟨.ref e.2,.inl ⟨_,.inr e.1.1,.inr ⟨o,S5 _ _ ef⟩,rfl,(Ot nde hj).symm⟩,_,_,.inr (SqT.of (S5 _ _ (tf _ _ er))),rfl,Jd (λ_=>?_) (λ_=>?_)⟩
     .exact⟨_,eL,by rw[ae];omega,⟨_,rfl⟩,S5.set hL,ps++[e.1.1],by rw[Ab,Be,ax];rfl,by rw[aW];exact cN lp⟩
     .exact⟨⟨_,rfl⟩,S5,ps,eL,gR lp⟩
    .rintro U' H5 ⟨_,S5,ps,eL,lp⟩
     rw[ae,ae] at lp
     have sl:=sub.length_le
     rw[ae,aK] at sl
     refine .inl ⟨b1,L,_,_,rfl,rfl,S5 _ _ e4f,eL,by rw[ae,cY];omega,λM hM=>?_⟩
     have S6:=S5.trans (Same.upd (o:=.lst ([.str ""]++ps.map V.str)) hM)
     have eM:upd H5 M (.lst ([.str ""]++ps.map V.str)) M=some (Be (("" : Str)::ps)):=Ab
     generalize upd H5 M (.lst ([.str ""]++ps.map V.str))=H6 at S6 eM ⊢
     refine .inr ⟨d,o,_,ed3,S6 _ _ ef,?_⟩
     have S7:=S4.trans (th _ S6)
     have eM7:upd H6 d (.dK (es.map kT)) M=some (Be (("" : Str)::ps)):=by rw[Ad λz=>by rw[z,S6 _ _ ef] at eM;cases eM];exact eM
     generalize upd H6 d (.dK (es.map kT))=H7 at S7 eM7 ⊢
     refine⟨⟨by decide,by decide,by decide⟩,⟨by decide,by decide⟩,by decide,(show 4<=sizeLine by decide),λb2 hb2=>⟨⟨by decide,by decide⟩,by decide,?_⟩⟩
     obtain⟨v2,hv2,ev2⟩:=Sv (xs:=[(0:Int),1,10 ^ mh 9,N / 96 % 1000].map V.int) (N / 24) (n:=4) rfl (by simp)
     obtain⟨rk,_,rfl⟩:=List.mem_map.mp hv2
     refine⟨_,_,.inl (SqL.of Ab),ev2,?_⟩
     have S8:=Same.upd (o:=.lst ([(0:Int),1,10 ^ mh 9,N / 96 % 1000].map V.int)) hb2
     show Ae _ _ _ _ (upd H7 b2 (.lst ([(0:Int),1,10 ^ mh 9,N / 96 % 1000].map V.int)))
     generalize upd H7 b2 (.lst ([(0:Int),1,10 ^ mh 9,N / 96 % 1000].map V.int))=H8 at S8 ⊢
     obtain⟨v3,hv3,ev3⟩:=Sv (xs:=(("" : Str)::ps).map V.str) (N / 384) rfl (by simp)
     obtain⟨pr,_,rfl⟩:=List.mem_map.mp hv3
     have eM8:=S8 _ _ eM7
     refine⟨⟨by decide,by decide⟩,.inl ⟨_,.inl (SqL.of eM8),by rw[ae,aO];omega,_,_,.inl (SqL.of eM8),ev3,?_⟩⟩
     refine⟨⟨by decide,by decide⟩,kd,N / 96,rfl,λH9 x vv S9 tk dp=>⟨(show 4<=sizeLine by decide),λT2 hT2=>?_⟩⟩
     have S10:=S9.trans (Same.upd (o:=.tup [.str kd,.str pr,.int rk,vv]) hT2)
     have eT:upd H9 T2 (.tup [.str kd,.str pr,.int rk,vv]) T2=some (.tup [.str kd,.str pr,.int rk,vv]):=Ab
     have tk2:=tk.up (NL.same (Same.upd (o:=.tup [.str kd,.str pr,.int rk,vv]) hT2)).tup
     generalize upd H9 T2 (.tup [.str kd,.str pr,.int rk,vv])=H10 at S10 eT tk2 ⊢
     have S310:=S7.trans (S8.trans S10)
     have ed10:=S310 _ _ ed3
     have nn:¬ n∈es.map (·.1.1):=λz=>Ed nd hn (sub.subset z)
     refine⟨_,DPut.k (k:=.inr n) ed10 (by rw[ae];omega),?_⟩
     rw[Wm (e:=(n,⟨kd,pr,rk,x⟩)) nn]
     have tu:=Hq (o:=.dK ((es++[((n,(⟨kd,pr,rk,x⟩:Rc)),T2)]).map kT)) (.inl ed10)
     refine⟨⟨_,_,_,_,_,_,rfl⟩,(S2.trans (S3.trans S310)).set hd0,_,Ab,λe h=>?_,?_⟩
     .rcases List.mem_append.mp h with h|h
      .exact⟨((he2 e h).1.up (NL.same (S3.trans S310)).tup).up tu,(he2 e h).2⟩
      .obtain rfl:e=((n,(⟨kd,pr,rk,x⟩:Rc)),T2):=by simpa using h
       exact⟨RcAt.up (x:=⟨kd,pr,rk,x⟩) tu ⟨vv,eT,tk2⟩,dp⟩
     .rw[ax,aL,hn]
      exact sub.append (dD _)
  .rintro U H1 ⟨⟨v4,v5,v6,v7,v8,v9,rfl⟩,S1,es,ed,he,sub⟩
   have sub2:=sub.trans (d9 _ ws)
   have e1:(es.map (·.1)).map (·.1)=es.map (·.1.1):=by rw[aF];rfl
   have sl:=sub2.length_le
   rw[ae] at sl
   refine .inl (k H1 d (es.map (·.1)) S1 ⟨es,rfl,⟨trivial,ed⟩,λe h=>(he e h).1⟩ ⟨by rw[e1];exact nd.sublist sub2,by rw[ae];omega,λx hx=>?_⟩)
   obtain⟨e,h,rfl⟩:=List.mem_map.mp hx
   exact (he e h).2
theorem TrAt.nl {H H':Hp} {d:Addr} {T:Tr} (h:TrAt any H d T) (S:NL H H'):TrAt any H' d T:=let ⟨es,e,⟨_,o⟩,q⟩:=h;⟨es,e,⟨trivial,S _ _ (λ_ z=>by cases z) o⟩,λx hx=>(q x hx).up S.tup⟩
theorem W6 {α:Type} {P:α->Addr->Prop}:∀ {vs:List V},(∀ v∈vs,∃ d T,v=.ref d/\P T d) -> ∃ es:List (α×Addr),vs=es.map (λe=>.ref e.2) /\ ∀ e∈es,P e.1 e.2
 |[],_=>⟨[],rfl,λe h=>by cases h⟩
 | v::vs,h=>by
  obtain⟨es,rfl,q⟩:=W6 λu hu=>h u (aB _ hu)
  obtain⟨d,T,rfl,p⟩:=h v aT
  refine⟨(T,d)::es,rfl,λe he=>?_⟩
  rcases List.mem_cons.mp he with rfl|he
  .exact p
  .exact q e he
theorem Jy (g:Nat->Addr) (ns:List Nat):(ns.map (kF g)).map (·.1)=ns.map λn:Nat=>(.inl (n:Int):Key):=by rw[aF];rfl
theorem a77 {g:Nat->Addr} {ns:List Nat} {n:Nat} (h:¬ n∈ns):B0 (ns.map (kF g)) (.inl (n:Int))=none:=by
 refine B3 λq=>h ?_
 rw[Jy] at q
 obtain⟨m,hm,e⟩:=List.mem_map.mp q
 injection e with e
 have:m=n:=by omega
 exact this▸hm
theorem ai0 (b:Bool) (x y:V):atI [x,y] (if b=true then 1 else 0)=some (if b=true then y else x):=by cases b <;> rfl
theorem bb4 (Z:An K t):OkD K Z0 (Ay K t) bl (t.f 14) (t.d 14) (Vh K t):=by
 refine okD (n:=40) (t:=bv8 K t) rfl (by decide +kernel) (by kernel_rfl) (λvs H Q E h=>?_) (λvs H Q E h=>?_)
 .obtain⟨a,ns,b,rfl,_⟩:=h;rfl
 .obtain⟨a,ns,b,rfl,hS,k⟩:=h
  have big:(1000:Nat)<sizeLine:=by decide
  refine⟨a,ns,0,rfl,hS,⟨by decide,by decide⟩,(show 2<=sizeLine by decide),λq hq=>⟨_,_,.inl (SqL.of Ab),ai0 b _ _,?_⟩⟩
  have S1:=Same.upd (o:=.lst [.int 24,.int 256]) hq
  generalize upd H q (.lst [.int 24,.int 256])=H1 at S1 ⊢
  refine⟨Cc ns 0 / 8,if b=true then 256 else 24,by cases b <;> rfl,by cases b <;> decide,by cases b <;> decide,λH2 W sw rules l kk f S2 hW=>?_⟩
  have S02:=S1.trans S2
  refine⟨a,ns,1,rfl,S02.seqL hS,a,ns,2,rfl,S02.seqL hS,(show 2<=sizeLine by decide),λq2 hq2=>⟨_,_,.inl (SqL.of Ab),ai0 b _ _,?_⟩⟩
  have S3:=Same.upd (o:=.lst [.int 8,.int 3]) hq2
  generalize upd H2 q2 (.lst [.int 8,.int 3])=H3 at S3 ⊢
  obtain⟨m2,lm2,em2⟩:∃ m:Nat,(1<=m/\m<=8)/\1+Cc ns 2 % (if b=true then 3 else 8)=(m:Int):=by
   cases b
   .exact⟨(1+Cc ns 2 % 8).toNat,by omega,by show 1+Cc ns 2 % 8=_;omega⟩
   .exact⟨(1+Cc ns 2 % 3).toNat,by omega,by show 1+Cc ns 2 % 3=_;omega⟩
  have ev:(if b=true then V.int 3 else V.int 8)=V.int (if b=true then 3 else 8):=by cases b <;> rfl
  rw[ev]
  refine⟨by cases b <;> decide,Cc ns 1,m2,by rw[<- em2];rfl,lm2.2,λH4 nm ws S4 enm lws ndw z12=>?_⟩
  have S04:=S02.trans (S3.trans S4)
  refine⟨a,ns,2,rfl,S04.seqL hS,⟨by decide,by decide⟩,by decide,⟨by omega,by omega⟩,?_⟩
  obtain⟨m4,l4,em4⟩:∃ m:Nat,(1<=m/\m<=4)/\1+Cc ns 2 / 8 % 4=(m:Int):=⟨(1+Cc ns 2 / 8 % 4).toNat,by omega,by omega⟩
  have em5:(1+Cc ns 2 / 8 % 4).toNat=m4:=by omega
  refine Jn (P:=λ_ v H'=>∃ d T,v=.ref d/\TrAt any H' d T/\Cl T) (rest:=[some (.ref nm),some (.ref a)]) (λ_ _ _ _ S ⟨d,T,e,h,o⟩=>⟨d,T,e,h.nl S,o⟩) (Bt 0 (1+Cc ns 2 / 8 % 4).toNat) (λ_ _=>aR) (by rw[Az];omega) (λj x H5 Q1 hj S5 q=>?_) λD H5 vs S5 hD eD lv hv=>?_
  .obtain⟨hj,rfl⟩:=Cu hj
   exact⟨a,ns,3,rfl,(S04.trans S5).seqL hS,Cc ns 3,j,nm,ws,rfl,S5 _ _ enm,ndw,by omega,λH6 d T S6 hT okT=>q _ H6 S6 ⟨d,T,rfl,hT,okT⟩⟩
  rw[Az,em5] at lv
  obtain⟨es,rfl,he⟩:=W6 (P:=λT d=>TrAt any H5 d T/\Cl T) λv hm=>by
   obtain⟨j,hj⟩:=List.mem_iff_getElem?.mp hm
   exact hv j v hj
  rw[ae] at lv
  have hW5:=hW
  have S25:=S3.trans (S4.trans S5)
  intro F hF
  refine .inl ⟨_,_,.inl (SqL.of ((S25.trans (Same.upd hF)) _ _ hW.at_)),rfl,.inl ⟨⟨_,SqL.of ((S25.trans (Same.upd hF)) _ _ hW.fr)⟩,?_⟩⟩
  have S6:=Same.upd (o:=.dK []) hF
  have e6:upd H5 F (.dK []) F=some (.dK (([]:List Nat).map (kF λ_=>0))):=Ab
  show Gh (Itl K f) _ _ _ [some (.ref a),some (.bl b),some (.ref W),some (.ref nm),some (.int (1+Cc ns 2 / 8 % 4)),some (.ref D),some (.ref F),none] (upd H5 F (.dK []))
  generalize upd H5 F (.dK [])=H6 at S6 e6 ⊢
  have d0:Tr×Addr:=es[0]'(by omega)
  have asc:=Kk sw rules
  have ndf:(As sw rules).Nodup:=asc.imp λh=>aQ h
  have le256:(As sw rules).length<=256:=by
   have:=dS (λn=>!Hk sw rules n) (ay (Aj sw).length)
   rw[bj] at this
   exact aY this hW.ok.len
  refine Bd (A5 ((As sw rules).map λn:Nat=>V.int (n:Int))) (λi U H'=>(∃ v7,U=[some (.ref a),some (.bl b),some (.ref W),some (.ref nm),some (.int (1+Cc ns 2 / 8 % 4)),some (.ref D),some (.ref F),v7])/\Same H5 H' /\ ∃ u:Nat->Nat,(∀ n∈(As sw rules).take i,u n<es.length)/\H' F=some (.dK (((As sw rules).take i).map (kF λn=>(es.getD (u n) d0).2))))
   ⟨⟨_,rfl⟩,S6,λ_=>0,(λn hn=>by cases hn),e6⟩ (λ_ _ H' _ q=>(S25.trans q.2.1).seqL (SqL.of hW.fr)) ?_ ?_
  .rintro i x U H7 hx ⟨⟨v7,rfl⟩,S7,u,hu,eF⟩
   obtain⟨n,hn,rfl⟩:=Am hx
   have S27:=S25.trans S7
   have S07:=S04.trans (S5.trans S7)
   refine⟨a,ns,4,rfl,S07.seqL hS,_,_,.inl (SqL.of (S27 _ _ hW.at_)),rfl,Cc ns 4,l,sw,n,m4,by rw[<- em4];rfl,hW.sws.mono (Kp.same S27),hW.ok,l4.1,λH8 v S8 hv2=>?_⟩
   have S78:=S7.trans S8
   have hv3:v<es.length:=by omega
   refine⟨_,_,.inl (SqL.of (S78 _ _ eD)),Bu (j:=v) (by rw[am,ah hv3];rfl),.inr ⟨_,DPut.k (k:=.inl (n:Int)) (S8 _ _ eF) ?_,?_⟩⟩
   .rw[ae,aK];omega
   have nn:¬ n∈(As sw rules).take i:=Ed ndf hn
   rw[D9 _ (a77 nn)]
   refine⟨⟨_,rfl⟩,S78.set hF,λm=>if m=n then v else u m,λm hm=>?_,?_⟩
   .show (if m=n then v else u m)<_
    rw[aL,hn] at hm
    rcases List.mem_append.mp hm with hm|hm
    .rw[if_neg (λz:m=n=>nn (z▸hm))];exact hu m hm
    .obtain rfl:m=n:=by simpa using hm
     rw[if_pos rfl];exact hv3
   .rw[Ab,B1 hn]
    congr 3
    .refine bU λm hm=>?_
     show (_,V.ref (es.getD (u m) d0).2)=(_,V.ref (es.getD (if m=n then v else u m) d0).2)
     rw[if_neg (λz:m=n=>nn (z▸hm))]
    .show [((.inl (n:Int):Key),V.ref es[v].2)]=[(_,V.ref (es.getD (if n=n then v else u n) d0).2)]
     rw[if_pos rfl,ar,ah hv3];rfl
  .rintro U H7 ⟨⟨v7,rfl⟩,S7,u,hu,eF⟩
   rw[ae,aC] at hu eF
   refine .inl ⟨(show 3<=sizeLine by decide),λL hL=>?_⟩
   have S8:=Same.upd (o:=.lst [.ref W,.ref nm,.ref F]) hL
   have S28:=S25.trans (S7.trans S8)
   refine k _ L W nm F sw rules l kk f ws (λn=>(es.getD (u n) d0).2) (λn=>(es.getD (u n) d0).1) (S04.trans (S5.trans (S7.trans S8))) Ab ((S5.trans (S7.trans S8)) _ _ enm) ⟨by omega,by omega,z12⟩ ⟨S28 _ _ hW.at_,hW.sws.mono (Kp.same S28),hW.ok,hW.rl.mono (Kp.same S28),hW.rok,hW.few,S28 _ _ hW.fr,hW.ne⟩ ⟨S8 _ _ eF,λn hn=>?_,es.map (·.1),by rw[ae];omega,λn hn=>?_⟩
   .have hg:es.getD (u n) d0=es[u n]'(hu n hn):=by rw[ar,ah (hu n hn)];rfl
    have:=he _ (cM (hu n hn))
    rw[hg]
    exact⟨this.1.nl (NL.same (S7.trans S8)),this.2⟩
   .have hg:es.getD (u n) d0=es[u n]'(hu n hn):=by rw[ar,ah (hu n hn)];rfl
    show (es.getD (u n) d0).1∈_
    rw[hg]
    exact dF (cM (hu n hn))
theorem bp0 (Z:An K t):OkD K aq4 (Ay K t) bl (t.m_zbt 1) (t.e_zbt 1) (am6 K t):=by
 refine okD (n:=40) (t:=b21 K t) rfl (by decide +kernel) (by kernel_rfl) (λvs H Q E h=>?_) (λvs H Q E h=>?_)
 .obtain⟨p,sw,rules,rfl,_⟩:=h;rfl
 .obtain⟨p,sw,rules,rfl,⟨dx,d,l,n,s,kk,b,hp⟩,k⟩:=h
  exact fJ ⟨_,_,_,_,hp.ins.2,Z.pf.cl,(Z.pf.na _ (by simp)),rfl,k⟩
theorem a91 (Z:An K t):OkD K D_zac (Ay K t) bl t.f_zac t.d_zac (al7 K t):=by
 refine okD (n:=40) (t:=bt6 K t) rfl (by decide +kernel) (by kernel_rfl) (λvs H Q E h=>?_) (λvs H Q E h=>?_)
 .obtain⟨a,dx,rfl,_⟩:=h;rfl
 .obtain⟨a,dx,rfl,e,k⟩:=h
  intro d hd
  have ne:a≠d:=λz=>by rw[z,hd] at e;cases e
  exact .inl (.inl ⟨t.c_zbu,dx,[],by rw[Ad ne];exact e,Z.pc,Z.pr,by decide,k d hd ne.symm⟩)
theorem a99 (Z:An K t):OkD K V2 (Ay K t) bl (t.m_zbu 2) (t.e_zbu 2) (U5 K t):=by
 refine okD (n:=40) (t:=bu4 K t) rfl (by decide +kernel) (by kernel_rfl) (λvs H Q E h=>?_) (λvs H Q E h=>?_)
 .obtain⟨p,dx,d,kvs,n,kd,q,r,v,rfl,_⟩:=h;rfl
 .obtain⟨p,dx,d,kvs,n,kd,q,r,v,rfl,e,ed,hl,k⟩:=h
  refine⟨(show 4<=sizeLine by decide),λa ha=>?_⟩
  have n1:p≠a:=λz=>by rw[z,ha] at e;cases e
  have n2:d≠a:=λz=>by rw[z,ha] at ed;cases ed
  exact fJ ⟨_,_,_,.ref d,(by rw[Ad n1];exact e),Z.pc,Z.pr,rfl,⟨_,DPut.k (k:=.inr n) (by rw[Ad n2];exact ed) (bi hl (by decide)),k a ha⟩⟩
theorem bp8 (Z:An K t):OkD K aq8 (Ay K t) bl (t.m_zbu 3) (t.e_zbu 3) (an3 K t):=by
 refine okD (n:=40) (t:=b29 K t) rfl (by decide +kernel) (by kernel_rfl) (λvs H Q E h=>?_) (λvs H Q E h=>?_)
 .obtain⟨p,T,rfl,_⟩:=h;rfl
 .obtain⟨p,T,rfl,⟨dx,d,⟨_,e⟩,es,et,⟨_,ed⟩,_⟩,o,k⟩:=h
  have ek:(es.map kT).map (·.1)=(T.map (·.1)).map (hZ:Str->Key):=by rw[J1,<- et,aF];simp[aF,Function.comp_def]
  have l8:(T.map (·.1)).length<=8:=by rw[ae];exact o.2.1
  have nd:=o.1
  generalize T.map (·.1)=zs at ek k l8 nd
  exact fJ ⟨_,_,_,.ref d,e,Z.pc,Z.pr,rfl,.inr ⟨rfl,.inl ⟨d,zs,rfl,.inr ⟨_,.inl ed,ek⟩,nd,by omega,k⟩⟩⟩
theorem TrAt.up {ok:Addr->Prop} {H H':Hp} {d:Addr} {T:Tr} (h:TrAt ok H d T) (S:Same H H'):TrAt ok H' d T:=let ⟨es,e,⟨q,o⟩,z⟩:=h;⟨es,e,⟨q,S _ _ o⟩,λx hx=>(z x hx).up (NL.same S).tup⟩
theorem PlAt.up {C:Addr} {ok:Addr->Prop} {H H':Hp} {p:Addr} {T:Tr} (h:PlAt C ok H p T) (S:Same H H'):PlAt C ok H' p T:=let ⟨dx,d,⟨q,o⟩,z⟩:=h;⟨dx,d,⟨q,S _ _ o⟩,z.up S⟩
theorem ag4 {H:Hp} {C a dx d0:Addr} (ha:H a=none) (hdx:H dx=none) (ne:dx≠a) (hd0:upd (upd H dx (.own a)) a (.ins C dx []) d0=none) :
  H d0=none/\Same H (upd (upd (upd (upd H dx (.own a)) a (.ins C dx [])) d0 (.dK [])) a (.ins C dx [("records", .ref d0)]))/\upd (upd (upd (upd H dx (.own a)) a (.ins C dx [])) d0 (.dK [])) a (.ins C dx [("records", .ref d0)]) d0=some (.dK []):=by
 have n1:d0≠a:=λc=>by rw[c,Ab] at hd0;cases hd0
 have n2:d0≠dx:=λc=>by rw[c,Ad ne,Ab] at hd0;cases hd0
 have hd1:H d0=none:=by rw[Ad n1,Ad n2] at hd0;exact hd0
 exact⟨hd1,(((Same.upd hdx).set ha).set hd1).set ha,by rw[Ad n1,Ab]⟩
theorem bp3 (Z:An K t):OkD K aq6 (Ay K t) bl (t.m_zbu 0) (t.e_zbu 0) (am9 K t):=by
 refine okD (n:=40) (t:=b24 K t) rfl (by decide +kernel) (by kernel_rfl) (λvs H Q E h=>?_) (λvs H Q E h=>?_)
 .obtain⟨p,T,rfl,_⟩:=h;rfl
 .obtain⟨p,T,rfl,hP,k⟩:=h
  intro a dx ha hdx ne
  refine⟨a,dx,rfl,Ab,λd0 hd0 _=>⟨rfl,?_⟩⟩
  obtain⟨_,S1,_⟩:=ag4 ha hdx ne hd0
  have ea:upd (upd (upd (upd H dx (.own a)) a (.ins t.c_zbu dx [])) d0 (.dK [])) a (.ins t.c_zbu dx [("records", .ref d0)]) a=some (.ins t.c_zbu dx [("records", .ref d0)]):=Ab
  generalize upd (upd (upd (upd H dx (.own a)) a (.ins t.c_zbu dx [])) d0 (.dK [])) a (.ins t.c_zbu dx [("records", .ref d0)])=H1 at S1 ea ⊢
  obtain⟨dx1,d,⟨_,e1⟩,es,et,⟨_,ed⟩,he⟩:=hP.up S1
  refine fJ ⟨_,_,_,.ref d,e1,Z.pc,Z.pr,rfl,⟨d,_,rfl,.inl ed,λq hq=>?_⟩⟩
  have S2:=Same.upd (o:=.dK (es.map kT)) hq
  have eq:upd H1 q (.dK (es.map kT)) q=some (.dK (es.map kT)):=Ab
  have he2:∀ e∈es,RcAt (upd H1 q (.dK (es.map kT))) e.2 e.1.2:=λe h=>(he e h).up (NL.same S2).tup
  generalize upd H1 q (.dK (es.map kT))=H2 at S2 eq he2 ⊢
  have ea2:=S2 _ _ ea
  refine .inl ⟨_,_,_,ea2,Z.pc,Z.pr,(show 1<1000 by decide),k _ a ((S1.trans S2).set ha) ⟨dx,q,⟨trivial,Ab⟩,es,et,⟨trivial,by rw[Ad λz=>by rw[z,ea2] at eq;cases eq];exact eq⟩,λe h=>(he2 e h).up λb ys e=>?_⟩⟩
  rw[Ad λz=>by rw[z,ea2] at e;cases e];exact e
theorem ao3 {H:Hp} {F:Str->TK}:∀ {zs:List Str} {vs:List V},vs.length=zs.length->(∀ (i:Nat) v z,vs[i]? = some v->zs[i]? = some z->TkAt H (F z) v)->Aw H (zs.map F) vs
 |[],[],_,_=>by rw[g_];unfold Aw;rfl
 |[],_::_,h,_=>by cases h
 |_::_,[],h,_=>by cases h
 |z::zs,v::vs,h,g=>by rw[aZ];unfold Aw;exact⟨v,vs,rfl,g 0 v z rfl rfl,ao3 (by simpa using h) λi v z h1 h2=>g (i+1) v z h1 h2⟩
theorem bo7 (Z:An K t):OkD K aq2 (Ay K t) bl (t.m_zbu 5) (t.e_zbu 5) (am4 K t):=by
 refine okD (n:=40) (t:=b18 K t) rfl (by decide +kernel) (by kernel_rfl) (λvs H Q E h=>?_) (λvs H Q E h=>?_)
 .obtain⟨p,T,rfl,_⟩:=h;rfl
 .obtain⟨p,T,rfl,hP,o,k⟩:=h
  have big:(1000:Nat)<sizeLine:=by decide
  obtain⟨dx,d,⟨_,e⟩,es,et,⟨_,ed⟩,he⟩:=id hP
  have nde:(es.map (·.1.1)).Nodup:=by have:=o.1;rw[<- et,aF] at this;exact this
  refine⟨p,dx,_,⟨t.c_zbu,bm9 K t⟩,rfl,.head _,e,rfl,⟨ai _,ai _⟩,⟨p,T,rfl,hP,o,λl hl=>?_⟩⟩
  have S1:=Same.upd (o:=Be (C7 ltS (T.map (·.1)))) hl
  have e1:upd H l (Be (C7 ltS (T.map (·.1)))) l=some (Be (C7 ltS (T.map (·.1)))):=Ab
  have pm:=Bc ltS (T.map (·.1))
  have hm:∀ n∈C7 ltS (T.map (·.1)),n∈T.map (·.1):=λn hn=>pm.mem_iff.mp hn
  have lm:=pm.length_eq
  have hvk:vkT T=.tup ((C7 ltS (T.map (·.1))).map λn=>.tup [.at_ (.inr n),Ur T n]):=rfl
  rw[hvk] at k
  rw[ae] at lm
  have l8:=o.2.1
  generalize C7 ltS (T.map (·.1))=zs at S1 e1 hm lm k ⊢
  refine .inl ⟨⟨_,SqL.of e1⟩,?_⟩
  generalize upd H l (Be zs)=H1 at S1 e1 ⊢
  refine Jn (P:=λi v H'=>∀ z,zs[i]? = some z->TkAt H' (.tup [.at_ (.inr z),Ur T z]) v) (rest:=[some (.ref p)]) (λi v _ _ S q z hz=>(q z hz).up S.tup) (A5 (zs.map V.str)) (λH2 S2=>S2.seqL (SqL.of e1)) (by rw[ae];omega) (λi x H2 Q1 hx S2 q=>?_) λD H2 vs S2 hD eD lv hv=>?_
  .obtain⟨z,hz,rfl⟩:=Am hx
   have S02:=S1.trans S2
   obtain⟨⟨z',x⟩,hx1,hx2⟩:=List.mem_map.mp (hm z (ak hz))
   obtain rfl:z'=z:=hx2
   rw[<- et] at hx1
   obtain⟨e',he',ee⟩:=List.mem_map.mp hx1
   obtain⟨j,hj⟩:=List.mem_iff_getElem?.mp he'
   have hv:=Ot nde hj
   have hr:=he e' he'
   rw[ee] at hv hr
   refine fJ ⟨_,_,_,.ref d,S02 _ _ e,Z.pc,Z.pr,rfl,⟨.ref e'.2,.inl ⟨_,.inr z',.inl (S02 _ _ ed),rfl,hv.symm⟩,(show 2<=sizeLine by decide),λB hB=>q _ _ (Same.upd hB) λz2 hz2=>?_⟩⟩
   rw[hz] at hz2
   cases hz2
   have rt:Ur T z'=rcT x:=Us (T8 o.1 (by rw[<- et];exact hx1))
   rw[rt]
   unfold TkAt
   refine⟨B,_,rfl,Ab,?_⟩
   unfold Aw;refine⟨_,_,rfl,by unfold TkAt;rfl,?_⟩
   unfold Aw;refine⟨_,_,rfl,hr.tk.up (NL.same (S02.trans (Same.upd hB))).tup,?_⟩
   unfold Aw;rfl
  .rw[ae] at lv
   refine⟨_,.inl ⟨SqL.of eD,λB hB=>k _ B (S1.trans (S2.trans (Same.upd hB))) ?_⟩⟩
   unfold TkAt
   exact⟨B,vs,rfl,Ab,ao3 lv λi v z h1 h2=>(hv i v h1 z h2).up (NL.same (Same.upd hB)).tup⟩
theorem Sy (m n:Nat):decide (b9 ((m:Int) / 2 ^ ((n:Int)).toNat) 1=1)=m.testBit n:=by
 rw[aU,Ee,<- Int.natCast_ediv,show (1:Int)=((1:Nat):Int) from rfl,Cq,Nat.and_one_is_mod,Nat.testBit_eq_decide_div_mod_eq]
 exact decide_eq_decide.mpr (by omega)
theorem bc2 (Z:An K t):OkD K Z8 (Ay K t) bl (t.f 15) (t.d 15) (Py K t):=by
 refine okD (n:=40) (t:=bw6 K t) rfl (by decide +kernel) (by kernel_rfl) (λvs H Q E h=>?_) (λvs H Q E h=>?_)
 .obtain⟨c,n,rfl,_⟩:=h;rfl
 .obtain⟨c,n,rfl,k⟩:=h
  rw[<- Sy] at k
  exact⟨by omega,k⟩
def bits (c:Nat):Nat:=ip (c:Int)
theorem ar7 (c:Nat):c<2 ^ bits c:=by
 have h:=(kE (m:=bits c) (x:=(c:Int))).mp (ai _)
 simpa using h
theorem ar6 {c m:Nat} (h:c<2 ^ m):bits c<=m:=(kE (m:=m) (x:=(c:Int))).mpr (by simpa using h)
theorem bp6 (Z:An K t):OkD K a46 (Ay K t) bl (t.f 16) (t.d 16) (R5 K t):=by
 refine okD (n:=40) (t:=b27 K t) rfl (by decide +kernel) (by kernel_rfl) (λvs H Q E h=>?_) (λvs H Q E h=>?_)
 .obtain⟨c,o,rfl,_⟩:=h;rfl
 .obtain⟨c,o,rfl,ho,hc,k⟩:=h
  have hbl:=ar6 hc
  refine⟨rfl,_,rfl,rfl,⟨by show -(2 ^ 62)<=((bits c:Nat):Int);omega,by show ((bits c:Nat):Int)<2 ^ 62;omega⟩,?_⟩
  show Gh (Itr 0 (bits c)) _ _ _ [some (.int (c:Int)),none] _
  refine Bd (Bt 0 (bits c)) (λm U H'=>(∃ v,U=[some (.int (c:Int)),v])/\H'=H /\ ∀ n,o=some n->m<=n) ⟨⟨_,rfl⟩,rfl,λ_ _=>bx _⟩ (λ_ _ _ _ _=>aR) ?_ ?_
  .rintro m x U H1 hx ⟨⟨v,rfl⟩,rfl,no⟩
   obtain⟨hm,rfl⟩:=Cu hx
   refine⟨c,m,rfl,?_⟩
   cases o with
   |none=>
    have ho:c=0:=ho
    have hz:c.testBit m=false:=by rw[ho];exact dj m
    rw[hz];exact⟨⟨_,rfl⟩,rfl,λ_ z=>by cases z⟩
   |some n=>
    obtain⟨hb,hn⟩:=ho
    rcases Nat.eq_or_lt_of_le (no n rfl) with rfl|h
    .rw[hb];exact k
    .rw[hn m h];exact⟨⟨_,rfl⟩,rfl,λ_ z=>by cases z;exact h⟩
  .rintro U H1 ⟨⟨v,rfl⟩,rfl,no⟩
   rw[Az] at no
   cases o with
   |none=>exact .inl k
   |some n=>
    obtain⟨hb,hn⟩:=ho
    rw[Nat.testBit_lt_two_pow (aJ (ar7 c) (ic (by decide) (no n rfl)))] at hb
    cases hb
theorem ba4 (Z:An K t):OkD K Zr (Ay K t) bl (t.f 32) (t.d 32) (Va K t):=by
 refine okD (n:=40) (t:=bu8 K t) rfl (by decide +kernel) (by kernel_rfl) (λvs H Q E h=>?_) (λvs H Q E h=>?_)
 .obtain⟨d0,T,rfl,_⟩:=h;rfl
 .obtain⟨d0,T,rfl,hT,oT,k⟩:=h
  intro p dx hp0 hdx nep
  refine⟨p,dx,rfl,Ab,λd hd0 npd=>⟨rfl,?_⟩⟩
  obtain⟨hd,S1,e1d⟩:=ag4 hp0 hdx nep hd0
  have e1p:upd (upd (upd (upd H dx (.own p)) p (.ins t.c_zbu dx [])) d (.dK [])) p (.ins t.c_zbu dx [("records", .ref d)]) p=some (.ins t.c_zbu dx [("records", .ref d)]):=Ab
  generalize upd (upd (upd (upd H dx (.own p)) p (.ins t.c_zbu dx [])) d (.dK [])) p (.ins t.c_zbu dx [("records", .ref d)])=H1 at S1 e1d e1p ⊢
  obtain⟨es,et,⟨_,ed⟩,he⟩:=hT.up S1
  have nde:(es.map (·.1.1)).Nodup:=by have:=oT.1;rw[<- et,aF] at this;exact this
  have l8:=oT.2.1
  have le:es.length=T.length:=by rw[<- et,ae]
  have ndd:d≠d0:=λz=>by
   obtain⟨es2,_,⟨_,e2⟩,_⟩:=hT
   rw[<- z,hd] at e2;cases e2
  have npd0:p≠d0:=λz=>by rw[z,ed] at e1p;cases e1p
  refine .inr (.inr (.inl (.inl ⟨_,ed,λo=>?_⟩)))
  have ef:upd H1 d0 (.frz o (.dK (es.map kT))) d0=some (.frz o (.dK (es.map kT))):=Ab
  have tf:=Hq (o:=.frz o (.dK (es.map kT))) (.inl ed)
  have efd:upd H1 d0 (.frz o (.dK (es.map kT))) d=some (.dK []):=by rw[Ad ndd];exact e1d
  have efp:upd H1 d0 (.frz o (.dK (es.map kT))) p=some (.ins t.c_zbu dx [("records", .ref d)]):=by rw[Ad npd0];exact e1p
  have of:∀ b u,b≠d0->H1 b=some u->upd H1 d0 (.frz o (.dK (es.map kT))) b=some u:=λb u nb e=>by rw[Ad nb];exact e
  show Gh (Itd d0 o (es.map kT)) _ _ _ [some (.ref d0),some (.ref p),none,none,none,none,none] _
  generalize upd H1 d0 (.frz o (.dK (es.map kT)))=Hf at ef tf efd efp of ⊢
  refine Bd (Er (es.map kT)) (λi U H'=>(∃ v2 v3 v4 v5 v6,U=[some (.ref d0),some (.ref p),v2,v3,v4,v5,v6])/\(∀ a u,a≠d->Hf a=some u->H' a=some u) /\ ∃ fs:List ((Str×Rc)×Addr),fs.map (·.1)=T.take i/\H' d=some (.dK (fs.map kT)) /\ ∀ e∈fs,RcAt H' e.2 e.1.2)
   ⟨⟨_,_,_,_,_,rfl⟩,(λ_ _ _ e=>e),[],rfl,efd,λe h=>by cases h⟩ (λ_ _ H' _ q=>q.2.1 _ _ ndd.symm ef) ?_ ?_
  .rintro i x U H2 hx ⟨⟨v2,v3,v4,v5,v6,rfl⟩,B2,fs,ft,e2d,hf⟩
   rw[aF] at hx
   obtain⟨e,hi,rfl⟩:=Am hx
   have tt:∀ b ys,H1 b=some (.tup ys)->H2 b=some (.tup ys):=λb ys q=>B2 _ _ (λz=>by rw[z,e1d] at q;cases q) (tf _ _ q)
   obtain⟨v,er,tk⟩:=(he e (ak hi)).up tt
   have hiT:T[i]? = some e.1:=by rw[<- et,am,hi];rfl
   have nn:¬ e.1.1∈fs.map (·.1.1):=λz=>by
    have:e.1.1∈(T.take i).map (·.1):=by rw[<- ft,aF];exact z
    rw[ig] at this
    exact Ed oT.1 (show (T.map (·.1))[i]? = some e.1.1 by rw[am,hiT];rfl) this
   have lf:fs.length<=8:=by
    have:=congrArg cJ ft
    rw[ae,aK] at this
    omega
   refine⟨.ref e.2,.inl ⟨_,.inr e.1.1,.inr ⟨o,B2 _ _ ndd.symm ef⟩,rfl,(Ot nde hi).symm⟩,_,.inl (SqT.of er),rfl,?_⟩
   refine⟨p,dx,_,⟨t.c_zbu,a19 K t⟩,rfl,.head _,B2 _ _ (ce npd) efp,rfl,⟨ai _,ai _⟩,⟨p,dx,d,_,e.1.1,e.1.2.k,e.1.2.p,e.1.2.r,v,rfl,B2 _ _ (ce npd) efp,e2d,by rw[ae];exact lf,λa ha=>?_⟩⟩
   have nda:d≠a:=Ai e2d ha
   have Sa:=Same.upd (o:=.tup [.str e.1.2.k,.str e.1.2.p,.int e.1.2.r,v]) ha
   have ea:upd H2 a (.tup [.str e.1.2.k,.str e.1.2.p,.int e.1.2.r,v]) a=some (.tup [.str e.1.2.k,.str e.1.2.p,.int e.1.2.r,v]):=Ab
   generalize upd H2 a (.tup [.str e.1.2.k,.str e.1.2.p,.int e.1.2.r,v])=H3 at Sa ea ⊢
   have tu:=Hq (o:=.dK ((fs++[(e.1,a)]).map kT)) (.inl (Sa _ _ e2d))
   rw[Wm (e:=e.1) nn]
   refine⟨⟨_,_,_,_,_,rfl⟩,λb u nb q=>by rw[Ad nb];exact Sa _ _ (B2 b u nb q),_,?_,Ab,λf hf2=>?_⟩
   .rw[ax,ft,aL,hiT];rfl
   .rcases List.mem_append.mp hf2 with h|h
    .exact ((hf f h).up (NL.same Sa).tup).up tu
    .obtain rfl:f=(e.1,a):=by simpa using h
     exact RcAt.up (x:=e.1.2) tu ⟨v,ea,tk.up (NL.same Sa).tup⟩
  .rintro U H2 ⟨⟨v2,v3,v4,v5,v6,rfl⟩,B2,fs,ft,e2d,hf⟩
   rw[ae,ae,le,aC] at ft
   have e2f:=B2 _ _ ndd.symm ef
   refine .inr ⟨d0,o,_,ed,e2f,k _ p (λb u q=>?_) ⟨dx,d,⟨trivial,by rw[Ad npd0];exact B2 _ _ (ce npd) efp⟩,fs,ft,⟨trivial,by rw[Ad ndd];exact e2d⟩,λf h=>(hf f h).up (Hq (.inr ⟨o,e2f⟩))⟩⟩
   by_cases hb:b=d0
   .subst hb
    rw[Ab,<- ed,S1 _ _ q]
   .rw[Ad hb]
    exact B2 _ _ (λz=>by rw[z,hd] at q;cases q) (of _ _ hb (S1 _ _ q))
theorem bb0 (Z:An K t):OkD K D_zav (Ay K t) bl (t.f 17) (t.d 17) (Ve K t):=by
 intro P w mg base dV F T
 obtain⟨oc,od,kV,doc,pm,an,cdv,ct,osl,ef,lk,hcd⟩:=id F.ex
 have hl:(match (t.d 17).code with
  |.ref c=>dP K c 317
  |_=>false)=true:=by
  have:=Z.lam
  unfold Kv at this
  rw[lk] at this
  exact this
 obtain⟨c,hcode,hc⟩:∃ c,(t.d 17).code=.ref c/\dP K c 317=true:=by
  cases e:(t.d 17).code with
  |ref c=>rw[e] at hl;exact⟨c,rfl,hl⟩
  |_=>rw[e] at hl;cases hl
 have T5:=T 5 (by decide)
 have T2:=T 2 (by decide)
 obtain⟨hb1,hb2⟩:=T5.1 "__builtins__" (.val (.ref 4) (t.u 0)) (List.mem_filterMap.mpr ⟨⟨0, "__builtins__", .val (.ref 4) (t.u 0)⟩,aP _ (bW _ aT),rfl⟩)
 have hbm:mg "__builtins__" = some (.ref 4):=by rw[hb1];exact congrArg some hb2
 refine a67 (j:=2) (m:=40) (n:=40) (N:=D_zav.N) (N':=["pair"]) (dl:=bv4 K t) (da:=Aa 0) F (ScOk.fn (by decide +kernel)) (by decide +kernel) T5 T2 rfl (by decide +kernel) (T5.2 _ (by decide)) rfl hcode hc hbm (λ_=>rfl) (λ_=>rfl) (ScOk.fn (by decide +kernel)) (by decide +kernel) rfl (λ_ _ _ _ _=>rfl) (by kernel_rfl) (by kernel_rfl) (λvs H Q E h=>?_) (λvs H Q E h=>?_)
 .obtain⟨b,es,rfl,_⟩:=h;rfl
 .obtain⟨b,es,rfl,⟨hP,ob,u,hB,b1,b2,b3⟩,eb,l64,asc,one,k⟩:=h
  have e2:(es.map λe=>(((e.1.2.1:Nat):Int),V.ref e.2.2)).map (·.2)=es.map λe=>V.ref e.2.2:=by rw[aF];rfl
  refine⟨.ref b,rfl,b,ob,u,es.map λe=>(((e.1.2.1:Nat):Int),V.ref e.2.2),rfl,by rw[e2];exact SqL.of eb,by rw[ae];exact l64,?_,hP,hB,⟨b1,b2,b3⟩,λd hd H3 O3=>?_,λH' D O _ e=>k H' D O (by rw[e,e2])⟩
  .rw[aF]
   have:=fE (S:=λa b:Int=>a<b) (λn:Nat=>(n:Int)) (λa b h=>by omega) asc
   rw[aF] at this
   exact this
  .obtain⟨e,he,rfl⟩:=List.mem_map.mp hd
   obtain⟨h1,h2,h3,h4⟩:=one e he
   have e3:=O3 _ _ (λz=>by rw[z,hP] at h1;cases h1) h1
   exact⟨_,_,.inr (SqT.of e3),rfl,e.1.2.2,some e.1.2.1,rfl,⟨h2,h3⟩,h4,rfl,Same.refl _⟩
theorem a58 {p:Addr} {o:Obj} {kvs:List (TK×V)} {g:DG} {tc:DT} {te:DE} {L:Addr} {R:Hp->Prop} {U:St} {H:Hp} {E:EK} (Pv:Nat->St->Hp->Prop) (h0:Pv 0 U H) (hok:∀ i U H,Pv i U H->H p=some (.frz o (.dT kvs)))
  (hs:∀ i k v b U H,kvs[i]? = some (k,v)->Ap k<=8/\TkAt H k (.ref b)->Pv i U H->g (.ref b) U H λU3 H3=>tc U3 H3 (λb H4=>if b=true then te U3 H4 (λv H5=>∃ ys,H5 L=some (.lst ys)/\ys.length<sizeLine/\Pv (i+1) U3 (upd H5 L (.lst (ys++[v])))) E else Pv (i+1) U3 H4) E)
  (hd:∀ U H,Pv kvs.length U H->R H):Ef (ar1 p o kvs) g tc te L R U H E:=by
 refine⟨λi m U H=>m=kvs.length - i/\i<=kvs.length/\Pv i U H,⟨kvs.length,by simp,bx _,h0⟩,?_⟩
 rintro i m U H ⟨rfl,hi,q⟩
 by_cases hlt:i<kvs.length
 .refine .inr ⟨⟨hok i U H q,hlt⟩,Pv (i+1),λU' H' p'=>⟨kvs.length - (i+1),by omega,rfl,hlt,p'⟩,λx H' y=>?_⟩
  obtain⟨rfl,k,v,h1,h2,h3,b,rfl⟩:=y
  exact hs i k v b U _ h1 ⟨h2,h3⟩ q
 .have e:i=kvs.length:=by omega
  subst e
  exact .inl ⟨⟨hok _ U H q,ai _⟩,hd U H q⟩
abbrev gK (g:Gp):TK×V:=(g.1,.int (g.2.2:Int))
theorem Js (gs:List Gp):(gs.map gK).map (·.1)=gs.map (·.1):=by rw[aF];rfl
theorem any_mem {κ:Type} [DecidableEq κ] {kvs:List (κ×V)} {k:κ}:(kvs.any λkv=>decide (kv.1=k))=true ↔ k∈kvs.map (·.1):=by
 rw[dO,aw]
 exact⟨fun⟨x,h,e⟩=>⟨x,h,of_decide_eq_true e⟩,fun⟨x,h,e⟩=>⟨x,h,decide_eq_true e⟩⟩
theorem Yt {κ:Type} [DecidableEq κ] (kvs:List (κ×V)) (k:κ) (v:V):(C4 kvs k v).map (·.1)=if k∈kvs.map (·.1) then kvs.map (·.1) else kvs.map (·.1)++[k]:=by
 unfold C4
 by_cases h:k∈kvs.map (·.1)
 .rw[if_pos (any_mem.mpr h),if_pos h,aF]
  exact bU λkv _=>by show (if _ then _ else _:κ×V).1=_;split <;> rfl
 .rw[if_neg (λz=>h (any_mem.mp z)),if_neg h,ax];rfl
theorem Ys (gs:List Gp) (k:TK) (n:Nat):(G0 gs k n).map (·.1)=if k∈gs.map (·.1) then gs.map (·.1) else gs.map (·.1)++[k]:=by
 unfold G0
 by_cases h:k∈gs.map (·.1)
 .rw[if_pos h,if_pos h,aF]
  exact bU λg _=>by show (if _ then _ else _:Gp).1=_;split <;> rfl
 .rw[if_neg h,if_neg h,ax];rfl
theorem ai8 {κ:Type} [DecidableEq κ] {kvs:List (κ×V)} {k:κ} {v:V} {x:κ×V} (h:x∈C4 kvs k v):x∈kvs\/(x.1=k/\x.2=v):=by
 unfold C4 at h
 split at h
 .obtain⟨y,hy,rfl⟩:=List.mem_map.mp h
  split
  .exact .inr ⟨‹_›,rfl⟩
  .exact .inl hy
 .rcases List.mem_append.mp h with h|h
  .exact .inl h
  .obtain rfl:x=(k,v):=by simpa using h
   exact .inr ⟨rfl,rfl⟩
theorem aw3 {gs:List Gp} {n:Nat} (k:TK) (h:GInv n gs):∃ old:Nat,(B0 (gs.map gK) k).getD (.int 0)=.int (old:Int)/\C4 (gs.map gK) k (.int ((old ||| 2 ^ n:Nat):Int))=(G0 gs k n).map gK:=by
 have nd:((gs.map gK).map (·.1)).Nodup:=by rw[Js];exact h.nd
 by_cases hk:k∈gs.map (·.1)
 .obtain⟨g,hg,rfl⟩:=List.mem_map.mp hk
  obtain⟨j,hj⟩:=List.mem_iff_getElem?.mp hg
  refine⟨g.2.2,by rw[Bm nd (i:=j) (k:=g.1) (v:=.int (g.2.2:Int)) (by rw[am,hj];rfl)];rfl,?_⟩
  unfold C4 G0
  rw[if_pos (any_mem.mpr (by rw[Js];exact hk)),if_pos hk,aF,aF]
  refine bU λg' hg'=>?_
  show (if g'.1=g.1 then (g'.1,V.int ((g.2.2 ||| 2 ^ n:Nat):Int)) else gK g')=gK (if g'.1=g.1 then _ else g')
  split
  .rename_i e
   have:g'=g:=by
    obtain⟨i,hi⟩:=List.mem_iff_getElem?.mp hg'
    have l1:=Al hi
    have l2:=Al hj
    rw[ah l1] at hi
    rw[ah l2] at hj
    have:=(c9 (i:=i) (j:=j) (h₀:=by rw[ae];exact l1) (h₁:=by rw[ae];exact l2) h.nd).mp (by rw[cL,cL,aD hi,aD hj,e])
    subst this
    exact (aD hi).symm.trans (aD hj)
   rw[this]
  .rfl
 .have hv:B0 (gs.map gK) k=none:=B3 (by rw[Js];exact hk)
  refine⟨0,by rw[hv];rfl,?_⟩
  rw[D9 _ hv,aw2 hk,ax,Nat.zero_or]
  rfl
theorem PlAt.keep {C:Addr} {H H':Hp} {p:Addr} {T:Tr} (h:PlAt C any H p T) (n:∀ a o,(∀ l,o≠.dT l)->H a=some o->H' a=some o):PlAt C any H' p T:=
 let ⟨dx,d,⟨_,o⟩,es,e,⟨_,q⟩,z⟩:=h
 ⟨dx,d,⟨trivial,n _ _ (λ_ z=>by cases z) o⟩,es,e,⟨trivial,n _ _ (λ_ z=>by cases z) q⟩,λx hx=>(z x hx).up λb ys=>n b _ λ_ z=>by cases z⟩
theorem Ug {H:Hp} {a:Addr} {l:List (TK×V)} {o:HO} (h:H a=some (.dT l)):∀ b u,(∀ l,u≠.dT l)->H b=some u->upd H a o b=some u:=λb u n e=>by rw[Ad λz=>by rw[z,h] at e;cases e;exact n _ rfl];exact e
theorem ar4 {A n:Nat} (h:A.testBit n=true):b9 ((2 ^ n:Nat):Int) (A:Int)=((2 ^ n:Nat):Int):=by
 rw[Cq]
 congr 1
 refine dn λj=>?_
 rw[cA,cT]
 by_cases e:n=j
 .subst e;rw[h,gj]
 .rw[decide_eq_false e];rfl
def NB (H H':Hp):Prop:=∀ a o,(∀ x,o≠.tbl x)->H a=some o->H' a=some o
theorem NB.of {P:Addr} {H H':Hp} {x:Array Value} (O:Ql P H H') (h:H P=some (.tbl x)):NB H H':=λa o n e=>O _ _ (λz=>by rw[z,h] at e;cases e;exact n _ rfl) e
theorem NB.tu {H H':Hp} (n:NB H H') {a:Addr} {xs:List V} (e:H a=some (.tup xs)):H' a=some (.tup xs):=n _ _ (λ_ z=>by cases z) e
theorem PlAt.nb {C:Addr} {H H':Hp} {p:Addr} {T:Tr} (h:PlAt C any H p T) (n:NB H H'):PlAt C any H' p T:=
 let ⟨dx,d,⟨_,o⟩,es,e,⟨_,q⟩,z⟩:=h
 ⟨dx,d,⟨trivial,n _ _ (λ_ z=>by cases z) o⟩,es,e,⟨trivial,n _ _ (λ_ z=>by cases z) q⟩,λx hx=>(z x hx).up λb ys=>n b _ λ_ z=>by cases z⟩
theorem PlAt.nl {C:Addr} {H H':Hp} {p:Addr} {T:Tr} (h:PlAt C any H p T) (n:NL H H'):PlAt C any H' p T:=
 let ⟨dx,d,⟨_,o⟩,z⟩:=h
 ⟨dx,d,⟨trivial,n _ _ (λ_ z=>by cases z) o⟩,z.nl n⟩
theorem ba2 (Z:An K t):OkD K Zp (Ay K t) bl (t.f 18) (t.d 18) (U8 K t):=by
 refine okD (n:=40) (t:=bu6 K t) rfl (by decide +kernel) (by kernel_rfl) (λvs H Q E h=>?_) (λvs H Q E h=>?_)
 .obtain⟨A,l,ns,tr,rs,rfl,_⟩:=h;rfl
 .obtain⟨A,l,ns,tr,rs,rfl,hst,hR,hn,asc,few,k⟩:=h
  have big:(1000:Nat)<sizeLine:=by decide
  have f4:=Wj asc few
  intro sx hsx
  refine .inr ?_
  have S1:=Same.upd (o:=.dT []) hsx
  have e1:upd H sx (.dT []) sx=some (.dT []):=Ab
  generalize upd H sx (.dT [])=H1 at S1 e1 ⊢
  intro px hpx
  refine .inr ?_
  have S2:=S1.trans (Same.upd (o:=.dT []) hpx)
  have fpx:=S1.free hpx
  have nsp:sx≠px:=Ai e1 hpx
  have e2s:upd H1 px (.dT []) sx=some (.dT (([]:List Gp).map gK)):=by rw[Ad nsp];exact e1
  have e2p:upd H1 px (.dT []) px=some (.dT []):=Ab
  generalize upd H1 px (.dT [])=H2 at S2 e2s e2p ⊢
  refine .inl ⟨⟨_,SqL.of (S2 _ _ hR.at_)⟩,?_⟩
  refine Bd (A5 (rs.map λr=>V.ref r.2.1)) (λi U H'=>(∃ v4 v5 v6,U=[some (.int (A:Int)),some (.ref l),some (.ref sx),some (.ref px),v4,v5,v6])/\Same H H'/\H' sx=some (.dT ((Cb (λn=>vkT (tr n)) (ns.take i)).map gK)) /\ ∃ kp:List (TK×V),H' px=some (.dT kp)/\kp.map (·.1)=(Cb (λn=>vkT (tr n)) (ns.take i)).map (·.1) /\ ∀ x∈kp,∃ p T,x.2=.ref p/\PlAt t.c_zbu any H' p T/\Cl T/\vkT T=x.1)
   ⟨⟨_,_,_,rfl⟩,S2,e2s,[],e2p,rfl,λx hx=>by cases hx⟩ (λ_ _ H' _ q=>q.2.1.seqL (SqL.of hR.at_)) ?_ ?_
  .rintro i x U H3 hx ⟨⟨v4,v5,v6,rfl⟩,S3,e3s,kp,e3p,ek,hk⟩
   obtain⟨⟨n,T,p⟩,hi,rfl⟩:=Am hx
   have hi2:ns[i]? = some n:=by rw[<- hR.nms,am,hi];rfl
   obtain⟨eT,hP⟩:=hR.one _ (ak hi)
   obtain⟨okT,bt,_⟩:=hn n (ak hi2)
   have gi:=Gv (f:=λn=>vkT (tr n)) asc i n (Qf asc hi2)
   have st:=E6 (f:=λn=>vkT (tr n)) hi2
   have f4i:=f4 i
   generalize hgs:Cb (λn=>vkT (tr n)) (ns.take i)=gs at e3s ek gi st f4i
   have ab:=ar4 bt
   refine⟨_,.inl (SqT.of (S3 _ _ eT)),rfl,?_⟩
   have pos:=Nat.two_pow_pos n
   refine Ir (by
    show (!decide (b9 ((2 ^ n:Nat):Int) (A:Int)=0))=true
    rw[ab,decide_eq_false (by omega)];rfl) ?_
   have hP3:=PlAt.up hP S3
   obtain⟨dx,d,⟨_,ep⟩,_⟩:=id hP3
   refine⟨p,dx,_,⟨t.c_zbu,bm4 K t⟩,rfl,.head _,ep,rfl,⟨ai _,ai _⟩,⟨p,tr n,rfl,hP3,okT,λH4 b S4 tk=>?_⟩⟩
   have dk:Ap (vkT (tr n))<=8/\TkAt H4 (vkT (tr n)) (.ref b):=⟨bj6 okT,tk⟩
   obtain⟨old,ho,hp⟩:=aw3 (vkT (tr n)) gi
   refine⟨.inr (.inr (.inl ⟨rfl,.inr ⟨_,S4 _ _ e3s⟩⟩)),_,DGet.t (S4 _ _ e3s) dk,?_⟩
   rw[ho]
   show ∃ H',DPut H4 sx (.ref b) (.int (cU (old:Int) (b9 ((2 ^ n:Nat):Int) (A:Int)))) H'/\_
   rw[ab,Fl]
   refine⟨_,DPut.t (S4 _ _ e3s) dk (by rw[ae];omega),?_⟩
   rw[hp,<- st]
   have nt5:=Ug (o:=.dT ((Cb (λn=>vkT (tr n)) (ns.take (i+1))).map gK)) (S4 _ _ e3s)
   have e5s:upd H4 sx (.dT ((Cb (λn=>vkT (tr n)) (ns.take (i+1))).map gK)) sx=some (.dT ((Cb (λn=>vkT (tr n)) (ns.take (i+1))).map gK)):=Ab
   have e5p:upd H4 sx (.dT ((Cb (λn=>vkT (tr n)) (ns.take (i+1))).map gK)) px=some (.dT kp):=by rw[Ad nsp.symm];exact S4 _ _ e3p
   have S5:=(S3.trans S4).set (o:=.dT ((Cb (λn=>vkT (tr n)) (ns.take (i+1))).map gK)) hsx
   show Ae _ _ _ _ (upd H4 sx (.dT ((Cb (λn=>vkT (tr n)) (ns.take (i+1))).map gK)))
   generalize upd H4 sx (.dT ((Cb (λn=>vkT (tr n)) (ns.take (i+1))).map gK))=H5 at nt5 e5s e5p S5 ⊢
   have lk:kp.length<=4:=by
    have:=congrArg cJ ek
    rw[ae,ae] at this
    omega
   refine⟨_,DPut.t e5p ⟨dk.1,dk.2.up λb ys=>nt5 b _ λ_ z=>by cases z⟩ (by omega),?_⟩
   have nt6:=Ug (o:=.dT (C4 kp (vkT (tr n)) (.ref p))) e5p
   refine⟨⟨_,_,_,rfl⟩,S5.set fpx,by rw[Ad nsp];exact e5s,_,Ab,?_,λx hx=>?_⟩
   .rw[Yt,ek,st,Ys]
   .rcases ai8 hx with hx|hx
    .obtain⟨p',T',e',h',o',v'⟩:=hk x hx
     exact⟨p',T',e',((h'.up S4).keep nt5).keep nt6,o',v'⟩
    .exact⟨p,tr n,hx.2,((hP3.up S4).keep nt5).keep nt6,okT,hx.1.symm⟩
  .rintro U H3 ⟨⟨v4,v5,v6,rfl⟩,S3,e3s,kp,e3p,ek,hk⟩
   have len:rs.length=ns.length:=by rw[<- hR.nms,ae]
   have ln:(rs.map λr=>V.ref r.2.1).length=ns.length:=by rw[ae,len]
   rw[ln] at e3s ek
   have gi:=Gv (f:=λn=>vkT (tr n)) asc ns.length 256 (λm hm=>(hn m (fL hm)).2.2)
   have f4n:=f4 ns.length
   have hms:Cb (λn=>vkT (tr n)) ns=Cb (λn=>vkT (tr n)) (ns.take ns.length):=by rw[aC]
   rw[hms] at k
   generalize Cb (λn=>vkT (tr n)) (ns.take ns.length)=gs at e3s ek gi f4n k
   refine .inl ?_
   refine .inr (.inr (.inr ⟨_,e3s,λo D hD=>?_⟩))
   have ef:upd H3 sx (.frz o (.dT (gs.map gK))) sx=some (.frz o (.dT (gs.map gK))):=Ab
   have ntf:=Ug (o:=.frz o (.dT (gs.map gK))) e3s
   have efp:upd H3 sx (.frz o (.dT (gs.map gK))) px=some (.dT kp):=by rw[Ad nsp.symm];exact e3p
   have Sf:Same H (upd H3 sx (.frz o (.dT (gs.map gK)))):=S3.set hsx
   generalize upd H3 sx (.frz o (.dT (gs.map gK)))=Hf at ef ntf efp Sf hD ⊢
   have hkf:∀ x∈kp,∃ p T,x.2=.ref p/\PlAt t.c_zbu any Hf p T/\Cl T/\vkT T=x.1:=λx hx=>let ⟨p,T,e,h,o⟩:=hk x hx;⟨p,T,e,h.keep ntf,o⟩
   have nd1:((gs.map gK).map (·.1)).Nodup:=by rw[Js];exact gi.nd
   have nd2:(kp.map (·.1)).Nodup:=by rw[ek];exact gi.nd
   refine a58 (λi U H'=>(∃ v,U=[v,some (.ref px),some (.ref sx)])/\Same Hf H' /\ ∃ es:List (Gp×Tr×Addr×Addr),es.map (·.1)=gs.take i/\H' D=some (.lst (es.map λe=>.ref e.2.2.2)) /\ ∀ e∈es,H' e.2.2.2=some (.tup [.int (e.1.2.2:Int),.ref e.2.2.1])/\PlAt t.c_zbu any H' e.2.2.1 e.2.1/\Cl e.2.1/\vkT e.2.1=e.1.1) ⟨⟨_,rfl⟩,Same.upd hD,[],rfl,Ab,λe h=>by cases h⟩ (λ_ _ _ q=>q.2.1 _ _ ef) ?_ ?_
   .rintro i kk vv b U H4 hi dk ⟨⟨v,rfl⟩,S4,es,ee,eD,he⟩
    obtain⟨g,hg,eg⟩:=Am hi
    obtain⟨rfl,rfl⟩:kk=g.1/\vv=.int (g.2.2:Int):=by injection eg with a b;exact⟨a,b⟩
    have hj:(kp.map (·.1))[i]? = some g.1:=by rw[ek,am,hg];rfl
    obtain⟨⟨k2,v2⟩,hj2,e2⟩:=Am hj
    obtain rfl:g.1=k2:=e2
    obtain⟨p,T,ev,hP,oT,vT⟩:=hkf _ (ak hj2)
    obtain rfl:v2=.ref p:=ev
    have hP4:=hP.up S4
    obtain⟨dx,d,⟨_,ep⟩,_⟩:=id hP4
    refine⟨.int (g.2.2:Int),.inr ⟨_,g.1,b,.inr ⟨o,S4 _ _ ef⟩,rfl,dk,(Bm nd1 hi).symm⟩,?_⟩
    refine⟨.ref p,.inr ⟨_,g.1,b,.inl (S4 _ _ efp),rfl,dk,(Bm nd2 hj2).symm⟩,?_⟩
    refine⟨p,dx,_,⟨t.c_zbu,bm7 K t⟩,rfl,.head _,ep,rfl,⟨ai _,ai _⟩,⟨p,T,rfl,hP4,λH5 q S5 hq5=>⟨(show 2<=sizeLine by decide),λB hB=>?_⟩⟩⟩
    have S6:=S5.trans (Same.upd (o:=.tup [.int (g.2.2:Int),.ref q]) hB)
    have e6:upd H5 B (.tup [.int (g.2.2:Int),.ref q]) B=some (.tup [.int (g.2.2:Int),.ref q]):=Ab
    have hq6:=hq5.up (Same.upd (o:=.tup [.int (g.2.2:Int),.ref q]) hB)
    generalize upd H5 B (.tup [.int (g.2.2:Int),.ref q])=H6 at S6 e6 hq6 ⊢
    have le:es.length<=4:=by
     have:=congrArg cJ ee
     rw[ae,aK] at this
     omega
    have nl:=NL.upd (m:=(es.map λe=>V.ref e.2.2.2)++[.ref B]) (S6 _ _ eD)
    refine⟨_,S6 _ _ eD,by rw[ae];omega,⟨_,rfl⟩,(S4.trans S6).set hD,es++[(g,T,q,B)],?_,by rw[Ab,ax];rfl,λe h=>?_⟩
    .rw[ax,ee,aL,hg];rfl
    .rcases List.mem_append.mp h with h|h
     .exact⟨nl.tup _ _ (S6 _ _ (he e h).1),((he e h).2.1.up S6).nl nl,(he e h).2.2⟩
     .obtain rfl:e=(g,T,q,B):=by simpa using h
      exact⟨nl.tup _ _ e6,hq6.nl nl,oT,vT⟩
   .rintro U H4 ⟨_,S4,es,ee,eD,he⟩
    rw[ae,aC] at ee
    obtain⟨hP,ob,u,hB,b1,b2,b3⟩:=hst
    have S04:=Sf.trans S4
    have le:es.length=gs.length:=by rw[<- ee,ae]
    have em:(es.map λe=>(e.1,V.ref e.2.2.1,e.2.2.2)).map (λe=>V.ref e.2.2)=es.map λe=>V.ref e.2.2.2:=by rw[aF];rfl
    have e1:(es.map λe=>(e.1,V.ref e.2.2.1,e.2.2.2)).map (λe=>e.1.2.1)=gs.map (·.2.1):=by rw[<- ee,aF,aF];rfl
    refine⟨D,es.map λe=>(e.1,.ref e.2.2.1,e.2.2.2),rfl,⟨S04 _ _ hP,ob,u,S04 _ _ hB,b1,b2,b3⟩,by rw[em];exact eD,by rw[ae];omega,by rw[e1];exact gi.asc,λx hx=>?_,λH5 D5 O5 e5=>k H5 D5 (λb u nb q=>O5 _ _ nb (S04 _ _ q)) ⟨es.map λe=>((e.1,e.2.1),e.2.2.1,e.2.2.2),?_,?_,λx hx=>?_⟩⟩
    .obtain⟨e,h,rfl⟩:=List.mem_map.mp hx
     have:=gi.one e.1 (by rw[<- ee];exact dF h)
     exact⟨(he e h).1,this.2.2.1,this.2.2.2,aJ this.2.1 (ic (by decide) (by decide))⟩
    .rw[<- ee,aF];rfl
    .rw[e5,em,aF];rfl
    .obtain⟨e,h,rfl⟩:=List.mem_map.mp hx
     have nb:=NB.of O5 (S04 _ _ hP)
     exact⟨nb.tu (he e h).1,(he e h).2.1.nb nb,(he e h).2.2⟩
theorem a96 (Z:An K t):OkD K D_zah (Ay K t) bl t.f_zah t.d_zah (al8 K t):=by
 refine okD (n:=40) (t:=bu1 K t) rfl (by decide +kernel) (by kernel_rfl) (λvs H Q E h=>?_) (λvs H Q E h=>?_)
 .obtain⟨b,p,dx,sw,rules,rfl,_⟩:=h;rfl
 .obtain⟨b,p,dx,sw,rules,rfl,eb,hp,k⟩:=h
  refine .inl ⟨_,_,_,eb,Z.bc,Z.bp,(show 0<1000 by decide),?_⟩
  have e1:upd H b (.ins t.c_zbv dx [("panel", .ref p)]) b=some (.ins t.c_zbv dx [("panel", .ref p)]):=Ab
  have O1:∀ a o,a≠b->H a=some o->upd H b (.ins t.c_zbv dx [("panel", .ref p)]) a=some o:=λa o n e=>by rw[Ad n];exact e
  have hp1:=hp.mono (Kp.off (p:=b) (o:=.ins t.c_zbv dx [("panel", .ref p)]) λz=>z rfl)
  show Ae _ _ _ _ (upd H b (.ins t.c_zbv dx [("panel", .ref p)]))
  generalize upd H b (.ins t.c_zbv dx [("panel", .ref p)])=H1 at e1 O1 hp1 ⊢
  obtain⟨dxp,d,l,n,s,kk,br,h1⟩:=id hp1
  refine⟨p,dxp,_,⟨t.c_zbt,a72 K t⟩,rfl,.head _,h1.ins.2,rfl,⟨ai _,ai _⟩,⟨p,sw,rules,rfl,hp1.mono Kp.any,?_⟩⟩
  intro a dxa ha hdx ne
  refine⟨a,dxa,rfl,Ab,λd0 hd0 _=>⟨rfl,?_⟩⟩
  obtain⟨_,S2,_⟩:=ag4 ha hdx ne hd0
  generalize upd (upd (upd (upd H1 dxa (.own a)) a (.ins t.c_zbu dxa [])) d0 (.dK [])) a (.ins t.c_zbu dxa [("records", .ref d0)])=H2 at S2 ⊢
  refine⟨(show 2<=sizeLine by decide),λT hT=>⟨(show 1<=sizeLine by decide),λL hL=>?_⟩⟩
  rw[Hs] at hL ⊢
  have S3:=Same.upd (o:=.tup [.int ((Dz sw rules:Nat):Int),.ref a]) hT
  have e3:upd H2 T (.tup [.int ((Dz sw rules:Nat):Int),.ref a]) T=some (.tup [.int ((Dz sw rules:Nat):Int),.ref a]):=Ab
  generalize upd H2 T (.tup [.int ((Dz sw rules:Nat):Int),.ref a])=H3 at S3 e3 hL ⊢
  have S4:=Same.upd (o:=.lst [.ref T]) hL
  have e4:upd H3 L (.lst [.ref T]) L=some (.lst [.ref T]):=Ab
  generalize upd H3 L (.lst [.ref T])=H4 at S4 e4 ⊢
  have S14:=S2.trans (S3.trans S4)
  have eb4:=S14 _ _ e1
  refine .inl ⟨_,_,_,eb4,Z.bc,Z.bk,(show 1<1000 by decide),?_⟩
  exact k _ L (λx o nx e=>by rw[Ad nx];exact S14 _ _ (O1 _ _ nx e)) Ab
theorem PlAt.ki {C:Addr} {H H':Hp} {p:Addr} {T:Tr} (h:PlAt C any H p T) (n:∀ a o,(∀ C d fs,o=.ins C d fs->fs.lookup ("kept" : Str)=none)->H a=some o->H' a=some o):PlAt C any H' p T:=
 let ⟨dx,d,⟨_,o⟩,es,e,⟨_,q⟩,z⟩:=h
 ⟨dx,d,⟨trivial,n _ _ (λ_ _ _ z=>by cases z;rfl) o⟩,es,e,⟨trivial,n _ _ (λ_ _ _ z=>by cases z) q⟩,λx hx=>(z x hx).up λb ys=>n b _ λ_ _ _ z=>by cases z⟩
theorem ba9 (Z:An K t):OkD K Zw (Ay K t) bl (t.f 19) (t.d 19) (Vd K t):=by
 refine okD (n:=40) (t:=bv3 K t) rfl (by decide +kernel) (by kernel_rfl) (λvs H Q E h=>?_) (λvs H Q E h=>?_)
 .obtain⟨p,l,sw,rules,ns,tr,rs,rfl,_⟩:=h;rfl
 .obtain⟨p,l,sw,rules,ns,tr,rs,rfl,hst,hp,hR,hn,asc,few,k⟩:=h
  intro b dx hb hdx ne
  have S1:Same H (upd (upd H dx (.own b)) b (.ins t.c_zbv dx [])):=(Same.upd hdx).set hb
  have e1:upd (upd H dx (.own b)) b (.ins t.c_zbv dx []) b=some (.ins t.c_zbv dx []):=Ab
  have K1:Kp (· ≠ 317) H (· ≠ b) (upd (upd H dx (.own b)) b (.ins t.c_zbv dx [])):=λa o q=>⟨λz=>(by have q2:=q.2;rw[z,hb] at q2;cases q2),S1 _ _ q.2⟩
  generalize upd (upd H dx (.own b)) b (.ins t.c_zbv dx [])=H1 at S1 e1 K1 ⊢
  refine⟨b,p,dx,sw,rules,rfl,e1,hp.mono K1,λH2 l0 O2 e2=>⟨rfl,?_⟩⟩
  have S2:Same H H2:=λa o q=>O2 _ _ (λz=>by rw[z,hb] at q;cases q) (S1 _ _ q)
  have hp2:=hp.mono (Kp.same S2)
  obtain⟨dxp,d,l1,n,s,kk,br,h1⟩:=id hp2
  obtain⟨hP,ob,u,hB,b1,b2,b3⟩:=hst
  refine⟨p,dxp,_,⟨t.c_zbt,a72 K t⟩,rfl,.head _,h1.ins.2,rfl,⟨ai _,ai _⟩,⟨p,sw,rules,rfl,hp2.mono Kp.any,?_⟩⟩
  rw[Hs]
  refine⟨Dz sw rules,l,ns,tr,rs,rfl,⟨S2 _ _ hP,ob,u,S2 _ _ hB,b1,b2,b3⟩,⟨hR.nms,S2 _ _ hR.at_,λr hr=>⟨S2 _ _ (hR.one r hr).1,(hR.one r hr).2.up S2⟩⟩,hn,asc,few,λH3 D O3 hK=>?_⟩
  have nb:b≠317:=λz=>by rw[<- z,hb] at hP;cases hP
  have e3:=O3 _ _ nb e2
  refine .inl ⟨_,_,_,e3,Z.bc,Z.bk,(show 2<1000 by decide),?_⟩
  obtain⟨es,ee,eD,he⟩:=hK
  have ni:∀ a o,(∀ C d fs,o=.ins C d fs->fs.lookup ("kept" : Str)=none)->H3 a=some o->upd H3 b (.ins t.c_zbv dx (Du "kept" (.ref D) [("panel", .ref p),("kept", .ref l0)])) a=some o:=λa o n e=>by rw[Ad λz=>by rw[z,e3] at e;cases e;have:=n _ _ _ rfl;cases this];exact e
  have fin:∀ a o,a≠317->H a=some o->upd H3 b (.ins t.c_zbv dx (Du "kept" (.ref D) [("panel", .ref p),("kept", .ref l0)])) a=some o:=λa o na q=>by rw[Ad λz=>by rw[z,hb] at q;cases q];exact O3 _ _ na (S2 _ _ q)
  exact k _ b fin ⟨dx,p,D,Ab,hp.mono λa o q=>⟨trivial,fin _ _ q.1 q.2⟩,es,ee,ni _ _ (λ_ _ _ z=>by cases z) eD,λe h=>⟨ni _ _ (λ_ _ _ z=>by cases z) (he e h).1,(he e h).2.1.ki ni,(he e h).2.2⟩⟩
theorem az4 {H:Hp} {l:Addr} {sw:Sw} {E:EK} {R:Hp->Addr->Prop} (h:SwIn any H l sw) (l5:sw.length<=5) (k:∀ D H',Same H H'->SwIn any H' D sw->R H' D) :
  ∀ D,H D=none->Ef (Itl K l) (gdT K 2 [gdN 0,gdN 1]) Ck (Dw (Ac (Aa 0) (Ac (dFn (λvs H Q _=>(Pl K true) vs H Q) (Ac (Aa 1) Ag)) Ag))) D (λH'=>R H' D) [none,none] (upd H D (.lst [])) E:=by
 intro D hD
 obtain⟨ds,ed,⟨_,ol⟩,hd⟩:=h
 have len:ds.length=sw.length:=by rw[<- ed];simp
 have big:(1000:Nat)<sizeLine:=by decide
 refine Cr (A5 (ds.map λx=>V.ref x.2)) (λi U H'=>(∃ v0 v1,U=[v0,v1])/\Same H H' /\ ∃ fs:List (((Str×List Str)×Addr)×Addr),fs.map (·.1.1)=sw.take i/\SwL H' D fs) ⟨⟨_,_,rfl⟩,Same.upd hD,[],rfl,Ab,λx hx=>(by cases hx),λx hx=>(by cases hx)⟩ (λ_ _ H' _ q=>q.2.1.seqL (SqL.of ol)) ?_ ?_
 .rintro i x U H1 hx ⟨⟨v0,v1,rfl⟩,S1,fs,ef,L1⟩
  obtain⟨⟨⟨x',la⟩,ta⟩,hi,rfl⟩:=Am hx
  have hi2:sw[i]? = some x':=by rw[<- ed,am,hi];rfl
  have il:=Al hi2
  obtain⟨⟨_,h1⟩,_,h2⟩:=hd _ (ak hi)
  have h2:H la=some (Be x'.2):=h2
  refine⟨_,.inl (SqT.of (S1 _ _ h1)),rfl,.inl ⟨_,.inl (SqL.of (S1 _ _ h2)),λM hM=>⟨(show 2<=sizeLine by decide),λT hT=>?_⟩⟩⟩
  have S2:=Same.upd (o:=Be x'.2) hM
  have e2:upd H1 M (Be x'.2) M=some (Be x'.2):=Ab
  have nM:M≠D:=(Ai L1.at_ hM).symm
  have L2:=L1.up S2
  show ∃ ys,upd (upd H1 M (Be x'.2)) T (.tup [.str x'.1,.ref M]) D=_/\_
  have hT:upd H1 M (Be x'.2) T=none:=hT
  generalize upd H1 M (Be x'.2)=H2 at S2 e2 L2 hT ⊢
  have S3:=Same.upd (o:=.tup [.str x'.1,.ref M]) hT
  have e3:upd H2 T (.tup [.str x'.1,.ref M]) T=some (.tup [.str x'.1,.ref M]):=Ab
  have L3:=L2.up S3
  generalize upd H2 T (.tup [.str x'.1,.ref M])=H3 at S3 e3 L3 ⊢
  have lf:fs.length<=5:=by
   have:=congrArg cJ ef
   rw[ae,aK] at this
   omega
  refine⟨_,L3.at_,by rw[ae];omega,⟨_,_,rfl⟩,(S1.trans (S2.trans S3)).set hD,_,?_,L3.snoc (e:=x') e3 (S3 _ _ e2) nM⟩
  rw[ax,ef,aL,hi2];rfl
 .rintro U H1 ⟨_,S1,fs,ef,L1⟩
  rw[ae,len,aC] at ef
  exact k D H1 S1 ⟨fs,ef,⟨trivial,L1.at_⟩,λx hx=>⟨⟨trivial,L1.tup x hx⟩,trivial,(L1.lst x hx).1⟩⟩
theorem ah5 {H:Hp} {D k p dx:Addr} {sw:Sw} {rules:List Sw} {R:Hp->Prop} {E:XK} {x:Array Value} (h6:H 317=some (.tbl x)) (hp:H p=none) (hdx:H dx=none) (hs:SwIn any H D sw) (hw:okSw sw) (hr:RulesAt any H k rules) (okr:∀ r∈rules,Em sw r) (few:rules.length<=8) (ne:As sw rules≠[]) (q:∀ H',Same H H'->PanelAt t.c_zbt (· ≠ 317) H' p sw rules->R H') :
  (i_zz K t).sp (.ref p::([.ref D,.ref k]++List.drop 1 (i_zz K t).dfs)) (upd (upd H dx (.own p)) p (.ins t.c_zbt dx [])) (λv H2=>v=.non/\R H2) E:=by
 have S1:Same H (upd (upd H dx (.own p)) p (.ins t.c_zbt dx [])):=(Same.upd hdx).set hp
 have K1:Kp any H (· ≠ p) (upd (upd H dx (.own p)) p (.ins t.c_zbt dx [])):=λa o q=>⟨λz=>(by have q2:=q.2;rw[z,hp] at q2;cases q2),S1 _ _ q.2⟩
 refine⟨p,D,dx,.ref k,sw,rules,rfl,Ab,hs.mono K1,hw,.inr ⟨k,rfl,hr.mono K1⟩,okr,few,as8 ne,λH2 O2 hP=>⟨rfl,q H2 (λb u e=>O2 _ _ (λz=>by rw[z,hp] at e;cases e) (S1 _ _ e)) (hP.mono (Kp.weak λa ha=>?_))⟩⟩
 rintro rfl
 rcases ha with z|z
 .rw[<- z,h6] at hp;cases hp
 .rw[S1 _ _ h6] at z;cases z
theorem Jx {H:Hp} {p:Addr} {n:Nat} {v:V} {Q:VK} (h:DGet H p (.int (n:Int)) (some v)) (q:Q v H):A3 K (.ref p) (.int (n:Int)) H Q:=
 ⟨g7 (n+1) v,v,.dk λu e=>by
  rw[Bu (j:=n) (v:=v) (by rw[eN,if_pos (cg n)])] at e
  cases e
  exact h,Bu (by rw[eN,if_pos (cg n)]),q⟩
theorem ae4 {g:Nat->Addr} {ns:List Nat} {i n:Nat} (nd:ns.Nodup) (h:ns[i]? = some n):B0 (ns.map (kF g)) (.inl (n:Int))=some (.ref (g n)):=by
 refine Bm (i:=i) ?_ (by rw[am,h];rfl)
 rw[Jy]
 exact fE _ (λa b ne e=>ne (by injection e with e;omega)) nd
theorem bb2 (Z:An K t):OkD K Zy (Ay K t) bl (t.f 33) (t.d 33) (Vg K t):=by
 refine okD (n:=40) (t:=bv6 K t) rfl (by decide +kernel) (by kernel_rfl) (λvs H Q E h=>?_) (λvs H Q E h=>?_)
 .obtain⟨W,F,l,k,f,sw,rules,g,tr,rfl,_⟩:=h;rfl
 .obtain⟨W,F,l,kk,f,sw,rules,g,tr,rfl,hst,hW,hF,k⟩:=h
  have big:(1000:Nat)<sizeLine:=by decide
  refine⟨_,.inr (SqL.of hW.at_),rfl,?_⟩
  obtain⟨ds,_,⟨_,ol⟩,_⟩:=id hW.sws
  refine .inl ⟨⟨_,SqL.of ol⟩,az4 hW.sws hW.ok.2.1 λD H1 S1 hD=>?_⟩
  intro p dx hp hdx nep
  refine ah5 (S1 _ _ hst.1) hp hdx hD hW.ok (hW.rl.mono (Kp.same S1)) hW.rok hW.few hW.ne λH2 S2 hP=>?_
  have S02:=S1.trans S2
  refine⟨(show 0<=sizeLine by decide),λR hR=>?_⟩
  have S3:=Same.upd (o:=.lst []) hR
  have e3:upd H2 R (.lst []) R=some (.lst []):=Ab
  show Ae _ _ _ _ (upd H2 R (.lst []))
  generalize upd H2 R (.lst [])=H3 at S3 e3 ⊢
  have S03:=S02.trans S3
  have fR:=S02.free hR
  have eF:=S03 _ _ hF.at_
  have asc:=Kk sw rules
  have ndf:(As sw rules).Nodup:=asc.imp λh=>aQ h
  refine .inr (.inr (.inl (.inl ⟨_,eF,λo=>?_⟩)))
  have ef:upd H3 F (.frz o (.dK ((As sw rules).map (kF g)))) F=some (.frz o (.dK ((As sw rules).map (kF g)))):=Ab
  have of:∀ b u,b≠F->H3 b=some u->upd H3 F (.frz o (.dK ((As sw rules).map (kF g)))) b=some u:=λb u nb e=>by rw[Ad nb];exact e
  show Gh (Itd F o ((As sw rules).map (kF g))) _ _ _ [some (.ref W),some (.ref F),some (.ref l),some (.ref kk),some (.ref f),some (.ref p),some (.ref R),none] _
  generalize upd H3 F (.frz o (.dK ((As sw rules).map (kF g))))=Hf at ef of ⊢
  have nRF:R≠F:=λz=>by rw[z,eF] at e3;cases e3
  refine Bd (Er ((As sw rules).map (kF g))) (λi U H'=>(∃ v7,U=[some (.ref W),some (.ref F),some (.ref l),some (.ref kk),some (.ref f),some (.ref p),some (.ref R),v7])/\(∀ a u,a≠R->Hf a=some u->H' a=some u) /\ ∃ rs:List (Nat×Addr×Addr),rs.map (·.1)=(As sw rules).take i/\H' R=some (.lst (rs.map λr=>.ref r.2.1)) /\ ∀ r∈rs,H' r.2.1=some (.tup [.int ((2 ^ r.1:Nat):Int),.ref r.2.2])/\PlAt t.c_zbu any H' r.2.2 (tr r.1))
   ⟨⟨_,rfl⟩,(λ_ _ _ e=>e),[],rfl,of _ _ nRF e3,λr h=>by cases h⟩ (λ_ _ H' _ q=>q.2.1 _ _ nRF.symm ef) ?_ ?_
  .rintro i x U H4 hx ⟨⟨v7,rfl⟩,O4,rs,er,e4R,h4⟩
   rw[aF] at hx
   obtain⟨n,hn,rfl⟩:=Am hx
   have hm:=ak hn
   obtain⟨nl,bt⟩:=E5 hm
   have l256:=hW.ok.len
   obtain⟨hT,okT⟩:=hF.one n hm
   have hT4:TrAt any H4 (g n) (tr n):=by
    obtain⟨es,ee,⟨_,e⟩,he⟩:=hT
    have ng:g n≠F:=λz=>by
     have e':=hF.at_
     rw[<- z,e] at e'
     injection e' with e'
     injection e' with e'
     have:=congrArg (l9 Prod.fst) e'
     rw[J1,Jy] at this
     have h0:(.inl (n:Int):Key)∈(As sw rules).map λn:Nat=>(.inl (n:Int):Key):=List.mem_map.mpr ⟨n,hm,rfl⟩
     rw[<- this] at h0
     obtain⟨_,_,z⟩:=List.mem_map.mp h0
     cases z
    have kp:∀ a o,a≠F->a≠R->H a=some o->H4 a=some o:=λa o n1 n2 e=>O4 _ _ n2 (of _ _ n1 (S03 _ _ e))
    refine⟨es,ee,⟨trivial,kp _ _ ng (λz=>by rw[z,fR] at e;cases e) e⟩,λx hx=>(he x hx).up λb ys q=>kp _ _ (λz=>by rw[z,hF.at_] at q;cases q) (λz=>by rw[z,fR] at q;cases q) q⟩
   refine⟨.inl ⟨rfl,_,SqL.of e4R⟩,⟨by omega,by omega,by decide⟩,Jx (.inl ⟨_,.inl (n:Int),.inr ⟨o,O4 _ _ nRF.symm ef⟩,rfl,(ae4 ndf hn).symm⟩) ⟨g n,tr n,rfl,hT4,okT,λH5 pl S5 hPl=>⟨(show 2<=sizeLine by decide),λT hT=>?_⟩⟩⟩
   have e1:(1 * 2 ^ ((n:Int)).toNat:Int)=((2 ^ n:Nat):Int):=by rw[jp,aU,Ee]
   rw[e1]
   have S6:=S5.trans (Same.upd (o:=.tup [.int ((2 ^ n:Nat):Int),.ref pl]) hT)
   have e6:upd H5 T (.tup [.int ((2 ^ n:Nat):Int),.ref pl]) T=some (.tup [.int ((2 ^ n:Nat):Int),.ref pl]):=Ab
   have hPl6:=hPl.up (Same.upd (o:=.tup [.int ((2 ^ n:Nat):Int),.ref pl]) hT)
   generalize upd H5 T (.tup [.int ((2 ^ n:Nat):Int),.ref pl])=H6 at S6 e6 hPl6 ⊢
   have lr:rs.length<=256:=by
    have:=congrArg cJ er
    rw[ae,aK] at this
    have hf:=dS (λn=>!Hk sw rules n) (ay (Aj sw).length)
    rw[bj] at hf
    have:rs.length<=(As sw rules).length:=by omega
    unfold As at this
    omega
   have nl6:=NL.upd (m:=(rs.map λr=>V.ref r.2.1)++[.ref T]) (S6 _ _ e4R)
   refine⟨R,_,_,rfl,rfl,S6 _ _ e4R,by rw[ae];omega,⟨_,rfl⟩,λa u na e=>by rw[Ad na];exact S6 _ _ (O4 _ _ na e),rs++[(n,T,pl)],?_,by rw[Ab,ax];rfl,λr hr=>?_⟩
   .rw[ax,er,aL,hn];rfl
   .rcases List.mem_append.mp hr with hr|hr
    .exact⟨nl6.tup _ _ (S6 _ _ (h4 r hr).1),((h4 r hr).2.up S6).nl nl6⟩
    .obtain rfl:r=(n,T,pl):=by simpa using hr
     exact⟨nl6.tup _ _ e6,hPl6.nl nl6⟩
  .rintro U H4 ⟨⟨v7,rfl⟩,O4,rs,er,e4R,h4⟩
   rw[ae,ae,aC] at er
   have e4f:=O4 _ _ nRF.symm ef
   refine .inr ⟨F,o,_,eF,e4f,?_⟩
   have up:∀ a u,a≠R->H3 a=some u->upd H4 F (.dK ((As sw rules).map (kF g))) a=some u:=λa u n2 e=>by
    by_cases ha:a=F
    .subst ha;rw[Ab,<- eF,e]
    .rw[Ad ha];exact O4 _ _ n2 (of _ _ ha e)
   have S04:Same H (upd H4 F (.dK ((As sw rules).map (kF g)))):=λa u e=>up _ _ (λz=>by rw[z,fR] at e;cases e) (S03 _ _ e)
   have nt:∀ a u,(∀ o k,u≠.frz o k)->H4 a=some u->upd H4 F (.dK ((As sw rules).map (kF g))) a=some u:=λa u n e=>by rw[Ad λz=>by rw[z,e4f] at e;cases e;exact n _ _ rfl];exact e
   have S2e:Same H2 (upd H4 F (.dK ((As sw rules).map (kF g)))):=λa u e=>up _ _ (Ai e hR) (S3 _ _ e)
   generalize upd H4 F (.dK ((As sw rules).map (kF g)))=He at up S04 nt S2e ⊢
   obtain⟨hP317,ob,u,hB,b1,b2,b3⟩:=hst
   refine⟨p,R,sw,rules,As sw rules,tr,rs,rfl,⟨S04 _ _ hP317,ob,u,S04 _ _ hB,b1,b2,b3⟩,hP.mono (Kp.same S2e),⟨er,nt _ _ (λ_ _ z=>by cases z) e4R,λr hr=>⟨nt _ _ (λ_ _ z=>by cases z) (h4 r hr).1,?_⟩⟩,λn hn=>⟨(hF.one n hn).2,(E5 hn).2,aJ (E5 hn).1 hW.ok.len⟩,asc,hF.few,λH5 b O5 hB5=>k H5 b (λa u na e=>O5 _ _ na (S04 _ _ e)) hB5⟩
   obtain⟨dx,d,⟨_,o1⟩,es,ee,⟨_,o2⟩,z⟩:=(h4 r hr).2
   exact⟨dx,d,⟨trivial,nt _ _ (λ_ _ z=>by cases z) o1⟩,es,ee,⟨trivial,nt _ _ (λ_ _ z=>by cases z) o2⟩,λx hx=>(z x hx).up λb ys q=>nt _ _ (λ_ _ z=>by cases z) q⟩
theorem _root_.Pn.PanAt.self {C p dx d l n s k b:Addr} {ok:Addr->Prop} {H:Hp} {sw:Sw} {rules:List Sw} (h:PanAt C ok H p sw rules dx d l n s k b):SelfAt C ok H p l s:=by
 refine⟨dx,_,h.ins,rfl,rfl,λm hm=>?_⟩
 simp only[aH,c_,or_false] at hm
 rcases hm with rfl|rfl|rfl|rfl|rfl|rfl <;> rfl
theorem BookAt.up {b:Addr} {H H':Hp} {sw:Sw} {rules:List Sw} {gs:List Gp} (h:BookAt t H b sw rules gs) (S:Same H H'):BookAt t H' b sw rules gs:=
 let ⟨dx,p,l,e,hp,es,ee,eD,he⟩:=h
 ⟨dx,p,l,S _ _ e,hp.mono (Kp.same S),es,ee,S _ _ eD,λe h=>⟨S _ _ (he e h).1,(he e h).2.1.up S,(he e h).2.2⟩⟩
theorem Ld {es:List ((Str×Rc)×Addr)} {T:Tr} (et:es.map (·.1)=T) (o:Cl T) (n:Str):(B0 (es.map kT) (.inr n)=none/\stT T n=none) \/ ∃ e∈es,B0 (es.map kT) (.inr n)=some (.ref e.2)/\stT T n=some (rcT e.1.2):=by
 have nde:(es.map (·.1.1)).Nodup:=by have:=o.1;rw[<- et,aF] at this;exact this
 have en:es.map (·.1.1)=T.map (·.1):=by rw[<- et,aF];rfl
 by_cases h:n∈T.map (·.1)
 .obtain⟨x,ex,hx⟩:=T7 o h
  rw[<- et] at hx
  obtain⟨e,he,ee⟩:=List.mem_map.mp hx
  obtain⟨j,hj⟩:=List.mem_iff_getElem?.mp he
  have hv:=Ot nde hj
  rw[ee] at hv
  exact .inr ⟨e,he,hv,by unfold stT;rw[ex,ee];rfl⟩
 .exact .inl ⟨ae5 (by rw[en];exact h),by unfold stT;rw[Ow h];rfl⟩
theorem bb1 (Z:An K t):OkD K Zx (Ay K t) bl (t.f 34) (t.d 34) (Vf K t):=by
 refine okD (n:=40) (t:=bv5 K t) rfl (by decide +kernel) (by kernel_rfl) (λvs H Q E h=>?_) (λvs H Q E h=>?_)
 .obtain⟨i,rfl,_⟩:=h;rfl
 .obtain⟨i,rfl,k⟩:=h
  exact⟨rfl,rfl,k⟩
theorem bo9 (Z:An K t):OkD K D_zj (Ay K t) bl t.f_zj t.d_zj (a30 K t):=by
 refine okD (n:=40) (t:=b20 K t) rfl (by decide +kernel) (by kernel_rfl) (λvs H Q E h=>?_) (λvs H Q E h=>?_)
 .obtain⟨H0,a,x,y,rfl,_⟩:=h;rfl
 .obtain⟨H0,a,x,y,rfl,ha,rfl,k⟩:=h
  refine .inr ⟨_,Z.ec,Z.n1,.inl ⟨Ab,λdx hdx ne=>.inr ⟨_,Z.ec,Z.n2,.inr ⟨dx,[("part", x)],ne,Ab,by rw[Ad ne,Ab],(show 1<1000 by decide),?_⟩⟩⟩⟩
  have hd:H0 dx=none:=by rw[Ad ne] at hdx;exact hdx
  refine k _ dx (λb o h=>?_) ne (by rw[Ad (ce ne),Ab]) Ab
  have b1:b≠dx:=λz=>by rw[z,hd] at h;cases h
  have b2:b≠a:=λz=>by rw[z,ha] at h;cases h
  rw[Ad b1,Ad b2,Ad b1,Ad b2]
  exact h
theorem bq0 (Z:An K t):OkD K D_zu (Ay K t) bl t.f_zu t.d_zu (a31 K t):=by
 refine okD (n:=40) (t:=b31 K t) rfl (by decide +kernel) (by kernel_rfl) (λvs H Q E h=>?_) (λvs H Q E h=>?_)
 .obtain⟨H0,a,x,y,z,rfl,_⟩:=h;rfl
 .obtain⟨H0,a,x,y,z,rfl,ha,rfl,k⟩:=h
  refine .inr ⟨_,Z.eu,Z.u1,.inl ⟨Ab,λdx hdx ne=>.inr ⟨_,Z.eu,Z.u2,.inr ⟨dx,[("part", x)],ne,Ab,by rw[Ad ne,Ab],(show 1<1000 by decide),.inr ⟨_,Z.eu,Z.u3,.inr ⟨dx,[("part", x),("one", y)],ne,by rw[Ad (ce ne),Ab],Ab,(show 2<1000 by decide),?_⟩⟩⟩⟩⟩⟩
  have hd:H0 dx=none:=by rw[Ad ne] at hdx;exact hdx
  refine k _ dx (λb o h=>?_) ne (by rw[Ad (ce ne),Ad (ce ne),Ab]) Ab
  have b1:b≠dx:=λz=>by rw[z,hd] at h;cases h
  have b2:b≠a:=λz=>by rw[z,ha] at h;cases h
  rw[Ad b1,Ad b1,Ad b2,Ad b1,Ad b2]
  exact h
theorem a98 (Z:An K t):OkD K V1 (Ay K t) bl (t.m_zbu 1) (t.e_zbu 1) (U4 K t):=by
 refine okD (n:=40) (t:=bu3 K t) rfl (by decide +kernel) (by kernel_rfl) (λvs H Q E h=>?_) (λvs H Q E h=>?_)
 .obtain⟨p,T,n,rfl,_⟩:=h;rfl
 .obtain⟨p,T,n,rfl,⟨dx,d,⟨_,e⟩,es,et,⟨_,ed⟩,he⟩,o,k⟩:=h
  refine fJ ⟨_,_,_,.ref d,e,Z.pc,Z.pr,rfl,.inr ⟨_,.inl ⟨_,.inr n,.inl ed,rfl,rfl⟩,?_⟩⟩
  rcases Ld et o n with ⟨a,b⟩|⟨x,_,a,b⟩
  .rw[a];rw[b] at k;exact k
  .rw[a];rw[b] at k;exact k
theorem bp9 (Z:An K t):OkD K aq9 (Ay K t) bl (t.m_zbu 4) (t.e_zbu 4) (an4 K t):=by
 refine okD (n:=40) (t:=b30 K t) rfl (by decide +kernel) (by kernel_rfl) (λvs H Q E h=>?_) (λvs H Q E h=>?_)
 .obtain⟨p,T,n,rfl,_⟩:=h;rfl
 .obtain⟨p,T,n,rfl,⟨dx,d,⟨_,e⟩,es,et,⟨_,ed⟩,he⟩,o,c,k⟩:=h
  refine fJ ⟨_,_,_,.ref d,e,Z.pc,Z.pr,rfl,.inr ⟨_,.inl ⟨_,.inr n,.inl ed,rfl,rfl⟩,?_⟩⟩
  rcases Ld et o n with ⟨a,b⟩|⟨x,hx,a,b⟩
  .rw[b] at c;cases c
  .rw[a]
   rw[b] at k
   exact fJ ⟨_,_,_,.ref d,e,Z.pc,Z.pr,rfl,_,.inl ⟨_,.inr n,.inl ed,rfl,a.symm⟩,k _ ⟨⟨_,rfl⟩,(he x hx).tk⟩⟩
theorem StAt.up {H H':Hp} {s:Option TK} {v:V} (h:StAt H s v) (S:Same H H'):StAt H' s v:=by
 cases s with
 |none=>exact h
 |some x=>exact⟨h.1,h.2.up (NL.same S).tup⟩
theorem Vn {T:Tr} (o:Cl T) {n:Str} {x:TK} (h:stT T n=some x):Ap x<=3:=by
 unfold stT at h
 obtain⟨r,hr,rfl⟩:=Option.map_eq_some_iff.mp h
 exact W4 (o.2.2 _ (J3 hr))
theorem Vm {neg:Bool} {H:Hp} {s:Option TK} {z':TK} {x y:V} {Q:VK} (hx:StAt H s x) (hy:StAt H (some z') y) (d:∀ z,s=some z->Ap z<=3) (q:Q (.bl (if neg then !decide (s=some z') else decide (s=some z'))) H):Bx K neg x y H Q:=by
 obtain⟨⟨b,rfl⟩,h2⟩:=hy
 cases s with
 |none=>
  have hx:x=.non:=hx
  subst hx
  refine⟨.at_ .non,tkD z',by unfold At;exact⟨rfl,rfl⟩,Vq _ h2,by unfold dep;omega,?_⟩
  have:deq (.at_ .non) (tkD z')=false:=by cases z' with|at_ k=>cases k <;> rfl|tup l=>rfl
  rw[this]
  exact q
 |some z=>
  obtain⟨⟨a,rfl⟩,h1⟩:=hx
  have dz:=d z rfl
  refine .inr (.inl ⟨tkD z,tkD z',Vq _ h1,Vq _ h2,by rw[a04];omega,?_⟩)
  rw[bi9]
  have:decide (some z=some z')=decide (z=z'):=decide_eq_decide.mpr ⟨λe=>aD e,λe=>by rw[e]⟩
  rw[this] at q
  exact q
theorem Hr {α:Type} {l:List α} {m:Nat} {x:α} {p:α->Bool} (h:l[m]? = some x):(l.take (m+1)).filter p=(l.take m).filter p++(if p x=true then [x] else []):=by
 rw[aL,h,cK,iM]
 congr 1
 cases e:p x <;> simp[e]
theorem Kh {α:Type} (l:List α) (m:Nat) (p:α->Bool):((l.take m).filter p).length<=l.length:=by
 have:=dS p (l.take m)
 rw[aK] at this
 omega
theorem Ni (l:List Nat):(l.map λn:Nat=>V.int (n:Int))=(l.map λn:Nat=>(n:Int)).map V.int:=by rw[aF];rfl
theorem Xa {C l:Addr} {H:Hp} {rs:List ((Nat×Tr)×Addr×Addr)} {rest:St} {tc:DT} {E:EK} {R:VK} (p:Tr->Bool) (hR:aa3 C H l rs) (few:rs.length<=4)
  (ht:∀ r∈rs,∀ (H1:Hp) (Q:Bool->Hp->Prop),Same H H1->Q (p r.1.2) H1->tc (some (.int (r.1.1:Int))::some (.ref r.2.1)::rest) H1 Q E)
  (k:∀ H',Same H H'->R (.int (Dk ((rs.filter λr=>p r.1.2).map (·.1.1)):Nat)) H') :
  ∀ D,H D=none->Ef (Itl K l) (gdT K 2 [gdN 0,gdN 1]) tc (Aa 0) D (λH'=>spE (Gb K t) [] [.ref D] H' R E) (none::none::rest) (upd H D (.lst [])) E:=by
 intro D hD
 have big:(1000:Nat)<sizeLine:=by decide
 refine Cr (A5 (rs.map λr=>V.ref r.2.2)) (λi U H'=>(∃ v0 v1,U=v0::v1::rest)/\Same H H'/\H' D=some (nO (((rs.take i).filter λr=>p r.1.2).map (·.1.1)))) ⟨⟨_,_,rfl⟩,Same.upd hD,Ab⟩ (λ_ _ H' _ q=>q.2.1.seqL (SqL.of hR.1)) ?_ ?_
 .rintro i x U H1 hx ⟨⟨v0,v1,rfl⟩,S1,eD⟩
  obtain⟨r,hi,rfl⟩:=Am hx
  have hm:=ak hi
  have fs:=Hr (p:=λr:(Nat×Tr)×Addr×Addr=>p r.1.2) hi
  have fl:=Kh rs i λr:(Nat×Tr)×Addr×Addr=>p r.1.2
  refine⟨_,.inl (SqT.of (S1 _ _ (hR.2 r hm).1)),rfl,ht r hm H1 _ S1 ?_⟩
  cases c:p r.1.2 with
  |true=>
   rw[c,if_pos rfl] at fs
   exact⟨_,eD,by rw[ae,ae];omega,⟨_,_,rfl⟩,S1.set hD,by rw[Ab,fs,nO,ax,ax];rfl⟩
  |false=>
   rw[c,if_neg (by decide),cz] at fs
   exact⟨⟨_,_,rfl⟩,S1,by rw[fs];exact eD⟩
 .rintro U H1 ⟨_,S1,eD⟩
  rw[ae,aC] at eD
  have:=k H1 S1
  rw[<- Ge] at this
  exact⟨D,_,rfl,by rw[<- Ni];exact SqL.of eD,this⟩
theorem Ry {C l:Addr} {H:Hp} {es:List ((Gp×Tr)×Addr×Addr)} {rest:St} {tc:DT} {te:DE} {E:EK} {R:Hp->Addr->Prop} (p:Gp×Tr->Bool) (f:Gp×Tr->Nat) (el:H l=some (.lst (es.map λe=>.ref e.2.2))) (few:es.length<=4)
  (he:∀ e∈es,H e.2.2=some (.tup [.int (e.1.1.2.2:Int),.ref e.2.1])/\PlAt C any H e.2.1 e.1.2/\Cl e.1.2/\vkT e.1.2=e.1.1.1)
  (ht:∀ e∈es,∀ (H1:Hp) (Q:Bool->Hp->Prop),Same H H1->Q (p e.1) H1->tc (some (.int (e.1.1.2.2:Int))::some (.ref e.2.1)::rest) H1 Q E)
  (hv:∀ e∈es,∀ (H1:Hp) (Q:VK),Same H H1->(∀ T,H1 T=none->Q (.ref T) (upd H1 T (.tup [.int ((f e.1:Nat):Int),.ref e.2.1])))->te (some (.int (e.1.1.2.2:Int))::some (.ref e.2.1)::rest) H1 Q E)
  (k:∀ D H' rs,Same H H'->H D=none->aa3 C H' D rs->rs.length<=4->(∀ r∈rs,∃ e∈es,p e.1=true/\r.1.1=f e.1/\r.1.2=e.1.2)->(∀ e∈es,p e.1=true -> ∃ r∈rs,r.1.1=f e.1/\r.1.2=e.1.2)->R H' D) :
  ∀ D,H D=none->Ef (Itl K l) (gdT K 2 [gdN 0,gdN 1]) tc te D (λH'=>R H' D) (none::none::rest) (upd H D (.lst [])) E:=by
 intro D hD
 have big:(1000:Nat)<sizeLine:=by decide
 refine Cr (A5 (es.map λe=>V.ref e.2.2)) (λi U H'=>(∃ v0 v1,U=v0::v1::rest)/\Same H H' /\ ∃ rs:List ((Nat×Tr)×Addr×Addr),aa3 C H' D rs/\rs.length<=i/\(∀ r∈rs,∃ e∈es,p e.1=true/\r.1.1=f e.1/\r.1.2=e.1.2) /\ ∀ e∈es.take i,p e.1=true -> ∃ r∈rs,r.1.1=f e.1/\r.1.2=e.1.2)
  ⟨⟨_,_,rfl⟩,Same.upd hD,[],⟨Ab,λr h=>by cases h⟩,ai _,(λr h=>by cases h),λe h=>by cases h⟩ (λ_ _ H' _ q=>q.2.1.seqL (SqL.of el)) ?_ ?_
 .rintro i x U H1 hx ⟨⟨v0,v1,rfl⟩,S1,rs,⟨eD,hr⟩,lr,h1,h2⟩
  obtain⟨e,hi,rfl⟩:=Am hx
  have hm:=ak hi
  have il:=Al hi
  obtain⟨e1,hP,o1,_⟩:=he e hm
  have mt:∀ x,x∈es.take (i+1) ↔ x∈es.take i\/x=e:=λx=>by rw[aL,hi];simp
  refine⟨_,.inl (SqT.of (S1 _ _ e1)),rfl,?_⟩
  refine ht e hm H1 _ S1 ?_
  cases c:p e.1 with
  |false=>exact⟨⟨_,_,rfl⟩,S1,rs,⟨eD,hr⟩,gR lr,h1,λx hx hp=>((mt x).mp hx).elim (λz=>h2 x z hp) λz=>by rw[z,c] at hp;cases hp⟩
  |true=>
   refine Q6 (hv e hm H1 _ S1 λT hT=>?_)
   have ST:=Same.upd (o:=.tup [.int ((f e.1:Nat):Int),.ref e.2.1]) hT
   have eT:upd H1 T (.tup [.int ((f e.1:Nat):Int),.ref e.2.1]) T=some (.tup [.int ((f e.1:Nat):Int),.ref e.2.1]):=Ab
   generalize upd H1 T (.tup [.int ((f e.1:Nat):Int),.ref e.2.1])=H2 at ST eT ⊢
   have nl:=NL.upd (m:=(rs.map λr=>V.ref r.2.2)++[.ref T]) (ST _ _ eD)
   refine⟨_,ST _ _ eD,by rw[ae];omega,⟨_,_,rfl⟩,(S1.trans ST).set hD,rs++[((f e.1,e.1.2),e.2.1,T)],⟨by rw[Ab,ax];rfl,λr h=>?_⟩,by rw[aW];exact cN lr,λr h=>?_,λx hx hp=>?_⟩
   .rcases List.mem_append.mp h with h|h
    .exact⟨nl.tup _ _ (ST _ _ (hr r h).1),((hr r h).2.1.up ST).nl nl,(hr r h).2.2⟩
    .obtain rfl:r=((f e.1,e.1.2),e.2.1,T):=by simpa using h
     exact⟨nl.tup _ _ eT,(hP.up (S1.trans ST)).nl nl,o1⟩
   .rcases List.mem_append.mp h with h|h
    .exact h1 r h
    .obtain rfl:r=((f e.1,e.1.2),e.2.1,T):=by simpa using h
     exact⟨e,hm,c,rfl,rfl⟩
   .rcases (mt x).mp hx with z|rfl
    .obtain⟨r,hr2,q⟩:=h2 x z hp
     exact⟨r,bW _ hr2,q⟩
    .exact⟨_,aP _ aT,rfl,rfl⟩
 .rintro U H1 ⟨_,S1,rs,hR,lr,h1,h2⟩
  rw[ae] at lr h2
  rw[aC] at h2
  exact k D H1 rs S1 hD hR (by omega) h1 h2
theorem bp2 (Z:An K t):OkD K aq5 (Ay K t) bl (t.m_zbv 2) (t.e_zbv 2) (am8 K t):=by
 refine okD (n:=40) (t:=b23 K t) rfl (by decide +kernel) (by kernel_rfl) (λvs H Q E h=>?_) (λvs H Q E h=>?_)
 .obtain⟨b,M,sw,rules,gs,rfl,_⟩:=h;rfl
 .obtain⟨b,M,sw,rules,gs,rfl,⟨dx,p,l,eb,hp,es,ee,el,he⟩,few,k⟩:=h
  have le:es.length=gs.length:=by rw[<- ee,ae]
  refine fJ ⟨_,_,_,_,eb,Z.bc,Z.bk,rfl,(.inl ⟨⟨_,SqL.of el⟩,?_⟩)⟩
  refine Ry (rest:=[some (.int (M:Int))]) (λx=>decide (x.1.2.2 &&& M≠0)) (λx=>x.1.2.2 &&& M) el (by omega) he (λe _ H1 Q _ q=>?_) (λe _ H1 Q _ q=>?_) λD H1 rs S1 _ hR lr h1 h2=>k H1 D rs S1 hR lr (λr hr=>?_) (λg hg c=>?_)
  .have:decide (e.1.1.2.2 &&& M≠0) = !decide (b9 (e.1.1.2.2:Int) (M:Int)=0):=by rw[Cq,<- decide_not];exact decide_eq_decide.mpr (by omega)
   rw[this] at q
   exact q
  .refine⟨(show 2<=sizeLine by decide),λT hT=>?_⟩
   have:=q T hT
   rw[<- Cq] at this
   exact this
  .obtain⟨e,h,_,a,b⟩:=h1 r hr
   exact⟨e.1.1,by rw[<- ee];exact List.mem_map.mpr ⟨e,h,rfl⟩,a,by rw[b];exact (he e h).2.2.2⟩
  .rw[<- ee] at hg
   obtain⟨e,h,rfl⟩:=List.mem_map.mp hg
   obtain⟨r,hr,a,b⟩:=h2 e h (decide_eq_true c)
   exact⟨r,hr,a,by rw[b];exact (he e h).2.2.2⟩
theorem bo8 (Z:An K t):OkD K aq3 (Ay K t) bl (t.m_zbv 3) (t.e_zbv 3) (am5 K t):=by
 refine okD (n:=40) (t:=b19 K t) rfl (by decide +kernel) (by kernel_rfl) (λvs H Q E h=>?_) (λvs H Q E h=>?_)
 .obtain⟨b,n,sw,rules,gs,rfl,_⟩:=h;rfl
 .obtain⟨b,n,sw,rules,gs,rfl,⟨dx,p,l,eb,hp,es,ee,el,he⟩,few,⟨g0,hg0,hk0⟩,k⟩:=h
  have le:es.length=gs.length:=by rw[<- ee,ae]
  refine fJ ⟨_,_,_,_,eb,Z.bc,Z.bk,rfl,(.inl ⟨⟨_,SqL.of el⟩,?_⟩)⟩
  refine Ry (rest:=[some (.str n)]) (λx=>(stT x.2 n).isSome) (λx=>x.1.2.2) el (by omega) he (λe h H1 Q S1 q=>?_) (λe _ H1 Q _ q=>⟨(show 2<=sizeLine by decide),q⟩) λD H1 rs S1 hD hR lr h1 h2=>?_
  .have hP:=(he e h).2.1.up S1
   obtain⟨dx1,d1,⟨_,ep1⟩,_⟩:=id hP
   exact⟨e.2.1,dx1,_,⟨t.c_zbu,Wl K t⟩,rfl,.head _,ep1,rfl,⟨ai _,ai _⟩,⟨e.2.1,e.1.2,n,rfl,hP,(he e h).2.2.1,q⟩⟩
  .have hk:∀ e∈es,ad9 e.1.1.1 n ↔ (stT e.1.2 n).isSome=true:=λe h=>by rw[<- (he e h).2.2.2];exact Op (he e h).2.2.1 n
   have h2':∀ g∈gs,ad9 g.1 n -> ∃ r∈rs,r.1.1=g.2.2/\vkT r.1.2=g.1:=λg hg c=>by
    rw[<- ee] at hg
    obtain⟨e,h,rfl⟩:=List.mem_map.mp hg
    obtain⟨r,hr,a,b⟩:=h2 e h ((hk e h).mp c)
    exact⟨r,hr,a,by rw[b];exact (he e h).2.2.2⟩
   obtain⟨r0,hr0,_⟩:=h2' g0 hg0 hk0
   refine⟨(show 0<=sizeLine by decide),λq hq=>.inr (.inr (.inl (.inr (.inr ⟨_,_,SqL.of ((Same.upd hq) _ _ hR.1),SqL.of Ab,?_,?_⟩))))⟩
   .rw[ae]
    intro z
    have:=jN hr0
    rw[z] at this
    cases this
   have Sq:=Same.upd (o:=.lst []) hq
   refine k _ D rs (S1.trans Sq) ⟨Sq _ _ hR.1,λr h=>⟨Sq _ _ (hR.2 r h).1,(hR.2 r h).2.1.up Sq,(hR.2 r h).2.2⟩⟩ lr (λr hr=>?_) h2'
   obtain⟨e,h,c,a,b⟩:=h1 r hr
   exact⟨e.1.1,by rw[<- ee];exact List.mem_map.mpr ⟨e,h,rfl⟩,a,by rw[b];exact (he e h).2.2.2,by rw[b];exact c⟩
theorem bp7 (Z:An K t):OkD K aq7 (Ay K t) bl (t.m_zbv 1) (t.e_zbv 1) (an2 K t):=by
 refine okD (n:=40) (t:=b28 K t) rfl (by decide +kernel) (by kernel_rfl) (λvs H Q E h=>?_) (λvs H Q E h=>?_)
 .obtain⟨b,n,sw,rules,gs,rfl,_⟩:=h;rfl
 .obtain⟨b,n,sw,rules,gs,rfl,⟨dx,p,l,eb,hp,es,ee,el,he⟩,hn,⟨g0,hg0,b0⟩,k⟩:=h
  obtain⟨dxp,d,l1,n1,s1,k1,br1,h1⟩:=id hp
  refine⟨(n:Int),rfl,?_⟩
  refine fJ ⟨_,_,_,_,eb,Z.bc,Z.bp,rfl,⟨p,dxp,_,⟨t.c_zbt,ae1 K t⟩,rfl,.head _,h1.ins.2,rfl,⟨ai _,ai _⟩,⟨p,l1,s1,sw,rfl,h1.self,h1.tps,?_⟩⟩⟩
  refine Ir (decide_eq_true (show (n:Int)<((Aj sw).length:Int) by omega)) ?_
  refine fJ ⟨_,_,_,_,eb,Z.bc,Z.bk,rfl,(.inl ⟨⟨_,SqL.of el⟩,?_⟩)⟩
  refine Bd (A5 (es.map λe=>V.ref e.2.2)) (λi U H'=>(∃ v2,U=[some (.ref b),some (.int (n:Int)),v2])/\H'=H /\ ∀ e∈es.take i,e.1.1.2.2.testBit n=false) ⟨⟨_,rfl⟩,rfl,λe h=>by cases h⟩ (λ_ _ H' _ q=>q.2.1▸SqL.of el) ?_ ?_
  .rintro i x U H1 hx ⟨⟨v2,rfl⟩,rfl,no⟩
   obtain⟨e,hi,rfl⟩:=Am hx
   have hm:=ak hi
   obtain⟨e1,hP,o1,v1⟩:=he e hm
   refine⟨_,_,.inr (SqT.of e1),rfl,e.1.1.2.2,n,rfl,?_⟩
   cases c:e.1.1.2.2.testBit n with
   |true=>exact k e.2.2 _ e.2.1 e.1.2 e1 hP o1 ⟨e.1.1,by rw[<- ee];exact List.mem_map.mpr ⟨e,hm,rfl⟩,c,v1⟩
   |false=>
    refine⟨⟨_,rfl⟩,rfl,λx hx=>?_⟩
    rw[aL,hi] at hx
    rcases List.mem_append.mp hx with hx|hx
    .exact no x hx
    .obtain rfl:x=e:=by simpa using hx
     exact c
  .rintro U H1 ⟨⟨v2,rfl⟩,rfl,no⟩
   rw[ae,aC] at no
   rw[<- ee] at hg0
   obtain⟨e,h,rfl⟩:=List.mem_map.mp hg0
   rw[no e h] at b0
   cases b0
theorem Rh {a b:Nat} (h:∀ j,a.testBit j=true ↔ b.testBit j=true):a=b:=dn λj=>by rw[bX];exact h j
theorem bp4 (Z:An K t):OkD K a44 (Ay K t) bl (t.f 35) (t.d 35) (an0 K t):=by
 refine okD (n:=40) (t:=b25 K t) rfl (by decide +kernel) (by kernel_rfl) (λvs H Q E h=>?_) (λvs H Q E h=>?_)
 .obtain⟨b,n,M,sw,rules,gs,ns,tr,rfl,_⟩:=h;rfl
 .obtain⟨b,n,M,sw,rules,gs,ns,tr,rfl,hb,hB,k⟩:=h
  obtain⟨dxb,_,_,eb,_⟩:=id hb
  refine⟨b,dxb,_,⟨t.c_zbv,bm6 K t⟩,rfl,.head _,eb,rfl,⟨ai _,ai _⟩,⟨b,M,sw,rules,gs,rfl,hb,hB.few,λH1 l rs S1 hR lr r1 r2=>?_⟩⟩
  refine .inl ⟨⟨_,SqL.of hR.1⟩,?_⟩
  refine Xa (rest:=[some (.str n)]) (λT=>(stT T n).isSome) hR lr (λr h H2 Q2 S2 q=>?_) λH2 S2=>?_
  .have hP:=(hR.2 r h).2.1.up S2
   obtain⟨dx1,d1,⟨_,ep1⟩,_⟩:=id hP
   exact⟨r.2.1,dx1,_,⟨t.c_zbu,Wl K t⟩,rfl,.head _,ep1,rfl,⟨ai _,ai _⟩,⟨r.2.1,r.1.2,n,rfl,hP,(hR.2 r h).2.2,q⟩⟩
  .have e:Dk ((rs.filter λr=>(stT r.1.2 n).isSome).map (·.1.1))=Dj (hvF ns tr M n):=Rh λj=>by
    rw[Ep,dO,C1,decide_eq_true_iff]
    unfold hvF
    rw[cf,aE]
    constructor
    .rintro⟨m,hm,qb⟩
     obtain⟨r,hr,rfl⟩:=List.mem_map.mp hm
     obtain⟨hr1,hr2⟩:=List.mem_filter.mp hr
     obtain⟨g,hg,a1,a2⟩:=r1 r hr1
     rw[a1,cA,aE] at qb
     obtain⟨hn,en⟩:=(hB.bits hg j).mp qb.1
     exact⟨hn,qb.2,by rw[<- Ny (hR.2 r hr1).2.2 (hB.ok j hn).1 (by rw[a2,en])];exact hr2⟩
    .rintro⟨hn,bM,c⟩
     obtain⟨g,hg,e,bg⟩:=hB.get hn
     obtain⟨r,hr,a1,a2⟩:=r2 g hg (and_ne.mpr ⟨j,bg,bM⟩)
     refine⟨_,List.mem_map.mpr ⟨r,List.mem_filter.mpr ⟨hr,?_⟩,rfl⟩,by rw[a1,cA,bg,bM];rfl⟩
     rw[Ny (hR.2 r hr).2.2 (hB.ok j hn).1 (by rw[a2,e])]
     exact c
   rw[e]
   exact k H2 (S1.trans S2)
theorem bq4 (Z:An K t):OkD K ar0 (Ay K t) bl (t.m_zbv 0) (t.e_zbv 0) (an8 K t):=by
 refine okD (n:=40) (t:=b35 K t) rfl (by decide +kernel) (by kernel_rfl) (λvs H Q E h=>?_) (λvs H Q E h=>?_)
 .obtain⟨b,n,m,sw,rules,gs,ns,tr,rfl,_⟩:=h;rfl
 .obtain⟨b,n,m,sw,rules,gs,ns,tr,rfl,hb,hB,hm,hl,c,k⟩:=h
  obtain⟨dxb,_,_,eb,_⟩:=id hb
  obtain⟨g0,hg0,eg0,bg0⟩:=hB.get hm
  have om:=(hB.ok m hm).1
  refine⟨b,dxb,_,⟨t.c_zbv,bm8 K t⟩,rfl,.head _,eb,rfl,⟨ai _,ai _⟩,⟨b,m,sw,rules,gs,rfl,hb,hl,⟨g0,hg0,bg0⟩,λa u q T ea hP oT ⟨g1,hg1,bg1,ev1⟩=>?_⟩⟩
  have sT:stT T n=stT (tr m) n:=Ny oT om (by rw[ev1,((hB.bits hg1 _).mp bg1).2]) n
  obtain⟨x,ex⟩:=Option.isSome_iff_exists.mp c
  have eT:stT T n=some x:=sT.trans ex
  obtain⟨dx1,d1,⟨_,ep1⟩,_⟩:=id hP
  refine⟨_,_,.inr (SqT.of ea),rfl,?_⟩
  refine⟨q,dx1,_,⟨t.c_zbu,Wl K t⟩,rfl,.head _,ep1,rfl,⟨ai _,ai _⟩,⟨q,T,n,rfl,hP,oT,?_⟩⟩
  rw[eT]
  refine⟨q,dx1,_,⟨t.c_zbu,a73 K t⟩,rfl,.head _,ep1,rfl,⟨ai _,ai _⟩,⟨q,T,n,rfl,hP,oT,by rw[eT];rfl,λv hv=>?_⟩⟩
  rw[eT] at hv
  refine⟨b,dxb,_,⟨t.c_zbv,bm5 K t⟩,rfl,.head _,eb,rfl,⟨ai _,ai _⟩,⟨b,n,sw,rules,gs,rfl,hb,hB.few,⟨g0,hg0,by rw[eg0];exact (Op om n).mpr c⟩,λH1 l rs S1 hR lr r1 r2=>?_⟩⟩
  refine .inl ⟨⟨_,SqL.of hR.1⟩,?_⟩
  refine Xa (rest:=[some (.str n),some v]) (λT=>decide (stT T n=some x)) hR lr (λr h H2 Q2 S2 q=>?_) λH2 S2=>?_
  .have hP:=(hR.2 r h).2.1.up S2
   obtain⟨dx2,d2,⟨_,ep2⟩,_⟩:=id hP
   obtain⟨g,_,_,_,cs⟩:=r1 r h
   exact⟨r.2.1,dx2,_,⟨t.c_zbu,a73 K t⟩,rfl,.head _,ep2,rfl,⟨ai _,ai _⟩,⟨r.2.1,r.1.2,n,rfl,hP,(hR.2 r h).2.2,cs,λv2 hv2=>Vm hv2 (hv.up (S1.trans S2)) (λz e=>Vn (hR.2 r h).2.2 e) q⟩⟩
  .have e:Dk ((rs.filter λr=>decide (stT r.1.2 n=some x)).map (·.1.1))=Dj (alF ns tr n m):=Rh λj=>by
    rw[Ep,dO,C1,decide_eq_true_iff]
    unfold alF
    rw[cf,decide_eq_true_iff,ex]
    constructor
    .rintro⟨y,hy,qb⟩
     obtain⟨r,hr,rfl⟩:=List.mem_map.mp hy
     obtain⟨hr1,hr2⟩:=List.mem_filter.mp hr
     obtain⟨g,hg,a1,a2,_⟩:=r1 r hr1
     rw[a1] at qb
     obtain⟨hn,en⟩:=(hB.bits hg j).mp qb
     exact⟨hn,by rw[<- Ny (hR.2 r hr1).2.2 (hB.ok j hn).1 (by rw[a2,en])];exact of_decide_eq_true hr2⟩
    .rintro⟨hn,cj⟩
     obtain⟨g,hg,e,bg⟩:=hB.get hn
     obtain⟨r,hr,a1,a2⟩:=r2 g hg (by rw[e];exact (Op (hB.ok j hn).1 n).mpr (by rw[cj];rfl))
     refine⟨_,List.mem_map.mpr ⟨r,List.mem_filter.mpr ⟨hr,decide_eq_true ?_⟩,rfl⟩,by rw[a1];exact bg⟩
     rw[Ny (hR.2 r hr).2.2 (hB.ok j hn).1 (by rw[a2,e])]
     exact cj
   rw[e]
   exact k H2 (S1.trans S2)
theorem ay3 (Z:An K t) {H:Hp} {x y:V} {E:XK} {EE:EK} (B:Bad t.c_zbr [("part", x),("choice", y)] H E):mkX t.c_zbr (some (i_zj K t)) 1 [x,y] H (Pp K λa H'=>E (.ref a) none H') EE:=by
 intro a ha
 exact⟨H,a,x,y,rfl,ha,rfl,λH' dx S ne e1 e2=>⟨rfl,t.c_zbr,some dx,e1,Z.ec,B _ a (S.set ha) ⟨dx,ne,Ab,by rw[Ad ne];exact e2⟩⟩⟩
theorem ay4 (Z:An K t) {H:Hp} {x y z:V} {E:XK} {EE:EK} (B:Bad t.c_zbs [("part", x),("one", y),("other", z)] H E):mkX t.c_zbs (some (i_zu K t)) 0 [x,y,z] H (Pp K λa H'=>E (.ref a) none H') EE:=by
 intro a ha
 exact⟨H,a,x,y,z,rfl,ha,rfl,λH' dx S ne e1 e2=>⟨rfl,t.c_zbs,some dx,e1,Z.eu,B _ a (S.set ha) ⟨dx,ne,Ab,by rw[Ad ne];exact e2⟩⟩⟩
theorem Bad.up {C:Addr} {fs:List (Str×V)} {H H':Hp} {E:XK} (B:Bad C fs H E) (S:Same H H'):Bad C fs H' E:=λH2 a S2 f=>B H2 a (S.trans S2) f
theorem a53 (a b:Nat):b9 (a:Int) (bI (b:Int))=((a - (a &&& b):Nat):Int):=by
 rw[jQ (by omega) (by unfold bI;omega),show bI (bI (b:Int))=(b:Int) by unfold bI;omega,aU,aU]
 have:=Nat.and_le_left (n:=a) (m:=b)
 omega
theorem Ss (a b j:Nat):(a - (a &&& b)).testBit j=(a.testBit j && !b.testBit j):=by
 rw[Xi,ix,cA]
 cases a.testBit j <;> cases b.testBit j <;> rfl
theorem a95 (Z:An K t):OkX K Zm (Ay K t) bl (t.f 36) (t.d 36) (U2 K t):=by
 refine okX (n:=40) (t:=bu0 K t) rfl (by decide +kernel) (by kernel_rfl) (λvs H Q E h=>?_) (λvs H Q E h=>?_)
 .obtain⟨b,n,M,sw,rules,gs,ns,tr,rfl,_⟩:=h;rfl
 .obtain⟨b,n,M,sw,rules,gs,ns,tr,rfl,hb,hB,hl,k⟩:=h
  refine⟨b,n,M,sw,rules,gs,ns,tr,rfl,hb,hB,λH1 S1=>?_⟩
  have hb1:=hb.up S1
  have sub:(hvF ns tr M n).Sublist ns:=iu
  have hs:∀ j∈hvF ns tr M n,(stT (tr j) n).isSome=true:=λj hj=>(aE _ _▸(List.mem_filter.mp hj).2).2
  unfold tdF at k
  cases hv:hvF ns tr M n with
  |nil=>
   rw[hv] at k
   exact⟨(show 2<=1000 by decide),ay3 Z (Bad.up k S1)⟩
  |cons x r=>
   rw[hv] at k sub hs
   have hS:Seen ns tr gs (x::r) (Dj (x::r)):=⟨hB,sub,by simp,λj=>C1 _ j⟩
   have hx:=aT (a:=x) (l:=r)
   have hxn:=sub.subset hx
   have ne0:¬ ((Dj (x::r):Nat):Int)=0:=λz=>by
    have:=C1 (x::r) x
    rw[show Dj (x::r)=0 by omega,dj,decide_eq_true hx] at this
    cases this
   refine E9 (decide_eq_false ne0) ?_
   refine⟨_,some x,rfl,hS.least,hS.lt,?_⟩
   obtain⟨dxb,_,_,eb,_⟩:=id hb1
   refine⟨b,dxb,_,⟨t.c_zbv,bn0 K t⟩,rfl,.head _,eb,rfl,⟨ai _,ai _⟩,⟨b,n,x,sw,rules,gs,ns,tr,rfl,hb1,hB,hxn,hl x hxn,hs x hx,λH2 S2=>?_⟩⟩
   have bits:∀ j,(Dj (x::r) - (Dj (x::r) &&& Dj (alF ns tr n x))).testBit j=true ↔ j∈x::r/\stT (tr j) n≠stT (tr x) n:=λj=>by
    rw[Ss,aE,C1,C1,decide_eq_true_iff,<- decide_not,decide_eq_true_iff]
    unfold alF
    rw[cf,decide_eq_true_iff]
    exact⟨fun⟨a,c⟩=>⟨a,λz=>c ⟨sub.subset a,z⟩⟩,fun⟨a,c⟩=>⟨a,λz=>c z.2⟩⟩
   have lt2:=bi (Nat.sub_le (Dj (x::r)) (Dj (x::r) &&& Dj (alF ns tr n x))) hS.lt
   refine⟨_,Sk tr (x::r) n,congrArg (λz=>[V.int z]) (a53 _ _),hS.unl bits,lt2,?_⟩
   dsimp only at k
   cases hu:Sk tr (x::r) n with
   |none=>
    rw[hu] at k
    exact k H2 (S1.trans S2)
   |some o=>
    rw[hu] at k
    exact⟨(show 3<=1000 by decide),ay4 Z (Bad.up k (S1.trans S2))⟩
theorem FxAt.ex {C:Addr} {H:Hp} {a:Addr} {fs:List (Str×V)} (f:FxAt C H a fs):ExcAt H a C fs:=by
 obtain⟨dx,ne,e1,e2⟩:=f
 exact .inr ⟨dx,ne,.inr (.inl e1),e2⟩
theorem bb6 (Z:An K t):OkD K Z2 (Ay K t) bl (t.f 37) (t.d 37) (Vi K t):=by
 refine okD (n:=40) (t:=bw0 K t) rfl (by decide +kernel) (by kernel_rfl) (λvs H Q E h=>?_) (λvs H Q E h=>?_)
 .obtain⟨b,n,M,sw,rules,gs,ns,tr,rfl,_⟩:=h;rfl
 .obtain⟨b,n,M,sw,rules,gs,ns,tr,rfl,hb,hB,hl,k⟩:=h
  refine⟨b,n,M,sw,rules,gs,ns,tr,rfl,hb,hB,hl,?_⟩
  cases e:tdF ns tr M n with
  |no=>
   rw[e] at k
   intro H1 a S1 f
   obtain⟨dx,ne,e1,e2⟩:=id f
   exact⟨a,rfl,t.c_zbr,some dx,.inl e1,Z.ec,true,Z.me,Or.inr ⟨t.c_zbr,_,.str n,f.ex,Z.ec,Z.n1,rfl,Or.inr ⟨t.c_zbr,_,.non,f.ex,Z.ec,Z.n2,rfl,(show 3<=sizeLine by decide),λT hT=>k _ _ (S1.trans (Same.upd hT)) ⟨T,rfl,Ab⟩⟩⟩⟩
  |un x y=>
   rw[e] at k
   intro H1 a S1 f
   obtain⟨dx,ne,e1,e2⟩:=id f
   refine⟨a,rfl,t.c_zbs,some dx,.inl e1,Z.eu,false,Z.m2,true,Z.m3,?_⟩
   refine .inl ⟨.ref t.c_zbs,true,.exc rfl f.ex Z.eu rfl,Z.k1,.inl ⟨.ref t.c_zbs,false,.exc rfl f.ex Z.eu rfl,Z.k2,?_⟩⟩
   exact Or.inr ⟨t.c_zbs,_,.str n,f.ex,Z.eu,Z.u1,rfl,Or.inr ⟨t.c_zbs,_,.int (x:Int),f.ex,Z.eu,Z.u2,rfl,Or.inr ⟨t.c_zbs,_,.int (y:Int),f.ex,Z.eu,Z.u3,rfl,(show 4<=sizeLine by decide),λT hT=>k _ _ (S1.trans (Same.upd hT)) ⟨T,rfl,Ab⟩⟩⟩⟩
  |al c=>
   rw[e] at k
   exact λH1 S1=>k H1 _ S1 rfl
theorem by6 {es:List Ent} {bl:List Str} {D:Df} {f:Addr} {d:a9} {s:Sp} {k n:Nat} {t:DS} (hl:D.lv=k+1) (c:ScOk D.N D.ps (Ak D.st)) (rd:wSs n (Hn K D.N (Ak D.st) (gbT es k) bl) (A0 D.st)=t) (len:∀ vs H Q E,s vs H Q E->vs.length=D.ps.length)
  (body:∀ (vs:List V) (H:Hp) (Q:VK) (E:XK),s vs H Q E->t (a14 Q H λ_ _=>False) (Ch D.N vs) H):OkD K D es bl f d s:=λ_ _ _ _ _ F T=>by
 rw[hl] at T ⊢
 exact F.okWT c.fn c.2.2.2.2.2 (T k (cg k)) rd len body
theorem bn2 {H:Hp} {p:Addr} {n:Nat} {v:V} (h:DGet H p (.int (n:Int)) (some v)):∃ xs,SqX K H p (n:Int) xs/\atI xs (n:Int)=some v:=
 have e:atI (g7 (n+1) v) (n:Int)=some v:=Bu (by rw[eN,if_pos (cg n)])
 ⟨_,.dk λu e2=>by rw[e] at e2;cases e2;exact h,e⟩
theorem bi6 {H:Hp} {es:List ((Str×Rc)×Addr)} {T:Tr} (et:es.map (·.1)=T) (o:Cl T) (n:Str) (he:∀ e∈es,RcAt H e.2 e.1.2):StAt H (stT T n) ((B0 (es.map kT) (.inr n)).getD .non):=by
 rcases Ld et o n with ⟨a,b⟩|⟨e,h,a,b⟩
 .rw[a,b];rfl
 .rw[a,b];exact⟨⟨_,rfl⟩,(he e h).tk⟩
theorem bc0 (Z:An K t):OkD K Z6 (Ay K t) bl (t.f 38) (t.d 38) (Vk K t):=by
 refine by6 (n:=40) (t:=bw4 K t) rfl (by decide +kernel) (by kernel_rfl) (λvs H Q E h=>?_) (λvs H Q E h=>?_)
 .obtain⟨F,n,M,ns,g,tr,rfl,_⟩:=h;rfl
 .obtain⟨F,n,M,ns,g,tr,rfl,hF,asc,b256,k⟩:=h
  have big:(1000:Nat)<sizeLine:=by decide
  have nd:ns.Nodup:=asc.imp λh=>aQ h
  have l256:ns.length<=256:=by
   have:=R4 (x:=ay 256) nd λz hz=>List.mem_range.mpr (b256 z hz)
   rwa[bj] at this
  have dg:∀ {H':Hp} {j:Nat},Rd H' F (.dK (ns.map (kF g)))->j∈ns -> ∃ xs,SqX K H' F (j:Int) xs/\atI xs (j:Int)=some (.ref (g j)):=λS hn=>by
   obtain⟨i,hi⟩:=List.mem_iff_getElem?.mp hn
   exact bn2 (.inl ⟨_,_,S,rfl,(ae4 nd hi).symm⟩)
  have dic:∀ {H':Hp} {j:Nat},Same H H'->j∈ns -> ∃ es:List ((Str×Rc)×Addr),H' (g j)=some (.dK (es.map kT))/\es.map (·.1)=tr j /\ ∀ e∈es,RcAt H' e.2 e.1.2:=λS hn=>by
   obtain⟨es,a,⟨_,b⟩,c⟩:=((hF.one _ hn).1).up S
   exact⟨es,b,a,c⟩
  have get:∀ {H':Hp} {j:Nat},Same H H'->j∈ns->(stT (tr j) n).isSome=true -> ∃ xs v,SqX K H' F (j:Int) xs/\atI xs (j:Int)=some (.ref (g j))/\DGet H' (g j) (.str n) (some v)/\StAt H' (stT (tr j) n) v:=λ{H'} {j} S hn c=>by
   obtain⟨xs,q1,q2⟩:=dg (.inl (S _ _ hF.at_)) hn
   obtain⟨es,ed,et,he⟩:=dic S hn
   rcases Ld et (hF.one j hn).2 n with ⟨a,b⟩|⟨e,h,a,b⟩
   .rw[b] at c;cases c
   .exact⟨xs,.ref e.2,q1,q2,.inl ⟨_,.inr n,.inl ed,rfl,a.symm⟩,by rw[b];exact⟨⟨_,rfl⟩,(he e h).tk⟩⟩
  have ek:(ns.map (kF g)).map (·.1)=(ns.map λn:Nat=>(n:Int)).map jv:=by rw[Jy,aF];rfl
  refine .inr ⟨rfl,.inr ⟨F,ns.map λn:Nat=>(n:Int),_,rfl,.inl hF.at_,ek,fE _ (λa b h=>by omega) asc,by rw[ae];omega,λL hL=>?_⟩⟩
  rw[<- Ni]
  have S1:=Same.upd (o:=nO ns) hL
  have e1:upd H L (nO ns) L=some (nO ns):=Ab
  refine .inl ⟨⟨_,SqL.of e1⟩,?_⟩
  generalize upd H L (nO ns)=H1 at S1 e1 ⊢
  intro D hD
  refine Cr (A5 (ns.map λn:Nat=>V.int (n:Int))) (λi U H'=>(∃ v0,U=[v0,some (.ref F),some (.str n),some (.int (M:Int))])/\Same H1 H'/\H' D=some (nO ((ns.take i).filter λj=>M.testBit j&&(stT (tr j) n).isSome))) ⟨⟨_,rfl⟩,Same.upd hD,Ab⟩ (λ_ _ H' _ q=>q.2.1.seqL (SqL.of e1)) ?_ ?_
  .rintro i x U H2 hx ⟨⟨v0,rfl⟩,S2,e2⟩
   obtain⟨j,hj,rfl⟩:=Am hx
   have hjn:=ak hj
   have S02:=S1.trans S2
   have fs:=Hr (p:=λj=>M.testBit j&&(stT (tr j) n).isSome) hj
   have fl:=Kh ns i λj=>M.testBit j&&(stT (tr j) n).isSome
   refine⟨by omega,?_⟩
   cases c:M.testBit j with
   |false=>
    rw[c,if_neg (by simp),cz] at fs
    exact E9 ((Sy M j).trans c) ⟨⟨_,rfl⟩,S2,by rw[fs];exact e2⟩
   |true=>
    refine Ir ((Sy M j).trans c) ?_
    obtain⟨xs,q1,q2⟩:=dg (.inl (S02 _ _ hF.at_)) hjn
    obtain⟨es,ed,et,_⟩:=dic S02 hjn
    refine⟨xs,_,q1,q2,.inr ⟨_,.inl ⟨_,.inr n,.inl ed,rfl,rfl⟩,?_⟩⟩
    rcases Ld et (hF.one j hjn).2 n with ⟨a,b⟩|⟨e,_,a,b⟩
    .rw[a]
     rw[b,if_neg (by simp),cz] at fs
     exact⟨⟨_,rfl⟩,S2,by rw[fs];exact e2⟩
    .rw[a]
     rw[c,b,if_pos (show (true&&(some (rcT e.1.2)).isSome)=true from rfl)] at fs
     exact⟨_,e2,by rw[ae];omega,⟨_,rfl⟩,S2.set hD,by rw[Ab,fs,nO,ax];rfl⟩
  rintro U H2 ⟨_,S2,e2⟩
  rw[ae,aC] at e2
  have S02:=S1.trans S2
  have sub:(hvF ns tr M n).Sublist ns:=iu
  have hs:∀ j∈hvF ns tr M n,(stT (tr j) n).isSome=true:=λj hj=>(aE _ _▸(List.mem_filter.mp hj).2).2
  have e2:H2 D=some (nO (hvF ns tr M n)):=e2
  refine⟨(show 0<=sizeLine by decide),λq hq=>.inl ⟨D,q,_,_,rfl,rfl,SqL.of ((Same.upd hq) _ _ e2),SqL.of Ab,Nc _,rfl,?_⟩⟩
  have S3:=S02.trans (Same.upd (o:=.lst []) hq)
  have e3:=(Same.upd (o:=.lst []) hq) _ _ e2
  generalize upd H2 q (.lst [])=H3 at S3 e3 ⊢
  unfold tdF at k
  cases hv:hvF ns tr M n with
  |nil=>
   rw[hv] at k
   exact Q6 ⟨(show 3<=sizeLine by decide),λT hT=>.inl (k _ _ (S3.trans (Same.upd hT)) ⟨T,rfl,Ab⟩)⟩
  |cons x r=>
   rw[hv] at k sub hs e3
   dsimp only at k
   refine ae3 ?_
   have hx:=aT (a:=x) (l:=r)
   have hxn:=sub.subset hx
   obtain⟨z,ez⟩:=Option.isSome_iff_exists.mp (hs x hx)
   obtain⟨xs,v,q1,q2,q3,q4⟩:=get S3 hxn (hs x hx)
   have at0:atI ((x::r).map λn:Nat=>V.int (n:Int)) 0=some (.int (x:Int)):=Bu (j:=0) rfl
   refine⟨_,_,.inl (SqL.of e3),at0,xs,_,q1,q2,v,q3,?_⟩
   rw[ez] at q4
   refine .inl ⟨⟨_,SqL.of e3⟩,?_⟩
   refine Bd (A5 ((x::r).map λn:Nat=>V.int (n:Int))) (λi U H'=>(∃ v3,U=[some (.ref F),some (.str n),some (.int (M:Int)),v3,some (.ref D),some v])/\Same H3 H' /\ ∀ j∈(x::r).take i,stT (tr j) n=stT (tr x) n) ⟨⟨_,rfl⟩,Same.refl _,λj h=>by cases h⟩ (λ_ _ H' _ q=>q.2.1.seqL (SqL.of e3)) ?_ ?_
   .rintro i y U H4 hy ⟨⟨v3,rfl⟩,S4,al⟩
    obtain⟨j,hj,rfl⟩:=Am hy
    have hjm:=ak hj
    have hjn:=sub.subset hjm
    obtain⟨xs,u,p1,p2,p3,p4⟩:=get (S3.trans S4) hjn (hs j hjm)
    refine⟨xs,_,p1,p2,u,p3,?_⟩
    refine Vm (neg:=true) p4 (q4.up S4) (λy e=>Vn (hF.one j hjn).2 e) ?_
    by_cases c:stT (tr j) n=some z
    .refine E9 (by rw[decide_eq_true c];rfl) ⟨⟨_,rfl⟩,S4,λm hm=>?_⟩
     rw[aL,hj] at hm
     rcases List.mem_append.mp hm with hm|hm
     .exact al m hm
     .obtain rfl:m=j:=by simpa using hm
      exact c.trans ez.symm
    .refine Ir (by rw[decide_eq_false c];rfl) ⟨_,_,.inl (SqL.of (S4 _ _ e3)),at0,(show 4<=sizeLine by decide),λT hT=>.inl (k _ _ (S3.trans (S4.trans (Same.upd hT))) ?_)⟩
     have hu:Sk tr (x::r) n=some j:=by
      unfold Sk
      rw[hV]
      refine⟨decide_eq_true λe=>c (e.trans ez),(x::r).take i,(x::r).drop (i+1),?_,λm hm=>?_⟩
      .obtain⟨li,ej⟩:=List.getElem?_eq_some_iff.mp hj
       rw[<- ej,<- List.drop_eq_getElem_cons li,j2]
      .rw[gO,decide_eq_false_iff_not];exact λe=>e (al m hm)
     rw[hu]
     exact⟨T,rfl,Ab⟩
   .rintro U H4 ⟨⟨v3,rfl⟩,S4,al⟩
    rw[ae,aC] at al
    have hu:Sk tr (x::r) n=none:=List.find?_eq_none.mpr λm hm=>by rw[decide_eq_true_iff];exact λe=>e (al m hm)
    rw[hu] at k
    have S04:=S3.trans S4
    have e4:=S04 _ _ hF.at_
    refine .inl (.inr (.inr (.inl (.inl ⟨_,e4,λo L hL=>?_⟩))))
    have ef:upd H4 F (.frz o (.dK (ns.map (kF g)))) F=some (.frz o (.dK (ns.map (kF g)))):=Ab
    have tf:=Hq (o:=.frz o (.dK (ns.map (kF g)))) (.inl e4)
    have off:∀ a u,a≠F->H4 a=some u->upd H4 F (.frz o (.dK (ns.map (kF g)))) a=some u:=λa u n e=>by rw[Ad n];exact e
    have th:∀ H',Same (upd H4 F (.frz o (.dK (ns.map (kF g))))) H'->Same H4 (upd H' F (.dK (ns.map (kF g)))):=λH' S=>Same.thaw e4 S
    generalize upd H4 F (.frz o (.dK (ns.map (kF g))))=Hf at ef tf off th hL ⊢
    have q5:StAt Hf (some z) v:=⟨q4.1,(q4.up S4).2.up tf⟩
    refine Cr (Er (ns.map (kF g))) (λi U' H'=>(∃ v0,U'=[v0,some (.ref F),some (.str n),some v])/\Same Hf H'/\H' L=some (.lst ((((ns.take i).filter λj=>decide (stT (tr j) n=some z)).map λj:Nat=>(1 * 2 ^ ((j:Int)).toNat:Int)).map V.int))) ⟨⟨_,rfl⟩,Same.upd hL,Ab⟩ (λ_ _ H' _ q=>q.2.1 _ _ ef) ?_ ?_
    .rintro i y U' H5 hy ⟨⟨v0,rfl⟩,S5,e5⟩
     rw[aF] at hy
     obtain⟨j,hj,rfl⟩:=Am hy
     have hjn:=ak hj
     have j256:=b256 j hjn
     obtain⟨es,ed,et,he⟩:=dic S04 hjn
     have nF:g j≠F:=λz=>by
      rw[z,e4] at ed
      injection ed with ed
      injection ed with ed
      have h1:=congrArg (·[i]?) ed
      simp only[am,hj] at h1
      cases e:es[i]? with
      |none=>rw[e] at h1;cases h1
      |some u=>rw[e] at h1;cases h1
     have edf:=S5 _ _ (off _ _ nF ed)
     obtain⟨xs,p1,p2⟩:=dg (.inr ⟨o,S5 _ _ ef⟩) hjn
     refine⟨xs,_,p1,p2,.inr (.inr (.inl ⟨rfl,.inl ⟨_,edf⟩⟩)),_,.inl ⟨_,.inr n,.inl edf,rfl,rfl⟩,?_⟩
     refine Vm (neg:=false) (bi6 et (hF.one j hjn).2 n λe h=>((he e h).up tf).up (NL.same S5).tup) (q5.up S5) (λy e=>Vn (hF.one j hjn).2 e) ?_
     have fs:=Hr (p:=λj=>decide (stT (tr j) n=some z)) hj
     have fl:=Kh ns i λj=>decide (stT (tr j) n=some z)
     by_cases c:stT (tr j) n=some z
     .rw[decide_eq_true c,if_pos rfl] at fs
      refine Ir (decide_eq_true c) ⟨⟨by omega,by omega,by decide⟩,_,e5,by rw[ae,ae];omega,⟨_,rfl⟩,S5.set hL,by rw[Ab,fs,ax,ax];rfl⟩
     .rw[decide_eq_false c,if_neg (by decide),cz] at fs
      exact E9 (decide_eq_false c) ⟨⟨_,rfl⟩,S5,by rw[fs];exact e5⟩
    .rintro U' H5 ⟨_,S5,e5⟩
     rw[ae,ae,aC] at e5
     refine⟨L,_,rfl,SqL.of e5,?_⟩
     rw[Le,Xb (asc.sublist iu)]
     have:=k (upd H5 F (.dK (ns.map (kF g)))) _ (S04.trans (th _ S5)) rfl
     unfold alF at this
     rw[ez] at this
     exact .inr ⟨F,o,_,hF.at_,S5 _ _ ef,this⟩
theorem WorldAt.nb {H H':Hp} {W l k f:Addr} {sw:Sw} {rules:List Sw} (h:WorldAt H W sw rules l k f) (n:NB H H'):WorldAt H' W sw rules l k f:=by
 have nl:∀ {a:Addr} {xs:List V},H a=some (.lst xs)->H' a=some (.lst xs):=λe=>n _ _ (λ_ z=>by cases z) e
 obtain⟨ds,e1,⟨_,o1⟩,h1⟩:=h.sws
 obtain⟨gs,e2,⟨_,o2⟩,h2⟩:=h.rl
 exact⟨nl h.at_,⟨ds,e1,⟨trivial,nl o1⟩,λx hx=>⟨⟨trivial,n.tu (h1 x hx).1.2⟩,trivial,nl (h1 x hx).2.2⟩⟩,h.ok,⟨gs,e2,⟨trivial,nl o2⟩,λx hx=>let ⟨es,a,⟨_,b⟩,c⟩:=h2 x hx;⟨es,a,⟨trivial,n _ _ (λ_ z=>by cases z) b⟩,λy hy=>⟨trivial,nl (c y hy).2⟩⟩⟩,h.rok,h.few,nl h.fr,h.ne⟩
theorem FoundAt.nb {H H':Hp} {F:Addr} {ns:List Nat} {g:Nat->Addr} {tr:Nat->Tr} (h:FoundAt H F ns g tr) (n:NB H H'):FoundAt H' F ns g tr:=
 ⟨n _ _ (λ_ z=>by cases z) h.at_,λm hm=>let ⟨⟨es,a,⟨_,b⟩,c⟩,o⟩:=h.one m hm;⟨⟨es,a,⟨trivial,n _ _ (λ_ z=>by cases z) b⟩,λx hx=>(c x hx).up λ_ _=>n.tu⟩,o⟩,h.few⟩
theorem NB.same {H H':Hp} (S:Same H H'):NB H H':=λa o _ e=>S a o e
theorem TdAt.up {H H':Hp} {n:Str} {x:Td} {v:V} (h:TdAt H n x v) (S:Same H H'):TdAt H' n x v:=by
 cases x with
 |al c=>exact h
 |no=>obtain⟨a,e,q⟩:=h;exact⟨a,e,S _ _ q⟩
 |un i j=>obtain⟨a,e,q⟩:=h;exact⟨a,e,S _ _ q⟩
theorem a02 (n:Str) (x:Td):∀ v∈tdL n x,Bv v=true:=λv hv=>by
 cases x <;> simp only[tdL,aH,c_,or_false] at hv
 .rcases hv with rfl|rfl|rfl <;> rfl
 .rcases hv with rfl|rfl|rfl|rfl <;> rfl
theorem N2 {H:Hp}:∀ {vs:List V},(∀ v∈vs,Bv v=true)->AtL K H (vs.map Dt.at_) vs
 |[],_=>by rw[g_];unfold AtL;rfl
 |v::vs,h=>by rw[aZ];unfold AtL;exact⟨_,_,rfl,by unfold At;exact⟨rfl,h v aT⟩,N2 λu hu=>h u (aB _ hu)⟩
theorem ac2:∀ vs:List V,Ez (vs.map Dt.at_)=0
 |[]=>by unfold Ez;rfl
 |v::vs=>by rw[aZ];unfold Ez;rw[ac2 vs];unfold dep;rfl
theorem Qg {H:Hp} {n:Str} {x:Td} {a:Addr} (e:H a=some (.tup (tdL n x))):At K H (.tup ((tdL n x).map Dt.at_)) (.ref a):=by
 unfold At
 exact⟨a,_,rfl,SqT.of e,N2 (a02 n x)⟩
theorem bw9 {H:Hp} {n:Str} {x:Td} {u v:V} {Q:VK} (hu:TdAt H n x u) (hv:TdAt H n x v) (q:Q (.bl false) H):Bx K true u v H Q:=by
 have two:∀ {a b:Addr},H a=some (.tup (tdL n x))->H b=some (.tup (tdL n x))->Bx K true (.ref a) (.ref b) H Q:=λ{a b} e1 e2=>by
  refine .inr (.inl ⟨_,_,Qg e1,Qg e2,by unfold dep;rw[ac2];decide,?_⟩)
  rw[Gq (Qg (K:=K) e1)]
  exact q
 cases x with
 |al c=>
  have hu:u=.int (c:Int):=hu
  have hv:v=.int (c:Int):=hv
  subst hu hv
  show Q (.bl (!decide ((c:Int)=c))) H
  rw[decide_eq_true rfl]
  exact q
 |no=>
  obtain⟨a,rfl,e1⟩:=hu
  obtain⟨b,rfl,e2⟩:=hv
  exact two e1 e2
 |un i j=>
  obtain⟨a,rfl,e1⟩:=hu
  obtain⟨b,rfl,e2⟩:=hv
  exact two e1 e2
theorem a03 {H:Hp} {n:Str} {x:Td} {u:V} (hu:TdAt H n x u):(∃ c:Int,u=.int c) \/ ∃ a xs,u=.ref a/\H a=some (.tup xs):=by
 cases x with
 |al c=>exact .inl ⟨_,hu⟩
 |no=>obtain⟨a,e,q⟩:=hu;exact .inr ⟨a,_,e,q⟩
 |un i j=>obtain⟨a,e,q⟩:=hu;exact .inr ⟨a,_,e,q⟩
theorem ac0 (ns:List Int) (lo hi:Option Int):∃ cs:List Int,Tj (ns.map V.int) lo hi=cs.map V.int/\cs.length<=ns.length:=by
 unfold Tj
 generalize HT.sIx (ns.map V.int).length 0 lo=i
 generalize HT.sIx (ns.map V.int).length (ns.map V.int).length hi - i=j
 refine⟨(ns.drop i).take j,by rw[ig,List.map_drop],?_⟩
 rw[aK,jA]
 omega
theorem Wr (n:Nat):(1 * 2 ^ ((n:Int)).toNat:Int)=((2 ^ n:Nat):Int):=by rw[aU,jp,Ee]
theorem bc4 (Z:An K t):OkD K D_zbj (Ay K t) bl (t.f 39) (t.d 39) (Pz K t):=by
 refine okD (n:=40) (t:=bw8 K t) rfl (by decide +kernel) (by kernel_rfl) (λvs H Q E h=>?_) (λvs H Q E h=>?_)
 .obtain⟨a,ns,rfl,_⟩:=h;rfl
 .obtain⟨a,ns,rfl,hS,l63,hst,k⟩:=h
  have big:(1000:Nat)<sizeLine:=by decide
  refine⟨a,ns,0,rfl,hS,by decide,a,ns,_,rfl,hS,λH1 LL W nm F sw rules l kk f ws g tr S1 eL enm ⟨w1,w8,w12⟩ hW hF=>?_⟩
  refine⟨_,.inr (SqL.of eL),rfl,?_⟩
  obtain⟨hP,ob,u,hB,b1,b2,b3⟩:=hst
  refine⟨W,F,l,kk,f,sw,rules,g,tr,rfl,⟨S1 _ _ hP,ob,u,S1 _ _ hB,b1,b2,b3⟩,hW,hF,λH2 b O2 hB2=>?_⟩
  have nb2:=NB.of O2 (S1 _ _ hP)
  have hw:=hW.ok
  have few:=hw.len
  have asc:=Kk sw rules
  have hS2:SqL K H2 a (ns.map V.int):=by
   rcases S1.seqL hS with (h|⟨o,h⟩)|h
   .exact .inl (.inl (nb2 _ _ (λ_ z=>by cases z) h))
   .exact .inl (.inr ⟨o,nb2 _ _ (λ_ z=>by cases z) h⟩)
   .exact .inr h
  have hW2:=hW.nb nb2
  have hF2:=hF.nb nb2
  have enm2:=nb2 _ _ (λ_ z=>by cases z) enm
  have fl:∀ n∈As sw rules,n<(Aj sw).length:=λn hn=>(E5 hn).1
  have bk:Bk (As sw rules) tr (Cb (λn=>vkT (tr n)) (As sw rules)):=⟨rfl,asc,λn hn=>⟨(hF.one n hn).2,aJ (fl n hn) few⟩,by have:=Wj asc hF.few (As sw rules).length;rwa[aC] at this⟩
  generalize Cb (λn=>vkT (tr n)) (As sw rules)=gs at hB2 bk
  refine⟨_,_,.inl (SqL.of hW2.at_),rfl,l,sw,rfl,hW2.sws,hw,⟨by omega,by omega,by decide⟩,_,_,.inl (SqL.of hW2.at_),rfl,?_⟩
  obtain⟨f0,fr,efr⟩:∃ f0 fr,As sw rules=f0::fr:=by
   cases e:As sw rules with
   |nil=>exact absurd e hW.ne
   |cons a b=>exact⟨a,b,rfl⟩
  have f0l:=fl f0 (by rw[efr];exact aT)
  refine⟨_,.int (f0:Int),.inl (SqL.of hW2.fr),by rw[efr];exact Bu (j:=0) rfl,⟨by omega,by omega,by decide⟩,(show 3<=sizeLine by decide),λSS hSS=>?_⟩
  have e3:upd H2 SS (.lst [.int 0,.int (1 * 2 ^ (((Aj sw).length:Nat):Int).toNat - 1),.int (1 * 2 ^ ((f0:Int)).toNat)]) SS=some (nO [0,2 ^ (Aj sw).length - 1,2 ^ f0]):=by
   rw[Ab,Wr,Wr]
   have:=Nat.one_le_two_pow (n:=(Aj sw).length)
   rw[show ((2 ^ (Aj sw).length:Nat):Int) - 1=((2 ^ (Aj sw).length - 1:Nat):Int) by omega]
   rfl
  have S3:=Same.upd (o:=.lst [.int 0,.int (1 * 2 ^ (((Aj sw).length:Nat):Int).toNat - 1),.int (1 * 2 ^ ((f0:Int)).toNat)]) hSS
  show Ae _ _ _ _ (upd H2 SS (.lst [.int 0,.int (1 * 2 ^ (((Aj sw).length:Nat):Int).toNat - 1),.int (1 * 2 ^ ((f0:Int)).toNat)]))
  generalize upd H2 SS (.lst [.int 0,.int (1 * 2 ^ (((Aj sw).length:Nat):Int).toNat - 1),.int (1 * 2 ^ ((f0:Int)).toNat)])=H3 at S3 e3 ⊢
  refine .inl ⟨_,S3.seqL hS2,λp hp=>?_⟩
  obtain⟨cs,ec,lc⟩:=ac0 ns (some 5) (some 21)
  rw[ec]
  have S4:=Same.upd (o:=.lst (cs.map V.int)) hp
  have e4p:upd H3 p (.lst (cs.map V.int)) p=some (.lst (cs.map V.int)):=Ab
  have e4:=S4 _ _ e3
  refine .inl ⟨⟨_,SqL.of e4p⟩,?_⟩
  show Gh (Itl K p) _ _ _ [some (.ref a),some (.ref W),some (.ref nm),some (.ref F),some (.ref b),some (.int ((Aj sw).length:Nat)),some (.ref SS),none,none,none,none] _
  generalize upd H3 p (.lst (cs.map V.int))=H4 at S4 e4p e4 ⊢
  have nps:p≠SS:=λz=>by rw[z,e3] at hp;cases hp
  have fp:=S3.free hp
  refine Bd (A5 (cs.map V.int)) (λi U H'=>(∃ v7,U=[some (.ref a),some (.ref W),some (.ref nm),some (.ref F),some (.ref b),some (.int ((Aj sw).length:Nat)),some (.ref SS),v7,none,none,none])/\Same H2 H'/\H' p=some (.lst (cs.map V.int)) /\ ∃ Ms:List Nat,H' SS=some (nO Ms)/\Ms.length<=3+i)
   ⟨⟨_,rfl⟩,S3.trans S4,e4p,_,e4,ai _⟩ (λ_ _ H' _ q=>SqL.of q.2.2.1) ?_ ?_
  .rintro i x U H5 hx ⟨⟨v7,rfl⟩,S5,e5p,Ms,e5,lM⟩
   obtain⟨c,hc,rfl⟩:=Am hx
   have il:=Al hc
   refine⟨.inl ⟨rfl,_,SqL.of e5⟩,⟨by omega,by omega⟩,λD hD=>?_⟩
   rw[aU]
   refine Cr (Bt 0 (Aj sw).length) (λi U H'=>(∃ v0,U=[v0,some (.int c)])/\Same H5 H' /\ ∃ mo:List Nat,mo.Sublist (ay i)/\H' D=some (.lst ((mo.map λn:Nat=>(1 * 2 ^ ((n:Int)).toNat:Int)).map V.int))) ⟨⟨_,rfl⟩,Same.upd hD,[],jF _,Ab⟩ (λ_ _ _ _ _=>aR) ?_ ?_
   .rintro j x U H6 hx ⟨⟨v0,rfl⟩,S6,mo,sm,e6⟩
    obtain⟨hj,rfl⟩:=Cu hx
    have sl:=sm.length_le
    rw[bj] at sl
    refine⟨c,(j:Int),rfl,by omega,by decide,by omega,Jd (λ_=>?_) (λ_=>?_)⟩
    .refine⟨⟨by omega,by omega,by decide⟩,_,e6,by rw[ae,ae];omega,⟨_,rfl⟩,S6.set hD,mo++[j],?_,by rw[Ab,ax,ax];rfl⟩
     rw[gv]
     exact sm.append (dD _)
    .exact⟨⟨_,rfl⟩,S6,mo,sm.trans (by rw[gv];exact List.sublist_append_left _ _),e6⟩
   .rintro U H6 ⟨_,S6,mo,sm,e6⟩
    rw[Az] at sm
    refine⟨D,_,rfl,SqL.of e6,?_⟩
    rw[Le,Xb (List.pairwise_lt_range.sublist sm)]
    have e65:=S6 _ _ e5
    refine⟨SS,_,_,rfl,rfl,e65,by rw[ae];omega,⟨_,rfl⟩,(S5.trans S6).set hSS,by rw[Ad nps];exact S6 _ _ e5p,Ms++[Dj mo],by rw[Ab,nO,ax];rfl,by rw[aW];exact cN lM⟩
  .rintro U H5 ⟨⟨v7,rfl⟩,S5,_,Ms,e5,lM⟩
   rw[ae] at lM
   obtain⟨w0,wr,ew⟩:∃ w0 wr,ws=w0::wr:=by
    cases ws with
    |nil=>exact absurd w1 (by decide)
    |cons a b=>exact⟨a,b,rfl⟩
   have l0:=w12 w0 (by rw[ew];exact aT)
   have e5n:=S5 _ _ enm2
   have at0:atI (ws.map V.str) 0=some (.str w0):=by rw[ew];exact Bu (j:=0) rfl
   refine .inl ⟨_,_,.inl (SqL.of e5n),at0,_,_,.inl (SqL.of e5n),at0,by omega,?_⟩
   obtain⟨z,hz,lz⟩:∃ z:Str,((if decide ((w0.length:Int)<12) then (1:Int) else 0)=0/\z=eh\/(if decide ((w0.length:Int)<12) then (1:Int) else 0)=1/\z = "0")/\z.length<=1:=by
    by_cases c:(w0.length:Int)<12
    .exact⟨"0", .inr ⟨by rw[decide_eq_true c];rfl,rfl⟩,by decide +kernel⟩
    .exact⟨eh,.inl ⟨by rw[decide_eq_false c];rfl,rfl⟩,by decide⟩
   refine⟨z,hz,by omega,(show 1<=sizeLine by decide),λq hq=>?_⟩
   have S6:=S5.trans (Same.upd (o:=.lst [.str (w0++z)]) hq)
   have e6:upd H5 q (.lst [.str (w0++z)]) q=some (.lst [.str (w0++z)]):=Ab
   have e6s:=(Same.upd (o:=.lst [.str (w0++z)]) hq) _ _ e5
   have e6n:=(Same.upd (o:=.lst [.str (w0++z)]) hq) _ _ e5n
   generalize upd H5 q (.lst [.str (w0++z)])=H6 at S6 e6 e6s e6n ⊢
   refine .inl ⟨nm,q,_,_,rfl,rfl,e6n,e6,by rw[ae];show ws.length+1<=_;omega,λM hM=>?_⟩
   have el:ws.map V.str++[.str (w0++z)]=(ws++[w0++z]).map V.str:=by rw[ax];rfl
   rw[el]
   have S7:=S6.trans (Same.upd (o:=Be (ws++[w0++z])) hM)
   have e7:upd H6 M (Be (ws++[w0++z])) M=some (Be (ws++[w0++z])):=Ab
   have e7s:=(Same.upd (o:=Be (ws++[w0++z])) hM) _ _ e6s
   refine .inl ⟨⟨_,SqL.of e7⟩,?_⟩
   show Gh (Itl K M) _ _ _ [some (.ref a),some (.ref W),some (.ref nm),some (.ref F),some (.ref b),some (.int ((Aj sw).length:Nat)),some (.ref SS),v7,none,none,none] _
   generalize upd H6 M (Be (ws++[w0++z]))=H7 at S7 e7 e7s ⊢
   refine Bd (A5 ((ws++[w0++z]).map V.str)) (λi U H'=>(∃ v8 v9 v10,U=[some (.ref a),some (.ref W),some (.ref nm),some (.ref F),some (.ref b),some (.int ((Aj sw).length:Nat)),some (.ref SS),v7,v8,v9,v10])/\Same H7 H') ⟨⟨_,_,_,rfl⟩,Same.refl _⟩ (λ_ _ H' _ q=>q.2.seqL (SqL.of e7)) ?_ ?_
   .rintro i x U H8 hx ⟨⟨v8,v9,v10,rfl⟩,S8⟩
    obtain⟨n,hn,rfl⟩:=Am hx
    refine .inl ⟨⟨_,SqL.of (S8 _ _ e7s)⟩,?_⟩
    refine Bd (A5 (Ms.map λn:Nat=>V.int (n:Int))) (λi U H'=>(∃ v9 v10,U=[some (.ref a),some (.ref W),some (.ref nm),some (.ref F),some (.ref b),some (.int ((Aj sw).length:Nat)),some (.ref SS),v7,some (.str n),v9,v10])/\Same H7 H') ⟨⟨_,_,rfl⟩,S8⟩ (λ_ _ H' _ q=>q.2.seqL (SqL.of e7s)) ?_ ?_
    .rintro j y U H9 hy ⟨⟨v9,v10,rfl⟩,S9⟩
     obtain⟨m,hm,rfl⟩:=Am hy
     have S29:=S7.trans S9
     refine⟨b,n,m,sw,rules,gs,As sw rules,tr,rfl,hB2.up S29,bk,fl,λH10 v S10 hv=>?_⟩
     refine⟨F,n,m,As sw rules,g,tr,rfl,hF2.nb (NB.same (S29.trans S10)),asc,λx hx=>aJ (fl x hx) few,λH11 v2 S11 hv2=>?_⟩
     refine bw9 (hv.up S11) hv2 ?_
     rcases a03 (hv.up S11) with ⟨c,rfl⟩|⟨c,xs,rfl,ec⟩
     .exact⟨rfl,⟨_,_,rfl⟩,S9.trans (S10.trans S11)⟩
     .exact⟨_,false,.sqT rfl (SqT.of ec) rfl,rfl,⟨_,_,rfl⟩,S9.trans (S10.trans S11)⟩
    .rintro U H9 ⟨⟨v9,v10,rfl⟩,S9⟩
     exact .inl ⟨⟨_,_,_,rfl⟩,S9⟩
   .rintro U H8 ⟨_,S8⟩
    exact .inl (k H8)
end
end K53
namespace K53
open PySem L2
noncomputable def bj0:List Df:=[Zz,Z7,Zu,Zt,a45,Zs,Zl,Zk,Zv,Z1,a48,Z3,Zq,a49,Z0,Z8,a46,D_zav,Zp,Zw,Z4,Zj,Zn,Z5,a41,a47,Zo,a43,a40,a39,Z9,a42,Zr,Zy,Zx,a44,Zm,Z2,Z6,D_zbj]
def af7:List Df:=[aq6,V1,V2,aq8,aq9,aq2]
def af8:List Df:=[ar0,aq7,aq5,aq3]
def af6:List Df:=[ap9,aq4,V0,Vy,aq1,aq0,Vz]
structure a07 (K:ac) (mg:Str->Option Value) (t:Adr):Prop where
 g:AllG K mg t.f t.d 0 bj0
 o_zbu:Qm K "Plain" t.c_zbu t.f_zac
 m_zbu:AllM K t.c_zbu t.m_zbu t.e_zbu 0 af7
 o_zbv:Qm K "Book" t.c_zbv t.f_zah
 m_zbv:AllM K t.c_zbv t.m_zbv t.e_zbv 0 af8
 o_zbt:Qm K "Panel" t.c_zbt t.f_zz
 m_zbt:AllM K t.c_zbt t.m_zbt t.e_zbt 0 af6
 i_zac:Gi K D_zac t.f_zac t.d_zac [] []
 i_zah:Gi K D_zah t.f_zah t.d_zah [] []
 i_zz:Gi K D_zz t.f_zz t.d_zz [.non] [.none]
 i_zu:Gi K D_zu t.f_zu t.d_zu [] []
 i_zj:Gi K D_zj t.f_zj t.d_zj [.non] [.none]
 a_zbq:b_ K mainGlobals "LeafError" = some (some (.ref t.c_zbq))
 kp_zbq:ba K (.ref t.c_zbq)=true
 ec_zbq:ECls K t.c_zbq
 x_zbs:aa0 K "Unlike" t.c_zbs t.f_zu (.ref t.c_zbq::valTail)
 a_zbp:b_ K mainGlobals "EditError" = some (some (.ref t.c_zbp))
 x_zbr:aa0 K "NoPart" t.c_zbr t.f_zj (.ref t.c_zbp::.ref t.c_zbq::valTail)
 c:AllC mg t.u 0 cons
 z:∀ x∈bl,mg x=none
 Z:An K t
theorem a82 {P:aS} {w:bz} {K:ac} {mg:Str->Option Value} {h base:Heap} {t:Adr} (X:K.In h) (G:h.Ns mainGlobals mg) (A:a07 K mg t):FnOk P w K mg base CX0 11 (t.f 39) (t.d 39) D_zbj.ps (Pz K t):=by
 have Z:=A.Z
 have g:∀ (j:Nat) {D:Df},bj0[j]? = some D->DOk K mg D.q D.st (t.f (0+j)) (t.d (0+j)) D.ps:=λj _ e=>(A.g.get j e).1
 have O:Zf P w K mg base (Ay K t) bl t.f t.d 0 (fns K t):=⟨(bb3 Z).g (g 0 rfl),(bc1 Z).g (g 1 rfl),(ba7 Z).g (g 2 rfl),(ba6 Z).g (g 3 rfl),(bp5 Z).g (g 4 rfl),(ba5 Z).g (g 5 rfl),(a94 Z).g (g 6 rfl),(a93 Z).g (g 7 rfl),(ba8 Z).g (g 8 rfl),(bb5 Z).g (g 9 rfl),(bq2 Z).g (g 10 rfl),(bb7 Z).g (g 11 rfl),(ba3 Z).g (g 12 rfl),(bq3 Z).g (g 13 rfl),(bb4 Z).g (g 14 rfl),(bc2 Z).g (g 15 rfl),(bp6 Z).g (g 16 rfl),(bb0 Z).g (g 17 rfl),(ba2 Z).g (g 18 rfl),(ba9 Z).g (g 19 rfl),(bb8 Z).g (g 20 rfl),(a92 Z).g (g 21 rfl),(ba0 Z).g (g 22 rfl),(bb9 Z).g (g 23 rfl),(bo4 Z).g (g 24 rfl),(bq1 Z).g (g 25 rfl),(ba1 Z).g (g 26 rfl),(bp1 Z).g (g 27 rfl),(bo1 Z).g (g 28 rfl),(bo0 Z).g (g 29 rfl),(bc3 Z).g (g 30 rfl),(bo5 Z).g (g 31 rfl),(ba4 Z).g (g 32 rfl),(bb2 Z).g (g 33 rfl),(bb1 Z).g (g 34 rfl),(bp4 Z).g (g 35 rfl),(a95 Z).g (g 36 rfl),(bb6 Z).g (g 37 rfl),(bc0 Z).g (g 38 rfl),aR⟩
 have E:AllE P w K mg base (Ay K t) bl (Ay K t):=AllE.app ⟨(Th X G A.o_zbu A.i_zac (a91 Z)),(Th X G A.o_zbv A.i_zah (a96 Z)),(Th X G A.o_zbt A.i_zz (bq5 Z)),(λ_=>⟨eV X G A.a_zbq,A.kp_zbq,A.ec_zbq,aR⟩),(ad1 X G A.x_zbs Z.eu A.i_zu (bq0 Z)),(λ_=>bj4 X G A.a_zbp),(ad1 X G A.x_zbr Z.ec A.i_zj (bo9 Z)),aR⟩ (AllE.app (Qn A.c) (AllE.app (Gj A.o_zbu.cl A.m_zbu ⟨bp3 Z,a98 Z,a99 Z,bp8 Z,bp9 Z,bo7 Z,aR⟩) (AllE.app (Gj A.o_zbv.cl A.m_zbv ⟨bq4 Z,bp7 Z,bp2 Z,bo8 Z,aR⟩) (AllE.app (Gj A.o_zbt.cl A.m_zbt ⟨bo2 Z,bp0 Z,a97 Z,a89 Z,bo6 Z,bo3 Z,a90 Z,aR⟩) (V7 (AllG.pre (b:=[D_zbj]) A.g) O)))))
 exact bc4 Z _ _ _ _ _ (g 39 rfl).F λm _=>a01 A.z E m
theorem all_mk {l:j5} {w:bz} {K:ac} {h:Heap} {mg:Str->Option Value} {fa c_zbu c_zbv c_zbt c_zbq c_zbs c_zbp c_zbr f_zac f_zah f_zz f_zu f_zj f_io:Addr} (X:K.In h) (G:h.Ns mainGlobals mg) (hfa:mg "law" = some (.ref fa))
  (o_zbu:Qm K "Plain" c_zbu f_zac)
  (o_zbv:Qm K "Book" c_zbv f_zah)
  (o_zbt:Qm K "Panel" c_zbt f_zz)
  (a_zbq:b_ K mainGlobals "LeafError" = some (some (.ref c_zbq)))
  (kp_zbq:ba K (.ref c_zbq)=true)
  (y_zbq:XC K c_zbq (valTail))
  (x_zbs:aa0 K "Unlike" c_zbs f_zu (.ref c_zbq::valTail))
  (a_zbp:b_ K mainGlobals "EditError" = some (some (.ref c_zbp)))
  (y_zbp:XC K c_zbp (.ref c_zbq::valTail))
  (x_zbr:aa0 K "NoPart" c_zbr f_zj (.ref c_zbp::.ref c_zbq::valTail))
  (i_zac:∃ d,Gi K D_zac f_zac d [] [])
  (i_zah:∃ d,Gi K D_zah f_zah d [] [])
  (i_zz:∃ d,Gi K D_zz f_zz d [.non] [.none])
  (i_zu:∃ d,Gi K D_zu f_zu d [] [])
  (i_zj:∃ d,Gi K D_zj f_zj d [.non] [.none])
  (nP:AllN K c_zbt ["settings", "tuples", "numbers", "sets", "kept_rules", "bars", "free"])
  (nL:AllN K c_zbu ["records"])
  (nB:AllN K c_zbv ["panel", "kept"])
  (nN:AllN K c_zbr ["part", "choice"])
  (nU:AllN K c_zbs ["part", "one", "other"])
  (a_io:b_ K mainGlobals "in_order" = some (some (.ref f_io)))
  (me:du K c_zbr (.ref c_zbr)=some true)
  (m2:du K c_zbs (.ref c_zbr)=some false)
  (m3:du K c_zbs (.ref c_zbq)=some true)
  (kx:(aV c_zbs::.ref c_zbq::valTail).contains (.ref c_zbp)=false)
  (lm_io:Kv K f_io=true)
  (qT:a36 K bj0)
  (qM_zbu:Qj K c_zbu af7)
  (qM_zbv:Qj K c_zbv af8)
  (qM_zbt:Qj K c_zbt af6)
  (qC:Zh K cons)
  (qZ:a37 K bl)
  : ∃ (t:Adr) (fd:a9),(∀ (s:aj) (v:Value),lJ s fd ⟨[v],[]⟩ [("_law_script", v)]) /\ ∀ base:Heap,K.In base->base.Ns mainGlobals mg->FnOk l.prog w K mg base CX0 11 fa fd ["_law_script"] (Pz K t):=by
 obtain⟨_,_,d₀,_⟩:=qT.1
 obtain⟨f,d,g⟩:=V8 d₀ X G 0 qT (by (repeat' first|exact aR|refine⟨⟨rfl,λ_ _ _ _ _ _ us hl=>?_⟩,?_⟩|fail) <;> first|exact aR|exact len1 (λ_=>rfl) us hl|exact len2 (λ_ _=>rfl) us hl|exact len3 (λ_ _ _=>rfl) us hl|exact len4 (λ_ _ _ _=>rfl) us hl|exact len5 (λ_ _ _ _ _=>rfl) us hl|exact at6 (λ_ _ _ _ _ _=>rfl) us hl)
 obtain⟨m_zbu,e_zbu,g_zbu⟩:=Jm d₀ 0 qM_zbu (by (repeat' first|exact aR|refine⟨λ_ _ _ _ _ _ us hl=>?_,?_⟩|fail) <;> first|exact aR|exact len1 (λ_=>rfl) us hl|exact len2 (λ_ _=>rfl) us hl|exact len3 (λ_ _ _=>rfl) us hl|exact len4 (λ_ _ _ _=>rfl) us hl|exact len5 (λ_ _ _ _ _=>rfl) us hl|exact at6 (λ_ _ _ _ _ _=>rfl) us hl)
 obtain⟨m_zbv,e_zbv,g_zbv⟩:=Jm d₀ 0 qM_zbv (by (repeat' first|exact aR|refine⟨λ_ _ _ _ _ _ us hl=>?_,?_⟩|fail) <;> first|exact aR|exact len1 (λ_=>rfl) us hl|exact len2 (λ_ _=>rfl) us hl|exact len3 (λ_ _ _=>rfl) us hl|exact len4 (λ_ _ _ _=>rfl) us hl|exact len5 (λ_ _ _ _ _=>rfl) us hl|exact at6 (λ_ _ _ _ _ _=>rfl) us hl)
 obtain⟨m_zbt,e_zbt,g_zbt⟩:=Jm d₀ 0 qM_zbt (by (repeat' first|exact aR|refine⟨λ_ _ _ _ _ _ us hl=>?_,?_⟩|fail) <;> first|exact aR|exact len1 (λ_=>rfl) us hl|exact len2 (λ_ _=>rfl) us hl|exact len3 (λ_ _ _=>rfl) us hl|exact len4 (λ_ _ _ _=>rfl) us hl|exact len5 (λ_ _ _ _ _=>rfl) us hl|exact at6 (λ_ _ _ _ _ _=>rfl) us hl)
 obtain⟨u,gc⟩:=V6 X G 0 qC
 obtain⟨d_zac,i_zac⟩:=i_zac
 obtain⟨d_zah,i_zah⟩:=i_zah
 obtain⟨d_zz,i_zz⟩:=i_zz
 obtain⟨d_zu,i_zu⟩:=i_zu
 obtain⟨d_zj,i_zj⟩:=i_zj
 have tl_1:∀ {a:Addr},A7 (.ref a::valTail)=true:=λ{a}=>by show A7 valTail=true;decide +kernel
 have tl_2:∀ {a b:Addr},A7 (.ref a::.ref b::valTail)=true:=λ{a b}=>by show A7 valTail=true;decide +kernel
 have AO:a07 K mg ⟨f,d,u,f_zac,d_zac,f_zah,d_zah,f_zz,d_zz,f_zu,d_zu,f_zj,d_zj,c_zbu,m_zbu,e_zbu,c_zbv,m_zbv,e_zbv,c_zbt,m_zbt,e_zbt,c_zbq,c_zbs,c_zbp,c_zbr⟩:=⟨g,o_zbu,g_zbu,o_zbv,g_zbv,o_zbt,g_zbt,i_zac,i_zah,i_zz,i_zu,i_zj,a_zbq,kp_zbq,y_zbq.ecls (by decide +kernel),x_zbs,a_zbp,x_zbr,gc,V9 X G qZ,⟨⟨o_zbt.cl,nP.all⟩,o_zbu.cl,nL.1,o_zbv.cl,nB.1,nB.2.1,x_zbr.x.ecls tl_2,nN.1,nN.2.1,x_zbs.x.ecls tl_1,nU.1,nU.2.1,nU.2.2.1,me,m2,m3,x_zbs.x.kit x_zbs.x (by rw[cq,beq_self_eq_true,Bool.true_or]),x_zbs.x.kit y_zbp kx,(by
  have m:=(g.get 17 (D:=D_zav) rfl).1.m
  have m2:=eV X G a_io
  have m3:some (aV (f (0+17)))=some (.ref f_io):=m.symm.trans m2
  injection m3 with m3
  injection m3 with m3
  show Kv K (f (0+17))=true
  rw[m3]
  exact lm_io)⟩⟩
 have gl:=g.get 39 (D:=D_zbj) rfl
 have e:fa=f (0+39):=by
  have m:=gl.1.m
  rw[hfa] at m
  injection m with m
  injection m
 subst e
 exact⟨_,_,λs v=>gl.2 s [v] rfl,λbase _ _=>a82 X G AO⟩
theorem bn5 {K:ac} {f:Addr} (h:Kv K f=true):∃ c,dP K c 317=true:=by
 unfold Kv at h
 split at h
 .split at h
  .exact⟨_,h⟩
  .cases h
 .cases h
noncomputable def sp0 (K:ac):Sp:=λvs H Q _=>∃ (a:Addr) (ns:List Int),vs=[.ref a]/\SqL K H a (ns.map V.int)/\ns.length<=63/\St0 H /\ ∀ H',Q (.bl true) H'
theorem walk {l:j5} {q:aS} {loose:List Str} {XP:(Str->Option Value)->Heap->Prop} {YP:bz->Heap->Prop} {d:DefRec} {K:Params->ac} {fo:Addr} (hn:l.most=some 63) (hdf:d.params.defaults=[])
  (hY:∀ (w:bz) (h:Heap),YP w h->(K w.params).In h/\h.get? 317=some (fS #[]))
  (h1:∀ w:bz,b_ (K w.params) mainGlobals "in_order" = some (some (.ref fo))) (h2:∀ w:bz,b_ (K w.params) mainGlobals "__builtins__" = some (some (.ref 4)))
  (h3:∀ w:bz,Kv (K w.params) fo=true) (h4:∀ w:bz,(K w.params).lookup 317=none) (h5:∀ w:bz,(K w.params).lookup 4=none) (h6:∀ w:bz,((K w.params).all λp=>!(p.2.cls==gd "list"))=true)
  (F:∀ (w:bz) (mg:Str->Option Value) (fa:Addr) (h:Heap),(K w.params).In h->h.Ns mainGlobals mg->mg d.name=some (.ref fa) ->
   ∃ (t:Adr) (fd:a9),(∀ (s:aj) (u:Value),lJ s fd ⟨[u],[]⟩ [("_law_script", u)]) /\ ∀ base:Heap,(K w.params).In base->base.Ns mainGlobals mg->FnOk l.prog w (K w.params) mg base CX0 11 fa fd ["_law_script"] (Pz (K w.params) t)) :
  PySem.W.WalkO q loose XP YP l.row.toRowW d [] (λf vs=>PySem.call f vs):=
 L2.walk_ofT (n:=63) (k:=11) (x := "_law_script") (Pt:=317) (bm:=4) (sp:=λw=>sp0 (K w.params)) (λ_ _=>aR) hn (by decide) hdf ⟨rfl,by decide,by decide⟩ hY (λw=>⟨bn5 (h3 w),h4 w,h5 w,h2 w,h6 w⟩) (λw mg fa h a b c=>let ⟨t,fd,h1,h2⟩:=F w mg fa h a b c;⟨fd,h1,λbase x y=>(h2 base x y).imp λvs H Q E z=>z⟩) λw H a ns hl hs hS=>⟨a,ns,rfl,hS,hl,hs,λ_=>rfl⟩
end K53
open PySem PySem.W PyProof.Rows
end
set_option maxRecDepth 100000 in
theorem PySem.Challenge.cw_manyleaf_k53_seen_alike_holds : PySem.Challenge.rw_manyleaf_k53_seen_alike.Holds := by
 refine head_k53 ?_
 k_fill
 refine' K53.walk (l:=PySem.Challenge.rw_manyleaf_k53_seen_alike) rfl rfl (λw h Y=>⟨PySem.W.km_in_of Y,PySem.W.km_tabs_of Y 317 (by decide)⟩) ?h1 ?h2 ?h3 ?h4 ?h5 ?h6 ?F
 case h1|h2=>intro w;k_is
 case h3|h4|h5|h6=>intro w;kernel_rfl
 case F=>
  intro w mg fa h KX G hmg
  refine' K53.all_mk KX G hmg ?o_zbu ?o_zbv ?o_zbt ?a_zbq ?kp_zbq ?y_zbq ?x_zbs ?a_zbp ?y_zbp ?x_zbr ?i_zac ?i_zah ?i_zz ?i_zu ?i_zj ?nP ?nL ?nB ?nN ?nU ?a_io ?me ?m2 ?m3 ?kx ?lm_io ?qT ?qM_zbu ?qM_zbv ?qM_zbt ?qC ?qZ
  case o_zbu|o_zbv|o_zbt=>refine' L2.own_mk ?_ ?_ ?_ ?_ ?_ ?_ ?_ ?_ <;> try k_is
  case a_zbq|kp_zbq=>k_is
  case y_zbq=>refine' L2.xc_mk ?_ ?_ ?_ ?_ ?_ ?_ ?_ ?_ <;> try k_is
  case x_zbs=>refine' ⟨?_,?_,?_,L2.xc_mk ?_ ?_ ?_ ?_ ?_ ?_ ?_ ?_⟩ <;> try k_is
  case a_zbp=>k_is
  case y_zbp=>refine' L2.xc_mk ?_ ?_ ?_ ?_ ?_ ?_ ?_ ?_ <;> try k_is
  case x_zbr=>refine' ⟨?_,?_,?_,L2.xc_mk ?_ ?_ ?_ ?_ ?_ ?_ ?_ ?_⟩ <;> try k_is
  case i_zac=>refine' L2.ini0 (λ_ _ _ _ _ _ us hl=>L2.len1 (λ_=>rfl) us hl) ?_ ?_ ?_ ?_ <;> try k_is
  case i_zah=>refine' L2.ini0 (λ_ _ _ _ _ _ us hl=>L2.len2 (λ_ _=>rfl) us hl) ?_ ?_ ?_ ?_ <;> try k_is
  case i_zz=>refine' L2.ini1 (λ_ _ _ _ _ _ _ us hl=>L2.len3 (λ_ _ _=>⟨_,rfl,rfl⟩) us hl) (λ_ _ _ _ _ _ _ us hl=>L2.len2 (λ_ _=>⟨_,rfl,rfl⟩) us (Nat.succ.inj hl)) (by decide) ?_ ?_ ?_ ?_ ?_ <;> try k_is
  case i_zu=>refine' L2.ini0 (λ_ _ _ _ _ _ us hl=>L2.len4 (λ_ _ _ _=>rfl) us hl) ?_ ?_ ?_ ?_ <;> try k_is
  case i_zj=>refine' L2.ini1 (λ_ _ _ _ _ _ _ us hl=>L2.len3 (λ_ _ _=>⟨_,rfl,rfl⟩) us hl) (λ_ _ _ _ _ _ _ us hl=>L2.len2 (λ_ _=>⟨_,rfl,rfl⟩) us (Nat.succ.inj hl)) (by decide) ?_ ?_ ?_ ?_ ?_ <;> try k_is
  case nP|nL|nB|nN|nU=>(repeat' first|exact True.intro|refine' ⟨?_,?_⟩|fail) <;> try k_is
  case a_io|me|m2|m3=>k_is
  case kx=>decide +kernel
  case lm_io=>kernel_rfl
  case qT=>(repeat' first|exact True.intro|refine' ⟨⟨_,L2.top_mk ?_ ?_ ?_ ?_⟩,?_⟩|fail) <;> try k_is
  case qM_zbu|qM_zbv|qM_zbt=>(repeat' first|exact True.intro|refine' ⟨⟨_,?_,L2.met_mk ?_ ?_ ?_ ?_⟩,?_⟩|fail) <;> try k_is
  case qC=>(repeat' first|exact True.intro|refine' ⟨L2.con_mk ?_ ?_,?_⟩|fail) <;> first|k_is|exact⟨_,rfl⟩|exact rfl|skip
  case qZ=>(repeat' first|exact True.intro|refine' ⟨?_,?_⟩|fail) <;> try k_is
#print axioms PySem.Challenge.cw_manyleaf_k53_seen_alike_holds
