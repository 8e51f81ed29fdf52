import PyProof.Rows.All
import Wide.All
import OpenK.AllK
import Wide.FinOn
import PyProof.ToksMono
import Lean
import PyProof.EqAt
import PyProof.EqKinds
import PyProof.TupleCall
import PyProof.NeKinds
import PyProof.ZipIter
import PyProof.StrWalks
import PyProof.ConsumeWalk
import PyProof.ExcArgs
import PyProof.ExcBaseAll.ValueError
import KE.KIsAll
import PyProof.EnumFor
import PyProof.EnumMake
import PyProof.EnumStmt
import PyProof.Rows.EnumRows
import PyProof.DictWalks
import PyProof.Draws
import PyProof.Rows.SetFrom
import PyProof.DictItems
import KE.KDictList
import PyProof.TupleIter
import PyProof.RulesRaise
import PyProof.RulesTry
import PyProof.MeetsIn
import KE.KEqDict
import PyProof.StrOps2
import PyProof.StrCalls6
import PyProof.ListMulRoad
import PyProof.FactsAll.tuple
import KE.KDictOf
import KE.KSortTup
import KE.KSortKey
import KE.KItemsList
import PyProof.Rows.Range3
import PyProof.Rows.ChunkLeaf
import KE.KRevIter
import PyProof.StationsW
import PyProof.PassesOwn
import PyProof.NsDelKeeps
import KE.KLam
import KE.KNestM
import PySem.Challenge.RW_manyleaf_k34_alike_and_beneath
set_option Elab.async false
set_option linter.all false
set_option compiler.extract_closed false
set_option bootstrap.genMatcherCode false
set_option maxRecDepth 100000
set_option maxHeartbeats 0
section
open PySem PySem.W PyProof.Rows
namespace PySem.W.Fast
def tw1006553745686712978:=()
def tw10072958570609452843:=()
def tw10187351876779050208:=()
def tw10373576747794236342:=()
def tw10451986782784273176:=()
def tw10817254560486405452:=()
def tw10901482612868028039:=()
def tw10940701634132363718:=()
def tw11099084724115400309:=()
def tw11109507044838991449:=()
def tw11602481310679292652:=()
def tw11634393297783506251:=()
def tw11809685790684711112:=()
def tw12179625945879353333:=()
def tw12205479782093909935:=()
def tw1244353846978463699:=()
def tw12624863402301791145:=()
def tw12990352519141307531:=()
def tw12994721901702797218:=()
def tw13081178019978435167:=()
def tw13138318299640089566:=()
def tw13179672445518349040:=()
def tw13279313571197981591:=()
def tw13365210284866316257:=()
def tw13437108580835844574:=()
def tw13568776091405306522:=()
def tw13799420322228655773:=()
def tw14017132934349770659:=()
def tw14196085000161618422:=()
def tw14439090763369708226:=()
def tw14860334198408173153:=()
def tw15004638680950054767:=()
def tw15009321562187853386:=()
def tw15529164931434831291:=()
def tw15533469647253771546:=()
def tw15552427047058325957:=()
def tw15577897278353242754:=()
def tw15630444046849488945:=()
def tw15640770373437679220:=()
def tw15878030259142296197:=()
def tw16333884407410580792:=()
def tw16923905972414553611:=()
def tw16972641261148731735:=()
def tw16987826628136445927:=()
def tw17296411435190280045:=()
def tw17616314118073140083:=()
def tw17636405440391500022:=()
def tw17644786265814730267:=()
def tw17831160840119642442:=()
def tw17850880613333441886:=()
def tw17891107236140694598:=()
def tw18051255719920681832:=()
def tw18443348177414993876:=()
def tw2006205368011089393:=()
def tw2208483080143678878:=()
def tw226524783268720693:=()
def tw235412089301360090:=()
def tw2426610074761114108:=()
def tw2440010353836256040:=()
def tw2485586045926366855:=()
def tw2629914089777894270:=()
def tw2673994231563388334:=()
def tw2720187137499548473:=()
def tw2790715750776266427:=()
def tw3126341031548506993:=()
def tw3180406082223904509:=()
def tw3314670734514322716:=()
def tw3420142250677840516:=()
def tw3473066007294845454:=()
def tw3739798454444996158:=()
def tw3766954337316988213:=()
def tw3822690091540365730:=()
def tw387944445196615598:=()
def tw3954072513007536944:=()
def tw398158552280376718:=()
def tw4344800827904148740:=()
def tw4479510041878128364:=()
def tw4496400847748708358:=()
def tw4511369718307704387:=()
def tw4521173647046907295:=()
def tw474312538269600772:=()
def tw4987167098690456392:=()
def tw5186732988584744660:=()
def tw5620076405511466490:=()
def tw5804293718869568862:=()
def tw5808955728425149342:=()
def tw6063796428521818722:=()
def tw6140900023476961551:=()
def tw6238607530996935289:=()
def tw6481697717037954473:=()
def tw6575471382462790836:=()
def tw6599427726595351278:=()
def tw667283355954242481:=()
def tw6729632158522649814:=()
def tw6970880843352744023:=()
def tw6971833112083929481:=()
def tw7168270736930744933:=()
def tw7174860963528123236:=()
def tw7294865290493202064:=()
def tw7487015742537092427:=()
def tw7493963067166777058:=()
def tw7762093159501442269:=()
def tw7784700264054475475:=()
def tw7831050260509621724:=()
def tw8047998774093528263:=()
def tw8170938882418021379:=()
def tw8188271000753682051:=()
def tw8449653310338012710:=()
def tw8690606436974971548:=()
def tw8810398272118919452:=()
def tw8882445292448072998:=()
def tw9096268348841053634:=()
def tw9389039401620944727:=()
def tw9475886280041330982:=()
def tw9499464207414480862:=()
def tw951606723246759014:=()
def tw9957598185561516791:=()
def tw6083889798968549777:=()
def tw7932613361763212426:=()
def tw1819168311871395071:=()
def tw16612040909899490737:=()
def tw207676979480725384:=()
def tw11153568642440846424:=()
def tw4280865184369771088:=()
def tw5867090073501342592:=()
def tw7026025579561768008:=()
def tw7378657244559165029:=()
def tw17489160713296706633:=()
def tw10494401145049532061:=()
def tw9340093407669698998:=()
def tw11097654371771030406:=()
def tw1448555032679439537:=()
def tw15323889957356928123:=()
def tw3546865578104908898:=()
def tw9235076308532352152:=()
def tw14217607505248020407:=()
def tw3323315935842574318:=()
def tw6240596923509333436:=()
def tw10583462432201483794:=()
def tw6097324216596074636:=()
def tw2760443101828471837:=()
def tw790356414919761165:=()
def tw11165873684992628719:=()
def tw8880121492847136330:=()
def tw2668843991295841214:=()
def tw6883900230707618642:=()
def tw10856345014689255258:=()
def tw18445959882600773760:=()
def tw11276171700398045504:=()
def tw2776140901662308662:=()
def tw3613227891261261468:=()
def tw14951266336606640124:=()
def tw6961439586179630064:=()
def tw597790977267759281:=()
def tw3126422057816874961:=()
def tw14684567416450233211:=()
def tw4158552892038131814:=()
def tw4443255651736601494:=()
def tw2598300407906473031:=()
def tw7452988371877965372:=()
def tw6854715077471637116:=()
def tw13204092193391463985:=()
def tw2262491934309241256:=()
def tw17985071254942942645:=()
def tw8345313962835095581:=()
def tw2456246286635584963:=()
def tw12996936641490528242:=()
def tw4380450246096051943:=()
def tw214840943591845391:=()
def tw4635245848760347737:=()
def tw2632094946542561792:=()
def tw5698677162389114391:=()
def tw11881651185303875918:=()
def tw4644070286152458112:=()
def tw17243624424600842199:=()
def tw11010293803293089484:=()
def tw6692883138644774785:=()
def tw14363638828218112637:=()
def tw13795807968685983367:=()
def tw11177130047805887559:=()
def tw641068658703029332:=()
def tw6767548007256891665:=()
def tw10058284131494312604:=()
def tw4619066085705539413:=()
def tw6651510163641454735:=()
def tw17499002902440687497:=()
def tw15395462760763249790:=()
def tw1405776871440529988:=()
def tw16646840003402178363:=()
def tw16968998769776092571:=()
def tw10744578132337325564:=()
def tw11058019631372610260:=()
def tw17941878123201431741:=()
def tw4404650797420664115:=()
def tw6034813996381467160:=()
def tw2481655940625345536:=()
def tw6160901322468760067:=()
def tw7265858043970108508:=()
def tw6154145503301374205:=()
def tw13280835609140555559:=()
def tw16647835676851510332:=()
def tw2980613843308601137:=()
def tw3495392875999107185:=()
def tw17815883289486656572:=()
def tw765029746606083030:=()
def tw16246844126710901803:=()
def tw9875574431967272147:=()
def tw9442261350509652933:=()
def tw13430662372438384207:=()
def tw12292750729655613089:=()
def tw13610423365284260516:=()
def tw16174371741807484579:=()
def tw6975758208538226435:=()
def tw14215387506993022906:=()
def tw3577545070879355610:=()
def tw11042996037963620567:=()
def tw9570481784103314747:=()
def tw9173118148614360587:=()
def tw12364086910304324379:=()
def tw15118241314983070232:=()
def tw1496269861846573314:=()
def tw6173139936025390280:=()
def tw9580051319123541912:=()
def tw7276071631347784199:=()
def tw11267608965442289123:=()
def tw4771894346520088108:=()
def tw5649362132230636779:=()
def tw3255839257908602523:=()
def tw13746555303777067463:=()
def tw6897156556366061073:=()
def tw11263836977871157807:=()
def tw5963105635852613526:=()
def tw6375262304954037612:=()
def tw15520520970490978490:=()
def tw4324708222693570679:=()
def tw15188650402872227576:=()
def tw11775608278004642401:=()
def tw100206309922936798:=()
def tw8640584593685491810:=()
def tw10110607777527489128:=()
def tw5239780400800471478:=()
def tw1309083574330496482:=()
def tw15501171167813911965:=()
def tw16825097775694053638:=()
def tw14768524812431016252:=()
def tw13694816979804867256:=()
def tw8660497728245624721:=()
def tw11093470839523425574:=()
def tw10618740195094279711:=()
def tw2814815889411542400:=()
def tw9606004992114916264:=()
def tw2962134403102184109:=()
def tw9838014254736632611:=()
def tw15461941516639120108:=()
def tw17516100857512961760:=()
def tw12298046458603908332:=()
def tw12214934094662510752:=()
def tw16288407343774922828:=()
def tw9235877836467712001:=()
def tw12351385166161483613:=()
def tw1624716411128077226:=()
def tw6357725263598743199:=()
def tw15514225406832530023:=()
end PySem.W.Fast
open_top head_k34 for PySem.Challenge.rw_manyleaf_k34_alike_and_beneath
end
section
local macro_rules|`(tactic|trivial)=>`(tactic|first|exact Nat.le_refl _|exact Nat.le_add_right _ _|assumption|omega|(dsimp only;omega))
open Array renaming length_toList->bU,getElem?_toList->cw,getElem?_eq_some_iff->dP,getElem?_eq_getElem->d_,getElem?_setIfInBounds_self_of_lt->fO,perm_iff_toList_perm->iV,forIn_toList->i3,map->jh,getElem?_eq_none->jY
open Bool renaming false_ne_true->aC,and_eq_true->a9,eq_iff_iff->b5,or_eq_true->cS,false_eq_true->dv,beq_eq_decide_eq->fP,or_true->fQ,and_true->gS,and_false->ij,and_eq_true_iff->iD,not_eq_true'->ji,false_or->jy,true_and->jz,false_and->k_,true_or->ma
open Classical renaming propDecidable->dB,byContradiction->eh
open False renaming elim->bP
open ForInStep renaming yield->fT
open Int renaming toNat_natCast->aY,emod_lt_of_pos->cF,emod_nonneg->dj,mul_le_mul_of_nonneg_left->ix,fdiv_eq_ediv_of_nonneg->iX,natCast_nonneg->i4,one_mul->jB,emod_add_mul_ediv->j5,natCast_mul->j6,toNat->mD
open LawfulBEq renaming eq_of_beq->cz
open List renaming length_map->ae,getElem?_eq_getElem->ai,mem_of_getElem?->aj,getElem?_map->ak,map_append->aq,mem_map->ar,getD_eq_getElem?_getD->au,mem_cons_of_mem->av,size_toArray->ax,mem_append->ay,take_length->aA,map_map->aB,mem_cons->aD,mem_append_right->aH,length_append->aI,take_add_one->aJ,length_cons->aK,length_take->aM,mem_cons_self->aQ,mem_iff_getElem?->aS,map_cons->aT,range->aV,getElem?_eq_some_iff->be,getElem?_append_right->bi,all_eq_true->bj,length_range->bo,getElem?_append_left->bq,length_reverse->bu,mem_append_left->bx,mem_filter->bz,mem_map_of_mem->bA,getElem?_cons_succ->bK,mem_singleton->bM,contains_cons->bQ,length_singleton->bR,nodup_cons->bS,map_congr_left->bW,append_nil->b7,foldl_cons->b9,all_cons->cb,not_mem_nil->ce,length_filter_le->cx,isEmpty_iff->cB,mem_range->cC,length->cE,getElem_mem->cJ,length_eq_zero_iff->cU,getElem_map->cV,append_assoc->cY,getElem?_eq_none->dm,getElem_inj->dA,take_sublist_take_left->dJ,pairwise_cons->dY,exists_mem_of_ne_nil->eC,mem_iff_getElem->eE,mem_of_mem_take->eG,nodup_append->eQ,take_sublist->eU,map_nil->fg,toArray->fh,Pairwise->fv,getElem?_cons_zero->fw,getElem?_range->fA,getElem?_replicate->fB,any_eq_true->fJ,lookup_cons->fK,find?_cons->fU,lookup->fV,foldl_append->gd,pairwise_iff_getElem->gE,cons_append->gI,filter_eq_self->gM,any_cons->gU,mem_filterMap->gW,getElem?_set_self->g8,flatMap_cons->hZ,nodup_nil->im,Sublist->io,all_map->ip,map_reverse->iy,mem_flatMap->iz,mem_reverse->iA,getElem?_set_ne->iF,Perm->iL,filterMap_cons->iM,map_eq_nil_iff->iN,of_mem_zip->iO,filter_append->i5,zip_cons_cons->i6,replicate->i8,any_eq_false->jm,ext_getElem?->jn,getElem_take->jo,map_take->jC,map_snd_zip->jQ,take_of_length_le->jZ,length_nil->j7,length_set->j8,range_succ->j9,map->kJ,reverse_reverse->kO,lt_irrefl->lg,filter_sublist->lE,length_pos_iff->lF,getElem_range->lP,sum_cons->lQ,any_map->mh
open List.Pairwise renaming map->hX,nil->jk
open List.Perm renaming refl->i7
open List.Sublist renaming refl->eO
open Nat renaming le_refl->ag,le_of_ble_eq_true->aF,lt_of_lt_of_le->aL,ne_of_lt->aN,le_trans->aU,lt_of_le_of_lt->bb,le_add_right->bv,zero_le->bw,lt_succ_self->cf,succ_le_succ->cD,zero_testBit->cK,le_succ->cM,testBit_two_pow->cN,zero_add->dn,lt_succ_of_lt->dG,eq_of_testBit_eq->eI,ne_of_gt->fj,testBit_or->fM,le_of_lt->fW,testBit_and->fX,le_succ_of_le->gh,lt_irrefl->gj,sub_self->gQ,pow_le_pow_right->iG,add_assoc->iH,lt_pow_two_of_testBit->i9,min_le_left->j_,testBit_xor->kc,two_pow_pos->ke,add_comm->mj,le_of_eq->ml,min_self->mn
open Ne renaming symm->cg
open Option renaming some->aO,bind_some->cL,isSome_iff_exists->cP,map_eq_some_iff->cX,map_some->dL,toList_some->dZ
open Option.some renaming inj->az,injEq->h_
open Or renaming inl->fY
open Prod renaming fst->mY
open PyProof.Rows renaming seqObj->bE,callWith_type1->b_,get?_update_seq->eX,callWith_builtin1->fm,listUpdate_at->fG,boot_list->g9,seqEpoch_at->iS,tail_of_ItemOn->jd,boot_tuple->jE,keyKind'->jM,subscriptTail_builtinR->j0,AllBare->j2,boot_int->kh,listItems_at->kE,size_push'->kM,callWith_builtin_kwB->kX,entry_proto_collect'->kZ,envOfC->lx,IntsAre->mE,bubble->mX,general'->m_,IsTup->nu
open PyProof.Rows.F renaming plain_set_update_loop->gT,entry_set_update_loop->jA
open PyProof.Rows.SortSt renaming mk'->l6
open PySem renaming wpAny_bind->af,wpAny_pure->am,Shared->aw,wpAny->aR,Program->aW,Builtin->a_,FuncData->bh,Spec->bn,World->bC,wpAny_holding->bD,Around->bF,wpAny_with_toks->bG,wpAny_mono->bJ,wpAny_loadPart_at->bL,sizeLine_eq->bN,mem_of_lookup->bX,wpAny_typeNameOfWhole_keyiter->ck,wpAny_Call_Name_kw->cu,bootBuiltins->cG,compareOp->cI,wpAny_isSubtype_exc->cO,wpAny_typeNameOf_keyiter->cQ,sysModules->c7,NameKind->c9,starEach->df,assignEach->dy,wpAny_newObj_type->dI,binaryOp->dO,wpAny_call->dS,wpAny_call_entry->dU,codeAny_mono->d8,wpAny_standAt->d9,codeAny_call_builtin->eK,codeAny_builtin->eW,rawInt->eY,wpAny_passesOwn->eZ,wpAny_truthy_bool->e_,Within->fu,wpAny_callSpecial?_slot->fH,excClassObj->f_,foldedSetIterable->gu,wpAny_attempt->gv,wpAny_newList->gw,wpAny_pyIter_dict->gx,wpAny_setField->gH,codeAny->gN,wpAny_field->gO,PassesOwn->gX,behindInMarks->g6,wpAny_dictEntries->ig,wpAny_pyIter_enum->ii,Paired->ir,call_meetsIn->iw,checkBuiltinCall->iC,bindArgs->iJ,wpAny_dictEpoch->iT,wpAny_execs_nil->iU,wpAny_letOwnedTupleGo_enum->iZ,wpAny_newFunctionEnv_cells->i0,codeAny_call_builtin_code->jc,wpAny_check_type_call_sub->je,wpAny_fieldsOf->jf,wpAny_loadPart->jg,builtinsNs->ju,swapsWith->jv,typeLookup->jw,wpAny_pyIter_list->jx,attributeBase->jK,codeAny_call_builtin_at->jL,keywordEach->jN,relabel->jO,wpAny_Call_method0_late->jP,noFill_tuple_add->jR,pastItsLine_dict->jS,wpAny_eqBool_int->jT,wpAny_eqBool_str->jU,wpAny_isInstance->jV,wpAny_lookBehind->jW,wpAny_madeBy_exc->jX,wpAny_pyNext_dict_item->j1,backTo->ku,codeAny_of_tree->kz,letOwnedTupleGo->kD,wpAny_isOneOf_keyiter->kG,wpAny_loadPart'->kH,wpAny_specialOf->kI,call_meets->kK,closureFor->kL,intBits_le_iff->kW,wpAny_pyIter_keyiter->k6,wpAny_pyIter_revIter->k9,firstArgMember->ly,wpAny_newTuple->lA,wpAny_runValue->lB,evalArgs_none->lK,bindSpecial->lN,GenState->lO,lastMarks->lW,seq_tuple_add->lX,wpAny_evalAll_cons->lY,BindsTo->lZ,getAttr->l7,notedBy->l9,concat_meets->mr,wpAny_nsSet1->mw,backToKw->mx,setField->my,DictEntry->mz,Keyword->mF,callerA->mG,cellsFrom->mH,collect->mJ,eqIsQuiet->mK,noteFrame->mL,onTheHeap->mM,pyIter->mN,pyNext->mO,setAttr->mP,setFlight->mQ,valueAt->mR,wpAny_of_eq->mS,wpAny_throw->mT,CmpOp->mU,Result->mV,assign->mW,frameOf->mZ,unaryOp->nj,Walks->nv
open PySem.Around renaming under_plainId->gC,under->l_
open PySem.Builtin renaming bitNot->cr,bitAnd->cA,bitOr->cT
open PySem.Builtin.Dict renaming showsAll->j3
open PySem.Builtin.Int renaming intBits->iK
open PySem.Builtin.List renaming listFitsIndex->gy,listTooLong->jj
open PySem.Builtin.SmallTypes renaming nextOf->c8
open PySem.Builtin.Tuple renaming tupleHashOf->cq
open PySem.Calls renaming spliced_cons->dW,spliced_nil->eN,callWith_builtin->g7,Name_function_global->iW
open PySem.Code renaming quiet_builtin->dw,isFrame->mf
open PySem.EntryCells renaming newEntry->lC
open PySem.F renaming slot_dict_keyiterator_next->bY,plainAttrs_list->dD,excBase_ValueError->dQ,slot_dict_get->d6,args_dict_keyiterator_next_1->ff,entry_dict_keyiterator_next->fI,entry_dict_get->fN,called_set->fS,args_tuple_add_2->gR,entry_tuple_add->gY,plainAttrs_dict->gZ,slot_tuple_add->g_,slot_tuple_hash->hV,slot_dict_setdefault->iI,slot_list_insert->jp,args_dict_get_2->jF,args_dict_get_3->jG,plain_list_iadd->jH,slot_dict_items->jI,slot_enumerate_next->j4
open PySem.Heap renaming get?_push_of_some->ah,get?_push_size->aE,lt_size->aG,SameBut->bO,get?_update_other->bZ,size_push->cR,get?_update_self->dX,get?_none_of_le->iE,ExtBut->mC
open PySem.Heap.SameBut renaming update->bV
open PySem.NameKind renaming free->fC
open PySem.Obj renaming mapSeq->bH,mapFields->fE,isFreed_of_fields->iq,data_mapFields->lR
open PySem.Paired renaming length->jD
open PySem.PassesOwn renaming never->kg
open PySem.Sem renaming wp_bind'->mq
open PySem.SeqAt renaming EqAt->bB,RcNeAt->f9,RcAt->ic
open PySem.SeqAt.EqAt renaming int_str->lT,str_int->lU
open PySem.SeqAt.RcAt renaming tuples->js
open PySem.SeqAt.RcNeAt renaming lists_lengths->iY
open PySem.Str renaming empty->cH,ofString->iu
open PySem.Value renaming ref->aX,none->bI,builtin->dE,type->jt,isStrOf->jJ,isStrOf_shape->lM
open PySem.W renaming Frag->ac,findIn->aZ,keepIn->ba,nsIn->bT,fnOf->cy,isFn->cW,emptyDict->cZ,kitOne->c_,kia_one->dq,codeIn->dF,specialIn->dH,instObj->dM,makesIn->dN,codeHdIn->dR,mg_of->d7,looks_findIn->eJ,kas_ask->eV,plainGet_of->fF,KatTups->fZ,takesIn->f6,mroIn->gn,InstAt->gG,handedIn->gJ,plainGet->gL,cellsFrom_some->hJ,hasDictIn->ib,kat_cons->iB,copiedNames->iP,kat_yes->iQ,kas_place->iR,kat_go->i_,lookIn->ja,tabObj->jb,methodObj->jq,plainOver->jr,OpenLaw->kj,takerIn->kq,kas_rev->kC,handedOut_of->kU,kat_no->lh,kla_fn->lq,codeHd_of_K->lH,findObj_own->lI,looks_mroIn->lJ,looks_find->lS,kas_desc->lV,clsIn->mI,kas_asc->nh
open PySem.W.KatTups renaming cons->kQ,nil->lG
open Sum renaming inr->du,inl->lL
open Sum.inr renaming inj->ie
open True renaming intro->aP
namespace L2
open PySem PySem.Spec PyProof.Rows
abbrev Key:=Sum Int Str
def Ov:Key->Value->Bool
 |.inl k,v=>Value.isInt k v
 |.inr x,v=>jJ x v
def by7(w:bC):Key->Int
 |.inl k=>hashInt k
 |.inr x=>hashStr w x
theorem Ax:∀{k} {v},Ov k v=true->(∃i t,k=lL i/\v=Value.int i t)\/(∃x t,k=du x/\v=Value.str x t)
 | .inl i,v,h=>by
  obtain⟨t,e⟩:=Value.isInt_shape h
  exact .inl ⟨i,t,rfl,e⟩
 | .inr x,v,h=>by
  obtain⟨t,e⟩:=lM h
  exact .inr ⟨x,t,rfl,e⟩
def Zq(i:Int)(t:Tok):Ov (.inl i) (.int i t)=true:=by simp[Ov,Value.isInt]
def Zr(x:Str)(t:Tok):Ov (.inr x) (.str x t)=true:=by simp[Ov,jJ]
def bi3(a b:Int):decide ((lL a:Key)=lL b)=(a==b):=by
 by_cases e:a=b
 .subst e;simp
 .have h:¬ (lL a:Key)=lL b:=λq=>e (Sum.inl.inj q)
  rw[decide_eq_false h]
  exact(beq_eq_false_iff_ne.mpr e).symm
def bi7(a b:Str):decide ((du a:Key)=du b)=decide (a=b):=by
 by_cases e:a=b
 .subst e;simp
 .have h:¬ (du a:Key)=du b:=λq=>e (ie q)
  rw[decide_eq_false h,decide_eq_false e]
def bi4(a:Int)(b:Str):decide ((lL a:Key)=du b)=false:=decide_eq_false (λq=>nomatch q)
def bi6(a:Str)(b:Int):decide ((du a:Key)=lL b)=false:=decide_eq_false (λq=>nomatch q)
def Be(prog:aW)(w:bC):PySem.KeyKind prog w Key where
 is:=Ov
 hash:=by7 w
 inj:=λv a b ha hb=>by
  rcases Ax ha with⟨i,t,rfl,rfl⟩|⟨x,t,rfl,rfl⟩
  .rcases Ax hb with⟨j,u,rfl,e⟩|⟨y,u,rfl,e⟩
   .injection e with e1 _;rw[e1]
   .exact nomatch e
  .rcases Ax hb with⟨j,u,rfl,e⟩|⟨y,u,rfl,e⟩
   .exact nomatch e
   .injection e with e1 _;rw[e1]
 byValue:=λk v h=>by
  rcases Ax h with⟨i,t,rfl,rfl⟩|⟨x,t,rfl,rfl⟩ <;> rfl
 pyHash:=λhv h=>by
  rcases Ax hv with⟨i,t,rfl,rfl⟩|⟨x,t,rfl,rfl⟩
  .exact wpAny_pyHash_int h
  .exact wpAny_pyHash_str h
 eqBool:=λhu hv h=>by
  rcases Ax hu with⟨i,t,rfl,rfl⟩|⟨x,t,rfl,rfl⟩
  .rcases Ax hv with⟨j,u,rfl,rfl⟩|⟨y,u,rfl,rfl⟩
   .rw[bi3] at h;exact jT h
   .rw[bi4] at h;exact lT i t y u _ _ _ _ h
  .rcases Ax hv with⟨j,u,rfl,rfl⟩|⟨y,u,rfl,rfl⟩
   .rw[bi6] at h;exact lU x t j u _ _ _ _ h
   .rw[bi7] at h;exact jU h
 «strs»:=λk x t v h=>by
  rcases Ax h with⟨i,u,rfl,e⟩|⟨y,u,rfl,e⟩
  .exact nomatch e
  .injection e with e1 _
   subst e1
   cases v <;> rfl
def Te(prog:aW)(w:bC)(i:Int)(t:Tok):(Be prog w).is (.inl i) (.int i t)=true:=Zq i t
def Tf(prog:aW)(w:bC)(x:Str)(t:Tok):(Be prog w).is (.inr x) (.str x t)=true:=Zr x t
inductive V where
 |non|bl (b:Bool)|int (i:Int)|str (x:Str)|ref (a:Addr)|ty (n:String)
 deriving DecidableEq
def RelV:V->Value->Prop
 |.non,u=>u=bI
 |.bl b,u=>u=Value.bool b
 |.int i,u=>∃t,u=Value.int i t
 |.str x,u=>∃t,u=Value.str x t
 |.ref a,u=>u=aX a
 |.ty n,u=>u=jt n
def V.pl(_:V):Bool:=true
abbrev Vals:List V->List Value->Prop:=ir RelV
theorem Vals.length{xs:List V}{us:List Value}(r:Vals xs us):xs.length=us.length:=jD r
theorem Vals.get:∀{xs} {us}{i:Nat}{x:V},Vals xs us->xs[i]?=some x -> ∃u,us[i]?=some u/\RelV x u
 |_,_,_,_,.nil,e=>by simp at e
 |_,_,0,_,.cons r _,e=>by simp at e;subst e;exact⟨_,rfl,r⟩
 | _,_,i+1,x,.cons _ t,e=>by
  obtain⟨u,h1,h2⟩:=Vals.get t (e)
  exact⟨u,by simpa using h1,h2⟩
theorem Vals.append:∀{xs ys} {us ws},Vals xs us->Vals ys ws->Vals (xs++ys) (us++ws)
 |_,_,_,_,.nil,s=>s
 |_,_,_,_,.cons r t,s=>.cons r (Vals.append t s)
theorem Vals.take:∀{xs} {us} n,Vals xs us->Vals (xs.take n) (us.take n)
 |_,_,0,_=>.nil
 |_,_,_+1,.nil=>.nil
 |_,_,n+1,.cons r t=>.cons r (Vals.take n t)
theorem Vals.drop:∀{xs} {us} n,Vals xs us->Vals (xs.drop n) (us.drop n)
 |_,_,0,r=>r
 |_,_,_+1,.nil=>.nil
 |_,_,n+1,.cons _ t=>Vals.drop n t
def RelO:Option V->Option Value->Prop
 |some v,some u=>RelV v u
 |none,none=>True
 |_,_=>False
def KV{κ:Type}:List (κ×V)->List (κ×Value)->Prop:=ir λp q=>p.1=q.1/\RelV p.2 q.2
def kV:Key->V
 |.inl i=>.int i
 |.inr x=>.str x
def Br:V->Bool
 |.non=>true
 |.bl _=>true
 |.int _=>true
 |.str _=>true
 |_=>false
def eqV:V->V->Bool
 |.non,.non=>true
 |.bl a,.bl b=>a==b
 |.bl a,.int b=>(if a then 1 else 0)==b
 |.int a,.bl b=>a==(if b then 1 else 0)
 |.int a,.int b=>a==b
 |.str a,.str b=>a==b
 |_,_=>false
def P1{A:bF}{s:aw}{y x:V}{u v:Value}(ry:RelV y u)(rx:RelV x v)(fy:Br y=true)(fx:Br x=true):bB A s u v (eqV y x):=by
 cases y with
 |non=>
  cases ry
  cases x with
  |non=>cases rx;exact SeqAt.EqAt.same _
  |bl b=>cases rx;exact SeqAt.EqAt.none_bool b
  |int b=>obtain⟨t,rfl⟩:=rx;exact SeqAt.EqAt.none_int b t
  |str b=>obtain⟨t,rfl⟩:=rx;exact SeqAt.EqAt.none_str b t
  |_=>exact absurd (fx) aC
 |bl a=>
  cases ry
  cases x with
  |non=>cases rx;exact SeqAt.EqAt.bool_none a
  |bl b=>cases rx;exact SeqAt.EqAt.bool_bool a b
  |int b=>obtain⟨t,rfl⟩:=rx;exact SeqAt.EqAt.bool_int a b t
  |str b=>obtain⟨t,rfl⟩:=rx;exact SeqAt.EqAt.bool_str a b t
  |_=>exact absurd (fx) aC
 |int a=>
  obtain⟨t',rfl⟩:=ry
  cases x with
  |non=>cases rx;exact SeqAt.EqAt.int_none a t'
  |bl b=>cases rx;exact SeqAt.EqAt.int_bool a t' b
  |int b=>obtain⟨t,rfl⟩:=rx;exact SeqAt.EqAt.int_int a t' b t
  |str b=>obtain⟨t,rfl⟩:=rx;exact lT a t' b t
  |_=>exact absurd (fx) aC
 |str a=>
  obtain⟨t',rfl⟩:=ry
  cases x with
  |non=>cases rx;exact SeqAt.EqAt.str_none a t'
  |bl b=>cases rx;exact SeqAt.EqAt.str_bool a t' b
  |int b=>obtain⟨t,rfl⟩:=rx;exact lU a t' b t
  |str b=>obtain⟨t,rfl⟩:=rx;exact SeqAt.EqAt.str_str a t' b t
  |_=>exact absurd (fx) aC
 |_=>exact absurd (fy) aC
inductive TK where
 |at_ (k:Key)
 |tup (l:List TK)
noncomputable instance:DecidableEq TK:=λ_ _=>dB _
mutual
def TkIs(P:aW)(w:bC)(h:Heap):TK->Value->Prop
 |.at_ k,v=>(Be P w).is k v=true
 |.tup l,v=>∃a ψ,v=.ref a/\nu h a ψ/\TksAre P w h l ψ.toList
def TksAre(P:aW)(w:bC)(h:Heap):List TK->List Value->Prop
 |[],vs=>vs=[]
 |k::ks,vs=>∃v r,vs=v::r/\TkIs P w h k v/\TksAre P w h ks r
end
mutual
def Gb(w:bC):TK->Int
 |.at_ k=>by7 w k
 |.tup l=>reduceHash (cq (Bh w l))
def Bh(w:bC):List TK->List Int
 |[]=>[]
 |k::ks=>Gb w k::Bh w ks
end
mutual
def Dq:TK->Nat
 |.at_ _=>1
 |.tup l=>By l+1
def By:List TK->Nat
 |[]=>0
 |k::ks=>Dq k+By ks
end
mutual
def Ap:TK->Nat
 |.at_ _=>0
 |.tup l=>Cp l+1
def Cp:List TK->Nat
 |[]=>0
 |k::ks=>Nat.max (Ap k) (Cp ks)
end
theorem Fb:∀{l} {k},k∈l->Ap k<=Cp l
 |[],_,h=>by cases h
 | x::l,k,h=>by
  rcases List.mem_cons.mp h with rfl|h
  .exact Nat.le_max_left _ _
  .exact aU (Fb h) (Nat.le_max_right _ _)
theorem Iv(w:bC):∀a b,Bh w (a++b)=Bh w a++Bh w b
 |[],_=>by unfold Bh;rfl
 | x::a,b=>by
  show Gb w x::Bh w (a++b)=Gb w x::(Bh w a++Bh w b)
  rw[Iv w a b]
theorem Iq:∀a b,By (a++b)=By a+By b
 |[],_=>by show By _=0+_;rw[dn];rfl
 | x::a,b=>by
  show Dq x+By (a++b)=Dq x+By a+By b
  rw[Iq a b,iH]
section
variable {P:aW}{w:bC}
def ac0(k:TK):∀{A} {E} {s} {v} {Q},A.units+Ap k<cLine->TkIs P w s.heap k v->Q (Gb w k) {s with toks:=s.toks+Dq k}->aR (model P w) A (pyHash v) Q E s:=by
 refine TK.rec (motive_1:=λk=>∀{A} {E} {s} {v} {Q},A.units+Ap k<cLine->TkIs P w s.heap k v->Q (Gb w k) {s with toks:=s.toks+Dq k}->aR (model P w) A (pyHash v) Q E s)
  (motive_2:=λl=>∀k∈l,∀{A} {E} {s} {v} {Q},A.units+Ap k<cLine->TkIs P w s.heap k v->Q (Gb w k) {s with toks:=s.toks+Dq k}->aR (model P w) A (pyHash v) Q E s)
  ?_ ?_ ?_ ?_ k
 .intro k A E s v Q _ hk h
  exact(Be P w).pyHash hk h
 .intro l ih A E s v Q hu hk h
  obtain⟨a,ψ,rfl,ht,hi⟩:=hk
  have hT:=ht.typeIs
  obtain⟨o,ho,hc,n,hd⟩:=ht
  have hu:A.units+(Cp l+1)<cLine:=hu
  first|unfold pyHashByItsType|skip
  first|refine af (wpAny_cRoomFor_or (.inr (by omega)) ?_)|skip
  refine af (kI hT F.slot_tuple_hash.lookup ?_)
  rw[if_neg (by rw[beq_builtin_none];exact aC)]
  refine af (kI hT F.slot_tuple_hash.lookup ?_)
  refine af (wpAny_callSpecialIfBoundUnlessNone?_slot hT hV (dU hV hT F.entry_tuple_hash ?_ (F.args_tuple_hash_1 _)))
  show aR _ _ (Builtin.Tuple.tupleItemsOf (.ref a) >>= _) _ _ s
  refine af (wpAny_tupleItemsOf ho hd ?_)
  refine af ?_
  rw[<- i3]
  refine wpAny_forIn_list _
   (λrest b s'=>∃done left,l=done++left/\TksAre P w s.heap left rest/\b.toList=Bh w done/\s'={s with toks:=s.toks+By done})
   _ ?_ ?_ _ _ ⟨[],l,rfl,hi,rfl,rfl⟩
  .rintro x rest b s' ⟨done,left,rfl,hl,hb,rfl⟩
   cases left with
   |nil=>unfold TksAre at hl;cases hl
   |cons k ks=>
    obtain⟨v,r,e,h1,hl'⟩:=hl
    cases e
    have hm:k∈done++k::ks:=aH _ aQ
    have dk:=Fb hm
    have dr:By (done++[k])=By done+Dq k:=by rw[Iq];show _+(Dq k+0)=_;omega
    have hh:Bh w (done++[k])=Bh w done++[Gb w k]:=by rw[Iv];rfl
    refine af (ih k hm (by first|omega|(show A.units+1+Ap k<cLine;omega)) h1 ?_)
    first
     |exact am ⟨done++[k],ks,by simp,hl',by rw[hh];simp[hb],by rw[dr];simp[iH]⟩
     |exact af (am (am ⟨done++[k],ks,by simp,hl',by rw[hh];simp[hb],by rw[dr];simp[iH]⟩))
  .rintro b s' ⟨done,left,rfl,hl,hb,rfl⟩
   cases left with
   |cons k ks=>unfold TksAre at hl;obtain⟨v,r,e,_⟩:=hl;cases e
   |nil=>
    rw[b7] at h
    show aR _ _ (retInt (cq b.toList)) _ _ _
    rw[hb]
    refine wpAny_ret_mkInt ?_
    show aR _ _ (if(decide (-(2:Int)^63<=cq (Bh w done))&&decide (cq (Bh w done)<2^63))=true then _ else _) Q E _
    have h:Q (reduceHash (cq (Bh w done))) {s with toks:=s.toks+(By done+1)}:=h
    unfold reduceHash at h
    by_cases hr:(decide (-(2:Int)^63<=cq (Bh w done))&&decide (cq (Bh w done)<2^63))=true
    .rw[if_pos hr]
     rw[if_pos hr] at h
     exact am (by simpa [iH] using h)
    .rw[if_neg hr]
     rw[if_neg hr] at h
     exact af (wpAny_rule (am (by simpa [iH] using h)))
 .exact λk h=>by cases h
 .intro k l h1 h2 x hx
  rcases List.mem_cons.mp hx with rfl|hx
  .exact h1
  .exact h2 x hx
theorem TkIs.inj{h:Heap}(x:TK):∀{y} {v},TkIs P w h x v->TkIs P w h y v->x=y:=by
 refine TK.rec (motive_1:=λx=>∀{y} {v},TkIs P w h x v->TkIs P w h y v->x=y) (motive_2:=λl=>∀{l'} {vs},TksAre P w h l vs->TksAre P w h l' vs->l=l') ?_ ?_ ?_ ?_ x
 .intro k y v h1 h2
  cases y with
  |at_ k'=>unfold TkIs at h2;rw[(Be P w).inj v k k' h1 h2]
  |tup l=>
   obtain⟨a,χ,rfl,_⟩:=h2
   rcases Ax h1 with⟨i,t,_,e⟩|⟨z,t,_,e⟩ <;> cases e
 .intro l ih y v h1 h2
  obtain⟨a,χ,rfl,t1,i1⟩:=h1
  cases y with
  |at_ k'=>
   rcases Ax h2 with⟨i,t,_,e⟩|⟨z,t,_,e⟩ <;> cases e
  |tup l'=>
   obtain⟨b,its',e,t2,i2⟩:=h2
   cases e
   obtain⟨o,ho,_,n,hd⟩:=t1
   obtain⟨o',ho',_,n',hd'⟩:=t2
   rw[ho] at ho'
   cases ho'
   rw[hd] at hd'
   cases hd'
   rw[ih i1 i2]
 .intro l' vs h1 h2
  subst h1
  cases l' with
  |nil=>rfl
  |cons k r=>unfold TksAre at h2;obtain⟨v,r',e,_⟩:=h2;cases e
 .intro k l ih1 ih2 l' vs h1 h2
  obtain⟨v,r,rfl,q1,q2⟩:=h1
  cases l' with
  |nil=>unfold TksAre at h2;cases h2
  |cons k' l'=>
   obtain⟨v',r',e,q3,q4⟩:=h2
   cases e
   rw[ih1 q1 q3,ih2 q2 q4]
def TkIs.up{h h':Heap}(k:∀a χ,nu h a χ->nu h' a χ)(x:TK):∀{v},TkIs P w h x v->TkIs P w h' x v:=by
 refine TK.rec (motive_1:=λx=>∀{v},TkIs P w h x v->TkIs P w h' x v) (motive_2:=λl=>∀{vs},TksAre P w h l vs->TksAre P w h' l vs) ?_ ?_ ?_ ?_ x
 .intro k v q;unfold TkIs at q ⊢;exact q
 .intro l ih v q
  obtain⟨a,χ,e,t,i⟩:=q
  exact⟨a,χ,e,k a χ t,ih i⟩
 .intro vs q;unfold TksAre at q ⊢;exact q
 .intro x l h1 h2 vs q
  obtain⟨v,r,e,q1,q2⟩:=q
  exact⟨v,r,e,h1 q1,h2 q2⟩
theorem TksAre.len{h:Heap}:∀{l} {vs},TksAre P w h l vs->vs.length=l.length
 |[],vs,q=>by unfold TksAre at q;rw[q];rfl
 | k::l,vs,q=>by
  obtain⟨v,r,rfl,_,q2⟩:=q
  rw[aK,aK,TksAre.len q2]
theorem TksAre.get{h:Heap}:∀{l} {vs}{j:Nat}{v:Value},TksAre P w h l vs->vs[j]?=some v -> ∃k,l[j]?=some k/\TkIs P w h k v
 |[],vs,j,v,q,e=>by unfold TksAre at q;rw[q] at e;simp at e
 | k::l,vs,j,v,q,e=>by
  obtain⟨v',r,rfl,q1,q2⟩:=q
  cases j with
  |zero=>
   have:v'=v:=by simpa using e
   exact⟨k,rfl,this▸q1⟩
  |succ j=>
   obtain⟨k',e1,e2⟩:=TksAre.get q2 (show r[j]?=some v by simpa using e)
   exact⟨k',by simpa using e1,e2⟩
def Qa{k:Key}{v:Value}(h:(Be P w).is k v=true):RelV (kV k) v:=by
 rcases Ax h with⟨i,t,rfl,rfl⟩|⟨x,t,rfl,rfl⟩ <;> exact⟨t,rfl⟩
def P9(k:Key):Br (kV k)=true:=by cases k <;> rfl
def ag6(k k':Key):decide (TK.at_ k=TK.at_ k')=eqV (kV k) (kV k'):=by
 have e:(TK.at_ k=TK.at_ k')↔k=k':=⟨λh=>by injection h,λh=>by rw[h]⟩
 rw[b5,decide_eq_true_iff,e]
 cases k with
 |inl i=>
  cases k' with
  |inl j=>show _↔(i==j)=true;rw[beq_iff_eq];exact⟨λh=>by injection h,λh=>by rw[h]⟩
  |inr y=>exact⟨λh=>(nomatch h),λh=>absurd (h) aC⟩
 |inr x=>
  cases k' with
  |inl j=>exact⟨λh=>(nomatch h),λh=>absurd (h) aC⟩
  |inr y=>show _↔(x==y)=true;rw[beq_iff_eq];exact⟨λh=>by injection h,λh=>by rw[h]⟩
def al0{l l':List TK}(z:TK)(h:l.length=l'.length):decide (l=l')=(aV l.length).all λj=>decide (l.getD j z=l'.getD j z):=by
 rw[b5,decide_eq_true_iff,bj]
 refine⟨λe j _=>by rw[e];exact decide_eq_true rfl,λq=>List.ext_getElem h λi h1 h2=>?_⟩
 have:=of_decide_eq_true (q i (List.mem_range.mpr h1))
 rwa[au,au,ai h1,ai h2] at this
def b91(x:TK):∀{y} {A} {s} {u v},A.units+Ap x<cLine->TkIs P w s.heap x u->TkIs P w s.heap y v->bB A s u v (decide (x=y)):=by
 refine TK.rec (motive_1:=λx=>∀{y} {A}{s:aw}{u v:Value},A.units+Ap x<cLine->TkIs P w s.heap x u->TkIs P w s.heap y v->bB A s u v (decide (x=y)))
  (motive_2:=λl=>∀x∈l,∀{y:TK}{A:bF}{s:aw}{u v:Value},A.units+Ap x<cLine->TkIs P w s.heap x u->TkIs P w s.heap y v->bB A s u v (decide (x=y))) ?_ ?_ ?_ ?_ x
 .intro k y A s u v hu h1 h2
  have hu:=hu
  cases y with
  |at_ k'=>unfold TkIs at h2;rw[ag6];exact P1 (Qa h1) (Qa h2) (P9 k) (P9 k')
  |tup l=>
   obtain⟨a,χ,rfl,t,_⟩:=h2
   rw[decide_eq_false (λz=>by cases z)]
   rcases Ax h1 with⟨i,t',rfl,rfl⟩|⟨x,t',rfl,rfl⟩
   .exact .int_tuple i t' t (by omega)
   .exact .str_tuple x t' t (by omega)
 .intro l ih y A s u v hu h1 h2
  have hd:A.units+(Cp l+1)<cLine:=hu
  have h0:=h1
  obtain⟨a,χ,rfl,t1,i1⟩:=h1
  cases y with
  |at_ k'=>
   rw[decide_eq_false (λz=>by cases z)]
   rcases Ax h2 with⟨i,t',rfl,rfl⟩|⟨x,t',rfl,rfl⟩
   .exact .tuple_int i t' t1 (by omega)
   .exact .tuple_str x t' t1 (by omega)
  |tup l'=>
   have h3:=h2
   obtain⟨b,its',rfl,t2,i2⟩:=h2
   by_cases e:a=b
   .subst e
    rw[decide_eq_true (TkIs.inj _ h0 h3)]
    exact .same _
   refine .of_refs e ?_
   have e1:=i1.len
   have e2:=i2.len
   have T:=js (A:=A) (e:=λj=>decide (l.getD j (.tup [])=l'.getD j (.tup []))) t1 t2 (by omega) λj q1 q2=>by
    obtain⟨k1,g1,r1⟩:=i1.get (j:=j) (v:=χ[j]) (by simp[q1])
    obtain⟨k2,g2,r2⟩:=i2.get (j:=j) (v:=its'[j]) (by simp[q2])
    have hm:=aj g1
    have:=Fb hm
    rw[au,au,g1,g2]
    exact ih k1 hm (by show A.units+1+Ap k1<cLine;omega) r1 r2
   have dt:decide (TK.tup l=TK.tup l')=decide (l=l'):=by
    rw[b5,decide_eq_true_iff,decide_eq_true_iff]
    exact⟨λh=>by injection h,λh=>by rw[h]⟩
   rw[dt]
   have s1:χ.size=l.length:=by rw[<- e1];simp
   have s2:its'.size=l'.length:=by rw[<- e2];simp
   rw[s1,s2] at T
   by_cases hl:l.length=l'.length
   .rw[al0 (.tup []) hl]
    rw[hl,mn,beq_self_eq_true,gS] at T
    rw[hl]
    exact T
   .rw[decide_eq_false λz=>hl (by rw[z])]
    rw[beq_eq_false_iff_ne.mpr hl,ij] at T
    exact T
 .exact λk h=>by cases h
 .intro k l h1 h2 x hx
  rcases List.mem_cons.mp hx with rfl|hx
  .exact h1
  .exact h2 x hx
def av5(x:TK):∀{n} {A} {E} {s} {v} {Q},Ap x<=n->TkIs P w s.heap x v->Q true s->aR (model P w) A (mK n v) Q E s:=by
 refine TK.rec (motive_1:=λx=>∀{n} {A} {E}{s:aw}{v:Value}{Q:Bool->aw->Prop},Ap x<=n->TkIs P w s.heap x v->Q true s->aR (model P w) A (mK n v) Q E s)
  (motive_2:=λl=>∀x∈l,∀{n:Nat}{A:bF}{E:Value->aw->Prop}{s:aw}{v:Value}{Q:Bool->aw->Prop},Ap x<=n->TkIs P w s.heap x v->Q true s->aR (model P w) A (mK n v) Q E s) ?_ ?_ ?_ ?_ x
 .intro k n A E s v Q _ hk h
  rw[eqIsQuiet_byValue _ ((Be P w).byValue _ _ hk)]
  exact am h
 .intro l ih n A E s v Q hn hk h
  have hn:Cp l+1<=n:=hn
  obtain⟨m,rfl⟩:∃m,n=m+1:=⟨n-1,by omega⟩
  obtain⟨a,ψ,rfl,ht,hi⟩:=hk
  have hT:=ht.typeIs
  obtain⟨o,ho,hc,n',hd⟩:=ht
  unfold mK
  refine af (kI hT F.slot_tuple_eq.lookup ?_)
  refine af (jV hT isSubtype_tuple_tuple ?_)
  refine af (wpAny_seqItems ho hd ?_)
  refine af ?_
  rw[<- i3]
  refine wpAny_forIn_list _ (λrest r s'=>r.1=none/\s'=s/\∀v∈rest,∃k∈l,TkIs P w s.heap k v) _ ?_ ?_ _ _ ⟨rfl,rfl,λv hv=>?_⟩
  .rintro v rest r s' ⟨hr,rfl,hall⟩
   obtain⟨k,hk,q⟩:=hall v aQ
   have:=Fb hk
   refine af (ih k hk (by omega) q ?_)
   exact am ⟨rfl,rfl,λu hu'=>hall u (av _ hu')⟩
  .rintro⟨r1,r2⟩ s' ⟨hr,rfl,_⟩
   subst hr
   exact am h
  .obtain⟨j,hj⟩:=List.mem_iff_getElem?.mp hv
   obtain⟨k,e,q⟩:=hi.get hj
   exact⟨k,aj e,q⟩
 .exact λk h=>by cases h
 .intro k l h1 h2 x hx
  rcases List.mem_cons.mp hx with rfl|hx
  .exact h1
  .exact h2 x hx
noncomputable def Di(P:aW)(w:bC):HeapKind P w TK where
 is h k a:=Ap k<=8/\TkIs P w h k (.ref a)
 hash:=Gb w
 draws:=Dq
 room A:=A.units+8<cLine
 inj hx hy:=TkIs.inj _ hx.2 hy.2
 keeps x ho hd hs:=⟨x.1,x.2.up (λa χ ⟨o',h1,h2,n,h3⟩=>⟨o',(hs.2 a (by
  rintro rfl
  rw[ho] at h1
  cases h1
  rw[hd] at h3
  cases h3)).trans h1,h2,n,h3⟩) _⟩
 pyHash hu hk h:=ac0 _ (by have:=hk.1;omega) hk.2 h
 eqBool hu hx hy h:=b91 _ (by have:=hx.1;omega) hx.2 hy.2 _ _ _ _ h
 quiet hk h:=av5 _ hk.1 hk.2 h
end
inductive HO where
 |lst (xs:List V)
 |tup (xs:List V)
 |dK (kvs:List (Key×V))|dT (kvs:List (TK×V))
 |ins (C dx:Addr) (fs:List (Str×V))
 |own (x:Addr)
 |frz (o:Obj) (u:HO)
 |tbl (ps:Array Value)
 |ext (φ:Heap->Prop)
abbrev Hp:=Addr->Option HO
def upd(H:Hp)(a:Addr)(o:HO):Hp:=λb=>if b=a then some o else H b
def Aa{H:Hp}{a:Addr}{o:HO}:upd H a o a=some o:=by unfold upd;rw[if_pos rfl]
def Ad{H:Hp}{a b:Addr}{o:HO}(h:b≠a):upd H a o b=H b:=by unfold upd;rw[if_neg h]
def bz3{H:Hp}{a b:Addr}{o u:HO}(h:H a=some o)(h':H b=some u)(d:o≠u):a≠b:=by
 intro e;subst e;rw[h] at h';exact d (az h')
def Ai{H:Hp}{a b:Addr}{o:HO}(h:H a=some o)(h':H b=none):a≠b:=by
 intro e;subst e;rw[h] at h';cases h'
mutual
def TkAt(H:Hp):TK->V->Prop
 |.at_ k,v=>v=kV k
 |.tup l,v=>∃a xs,v=.ref a/\H a=some (.tup xs)/\A7 H l xs
def A7(H:Hp):List TK->List V->Prop
 |[],vs=>vs=[]
 |k::ks,vs=>∃v r,vs=v::r/\TkAt H k v/\A7 H ks r
end
def TkAt.up{H H':Hp}(h:∀b ys,H b=some (.tup ys)->H' b=some (.tup ys))(x:TK):∀{v},TkAt H x v->TkAt H' x v:=by
 refine TK.rec (motive_1:=λx=>∀{v},TkAt H x v->TkAt H' x v) (motive_2:=λl=>∀{vs},A7 H l vs->A7 H' l vs) ?_ ?_ ?_ ?_ x
 .intro k v q;unfold TkAt at q ⊢;exact q
 .intro l ih v q
  obtain⟨a,xs,e,t,i⟩:=q
  exact⟨a,xs,e,h _ _ t,ih i⟩
 .intro vs q;unfold A7 at q ⊢;exact q
 .intro x l h1 h2 vs q
  obtain⟨v,r,e,q1,q2⟩:=q
  exact⟨v,r,e,h1 q1,h2 q2⟩
section
variable (P:aW) (w:bC)
noncomputable def ObjOk(H:Hp)(h:Heap)(a:Addr):HO->Prop
 |.lst xs=>xs.length<=sizeLine/\∃χ n,Vals xs χ/\h.get? a=some {cls:=.type "list", data:=.seq χ.toArray n}
 |.tup xs=>xs.length<=sizeLine/\∃χ,Vals xs χ/\nu h a χ.toArray
 |.dK kvs=>kvs.length<=sizeLine/\(a==c7)=false/\∃vs,KV kvs vs/\h.DictOf (Be P w) a vs
 | .dT kvs=>kvs.length<=sizeLine/\(a==c7)=false/\∃xs,
   ir (λp q=>p.1=q.1/\(Ap p.1<=8/\TkAt H p.1 (.ref q.2.1))/\RelV p.2 q.2.2) kvs xs /\
   ∃o es ep,h.get? a=some o/\o.ExactDict/\o.data=.dict es ep/\es.toList=xs.map (entryOfKey (Di P w))/\(xs.map (·.1)).Nodup
 | .ins C dx fs=>H dx=some (.own a)/\fs.length<=1000/\dx≠a/\h.get? a=some (dM C dx) /\
   ∃mA,h.Ns1 dx mA/\(∀f,RelO (fs.lookup f) (mA f))/\fu mA (fs.map (·.1))
 |.own _=>∃o,h.get? a=some o
 |.frz o u=>h.get? a=some o/\ObjOk H h a u
 |.tbl ps=>h.get? a=some {cls:=.none,data:=.fields ps}
 |.ext φ=>φ h/\(∃o,h.get? a=some o)/\∀h1 h2,φ h1->(∀o,h1.get? a=some o->h2.get? a=some o)->φ h2
noncomputable def HOk(H:Hp)(h:Heap):Prop:=∀a o,H a=some o->ObjOk P w H h a o
end
section
variable {P:aW}{w:bC}{H H':Hp}{h h':Heap}{a:Addr}{o:HO}
theorem ObjOk.lt(x:ObjOk P w H h a o):a<h.objs.size:=by
 cases o with
 |lst xs=>obtain⟨_,_,_,_,e⟩:=x;exact aG e
 |tup xs=>obtain⟨_,_,_,p⟩:=x;exact p.lt
 |dK kvs=>obtain⟨_,_,_,_,o,_,_,e,_⟩:=x;exact aG e
 |dT kvs=>obtain⟨_,_,_,_,o,_,_,e,_⟩:=x;exact aG e
 |ins C dx fs=>obtain⟨_,_,_,e,_⟩:=x;exact aG e
 |own y=>obtain⟨_,e⟩:=x;exact aG e
 |frz ob u=>obtain⟨e,_⟩:=x;exact aG e
 |tbl ps=>exact aG (x)
 |ext φ=>obtain⟨_,⟨_,e⟩,_⟩:=x;exact aG e
theorem Paired.mapP{α β:Type}{F G:α->β->Prop}:∀{l₁} {l₂},ir F l₁ l₂->(∀a b,F a b->G a b)->ir G l₁ l₂
 |_,_,.nil,_=>.nil
 |_,_,.cons r t,f=>.cons (f _ _ r) (Paired.mapP t f)
def ObjOk.stay(x:ObjOk P w H h a o)(k:∀b u,(b=a\/H b=some (.own a))->h.get? b=some u->h'.get? b=some u)(ho:∀b,H b=some (.own a)->H' b=some (.own a))(ht:∀b xs,H b=some (.tup xs)->H' b=some (.tup xs)):ObjOk P w H' h' a o:=by
 induction o with
 |lst xs=>obtain⟨z,χ,n,r,e⟩:=x;exact⟨z,χ,n,r,k _ _ (.inl rfl) e⟩
 |tup xs=>obtain⟨z,χ,r,ob,e,c⟩:=x;exact⟨z,χ,r,ob,k _ _ (.inl rfl) e,c⟩
 |dK kvs=>obtain⟨z,y,vs,r,ob,es,ep,e,c⟩:=x;exact⟨z,y,vs,r,ob,es,ep,k _ _ (.inl rfl) e,c⟩
 |dT kvs=>
  obtain⟨z,y,xs,r,ob,es,ep,e,c⟩:=x
  exact⟨z,y,xs,Paired.mapP r λp q z=>⟨z.1,⟨z.2.1.1,z.2.1.2.up ht _⟩,z.2.2⟩,ob,es,ep,k _ _ (.inl rfl) e,c⟩
 |ins C dx fs=>
  obtain⟨d,z,ne,e,mA,⟨od,es,ep,e2,c⟩,r⟩:=x
  exact⟨ho _ d,z,ne,k _ _ (.inl rfl) e,mA,⟨od,es,ep,k _ _ (.inr d) e2,c⟩,r⟩
 |own y=>obtain⟨ob,e⟩:=x;exact⟨ob,k _ _ (.inl rfl) e⟩
 |frz ob u ih=>obtain⟨e,q⟩:=x;exact⟨k _ _ (.inl rfl) e,ih q⟩
 |tbl ps=>
  have e:=x
  exact k a _ (.inl rfl) e
 |ext φ=>obtain⟨p,⟨o,e⟩,st⟩:=x;exact⟨st _ _ p λo q=>k _ _ (.inl rfl) q,⟨o,k _ _ (.inl rfl) e⟩,st⟩
theorem HOk.lt(x:HOk P w H h)(e:H a=some o):a<h.objs.size:=(x a o e).lt
def HOk.fresh(x:HOk P w H h)(e:h.objs.size<=a):H a=none:=by
 cases q:H a with
 |none=>rfl
 |some u=>exact absurd (aL (x.lt q) e) (gj _)
def HOk.kept(x:HOk P w H h)(k:∀b u,h.get? b=some u->h'.get? b=some u):HOk P w H h':=λa o e=>
 (x a o e).stay (λb u _ q=>k b u q) (λ_ q=>q) λ_ _ q=>q
def HOk.laid(x:HOk P w H h)(k:∀b u,h.get? b=some u->h'.get? b=some u)(hp:h.objs.size<=a)(new:ObjOk P w (upd H a o) h' a o):HOk P w (upd H a o) h':=λb u e=>by
 have hn:=x.fresh hp
 by_cases hb:b=a
 .subst hb;rw[Aa] at e;cases e;exact new
 .rw[Ad hb] at e
  exact(x b u e).stay (λc v _ q=>k c v q) (λc q=>by rw[Ad (Ai q hn)];exact q) λc xs q=>by rw[Ad (Ai q hn)];exact q
end
def Rd(H:Hp)(a:Addr)(u:HO):Prop:=H a=some u \/ ∃o,H a=some (.frz o u)
def Rd.ok(r:Rd H a u)(x:HOk P w H h):ObjOk P w H h a u:=by
 rcases r with r|⟨o,r⟩
 .exact x a u r
 .obtain⟨_,q⟩:=x a _ r
  exact q
def Mut:Option HO->Prop
 |some (.lst _)=>True
 |some (.dK _)=>True
 |some (.dT _)=>True
 |some (.ins _ _ _)=>True
 |some (.ext _)=>True
 |_=>False
section
variable {P:aW}{w:bC}{H:Hp}{h h':Heap}{x e:Addr}{o':HO}
def HOk.write(ok:HOk P w H h)(mu:Mut (H x))(he:e=x\/H e=some (.own x))(k:∀b u,b≠e->h.get? b=some u->h'.get? b=some u)(heo:∃u,h'.get? e=some u)(new:ObjOk P w (upd H x o') h' x o'):HOk P w (upd H x o') h':=λb u q=>by
 have nown:∀c y,H c=some (.own y)->c≠x:=λc y r z=>by subst z;rw[r] at mu;exact mu
 have ntup:∀c xs,H c=some (.tup xs)->c≠x:=λc xs r z=>by subst z;rw[r] at mu;exact mu
 by_cases hb:b=x
 .subst hb;rw[Aa] at q;cases q;exact new
 .rw[Ad hb] at q
  by_cases hbe:b=e
  .have q':H b=some (.own x):=by
    rcases he with z|z
    .exact absurd (hbe.trans z) hb
    .rw[hbe];exact z
   rw[q] at q';cases q'
   obtain⟨v,hv⟩:=heo
   exact⟨v,by rw[hbe];exact hv⟩
  .refine (ok b u q).stay (λc v hc r=>k c v ?_ r) (λc r=>by rw[Ad (nown c b r)];exact r) λc xs r=>by rw[Ad (ntup c xs r)];exact r
   rcases hc with rfl|hc
   .exact hbe
   .rintro rfl
    rcases he with z|z
    .exact nown c b hc z
    .rw[hc] at z;cases z;exact hb rfl
end
structure Un (fs ex:List Addr) (H H':Hp) (h h':Heap):Prop where
 keep:∀b o,h.get? b=some o->H b=none->b∉fs->b∉ex->h'.get? b=some o
 slot:∀b o,h.get? b=some o->H b=none->b∈fs->b∉ex -> ∃sl,h'.get? b=some {o with slots:=sl}
 free:∀b o,h.get? b=some o->H b=none->b∉ex->H' b=none
 there:∀b o,h.get? b=some o->b∉ex -> ∃o',h'.get? b=some o'
 tups:∀b xs,H b=some (.tup xs)->H' b=some (.tup xs)
 frzs:∀b o u,H b=some (.frz o u)->H' b=some (.frz o u)
 tbls:∀b ps,H b=some (.tbl ps) -> ∃more,H' b=some (.tbl (ps++more))
section
variable {fs fs' ex ex':List Addr}{H H1 H2:Hp}{h h1 h2 h':Heap}{a x e:Addr}{o:HO}
def Un.any(u:Un fs ex H H1 h h1)(q:h.get? b=some ob)(n:H b=none)(hx:b∉ex):∃sl,h1.get? b=some {ob with slots:=sl}:=by
 by_cases hb:b∈fs
 .exact u.slot b ob q n hb hx
 .exact⟨ob.slots,u.keep b ob q n hb hx⟩
def Un.kept(k:∀b u,h.get? b=some u->h'.get? b=some u):Un fs ex H H h h':=
 ⟨λb ob q _ _ _=>k b ob q,λb ob q _ _ _=>⟨ob.slots,k b ob q⟩,λ_ _ _ n _=>n,λb ob q _=>⟨ob,k b ob q⟩,λ_ _ q=>q,λ_ _ _ q=>q,λ_ ps q=>⟨#[],by rw[q];simp⟩⟩
def Un.refl:Un fs ex H H h h:=Un.kept λ_ _ q=>q
def Un.laid(k:∀b u,h.get? b=some u->h'.get? b=some u)(hp:h.objs.size<=a)(hn:H a=none):Un fs ex H (upd H a o) h h' where
 keep:=λb u q _ _ _=>k b u q
 slot:=λb u q _ _ _=>⟨u.slots,k b u q⟩
 free:=λb u q n _=>by rw[Ad (aN (aL (aG q) hp))];exact n
 there:=λb u q _=>⟨u,k b u q⟩
 tups:=λb xs q=>by rw[Ad (Ai q hn)];exact q
 frzs:=λb u xs q=>by rw[Ad (Ai q hn)];exact q
 tbls:=λb ps q=>⟨#[],by rw[Ad (Ai q hn),q];simp⟩
def Un.write(mu:Mut (H x))(he:e=x\/H e=some (.own x))(k:∀b u,b≠e->h.get? b=some u->h'.get? b=some u)(heo:∃u,h'.get? e=some u):Un fs ex H (upd H x o) h h':=by
 have hx:∀b,H b=none->b≠x:=λb n z=>by subst z;rw[n] at mu;exact mu
 have hb:∀b,H b=none->b≠e:=λb n z=>by
  subst z
  rcases he with r|r
  .exact hx b n r
  .rw[n] at r;cases r
 have hm:∀b u,H b=some u -> ¬ Mut (some u)->b≠x:=λb u q nm z=>by subst z;rw[q] at mu;exact nm mu
 refine⟨λb u q n _ _=>k b u (hb b n) q,λb u q n _ _=>⟨u.slots,k b u (hb b n) q⟩,λb u q n _=>by rw[Ad (hx b n)];exact n,λb u q _=>?_,
  λb xs q=>by rw[Ad (hm b _ q λz=>z)];exact q,λb u xs q=>by rw[Ad (hm b _ q λz=>z)];exact q,λb ps q=>⟨#[],by rw[Ad (hm b _ q λz=>z),q];simp⟩⟩
 by_cases hbe:b=e
 .subst hbe;exact heo
 .exact⟨u,k b u hbe q⟩
end
def trk(h:Heap)(H:Hp):List Addr:=(aV h.objs.size).filter λa=>(H a).isSome
def P6(h:Heap)(H:Hp):Heap:=PySem.W.hideAll h (trk h H)
def Zn(h:Heap)(H:Hp):(P6 h H).objs.size=h.objs.size:=PySem.W.hideAll_size _ _
def ak0(e:h.get? b=some o)(n:H b=none):(P6 h H).get? b=some o:=
 PySem.W.hideAll_get _ e λhm=>by
  have q:=(List.mem_filter.mp hm).2
  rw[n] at q;simp at q
def a26(e:(P6 h H).get? b=some o):h.get? b=some o/\H b=none:=by
 have e':=PySem.W.of_hideAll (trk h H) e
 refine⟨e',?_⟩
 cases q:H b with
 |none=>rfl
 |some x=>
  have hm:b∈trk h H:=List.mem_filter.mpr ⟨List.mem_range.mpr (aG e'),by simp[q]⟩
  have z:(P6 h H).get? b=none:=PySem.W.hideAll_none (trk h H) hm
  rw[z] at e;cases e
structure Mod (K:ac) (mg:Str->Option Value) (base:Heap):Prop where
 kin:K.In base
 glob:base.Ns mainGlobals mg
 blt:∃mb,base.Ns ju mb/\∀x:Str,x ≠ "__name__" -> mb x=cG x
 nolimit:base.NoLimit
structure Cx where
 prog:aW
 w:bC
 K:ac
 mg:Str->Option Value
 base:Heap
 A:bF
 N:List Str
 s₀:aw
 H₀:Hp
 env:Env
 outer:List Env
 stack:List Env
 ex:List Addr
 fn:Str->Bool
 calm:Bool
 pn:List (Addr×Obj)
 xe:Value->aw->Prop
def frs(l:List Env):List Addr:=l.filterMap (·.frame)
abbrev Cx.fs(X:Cx):List Addr:=frs X.outer
def Vis(sc:Scope)(x:Str):Prop:=sc.names.lookup x=some .local\/sc.names.lookup x=some .cell\/sc.names.lookup x=some .free
def Loc(sc:Scope)(x:Str):Prop:=sc.names.lookup x=some .local\/sc.names.lookup x=some .cell
def b98(env:Env)(h:Heap)(m:Str->Option Value)(x:Str)(u:Value):Prop:=
 (env.kindOf x=some .local/\m x=some u)\/((env.kindOf x=some .cell\/env.kindOf x=some .free)/\∃c,env.cells.lookup x=some c/\h.IsCell c (some u))
def Xo(_:ac)(_:Nat):Prop:=True
structure Cx.Ok (X:Cx):Prop where
 mod:Mod X.K X.mg X.base
 kind:X.env.scope.kind=.function
 glob:X.env.globals=mainGlobals
 blt:X.env.builtins=ju
 above:X.s₀.heap.objs.size<=X.env.locals
 inj:∀x y c,X.env.cells.lookup x=some c->X.env.cells.lookup y=some c->x=y
 has:∀x,(X.env.kindOf x=some .cell\/X.env.kindOf x=some .free) -> ∃c,X.env.cells.lookup x=some c
 cab:∀x c,X.fn x=true->X.env.cells.lookup x=some c->X.s₀.heap.objs.size<=c
 hd:X.calm=true->X.A.handled=none
 frames:X.A.frames=some X.stack
 stk:X.stack=X.outer\/(X.stack=X.env::X.outer/\X.env.frame=some X.env.locals)
 exf:∀b∈X.ex,b≠X.env.locals/\∀x c,X.env.cells.lookup x=some c->c≠b
 bs:∀b o,X.base.get? b=some o->X.s₀.heap.get? b=some o/\X.H₀ b=none
 bsz:X.base.objs.size<=X.s₀.heap.objs.size
 noex:∀b o,X.base.get? b=some o->b∉X.ex
 exfs:∀b∈X.ex,b∉X.fs
 funs:X.s₀.heap.FunFrames X.base X.outer
 frf:∀b∈X.fs,X.H₀ b=none
 tk:Xo X.K X.s₀.toks
structure Inv (X:Cx) (ξ:List (Addr×Obj)) (σ:List (Option V)) (H:Hp) (s:aw):Prop where
 ok:X.Ok
 os:s.os=X.s₀.os/\X.s₀.toks<=s.toks
 bare:j2 s.gens
 base:Un X.fs X.ex X.H₀ H X.s₀.heap s.heap
 loc:∃m,s.heap.Ns X.env.locals m/\∀(i:Nat)(x:Str)(v:V),X.N[i]?=some x->σ[i]?=some (some v)->Vis X.env.scope x -> ∃u,RelV v u/\b98 X.env s.heap m x u
 cell:∀x c,X.env.cells.lookup x=some c -> ∃v,s.heap.IsCell c v
 free:H X.env.locals=none
 freeC:∀x c,X.env.cells.lookup x=some c->H c=none
 pin:∀p∈X.pn++ξ,s.heap.get? p.1=some p.2/\H p.1=none/\p.1≠X.env.locals/\p.1∉X.fs/\∀v,p.2.data≠.cell v
 hok:HOk X.prog X.w H s.heap
 len:σ.length=X.N.length
section
variable {X:Cx}{ξ:List (Addr×Obj)}{σ:List (Option V)}{H H':Hp}{s:aw}{h':Heap}
def Cx.Ok.nofr(ok:X.Ok)(e:X.base.get? b=some o):b∉X.fs:=λhb=>by
 have:=(ok.funs.mem hb).1
 rw[e] at this;cases this
theorem Inv.bs(I:Inv X ξ σ H s):∀b o,X.base.get? b=some o->s.heap.get? b=some o/\H b=none:=λb o e=>
 ⟨I.base.keep b o (I.ok.bs b o e).1 (I.ok.bs b o e).2 (I.ok.nofr e) (I.ok.noex b o e),I.base.free b o (I.ok.bs b o e).1 (I.ok.bs b o e).2 (I.ok.noex b o e)⟩
def Inv.bk(I:Inv X ξ σ H s):∀b o,X.base.get? b=some o->s.heap.get? b=some o:=λb o e=>(I.bs b o e).1
theorem Inv.mod(I:Inv X ξ σ H s):Mod X.K X.mg X.base:=I.ok.mod
def Inv.kIn(I:Inv X ξ σ H s):X.K.In s.heap:=I.ok.mod.kin.keeps I.bk
theorem Inv.lt(I:Inv X ξ σ H s):X.env.locals<s.heap.objs.size:=let⟨_,hn,_⟩:=I.loc;hn.lt
def Inv.sz(I:Inv X ξ σ H s):X.s₀.heap.objs.size<=s.heap.objs.size:=aU I.ok.above (fW I.lt)
def Inv.nofs(I:Inv X ξ σ H s)(h:s.heap.objs.size<=a):a∉X.fs:=λhb=>by
 obtain⟨_,o,ho,_⟩:=I.ok.funs.mem hb
 exact absurd (aL (aG ho) (aU I.sz h)) (gj _)
def Inv.cne(I:Inv X ξ σ H s):∀x c,X.env.cells.lookup x=some c->c≠X.env.locals:=λx c e z=>by
 obtain⟨v,o,ho,hd⟩:=I.cell x c e
 obtain⟨m,⟨o',es,ep,ho',hd',_⟩,_⟩:=I.loc
 rw[z,ho'] at ho;cases ho;rw[hd'] at hd;cases hd
theorem Inv.funs(I:Inv X ξ σ H s):s.heap.FunFrames X.base X.outer:=by
 have all:∀l,(∀b∈frs l,b∈X.fs)->X.s₀.heap.FunFrames X.base l->s.heap.FunFrames X.base l:=by
  intro l
  induction l with
  |nil=>intro _ _;trivial
  |cons env r ih=>
   intro hs hl
   obtain⟨hk,⟨L,o,hf,hn,ho,hd⟩,hr⟩:=hl
   have hL:=hs L (by unfold frs;rw[iM,hf];exact aQ)
   obtain⟨sl,e⟩:=I.base.slot L o ho (I.ok.frf L hL) hL λz=>I.ok.exfs L z hL
   exact⟨hk,⟨L,_,hf,hn,e,hd⟩,ih (λb hb=>hs b (by unfold frs;rw[iM,hf];exact av _ hb)) hr⟩
 exact all X.outer (λ_ hb=>hb) I.ok.funs
theorem Inv.stack(I:Inv X ξ σ H s):s.heap.FunFrames X.base X.stack:=by
 rcases I.ok.stk with e|⟨e,hf⟩
 .rw[e];exact I.funs
 .rw[e]
  obtain⟨m,hn,_⟩:=I.loc
  exact .cons (by rw[I.ok.kind];decide) hf hn (iE (aU I.ok.bsz I.ok.above)) I.funs
def Inv.stkSub(I:Inv X ξ σ H s):∀b∈frs X.stack,b∈X.env.locals::X.fs:=λb hb=>by
 rcases I.ok.stk with e|⟨e,hf⟩
 .rw[e] at hb;exact av _ hb
 .rw[e] at hb
  unfold frs at hb
  rw[iM,hf] at hb
  exact hb
def Inv.stkFree(I:Inv X ξ σ H s):∀b∈frs X.stack,H b=none:=λb hb=>by
 rcases List.mem_cons.mp (I.stkSub b hb) with e|hb
 .rw[e];exact I.free
 .obtain⟨_,o,ho,_⟩:=I.ok.funs.mem hb
  exact I.base.free b o ho (I.ok.frf b hb) λz=>I.ok.exfs b z hb
def Inv.step{g':Array lO}{t':Nat}{d':Drawn}{ch:List Addr}(I:Inv X ξ σ H s)(hch:∀b∈ch,(b∈X.ex\/X.s₀.heap.objs.size<=b)/\b≠X.env.locals/\(∀x c,X.env.cells.lookup x=some c->c≠b)/\∀p∈X.pn++ξ,p.1≠b)(keep:∀b o,b≠X.env.locals->b∉X.fs->b∉ch->s.heap.get? b=some o->H b=none->h'.get? b=some o)(slot:∀b o,b≠X.env.locals->b∈X.fs->b∉ch->s.heap.get? b=some o->H b=none -> ∃sl,h'.get? b=some {o with slots:=sl})(free:∀b o,b∉ch->s.heap.get? b=some o->H b=none->H' b=none)(there:∀b o,b∉ch->s.heap.get? b=some o -> ∃o',h'.get? b=some o')(tups:∀b xs,H b=some (.tup xs)->H' b=some (.tup xs))(frzs:∀b o u,H b=some (.frz o u)->H' b=some (.frz o u))(tbls:∀b ps,H b=some (.tbl ps) -> ∃more,H' b=some (.tbl (ps++more)))(ns:∀m,s.heap.Ns X.env.locals m->h'.Ns X.env.locals m)(hok:HOk X.prog X.w H' h')(hg:j2 g')(ht:s.toks<=t':=by trivial) :
  Inv X ξ σ H' {s with heap:=h',gens:=g',drawn:=d',toks:=t'}:=by
 have neL:∀b o,X.s₀.heap.get? b=some o->b≠X.env.locals:=λb o e=>aN (aL (aG e) I.ok.above)
 have neC:∀b o,X.s₀.heap.get? b=some o->b∉X.ex->b∉ch:=λb o e hx hb=>by
  rcases(hch b hb).1 with z|z
  .exact hx z
  .exact absurd (aL (aG e) z) (gj _)
 have cellK:∀x c,X.env.cells.lookup x=some c -> ∀v,s.heap.IsCell c v->h'.IsCell c v:=λx c e v ⟨o,ho,hd⟩=>by
  have nch:c∉ch:=λz=>(hch c z).2.2.1 x c e rfl
  by_cases hc:c∈X.fs
  .obtain⟨sl,q⟩:=slot c o (I.cne x c e) hc nch ho (I.freeC x c e)
   exact⟨_,q,hd⟩
  .exact⟨o,keep c o (I.cne x c e) hc nch ho (I.freeC x c e),hd⟩
 refine⟨I.ok,⟨I.os.1,aU I.os.2 ht⟩,hg,⟨λb o e n hb hx=>?_,λb o e n hb hx=>?_,λb o e n hx=>?_,λb o e hx=>?_,λb xs e=>tups b xs (I.base.tups b xs e),λb o xs e=>frzs b o xs (I.base.frzs b o xs e),λb ps e=>?_⟩,?_,λx c e=>?_,?_,λx c e=>?_,λp hp=>?_,hok,I.len⟩
 .exact keep b o (neL b o e) hb (neC b o e hx) (I.base.keep b o e n hb hx) (I.base.free b o e n hx)
 .obtain⟨sl,e1⟩:=I.base.slot b o e n hb hx
  obtain⟨sl',e2⟩:=slot b _ (neL b o e) hb (neC b o e hx) e1 (I.base.free b o e n hx)
  exact⟨sl',e2⟩
 .obtain⟨o',e1⟩:=I.base.there b o e hx
  exact free b o' (neC b o e hx) e1 (I.base.free b o e n hx)
 .obtain⟨o',e1⟩:=I.base.there b o e hx
  exact there b o' (neC b o e hx) e1
 .obtain⟨m1,e1⟩:=I.base.tbls b ps e
  obtain⟨m2,e2⟩:=tbls b _ e1
  exact⟨m1++m2,by rw[e2,Array.append_assoc]⟩
 .obtain⟨m,hn,hl⟩:=I.loc
  refine⟨m,ns m hn,λi x v e1 e2 e3=>?_⟩
  obtain⟨u,r,l⟩:=hl i x v e1 e2 e3
  refine⟨u,r,?_⟩
  rcases l with l|⟨k,c,e,z⟩
  .exact .inl l
  .exact .inr ⟨k,c,e,cellK x c e _ z⟩
 .obtain⟨v,z⟩:=I.cell x c e
  exact⟨v,cellK x c e v z⟩
 .obtain⟨m,⟨o,_,_,ho,_⟩,_⟩:=I.loc
  exact free _ o (λz=>(hch _ z).2.1 rfl) ho I.free
 .obtain⟨v,o,ho,hd⟩:=I.cell x c e
  exact free c o (λz=>(hch c z).2.2.1 x c e rfl) ho (I.freeC x c e)
 .obtain⟨e,n,ne,nf,d⟩:=I.pin p hp
  have nch:p.1∉ch:=λz=>(hch p.1 z).2.2.2 p hp rfl
  exact⟨keep p.1 p.2 ne nf nch e n,free p.1 p.2 nch e n,ne,nf,d⟩
def Inv.un(I:Inv X ξ σ H s)(u:Un X.fs [] H H' s.heap h')(hok:HOk X.prog X.w H' h')(ht:s.toks<=t':=by trivial):Inv X ξ σ H' {s with heap:=h',toks:=t'}:=by
 obtain⟨m,⟨o,es,ep,ho,r⟩,_⟩:=I.loc
 obtain⟨sl,hL⟩:=u.any ho I.free (by simp)
 exact I.step (ch:=[]) (λ_ z=>nomatch z) (λb o _ hb _ e n=>u.keep b o e n hb (by simp)) (λb o _ hb _ e n=>u.slot b o e n hb (by simp)) (λb o _ e n=>u.free b o e n (by simp)) (λb o _ e=>u.there b o e (by simp)) u.tups u.frzs u.tbls (λm' hm=>by
  obtain⟨o',es',ep',ho',r'⟩:=hm
  rw[ho] at ho';cases ho'
  exact⟨_,es',ep',hL,r'⟩) hok I.bare
def Inv.call(I:Inv X ξ σ H s)(u:Un (frs X.stack) ch H H' s.heap h')(hok:HOk X.prog X.w H' h')(hg:j2 g')(hch:∀b∈ch,(b∈X.ex\/X.s₀.heap.objs.size<=b)/\b≠X.env.locals/\(∀x c,X.env.cells.lookup x=some c->c≠b)/\∀p∈X.pn++ξ,p.1≠b)(ht:s.toks<=t':=by trivial) :
  Inv X ξ σ H' {s with heap:=h',gens:=g',drawn:=d',toks:=t'}:=by
 obtain⟨m,⟨o,es,ep,ho,r⟩,_⟩:=I.loc
 obtain⟨sl,hL⟩:=u.any ho I.free λz=>(hch _ z).2.1 rfl
 exact I.step hch (λb o hL hb hc e n=>u.keep b o e n (λz=>(List.mem_cons.mp (I.stkSub b z)).elim hL hb) hc) (λb o _ _ hc e n=>u.any e n hc) (λb o hc e n=>u.free b o e n hc) (λb o hc e=>u.there b o e hc) u.tups u.frzs u.tbls (λm' hm=>by
  obtain⟨o',es',ep',ho',r'⟩:=hm
  rw[ho] at ho';cases ho'
  exact⟨_,es',ep',hL,r'⟩) hok hg
def Inv.turned{t':Nat}{it:Addr}(I:Inv X ξ σ H s)(k:∀b o,b≠it->s.heap.get? b=some o->h'.get? b=some o)(hn:H it=none)(hL:it≠X.env.locals)(h1:it∈X.ex\/X.s₀.heap.objs.size<=it)(h2:∀x c,X.env.cells.lookup x=some c->c≠it)(h3:∀p∈X.pn++ξ,p.1≠it)(ht:s.toks<=t':=by trivial):Inv X ξ σ H {s with heap:=h',toks:=t'}:=by
 have nit:∀b u,H b=some u->b≠it:=λb u e z=>by rw[z,hn] at e;cases e
 refine I.step (ch:=[it]) (λb hb=>?_) (λb o _ _ hc e _=>k b o (λz=>hc (by simp[z])) e) (λb o _ _ hc e _=>⟨o.slots,k b o (λz=>hc (by simp[z])) e⟩) (λ_ _ _ _ n=>n)
  (λb o hc e=>⟨o,k b o (λz=>hc (by simp[z])) e⟩) (λ_ _ e=>e) (λ_ _ _ e=>e) (λb ps e=>⟨#[],by rw[e];simp⟩) (λm hm=>?_) (λb u e=>?_) I.bare
 .have e:b=it:=by simpa using hb
  subst e
  exact⟨h1,hL,h2,h3⟩
 .obtain⟨o,es,ep,ho,r⟩:=hm
  exact⟨o,es,ep,k _ o (cg hL) ho,r⟩
 .refine (I.hok b u e).stay (λc v hc q=>k c v ?_ q) (λ_ q=>q) λ_ _ q=>q
  rcases hc with z|z
  .rw[z];exact nit b u e
  .exact nit c _ z
def Inv.tok(I:Inv X ξ σ H s)(t:Nat)(ht:s.toks<=t:=by trivial):Inv X ξ σ H {s with toks:=t}:=I.un Un.refl I.hok ht
theorem Inv.kept(I:Inv X ξ σ H s)(k:∀b u,s.heap.get? b=some u->h'.get? b=some u)(ht:s.toks<=t':=by trivial):Inv X ξ σ H {s with heap:=h',toks:=t'}:=I.un (Un.kept k) (I.hok.kept k) ht
theorem Inv.laid(I:Inv X ξ σ H s)(k:∀b u,s.heap.get? b=some u->h'.get? b=some u)(hp:s.heap.objs.size<=a)(new:ObjOk X.prog X.w (upd H a o) h' a o)(ht:s.toks<=t':=by trivial) :
  Inv X ξ σ (upd H a o) {s with heap:=h',toks:=t'}:=I.un (Un.laid k hp (I.hok.fresh hp)) (I.hok.laid k hp new) ht
theorem Inv.write(I:Inv X ξ σ H s)(mu:Mut (H x))(he:e=x\/H e=some (.own x))(k:∀b u,b≠e->s.heap.get? b=some u->h'.get? b=some u)(heo:∃u,h'.get? e=some u)(new:ObjOk X.prog X.w (upd H x o) h' x o)(ht:s.toks<=t':=by trivial):Inv X ξ σ (upd H x o) {s with heap:=h',toks:=t'}:=I.un (Un.write mu he k heo) (I.hok.write mu he k heo new) ht
def Inv.pins_of(I:Inv X ξ σ H s)(h:∀p∈pins',s.heap.get? p.1=some p.2/\H p.1=none/\p.1≠X.env.locals/\p.1∉X.fs/\∀v,p.2.data≠.cell v):Inv X pins' σ H s:=
 ⟨I.ok,I.os,I.bare,I.base,I.loc,I.cell,I.free,I.freeC,λp hp=>(List.mem_append.mp hp).elim (λz=>I.pin p (bx _ z)) (h p),I.hok,I.len⟩
def Mg{N:List Str}(hN:N.Nodup){i j:Nat}{x:Str}(a:N[i]?=some x)(b:N[j]?=some x):i=j:=by
 obtain⟨h1,e1⟩:=List.getElem?_eq_some_iff.mp a
 obtain⟨h2,e2⟩:=List.getElem?_eq_some_iff.mp b
 exact(dA hN).mp (e1.trans e2.symm)
def ab7(I:Inv X ξ σ H s)(hN:X.N.Nodup)(hi:X.N[i]?=some x)(hx:Loc X.env.scope x)(r:RelV v u)(h:∀s',Inv X ξ (σ.set i (some v)) H s'->(∃a,bO a s.heap s'.heap/\(a=X.env.locals\/X.env.cells.lookup x=some a))->Q () s')(hf:X.fn x=true\/X.env.scope.names.lookup x=some .local:=by first|exact .inl rfl|exact .inr rfl|assumption):aR M A (storeName X.env x u) Q E s:=by
 obtain⟨m,hn,hl⟩:=I.loc
 have hcls:(X.env.scope.kind==.class||(X.env.scope.kind==.module&&X.env.locals != X.env.globals))=false:=by rw[I.ok.kind];rfl
 have hiσ:i<σ.length:=by rw[I.len];exact(List.getElem?_eq_some_iff.mp hi).1
 have cne:=I.cne
 have tracked:∀{a} {h'},(∃o,s.heap.get? a=some o/\H a=none)->bO a s.heap h'->HOk X.prog X.w H h':=λ{a h'} ha hs b ob e=>by
  obtain⟨_,_,hfree⟩:=ha
  refine(I.hok b ob e).stay (λc w' hc q=>(hs.2 c ?_).trans q) (λ_ q=>q) λ_ _ q=>q
  rintro rfl
  rcases hc with rfl|hc
  .rw[hfree] at e;cases e
  .rw[hfree] at hc;cases hc
 rcases hx with hk|hk
 .refine wpAny_storeName_local hk hn (λh' hn' hs=>?_) hcls
  obtain⟨oL,_,_,hoL,_⟩:=hn
  refine h _ ⟨I.ok,⟨I.os.1,aU I.os.2 (by first|exact ag _|exact bv _ _)⟩,I.bare,⟨λb o e n hb hx=>?_,λb o e n hb hx=>?_,I.base.free,λb o e hx=>?_,I.base.tups,I.base.frzs,I.base.tbls⟩,⟨_,hn',λj y v' e1 e2 e3=>?_⟩,λy c e=>?_,I.free,I.freeC,λp hp=>?_,tracked ⟨oL,hoL,I.free⟩ hs,by simpa using I.len⟩ ⟨_,hs,.inl rfl⟩
  .exact (hs.2 b (aN (aL (aG e) I.ok.above))).trans (I.base.keep b o e n hb hx)
  .obtain⟨sl,e1⟩:=I.base.slot b o e n hb hx
   exact⟨sl,(hs.2 b (aN (aL (aG e) I.ok.above))).trans e1⟩
  .obtain⟨o',e1⟩:=I.base.there b o e hx
   exact⟨o',(hs.2 b (aN (aL (aG e) I.ok.above))).trans e1⟩
  .by_cases hj:j=i
   .subst hj
    rw[hi] at e1;cases e1
    rw[g8 hiσ] at e2
    cases e2
    exact⟨u,r,.inl ⟨hk,by simp⟩⟩
   .rw[iF (cg hj)] at e2
    obtain⟨u',r',q⟩:=hl j y v' e1 e2 e3
    refine⟨u',r',?_⟩
    rcases q with⟨k,e⟩|⟨k,c,e,z⟩
    .refine .inl ⟨k,?_⟩
     have:y≠x:=λe=>hj (Mg hN e1 (e▸hi))
     simp[this,e]
    .exact .inr ⟨k,c,e,z.sameBut hs (cne y c e)⟩
  .obtain⟨w',z⟩:=I.cell y c e
   exact⟨w',z.sameBut hs (cne y c e)⟩
  .obtain⟨e,n,ne,nf,d⟩:=I.pin p hp
   exact⟨(hs.2 p.1 ne).trans e,n,ne,nf,d⟩
 .have hfn:X.fn x=true:=by
   rcases hf with z|z
   .exact z
   .rw[z] at hk;cases hk
  obtain⟨c,hc⟩:=I.ok.has x (.inl hk)
  obtain⟨w',z⟩:=I.cell x c hc
  refine wpAny_storeName_cell I.ok.kind hk hc z (λh' hc' hs=>?_)
  obtain⟨oc,hoc,hocd⟩:=z
  refine h {s with heap:=h'} ⟨I.ok,I.os,I.bare,⟨λb o e n hb hx=>?_,λb o e n hb hx=>?_,I.base.free,λb o e hx=>?_,I.base.tups,I.base.frzs,I.base.tbls⟩,⟨m,hn.sameBut hs (cg (cne x c hc)),λj y v' e1 e2 e3=>?_⟩,λy c' e=>?_,I.free,I.freeC,λp hp=>?_,tracked ⟨oc,hoc,I.freeC x c hc⟩ hs,by simpa using I.len⟩ ⟨c,hs,.inr hc⟩
  .exact (hs.2 b (aN (aL (aG e) (I.ok.cab x c hfn hc)))).trans (I.base.keep b o e n hb hx)
  .obtain⟨sl,e1⟩:=I.base.slot b o e n hb hx
   exact⟨sl,(hs.2 b (aN (aL (aG e) (I.ok.cab x c hfn hc)))).trans e1⟩
  .obtain⟨o',e1⟩:=I.base.there b o e hx
   exact⟨o',(hs.2 b (aN (aL (aG e) (I.ok.cab x c hfn hc)))).trans e1⟩
  .by_cases hj:j=i
   .subst hj
    rw[hi] at e1;cases e1
    rw[g8 hiσ] at e2
    cases e2
    exact⟨u,r,.inr ⟨.inl hk,c,hc,hc'⟩⟩
   .rw[iF (cg hj)] at e2
    obtain⟨u',r',q⟩:=hl j y v' e1 e2 e3
    refine⟨u',r',?_⟩
    rcases q with q|⟨k,c',e,z'⟩
    .exact .inl q
    .refine .inr ⟨k,c',e,z'.sameBut hs ?_⟩
     rintro rfl
     exact hj (Mg hN e1 (I.ok.inj _ _ _ e hc▸hi))
  .by_cases hcc:c'=c
   .subst hcc;exact⟨_,hc'⟩
   .obtain⟨w2,z2⟩:=I.cell y c' e
    exact⟨w2,z2.sameBut hs hcc⟩
  .obtain⟨e,n,ne,nf,d⟩:=I.pin p hp
   refine⟨(hs.2 p.1 ?_).trans e,n,ne,nf,d⟩
   intro q
   rw[q,hoc] at e
   have q':=az e
   exact d w' (by rw[<- q'];exact hocd)
def Ij(I:Inv X ξ σ H s)(hN:X.N.Nodup)(hi:X.N[i]?=some x)(hx:Loc X.env.scope x)(r:RelV v u)(h:∀s',Inv X ξ (σ.set i (some v)) H s'->Q () s')(hf:X.fn x=true\/X.env.scope.names.lookup x=some .local:=by first|exact .inl rfl|exact .inr rfl|assumption):aR M A (storeName X.env x u) Q E s:=
 ab7 I hN hi hx r (λs' I' _=>h s' I') hf
def Inv.call'(I:Inv X ξ σ H s)(ho:s'.os=s.os/\s.toks<=s'.toks)(u:Un (frs X.stack) ch H H' s.heap s'.heap)(hok:HOk X.prog X.w H' s'.heap)(hg:j2 s'.gens)(hch:∀b∈ch,(b∈X.ex\/X.s₀.heap.objs.size<=b)/\b≠X.env.locals/\(∀x c,X.env.cells.lookup x=some c->c≠b)/\∀p∈X.pn++ξ,p.1≠b):Inv X ξ σ H' s':=by
 obtain⟨h',g',d',t',o'⟩:=s'
 have e:=ho.1
 subst e
 exact I.call u hok hg hch ho.2
end
abbrev XK:=Value->Option Addr->Hp->Prop
abbrev St:=List (Option V)
abbrev VK:=V->Hp->Prop
abbrev TE:=St->Hp->VK->Prop
abbrev TT:=St->Hp->(Bool->Hp->Prop)->Prop
abbrev TA:=St->Hp->(List V->Hp->Prop)->Prop
structure ag0 where
 nx:St->Hp->Prop
 rt:VK
 bk:St->Hp->Prop:=λ_ _=>False
 ct:St->Hp->Prop:=λ_ _=>False
abbrev TS:=ag0->St->Hp->Prop
def EP(X:Cx)(ξ:List (Addr×Obj))(σ:St)(Q:VK)(u:Value)(s':aw):Prop:=∃v H',Inv X ξ σ H' s'/\RelV v u/\Q v H'
def TP(X:Cx)(ξ:List (Addr×Obj))(σ:St)(Q:Bool->Hp->Prop)(b:Bool)(s':aw):Prop:=∃H',Inv X ξ σ H' s'/\Q b H'
def AP(X:Cx)(ξ:List (Addr×Obj))(σ:St)(Q:List V->Hp->Prop)(us:List Value)(s':aw):Prop:=∃vs H',Inv X ξ σ H' s'/\Vals vs us/\Q vs H'
def SP(X:Cx)(ξ:List (Addr×Obj))(D:ag0)(f:Flow)(s':aw):Prop:=
 match f with
 |.next=>∃ σ' H',Inv X ξ σ' H' s'/\D.nx σ' H'
 |.brk=>∃ σ' H',Inv X ξ σ' H' s'/\D.bk σ' H'
 |.cont=>∃ σ' H',Inv X ξ σ' H' s'/\D.ct σ' H'
 |.ret u=>∃v σ' H',Inv X ξ σ' H' s'/\RelV v u/\D.rt v H'
def PE(X:Cx)(e:Expr)(t:TE):Prop:=
 ∀ξ s (σ:St) (H:Hp) (Q:VK),Inv X ξ σ H s->t σ H Q->aR (model X.prog X.w) X.A (eval e X.env) (EP X ξ σ Q) X.xe s
def PT(X:Cx)(e:Expr)(t:TT):Prop:=
 ∀ξ s (σ:St) (H:Hp) (Q:Bool->Hp->Prop),Inv X ξ σ H s->t σ H Q->aR (model X.prog X.w) X.A (isTrue e X.env (eval e X.env)) (TP X ξ σ Q) X.xe s
def PW(X:Cx)(e:Expr)(t:TT):Prop:=
 ∀whole ξ s (σ:St) (H:Hp) (Q:Bool->Hp->Prop),Inv X ξ σ H s->t σ H Q->aR (model X.prog X.w) X.A (isTrue e X.env whole) (TP X ξ σ Q) X.xe s
def PW.pt(h:PW X e t):PT X e t:=h _
def PA(X:Cx)(es:List Expr)(t:TA):Prop:=
 ∀pos ξ s (σ:St) (H:Hp) (Q:List V->Hp->Prop),Inv X ξ σ H s->t σ H Q->aR (model X.prog X.w) X.A (spliced (ku pos (df es X.env))) (AP X ξ σ Q) X.xe s
def PS(X:Cx)(st:Stmt)(t:TS):Prop:=
 ∀ξ s (σ:St) (H:Hp) (D:ag0),Inv X ξ σ H s->t D σ H->aR (model X.prog X.w) X.A (exec st X.env) (SP X ξ D) X.xe s
def PSs(X:Cx)(st:List Stmt)(t:TS):Prop:=
 ∀ξ s (σ:St) (H:Hp) (D:ag0),Inv X ξ σ H s->t D σ H->aR (model X.prog X.w) X.A (execs st X.env) (SP X ξ D) X.xe s
def thn{α:Type}{t:Sem α}{Q Q':α->aw->Prop}{M:Model}{A:bF}{E:Value->aw->Prop}{s:aw}(h:aR M A t Q E s)(hQ:∀a s,Q a s->Q' a s):aR M A t Q' E s:=bJ h hQ λ_ _ x=>x
section
variable {X:Cx}
def cc7(i:Nat):TE:=λσ H Q=>∃v,σ[i]?=some (some v)/\Q v H
def tC(v:V):TE:=λ_ H Q=>Q v H
def bp9(hN:X.N[i]?=some x)(hv:Vis X.env.scope x)(hd:(x==("__debug__" : Str))=false:=by decide)(hcd:(x==("__classdict__" : Str))=false:=by decide):PE X (.Name x pos) (cc7 i):=by
 intro ξ s σ H Q I h
 obtain⟨v,e,h⟩:=h
 obtain⟨m,hn,hl⟩:=I.loc
 obtain⟨u,r,l⟩:=hl i x v hN e hv
 have fin:EP X ξ σ Q u s:=⟨v,H,I,r,h⟩
 rcases l with⟨hk,hm⟩|⟨hk,c,hc,hcell⟩
 .exact wpAny_Name (wpAny_loadName_local I.ok.kind hk hn hm fin) hd
 .rcases hk with hk|hk
  .exact wpAny_Name (wpAny_loadName_cell I.ok.kind hk hc hcell fin) hd
  .exact wpAny_Name (wpAny_loadName_free I.ok.kind hk hc hcell fin hcd) hd
def bp3{i j pos}:PE X (.Constant (.int i) j pos) (tC (.int i)):=λ_ _ _ H _ I h=>wpAny_Constant_int ⟨.int i,H,I.tok _,⟨_,rfl⟩,h⟩
def b27{b j pos}:PE X (.Constant (.bool b) j pos) (tC (.bl b)):=λ_ _ _ H _ I h=>Constant_bool ⟨.bl b,H,I,rfl,h⟩
def bp5{j pos}:PE X (.Constant .none j pos) (tC .non):=λ_ _ _ H _ I h=>Constant_none ⟨.non,H,I,rfl,h⟩
def bp7{x j pos}:PE X (.Constant (.str x) j pos) (tC (.str x)):=λ_ _ _ H _ I h=>Calls.Constant_str ⟨.str x,H,I.tok _,⟨_,rfl⟩,h⟩
def Gl(X:Cx)(x:Str):Prop:=X.env.kindOf x=some .globalImplicit
def Qb(I:Inv X ξ σ H s)(hg:Gl X x)(hm:X.mg x=some u)(h:Q u s)(hd:(x==("__debug__" : Str))=false:=by decide):aR (model X.prog X.w) X.A (eval (.Name x pos) X.env) Q E s:=
 iW I.ok.kind hg (Calls.loadGlobal_global (by rw[I.ok.glob];exact I.mod.glob.keeps I.bk) hm h) hd
def C6(I:Inv X ξ σ H s)(hg:Gl X x)(hm:X.mg x=none)(hv:cG x=some u)(h:Q u s)(hn:x ≠ "__name__" := by decide)(hd:(x==("__debug__" : Str))=false:=by decide):aR (model X.prog X.w) X.A (eval (.Name x pos) X.env) Q E s:=by
 obtain⟨mb,h1,h2⟩:=I.mod.blt
 exact iW I.ok.kind hg (Calls.loadGlobal_builtin (by rw[I.ok.glob];exact I.mod.glob.keeps I.bk) hm (by rw[I.ok.blt];exact h1.keeps I.bk) ((h2 x hn).trans hv) h) hd
def Lb(hg:Gl X x)(hm:X.mg x=some u)(r:RelV v u)(hd:(x==("__debug__" : Str))=false:=by decide):PE X (.Name x pos) (tC v):=
 λ_ _ _ H _ I h=>Qb I hg hm ⟨v,H,I,r,h⟩ hd
def a36(hg:Gl X x)(hm:X.mg x=none)(hv:cG x=some u)(r:RelV v u)(hn:x ≠ "__name__" := by decide)(hd:(x==("__debug__" : Str))=false:=by decide):PE X (.Name x pos) (tC v):=
 λ_ _ _ H _ I h=>C6 I hg hm hv ⟨v,H,I,r,h⟩ hn hd
variable {a b:Expr}{ta tb:TE}{pos:Pos}
variable {tA tB':TT}{rest:List Expr}
def cb8(t u:TT):TT:=λσ H Q=>t σ H λc H1=>if c=true then u σ H1 Q else Q false H1
def tOr(t u:TT):TT:=λσ H Q=>t σ H λc H1=>if c=true then Q true H1 else u σ H1 Q
def cc3(t:TT):TT:=λσ H Q=>t σ H λc H1=>Q (!c) H1
def a48(ha:PT X a tA):PW X (.BoolOp .And [a] pos) tA:=by
 intro wh ξ s σ H Q I h
 refine isTrue_and (thn (ha ξ s σ H Q I h) λc s1 e=>?_)
 cases c with
 |true=>exact isTrue_and_nil e
 |false=>exact e
def bq7(ha:PT X a tA):PW X (.BoolOp .Or [a] pos) tA:=by
 intro wh ξ s σ H Q I h
 refine isTrue_or (thn (ha ξ s σ H Q I h) λc s1 e=>?_)
 cases c with
 |false=>exact isTrue_or_nil e
 |true=>exact e
def bq6(ha:PT X a tA)(hb:PW X (.BoolOp .And (b::rest) pos) tB'):PW X (.BoolOp .And (a::b::rest) pos) (cb8 tA tB'):=by
 intro wh ξ s σ H Q I h
 refine isTrue_and (thn (ha ξ s σ H _ I h) λc s1 ⟨H1,I1,q1⟩=>?_)
 cases c with
 |true=>exact hb wh ξ s1 σ H1 Q I1 q1
 |false=>exact⟨H1,I1,q1⟩
def b33(ha:PT X a tA)(hb:PW X (.BoolOp .Or (b::rest) pos) tB'):PW X (.BoolOp .Or (a::b::rest) pos) (tOr tA tB'):=by
 intro wh ξ s σ H Q I h
 refine isTrue_or (thn (ha ξ s σ H _ I h) λc s1 ⟨H1,I1,q1⟩=>?_)
 cases c with
 |true=>exact⟨H1,I1,q1⟩
 |false=>exact hb wh ξ s1 σ H1 Q I1 q1
def bq5(ha:PT X a tA):PT X (.UnaryOp .Not a pos) (cc3 tA):=by
 intro ξ s σ H Q I h
 exact isTrue_not (ha ξ s σ H (λc H1=>Q (!c) H1) I h)
def bp6{op}(h:PE X a t):PE X (.BoolOp op [a] pos) t:=λξ s σ H Q I hw=>BoolOp_one (h ξ s σ H Q I hw)
end
def SqL(K:ac)(H:Hp)(a:Addr)(xs:List V):Prop:=
 Rd H a (.lst xs) \/
  ∃o χ n,K.lookup a=some o/\o.cls=.type "list" /\ o.dict=none/\o.data=.seq χ n/\χ.size<=sizeLine/\xs.all V.pl=true/\Vals xs χ.toList
def SqT(K:ac)(H:Hp)(a:Addr)(xs:List V):Prop:=
 Rd H a (.tup xs) \/
  ∃o χ n,K.lookup a=some o/\o.cls=.type "tuple" /\ o.data=.seq χ n/\χ.size<=sizeLine/\xs.all V.pl=true/\Vals xs χ.toList
def ca1:Value->Option V
 |.none=>some .non
 |.bool b=>some (.bl b)
 |.int i _=>some (.int i)
 |.str x _=>some (.str x)
 |.ref a=>some (.ref a)
 |.type n=>some (.ty n)
 |_=>none
def RelV.abs(r:RelV x u)(p:x.pl=true):ca1 u=some x:=by
 cases x <;> first|(cases r;rfl)|(obtain⟨t,rfl⟩:=r;rfl)
def RelV.inj{x y:V}{u:Value}(r:RelV x u)(q:RelV y u)(p:x.pl=true)(p':y.pl=true):x=y:=az ((r.abs p).symm.trans (q.abs p'))
theorem Vals.inj:∀{xs ys} {us},Vals xs us->Vals ys us->xs.all V.pl=true->ys.all V.pl=true->xs=ys
 |_,_,_,.nil,.nil,_,_=>rfl
 | _,_,_,.cons r t,.cons r' t',p,q=>by
  simp only[cb,a9] at p q
  rw[r.inj r' p.1 q.1,Vals.inj t t' p.2 q.2]
section
variable {X:Cx}{ξ:List (Addr×Obj)}{σ:St}{H:Hp}{s:aw}{a:Addr}{xs ys:List V}
def SqL.of{K:ac}(h:H a=some (.lst xs)):SqL K H a xs:=.inl (.inl h)
def SqT.of{K:ac}(h:H a=some (.tup xs)):SqT K H a xs:=.inl (.inl h)
def Inv.list(I:Inv X ξ σ H s)(h:SqL X.K H a xs):∃χ,Vals xs χ/\PlainL s.heap a χ.toArray/\xs.length<=sizeLine:=by
 rcases h with h|⟨o,χ,n,hk,hc,hd,hs,hz,_,r⟩
 .obtain⟨z,χ,n,r,e⟩:=h.ok I.hok
  exact⟨χ,r,⟨_,n,e,rfl,rfl,rfl⟩,z⟩
 .refine⟨χ.toList,r,⟨o,n,I.kIn a o hk,hc,hd,by simpa using hs⟩,?_⟩
  have e:=r.length
  simp only[bU] at e
  omega
def Inv.tuple(I:Inv X ξ σ H s)(h:SqT X.K H a xs):∃χ,Vals xs χ/\nu s.heap a χ.toArray/\xs.length<=sizeLine:=by
 rcases h with h|⟨o,χ,n,hk,hc,hs,hz,_,r⟩
 .obtain⟨z,χ,r,p⟩:=h.ok I.hok
  exact⟨χ,r,p,z⟩
 .refine⟨χ.toList,r,⟨o,I.kIn a o hk,hc,n,by simpa using hs⟩,?_⟩
  have e:=r.length
  simp only[bU] at e
  omega
def Inv.notK(I:Inv X ξ σ H s)(h:Rd H a o)(e:X.K.lookup a=some ob):False:=by
 have n:=(I.bs a ob (I.mod.kin a ob e)).2
 rcases h with h|⟨u,h⟩
 .rw[n] at h;cases h
 .rw[n] at h;cases h
def Inv.list_inj(I:Inv X ξ σ H s)(h:SqL X.K H a xs)(h':SqL X.K H a ys):xs=ys:=by
 rcases h with h|⟨o,χ,n,hk,hc,hd,hs,hz,p,r⟩
 .rcases h' with h'|⟨o',its',n',hk',hc',hd',hs',hz',p',r'⟩
  .rcases h with h|⟨u,h⟩ <;> rcases h' with h'|⟨u',h'⟩ <;> (rw[h] at h';first|(cases h';rfl)|cases h')
  .exact (I.notK h hk').elim
 .rcases h' with h'|⟨o',its',n',hk',hc',hd',hs',hz',p',r'⟩
  .exact (I.notK h' hk).elim
  .rw[hk] at hk';cases hk'
   rw[hs] at hs';cases hs'
   exact r.inj r' p p'
def Inv.tuple_inj(I:Inv X ξ σ H s)(h:SqT X.K H a xs)(h':SqT X.K H a ys):xs=ys:=by
 rcases h with h|⟨o,χ,n,hk,hc,hs,hz,p,r⟩
 .rcases h' with h'|⟨o',its',n',hk',hc',hs',hz',p',r'⟩
  .rcases h with h|⟨u,h⟩ <;> rcases h' with h'|⟨u',h'⟩ <;> (rw[h] at h';first|(cases h';rfl)|cases h')
  .exact (I.notK h hk').elim
 .rcases h' with h'|⟨o',its',n',hk',hc',hs',hz',p',r'⟩
  .exact (I.notK h' hk).elim
  .rw[hk] at hk';cases hk'
   rw[hs] at hs';cases hs'
   exact r.inj r' p p'
end
abbrev Cx.wish(X:Cx)(E:Value->aw->Prop):Cx:={X with xe:=E}
abbrev Cx.nox(X:Cx):Cx:=X.wish λ_ _=>False
theorem Cx.Ok.wish{X:Cx}(ok:X.Ok)(E:Value->aw->Prop):(X.wish E).Ok:=
 ⟨ok.mod,ok.kind,ok.glob,ok.blt,ok.above,ok.inj,ok.has,ok.cab,ok.hd,ok.frames,ok.stk,ok.exf,ok.bs,ok.bsz,ok.noex,ok.exfs,ok.funs,ok.frf,ok.tk⟩
def Cx.Ok.unwish{X:Cx}{E:Value->aw->Prop}(ok:(X.wish E).Ok):X.Ok:=
 ⟨ok.mod,ok.kind,ok.glob,ok.blt,ok.above,ok.inj,ok.has,ok.cab,ok.hd,ok.frames,ok.stk,ok.exf,ok.bs,ok.bsz,ok.noex,ok.exfs,ok.funs,ok.frf,ok.tk⟩
section
variable {X:Cx}{ξ:List (Addr×Obj)}{σ:St}{H:Hp}{s:aw}{E:Value->aw->Prop}
theorem Inv.wish(I:Inv X ξ σ H s)(E:Value->aw->Prop):Inv (X.wish E) ξ σ H s:=⟨I.ok.wish E,I.os,I.bare,I.base,I.loc,I.cell,I.free,I.freeC,I.pin,I.hok,I.len⟩
theorem Inv.unwish(I:Inv (X.wish E) ξ σ H s):Inv X ξ σ H s:=⟨I.ok.unwish,I.os,I.bare,I.base,I.loc,I.cell,I.free,I.freeC,I.pin,I.hok,I.len⟩
theorem SP.unwish(h:SP (X.wish E) ξ D f s'):SP X ξ D f s':=by
 cases f with
 |next=>obtain⟨σ',H',I,q⟩:=h;exact⟨σ',H',I.unwish,q⟩
 |brk=>obtain⟨σ',H',I,q⟩:=h;exact⟨σ',H',I.unwish,q⟩
 |cont=>obtain⟨σ',H',I,q⟩:=h;exact⟨σ',H',I.unwish,q⟩
 |ret u=>obtain⟨v,σ',H',I,r,q⟩:=h;exact⟨v,σ',H',I.unwish,r,q⟩
theorem PE.nox(h:PE X.nox e t):PE X e t:=λξ s σ H Q I hw=>
 bJ (h ξ s σ H Q (I.wish _) hw) (λ_ _ ⟨v,H',I',r,q⟩=>⟨v,H',I'.unwish,r,q⟩) λ_ _ z=>bP z
theorem PSs.nox{st:List Stmt}{t:TS}(h:PSs X.nox st t):PSs X st t:=λξ s σ H D I hw=>
 bJ (h ξ s σ H D (I.wish _) hw) (λ_ _ q=>q.unwish) λ_ _ z=>bP z
end
section
variable {X:Cx}{st:Stmt}{rest:List Stmt}{t u:TS}{e:Expr}{te:TE}{pos:Pos}
def bd1:TS:=λD σ H=>D.nx σ H
def cc5(t u:TS):TS:=λD σ H=>t {D with nx:=u D} σ H
def a44:PSs X [] bd1:=λ_ _ σ H _ I h=>iU ⟨σ,H,I,h⟩
def ap2(h1:PS X st t)(h2:PSs X rest u):PSs X (st::rest) (cc5 t u):=by
 intro ξ s σ H D I h
 refine wpAny_execs_cons (thn (h1 ξ s σ H {D with nx:=u D} I h) λf s1 q=>?_)
 cases f with
 |next=>
  obtain⟨σ',H',I',q⟩:=q
  exact h2 ξ s1 σ' H' D I' q
 |ret v=>exact q
 |brk=>exact q
 |cont=>exact q
def a42:PS X (.Pass pos) bd1:=λ_ _ σ H _ I h=>wpAny_Pass ⟨σ,H,I,h⟩
def Inv.quiet{ξ:List (Addr×Obj)}{σ:St}{H:Hp}{s:aw}(I:Inv X ξ σ H s):interactive X.env=false:=by simp[interactive,I.ok.kind]
def b48(te:TE):TS:=λD σ H=>te σ H λ_ H1=>D.nx σ H1
def a41(he:PE X e te)(hs:jv e none pos.line X.env=pure false:=by rfl):PS X (.Expr e pos) (b48 te):=by
 intro ξ s σ H D I h
 exact wpAny_Expr_any (thn (he ξ s σ H _ I h) λv s1 ⟨x,H1,I1,r1,q1⟩=>⟨σ,H1,I1,q1⟩) I.quiet hs
def cc4(te:TE):TS:=λD σ H=>te σ H D.rt
def bq3(he:PE X e te):PS X (.Return (some e) pos) (cc4 te):=by
 intro ξ s σ H D I h
 exact wpAny_Return_some (thn (he ξ s σ H _ I h) λv s1 ⟨x,H1,I1,r1,q1⟩=>⟨x,σ,H1,I1,r1,q1⟩)
def b49:TS:=λD _ H=>D.rt .non H
def a43:PS X (.Return none pos) b49:=λ_ _ σ H _ I h=>wpAny_Return_none ⟨.non,σ,H,I,rfl,h⟩
def cc0(c:TT)(t u:TS):TS:=λD σ H=>c σ H λb H1=>if b=true then t D σ H1 else u D σ H1
def b32{c:Expr}{a b:List Stmt}{tc:TT}(hc:PT X c tc)(ha:PSs X a t)(hb:PSs X b u):PS X (.If c a b pos) (cc0 tc t u):=by
 intro ξ s σ H D I h
 refine wpAny_If (thn (hc ξ s σ H _ I h) λd s1 ⟨H1,I1,q1⟩=>?_)
 cases d with
 |true=>exact ha ξ s1 σ H1 D I1 q1
 |false=>exact hb ξ s1 σ H1 D I1 q1
end
abbrev TG:=V->St->Hp->(St->Hp->Prop)->Prop
abbrev TGs:=List V->St->Hp->(St->Hp->Prop)->Prop
def PG(X:Cx)(target:Expr)(t:TG):Prop:=
 ∀ξ s (σ:St) (H:Hp) (v:V) (u:Value) (Q:St->Hp->Prop),Inv X ξ σ H s->RelV v u->t v σ H Q ->
  aR (model X.prog X.w) X.A (mW target X.env u) (λ_ s'=>∃ σ' H',Inv X ξ σ' H' s'/\Q σ' H') X.xe s
def PGs(X:Cx)(ts:List Expr)(t:TGs):Prop:=
 ∀ξ s (σ:St) (H:Hp) (vs:List V) (us:List Value) (Q:St->Hp->Prop),Inv X ξ σ H s->Vals vs us->t vs σ H Q ->
  aR (model X.prog X.w) X.A (assignInOrder ((dy ts X.env).map (·.2)) us) (λ_ s'=>∃ σ' H',Inv X ξ σ' H' s'/\Q σ' H') X.xe s
abbrev bv7:=V->V->V->Hp->(Hp->Prop)->Prop
def bv4(X:Cx)(t:bv7):Prop:=
 ∀ξ s (σ:St) (H:Hp) (o i v:V) (ov iv u:Value) (Q:Hp->Prop),Inv X ξ σ H s->RelV o ov->RelV i iv->RelV v u->t o i v H Q ->
  aR (model X.prog X.w) X.A (setItem ov iv u) (λ_ s'=>∃H',Inv X ξ σ H' s'/\Q H') X.xe s
section
variable {X:Cx}{pos:Pos}
def aj5(i:Nat):TG:=λv σ H Q=>Q (σ.set i (some v)) H
def a38(hN:X.N.Nodup)(hi:X.N[i]?=some x)(hx:Loc X.env.scope x)(hf:X.fn x=true\/X.env.scope.names.lookup x=some .local:=by first|exact .inl rfl|exact .inr rfl|assumption):PG X (.Name x pos) (aj5 i):=by
 intro ξ s σ H v u Q I r h
 exact wpAny_assign_Name (Ij I hN hi hx r (λs' I'=>⟨_,H,I',h⟩) hf)
def ca5:TGs:=λvs σ H Q=>vs=[]/\Q σ H
def bx0(t:TG)(u:TGs):TGs:=λvs σ H Q=>∃v r,vs=v::r/\t v σ H λσ' H'=>u r σ' H' Q
def a39:PGs X [] ca5:=by
 intro ξ s σ H vs us Q I r h
 obtain⟨e,h⟩:=h
 subst e
 cases r
 exact assignInOrder_nil ⟨σ,H,I,h⟩
def ao4(h1:PG X e t)(h2:PGs X es u)(hs:(dy (e::es) X.env).map (·.2)=mW e X.env::(dy es X.env).map (·.2):=by rfl):PGs X (e::es) (bx0 t u):=by
 intro ξ s σ H vs us Q I r h
 obtain⟨v,vr,e1,h⟩:=h
 subst e1
 cases r with
 |cons r rr=>
  rw[hs]
  exact assignInOrder_cons (thn (h1 ξ s σ H _ _ _ I r h) λ_ s1 ⟨σ1,H1,I1,q1⟩=>(h2 ξ s1 σ1 H1 _ _ Q I1 rr q1))
def ca7(K:ac)(n:Nat)(t:TGs):TG:=λv σ H Q=>∃a xs,v=.ref a/\SqT K H a xs/\xs.length=n/\t xs σ H Q
def bq1(hc:X.calm=true)(h:PGs X es t)(hn:(dy es X.env).length=n:=by rfl)(hst:(dy es X.env).findIdx? (·.1)=none:=by rfl):PG X (.Tuple es k pos) (ca7 X.K n t):=by
 intro ξ s σ H v u Q I r hw
 obtain⟨a,xs,e1,hq,hl,hw⟩:=hw
 subst e1
 cases r
 obtain⟨χ,rv,ht,hz⟩:=I.tuple hq
 refine assign_Tuple_tuple (I.ok.hd hc) ht (by simp[hn,<- hl,rv.length]) hst λh' hx=>?_
 have I1:=I.kept λb o e=>hx b o (aN (aG e)) e
 exact h ξ _ σ H xs _ Q I1 (rv) hw
def ca6(to ti:TE)(t:bv7):TG:=λv σ H Q=>to σ H λo H1=>ti σ H1 λi H2=>t o i v H2 λH3=>Q σ H3
def bq0(ho:PE X o to)(hi:PE X i ti)(hs:bv4 X t)(ha:∀v,mW (.Subscript o i pos) X.env v=(do
   let ov <- holding [v] (eval o X.env)
   let iv <- holding [v,ov] (eval i X.env)
   standAt pos
   holding [v,ov,iv] (setItem ov iv v)
   release [v,ov,iv] []):=by intro _;rfl):PG X (.Subscript o i pos) (ca6 to ti t):=by
 intro ξ s σ H v u Q I r h
 rw[ha]
 refine af (bD (thn (ho ξ s σ H _ I h) λov s1 ⟨x,H1,I1,r1,q1⟩=>?_))
 refine af (bD (thn (hi ξ s1 σ H1 _ I1 q1) λiv s2 ⟨y,H2,I2,r2,q2⟩=>?_))
 exact af (d9 (af (bD (thn (hs ξ s2 σ H2 x y v ov iv u _ I2 r1 r2 r q2) λ_ s3 ⟨H3,I3,q3⟩=>(wpAny_release ⟨σ,H3,I3,q3⟩)))))
def bt7(te:TE)(g:TG):TS:=λD σ H=>te σ H λx H1=>g x σ H1 D.nx
def ao9(he:PE X e te)(hg:PG X tg g)(hs:swapsWithSole [tg] e pos.line X.env=pure false:=by rfl)(hw:swappedStores [tg] e X.env=pure none:=by rfl)(h1:(dy [tg] X.env).map (·.2)=[mW tg X.env]:=by rfl):PS X (.Assign [tg] e pos) (bt7 te g):=by
 intro ξ s σ H D I h
 refine wpAny_Assign_stores (thn (he ξ s σ H _ I h) λv s1 ⟨x,H1,I1,r1,q1⟩=>?_) hs hw
 rw[h1]
 exact thn (hg ξ s1 σ H1 x v _ I1 r1 q1) λ_ s2 q=>q
def bq4(hN:X.N.Nodup)(hi:X.N[i]?=some x)(hx:Loc X.env.scope x)(he:PE X e te)(hs:jv e (some (.Name x pos')) pos.line X.env=pure false:=by rfl)(hf:X.fn x=true\/X.env.scope.names.lookup x=some .local:=by first|exact .inl rfl|exact .inr rfl|assumption) :
  PS X (.Assign [.Name x pos'] e pos) (bt7 te (aj5 i)):=by
 intro ξ s σ H D I h
 exact wpAny_Assign_Name (thn (he ξ s σ H _ I h) λv s1 ⟨y,H1,I1,r1,q1⟩=>(Ij I1 hN hi hx r1 (λs2 I2=>⟨_,H1,I2,q1⟩) hf)) hs
def bt8(c:TT)(tb:TS):TS:=λD σ H=>∃W:Nat->St->Hp->Prop,(∃m,W m σ H)/\∀m σ H,W m σ H ->
 c σ H λb H1=>if b=true then ∃N,(∀ σ' H',N σ' H' -> ∃m',m'<m/\W m' σ' H')/\tb {D with nx:=N,ct:=N,bk:=D.nx} σ H1 else D.nx σ H1
def ap1(hp:gX (model X.prog X.w) X.A X.env X.xe)(hc:PT X c tc)(hb:PSs X body tb):PS X (.While c body [] pos) (bt8 tc tb):=by
 intro ξ s σ H D I h
 obtain⟨W,⟨m0,w0⟩,turn⟩:=h
 refine wpAny_While (codeAny_whileLoop (λn s'=>∃ σ' H',Inv X ξ σ' H' s'/\W n σ' H') ?_ m0 ⟨σ,H,I,w0⟩)
 rintro n s1 ⟨σ1,H1,I1,w1⟩
 refine eZ hp (thn (hc ξ s1 σ1 H1 _ I1 (turn n σ1 H1 w1)) λb s2 ⟨H2,I2,q2⟩=>?_)
 cases b with
 |true=>
  obtain⟨N,hN,q2⟩:=q2
  rw[if_pos rfl]
  refine eZ hp (thn (hb ξ s2 σ1 H2 _ I2 q2) λf s3 q3=>?_)
  cases f with
  |next=>
   obtain⟨σ3,H3,I3,n3⟩:=q3
   obtain⟨m',hm,w3⟩:=hN σ3 H3 n3
   exact⟨m',hm,σ3,H3,I3,w3⟩
  |cont=>
   obtain⟨σ3,H3,I3,n3⟩:=q3
   obtain⟨m',hm,w3⟩:=hN σ3 H3 n3
   exact⟨m',hm,σ3,H3,I3,w3⟩
  |brk=>exact q3
  |ret v=>exact q3
 |false=>
  rw[if_neg aC]
  exact iU ⟨σ1,H2,I2,q2⟩
end
structure It where
 go:Nat->Hp->Prop
 yld:Nat->Hp->V->Hp->Prop
 stop:Nat->Hp->Prop
def Cz(X:Cx)(ξ:List (Addr×Obj))(H:Hp)(b:Addr):Prop:=
 H b=none/\b≠X.env.locals/\b∉X.fs/\(b∈X.ex\/X.s₀.heap.objs.size<=b)/\(∀x c,X.env.cells.lookup x=some c->c≠b)/\∀p∈X.pn++ξ,p.1≠b
def Inv.fpOk(I:Inv X ξ σ H s)(hb:s.heap.objs.size<=b)(hn:H' b=none):Cz X ξ H' b:=by
 refine⟨hn,fj (aL I.lt hb),I.nofs hb,.inr (aU I.sz hb),λx c e z=>?_,λp hp z=>?_⟩
 .obtain⟨v,q⟩:=I.cell x c e
  exact absurd (aL q.lt (by rw[z];exact hb)) (gj _)
 .exact absurd (aL (aG (I.pin p hp).1) (by rw[z];exact hb)) (gj _)
structure Nb (P:aW) (w:bC) (K:ac) (tg:Expr) (J:It) (fp:List Addr) (it:Addr) (tn:Nat->Heap->Prop):Prop where
 mem:it∈fp
 obj:∀i h,tn i h -> ∀b∈fp,∃o,h.get? b=some o/\∀v,o.data≠.cell v
 keep:∀i h h',tn i h->(∀b∈fp,∀o,h.get? b=some o->h'.get? b=some o)->tn i h'
 item:∀(X:Cx),X.prog=P->X.w=w->X.K=K->X.calm=true -> ∀(i:Nat)(ξ:List (Addr×Obj))(s:aw)(σ:St)(H:Hp)(E:Value->aw->Prop),Inv X ξ σ H s->(∀b∈fp,Cz X ξ H b)->tn i s.heap->J.go i H ->
  aR (model P w) X.A (mO (.ref it)) (λr s1=>∃u,r=some u /\
   aR (model P w) X.A (kD tg (.ref it) u) (λ_ s2=>∃x H',Inv X ξ σ H' s2/\RelV x u/\J.yld i H x H'/\tn (i+1) s2.heap/\∀b∈fp,H' b=none) E s1) E s
 done:∀(X:Cx),X.prog=P->X.w=w->X.K=K->X.calm=true -> ∀(i:Nat)(ξ:List (Addr×Obj))(s:aw)(σ:St)(H:Hp)(E:Value->aw->Prop),Inv X ξ σ H s->(∀b∈fp,Cz X ξ H b)->tn i s.heap->J.stop i H ->
  aR (model P w) X.A (mO (.ref it)) (λr s1=>r=none/\Inv X ξ σ H s1) E s
 self:∀(A:bF)(i:Nat)(s:aw)(Q:Value->aw->Prop)(E:Value->aw->Prop),tn i s.heap->Q (.ref it) s->aR (model P w) A (mN (.ref it)) Q E s
abbrev TI:=St->Hp->(It->Hp->Prop)->Prop
def PIE(X:Cx)(ξ:List (Addr×Obj))(σ:St)(tg:Expr)(R:It->Hp->Prop)(itv:Value)(s2:aw):Prop:=
 ∃it fp tn J H',itv=.ref it/\Inv X ξ σ H' s2/\Nb X.prog X.w X.K tg J fp it tn/\tn 0 s2.heap/\(∀b∈fp,Cz X ξ H' b)/\R J H'
def PI(X:Cx)(tg iter:Expr)(wi:TI):Prop:=
 ∀ξ s (σ:St) (H:Hp) (R:It->Hp->Prop),Inv X ξ σ H s->wi σ H R ->
  aR (model X.prog X.w) X.A (eval iter X.env) (λv s1=>aR (model X.prog X.w) X.A (mN v) (PIE X ξ σ tg R) X.xe s1) X.xe s
def Ls(ho:s.heap.get? it=some o)(hc:o.cls=.type n)(hd:o.data=.fields vs)(hn:["enumerate","zip","dict_itemiterator","dict_reverseitemiterator","odict_iterator","itertools.zip_longest","itertools.pairwise"].contains n=false)(hQ:Q () s):aR M A (kD tg (.ref it) u) Q E s:=by
  cases tg <;> first
    |exact am hQ
    | (cases u <;> first
        |exact am hQ
        | (refine af (wpAny_load ho ?_)
           rw[hc,hd]
           show aR M A (if(["enumerate","zip","dict_itemiterator","dict_reverseitemiterator","odict_iterator","itertools.zip_longest","itertools.pairwise"].contains n&&vs[0]? == some (eY _))=true then _ else _) Q E s
           rw[if_neg (by intro h;rw[hn,k_] at h;cases h)]
           exact am hQ))
def Itl(K:ac)(a:Addr):It:=
 ⟨λi H=>∃xs x,SqL K H a xs/\xs[i]?=some x,λi H x H'=>H'=H/\∀xs,SqL K H a xs->xs[i]?=some x,λi H=>∃xs,SqL K H a xs/\xs.length<=i⟩
def Itt(K:ac)(a:Addr):It:=
 ⟨λi H=>∃xs x,SqT K H a xs/\xs[i]?=some x,λi H x H'=>H'=H/\∀xs,SqT K H a xs->xs[i]?=some x,λi H=>∃xs,SqT K H a xs/\xs.length<=i⟩
def Itr(lo:Int)(n:Nat):It:=⟨λi _=>i<n,λi H x H'=>H'=H/\x=.int (lo+i),λi _=>n<=i⟩
def ac3{P:aW}{w:bC}{K:ac}{tg:Expr}(a it:Addr):Nb P w K tg (Itl K a) [it] it (λi h=>h.IsListIter it a i) where
 mem:=by simp
 obj:=λi h st b hb=>by
  have e:b=it:=by simpa using hb
  subst e
  obtain⟨o,e,c,d⟩:=st
  exact⟨o,e,λv z=>by rw[d] at z;cases z⟩
 keep:=λi h h' st k=>st.at λo e=>k it (by simp) o e
 item:=by
  intro X hP hw hK hc i ξ s σ H E I hf st hg
  subst hP hw hK
  obtain⟨xs,x,hq,hx⟩:=hg
  obtain⟨χ,rv,p,hz⟩:=I.list hq
  obtain⟨u,hu,ru⟩:=rv.get hx
  obtain⟨f0,f1,f2,f3,f4,f5⟩:=hf it (by simp)
  refine wpAny_pyNext_list_item st p.isList (by simpa using hu) λh' st' sb=>?_
  have I1:=I.turned (λb o hb e=>(sb.2 b hb).trans e) f0 f1 f3 f4 f5
  obtain⟨o,e,c,d⟩:=id st'
  exact⟨u,rfl,Ls e c d (by decide) ⟨x,H,I1,ru,⟨rfl,λys hy=>by rw[I.list_inj hy hq];exact hx⟩,st',λb hb=>(hf b hb).1⟩⟩
 done:=by
  intro X hP hw hK hc i ξ s σ H E I hf st hg
  subst hP hw hK
  obtain⟨xs,hq,hx⟩:=hg
  obtain⟨χ,rv,p,hz⟩:=I.list hq
  obtain⟨f0,f1,f2,f3,f4,f5⟩:=hf it (by simp)
  have hl:=rv.length
  exact wpAny_pyNext_list_end (I.ok.hd hc) st p.isList (by simp;omega) λh' eb=>⟨rfl,I.turned (λb o hb e=>eb b o hb e) f0 f1 f3 f4 f5⟩
 self:=λ_ _ _ _ _ st h=>wpAny_pyIter_listiter st h
def W9{P:aW}{w:bC}{K:ac}{tg:Expr}(a it:Addr):Nb P w K tg (Itt K a) [it] it (λi h=>h.IsTupleIter it a i) where
 mem:=by simp
 obj:=λi h st b hb=>by
  have e:b=it:=by simpa using hb
  subst e
  obtain⟨o,e,c,d⟩:=st
  exact⟨o,e,λv z=>by rw[d] at z;cases z⟩
 keep:=λi h h' st k=>st.at λo e=>k it (by simp) o e
 item:=by
  intro X hP hw hK hc i ξ s σ H E I hf st hg
  subst hP hw hK
  obtain⟨xs,x,hq,hx⟩:=hg
  obtain⟨χ,rv,p,hz⟩:=I.tuple hq
  obtain⟨u,hu,ru⟩:=rv.get hx
  obtain⟨f0,f1,f2,f3,f4,f5⟩:=hf it (by simp)
  refine wpAny_pyNext_tuple_item st (p) (by simpa using hu) λh' st' sb=>?_
  have I1:=I.turned (λb o hb e=>(sb.2 b hb).trans e) f0 f1 f3 f4 f5
  obtain⟨o,e,c,d⟩:=id st'
  exact⟨u,rfl,Ls e c d (by decide) ⟨x,H,I1,ru,⟨rfl,λys hy=>by rw[I.tuple_inj hy hq];exact hx⟩,st',λb hb=>(hf b hb).1⟩⟩
 done:=by
  intro X hP hw hK hc i ξ s σ H E I hf st hg
  subst hP hw hK
  obtain⟨xs,hq,hx⟩:=hg
  obtain⟨χ,rv,p,hz⟩:=I.tuple hq
  obtain⟨f0,f1,f2,f3,f4,f5⟩:=hf it (by simp)
  have hl:=rv.length
  exact wpAny_pyNext_tuple_end (I.ok.hd hc) st (p) (by simp;omega) λh' eb=>⟨rfl,I.turned (λb o hb e=>eb b o hb e) f0 f1 f3 f4 f5⟩
 self:=λ_ _ _ _ _ st h=>wpAny_pyIter_tupleiter st h
def W8{P:aW}{w:bC}{K:ac}{tg:Expr}(it:Addr)(lo:Int)(n:Nat):Nb P w K tg (Itr lo n) [it] it (λi h=>IsRangeIter h it (lo+(i:Nat)*1) ((n:Int)-(i:Nat)) 1) where
 mem:=by simp
 obj:=λi h st b hb=>by
  have e:b=it:=by simpa using hb
  subst e
  exact⟨_,st,λv z=>by
   have z':=z
   cases z'⟩
 keep:=λi h h' st k=>k it (by simp) _ st
 item:=by
  intro X hP hw hK hc i ξ s σ H E I hf st hg
  subst hP hw hK
  obtain⟨f0,f1,f2,f3,f4,f5⟩:=hf it (by simp)
  have W:=Walks.range (prog:=X.prog) (w:=X.w) (I.ok.hd hc) it lo 1 n
  refine bG (ag _) (W.item i s _ _ hg st λv h' tk hv st' kk htk=>?_)
  obtain⟨t,rfl⟩:=hv
  have I1:Inv X ξ σ H {s with heap:=h',toks:=tk}:=I.turned (λb o hb e=>kk b o (by simpa using hb) e) f0 f1 f3 f4 f5
  refine⟨_,rfl,Ls st' rfl rfl (by decide) ⟨.int (lo+i),H,I1,⟨t,?_⟩,⟨rfl,rfl⟩,st',λb hb=>(hf b hb).1⟩⟩
  rw[Int.mul_one]
 done:=by
  intro X hP hw hK hc i ξ s σ H E I hf st hg
  subst hP hw hK
  obtain⟨f0,f1,f2,f3,f4,f5⟩:=hf it (by simp)
  exact wpAny_pyNext_range_end (I.ok.hd hc) st (by have:n<=i:=hg;omega) λh' eb=>⟨rfl,I.turned (λb o hb e=>eb b o hb e) f0 f1 f3 f4 f5⟩
 self:=λ_ _ _ _ _ st h=>wpAny_pyIter_rangeiter st h
section
variable {X:Cx}{tg:Expr}
def Tw{ξ:List (Addr×Obj)}{σ:St}{H:Hp}{s:aw}{R:It->Hp->Prop}{E:Value->aw->Prop}{lo hi:Int}{t u v:Tok}{tk:Nat}(I:Inv X ξ σ H s)(htk:s.toks<=tk)(h1:-(2^62)<=lo)(h2:lo<2^62)(h3:-(2^62)<=hi)(h4:hi<2^62)(q:R (Itr lo (hi-lo).toNat) H):aR (model X.prog X.w) X.A (mN (.ref s.heap.objs.size)) (PIE X ξ σ tg R) E {s with heap:=s.heap.push {cls:=.type "range", data:=.fields #[.int lo t,.int hi u,.int 1 v]},toks:=tk}:=by
 refine wpAny_pyIter_range (IsRange.new ..) (small_one h1 h2 h3 h4) ?_
 have I1:Inv X ξ σ H {s with heap:=s.heap.push {cls:=.type "range", data:=.fields #[.int lo t,.int hi u,.int 1 v]},toks:=tk}:=I.kept λb o e=>ah _ e
 refine⟨(s.heap.push {cls:=.type "range", data:=.fields #[.int lo t,.int hi u,.int 1 v]}).objs.size,[(s.heap.push {cls:=.type "range", data:=.fields #[.int lo t,.int hi u,.int 1 v]}).objs.size],_,_,H,rfl,
  I1.kept λb o e=>ah _ e,W8 _ lo (hi-lo).toNat,?_,λb hb=>?_,q⟩
 .have e1:lo+((0:Nat):Int)*1=lo:=by simp
  have e2:(((hi-lo).toNat:Nat):Int)-((0:Nat):Int)=Builtin.Range.rangeSize lo hi 1:=by rw[rangeSize_one];split <;> omega
  rw[e1,e2]
  exact aE _ rfl
 .have e:b=(s.heap.push {cls:=.type "range", data:=.fields #[.int lo t,.int hi u,.int 1 v]}).objs.size:=by simpa using hb
  subst e
  exact I1.fpOk (ag _) (I1.hok.fresh (ag _))
def cb9(wi:TI)(g:TG)(tb:TS):TS:=λD σ H=>wi σ H λJ H1=>∃W:Nat->Nat->St->Hp->Prop,(∃m,W 0 m σ H1)/\∀i m σ H,W i m σ H ->
 (J.stop i H/\D.nx σ H)\/(J.go i H/\∃N,(∀ σ' H',N σ' H' -> ∃m',m'<m/\W (i+1) m' σ' H')/\∀x H',J.yld i H x H'->g x σ H' λσ2 H2=>tb {D with nx:=N,ct:=N,bk:=D.nx} σ2 H2)
def Jo(fp:List Addr)(h:Heap):List (Addr×Obj):=fp.filterMap λb=>(h.get? b).map λo=>(b,o)
def E4(hb:b∈fp)(e:h.get? b=some o):(b,o)∈Jo fp h:=List.mem_filterMap.mpr ⟨b,hb,by rw[e];rfl⟩
def Z4(hp:p∈Jo fp h):p.1∈fp/\h.get? p.1=some p.2:=by
 obtain⟨b,hb,e⟩:=List.mem_filterMap.mp hp
 cases q:h.get? b with
 |none=>rw[q] at e;cases e
 |some o=>
  rw[q] at e
  have e':=az e
  subst e'
  exact⟨hb,q⟩
def Inv.pinned(I:Inv X ξ σ H s)(hf:∀b∈fp,Cz X ξ H b)(ho:∀b∈fp,∃o,s.heap.get? b=some o/\∀v,o.data≠.cell v):Inv X (ξ++Jo fp s.heap) σ H s:=
 I.pins_of λp hp=>(List.mem_append.mp hp).elim (λz=>I.pin p (aH _ z)) λz=>by
  obtain⟨hb,e⟩:=Z4 z
  obtain⟨f0,f1,f2,_⟩:=hf p.1 hb
  obtain⟨o,e',d⟩:=ho p.1 hb
  rw[e] at e';cases e'
  exact⟨e,f0,f1,f2,d⟩
def Inv.unpinned(I:Inv X (ξ++pl) σ H s):Inv X ξ σ H s:=I.pins_of λp hp=>I.pin p (aH _ (bx _ hp))
def bq2(hp:gX (model X.prog X.w) X.A X.env X.xe)(hc:X.calm=true)(hi:PI X tg iter wi)(hg:PG X tg g)(hb:PSs X body tb)(hs:∀x,gu iter X.env x=pure x:=by intro _;rfl):PS X (.For tg iter body [] pos) (cb9 wi g tb):=by
 intro ξ s σ H D I h
 refine wpAny_For (thn (hi ξ s σ H _ I h) λv s1 h1=>thn h1 λitv s2 h2=>?_) hs
 obtain⟨it,fp,tn,J,H2,e,I2,T,st2,f2,W,⟨m0,w0⟩,turn⟩:=h2
 subst e
 have stat:∀{H':Hp},(∀b∈fp,H' b=none) -> ∀b∈fp,Cz X ξ H' b:=λhn b hb=>⟨hn b hb,(f2 b hb).2⟩
 refine codeAny_forLoop_any (λn s'=>∃i σ' H',Inv X ξ σ' H' s'/\tn i s'.heap/\(∀b∈fp,H' b=none)/\W i n σ' H') ?_ m0 ⟨0,σ,H2,I2,st2,λb hb=>(f2 b hb).1,w0⟩
 rintro n s3 ⟨i,σ3,H3,I3,st3,fr3,w3⟩
 rcases turn i n σ3 H3 w3 with⟨stop,qn⟩|⟨go,N,hN,step⟩
 .refine eZ hp (thn (T.done X rfl rfl rfl hc i ξ s3 σ3 H3 X.xe I3 (stat fr3) st3 stop) λr s4 ⟨hr,I4⟩=>?_)
  subst hr
  exact iU ⟨σ3,H3,I4,qn⟩
 .refine eZ hp (thn (T.item X rfl rfl rfl hc i ξ s3 σ3 H3 X.xe I3 (stat fr3) st3 go) λr s4 ⟨u,hr,h4⟩=>?_)
  subst hr
  refine eZ hp (thn h4 λ_ s5 ⟨x,H5,I5,r5,y5,st5,fr5⟩=>?_)
  have I5':=I5.pinned (stat fr5) (T.obj _ _ st5)
  refine eZ hp (thn (hg _ s5 σ3 H5 x u _ I5' r5 (step x H5 y5)) λ_ s6 ⟨σ6,H6,I6,q6⟩=>?_)
  refine eZ hp (thn (hb _ s6 σ6 H6 _ I6 q6) λf s7 q7=>?_)
  have again:∀{σ7:St}{H7:Hp},Inv X (ξ++Jo fp s5.heap) σ7 H7 s7->N σ7 H7 -> ∃m,m<n/\∃i σ' H',Inv X ξ σ' H' s7/\tn i s7.heap/\(∀b∈fp,H' b=none)/\W i m σ' H':=λ{σ7 H7} I7 n7=>by
   obtain⟨m',hm,w7⟩:=hN σ7 H7 n7
   refine⟨m',hm,i+1,σ7,H7,I7.unpinned,T.keep _ _ _ st5 λb hb o e=>(I7.pin (b,o) (aH _ (aH _ (E4 hb e)))).1,λb hb=>?_,w7⟩
   obtain⟨o,e,d⟩:=T.obj _ _ st5 b hb
   exact(I7.pin (b,o) (aH _ (aH _ (E4 hb e)))).2.1
  cases f with
  |next=>obtain⟨σ7,H7,I7,n7⟩:=q7;exact again I7 n7
  |cont=>obtain⟨σ7,H7,I7,n7⟩:=q7;exact again I7 n7
  |brk=>obtain⟨σ7,H7,I7,q7⟩:=q7;exact⟨σ7,H7,I7.unpinned,q7⟩
  |ret v=>obtain⟨x7,σ7,H7,I7,r7,q7⟩:=q7;exact⟨x7,σ7,H7,I7.unpinned,r7,q7⟩
end
abbrev R2:=V->V->Hp->VK->Prop
def OpR(X:Cx)(f:Value->Value->Sem Value)(r:R2):Prop:=
 ∀ξ s (σ:St) (H:Hp) (x y:V) (v u:Value) (Q:VK),Inv X ξ σ H s->RelV x v->RelV y u->r x y H Q ->
  aR (model X.prog X.w) X.A (f v u) (EP X ξ σ Q) X.xe s
def UnR(X:Cx)(f:Value->Sem Value)(r:V->Hp->VK->Prop):Prop:=
 ∀ξ s (σ:St) (H:Hp) (x:V) (v:Value) (Q:VK),Inv X ξ σ H s->RelV x v->r x H Q ->
  aR (model X.prog X.w) X.A (f v) (EP X ξ σ Q) X.xe s
def Ci(X:Cx)(f:Value)(r:List V->Hp->VK->Prop):Prop:=
 ∀ξ s (σ:St) (H:Hp) (xs:List V) (us:List Value) (Q:VK),Inv X ξ σ H s->Vals xs us->r xs H Q ->
  aR (model X.prog X.w) X.A (call f us) (EP X ξ σ Q) X.xe s
def bv9(X:Cx)(r:V->Hp->(Bool->Hp->Prop)->Prop):Prop:=
 ∀ξ s (σ:St) (H:Hp) (x:V) (v:Value) (Q:Bool->Hp->Prop),Inv X ξ σ H s->RelV x v->r x H Q ->
  aR (model X.prog X.w) X.A (truthy v) (TP X ξ σ Q) X.xe s
def tOp(r:R2)(ta tb:TE):TE:=λσ H Q=>ta σ H λx H1=>tb σ H1 λy H2=>r x y H2 Q
def tUn(r:V->Hp->VK->Prop)(ta:TE):TE:=λσ H Q=>ta σ H λx H1=>r x H1 Q
def rI(C:Int->Int->Prop)(g:Int->Int->V):R2:=λx y H Q=>∃i j,x=.int i/\y=.int j/\C i j/\Q (g i j) H
def rI0(g:Int->Int->V):R2:=λx y H Q=>∃i j,x=.int i/\y=.int j/\Q (g i j) H
def rU(g:Int->V):V->Hp->VK->Prop:=λx H Q=>∃i,x=.int i/\Q (g i) H
section
variable {X:Cx}{a b c:Expr}{ta tb tc:TE}{pos:Pos}
def bf4(ha:PE X a ta)(hb:PE X b tb){ξ:List (Addr×Obj)}{s:aw}{σ:St}{H:Hp}{R:V->V->Hp->Prop}(I:Inv X ξ σ H s)(h:ta σ H λx H1=>tb σ H1 λy H2=>R x y H2){Q:Value->aw->Prop}{f:Value->Value->Sem Value}(hf:∀v u s2 x y H2,Inv X ξ σ H2 s2->RelV x v->RelV y u->R x y H2->aR (model X.prog X.w) X.A (f v u) Q X.xe s2) :
  aR (model X.prog X.w) X.A (eval a X.env) (λv s₁=>aR (model X.prog X.w) X.A (eval b X.env) (λu s₂=>aR (model X.prog X.w) X.A (f v u) Q X.xe s₂) X.xe s₁) X.xe s:=by
 refine thn (ha ξ s σ H _ I h) λv s1 ⟨x,H1,I1,r1,q1⟩=>?_
 exact thn (hb ξ s1 σ H1 _ I1 q1) λu s2 ⟨y,H2,I2,r2,q2⟩=>(hf v u s2 x y H2 I2 r1 r2 q2)
def b29(ho:OpR X (dO op) r)(ha:PE X a ta)(hb:PE X b tb):PE X (.BinOp a op b pos) (tOp r ta tb):=by
 intro ξ s σ H Q I h
 exact wpAny_BinOp (bf4 ha hb I h λv u s2 x y H2 I2 rx ry q=>ho ξ s2 σ H2 x y v u Q I2 rx ry q)
def bb6(ho:UnR X (nj op) r)(ha:PE X a ta):PE X (.UnaryOp op a pos) (tUn r ta):=by
 intro ξ s σ H Q I h
 exact UnaryOp_ (thn (ha ξ s σ H _ I h) λv s1 ⟨x,H1,I1,r1,q1⟩=>ho ξ s1 σ H1 x v Q I1 r1 q1)
def opI{f:Value->Value->Sem Value}{C:Int->Int->Prop}{g:Int->Int->Int}(rule:∀i j t u s Q E,C i j->Q (.int (g i j) s.toks) {s with toks:=s.toks+1}->aR (model X.prog X.w) X.A (f (.int i t) (.int j u)) Q E s) :
  OpR X f (rI C λi j=>.int (g i j)):=by
 intro ξ s σ H x y v u Q I rx ry h
 obtain⟨i,j,rfl,rfl,hc,q⟩:=h
 obtain⟨t,rfl⟩:=rx
 obtain⟨t',rfl⟩:=ry
 exact rule i j t t' s _ _ hc ⟨.int (g i j),H,I.tok _,⟨_,rfl⟩,q⟩
def an9{f:Value->Value->Sem Value}{g:Int->Int->Int}(rule:∀i j t u s Q E,Q (.int (g i j) s.toks) {s with toks:=s.toks+1}->aR (model X.prog X.w) X.A (f (.int i t) (.int j u)) Q E s) :
  OpR X f (rI0 λi j=>.int (g i j)):=by
 intro ξ s σ H x y v u Q I rx ry h
 obtain⟨i,j,rfl,rfl,q⟩:=h
 obtain⟨t,rfl⟩:=rx
 obtain⟨t',rfl⟩:=ry
 exact rule i j t t' s _ _ ⟨.int (g i j),H,I.tok _,⟨_,rfl⟩,q⟩
def a29{f:Value->Value->Sem Value}{g:Int->Int->Bool}(rule:∀i j t u s Q E,Q (.bool (g i j)) s->aR (model X.prog X.w) X.A (f (.int i t) (.int j u)) Q E s) :
  OpR X f (rI0 λi j=>.bl (g i j)):=by
 intro ξ s σ H x y v u Q I rx ry h
 obtain⟨i,j,rfl,rfl,q⟩:=h
 obtain⟨t,rfl⟩:=rx
 obtain⟨t',rfl⟩:=ry
 exact rule i j t t' s _ _ ⟨.bl (g i j),H,I,rfl,q⟩
def bv0(i j:Int):Prop:=0<j/\j<1073741824
def aw9(i j:Int):Prop:=0<=j/\j<=1000000/\i.natAbs<2^64
def CMul(i j:Int):Prop:=(-(2^64)<i/\i<2^64)\/(-(2^64)<j/\j<2^64)
def CMul.ok(h:CMul i j):IntMulOk i j:=by
 rcases h with⟨h1,h2⟩|⟨h1,h2⟩
 .exact .of_left (intBits_le_64 h1 h2)
 .exact .of_right (intBits_le_64 h1 h2)
def Xa(k:Nat):(0:Int)<=2^k:=by
 rw[two_pow_cast]
 exact i4 _
def bn8:OpR X (dO .Add) (rI0 λi j=>.int (i+j)):=an9 λ_ _ _ _ _ _ _ q=>add_int q
def bp0:OpR X (dO .Sub) (rI0 λi j=>.int (i-j)):=an9 λ_ _ _ _ _ _ _ q=>sub_int q
def bo4:OpR X (dO .Mult) (rI CMul λi j=>.int (i*j)):=opI λ_ _ _ _ _ _ _ hc q=>mul_int q hc.ok
def a31:OpR X (dO .FloorDiv) (rI bv0 λi j=>.int (i/j)):=opI λi j _ _ _ _ _ hc q=>by
 have h1:=hc.1
 have h2:=hc.2
 exact floordiv_int (by omega) (by rw[iX i (by omega)];exact q) (.inl (PyProof.noPylong_small (by omega)))
def bo3:OpR X (dO .Mod) (rI (λ_ j=>0<j) λi j=>.int (i%j)):=opI λi j _ _ _ _ _ hc q=>by
 have h1:=hc
 exact mod_int' (by omega) (by rw[Int.fmod_eq_emod_of_nonneg i (by omega)];exact q)
def bo7:OpR X (dO .Pow) (rI aw9 λi j=>.int (i^j.toNat)):=opI λ_ _ _ _ _ _ _ hc q=>pow_int_small hc.1 hc.2.1 hc.2.2 q
def bo8:OpR X (dO .LShift) (rI aw9 λi j=>.int (i*2^j.toNat)):=opI λ_ _ _ _ _ _ _ hc q=>lshift_int_small hc.1 hc.2.1 hc.2.2 q
def bo9:OpR X (dO .RShift) (rI (λ_ j=>0<=j) λi j=>.int (i/2^j.toNat)):=opI λi j _ _ _ _ _ hc q=>
 rshift_int hc (by rw[iX i (Xa _)];exact q)
def bn9:OpR X (dO .BitAnd) (rI0 λi j=>.int (cA i j)):=an9 λ_ _ _ _ _ _ _ q=>and_int q
def b26:OpR X (dO .BitOr) (rI0 λi j=>.int (cT i j)):=an9 λ_ _ _ _ _ _ _ q=>or_int q
def bp1:OpR X (dO .BitXor) (rI0 λi j=>.int (Builtin.bitXor i j)):=an9 λ_ _ _ _ _ _ _ q=>xor_int q
def unI{f:Value->Sem Value}{g:Int->Int}(rule:∀i t s Q E,Q (.int (g i) s.toks) {s with toks:=s.toks+1}->aR (model X.prog X.w) X.A (f (.int i t)) Q E s) :
  UnR X f (rU λi=>.int (g i)):=by
 intro ξ s σ H x v Q I rx h
 obtain⟨i,rfl,q⟩:=h
 obtain⟨t,rfl⟩:=rx
 exact rule i t s _ _ ⟨.int (g i),H,I.tok _,⟨_,rfl⟩,q⟩
def bu4:UnR X (nj .USub) (rU λi=>.int (-i)):=unI λ_ _ _ _ _ q=>neg_int q
def bu3:UnR X (nj .Invert) (rU λi=>.int (cr i)):=unI λ_ _ _ _ _ q=>invert_int q
end
def bt5:V->V->Bool
 |.non,.non=>true | .non,.int _=>true | .int _,.non=>true | .non,.bl _=>true | .bl _,.non=>true | .non,.str _=>true | .str _,.non=>true
 |.int _,.int _=>true | .bl _,.bl _=>true | .str _,.str _=>true
 |.int _,.str _=>true | .str _,.int _=>true | .bl _,.str _=>true | .str _,.bl _=>true
 |_,_=>false
def rEq:R2:=λx y H Q=>bt5 x y=true/\Q (.bl (decide (x=y))) H
def rNe:R2:=λx y H Q=>bt5 x y=true/\Q (.bl (!decide (x=y))) H
def Kt:decide (V.int i=V.int j)=(i==j):=by
 rw[b5]
 simp
def Pz:decide (V.bl i=V.bl j)=(i==j):=by
 rw[b5]
 simp
def Ku:decide (V.str i=V.str j)=(i==j):=by
 rw[b5]
 simp
section
variable {X:Cx}{a b c:Expr}{ta tb tc:TE}{pos:Pos}
def Lo(I:Inv X ξ σ H s)(q:Q (.bl k) H)(e:k=k'):EP X ξ σ Q (.bool k') s:=by
 subst e
 exact⟨.bl k,H,I,rfl,q⟩
def Yf:OpR X (cI .Eq) rEq:=by
 intro ξ s σ H x y v u Q I rx ry h
 obtain⟨hs,q⟩:=h
 cases x <;> cases y <;> first|cases(hs)|skip
 all_goals first|obtain⟨_,rfl⟩:=rx|cases rx
 all_goals first|obtain⟨_,rfl⟩:=ry|cases ry
 all_goals with_reducible first|refine eq_bool ?_|refine eq_int ?_|refine eq_str ?_|refine PySem.EqNone.eq_none_none ?_|refine PySem.EqNone.eq_none_bool ?_|refine PySem.EqNone.eq_none_int ?_|refine PySem.EqNone.eq_none_str ?_|refine PySem.EqNone.eq_bool_none ?_|refine PySem.EqNone.eq_int_none ?_|refine PySem.EqNone.eq_str_none ?_|refine PySem.EqMixed.eq_bool_str ?_|refine PySem.EqMixed.eq_int_str ?_|refine PySem.EqMixed.eq_str_bool ?_|refine PySem.EqMixed.eq_str_int ?_
 all_goals exact Lo I q (by first|exact Pz|exact Kt|exact Ku|simp)
def Yg:OpR X (cI .NotEq) rNe:=by
 intro ξ s σ H x y v u Q I rx ry h
 obtain⟨hs,q⟩:=h
 cases x <;> cases y <;> first|cases(hs)|skip
 all_goals first|obtain⟨_,rfl⟩:=rx|cases rx
 all_goals first|obtain⟨_,rfl⟩:=ry|cases ry
 all_goals with_reducible first|refine ne_bool ?_|refine ne_int ?_|refine ne_str ?_|refine PySem.EqNone.ne_none_none ?_|refine PySem.EqNone.ne_none_bool ?_|refine PySem.EqNone.ne_none_int ?_|refine PySem.EqNone.ne_none_str ?_|refine PySem.EqNone.ne_bool_none ?_|refine PySem.EqNone.ne_int_none ?_|refine PySem.EqNone.ne_str_none ?_|refine PySem.EqMixed.ne_bool_str ?_|refine PySem.EqMixed.ne_int_str ?_|refine PySem.EqMixed.ne_str_bool ?_|refine PySem.EqMixed.ne_str_int ?_
 all_goals exact Lo I q (by first|exact(congrArg not Pz)|exact(congrArg not Kt)|exact(congrArg not Ku)|simp)
def b25:OpR X (cI .Lt) (rI0 λi j=>.bl (decide (i<j))):=a29 λ_ _ _ _ _ _ _ q=>lt_int q
def b24:OpR X (cI .LtE) (rI0 λi j=>.bl (decide (i<=j))):=a29 λ_ _ _ _ _ _ _ q=>le_int q
def b23:OpR X (cI .Gt) (rI0 λi j=>.bl (decide (j<i))):=a29 λ_ _ _ _ _ _ _ q=>gt_int q
def b22:OpR X (cI .GtE) (rI0 λi j=>.bl (decide (j<=i))):=a29 λ_ _ _ _ _ _ _ q=>ge_int q
def Z7:OpR X (cI .Lt) (λx y H Q=>∃i j,x=.str i/\y=.str j/\Q (.bl (decide (i.cps.toList<j.cps.toList))) H):=by
 intro ξ s σ H x y v u Q I rx ry h
 obtain⟨i,j,rfl,rfl,q⟩:=h
 obtain⟨t,rfl⟩:=rx
 obtain⟨t',rfl⟩:=ry
 exact lt_str (Lo I q rfl)
def bo2:OpR X (cI .Is) (λx y H Q=>y=.non/\Q (.bl (decide (x=.non))) H):=by
 intro ξ s σ H x y v u Q I rx ry h
 obtain⟨rfl,q⟩:=h
 cases ry
 refine is_none_gen (Lo I q ?_)
 cases x <;> first
  |(cases rx;rfl)
  |(obtain⟨t,rfl⟩:=rx;rfl)
  |(obtain⟨t,rfl,_⟩:=rx;rfl)
def a33:OpR X (cI .IsNot) (λx y H Q=>y=.non/\Q (.bl (!decide (x=.non))) H):=by
 intro ξ s σ H x y v u Q I rx ry h
 obtain⟨rfl,q⟩:=h
 cases ry
 refine isnot_none_gen (Lo I q ?_)
 cases x <;> first
  |(cases rx;rfl)
  |(obtain⟨t,rfl⟩:=rx;rfl)
  |(obtain⟨t,rfl,_⟩:=rx;rfl)
def OpR.or(h:OpR X f r)(h':OpR X f r'):OpR X f (λx y H Q=>r x y H Q\/r' x y H Q):=by
 intro ξ s σ H x y v u Q I rx ry q
 rcases q with q|q
 .exact h ξ s σ H x y v u Q I rx ry q
 .exact h' ξ s σ H x y v u Q I rx ry q
def a37(ho:OpR X (cI op) r)(ha:PE X a ta)(hb:PE X b tb)(hm:g6 op b=false):PE X (.Compare a [op] [b] pos) (tOp r ta tb):=by
 intro ξ s σ H Q I h
 exact wpAny_Compare1 (bf4 ha hb I h λv u s2 x y H2 I2 rx ry q=>ho ξ s2 σ H2 x y v u Q I2 rx ry q) hm
def bw0(K:ac)(x:V)(H:Hp)(k:Bool):Prop:=
 match x with
 |.non=>k=false
 |.bl b=>k=b
 |.int i=>k=(i != 0)
 |.str y=>y.length<=sizeLine/\k=((y.length:Int) != 0)
 |.ref p=>(∃xs,SqL K H p xs/\k = !xs.isEmpty)\/(∃xs,SqT K H p xs/\k = !xs.isEmpty) \/ ∃kvs,H p=some (.dK kvs)/\k = !kvs.isEmpty
 |_=>False
def Ve{κ:Type}{kvs:List (κ×V)}{vs:List (κ×Value)}(r:KV kvs vs):(!vs.isEmpty) = !kvs.isEmpty:=by
 cases r <;> rfl
def Lw{xs:List V}{χ:List Value}(r:Vals xs χ):(!χ.toArray.isEmpty) = !xs.isEmpty:=by
 cases r <;> simp
def Ma:(sizeLine:Nat)<2^63:=by rw[bN];decide
def M6:bv9 X (λx H Q=>∃k,bw0 X.K x H k/\Q k H):=by
 intro ξ s σ H x v Q I rx h
 obtain⟨k,e,q⟩:=h
 have hs:=bN
 cases x with
 |non=>
  cases rx
  have e':=e
  subst e'
  exact truthy_none ⟨H,I,q⟩
 |bl b=>
  cases rx
  have e':=e
  subst e'
  exact e_ ⟨H,I,q⟩
 |int i=>
  obtain⟨t,rfl⟩:=rx
  have e':=e
  subst e'
  exact PySem.P.truthy_int ⟨H,I,q⟩
 |str y=>
  obtain⟨t,rfl⟩:=rx
  obtain⟨hy,e'⟩:y.length<=sizeLine/\k=((y.length:Int) != 0):=e
  subst e'
  exact PySem.P.truthy_str (by omega) ⟨H,I.tok _,q⟩
 |ref p=>
  cases rx
  have e':=e
  rcases e' with⟨xs,hx,e'⟩|⟨xs,hx,e'⟩|⟨kvs,hx,e'⟩
  .subst e'
   obtain⟨χ,r,pl,hz⟩:=I.list hx
   have hlen:=r.length
   exact wpAny_truthy_list pl.isList (by simp only[ax];omega) ⟨H,I.tok _,by rw[Lw r];exact q⟩
  .subst e'
   obtain⟨χ,r,pl,hz⟩:=I.tuple hx
   have hlen:=r.length
   exact truthy_tuple pl (by simp only[ax];omega) ⟨H,I.tok _,by rw[Lw r];exact q⟩
  .subst e'
   obtain⟨hz,hS,vs,r,m⟩:kvs.length<=sizeLine/\(p==c7)=false/\∃vs,KV kvs vs/\s.heap.DictOf (Be X.prog X.w) p vs:=I.hok p _ hx
   have hlen:=jD r
   exact wpAny_truthy_dict hS m (by omega) ⟨H,I.tok _,by rw[Ve r];exact q⟩
 |_=>exact(e).elim
def Vs:OpR X (dO .Add) (λx y H Q=>∃i j,x=.str i/\y=.str j/\i.length+j.length<=sizeLine/\Q (.str (i++j)) H):=by
 intro ξ s σ H x y v u Q I rx ry h
 obtain⟨i,j,rfl,rfl,hz,q⟩:=h
 obtain⟨t,rfl⟩:=rx
 obtain⟨t',rfl⟩:=ry
 exact bG (ag _) (add_str (λt' tk htk=>⟨.str (i++j),H,I.tok _ htk,⟨_,rfl⟩,q⟩) hz)
def D4(r:Vals [x] us):∃u,us=[u]/\RelV x u:=by
 cases r with
 |cons r1 r2=>cases r2;exact⟨_,rfl,r1⟩
def b94(r:Vals [x,y] us):∃u w',us=[u,w']/\RelV x u/\RelV y w':=by
 cases r with
 |cons r1 r2=>
  cases r2 with
  |cons r3 r4=>cases r4;exact⟨_,_,rfl,r1,r3⟩
def Ob:Ci X (.type "int") (λxs H Q=>(∃i,xs=[.int i]/\Q (.int i) H) \/ ∃k,xs=[.bl k]/\Q (.int (if k then 1 else 0)) H):=by
 intro ξ s σ H xs us Q I r h
 rcases h with⟨i,rfl,q⟩|⟨k,rfl,q⟩
 .obtain⟨u,rfl,t,rfl⟩:=D4 r
  exact call_int_int ⟨.int i,H,I,⟨_,rfl⟩,q⟩
 .obtain⟨u,rfl,r1⟩:=D4 r
  cases r1
  exact call_int_bool ⟨.int (if k then 1 else 0),H,I.tok _,⟨_,rfl⟩,q⟩
end
structure ObjM (h:Heap) (x dx C:Addr) (mA:Str->Option Value):Prop where
 obj:h.get? x=some (dM C dx)
 ns:h.Ns1 dx mA
 ne:dx≠x
def Jj{h:Heap}{dx:Addr}{mA:Str->Option Value}(n:h.Ns1 dx mA):∃od,h.get? dx=some od/\∀name,ja name od=some (mA name):=by
 obtain⟨o,es,ep,ho,hd,hk,_,hm⟩:=n
 refine⟨o,ho,λname=>?_⟩
 have e:=hm name
 unfold nsFind findBy at e
 rw[<- Array.find?_toList] at e
 unfold ja
 rw[hd]
 dsimp only
 split
 .rename_i y q
  rw[q] at e
  exact congrArg some e
 .rename_i q
  rw[q] at e
  have a:es.toList.any (·.refKey)=false:=by
   rw[jm]
   intro y hy
   obtain⟨z,t,hkey⟩:=hk y (Array.mem_toList_iff.mp hy)
   simp[DictEntry.refKey,hkey]
  have a':¬ es.toList.any (·.refKey)=true:=by rw[a];exact aC
  rw[if_neg a']
  exact congrArg some e
def ObjM.look(I:ObjM h x dx C mA):∃od,gG h x (dM C dx) C (some od)/\∀name,ja name od=some (mA name):=
 let⟨od,ho,hl⟩:=Jj I.ns
 ⟨od,⟨I.obj,rfl,rfl,ho⟩,hl⟩
section
variable {prog:aW}{w:bC}{A:bF}{E:Value->aw->Prop}{s:aw}{K:ac}{x dx C f:Addr}{mA:Str->Option Value}{name:Str}{v:Value}
def Am(X:K.In s.heap)(I:ObjM s.heap x dx C mA)(hg:gL K C name=true)(hh:ib K C=true)(ha:aZ K (.ref C) name=some none)(hv:mA name=some v)(hv':gJ v=true)(h:Q v {s with toks:=s.toks+1}) :
  aR (model prog w) A (l7 (.ref x) name expr) Q E s:=by
 obtain⟨od,J,hl⟩:=I.look
 exact PySem.W.get_value X J (fF hg).1 (lI hh ha rfl (by rw[hl,hv])) hv' h
def aj7(X:K.In s.heap)(I:ObjM s.heap x dx C mA)(hg:gL K C name=true)(hf:aZ K (.ref C) name=some (some (.ref f)))(ht:cW K (.ref f)=true)(hv:mA name=none)(h:Q (.ref f,[.ref x]) s) :
  aR (model prog w) A (getMethod (.ref x) name pl) Q E s:=by
 obtain⟨od,J,hl⟩:=I.look
 exact PySem.W.method_fn X J (fF hg).1 (fF hg).2 hf (beq_iff_eq.mp ht) (by show(ja name od).map (·.isSome)=some false;rw[hl,hv];rfl) h
def a71(X:K.In s.heap)(I:ObjM s.heap x dx C mA)(hs:aZ K (.ref C) "__setattr__"=some (some (.builtin "object.__setattr__")))(hp:jr K C=true)(ht:kq K C name=some none)(hh:ib K C=true)(hw:fu mA ns)(hsz:ns.length<=sizeLine)(h:∀h',ObjM h' x dx C (λy=>if y=name then some v else mA y)->bO dx s.heap h'->Q () {s with heap:=h',toks:=s.toks+2}) :
  aR (model prog w) A (mP (.ref x) name v) Q E s:=by
 obtain⟨od,J,hl⟩:=I.look
 refine PySem.W.set_plain X J hs (PySem.W.osa_open X J hp ht λb=>?_)
 obtain⟨cd,hc,hd'⟩:=PySem.W.any_some hh
 have hx:=I.obj
 refine af (am (af (af (jg hx (af (PySem.W.Looks.here (PySem.W.looks_clsIn X hc) ?_))))))
 rw[hd']
 refine am (af (am (af ?_)))
 refine mw I.ns λh' hn2 hs2=>?_
 obtain⟨oD,esD,epD,hoD,hdD,hcD⟩:=hn2.count (PySem.Within.cons name v hw)
 exact af (jW hoD (by rw[hdD];exact jS (aU hcD (by rw[aK];omega))) (am (h _ ⟨(hs2.2 _ (cg I.ne)).trans I.obj,hn2,I.ne⟩ hs2)))
def al3(X:K.In s.heap)(hm:dN K C=true)(hi:aZ K (.ref C) "__init__"=some (some (.ref f)))(hf:PySem.W.typeIn K (.ref f)=some (.type "function"))(h:gN (model prog w) (A.under (.builtin "type.__call__" ⟨.ref C::vs,kw⟩)) (.call (.ref f) ⟨.ref (s.heap.objs.size+1)::vs,kw⟩) (PySem.W.InitBack (s.heap.objs.size+1) R)
   {s with heap:=(s.heap.push cZ).push (dM C s.heap.objs.size)}) :
  gN (model prog w) A (.call (.ref C) ⟨vs,kw⟩) R s:=by
 obtain⟨hh,g,d,t,os⟩:=s
 exact PySem.W.make_core (PySem.W.makes_of X hm) (eJ X hi) (λself=>PySem.W.bind_fn X self hf) (.inl rfl) h
end
def E6(f:Str)(v:V):List (Str×V)->List (Str×V)
 |[]=>[(f,v)]
 |(g,x)::r=>if g=f then(g,v)::r else(g,x)::E6 f v r
theorem Ft(f g:Str)(v:V):∀fs,(E6 f v fs).lookup g=if g=f then some v else fs.lookup g
 | []=>by
  show fV g [(f,v)]=_
  by_cases h:g=f
  .have hb:=beq_iff_eq.mpr h
   simp only[fV,hb,if_pos h]
  .have hb:=beq_eq_false_iff_ne.mpr h
   simp only[fV,hb,if_neg h]
 | (k,x)::r=>by
  have ih:=Ft f g v r
  rw[show E6 f v ((k,x)::r)=(if k=f then(k,v)::r else(k,x)::E6 f v r) from rfl]
  by_cases hk:k=f
  .rw[if_pos hk]
   by_cases h:g=k
   .have hb:=beq_iff_eq.mpr h
    simp only[fV,hb,if_pos (h.trans hk)]
   .have hb:=beq_eq_false_iff_ne.mpr h
    simp only[fV,hb,if_neg (λe:g=f=>h (e.trans hk.symm))]
  .rw[if_neg hk]
   by_cases h:g=k
   .have hb:=beq_iff_eq.mpr h
    simp only[fV,hb,if_neg (λe:g=f=>hk (h.symm.trans e))]
   .have hb:=beq_eq_false_iff_ne.mpr h
    simp only[fV,hb]
    exact ih
theorem El(f:Str)(v:V):∀fs,f∈(E6 f v fs).map (·.1)/\∀g,g∈fs.map (·.1)->g∈(E6 f v fs).map (·.1)
 |[]=>⟨by simp[E6],λg h=>by simp at h⟩
 | (k,x)::r=>by
  obtain⟨i1,i2⟩:=El f v r
  rw[show E6 f v ((k,x)::r)=(if k=f then(k,v)::r else(k,x)::E6 f v r) from rfl]
  by_cases hk:k=f
  .rw[if_pos hk]
   subst hk
   exact⟨by simp,λg h=>by simpa using h⟩
  .rw[if_neg hk]
   refine⟨?_,λg h=>?_⟩
   .rw[aT]
    exact av _ i1
   .rw[aT] at h ⊢
    rcases List.mem_cons.mp h with e|e
    .exact List.mem_cons.mpr (.inl e)
    .exact av _ (i2 g e)
theorem Fs(f:Str)(v:V):∀fs,(E6 f v fs).length<=fs.length+1
 |[]=>by simp[E6]
 | (k,x)::r=>by
  have ih:=Fs f v r
  rw[show E6 f v ((k,x)::r)=(if k=f then(k,v)::r else(k,x)::E6 f v r) from rfl]
  by_cases hk:k=f
  .rw[if_pos hk,aK,aK];omega
  .rw[if_neg hk,aK,aK];omega
def RelO.some_of(r:RelO (some v) o):∃u,o=some u/\RelV v u:=by
 cases o with
 |none=>exact(r).elim
 |some u=>exact⟨u,rfl,r⟩
def RelO.none_of(r:RelO none o):o=none:=by
 cases o with
 |none=>rfl
 |some u=>exact(r).elim
def Op(r:RelV v u):gJ u=true:=by
 cases v <;> first|(cases r;rfl)|(obtain⟨t,rfl⟩:=r;rfl)
section
variable {P:aW}{w:bC}{H H':Hp}{h h':Heap}{a C dx:Addr}{fs fs':List (Str×V)}
def K2(hok:HOk P w H h)(e:H a=some (.ins C dx fs)):∃mA,ObjM h a dx C mA/\(∀f,RelO (fs.lookup f) (mA f))/\fu mA (fs.map (·.1))/\fs.length<=1000/\H dx=some (.own a):=by
 obtain⟨d,z,ne,ob,mA,n,r,q⟩:=(hok a _ e)
 exact⟨mA,⟨ob,n,ne⟩,r,q,z,d⟩
end
structure Cls (K:ac) (C:Addr):Prop where
 pg:gL K C cH=true
 hd:ib K C=true
 po:jr K C=true
 sa:aZ K (.ref C) "__setattr__"=some (some (.builtin "object.__setattr__"))
def Cls.get{K:ac}{C:Addr}(c:Cls K C)(f:Str):gL K C f=true:=c.pg
def NoAttr(K:ac)(C:Addr)(f:Str):Prop:=aZ K (.ref C) f=some none
def NoAttr.taker{K:ac}{C:Addr}{f:Str}(n:NoAttr K C f):kq K C f=some none:=by
 unfold kq
 rw[n]
 rfl
structure Na (K:ac) (C:Addr) (m:Str) (f:Addr):Prop where
 at_:aZ K (.ref C) m=some (some (.ref f))
 fn:cW K (.ref f)=true
 kp:ba K (.ref f)=true
section
variable {X:Cx}{ξ:List (Addr×Obj)}{σ:St}{H:Hp}{s:aw}{a C dx:Addr}{fs:List (Str×V)}{f:Str}{v:V}{A:bF}{E:Value->aw->Prop}
def Va(I:Inv X ξ σ H s)(e:H a=some (.ins C dx fs))(c:Cls X.K C)(n:NoAttr X.K C f)(l:fs.lookup f=some v)(h:∀u s',Inv X ξ σ H s'->RelV v u->Q u s'):aR (model X.prog X.w) A (l7 (.ref a) f b) Q E s:=by
 obtain⟨mA,O,r,_,_,_⟩:=K2 I.hok e
 obtain⟨u,hu,ru⟩:=RelO.some_of (by rw[<- l];exact r f)
 exact Am I.kIn O (c.get f) c.hd n hu (Op ru) (h u _ (I.tok _) ru)
def Vb(I:Inv X ξ σ H s)(e:H a=some (.ins C dx fs))(c:Cls X.K C)(k:Na X.K C m g)(l:fs.lookup m=none)(h:Q (.ref g,[.ref a]) s):aR (model X.prog X.w) A (getMethod (.ref a) m pl) Q E s:=by
 obtain⟨mA,O,r,_,_,_⟩:=K2 I.hok e
 have hn:=RelO.none_of (by rw[<- l];exact r m)
 exact aj7 I.kIn O (c.get m) k.at_ k.fn hn h
def V9(I:Inv X ξ σ H s)(e:H a=some (.ins C dx fs))(c:Cls X.K C)(n:NoAttr X.K C f)(hl:fs.length<1000)(ry:RelV y u)(h:∀s',Inv X ξ σ (upd H a (.ins C dx (E6 f y fs))) s'->Q () s'):aR (model X.prog X.w) A (mP (.ref a) f u) Q E s:=by
 obtain⟨mA,O,r,wi,_,ho⟩:=K2 I.hok e
 have hz:(fs.map (·.1)).length<=sizeLine:=by rw[ae,bN];omega
 refine a71 I.kIn O c.sa c.po n.taker c.hd wi hz λh' O' sb=>h _ ?_
 have hd:∃o,h'.get? dx=some o:=let⟨o,_,_,e',_⟩:=O'.ns;⟨o,e'⟩
 refine I.write (by rw[e];exact aP) (.inr ho) (λb q hb z=>(sb.2 b hb).trans z) hd ?_
 refine⟨by rw[Ad O.ne];exact ho,?_,O.ne,O'.obj,_,O'.ns,λg=>?_,λg hg=>?_⟩
 .have:=Fs f y fs;omega
 .rw[Ft]
  by_cases q:g=f
  .rw[if_pos q,if_pos q];exact ry
  .rw[if_neg q,if_neg q];exact r g
 .by_cases q:g=f
  .rw[q];exact(El f y fs).1
  .refine (El f y fs).2 g (wi g λz=>hg ?_)
   show(if g=f then some u else mA g)=none
   rw[if_neg q];exact z
def Inv.made(I:Inv X ξ σ H s):Inv X ξ σ (upd (upd H s.heap.objs.size (.own (s.heap.objs.size+1))) (s.heap.objs.size+1) (.ins C s.heap.objs.size []))
  {s with heap:=(s.heap.push cZ).push (dM C s.heap.objs.size)}:=by
 have e1:(s.heap.push cZ).get? s.heap.objs.size=some cZ:=aE s.heap rfl
 have e2:((s.heap.push cZ).push (dM C s.heap.objs.size)).get? (s.heap.objs.size+1)=some (dM C s.heap.objs.size):=by
  have:=aE (s.heap.push cZ) (o:=dM C s.heap.objs.size) rfl
  rwa[cR] at this
 have e3:(s.heap.push cZ).Ns s.heap.objs.size (λ_=>none):=⟨cZ,#[],_,e1,rfl,(λe he=>absurd he (by simp)),λ_=>rfl⟩
 have I1:=I.laid (o:=.own (s.heap.objs.size+1)) (λb u q=>ah _ q) (ag _) ⟨_,e1⟩
 refine I1.laid (λb u q=>ah _ q) (ml (cR _ _)) ?_
 have ne:s.heap.objs.size≠s.heap.objs.size+1:=aN (cf _)
 refine⟨by rw[Ad ne,Aa],bw _,ne,e2,λ_=>none,(Heap.Ns1.of_empty e3).at λo q=>ah _ q,λ_=>aP,λy hy=>absurd rfl hy⟩
def Xv(hb:jK e f env (eval e env)=eval e env)(h:aR (model prog w) A (eval e env) (λo s₁=>aR (model prog w) A (l7 o f true) Q E s₁) E s):aR (model prog w) A (eval (.Attribute e f pos) env) Q E s:=
 Attribute_any_ h (by rw[arm_eval_Attribute,hb])
end
section
variable {X:Cx}{ξ:List (Addr×Obj)}{σ:St}{H:Hp}{s:aw}{A:bF}{E:Value->aw->Prop}{Q:Value->aw->Prop}{c:Value}{b:Bool}
inductive TyOf (K:ac) (H:Hp):V->Value->Prop where
 |non:TyOf K H .non (.type "NoneType")
 |bl (x:Bool):TyOf K H (.bl x) (.type "bool")
 |int (i:Int):TyOf K H (.int i) (.type "int")
 |str (x:Str):TyOf K H (.str x) (.type "str")
 |lst {a:Addr}{xs:List V} (e:H a=some (.lst xs)):TyOf K H (.ref a) (.type "list")
 |dK {a:Addr}{kvs:List (Key×V)} (e:H a=some (.dK kvs)):TyOf K H (.ref a) (.type "dict")
def Zp(I:Inv X ξ σ H s)(rx:RelV x u)(ty:TyOf X.K H x t)(e:c_ X.K t c=some b)(h:∀tk,Q (.bool b) {s with toks:=tk}) :
  aR (model X.prog X.w) A (call (.builtin "isinstance") [u,c]) Q E s:=by
 cases ty with
 |non=>cases(rx);exact dq PySem.W.kitx_none I.kIn aP e (λz=>nomatch z) h
 |bl y=>cases(rx);exact dq PySem.W.kitx_bool I.kIn aP e (λz=>nomatch z) h
 |int i=>obtain⟨t,q⟩:=(rx);cases q;exact dq PySem.W.kitx_int I.kIn aP e (λz=>nomatch z) h
 |str y=>obtain⟨t,q⟩:=(rx);cases q;exact dq PySem.W.kitx_str I.kIn aP e (λz=>nomatch z) h
 |@lst a xs ea=>
  cases(rx)
  obtain⟨_,_,n,_,h1⟩:=(I.hok a _ ea)
  exact dq PySem.W.kitx_list I.kIn ⟨_,h1,rfl⟩ e (λz=>nomatch z) h
 |@dK a kvs ea=>
  cases(rx)
  obtain⟨_,_,vs,_,p⟩:=(I.hok a _ ea)
  obtain⟨o,es,ep,h1,h2,_⟩:=p
  exact dq PySem.W.kitx_dict I.kIn ⟨o,h1,h2.1⟩ e (λz=>nomatch z) h
end
structure Room (k:Nat) (A:bF):Prop where
 hd:A.handled=none
 dp:A.depth+3*k+5<recursionLimit
 un:A.units+16*k+200<cLine
def Room.mono(r:Room k A)(h:j<=k):Room j A:=⟨r.hd,by have:=r.dp;omega,by have:=r.un;omega⟩
theorem Room.deeper(r:Room (k+1) A)(env:Env):Room k (A.deeper env):=
 ⟨r.hd,by have:=r.dp;show A.depth+1+3*k+5<_;omega,by have:=r.un;show A.units+3+16*k+200<_;omega⟩
theorem Room.in1(r:Room (k+1) A):Room k A.in1:=
 ⟨r.hd,by have:=r.dp;show A.depth+3*k+5<_;omega,by have:=r.un;show A.units+1+16*k+200<_;omega⟩
def Vk{A:bF}{C:Addr}{us:List Value}{kw:List (Str×Value)}:(A.under (.builtin "type.__call__" ⟨.ref C::us,kw⟩)).depth=A.depth+1:=by
 first|rfl|simp[l_,Code.weight,Code.isCreation,Code.isGuard,Code.isCaller,Code.frames,mf,guardIds]
def Vl{A:bF}{C:Addr}{us:List Value}{kw:List (Str×Value)}:(A.under (.builtin "type.__call__" ⟨.ref C::us,kw⟩)).units=A.units+1:=by
 first|rfl|simp[l_,Code.cUnits,Code.frames,mf]
def Room.make(r:Room (k+1) A)(C:Addr)(us:List Value)(kw:List (Str×Value)):Room k (A.under (.builtin "type.__call__" ⟨.ref C::us,kw⟩)):=
 ⟨r.hd,by have:=r.dp;rw[Vk];omega,by have:=r.un;rw[Vl];omega⟩
theorem Room.depth(r:Room k A):A.depth<recursionLimit:=by have:=r.dp;omega
theorem Room.units(r:Room k A):A.units+64<cLine:=by have:=r.un;omega
def cc2:TA:=λ_ H Q=>Q [] H
def b47(ta:TE)(tr:TA):TA:=λσ H Q=>ta σ H λx H1=>tr σ H1 λxs H2=>Q (x::xs) H2
section
variable {X:Cx}{e:Expr}{es:List Expr}{te:TE}{t:TA}{pos:Pos}
def bp2:PA X [] cc2:=λ_ _ _ _ H Q I h=>eN ⟨[],H,I,.nil,h⟩
def a35(ha:PE X e te)(hr:PA X es t)(hs:df (e::es) X.env=(false,eval e X.env)::df es X.env:=by rfl):PA X (e::es) (b47 te t):=by
 intro pos ξ s σ H Q I h
 rw[hs]
 exact dW (thn (ha ξ s σ H _ I h) λu s1 ⟨x,H1,I1,r1,q1⟩=>(thn (hr pos ξ s1 σ H1 _ I1 q1) λus s2 ⟨xs,H2,I2,r2,q2⟩=>⟨x::xs,H2,I2,.cons r1 r2,q2⟩))
def cc6(t:TA):TE:=λσ H Q=>t σ H λxs H1=>xs.length<=sizeLine/\∀p,H1 p=none->Q (.ref p) (upd H1 p (.tup xs))
def cc1(t:TA):TE:=λσ H Q=>t σ H λxs H1=>xs.length<=sizeLine/\∀p,H1 p=none->Q (.ref p) (upd H1 p (.lst xs))
def bp8{x1}(h:PA X es t):PE X (.Tuple es x1 pos) (cc6 t):=by
 intro ξ s σ H Q I hq
 refine wpAny_Tuple_spliced (thn (h pos ξ s σ H _ I hq) λus s1 ⟨xs,H1,I1,r,z,q⟩=>⟨by rw[<- r.length];exact z,?_⟩)
 have hf:=I1.hok.fresh (ag _)
 refine⟨.ref s1.heap.objs.size,upd H1 s1.heap.objs.size (.tup xs),I1.laid (λb u e=>ah _ e) (ag _) ?_,rfl,q _ hf⟩
 exact⟨z,us,r,⟨_,aE _ rfl,rfl,_,rfl⟩⟩
def bp4(h:PA X es t):PE X (.List es pos) (cc1 t):=by
 intro ξ s σ H Q I hq
 refine wpAny_List_spliced (thn (h pos ξ s σ H _ I hq) λus s1 ⟨xs,H1,I1,r,z,q⟩=>⟨by rw[<- r.length];exact z,?_⟩)
 have hf:=I1.hok.fresh (ag _)
 refine⟨.ref s1.heap.objs.size,upd H1 s1.heap.objs.size (.lst xs),I1.laid (λb u e=>ah _ e) (ag _) ?_,rfl,q _ hf⟩
 exact⟨z,us,0,r,aE _ rfl⟩
end
abbrev Sp:=List V->Hp->VK->XK->Prop
abbrev CXT:=List Env->Hp->aw->XK->Value->aw->Prop
structure Env0 (P:aW) (w:bC) (K:ac) (mg:Str->Option Value) (base:Heap) (A:bF) (outer:List Env) (s:aw) (H:Hp):Prop where
 frames:A.frames=some outer
 mod:Mod K mg base
 bs:∀b o,base.get? b=some o->s.heap.get? b=some o/\H b=none
 bsz:base.objs.size<=s.heap.objs.size
 funs:s.heap.FunFrames base outer
 frf:∀b∈frs outer,H b=none
 hok:HOk P w H s.heap
 bare:j2 s.gens
 tk:Xo K s.toks
noncomputable def CE(outer:List Env)(P:aW)(w:bC)(H:Hp)(s:aw)(Q:VK)(u:Value)(s':aw):Prop:=
 ∃v H',(s'.os=s.os/\s.toks<=s'.toks)/\j2 s'.gens/\Un (frs outer) [] H H' s.heap s'.heap/\HOk P w H' s'.heap/\RelV v u/\Q v H'
noncomputable def CR(CX:CXT)(outer:List Env)(P:aW)(w:bC)(H:Hp)(s:aw)(Q:VK)(E:XK)(r:mV)(s':aw):Prop:=
 match r with
 |.ok (.ret u)=>CE outer P w H s Q u s'
 |.ok _=>False
 |.error e=>CX outer H s E e s'
structure FnOk (P:aW) (w:bC) (K:ac) (mg:Str->Option Value) (base:Heap) (CX:CXT) (k:Nat) (f:Addr) (fd:bh) (ps:List Str) (sp:Sp):Prop where
 len:∀vs H Q E,sp vs H Q E->vs.length=ps.length
 run:∀(A:bF)(outer:List Env)(s:aw)(H:Hp)(args:Args)(us:List Value)(vs:List V)(Q:VK)(E:XK),Room k A->Env0 P w K mg base A outer s H->lZ s fd args (ps.zip us)->Vals vs us->sp vs H Q E ->
  gN (model P w) A (.call (.ref f) args) (CR CX outer P w H s Q E) s
def FnOk.imp{P:aW}{w:bC}{K:ac}{mg:Str->Option Value}{base:Heap}{CX:CXT}{k:Nat}{f:Addr}{fd:bh}{ps:List Str}{sp sp':Sp}(F:FnOk P w K mg base CX k f fd ps sp)(h:∀vs H Q E,sp' vs H Q E->sp vs H Q E):FnOk P w K mg base CX k f fd ps sp':=
 ⟨λvs H Q E q=>F.len vs H Q E (h _ _ _ _ q),λA outer s H args us vs Q E hr he hb hv hs=>F.run A outer s H args us vs Q E hr he hb hv (h _ _ _ _ hs)⟩
def Env0.make{P:aW}{w:bC}{K:ac}{mg:Str->Option Value}{base:Heap}{A:bF}{outer:List Env}{s:aw}{H:Hp}(e:Env0 P w K mg base A outer s H)(C:Addr)(us:List Value)(kw:List (Str×Value)) :
  Env0 P w K mg base (A.under (.builtin "type.__call__" ⟨.ref C::us,kw⟩)) outer s H:=⟨by first|exact e.frames|(simpa [l_,Code.envs,mf,pushEnvs] using e.frames),e.mod,e.bs,e.bsz,e.funs,e.frf,e.hok,e.bare,e.tk⟩
theorem Env0.in1{P:aW}{w:bC}{K:ac}{mg:Str->Option Value}{base:Heap}{A:bF}{outer:List Env}{s:aw}{H:Hp}(e:Env0 P w K mg base A outer s H) :
  Env0 P w K mg base A.in1 outer s H:=⟨e.frames,e.mod,e.bs,e.bsz,e.funs,e.frf,e.hok,e.bare,e.tk⟩
section
variable {X:Cx}{ξ:List (Addr×Obj)}{σ:St}{H:Hp}{s s':aw}
def Inv.env0(I:Inv X ξ σ H s):Env0 X.prog X.w X.K X.mg X.base X.A X.stack s H:=
 ⟨I.ok.frames,I.ok.mod,I.bs,aU I.ok.bsz I.sz,I.stack,I.stkFree,I.hok,I.bare,aP⟩
def Inv.after(I:Inv X ξ σ H s)(h:CE X.stack X.prog X.w H s Q u s'):EP X ξ σ Q u s':=by
 obtain⟨v,H',os,bare,un,hok,r,q⟩:=h
 obtain⟨hh,g,d,t,os'⟩:=s'
 obtain rfl:os'=s.os:=os.1
 exact⟨v,H',I.call un hok bare (λb z=>absurd z (by simp)) os.2,r,q⟩
end
def Binds(K:ac)(fd:bh)(ps:List Str)(ds:List Value):Prop:=
 ∀s us,K.In s.heap->(us++ds).length=ps.length->lZ s fd ⟨us,[]⟩ (ps.zip (us++ds))
def Binds.all{K:ac}{fd:bh}{ps:List Str}(h:∀us,us.length=ps.length->iJ fd ⟨us,[]⟩=pure (ps.zip us)):Binds K fd ps []:=λs us _ hl=>by
 rw[b7] at hl ⊢
 exact .of_eq (h us hl)
section
variable {X:Cx}{CX:CXT}{k:Nat}{f C:Addr}{fd:bh}{ps:List Str}{sp:Sp}{dvs:List V}{ds:List Value}{E:XK}{x m:Str}{p pos apos:Pos}{e o:Expr}{es:List Expr}{ta:TE}{t:TA}
structure Mk (K:ac) (C f:Addr):Prop where
 makes:dN K C=true
 init:aZ K (.ref C) "__init__"=some (some (.ref f))
 fn:cW K (.ref f)=true
 kp:ba K (.ref C)=true
end
structure Cs (N P:List Str) (sc:Scope):Prop where
 kind:sc.kind=.function
 co:sc.isCoroutine=false
 gen:sc.isGenerator=false
 nd:N.Nodup
 pre:N.take P.length=P
 par:∀x∈P,sc.names.lookup x=some .local\/sc.names.lookup x=some .cell
 nofree:∀y∈sc.names,y.2≠.free
theorem Oa{kindOf:Str->Option c9}{x:Str}:∀{binds} {m},(∀v,(x,v)∉binds)->bindL kindOf binds m x=m x
 |[],_,_=>rfl
 | (n,v)::r,m,h=>by
  unfold bindL
  rw[Oa λw hw=>h w (av _ hw)]
  split
  .have:x≠n:=by rintro rfl;exact h v aQ
   simp[this]
  .rfl
theorem N8{kindOf:Str->Option c9}{x:Str}:∀{binds} {m},(∀v,(x,v)∉binds)->bindC kindOf binds m x=m x
 |[],_,_=>rfl
 | (n,v)::r,m,h=>by
  unfold bindC
  rw[N8 λw hw=>h w (av _ hw)]
  split
  .rfl
  .have:x≠n:=by rintro rfl;exact h v aQ
   simp[this]
theorem N9{kindOf:Str->Option c9}{x:Str}{v:Value}:∀{P:List Str}{vs:List Value}{i:Nat}{m:Str->Option Value},P.Nodup->P[i]?=some x->vs[i]?=some v->kindOf x=some .local ->
  bindL kindOf (P.zip vs) m x=some v
 |[],_,_,_,_,h,_,_=>by simp at h
 |_::_,[],_,_,_,_,h,_=>by simp at h
 | p::P,w::vs,0,m,nd,h1,h2,hk=>by
  simp at h1 h2;subst h1;subst h2
  show bindL kindOf ((p,w)::P.zip vs) m p=_
  unfold bindL
  rw[Oa λv hv=>(List.nodup_cons.mp nd).1 (iO hv).1,if_pos hk]
  simp
 | p::P,w::vs,i+1,m,nd,h1,h2,hk=>by
  unfold bindL
  exact N9 (List.nodup_cons.mp nd).2 (h1) (h2) hk
theorem N7{kindOf:Str->Option c9}{x:Str}{v:Value}:∀{P:List Str}{vs:List Value}{i:Nat}{m:Str->Option Value},P.Nodup->P[i]?=some x->vs[i]?=some v->kindOf x≠some .local ->
  bindC kindOf (P.zip vs) m x=some v
 |[],_,_,_,_,h,_,_=>by simp at h
 |_::_,[],_,_,_,_,h,_=>by simp at h
 | p::P,w::vs,0,m,nd,h1,h2,hk=>by
  simp at h1 h2;subst h1;subst h2
  show bindC kindOf ((p,w)::P.zip vs) m p=_
  unfold bindC
  rw[N8 λv hv=>(List.nodup_cons.mp nd).1 (iO hv).1,if_neg hk]
  simp
 | p::P,w::vs,i+1,m,nd,h1,h2,hk=>by
  unfold bindC
  exact N7 (List.nodup_cons.mp nd).2 (h1) (h2) hk
def Cy(N:List Str)(vs:List V):St:=vs.map some++i8 (N.length-vs.length) none
def Hj(CX:CXT)(P:aW)(w:bC)(K:ac)(mg:Str->Option Value)(base:Heap)(N:List Str)(qual:Str)(scope:Scope)(f:Addr)(cd:Value)(A:bF)(outer:List Env)(s:aw)(H:Hp)(E:XK):Cx where
 prog:=P
 w:=w
 K:=K
 mg:=mg
 base:=base
 A:=A.deeper (lx qual scope s.heap.objs.size f cd)
 N:=N
 s₀:=s
 H₀:=H
 env:=lx qual scope s.heap.objs.size f cd
 outer:=outer
 stack:=lx qual scope s.heap.objs.size f cd::outer
 ex:=[]
 calm:=true
 fn:=λ_=>true
 pn:=[]
 xe:=λe s'=>aR (model P w) (A.deeper (lx qual scope s.heap.objs.size f cd)) (leaving (lx qual scope s.heap.objs.size f cd) e) (λ_ s''=>CX outer H s E e s'') (λe' s''=>CX outer H s E e' s'') s'
def Fi{sc:Scope}{n:Nat}{x:Str}(h:sc.names.lookup x=some .cell):∃c,(mH n sc.names []).lookup x=some c:=by
 have q:=hJ sc.names n [] (.inl h)
 exact Option.isSome_iff_exists.mp q
def Ou{CX:CXT}{P:aW}{w:bC}{K:ac}{mg:Str->Option Value}{base:Heap}{N ps:List Str}{qual:Str}{scope:Scope}{f:Addr}{cd:Value}{A:bF}{outer:List Env}{s s1:aw}{H:Hp}{E:XK}{us:List Value}{vs:List V}(S:Cs N ps scope)(hd:A.handled=none)(e0:Env0 P w K mg base A outer s H)(htk:s.toks<=s1.toks)(hl:vs.length=ps.length)(r:Vals vs us)(x:InCallC s s.heap.objs.size (bindL (lx qual scope s.heap.objs.size f cd).kindOf (ps.zip us) λ_=>none) (mH (s.heap.objs.size+1) scope.names []) (bindC (lx qual scope s.heap.objs.size f cd).kindOf (ps.zip us) λ_=>none) s1) :
  Inv (Hj CX P w K mg base N qual scope f cd A outer s H E) [] (Cy N vs) H s1:=by
 have hpl:ps.length<=N.length:=by have:=congrArg cE S.pre;rw[aM] at this;omega
 obtain⟨h1,tk,rfl,hk⟩:=x.done
 have noA:∀b:Addr,b∉(Hj CX P w K mg base N qual scope f cd A outer s H E).ex:=λb z=>absurd (show b∈([]:List Addr) from z) (by simp)
 refine⟨⟨e0.mod,S.kind,rfl,rfl,ag _,λy z c h1 h2=>?_,λy hy=>?_,λy c _ h=>?_,λ_=>hd,Around.frames_deeper e0.frames,.inr ⟨rfl,rfl⟩,λb z=>absurd z (noA b),e0.bs,e0.bsz,λb _ _=>noA b,λb z=>absurd z (noA b),e0.funs,e0.frf,e0.tk⟩,
  ⟨rfl,htk⟩,e0.bare,Un.kept hk,⟨_,x.toInCall.ns,λi y v h1 h2 h3=>?_⟩,λy c h=>⟨_,x.cell y c h⟩,e0.hok.fresh (ag _),λy c h=>?_,λp hp=>absurd (show p∈([]:List (Addr×Obj)) from hp) (by simp),e0.hok.kept hk,?_⟩
 .exact name_of_addr x.apart (bX h1) (bX h2)
 .have hy:=hy
  rcases hy with hy|hy
  .exact Fi hy
  .exact absurd rfl (S.nofree _ (bX hy))
 .exact fW (x.above y c (bX h))
 .have hi:i<vs.length:=by
   unfold Cy at h2
   by_cases hi:i<vs.length
   .exact hi
   .rw[bi (by simpa using hi)] at h2
    rw[fB] at h2
    split at h2 <;> cases h2
  have ha:vs[i]?=some v:=by
   unfold Cy at h2
   rw[bq (by simpa using hi),ak] at h2
   cases e:vs[i]? with
   |none=>rw[e] at h2;cases h2
   |some a=>rw[e] at h2;cases h2;rfl
  obtain⟨u,hu,rv⟩:=r.get ha
  have hp:ps[i]?=some y:=by
   rw[<- S.pre,List.getElem?_take_of_lt (by omega)];exact h1
  have ndP:ps.Nodup:=by rw[<- S.pre];exact S.nd.sublist (eU _ _)
  refine⟨u,rv,?_⟩
  rcases S.par y (aj hp) with k|k
  .exact .inl ⟨k,N9 ndP hp hu k⟩
  .obtain⟨c,e⟩:=Fi k
   refine .inr ⟨.inl k,c,e,?_⟩
   have q:=x.cell y c e
   rw[N7 ndP hp hu (by show scope.names.lookup y≠_;rw[k];decide)] at q
   exact q
 .exact e0.hok.fresh (fW (x.above y c (bX h)))
 .unfold Cy
  show _=N.length
  rw[aI,ae,List.length_replicate]
  omega
def aj3{CX:CXT}{P:aW}{w:bC}{K:ac}{mg:Str->Option Value}{base:Heap}{k:Nat}{f:Addr}{name qual:Str}{params:Arguments}{body:List Stmt}{scope:Scope}{dV kV doc pm θ ct oc:Value}{an od:Option Addr}{osl:Array (Option Value)}{N ps:List Str}{sp:Sp}(lk:K.lookup f=some ⟨oc,od,.func (cy name qual params body scope dV kV doc pm an θ ct),osl⟩)(hcd:dF K θ qual=true)(S:Cs N ps scope)(len:∀vs H Q E,sp vs H Q E->vs.length=ps.length)(hbody:∀A outer s H vs Q E,Room k (A.deeper (lx qual scope s.heap.objs.size f θ))->sp vs H Q E ->
   ∃t,PSs (Hj CX P w K mg base N qual scope f θ A outer s H E) body t/\t {nx:=λ_ H'=>Q .non H',rt:=Q} (Cy N vs) H) :
  FnOk P w K mg base CX (k+1) f (cy name qual params body scope dV kV doc pm an θ ct) ps sp:=by
 refine⟨len,λA outer s H args us vs Q E hr e0 hb r hsp=>?_⟩
 have hl:=len _ _ _ _ hsp
 have KX:=e0.mod.kin.keeps λb o e=>(e0.bs b o e).1
 have lim:=e0.mod.nolimit.keeps λb o e=>(e0.bs b o e).1
 have hkind:∀y∈ps.zip us,scope.names.lookup y.1=some .local\/(scope.names.lookup y.1=some .cell/\((mH (s.heap.objs.size+1) scope.names []).lookup y.1).isSome=true):=fun⟨n,v⟩ hy=>by
  rcases S.par n (iO hy).1 with q|q
  .exact .inl q
  .exact .inr ⟨q,hJ _ _ _ (.inl q)⟩
 refine codeAny_call_function hr.depth (KX _ _ lk) rfl S.co S.gen rfl (PySem.W.codeRec_of KX hcd) (hb _ _ _ _ ?_)
 refine bG (ag _) (i0 S.kind hkind λenv he s1 x htk=>?_)
 subst he
 refine⟨lim.keeps x.toInCall.keep,codeAny_func ?_⟩
 obtain⟨t,ht,hq⟩:=hbody A outer s H vs Q E (hr.deeper _) hsp
 have I:Inv (Hj CX P w K mg base N qual scope f θ A outer s H E) [] (Cy N vs) H s1:=Ou S hr.hd e0 htk hl r x
 refine bJ (ht [] s1 (Cy N vs) H _ I hq) (λfl s' hs=>?_) λe s' hs=>hs
 have fin:∀{σ':St}{H':Hp}{v:V}{u:Value},Inv (Hj CX P w K mg base N qual scope f θ A outer s H E) [] σ' H' s'->RelV v u->Q v H'->CE outer P w H s Q u s':=
  λ{σ' H' v u} J rv q=>⟨v,H',J.os,J.bare,J.base,J.hok,rv,q⟩
 cases fl with
 |ret u=>
  obtain⟨v,σ',H',J,rv,q⟩:=hs
  exact fin J rv q
 |next=>
  obtain⟨σ',H',J,q⟩:=hs
  exact fin (v:=V.non) J rfl q
 |brk=>
  obtain⟨_,_,_,q⟩:=hs
  exact bP q
 |cont=>
  obtain⟨_,_,_,q⟩:=hs
  exact bP q
section
variable {X:Cx}{x:Str}{p pos:Pos}{e:Expr}{es:List Expr}{t:TA}{id T:String}{r:List V->Hp->VK->Prop}
def tCB(r:List V->Hp->VK->Prop)(t:TA):TE:=λσ H Q=>t σ H λvs H1=>r vs H1 Q
def ao3(hc:Ci X (.builtin id) r)(hg:Gl X x)(hm:X.mg x=none)(hv:cG x=some (.builtin id))(ha:PA X (e::es) t)(hn:x ≠ "__name__" := by decide)(hdb:(x==("__debug__" : Str))=false:=by decide)(he:df (e::es) X.env=(false,eval e X.env)::df es X.env:=by rfl)(hpl:(ku pos (df es X.env)).any (·.1)=false:=by rfl):PE X (.Call (.Name x p) (e::es) [] pos) (tCB r t):=by
 intro ξ s σ H Q I h
 exact cu (C6 I hg hm hv (fm (thn (ha pos ξ s σ H _ I h) λus s1 ⟨vs,H1,I1,r1,q1⟩=>hc ξ s1 σ H1 vs us Q I1 r1 q1) he hpl) hn hdb)
def Z8(hc:Ci X (.type T) r)(hg:Gl X x)(hm:X.mg x=none)(hv:cG x=some (.type T))(ha:PA X (e::es) t)(hn:x ≠ "__name__" := by decide)(hdb:(x==("__debug__" : Str))=false:=by decide)(he:df (e::es) X.env=(false,eval e X.env)::df es X.env:=by rfl)(hpl:(ku pos (df es X.env)).any (·.1)=false:=by rfl):PE X (.Call (.Name x p) (e::es) [] pos) (tCB r t):=by
 intro ξ s σ H Q I h
 exact cu (C6 I hg hm hv (b_ (thn (ha pos ξ s σ H _ I h) λus s1 ⟨vs,H1,I1,r1,q1⟩=>hc ξ s1 σ H1 vs us Q I1 r1 q1) he hpl) hn hdb)
end
end L2
namespace HT
open PySem PyProof.Rows
section
variable {prog:aW}{w:bC}{A:bF}{E:Value->aw->Prop}{s:aw}
def cat_tup(ht:nu s.heap t vs.toArray)(hb:nu s.heap b ws.toArray)(hv:vs≠[])(h1:ws=[]->Q (.ref t) s)(h2:ws≠[]->Q (.ref s.heap.objs.size) {s with heap:=s.heap.push {cls:=.type "tuple", data:=.seq (vs++ws).toArray}})(hsz:vs.length+ws.length<=sizeLine):aR (model prog w) A (dO .Add (.ref t) (.ref b)) Q E s:=by
 obtain⟨⟨cls,dd,data,sl⟩,ho,hc,n,hd⟩:=ht
 obtain⟨⟨cls2,dd2,data2,sl2⟩,ho2,hc2,n2,hd2⟩:=hb
 subst hc hd hc2 hd2
 have e:vs.toArray++ws.toArray=(vs++ws).toArray:=by simp
 by_cases hw:ws=[]
 .exact mr ⟨_,ho,rfl⟩ ⟨_,ho2,rfl⟩ jR lX g_ gY (gR _ _)
   (tuple_addW1 t b vs.toArray ws.toArray n n2 dd dd2 sl sl2 (by simpa using hv) (by simp[hw])) ⟨ho,ho2,h1 hw⟩
 .refine mr ⟨_,ho,rfl⟩ ⟨_,ho2,rfl⟩ jR lX g_ gY (gR _ _)
   (tuple_addW2 t b vs.toArray ws.toArray n n2 dd dd2 sl sl2 (by simpa using hv) (by simpa using hw) (by rw[ax,ax];exact hsz)) ⟨ho,ho2,?_⟩
  rw[e]
  exact h2 hw
end
end HT
namespace L2
open PySem PySem.Spec PyProof.Rows
abbrev TO:=St->Hp->(Option Int->Hp->Prop)->Prop
def PO(X:Cx)(e:Option Expr)(t:TO):Prop:=
 ∀ξ s (σ:St) (H:Hp) (Q:Option Int->Hp->Prop),Inv X ξ σ H s->t σ H Q ->
  aR (model X.prog X.w) X.A (evalPart e X.env) (λu s'=>∃o H',Inv X ξ σ H' s'/\IsPart u o/\Q o H') X.xe s
def a79:TO:=λ_ H Q=>Q none H
def Lv{ns:List Int}:∀{us},Vals (ns.map V.int) us->mE us ns:=by
 induction ns with
 |nil=>intro us r;rw[fg] at r;cases r;exact .nil
 |cons n ns ih=>
  intro us r
  rw[aT] at r
  cases r with
  |cons r1 r2=>
   obtain⟨t,e⟩:=r1
   subst e
   exact .cons n t (ih r2)
section
variable {X:Cx}{e:Expr}{te:TE}{lo hi:Option Expr}{tl th:TO}{pos p2:Pos}
def a40:PO X none a79:=by
 intro ξ s σ H Q I h
 rw[evalPart_none]
 exact am ⟨none,H,I,.none,h⟩
def bc3(K:ac):R2:=λx y H Q=>∃a b xs ys,x=.ref a/\y=.ref b/\SqT K H a xs/\SqT K H b ys/\xs≠[]/\xs.length+ys.length<=sizeLine /\
 (ys=[]->Q (.ref a) H)/\(ys≠[] -> ∀p,H p=none->Q (.ref p) (upd H p (.tup (xs++ys))))
def Vals.nil_iff(r:Vals xs us):us=[]↔xs=[]:=by
 cases r with
 |nil=>simp
 |cons _ _=>simp
def op_catT:OpR X (dO .Add) (bc3 X.K):=by
 intro ξ s σ H x y v u Q I rx ry h
 obtain⟨a,b,xs,ys,rfl,rfl,ha,hb,hx,hz,q1,q2⟩:=h
 cases rx
 cases ry
 obtain⟨χ,r1,p1,_⟩:=I.tuple ha
 obtain⟨its2,r2,p2,_⟩:=I.tuple hb
 refine HT.cat_tup p1 p2 (λz=>hx (r1.nil_iff.mp z)) (λz=>⟨.ref a,H,I,rfl,q1 (r2.nil_iff.mp z)⟩) (λz=>?_) (by rw[<- r1.length,<- r2.length];exact hz)
 refine⟨.ref s.heap.objs.size,_,I.laid (λb ob q=>ah _ q) (ag _) ?_,rfl,q2 (λw=>z (r2.nil_iff.mpr w)) _ (I.hok.fresh (ag _))⟩
 exact⟨by rw[aI];exact hz,_,r1.append r2,IsTup.new _ _⟩
end
def ixN(n:Nat)(i:Int):Option Nat:=if 0<=i then(if i<n then some i.toNat else none) else if -(n:Int)<=i then some (i+n).toNat else none
def atI{α:Type}(xs:List α)(i:Int):Option α:=(ixN xs.length i).bind λj=>xs[j]?
def a09(h:ixN n i=some j):seqIndex? i n=some j/\j<n /\ -(n:Int)<=i/\i<n:=by
 unfold ixN at h
 by_cases h0:0<=i
 .rw[if_pos h0] at h
  by_cases h1:i<n
  .rw[if_pos h1] at h
   have e:=az h
   exact⟨by rw[seqIndex_of h0 h1,e],by omega,by omega,h1⟩
  .rw[if_neg h1] at h;cases h
 .rw[if_neg h0] at h
  by_cases h1:-(n:Int)<=i
  .rw[if_pos h1] at h
   have e:=az h
   exact⟨by rw[seqIndex_neg (by omega) h1,e],by omega,h1,by omega⟩
  .rw[if_neg h1] at h;cases h
def Ph{α:Type}{xs:List α}{i:Int}{v:α}(h:atI xs i=some v):∃j,seqIndex? i xs.length=some j/\xs[j]?=some v/\j<xs.length /\ -(xs.length:Int)<=i/\i<xs.length:=by
 unfold atI at h
 cases e:ixN xs.length i with
 |none=>rw[e] at h;cases h
 |some j=>
  rw[e] at h
  obtain⟨h1,h2,h3,h4⟩:=a09 e
  exact⟨j,h1,h,h2,h3,h4⟩
def Cc{α:Type}{xs:List α}{j:Nat}{v:α}(h:xs[j]?=some v):atI xs (j:Int)=some v:=by
 have hj:=(List.getElem?_eq_some_iff.mp h).1
 have e:ixN xs.length (j:Int)=some j:=by
  unfold ixN
  rw[if_pos (by omega),if_pos (by omega)];simp
 unfold atI;rw[e];exact h
def Xn(b:Expr):Prop:=∀o i,subscripted b false o i=operate [o,i] (getItem o i)
def IxR(X:Cx)(r:R2):Prop:=
 ∀value slice ξ s (σ:St) (H:Hp) (x y:V) (v u:Value) (Q:VK),Inv X ξ σ H s->RelV x v->RelV y u->r x y H Q ->
  subscripted slice false v u=operate [v,u] (getItem v u)->aR (model X.prog X.w) X.A (subscriptTail value slice v u) (EP X ξ σ Q) X.xe s
def MtR(X:Cx)(id:String)(r:V->List V->Hp->VK->Prop):Prop:=
 ∀ξ s (σ:St) (H:Hp) (x:V) (xs:List V) (v:Value) (us:List Value) (Q:VK),Inv X ξ σ H s->RelV x v->Vals xs us->r x xs H Q ->
  aR (model X.prog X.w) X.A (call (.builtin id) (v::us)) (EP X ξ σ Q) X.xe s
section
variable {X:Cx}{a b:Expr}{ta tb:TE}{pos:Pos}
def b28(hr:IxR X r)(ha:PE X a ta)(hb:PE X b tb)(hs:Xn b):PE X (.Subscript a b pos) (tOp r ta tb):=by
 intro ξ s σ H Q I h
 exact Subscript_ (bf4 ha hb I h λv u s2 x y H2 I2 rx ry q=>hr a b ξ s2 σ H2 x y v u Q I2 rx ry q (hs _ _))
def cb3(K:ac):R2:=λx y H Q=>∃p xs i v,x=.ref p/\y=.int i/\SqL K H p xs/\atI xs i=some v/\Q v H
def cb5(K:ac):R2:=λx y H Q=>∃p xs i v,x=.ref p/\y=.int i/\SqT K H p xs/\atI xs i=some v/\Q v H
def cb4:R2:=λx y H Q=>∃z i c,x=.str z/\y=.int i/\z.length<=sizeLine/\atI z.cps.toList i=some c/\Q (.str ⟨#[c]⟩) H
def a10:IxR X (cb3 X.K):=by
 intro value slice ξ s σ H x y v u Q I rx ry h hs
 obtain⟨p,xs,i,z,rfl,rfl,hq,he,q⟩:=h
 cases rx
 obtain⟨t,rfl⟩:=ry
 obtain⟨χ,r,pl,hz⟩:=I.list hq
 obtain⟨j,h1,h2,h3,h4,h5⟩:=Ph he
 obtain⟨w,ew,rw'⟩:=r.get h2
 have hl:=r.length
 have hn:=Ma
 have fin:EP X ξ σ Q w s:=⟨z,H,I,rw',q⟩
 by_cases h0:0<=i
 .have hj:i.toNat=j:=by
   rw[seqIndex_of h0 h5] at h1
   exact az h1
  exact item_listR pl.isList h0 (by omega) (by rw[hj];simpa using ew) fin hs
 .have hj:(i+(χ.toArray.size:Int)).toNat=j:=by
   rw[seqIndex_neg (by omega) h4] at h1
   rw[ax,<- hl]
   exact az h1
  exact j0 pl.isList.typeIs slot_list_getitem.lookup
   (wpAny_getItem_list_neg pl.isList (by omega) (by rw[ax] <;> omega) (by omega) (by rw[hj];simpa using ew) ⟨rfl,fin⟩) hs
def bi0:IxR X (cb5 X.K):=by
 intro value slice ξ s σ H x y v u Q I rx ry h hs
 obtain⟨p,xs,i,z,rfl,rfl,hq,he,q⟩:=h
 cases rx
 obtain⟨t,rfl⟩:=ry
 obtain⟨χ,r,pl,hz⟩:=I.tuple hq
 obtain⟨j,h1,h2,h3,h4,h5⟩:=Ph he
 obtain⟨w,ew,rw'⟩:=r.get h2
 have hl:=r.length
 have hn:=Ma
 have fin:EP X ξ σ Q w s:=⟨z,H,I,rw',q⟩
 exact j0 pl.typeIs slot_tuple_getitem.lookup
  (getItem_tuple pl (by omega) (by omega) (by rw[ax,<- hl];exact h1) (by simpa using ew) ⟨rfl,fin⟩) hs
def bh9:IxR X cb4:=by
 intro value slice ξ s σ H x y v u Q I rx ry h hs
 obtain⟨z,i,c,rfl,rfl,hz,he,q⟩:=h
 obtain⟨t,rfl⟩:=rx
 obtain⟨t',rfl⟩:=ry
 obtain⟨j,h1,h2,h3,h4,h5⟩:=Ph he
 have hl:z.cps.toList.length=z.length:=by simp[Str.length]
 rw[hl] at h1 h4 h5
 have hn:=Ma
 exact tail_any (typeIs_str s z t) slot_str_getitem.lookup (getItem_str (by
  have e1:decide (i < -(2^63:Int))=false:=decide_eq_false (by omega)
  have e2:decide (i ≥ 2^63)=false:=decide_eq_false (by omega)
  rw[e1,e2,Bool.or_false]) (by rw[h1];simpa using h2) ⟨.str ⟨#[c]⟩,H,I.tok _,⟨_,rfl⟩,q⟩) hs
def eqU(x:V)(u:Value):Bool:=match u with
 |.none=>eqV .non x
 |.bool b=>eqV (.bl b) x
 |.int i _=>eqV (.int i) x
 |.str z _=>eqV (.str z) x
 |_=>false
def ai6(r:RelV y u)(f:Br y=true):eqU x u=eqV y x:=by
 cases y with
 |non=>cases r;rfl
 |bl b=>cases r;rfl
 |int i=>obtain⟨t,rfl⟩:=r;rfl
 |str z=>obtain⟨t,rfl⟩:=r;rfl
 |_=>exact absurd (f) aC
theorem Hc{x:V}:∀{xs} {us},Vals xs us->xs.all Br=true->us.any (eqU x)=xs.any λy=>eqV y x
 |_,_,.nil,_=>rfl
 | y::xs,u::us,.cons r t,f=>by
  rw[cb,a9] at f
  rw[gU,gU,ai6 r f.1,Hc t f.2]
theorem Fu{A:bF}{s:aw}{x:V}{v:Value}(rx:RelV x v)(fx:Br x=true):∀{xs} {us},Vals xs us->xs.all Br=true -> ∀u∈us,bB A s u v (eqU x u)
 |_,_,.nil,_=>λu hu=>by cases hu
 | y::xs,u::us,.cons r t,f=>λu' hu=>by
  rw[cb,a9] at f
  rcases List.mem_cons.mp hu with rfl|hu
  .rw[ai6 r f.1];exact P1 r rx f.1 fx
  .exact Fu rx fx t f.2 u' hu
def inV(x:V)(xs:List V):Bool:=xs.any λy=>eqV y x
def rIn(K:ac)(neg:Bool):R2:=λx y H Q=>∃p xs,y=.ref p/\(SqL K H p xs\/SqT K H p xs)/\Br x=true/\xs.all Br=true/\Q (.bl (if neg then !inV x xs else inV x xs)) H
def Z5:OpR X (cI .In) (rIn X.K false):=by
 intro ξ s σ H x y v u Q I rx ry h
 obtain⟨p,xs,rfl,hq,fx,fs,q⟩:=h
 cases ry
 rcases hq with hq|hq
 .obtain⟨χ,r,pl,hz⟩:=I.list hq
  refine SeqAt.in_listAt (eqU x) pl.isList (λw hw=>Fu rx fx r fs w (by simpa using hw)) ⟨.bl _,H,I,rfl,?_⟩
  rw[show χ.toArray.any (eqU x)=χ.any (eqU x) by simp,Hc r fs]
  exact q
 .obtain⟨χ,r,pl,hz⟩:=I.tuple hq
  refine SeqAt.in_tupleAt (eqU x) pl (λw hw=>Fu rx fx r fs w (by simpa using hw)) ⟨.bl _,H,I,rfl,?_⟩
  rw[show χ.toArray.any (eqU x)=χ.any (eqU x) by simp,Hc r fs]
  exact q
def Ql:OpR X (cI .NotIn) (rIn X.K true):=by
 intro ξ s σ H x y v u Q I rx ry h
 obtain⟨p,xs,rfl,hq,fx,fs,q⟩:=h
 cases ry
 rcases hq with hq|hq
 .obtain⟨χ,r,pl,hz⟩:=I.list hq
  refine SeqAt.notIn_listAt (eqU x) pl.isList (λw hw=>Fu rx fx r fs w (by simpa using hw)) ⟨.bl _,H,I,rfl,?_⟩
  rw[show χ.toArray.any (eqU x)=χ.any (eqU x) by simp,Hc r fs]
  exact q
 .obtain⟨χ,r,pl,hz⟩:=I.tuple hq
  refine SeqAt.notIn_tupleAt (eqU x) pl (λw hw=>Fu rx fx r fs w (by simpa using hw)) ⟨.bl _,H,I,rfl,?_⟩
  rw[show χ.toArray.any (eqU x)=χ.any (eqU x) by simp,Hc r fs]
  exact q
def Pm:Ci X (.builtin "len") (λxs H Q=>∃p ys,xs=[.ref p]/\(SqL X.K H p ys\/SqT X.K H p ys)/\Q (.int ys.length) H):=by
 intro ξ s σ H xs us Q I r h
 obtain⟨p,ys,rfl,hq,q⟩:=h
 obtain⟨u,rfl,rx⟩:=D4 r
 cases rx
 have hn:=Ma
 rcases hq with hq|hq
 .obtain⟨χ,r',pl,hz⟩:=I.list hq
  have hlen:=r'.length
  exact Calls.call_len_list pl.isList (by simp only[ax] <;> omega) ⟨.int ys.length,H,I.tok _,⟨s.toks+1,by rw[ax,hlen]⟩,q⟩
 .obtain⟨χ,r',pl,hz⟩:=I.tuple hq
  have hlen:=r'.length
  exact len_tuple pl (by simp only[ax] <;> omega) ⟨.int ys.length,H,I.tok _,⟨s.toks+1,by rw[ax,hlen]⟩,q⟩
def Po:Ci X (.builtin "len") (λxs H Q=>∃z,xs=[.str z]/\z.length<=sizeLine/\Q (.int z.length) H):=by
 intro ξ s σ H xs us Q I r h
 obtain⟨z,rfl,hz,q⟩:=h
 obtain⟨u,rfl,t,rfl⟩:=D4 r
 have hn:=Ma
 exact len_str (by omega) ⟨.int z.length,H,I.tok _,⟨_,rfl⟩,q⟩
def Pp:Ci X (.type "list") (λxs H Q=>∃p ys,xs=[.ref p]/\(SqL X.K H p ys\/SqT X.K H p ys)/\∀l,H l=none->Q (.ref l) (upd H l (.lst ys))):=by
 intro ξ s σ H xs us Q I r h
 obtain⟨p,ys,rfl,hq,q⟩:=h
 obtain⟨u,rfl,rx⟩:=D4 r
 cases rx
 have fin:∀χ,Vals ys χ->ys.length<=sizeLine -> ∀h' c',(∀b o',s.heap.get? b=some o'->h'.get? b=some o') ->
   h'.get? s.heap.objs.size=some {cls:=.type "list", dict:=none,data:=.seq χ.toArray c',slots:=#[]}->EP X ξ σ Q (.ref s.heap.objs.size) {s with heap:=h'}:=λχ r' hz h' c' kp e=>
  ⟨.ref s.heap.objs.size,_,I.laid kp (ag _) (show ObjOk X.prog X.w _ h' _ (.lst ys) from⟨hz,χ,c',r',e⟩),rfl,q _ (I.hok.fresh (ag _))⟩
 rcases hq with hq|hq
 .obtain⟨χ,r',pl,hz⟩:=I.list hq
  have hlen:=r'.length
  obtain⟨o,ho,hc,n,hd⟩:=pl.isList
  exact call_list_seq p (.inl rfl) ho hc hd (λh' c' kp e=>fin χ r' hz h' c' kp e) (by simp only[ax] <;> omega)
 .obtain⟨χ,r',pl,hz⟩:=I.tuple hq
  have hlen:=r'.length
  obtain⟨o,ho,hc,n,hd⟩:=pl
  exact call_list_seq p (.inr rfl) ho hc hd (λh' c' kp e=>fin χ r' hz h' c' kp e) (by simp only[ax] <;> omega)
def Nc:Ci X (.type "tuple") (λxs H Q=>∃p ys,xs=[.ref p]/\((SqL X.K H p ys/\∀l,H l=none->Q (.ref l) (upd H l (.tup ys)))\/(SqT X.K H p ys/\Q (.ref p) H))):=by
 intro ξ s σ H xs us Q I r h
 obtain⟨p,ys,rfl,h⟩:=h
 obtain⟨u,rfl,rx⟩:=D4 r
 cases rx
 rcases h with⟨hq,q⟩|⟨hq,q⟩
 .obtain⟨χ,r',pl,hz⟩:=I.list hq
  have hlen:=r'.length
  refine call_tuple_list pl.isList (λh' kp=>?_) (by simp only[ax] <;> omega)
  have I1:=I.kept kp
  have I2:Inv X ξ σ (upd H h'.objs.size (.tup ys)) {s with heap:=h'.push {cls:=.type "tuple", data:=.seq χ.toArray}}:=
   I1.laid (λb o e=>ah _ e) (ag _) (⟨hz,χ,r',IsTup.new _ _⟩)
  exact⟨.ref h'.objs.size,_,I2,rfl,q _ (I1.hok.fresh (ag _))⟩
 .obtain⟨χ,r',pl,hz⟩:=I.tuple hq
  exact call_tuple_same pl ⟨.ref p,H,I,rfl,q⟩
def tyV(K:ac)(T:String)(x:V)(H:Hp):Prop:=match x with
 |.str _=>T="str"
 |.int _=>T="int"
 |.ref p=>(T="list" /\ ∃xs,SqL K H p xs)\/False\/(T="dict" /\ ((∃kvs,H p=some (.dK kvs)) \/ ∃kvs,H p=some (.dT kvs)))\/False
 |_=>False
def aw1(I:Inv X ξ σ H s)(r:RelV x v)(ty:tyV X.K T x H) :
  s.TypeIs v T/\∀a,v=.ref a -> ∃ob,s.heap.get? a=some ob/\ob.dict=none:=by
 cases x with
 |str z=>
  obtain⟨t,rfl⟩:=r
  cases(ty)
  exact⟨typeIs_str s z t,λ_ e=>nomatch e⟩
 |int i=>
  obtain⟨t,rfl⟩:=r
  cases(ty)
  exact⟨typeIs_int s i t,λ_ e=>nomatch e⟩
 |ref p=>
  cases r
  rcases ty with⟨rfl,xs,hq⟩|z|⟨rfl,hk⟩|z
  .obtain⟨χ,_,pl,_⟩:=I.list hq
   refine⟨pl.isList.typeIs,λa e=>?_⟩
   cases e
   obtain⟨o,n,e,c,hd,_⟩:=pl
   exact⟨o,e,hd⟩
  .exact z.elim
  .obtain⟨o,e,ex⟩:∃o,s.heap.get? p=some o/\o.ExactDict:=by
    rcases hk with⟨kvs,hk⟩|⟨kvs,hk⟩ <;> (obtain⟨_,_,_,_,o,_,_,e,ex,_⟩:=I.hok p _ hk;exact⟨o,e,ex⟩)
   refine⟨⟨o,e,ex.1⟩,λa e2=>?_⟩
   cases e2
   exact⟨o,e,ex.2.1⟩
  .exact z.elim
 |_=>exact bP ty
variable {o e:Expr}{es:List Expr}{to:TE}{t:TA}{name:Str}{apos cpos:Pos}{T id:String}{r:V->List V->Hp->VK->Prop}
end
def MtM(X:Cx)(id:String)(r:V->List V->Hp->VK->Prop):Prop:=
 ∀ξ s (σ:St) (H:Hp) (x:V) (xs:List V) (v:Value) (us:List Value) (Q:VK),Inv X ξ σ H s->RelV x v->Vals xs us->r x xs H Q ->
  aR (model X.prog X.w) X.A (call (.builtin id) (v::us)) (EP X ξ σ Q) X.xe s
theorem Vals.one:∀{x} {us},Vals [x] us -> ∃u,us=[u]/\RelV x u
 |_,_,.cons r .nil=>⟨_,rfl,r⟩
theorem Vals.two:∀{x y} {us},Vals [x,y] us -> ∃u v,us=[u,v]/\RelV x u/\RelV y v
 |_,_,_,.cons r (.cons q .nil)=>⟨_,_,rfl,r,q⟩
theorem Vals.zero:∀{us},Vals [] us->us=[]
 |_,.nil=>rfl
theorem Vals.dropLast{xs:List V}{us:List Value}(h:Vals xs us):Vals xs.dropLast us.dropLast:=by
 induction h with
 |nil=>exact .nil
 |cons r t ih=>
  cases t with
  |nil=>exact .nil
  |cons q t'=>exact .cons r ih
def U6{α:Type}(l:List α):l.eraseIdx (l.length-1)=l.dropLast:=by
 induction l with
 |nil=>rfl
 |cons a r ih=>
  cases r with
  |nil=>rfl
  |cons b r=>
   have e:(a::b::r).length-1=((b::r).length-1)+1:=by
    have h1:(a::b::r).length=r.length+2:=rfl
    have h2:(b::r).length=r.length+1:=rfl
    omega
   rw[e,List.eraseIdx_cons_succ,ih]
   all_goals rfl
section
variable {X:Cx}{ξ:List (Addr×Obj)}{σ:St}{H:Hp}{s:aw}{l b:Addr}{xs ys zs:List V}
def Inv.lset{χ its':List Value}{n:Nat}{f:Array Value->Array Value}{t':Nat}(I:Inv X ξ σ H s)(hH:H l=some (.lst xs))(e:s.heap.get? l=some {cls:=.type "list", data:=.seq χ.toArray n})(hf:f χ.toArray=its'.toArray)(hv:Vals ys its')(hz:ys.length<=sizeLine)(ht:s.toks<=t':=by trivial) :
  Inv X ξ σ (upd H l (.lst ys)) {s with heap:=s.heap.update l (bH f),toks:=t'}:=by
 have q:=PySem.IsL.update e f
 rw[hf] at q
 refine I.write (by rw[hH];exact trivial) (.inl rfl) (λb' u hb hu=>(bZ s.heap (bH f) (cg hb)).trans hu) ⟨_,q⟩ ?_
 exact⟨hz,its',_,hv,q⟩
def Inv.lnew(I:Inv X ξ σ H s)(hv:Vals ys χ)(hz:ys.length<=sizeLine)(ht:s.toks<=t':=by trivial) :
  Inv X ξ σ (upd H s.heap.objs.size (.lst ys)) {s with heap:=s.heap.push {cls:=.type "list", data:=.seq χ.toArray},toks:=t'}:=
 I.laid (λ_ _ q=>ah _ q) (ag _) ⟨hz,χ,0,hv,aE _ rfl⟩ ht
theorem Inv.fresh(I:Inv X ξ σ H s):H s.heap.objs.size=none:=I.hok.fresh (ag _)
def Inv.lstM(I:Inv X ξ σ H s)(hH:H l=some (.lst xs)):xs.length<=sizeLine/\∃χ n,Vals xs χ/\xs.length=χ.length/\s.heap.get? l=some {cls:=.type "list", data:=.seq χ.toArray n}:=by
 obtain⟨z,χ,n,r,e⟩:=I.hok l _ hH
 exact⟨z,χ,n,r,r.length,e⟩
def an3{n:Nat}(h:n<=sizeLine):jj n=false:=by
 exact decide_eq_false (by omega)
end
section
variable {X:Cx}
def Dp:V->List V->Hp->VK->Prop:=λx vs H Q=>∃l xs y,x=.ref l/\vs=[y]/\H l=some (.lst xs)/\xs.length<sizeLine/\Q .non (upd H l (.lst (xs++[y])))
def Oy:MtM X "list.append" Dp:=by
 intro ξ s σ H x vs v us Q I rx rv h
 obtain⟨l,xs,y,rfl,rfl,hH,hz,q⟩:=h
 cases rx
 obtain⟨u,rfl,ru⟩:=rv.one
 obtain⟨z,χ,n,r,hl,e⟩:=I.lstM hH
 refine kK F.slot_list_append ⟨_,e,rfl⟩ F.entry_list_append (F.args_list_append_2 _ _) (PySem.list_append l χ.toArray n u (by rw[ax];omega)) ⟨e,?_⟩
 refine⟨.non,_,I.lset hH e (by simp) (r.append (.cons ru .nil)) ?_,rfl,q⟩
 rw[aI,bR]
 omega
def Ld:V->List V->Hp->VK->Prop:=λx vs H Q=>∃l b xs zs,x=.ref l/\vs=[.ref b]/\H l=some (.lst xs)/\H b=some (.lst zs)/\xs.length+zs.length<=sizeLine/\Q .non (upd H l (.lst (xs++zs)))
def Zz:MtM X "list.extend" Ld:=by
 intro ξ s σ H x vs v us Q I rx rv h
 obtain⟨l,b,xs,zs,rfl,rfl,hH,hB,hz,q⟩:=h
 cases rx
 obtain⟨u,rfl,ru⟩:=rv.one
 cases ru
 obtain⟨z,χ,n,r,hl,e⟩:=I.lstM hH
 obtain⟨z2,its2,n2,r2,hl2,e2⟩:=I.lstM hB
 have hsz:χ.toArray.size+its2.toArray.size<=sizeLine:=by rw[ax,ax];omega
 have hlong:¬ (!χ.toArray.isEmpty&&jj (χ.toArray.size+its2.toArray.size))=true:=by
  rw[an3 hsz,ij]
  exact aC
 refine kK F.slot_list_extend ⟨_,e,rfl⟩ F.entry_list_extend (F.args_list_extend_2 _ _)
  (AutoSeq1.list_extend_list_list_0 l χ.toArray n b its2.toArray n2 hlong (by rw[ax];omega) (by omega)) ⟨e,e2,?_⟩
 refine⟨.non,_,I.lset hH e (by simp) (r.append r2) ?_,rfl,q⟩
 rw[aI]
 omega
def b42:V->List V->Hp->VK->Prop:=λx vs H Q=>∃l xs y,x=.ref l/\vs=[]/\H l=some (.lst xs)/\xs[xs.length-1]?=some y/\Q y (upd H l (.lst xs.dropLast))
def bj4:MtM X "list.pop" b42:=by
 intro ξ s σ H x vs v us Q I rx rv h
 obtain⟨l,xs,y,rfl,rfl,hH,hy,q⟩:=h
 cases rx
 have hus:=rv.zero
 subst hus
 obtain⟨z,χ,n,r,hl,e⟩:=I.lstM hH
 obtain⟨u,hu,ru⟩:=r.get hy
 have hy':χ.toArray[χ.toArray.size-1]?=some u:=by
  show χ.toArray[χ.length-1]?=some u
  rw[<- cw,<- hl]
  exact hu
 refine kK F.slot_list_pop ⟨_,e,rfl⟩ F.entry_list_pop (F.args_list_pop_1 _) (MeetsSeq.list_pop_last l χ.toArray n u hy' (by rw[ax];omega)) ⟨e,?_⟩
 refine⟨y,_,I.lset hH e ?_ r.dropLast ?_,ru,q⟩
 .rw[ax,List.eraseIdxIfInBounds_toArray,U6]
 .rw[List.length_dropLast]
  omega
def Vz:V->List V->Hp->VK->Prop:=λx vs H Q=>∃l xs,x=.ref l/\vs=[]/\H l=some (.lst xs)/\Q .non (upd H l (.lst []))
def am3:MtM X "list.clear" Vz:=by
 intro ξ s σ H x vs v us Q I rx rv h
 obtain⟨l,xs,rfl,rfl,hH,q⟩:=h
 cases rx
 have hus:=rv.zero
 subst hus
 obtain⟨z,χ,n,r,hl,e⟩:=I.lstM hH
 exact kK F.slot_list_clear ⟨_,e,rfl⟩ F.entry_list_clear (F.args_list_clear_1 _) (AutoSeq1.list_clear_list_0 l χ.toArray n (by rw[ax];omega)) ⟨e,⟨.non,_,I.lset (its':=[]) (ys:=[]) hH e rfl .nil (bw _),rfl,q⟩⟩
def b41:R2:=λx y H Q=>∃l b xs zs,x=.ref l/\y=.ref b/\H l=some (.lst xs)/\H b=some (.lst zs)/\xs.length+zs.length<=sizeLine/\∀p,H p=none->Q (.ref p) (upd H p (.lst (xs++zs)))
def op_cat:OpR X (dO .Add) b41:=by
 intro ξ s σ H x y v u Q I rx ry h
 obtain⟨l,b,xs,zs,rfl,rfl,hH,hB,hz,q⟩:=h
 cases rx
 cases ry
 obtain⟨z,χ,n,r,hl,e⟩:=I.lstM hH
 obtain⟨z2,its2,n2,r2,hl2,e2⟩:=I.lstM hB
 refine PySem.P.add_list e e2 ?_ (by rw[ax,ax];omega)
 have ea:χ.toArray++its2.toArray=(χ++its2).toArray:=by simp
 rw[ea]
 exact⟨.ref _,_,I.lnew (r.append r2) (by rw[aI];omega),rfl,q _ I.fresh⟩
end
end L2
namespace Att
open PySem PySem.W PySem.Calls PyProof.Rows
def Ke{P:Params}{h:Heap}:∀ns vs,WellAll P h vs (ns.map WData.int)->mE vs ns:=by
 intro ns
 induction ns with
 |nil=>
  intro vs w
  rw[fg] at w
  cases w
  exact .nil
 |cons n ns ih=>
  intro vs w
  rw[aT] at w
  cases w with
  |cons a b=>
   cases a
   exact .cons _ _ (ih _ b)
def ab0{l:OpenLaw}{n:Nat}(hn:l.most=some n){P:Params}{h:Heap}{args:List WData}{vals:List Value}(hpre:l.row.toRowW.claim.pre args=true)(hwl:WellAll P h vals args) :
  ∃a vs ns,vals=[aX a]/\args=[WData.list (ns.map WData.int)]/\h.get? a=some {cls:=.type "list", data:=.seq vs.toArray}/\mE vs ns/\ns.length<=n:=by
 have hsh:=(pre_splitW hpre).1
 have hc:=(pre_splitW hpre).2
 obtain⟨d,r,rfl,h1,h2⟩:=hasAllW_cons hsh
 obtain rfl:=hasAllW_nil h2
 obtain⟨xs,rfl,h3⟩:=hasW_list h1
 obtain⟨ns,rfl⟩:=items_int h3
 have hlen:ns.length<=n:=by
  have h4:(WTm.not (.lt (.lit (.int (n:Int))) (.len (.arg 0)))).holds [] {args:=[.list (ns.map .int)]}=true:=by
   have h4:=(holds_andW hc).1
   rw[hn] at h4
   exact h4
  have h5:=condW_of h4 (w_not (w_lt w_lit (w_len_list (w_arg rfl))))
  rw[ae] at h5
  refine Nat.le_of_not_lt λq=>?_
  have q':(n:Int)<((ns.length:Nat):Int):=by omega
  first
   |(rw[decide_eq_true q'] at h5;exact absurd h5 (by decide))
   |(simp at h5;omega)
 cases hwl with
 |cons w1 w2=>
  cases w2
  cases w1 with
  |list ho hall=>exact⟨_,_,ns,rfl,rfl,ho,Ke ns _ hall,hlen⟩
def aa0(l:OpenLaw)(args:List WData):l.row.toRowW.claim.post args (.bool true) args=true:=
 postW_of
  (show WShape.has [] (.bool true) .bool=true by first|rfl|decide|simp[WShape.has,WShape.arms,WShape.armsAll])
  (w_eq_bool (w_res rfl) w_lit) rfl
def attach_call{l:OpenLaw}{n:Nat}{q:aW}{loose:List Str}{XP:(Str->Option Value)->Heap->Prop}{YP:bC->Heap->Prop}{d:DefRec}(hn:l.most=some n)(hdf:d.params.defaults=[])(call:∀w s₀ s₁ mg mb fa o pm cd doc a vs ns,
   Ground q loose [] XP w s₀ mg mb s₁.heap->YP w s₁.heap ->
   s₁.heap.get? fa=some o->o.data=.func (docDef d.name d.params d.body d.scope pm cd doc)->s₁.heap.CodeRec cd d.name->mg d.name=some (.ref fa) ->
   s₁.heap.get? a=some {cls:=.type "list", data:=.seq vs.toArray}->mE vs ns->ns.length<=n->s₁.gens = #[] ->
   gN (model l.prog w) mG (.call (.ref fa) ⟨[.ref a],[]⟩) (λr s'=>r=.ok (.ret (.bool true))/\OldK s₁.heap s'.heap/\s'.os=s₁.os/\j2 s'.gens) s₁) :
  WalkO q loose XP YP l.row.toRowW d [] (λf vs=>PySem.call f vs):=by
 intro w s₀ s₁ mg mb G Y fa o pm cd doc dV kV ho hd hcd hD hmg hg args vals as hpre hlay hrd hwl hlo
 obtain rfl:dV=.none:=Dflts.none hD hdf
 obtain rfl:kV=.none:=Dflts.noKw hD
 obtain⟨a,vs,ns,rfl,rfl,hobj,hints,hlen⟩:=ab0 hn hpre hwl
 refine enter_call (d8 (call w s₀ s₁ mg mb fa o pm cd doc a vs ns G Y ho (fd_plain hd) hcd hmg hobj hints hlen hg) λr s' hq=>?_)
 obtain⟨rfl,h2,h3,h4⟩:=hq
 exact⟨.inl ⟨.bool true,.bool true,[],rfl,λ_=>rfl,.bool true,aa0 l _,λ_=>⟨jk,λ_ hm=>(nomatch hm)⟩⟩,h2,h3,h4⟩
end Att
namespace L2
open PySem PySem.Spec PyProof.Rows
theorem Pe:∀{vs} {ns},mE vs ns->Vals (ns.map V.int) vs
 |_,_,.nil=>.nil
 |_,_,.cons n t h=>.cons ⟨t,rfl⟩ (Pe h)
def Au(s:Stmt)(j:Nat):Stmt:=match s with
 |.ClassDef _ _ _ body _ _ _ _ _ _ _=>body.getD j (.Pass ⟨0,0,0,0⟩)
 |_=>.Pass ⟨0,0,0,0⟩
def B8(s:Stmt):Arguments:=match s with
 |.FunctionDef _ a _ _ _ _ _ _ _ _=>a
 |_=>{posonlyargs:=[],args:=[],vararg:=none,kwonlyargs:=[],kw_defaults:=[],kwarg:=none,defaults:=[]}
def A9(s:Stmt):List Stmt:=match s with
 |.FunctionDef _ _ b _ _ _ _ _ _ _=>b
 |_=>[]
def Al(s:Stmt):Scope:=match s with
 |.FunctionDef _ _ _ _ _ _ sc _ _ _=>sc
 |_=>{kind:=.function,names:=[],isGenerator:=false,isCoroutine:=false}
abbrev CX0:CXT:=λ_ _ _ _ _ _=>False
structure Fun (K:ac) (x qual:Str) (st:Stmt) (f:Addr) (fd:bh):Prop where
 ex:∃(oc:Value)(od:Option Addr)(kV doc pm:Value)(an:Option Addr)(θ ct:Value)(osl:Array (Option Value)),
  fd=cy x qual (B8 st) (A9 st) (Al st) .none kV doc pm an θ ct/\K.lookup f=some ⟨oc,od,.func fd,osl⟩/\dF K θ qual=true
 kp:ba K (.ref f)=true
section
variable {P:aW}{w:bC}{K:ac}{mg:Str->Option Value}{base:Heap}
def Fun.binds{x qual:Str}{st:Stmt}{f:Addr}{fd:bh}{ps:List Str}(F:Fun K x qual st f fd)(h:∀kV doc pm an θ ct us,us.length=ps.length->iJ (cy x qual (B8 st) (A9 st) (Al st) .none kV doc pm an θ ct) ⟨us,[]⟩=pure (ps.zip us)):Binds K fd ps []:=by
 obtain⟨oc,od,kV,doc,pm,an,θ,ct,osl,rfl,lk,hcd⟩:=F.ex
 exact .all (h kV doc pm an θ ct)
def P4{x qual:Str}{st:Stmt}{f:Addr}{oc:Value}{od an:Option Addr}{osl:Array (Option Value)}{kV doc pm θ ct:Value}(l:K.lookup f=some ⟨oc,od,.func (cy x qual (B8 st) (A9 st) (Al st) .none kV doc pm an θ ct),osl⟩)(c:dF K θ qual=true)(k:ba K (.ref f)=true):Fun K x qual st f (cy x qual (B8 st) (A9 st) (Al st) .none kV doc pm an θ ct):=⟨⟨oc,od,kV,doc,pm,an,θ,ct,osl,rfl,l,c⟩,k⟩
end
def Kg{A B:Prop}(h:B):if false=true then A else B:=by
 rw[if_neg aC]
 exact h
def Sv{A B:Prop}(h:A):if true=true then A else B:=by
 rw[if_pos rfl]
 exact h
def Kf{c A B:Prop} [Decidable c](h1:c->A)(h2:¬ c->B):if c then A else B:=by
 by_cases h:c
 .rw[if_pos h]
  exact h1 h
 .rw[if_neg h]
  exact h2 h
def Same(H H':Hp):Prop:=∀b o,H b=some o->H' b=some o
def Same.refl(H:Hp):Same H H:=λ_ _ h=>h
def Same.trans(a:Same H H1)(b:Same H1 H2):Same H H2:=λc o h=>b c o (a c o h)
def Same.free(e:Same H H')(h:H' l=Option.none):H l=Option.none:=by
 cases q:H l with
 |none=>rfl
 |some o=>
  rw[e l o q] at h
  cases h
def Cx.comp(X:Cx)(N':List Str)(scope:Scope)(cl:List (Str×Addr))(fp:List Addr)(C:Addr)(s:aw)(H:Hp)(xe:Value->aw->Prop):Cx:=
 {prog:=X.prog,w:=X.w,K:=X.K,mg:=X.mg,base:=X.base,A:=X.A,N:=N',s₀:=s,H₀:=H,env:=compEnvC scope cl C X.env,outer:=X.stack,stack:=X.stack,
  ex:=fp,fn:=λx=>(cl.lookup x).isNone,calm:=X.calm,pn:=[],xe:=xe}
def Ux(srcs:List (Option Nat))(σ:St):St:=srcs.map λo=>o.bind λj=>(σ[j]?).join
structure Lg (X:Cx) (N':List Str) (srcs:List (Option Nat)) (scope:Scope) (cl:List (Str×Addr)):Prop where
 clos:kL scope X.env=pure cl
 nocell:∀y∈scope.names,y.2≠.cell
 kind:scope.kind=.function
 names:∀y∈scope.names,y.2=.local->scope.names.lookup y.1=some .local
 sub:∀x c,cl.lookup x=some c->X.env.cells.lookup x=some c
 has:∀x,((jO scope X.env).names.lookup x=some .cell\/(jO scope X.env).names.lookup x=some .free) -> ∃c,cl.lookup x=some c
 len:srcs.length=N'.length
 src:∀(k j:Nat)(x:Str),N'[k]?=some x->srcs[k]?=some (some j)->X.N[j]?=some x/\(X.env.scope.names.lookup x=some .cell\/X.env.scope.names.lookup x=some .free) /\
  ((jO scope X.env).names.lookup x=some .cell\/(jO scope X.env).names.lookup x=some .free)
def Y6(X:Cx)(ifs:List Expr)(t:TT):Prop:=
 ∀ξ s (σ:St) (H:Hp) (Q:Bool->Hp->Prop),Inv X ξ σ H s->t σ H Q ->
  aR (model X.prog X.w) X.A (forIn ifs true λc r=>if r=true then do let ok <- isTrue c X.env (eval c X.env);pure (fT ok) else pure (fT r)) (TP X ξ σ Q) X.xe s
def cc8:TT:=λ_ H Q=>Q true H
def ao6:Y6 X [] cc8:=λ_ _ _ H _ I h=>wpAny_tests_nil ⟨H,I,h⟩
def ao7(h:PT X c t):Y6 X [c] t:=λξ s σ H Q I q=>wpAny_tests_one (h ξ s σ H Q I q)
def av3(srcs:List (Option Nat))(wi:TI)(g:TG)(tc:TT)(te:TE):TE:=λσ H Q=>wi σ H λJ H1=>∀D,H1 D=none ->
 ∃W:Nat->Nat->St->Hp->Prop,(∃m,W 0 m (Ux srcs σ) (upd H1 D (.lst [])))/\∀i m σ' H',W i m σ' H' ->
  (J.stop i H'/\Q (.ref D) H')\/(J.go i H'/\∃N:St->Hp->Prop,(∀ σ2 H2,N σ2 H2 -> ∃m',m'<m/\W (i+1) m' σ2 H2)/\∀x H2,J.yld i H' x H2->g x σ' H2 λσ3 H3=>tc σ3 H3 λb H4=>if b=true then
    te σ3 H4 λv H5=>∃ys,H5 D=some (.lst ys)/\ys.length<sizeLine/\N σ3 (upd H5 D (.lst (ys++[v])))
   else N σ3 H4)
section
variable {prog:aW}{w:bC}{A:bF}{E:Value->aw->Prop}{R:mV->aw->Prop}{s:aw}
def Pu(I:Nat->aw->Prop)(turn:∀n s,I n s->aR (model prog w) A (mO it) (λr s₁=>match r with
   |none=>R (.ok .next) s₁
   |some v=>aR (model prog w) A (kD target it v) (λ_ s₀=>aR (model prog w) A (mW target env v) (λ_ s₂=>
     aR (model prog w) A (forIn ifs true λc r=>if r=true then do let ok <- isTrue c env (eval c env);pure (fT ok) else pure (fT r)) (λok s₃=>
      if ok=true then aR (model prog w) A (eval elt env) (λx s₄=>
       aR (model prog w) A (call (.builtin "list.append") [acc,x]) (λ_ s₅=>∃m,m<n/\I m s₅) (l9 (model prog w) A env λe s'=>R (.error e) s') s₄) (l9 (model prog w) A env λe s'=>R (.error e) s') s₃
      else ∃m,m<n/\I m s₃) (l9 (model prog w) A env λe s'=>R (.error e) s') s₂) (l9 (model prog w) A env λe s'=>R (.error e) s') s₀) (l9 (model prog w) A env λe s'=>R (.error e) s') s₁) (l9 (model prog w) A env λe s'=>R (.error e) s') s)(n:Nat)(h:I n s) :
  gN (model prog w) A (.compLoop (.ListComp elt [⟨target,iter,ifs,0⟩] scope pos) 0 it acc env) R s:=by
 refine codeAny_loop rfl I (λn s hI=>?_) n h
 refine wpAny_noted ?_
 rw[compTurn_list]
 refine af (d9 (af (bJ (turn n s hI) (λr s₁ h₁=>?_) λ_ _ h'=>h')))
 cases r with
 |none=>exact am h₁
 |some v=>
  refine af (bJ h₁ (λ_ s₀ h₀=>?_) λ_ _ h'=>h')
  refine af (bJ h₀ (λ_ s₂ h₂=>af (bJ h₂ (λok s₃ h₃=>?_) λ_ _ h'=>h')) λ_ _ h'=>h')
  cases ok with
  |false=>exact am ⟨rfl,h₃⟩
  |true=>
   exact af (af (bJ h₃ (λx s₄ h₄=>af (bJ h₄ (λ_ s₅ h₅=>am (am ⟨rfl,h₅⟩)) λ_ _ h'=>h')) λ_ _ h'=>h'))
end
section
variable {X:Cx}{elt tg iter:Expr}{ifs:List Expr}{scope:Scope}{pos:Pos}{N':List Str}{srcs:List (Option Nat)}{cl:List (Str×Addr)}{wi:TI}{g:TG}{tc:TT}{te:TE}
def Uz(S:Lg X N' srcs scope cl)(I:Inv X ξ σ H s)(f:∀b∈fp,Cz X ξ H b)(fo:∀b∈fp,b<s.heap.objs.size)(hD:s.heap.objs.size<=D)(hC:s.heap.objs.size<=C)(hDC:C≠D)(hns:∃m,h₁.Ns C m)(old:∀b o,s.heap.get? b=some o->h₁.get? b=some o)(hacc:∃n,h₁.get? D=some {cls:=.type "list", data:=.seq ([]:List Value).toArray n})(ht:s.toks<=tk:=by trivial) :
  Inv (X.comp N' scope cl fp C s H xe) [] (Ux srcs σ) (upd H D (.lst [])) {s with heap:=h₁,toks:=tk}:=by
 have hfD:=I.hok.fresh hD
 have ok:(X.comp N' scope cl fp C s H xe).Ok:=by
  refine⟨I.ok.mod,S.kind,I.ok.glob,I.ok.blt,hC,λx y c a b=>I.ok.inj x y c (S.sub x c a) (S.sub y c b),S.has,λx c hf hl=>?_,I.ok.hd,I.ok.frames,.inl rfl,λb hb=>⟨?_,λx c hl=>?_⟩,I.bs,aU I.ok.bsz I.sz,λb o e hb=>?_,λb hb hfs=>?_,I.stack,I.stkFree,aP⟩
  .have hl':cl.lookup x=some c:=hl
   have hf':(cl.lookup x).isNone=true:=hf
   rw[hl'] at hf'
   cases hf'
  .exact aN (aL (fo b hb) hC)
  .exact (f b hb).2.2.2.2.1 x c (S.sub x c hl)
  .rcases (f b hb).2.2.2.1 with z|z
   .exact I.ok.noex b o e z
   .exact absurd (aL (aG e) (aU I.ok.bsz z)) (gj _)
  .rcases List.mem_cons.mp (I.stkSub b hfs) with z|z
   .exact (f b hb).2.1 z
   .exact (f b hb).2.2.1 z
 obtain⟨m0,hns⟩:=hns
 obtain⟨nn,hacc⟩:=hacc
 refine⟨ok,⟨rfl,ht⟩,I.bare,Un.laid old hD hfD,⟨m0,hns,λk x v e1 e2 e3=>?_⟩,λx c hl=>?_,?_,λx c hl=>?_,λp hp=>absurd (show p∈([]:List (Addr×Obj)) from hp) (by simp),I.hok.laid old hD ⟨bw _,[],nn,.nil,hacc⟩,?_⟩
 ·-- the captured names
  have e1:=e1
  have e2:(srcs.map λo=>o.bind λj=>(σ[j]?).join)[k]?=some (some v):=e2
  rw[ak] at e2
  cases hk:srcs[k]? with
  |none=>rw[hk] at e2;cases e2
  |some o=>
   rw[hk] at e2
   cases o with
   |none=>cases e2
   |some j=>
    have e2':(σ[j]?).join=some v:=az e2
    have e3':σ[j]?=some (some v):=by
     cases hj:σ[j]? with
     |none=>rw[hj] at e2';cases e2'
     |some y=>rw[hj] at e2';exact congrArg some e2'
    obtain⟨a1,a2,a3⟩:=S.src k j x e1 hk
    obtain⟨m,hn,hl⟩:=I.loc
    obtain⟨u,r,l⟩:=hl j x v a1 e3' (a2.elim (λz=>.inr (.inl z)) λz=>.inr (.inr z))
    refine⟨u,r,.inr ⟨a3,?_⟩⟩
    obtain⟨c,hc⟩:=S.has x a3
    refine⟨c,hc,?_⟩
    rcases l with⟨z,_⟩|⟨_,c',hc',o,ho,hd⟩
    .have z':X.env.scope.names.lookup x=some .local:=z
     rcases a2 with q|q <;> rw[q] at z' <;> cases z'
    .have e:=S.sub x c hc
     rw[hc'] at e
     cases e
     exact⟨o,old _ o ho,hd⟩
 .obtain⟨v,o,ho,hd⟩:=I.cell x c (S.sub x c hl)
  exact⟨v,o,old _ o ho,hd⟩
 .show upd H D (.lst []) C=none
  rw[Ad hDC]
  exact I.hok.fresh hC
 .have hx:=S.sub x c hl
  obtain⟨v,o,ho,hd⟩:=I.cell x c hx
  rw[Ad (aN (aL (aG ho) hD))]
  exact I.freeC x c hx
 .show (Ux srcs σ).length=N'.length
  unfold Ux
  rw[ae,S.len]
def Bs(X:Cx)(scope:Scope)(cl:List (Str×Addr))(use:Option (Value->Sem Unit))(Q2:Value->aw->Prop)(D C:Addr):Value->aw->Prop:=
 l9 (model X.prog X.w) X.A (compEnvC scope cl C X.env) λe s'=>compPost (model X.prog X.w) X.A X.xe use Q2 (.ref D) C (.error e) s'
def Of(hc:X.calm=true)(S:Lg X N' srcs scope cl)(hi:PI X tg iter wi)(hb:∀fp C D s2 H2,Inv X ξ σ H2 s2->(∀b∈fp,Cz X ξ H2 b)->s2.heap.objs.size<=C->PG (X.comp N' scope cl fp C s2 H2 (Bs X scope cl use Q2 D C)) tg g/\Y6 (X.comp N' scope cl fp C s2 H2 (Bs X scope cl use Q2 D C)) ifs tc/\PE (X.comp N' scope cl fp C s2 H2 (Bs X scope cl use Q2 D C)) elt te)(I:Inv X ξ σ H s)(h:av3 srcs wi g tc te σ H Q)(fin:∀(D C:Addr)(H':Hp)(s':aw),Inv X ξ σ H' s'->(∃m,s'.heap.Ns C m)->Cz X ξ H' C->Q (.ref D) H'->compPost (model X.prog X.w) X.A X.xe use Q2 (.ref D) C (.ok .next) s')(hs:∀x,gu iter X.env x=pure x) :
  aR (model X.prog X.w) X.A (comprehension (.ListComp elt [⟨tg,iter,ifs,0⟩] scope pos) scope X.env (firstIterPos [⟨tg,iter,ifs,0⟩] pos) (newList []) false (eval iter X.env) use) Q2 X.xe s:=by
 refine wpAny_comprehension_free rfl hs S.clos S.kind S.names (thn (hi ξ s σ H _ I h) λv s1 h1=>thn h1 λitv s2 h2=>?_)
 obtain⟨it,fp,tn,J,H2,e,I2,T,st2,f2,q2⟩:=h2
 subst e
 refine dI (wpAny_newFunctionEnv S.nocell (by intro y hy;simp at hy) (λh₁ hns₁ hsb₁=>?_) S.kind)
 generalize hH2:s2.heap.push {cls:=.type "list", dict:=none,data:=.seq ([]:List Value).toArray}=G2 at hns₁ hsb₁ ⊢
 have hCe:G2.objs.size=s2.heap.objs.size+1:=by rw[<- hH2,cR]
 have hDC:G2.objs.size≠s2.heap.objs.size:=by rw[hCe];exact fj (cf _)
 have hCle:s2.heap.objs.size<=G2.objs.size:=by rw[hCe];exact cM _
 have old:∀b o,s2.heap.get? b=some o->h₁.get? b=some o:=λb o e=>
  hsb₁.extBut b o (aN (aL (aG e) hCle)) (ah _ (hH2▸ah _ e))
 have hacc:∃n,h₁.get? s2.heap.objs.size=some {cls:=.type "list", data:=.seq ([]:List Value).toArray n}:=⟨_,hsb₁.extBut _ _ (cg hDC) (ah _ (hH2▸aE _ rfl))⟩
 have fo:∀b∈fp,b<s2.heap.objs.size:=λb hb=>by
  obtain⟨o,ho,_⟩:=T.obj _ _ st2 b hb
  exact aG ho
 have st3:=T.keep _ _ _ st2 λb _ o e=>old b o e
 obtain⟨hg,ht,he⟩:=hb fp G2.objs.size s2.heap.objs.size s2 H2 I2 f2 hCle
 obtain⟨W,⟨m0,w0⟩,turn⟩:=q2 s2.heap.objs.size (I2.hok.fresh (ag _))
 have loop:∀s3:aw,s3={s2 with heap:=h₁,toks:=s2.toks+([]:List (Str×Value)).length} ->
   gN (model X.prog X.w) X.A (.compLoop (.ListComp elt [⟨tg,iter,ifs,0⟩] scope pos) 0 (.ref it) (.ref s2.heap.objs.size) (compEnvC scope cl G2.objs.size X.env))
    (compPost (model X.prog X.w) X.A X.xe use Q2 (.ref s2.heap.objs.size) G2.objs.size) s3:=by
  rintro s3 rfl
  have I3:Inv (X.comp N' scope cl fp G2.objs.size s2 H2 (Bs X scope cl use Q2 s2.heap.objs.size G2.objs.size)) [] (Ux srcs σ) (upd H2 s2.heap.objs.size (.lst [])) {s2 with heap:=h₁,toks:=s2.toks+([]:List (Str×Value)).length}:=
   Uz S I2 f2 fo (ag _) hCle hDC ⟨_,hns₁⟩ old hacc
  have stat:∀{H':Hp},(∀b∈fp,H' b=none) -> ∀b∈fp,Cz (X.comp N' scope cl fp G2.objs.size s2 H2 (Bs X scope cl use Q2 s2.heap.objs.size G2.objs.size)) [] H' b:=λhn b hb=>
   ⟨hn b hb,aN (aL (fo b hb) hCle),(λz=>(List.mem_cons.mp (I2.stkSub b z)).elim (f2 b hb).2.1 (f2 b hb).2.2.1),.inl hb,λx c hl=>(f2 b hb).2.2.2.2.1 x c (S.sub x c hl),λp hp=>absurd (show p∈([]:List (Addr×Obj)) from hp) (by simp)⟩
  refine Pu (λn s'=>∃i σ' H',Inv (X.comp N' scope cl fp G2.objs.size s2 H2 (Bs X scope cl use Q2 s2.heap.objs.size G2.objs.size)) [] σ' H' s'/\tn i s'.heap/\(∀b∈fp,H' b=none)/\W i n σ' H') ?_ m0
   ⟨0,_,_,I3,st3,λb hb=>by rw[Ad (aN (fo b hb))];exact(f2 b hb).1,w0⟩
  rintro n s4 ⟨i,σ4,H4,I4,st4,fr4,w4⟩
  rcases turn i n σ4 H4 w4 with⟨stop,qn⟩|⟨go,NN,hNN,step⟩
  .refine thn (T.done (X.comp N' scope cl fp G2.objs.size s2 H2 (Bs X scope cl use Q2 s2.heap.objs.size G2.objs.size)) rfl rfl rfl hc i [] s4 σ4 H4 _ I4 (stat fr4) st4 stop) λr s5 ⟨hr,I5⟩=>?_
   subst hr
   obtain⟨m5,hn5,_⟩:=I5.loc
   have I6:=I2.call' I5.os I5.base I5.hok I5.bare λb hb=>⟨(f2 b hb).2.2.2.1,(f2 b hb).2.1,(f2 b hb).2.2.2.2.1,(f2 b hb).2.2.2.2.2⟩
   exact fin _ _ H4 s5 I6 ⟨m5,hn5⟩ (I2.fpOk hCle I5.free) qn
  .refine thn (T.item (X.comp N' scope cl fp G2.objs.size s2 H2 (Bs X scope cl use Q2 s2.heap.objs.size G2.objs.size)) rfl rfl rfl hc i [] s4 σ4 H4 _ I4 (stat fr4) st4 go) λr s5 ⟨u,hr,h5⟩=>?_
   subst hr
   refine thn h5 λ_ s6 ⟨x,H6,I6,r6,y6,st6,fr6⟩=>?_
   have I6':=I6.pinned (stat fr6) (T.obj _ _ st6)
   refine thn (hg _ s6 σ4 H6 x u _ I6' r6 (step x H6 y6)) λ_ s7 ⟨σ7,H7,I7,q7⟩=>?_
   have again:∀{s9:aw}{H9:Hp},Inv (X.comp N' scope cl fp G2.objs.size s2 H2 (Bs X scope cl use Q2 s2.heap.objs.size G2.objs.size)) ([]++Jo fp s6.heap) σ7 H9 s9->NN σ7 H9 ->
     ∃m,m<n/\∃i σ' H',Inv (X.comp N' scope cl fp G2.objs.size s2 H2 (Bs X scope cl use Q2 s2.heap.objs.size G2.objs.size)) [] σ' H' s9/\tn i s9.heap/\(∀b∈fp,H' b=none)/\W i m σ' H':=λ{s9 H9} I9 n9=>by
    obtain⟨m',hm,w9⟩:=hNN σ7 H9 n9
    refine⟨m',hm,i+1,σ7,H9,I9.unpinned,T.keep _ _ _ st6 λb hb o e=>(I9.pin (b,o) (aH _ (aH _ (E4 hb e)))).1,λb hb=>?_,w9⟩
    obtain⟨o,e,d⟩:=T.obj _ _ st6 b hb
    exact(I9.pin (b,o) (aH _ (aH _ (E4 hb e)))).2.1
   refine thn (ht _ s7 σ7 H7 _ I7 q7) λb s8 ⟨H8,I8,q8⟩=>?_
   cases b with
   |false=>
    rw[if_neg aC] at q8
    exact again I8 q8
   |true=>
    rw[if_pos rfl] at q8
    refine thn (he _ s8 σ7 H8 _ I8 q8) λy s9 ⟨v9,H9,I9,r9,ys,hD,hlen,w9⟩=>?_
    refine thn (Oy ([]++Jo fp s6.heap) s9 σ7 H9 (.ref s2.heap.objs.size) [v9] (.ref s2.heap.objs.size) [y] (λ_ H'=>H'=upd H9 s2.heap.objs.size (.lst (ys++[v9]))) I9 rfl (.cons r9 .nil)
     ⟨_,ys,v9,rfl,rfl,hD,hlen,rfl⟩) λ_ s10 ⟨_,H10,I10,_,e10⟩=>?_
    subst e10
    exact again I10 w9
 exact codeAny_compStart_list (loop _ rfl) (T.self X.A 0 _ _ _ st3 (loop _ rfl))
def ai1(hc:X.calm=true)(S:Lg X N' srcs scope cl)(hi:PI X tg iter wi)(hb:∀Q2 fp C D s2 H2,Inv X ξ σ H2 s2->(∀b∈fp,Cz X ξ H2 b)->s2.heap.objs.size<=C->PG (X.comp N' scope cl fp C s2 H2 (Bs X scope cl none Q2 D C)) tg g/\Y6 (X.comp N' scope cl fp C s2 H2 (Bs X scope cl none Q2 D C)) ifs tc/\PE (X.comp N' scope cl fp C s2 H2 (Bs X scope cl none Q2 D C)) elt te)(I:Inv X ξ σ H s)(h:av3 srcs wi g tc te σ H Q)(hs:∀x,gu iter X.env x=pure x) :
  aR (model X.prog X.w) X.A (eval (.ListComp elt [⟨tg,iter,ifs,0⟩] scope pos) X.env) (EP X ξ σ Q) X.xe s:=by
 rw[eval_ListComp]
 refine Of hc S hi (λfp C D s2 H2=>hb _ fp C D s2 H2) I h (λD C H' s' I' ns fo q=>?_) hs
 obtain⟨m,hn⟩:=ns
 obtain⟨f0,f1,f2,f3,f4,f5⟩:=fo
 exact⟨m,hn,λh' sb=>⟨.ref D,H',I'.turned (λb o hb e=>(sb.2 b hb).trans e) f0 f1 f3 f4 f5,rfl,q⟩⟩
def ai0(hc:X.calm=true)(hN:X.N.Nodup)(hx:X.N[i]?=some x)(hl:X.env.scope.names.lookup x=some .local)(S:Lg X N' srcs scope cl)(hi:PI X tg iter wi)(hb:∀us Q2 fp C D s2 H2,Inv X ξ σ H2 s2->(∀b∈fp,Cz X ξ H2 b)->s2.heap.objs.size<=C->PG (X.comp N' scope cl fp C s2 H2 (Bs X scope cl us Q2 D C)) tg g/\Y6 (X.comp N' scope cl fp C s2 H2 (Bs X scope cl us Q2 D C)) ifs tc/\PE (X.comp N' scope cl fp C s2 H2 (Bs X scope cl us Q2 D C)) elt te)(I:Inv X ξ σ H s)(h:bt7 (av3 srcs wi g tc te) (aj5 i) D σ H)(hsw:jv (.ListComp elt [⟨tg,iter,ifs,0⟩] scope pos) (some (.Name x pos')) spos.line X.env=pure true)(hs:∀x,gu iter X.env x=pure x) :
  aR (model X.prog X.w) X.A (exec (.Assign [.Name x pos'] (.ListComp elt [⟨tg,iter,ifs,0⟩] scope pos) spos) X.env) (SP X ξ D) X.xe s:=by
 rw[exec_Assign_Name_used _ _ _ _ hsw]
 refine af (d9 (af ?_))
 refine af (thn (Of (Q2:=λ_ s'=>SP X ξ D .next s') hc S hi (λfp C D s2 H2=>hb _ _ fp C D s2 H2) I h (λL C H' s' I' ns fo q=>?_) hs) λ_ s' hq=>am (am hq))
 obtain⟨m,hn⟩:=ns
 obtain⟨f0,f1,f2,f3,f4,f5⟩:=fo
 obtain⟨oC,es,ep,hoC,hd,hr⟩:=hn
 have I2:Inv X (ξ++[(C,oC)]) σ H' s':=I'.pins_of λp hp=>(List.mem_append.mp hp).elim (λz=>I'.pin p (aH _ z)) λz=>by
  have z':p=(C,oC):=by simpa using z
  subst z'
  exact⟨hoC,f0,f1,f2,λv e=>by rw[hd] at e;cases e⟩
 refine wpAny_assign_Name (Ij (v:=.ref L) I2 hN hx (.inl hl) rfl (λs2 I3=>?_) (.inr hl))
 have hoC':=(I3.pin (C,oC) (aH _ (aH _ (by simp)))).1
 exact⟨m,⟨oC,es,ep,hoC',hd,hr⟩,λh' sb=>⟨_,H',(I3.unpinned).turned (t':=s2.toks) (λb o hb e=>(sb.2 b hb).trans e) f0 f1 f3 f4 f5,q⟩⟩
end
def Its(x:Str):It:=⟨λi _=>i<x.cps.size,λi H v H'=>H'=H/\∃c,x.cps[i]?=some c/\v=.str ⟨#[c]⟩,λi _=>i=x.cps.size⟩
def av9{P:aW}{w:bC}{K:ac}{tg:Expr}(it:Addr)(x:Str)(t:Tok)(ty:String)(hty:ty="str_ascii_iterator" \/ ty="str_iterator") :
  Nb P w K tg (Its x) [it] it (λi h=>h.IsStrIter it ty x t i) where
 mem:=by simp
 obj:=λi h st b hb=>by
  have e:b=it:=by simpa using hb
  subst e
  obtain⟨o,e,c,d⟩:=st
  exact⟨o,e,λv z=>by rw[d] at z;cases z⟩
 keep:=λi h h' st k=>by
  obtain⟨o,e,r⟩:=st
  exact⟨o,k it (by simp) o e,r⟩
 item:=by
  intro X hP hw hK hc i ξ s σ H E I hf st hg
  subst hP hw hK
  obtain⟨f0,f1,f2,f3,f4,f5⟩:=hf it (by simp)
  have W:nv X.prog X.w X.A it [it] [it] x.cps.size (SignAt x) (λi h=>h.IsStrIter it ty x t i):=by
   rcases hty with rfl|rfl
   .exact Walks.strAscii (I.ok.hd hc) it x t
   .exact Walks.strWide (I.ok.hd hc) it x t
  refine bG (ag _) (W.item i s _ _ hg st λv h' tk hv st' kk htk=>?_)
  obtain⟨c,u,hcp,rfl⟩:=hv
  have I1:Inv X ξ σ H {s with heap:=h',toks:=tk}:=I.turned (λb o hb e=>kk b o (by simpa using hb) e) f0 f1 f3 f4 f5
  obtain⟨o,e,cc,d⟩:=id st'
  exact⟨_,rfl,Ls e cc d (by rcases hty with rfl|rfl <;> decide) ⟨.str ⟨#[c]⟩,H,I1,⟨_,rfl⟩,⟨rfl,c,hcp,rfl⟩,st',λb hb=>(hf b hb).1⟩⟩
 done:=by
  intro X hP hw hK hc i ξ s σ H E I hf st hg
  subst hP hw hK
  obtain⟨f0,f1,f2,f3,f4,f5⟩:=hf it (by simp)
  have hg:=hg
  subst hg
  have W:nv X.prog X.w X.A it [it] [it] x.cps.size (SignAt x) (λi h=>h.IsStrIter it ty x t i):=by
   rcases hty with rfl|rfl
   .exact Walks.strAscii (I.ok.hd hc) it x t
   .exact Walks.strWide (I.ok.hd hc) it x t
  exact bG (ag _) (W.done s _ _ st λh' tk kk htk=>⟨rfl,I.turned (λb o hb e=>kk b o (by simpa using hb) e) f0 f1 f3 f4 f5⟩)
 self:=by
  intro A i s Q E st h
  rcases hty with rfl|rfl
  .exact wpAny_pyIter_striter_ascii st h
  .exact wpAny_pyIter_striter_wide st h
section
variable {X:Cx}{ξ:List (Addr×Obj)}{σ:St}{H:Hp}{s:aw}{h':Heap}{ch:List Addr}{t':Nat}
def Inv.turnedL(I:Inv X ξ σ H s)(hf:∀b∈ch,Cz X ξ H b)(k:∀b o,b∉ch->s.heap.get? b=some o->h'.get? b=some o)(ht:s.toks<=t':=by trivial):Inv X ξ σ H {s with heap:=h',toks:=t'}:=by
 have tr:∀b ob,H b=some ob->b∉ch:=λb ob e hb=>by rw[(hf b hb).1] at e;cases e
 refine I.step (λb hb=>⟨(hf b hb).2.2.2.1,(hf b hb).2.1,(hf b hb).2.2.2.2.1,(hf b hb).2.2.2.2.2⟩) (λb o _ _ hb e _=>k b o hb e) (λb o _ _ hb e _=>⟨o.slots,k b o hb e⟩) (λ_ _ _ _ n=>n) (λb o hb e=>⟨o,k b o hb e⟩)
  (λ_ _ e=>e) (λ_ _ _ e=>e) (λb ps e=>⟨#[],by rw[e];simp⟩) (λm hm=>?_) (λb ob e=>?_) I.bare
 .obtain⟨o,es,ep,ho,r⟩:=hm
  exact⟨o,es,ep,k _ o (λz=>(hf _ z).2.1 rfl) ho,r⟩
 .refine (I.hok b ob e).stay (λb' w' hc' q=>k b' w' ?_ q) (λ_ q=>q) λ_ _ q=>q
  rcases hc' with rfl|hc'
  .exact tr _ _ e
  .exact tr _ _ hc'
def Inv.turnedN(I:Inv X ξ σ H s)(hf:∀b∈ch,Cz X ξ H b)(k:∀b o,b∉ch->s.heap.get? b=some o->h'.get? b=some o)(hT:s.heap.objs.size<=T)(new:ObjOk X.prog X.w (upd H T o) h' T o)(ht:s.toks<=t':=by trivial) :
  Inv X ξ σ (upd H T o) {s with heap:=h',toks:=t'}:=by
 have tr:∀b ob,H b=some ob->b∉ch:=λb ob e hb=>by rw[(hf b hb).1] at e;cases e
 have hn:=I.hok.fresh hT
 have nT:∀{b o},s.heap.get? b=some o->b≠T:=λe=>aN (aL (aG e) hT)
 refine I.step (λb hb=>⟨(hf b hb).2.2.2.1,(hf b hb).2.1,(hf b hb).2.2.2.2.1,(hf b hb).2.2.2.2.2⟩) (λb o _ _ hb e _=>k b o hb e) (λb o _ _ hb e _=>⟨o.slots,k b o hb e⟩) (λb o _ e n=>by rw[Ad (nT e)];exact n) (λb o hb e=>⟨o,k b o hb e⟩)
  (λb zs e=>by rw[Ad (Ai e hn)];exact e) (λb o zs e=>by rw[Ad (Ai e hn)];exact e) (λb ps e=>⟨#[],by rw[Ad (Ai e hn),e];simp⟩) (λm hm=>?_) (λb ob e=>?_) I.bare
 .obtain⟨o,es,ep,ho,r⟩:=hm
  exact⟨o,es,ep,k _ o (λz=>(hf _ z).2.1 rfl) ho,r⟩
 .by_cases hb:b=T
  .subst hb
   rw[Aa] at e
   cases e
   exact new
  .rw[Ad hb] at e
   refine(I.hok b ob e).stay (λb' w' hc' q=>k b' w' ?_ q) (λb' q=>by rw[Ad (Ai q hn)];exact q) λb' zs q=>by rw[Ad (Ai q hn)];exact q
   rcases hc' with rfl|hc'
   .exact tr _ _ e
   .exact tr _ _ hc'
end
def aa5{bs:List Bool}:(aV bs.length).all (λi=>bs.getD i true)=bs.all λb=>b:=by
 rw[b5,bj,bj]
 constructor
 .intro h b hb
  obtain⟨i,hi,e⟩:=List.mem_iff_getElem.mp hb
  have q:=h i (List.mem_range.mpr hi)
  rw[au,ai hi,e] at q
  exact q
 .intro h i hi
  have hi:=List.mem_range.mp hi
  rw[au,ai hi]
  exact h _ (cJ hi)
section
variable {X:Cx}
def ah5(hc:X.calm=true):Ci X (.builtin "all") (λxs H Q=>∃(p:Addr)(bs:List Bool),xs=[.ref p]/\SqL X.K H p (bs.map V.bl)/\Q (.bl (bs.all λb=>b)) H):=by
 intro ξ s σ H xs us Q I r h
 obtain⟨p,bs,rfl,hq,q⟩:=h
 obtain⟨u,rfl,ru⟩:=r.one
 cases ru
 obtain⟨χ,rv,pl,hz⟩:=I.list hq
 have hlen:=rv.length
 rw[ae] at hlen
 obtain⟨o,n,e,c,hd,ds⟩:=id pl
 have plt:=aG e
 refine bG (ag _) (call_all_walk (jx pl.isList ?_))
 refine⟨s.heap.objs.size,_,_,_,_,_,(λi=>bs.getD i true),rfl,Walks.list (show X.A.in1.handled=none from I.ok.hd hc) s.heap.objs.size p (aN plt) χ.toArray,⟨⟨_,aE _ rfl,rfl,rfl⟩,pl.isList.push _⟩,?_,λh' tk kk htk=>?_⟩
 .intro i v s' Q' E' hv hq'
  have hv:χ[i]?=some v:=by simpa using hv
  have hi:i<bs.length:=by rw[hlen];exact(List.getElem?_eq_some_iff.mp hv).1
  have e1:(bs.map V.bl)[i]?=some (.bl bs[i]):=by simp[hi]
  obtain⟨u',hu',ru'⟩:=rv.get e1
  rw[hv] at hu'
  cases hu'
  cases ru'
  have e2:bs.getD i true=bs[i]:=by simp[au,hi]
  have hq':Q' (bs.getD i true) s':=hq'
  rw[e2] at hq'
  exact e_ hq'
 .have e3:(aV χ.toArray.size).all (λi=>bs.getD i true)=bs.all λb=>b:=by
   rw[ax,<- hlen]
   exact aa5
  rw[e3]
  refine⟨.bl _,H,I.kept λb o' eb=>kk b o' ?_ (ah _ eb),rfl,q⟩
  have hb:=aN (aG eb)
  simpa using hb
def Z6:OpR X (cI .LtE) (λx y H Q=>∃i j,x=.str i/\y=.str j/\Q (.bl (!decide (j.cps.toList<i.cps.toList))) H):=by
 intro ξ s σ H x y v u Q I rx ry h
 obtain⟨i,j,rfl,rfl,q⟩:=h
 obtain⟨t,rfl⟩:=rx
 obtain⟨t',rfl⟩:=ry
 exact PySem.P.le_str ⟨.bl _,H,I,rfl,q⟩
def a20:MtR X "int.bit_length" (λx xs H Q=>∃i,x=.int i/\xs=[]/\Q (.int (iK i:Nat)) H):=by
 intro ξ s σ H x xs v us Q I rx rs h
 obtain⟨i,rfl,rfl,q⟩:=h
 obtain⟨t,rfl⟩:=rx
 cases rs
 exact call_gives F.slot_int_bit_length (typeIs_int s i t) F.entry_int_bit_length (F.args_int_bit_length_1 _) (AutoIntG2.int_bit_length_int_0 i t) ⟨.int _,H,I.tok _,⟨_,rfl⟩,q⟩
end
def Sk(xs ys:List V):Bool:=decide (xs.length=ys.length)&&(aV xs.length).all λj=>eqV (xs.getD j .non) (ys.getD j .non)
def Fm(h:xs.length≠ys.length):Sk xs ys=false:=by
 unfold Sk
 rw[decide_eq_false h]
 rfl
def bt2(K:ac)(neg:Bool):R2:=λx y H Q=>∃a b xs ys,x=.ref a/\y=.ref b/\SqL K H a xs/\SqL K H b ys/\xs.all Br=true/\ys.all Br=true/\Q (.bl (if neg then !Sk xs ys else Sk xs ys)) H
section
variable {X:Cx}
def Ly(rx:Vals xs us)(ry:Vals ys ws)(fx:xs.all Br=true)(fy:ys.all Br=true)(j:Nat)(h1:j<us.toArray.size)(h2:j<ws.toArray.size) :
  bB A s us.toArray[j] ws.toArray[j] (eqV (xs.getD j .non) (ys.getD j .non)):=by
 have e1:=rx.length
 have e2:=ry.length
 have h1':j<us.length:=by simpa using h1
 have h2':j<ws.length:=by simpa using h2
 have a1:xs[j]?=some (xs[j]'(by omega)):=by simp
 have a2:ys[j]?=some (ys[j]'(by omega)):=by simp
 obtain⟨u,hu,ru⟩:=rx.get a1
 obtain⟨v,hv,rv⟩:=ry.get a2
 have b1:us.toArray[j]=u:=by
  have:us[j]?=some us[j]:=by simp
  rw[this] at hu
  simpa using az hu
 have b2:ws.toArray[j]=v:=by
  have:ws[j]?=some ws[j]:=by simp
  rw[this] at hv
  simpa using az hv
 have c1:xs.getD j .non=xs[j]'(by omega):=by rw[au,a1];rfl
 have c2:ys.getD j .non=ys[j]'(by omega):=by rw[au,a2];rfl
 rw[b1,b2,c1,c2]
 exact P1 ru rv (List.all_eq_true.mp fx _ (cJ _)) (List.all_eq_true.mp fy _ (cJ _))
def bo1(hu:X.A.units<cLine):OpR X (cI .Eq) (bt2 X.K false):=by
 intro ξ s σ H x y v u Q I rx ry h
 obtain⟨a,b,xs,ys,rfl,rfl,qa,qb,fx,fy,q⟩:=h
 cases rx
 cases ry
 obtain⟨χ,r,pl,hz⟩:=I.list qa
 obtain⟨its2,r2,pl2,hz2⟩:=I.list qb
 have e1:=r.length
 have e2:=r2.length
 by_cases hl:xs.length=ys.length
 .refine SeqAt.eq_listAt pl.isList pl2.isList (by simp;omega) hu (λj h1 h2=>Ly r r2 fx fy j h1 h2) ⟨.bl _,H,I,rfl,?_⟩
  have e:Sk xs ys=(aV χ.toArray.size).all λj=>eqV (xs.getD j .non) (ys.getD j .non):=by
   unfold Sk
   rw[decide_eq_true hl,ax,<- e1]
   rfl
  rw[<- e]
  exact q
 .refine SeqAt.eq_list_lengthsAt pl.isList pl2.isList (by simp;omega) hu ⟨.bl _,H,I,rfl,?_⟩
  rw[Fm hl] at q
  exact q
def bo6(hu:X.A.units<cLine):OpR X (cI .NotEq) (bt2 X.K true):=by
 intro ξ s σ H x y v u Q I rx ry h
 obtain⟨a,b,xs,ys,rfl,rfl,qa,qb,fx,fy,q⟩:=h
 cases rx
 cases ry
 obtain⟨χ,r,pl,hz⟩:=I.list qa
 obtain⟨its2,r2,pl2,hz2⟩:=I.list qb
 have e1:=r.length
 have e2:=r2.length
 by_cases hl:xs.length=ys.length
 .refine SeqAt.RcNeAt.lists pl.isList pl2.isList (by simp;omega) hu (λj h1 h2=>Ly r r2 fx fy j h1 h2) _ _ _ _ ⟨.bl _,H,I,rfl,?_⟩
  have e:Sk xs ys=(aV χ.toArray.size).all λj=>eqV (xs.getD j .non) (ys.getD j .non):=by
   unfold Sk
   rw[decide_eq_true hl,ax,<- e1]
   rfl
  rw[<- e]
  exact q
 .refine iY pl.isList pl2.isList (by simp;omega) hu _ _ _ _ ⟨.bl _,H,I,rfl,?_⟩
  rw[Fm hl] at q
  exact q
end
def al4{cl:List (Str×Addr)}{x:Str}(h:x∈cl.map (·.1)):∃c,cl.lookup x=some c:=by
 induction cl with
 |nil=>simp at h
 |cons p r ih=>
  obtain⟨n,a⟩:=p
  rw[fK]
  cases e:x==n with
  |true=>exact⟨a,rfl⟩
  |false=>
   refine ih ?_
   rcases List.mem_cons.mp h with q|q
   .rw[q] at e;simp at e
   .exact q
section
variable {X:Cx}{e:Expr}{te:TE}{lo hi:Option Expr}{tl th:TO}{pos p2:Pos}
def W4{ys:List Str}:∀{us},Vals (ys.map V.str) us->StrsAre us ys:=by
 induction ys with
 |nil=>intro us r;rw[fg] at r;cases r;exact .nil
 |cons y ys ih=>
  intro us r
  rw[aT] at r
  cases r with
  |cons r1 r2=>
   obtain⟨t,e⟩:=r1
   subst e
   exact .cons y t (ih r2)
def a22:MtR X "str.join" (λx xs H Q=>∃z p ys,x=.str z/\xs=[.ref p]/\SqL X.K H p (ys.map V.str)/\(ys.map (·.length)).sum+ys.length*z.length<=16777216/\Q (.str (Txt.join z ys)) H):=by
 intro ξ s σ H x xs v us Q I rx rs h
 obtain⟨z,p,ys,rfl,rfl,hq,hz,q⟩:=h
 obtain⟨t,rfl⟩:=rx
 obtain⟨u,rfl,ru⟩:=rs.one
 cases ru
 obtain⟨χ,rv,pl,_⟩:=I.list hq
 exact bG (ag _) (PyProof.Rows.join_list pl.isList (W4 rv) hz λt' k htk=>⟨.str _,H,I.tok k htk,⟨_,rfl⟩,q⟩)
end
section
variable {κ:Type} [DecidableEq κ]
def Bf(kvs:List (κ×V))(k:κ):Option V:=(kvs.find? λkv=>decide (kv.1=k)).map (·.2)
def Cj(kvs:List (κ×V))(k:κ)(v:V):List (κ×V):=
 if(kvs.any λkv=>decide (kv.1=k))=true then kvs.map (λkv=>if kv.1=k then(kv.1,v) else kv) else kvs++[(k,v)]
def B6{p:κ×V}{r:List (κ×V)}{k:κ}(e:p.1=k):Bf (p::r) k=some p.2:=by simp[Bf,fU,e]
def Bz{p:κ×V}{r:List (κ×V)}{k:κ}(e:¬ p.1=k):Bf (p::r) k=Bf r k:=by simp[Bf,fU,e]
theorem Ew(k:κ):∀kvs,(kvs.any λkv=>decide (kv.1=k))=(Bf kvs k).isSome
 |[]=>rfl
 | p::r=>by
  rw[gU]
  by_cases e:p.1=k
  .simp only[B6 e,decide_eq_true e,ma,Option.isSome_some]
  .rw[Bz e,decide_eq_false e,jy];exact Ew k r
theorem Ui(k j:κ)(y:V):∀kvs,Bf (kvs.map λkv=>if kv.1=k then(kv.1,y) else kv) j=(Bf kvs j).map λx=>if j=k then y else x
 |[]=>rfl
 | p::r=>by
  have ih:=Ui k j y r
  rw[aT]
  by_cases h:p.1=k
  .rw[if_pos h]
   by_cases e:p.1=j
   .rw[B6 (p:=(p.1,y)) e,B6 e,dL,if_pos (e.symm.trans h)]
   .rw[Bz (p:=(p.1,y)) e,Bz e,ih]
  .rw[if_neg h]
   by_cases e:p.1=j
   .rw[B6 e,B6 e,dL,if_neg (λz=>h (e.trans z))]
   .rw[Bz e,Bz e,ih]
theorem Pd(k j:κ)(y:V):∀kvs,Bf kvs k=none->Bf (kvs++[(k,y)]) j=if j=k then some y else Bf kvs j
 | [],_=>by
  by_cases e:k=j
  .rw[if_pos e.symm];exact B6 e
  .rw[if_neg (λz=>e z.symm)];exact Bz e
 | p::r,hn=>by
  rw[gI]
  have hk:¬ p.1=k:=λz=>by rw[B6 z] at hn;cases hn
  rw[Bz hk] at hn
  have ih:=Pd k j y r hn
  by_cases e:p.1=j
  .rw[B6 e,B6 e,if_neg (λz=>hk (e.trans z))]
  .rw[Bz e,Bz e,ih]
def Iw(kvs:List (κ×V))(k j:κ)(y:V):Bf (Cj kvs k y) j=if j=k then some y else Bf kvs j:=by
 unfold Cj
 by_cases a:(kvs.any λkv=>decide (kv.1=k))=true
 .rw[if_pos a,Ui]
  rw[Ew] at a
  by_cases e:j=k
  .obtain⟨x,hx⟩:=Option.isSome_iff_exists.mp a
   rw[if_pos e,e,hx,dL,if_pos rfl]
  .rw[if_neg e]
   cases Bf kvs j with
   |none=>rfl
   |some x=>rw[dL,if_neg e]
 .rw[if_neg a]
  refine Pd k j y kvs ?_
  rw[Ew] at a
  cases q:Bf kvs k with
  |none=>rfl
  |some x=>rw[q] at a;exact(a rfl).elim
def Dg(kvs:List (κ×V))(k:κ)(v:V):(Cj kvs k v).length<=kvs.length+1:=by
 unfold Cj
 split
 .rw[ae];omega
 .rw[aI,aK,j7];omega
def Fx{kvs:List (κ×V)}{k:κ}(v:V)(h:Bf kvs k=none):Cj kvs k v=kvs++[(k,v)]:=by
 unfold Cj
 rw[Ew,h]
 exact if_neg (by decide)
def RelO.isSome_eq(r:RelO o u):o.isSome=u.isSome:=by
 cases o with
 | none=>cases u with
  |none=>rfl
  |some _=>exact(r).elim
 | some _=>cases u with
  |none=>exact(r).elim
  |some _=>rfl
theorem RelO.getD(r:RelO o u)(rd:RelV d d'):RelV (o.getD d) (u.getD d'):=by
 cases o with
 | none=>cases u with
  |none=>exact rd
  |some _=>exact(r).elim
 | some _=>cases u with
  |none=>exact(r).elim
  |some _=>exact r
def KV.val(r:KV kvs vs)(k:κ):RelO (Bf kvs k) (mR vs k):=by
 induction r with
 |nil=>exact aP
 |@cons p q ps qs h t ih=>
  obtain⟨h1,h2⟩:=h
  by_cases e:p.1=k
  .have e':=h1.symm.trans e
   have b:mR (q::qs) k=some q.2:=by simp[mR,fU,e']
   rw[B6 e,b];exact h2
  .have e':¬ q.1=k:=λz=>e (h1.trans z)
   have b:mR (q::qs) k=mR qs k:=by simp[mR,fU,e']
   rw[Bz e,b];exact ih
theorem KV.any(r:KV kvs vs)(k:κ):(kvs.any λkv=>decide (kv.1=k))=vs.any λkv=>decide (kv.1=k):=by
 induction r with
 |nil=>rfl
 |cons h t ih=>rw[gU,gU,ih,h.1]
def KV.repl(r:KV kvs vs)(k:κ)(ry:RelV y u) :
  KV (kvs.map λkv=>if kv.1=k then(kv.1,y) else kv) (vs.map λkv=>if kv.1=k then(kv.1,u) else kv):=by
 induction r with
 |nil=>exact .nil
 |@cons p q ps qs h t ih=>
  rw[aT,aT]
  refine .cons ?_ ih
  obtain⟨h1,h2⟩:=h
  by_cases e:p.1=k
  .rw[if_pos e,if_pos (h1.symm.trans e)];exact⟨h1,ry⟩
  .rw[if_neg e,if_neg (λz=>e (h1.trans z))];exact⟨h1,h2⟩
def KV.put(r:KV kvs vs)(k:κ)(ry:RelV y u):KV (Cj kvs k y) (stored vs k u):=by
 unfold Cj stored
 rw[r.any k]
 by_cases e:(vs.any λkv=>decide (kv.1=k))=true
 .rw[if_pos e,if_pos e];exact r.repl k ry
 .rw[if_neg e,if_neg e];exact Paired.snoc r ⟨rfl,ry⟩
def KV.keys{kvs:List (κ×V)}{vs:List (κ×Value)}(r:KV kvs vs):kvs.map (·.1)=vs.map (·.1):=by
 induction r with
 |nil=>rfl
 |cons h t ih=>rw[aT,aT,ih,h.1]
theorem KV.length(r:KV kvs vs):kvs.length=vs.length:=jD r
end
def J5(r:RelV (kV k) u):(Be P w).is k u=true:=by
 cases k with
 |inl i=>obtain⟨t,e⟩:=(r);subst e;exact Te P w i t
 |inr x=>obtain⟨t,e⟩:=(r);subst e;exact Tf P w x t
abbrev KT(H:Hp):List (TK×V)->List (TK×Addr×Value)->Prop:=ir λp q=>p.1=q.1/\(Ap p.1<=8/\TkAt H p.1 (.ref q.2.1))/\RelV p.2 q.2.2
def KT.val(r:KT H kvs xs)(k:TK):RelO (Bf kvs k) ((atKey xs k).map (·.2)):=by
 induction r with
 |nil=>exact aP
 |@cons p q ps qs h t ih=>
  obtain⟨h1,_,h2⟩:=h
  by_cases e:p.1=k
  .have e':=h1.symm.trans e
   have b:atKey (q::qs) k=some q.2:=by simp[atKey,fU,e']
   rw[B6 e,b];exact h2
  .have e':¬ q.1=k:=λz=>e (h1.trans z)
   have b:atKey (q::qs) k=atKey qs k:=by simp[atKey,fU,e']
   rw[Bz e,b];exact ih
def KT.repl(r:KT H kvs xs)(k:TK)(ry:RelV y u) :
  KT H (kvs.map λkv=>if kv.1=k then(kv.1,y) else kv) (xs.map (putAt k u)):=by
 induction r with
 |nil=>exact .nil
 |@cons p q ps qs h t ih=>
  rw[aT,aT]
  refine .cons ?_ ih
  obtain⟨h1,h2,h3⟩:=h
  unfold putAt
  by_cases e:p.1=k
  .rw[if_pos e,if_pos (h1.symm.trans e)];exact⟨h1,h2,ry⟩
  .rw[if_neg e,if_neg (λz=>e (h1.trans z))];exact⟨h1,h2,h3⟩
def KT.put(r:KT H kvs xs)(k:TK)(hb:(Ap k<=8/\TkAt H k (.ref b)))(ry:RelV y u) :
  KT H (Cj kvs k y) (storedH xs k b u):=by
 have e:(kvs.any λkv=>decide (kv.1=k))=(atKey xs k).isSome:=by
  rw[Ew,(r.val k).isSome_eq,Option.isSome_map]
 unfold Cj storedH
 rw[e]
 by_cases q:(atKey xs k).isSome=true
 .rw[if_pos q,if_pos q];exact r.repl k ry
 .rw[if_neg q,if_neg q];exact Paired.snoc r ⟨rfl,hb,ry⟩
def KT.keeps(r:KT H kvs xs)(ht:∀b ys,H b=some (.tup ys)->H' b=some (.tup ys)):KT H' kvs xs:=
 Paired.mapP r λ_ _ z=>⟨z.1,⟨z.2.1.1,z.2.1.2.up ht _⟩,z.2.2⟩
section
variable {P:aW}{w:bC}{H:Hp}{h:Heap}{a:Addr}
def bc7(ok:HOk P w H h)(e:Rd H a u):ObjOk P w H h a u:=e.ok ok
def Dm(ok:HOk P w H h)(e:Rd H a (.dK kvs)):kvs.length<=sizeLine/\(a==c7)=false/\∃vs,KV kvs vs/\h.DictOf (Be P w) a vs:=
 bc7 ok e
def ba2(ok:HOk P w H h)(e:H a=some (.dK kvs)):kvs.length<=sizeLine/\(a==c7)=false/\∃vs,KV kvs vs/\h.DictOf (Be P w) a vs:=Dm ok (.inl e)
def b92(ok:HOk P w H h)(x:TK):∀{v} {u},TkAt H x v->RelV v u->TkIs P w h x u:=by
 refine TK.rec (motive_1:=λx=>∀{v} {u},TkAt H x v->RelV v u->TkIs P w h x u) (motive_2:=λl=>∀{vs} {us},A7 H l vs->Vals vs us->TksAre P w h l us) ?_ ?_ ?_ ?_ x
 .intro k v u q r
  subst q
  exact J5 r
 .intro l ih v u q r
  obtain⟨a,xs,rfl,e,i⟩:=q
  cases r
  obtain⟨_,χ,r,t⟩:=(ok a _ e)
  exact⟨a,χ.toArray,rfl,t,by simpa using ih i r⟩
 .intro vs us q r
  subst q
  cases r
  rfl
 .intro x l h1 h2 vs us q r
  obtain⟨v,r',rfl,q1,q2⟩:=q
  cases r with
  |cons r1 r2=>exact⟨_,_,rfl,h1 q1 r1,h2 q2 r2⟩
def L6(ok:HOk P w H h)(e:Ap k<=8/\TkAt H k (.ref a)):(Di P w).is h k a:=⟨e.1,b92 ok k e.2 rfl⟩
def Si(ok:HOk P w H h)(e:Rd H a (.dT kvs)):kvs.length<=sizeLine/\(a==c7)=false /\
  ∃xs,KT H kvs xs/\h.DictOfH (Di P w) a xs:=by
 obtain⟨z,y,xs,r,o,es,ep,h1,h2,h3,h4,h5⟩:=(bc7 ok e)
 refine⟨z,y,xs,r,o,es,ep,h1,h2,h3,h4,λx hx=>?_,h5⟩
 have all:∀{l} {m},KT H l m -> ∀x∈m,(Di P w).is h x.1 x.2.1:=by
  intro l m q
  induction q with
  |nil=>intro x hx;exact nomatch hx
  |@cons p q ps qs hq t ih=>
   intro x hx
   rcases List.mem_cons.mp hx with e|hx
   .subst e
    exact L6 ok (by rw[<- hq.1];exact hq.2.1)
   .exact ih x hx
 exact all r x hx
def bw7(ok:HOk P w H h)(e:H a=some (.dT kvs)):kvs.length<=sizeLine/\(a==c7)=false /\
  ∃xs,KT H kvs xs/\h.DictOfH (Di P w) a xs:=Si ok (.inl e)
end
def Xe(H:Hp)(a:Addr)(y:V)(r:Option V):Prop:=∃kvs k,Rd H a (.dK kvs)/\y=kV k/\r=Bf kvs k
def DGet(H:Hp)(a:Addr)(y:V)(r:Option V):Prop:=
 (∃kvs k,Rd H a (.dK kvs)/\y=kV k/\r=Bf kvs k) \/ ∃kvs k b,Rd H a (.dT kvs)/\y=.ref b/\(Ap k<=8/\TkAt H k (.ref b))/\r=Bf kvs k
def DPut(H:Hp)(a:Addr)(y v:V)(H':Hp):Prop:=
 (∃kvs k,H a=some (.dK kvs)/\y=kV k/\kvs.length<sizeLine/\H'=upd H a (.dK (Cj kvs k v))) \/
 ∃kvs k b,H a=some (.dT kvs)/\y=.ref b/\(Ap k<=8/\TkAt H k (.ref b))/\kvs.length<sizeLine/\H'=upd H a (.dT (Cj kvs k v))
theorem DGet.k{H:Hp}{a:Addr}{kvs:List (Key×V)}{k:Key}(e:H a=some (.dK kvs)):DGet H a (kV k) (Bf kvs k):=.inl ⟨kvs,k,.inl e,rfl,rfl⟩
def DGet.t{H:Hp}{a b:Addr}{kvs:List (TK×V)}{k:TK}(e:H a=some (.dT kvs))(eb:(Ap k<=8/\TkAt H k (.ref b))):DGet H a (.ref b) (Bf kvs k):=.inr ⟨kvs,k,b,.inl e,rfl,eb,rfl⟩
theorem DPut.k{H:Hp}{a:Addr}{kvs:List (Key×V)}{k:Key}{v:V}(e:H a=some (.dK kvs))(hl:kvs.length<sizeLine):DPut H a (kV k) v (upd H a (.dK (Cj kvs k v))):=.inl ⟨kvs,k,e,rfl,hl,rfl⟩
def DPut.t{H:Hp}{a b:Addr}{kvs:List (TK×V)}{k:TK}{v:V}(e:H a=some (.dT kvs))(eb:(Ap k<=8/\TkAt H k (.ref b)))(hl:kvs.length<sizeLine) :
  DPut H a (.ref b) v (upd H a (.dT (Cj kvs k v))):=.inr ⟨kvs,k,b,e,rfl,eb,hl,rfl⟩
section
variable {X:Cx}{ξ:List (Addr×Obj)}{σ:St}{H:Hp}{s:aw}{a:Addr}{y v:V}{u r:Value}{o:Option V}{A:bF}{E:Value->aw->Prop}
def Inv.big(I:Inv X ξ σ H s):c7<s.heap.objs.size:=by
 have h:=(I.mod.glob.keeps I.bk).lt
 exact Nat.lt_trans (by decide) h
def Ze(hu:A.units+9<cLine)(I:Inv X ξ σ H s)(g:DGet H a y (some v))(ry:RelV y u)(h:∀w' s',Inv X ξ σ H s'->RelV v w'->Q w' s') :
  aR (model X.prog X.w) A (getItem (.ref a) u) Q E s:=by
 rcases g with⟨kvs,k,e,ey,l⟩|⟨kvs,k,b,e,ey,eb,l⟩
 .subst ey
  obtain⟨z,hd,vs,rel,dd⟩:=Dm I.hok e
  obtain⟨w',hw,rw'⟩:=RelO.some_of (by rw[l];exact rel.val k)
  exact wpAny_getItem_of (J5 ry) dd.mapOf hw (h w' _ (I.tok _) rw')
 .subst ey
  cases(ry)
  obtain⟨z,hd,xs,rel,dd⟩:=Si I.hok e
  obtain⟨w',hw,rw'⟩:=RelO.some_of (by rw[l];exact rel.val k)
  obtain⟨p,hp,hp2⟩:=Option.map_eq_some_iff.mp hw
  refine wpAny_getItem_heap (show A.units+1+8<cLine by omega) (L6 I.hok eb) dd hp ?_
  rw[hp2]
  exact h w' _ (I.tok _) rw'
def ca3(I:Inv X ξ σ H s)(g:Xe H a y o)(ry:RelV y u)(h:∀s',Inv X ξ σ H s'->Q (.bool o.isSome) s') :
  aR (model X.prog X.w) A (cI .In u (.ref a)) Q E s:=by
 obtain⟨kvs,k,e,ey,l⟩:=g
 subst ey
 obtain⟨z,hd,vs,rel,dd⟩:=Dm I.hok e
 refine wpAny_in_of (J5 ry) hd dd.mapOf ?_
 rw[<- (rel.val k).isSome_eq,<- l]
 exact h _ (I.tok _)
def az9(I:Inv X ξ σ H s)(g:Xe H a y o)(ry:RelV y u)(h:∀s',Inv X ξ σ H s'->Q (.bool (!o.isSome)) s') :
  aR (model X.prog X.w) A (cI .NotIn u (.ref a)) Q E s:=by
 obtain⟨kvs,k,e,ey,l⟩:=g
 subst ey
 obtain⟨z,hd,vs,rel,dd⟩:=Dm I.hok e
 refine wpAny_notIn_of (J5 ry) hd dd.mapOf ?_
 rw[<- (rel.val k).isSome_eq,<- l]
 exact h _ (I.tok _)
def Py(I:Inv X ξ σ H s)(mu:Mut (H a))(hs:bO a s.heap h')(he:∃q,h'.get? a=some q)(new:ObjOk X.prog X.w (upd H a ob) h' a ob)(ht:s.toks<=t':=by trivial) :
  Inv X ξ σ (upd H a ob) {s with heap:=h',toks:=t'}:=
 I.write mu (.inl rfl) (λb q hb z=>(hs.2 b hb).trans z) he new
def U1(z:kvs.length<=sizeLine)(hd:(a==c7)=false)(rel:KV kvs vs)(dd:h'.DictOf (Be P w) a vs) :
  ObjOk P w H' h' a (.dK kvs):=⟨z,hd,vs,rel,dd⟩
def Zf(hu:A.units+9<cLine)(I:Inv X ξ σ H s)(g:DPut H a y v H')(ry:RelV y u)(rv:RelV v r)(h:∀s',Inv X ξ σ H' s'->Q () s') :
  aR (model X.prog X.w) A (setItem (.ref a) u r) Q E s:=by
 rcases g with⟨kvs,k,e,ey,l,eH⟩|⟨kvs,k,b,e,ey,eb,l,eH⟩
 .subst ey eH
  obtain⟨z,hd,vs,rel,dd⟩:=ba2 I.hok e
  have hz:vs.length<=sizeLine:=by rw[<- rel.length];exact z
  have hl:(Cj kvs k v).length<=sizeLine:=by have:=Dg kvs k v;omega
  refine wpAny_setItem_pairs (J5 ry) dd λh' dd' hs=>h _ ?_
  have he:∃q,h'.get? a=some q:=let⟨q,_,_,hq,_⟩:=dd';⟨q,hq⟩
  exact Py I (by rw[e];exact aP) hs he (U1 hl hd (rel.put k rv) dd')
 .subst ey eH
  cases(ry)
  obtain⟨z,hd,xs,rel,dd⟩:=bw7 I.hok e
  have hz:xs.length<=sizeLine:=by rw[<- jD rel];exact z
  have hl:(Cj kvs k v).length<=sizeLine:=by have:=Dg kvs k v;omega
  refine wpAny_setItem_heap (show A.units+1+8<cLine by omega) (L6 I.hok eb) dd λh' dd' hs=>h _ ?_
  obtain⟨q,es,ep,hq,h2,h3,h4,_,h5⟩:=dd'
  refine Py I (by rw[e];exact aP) hs ⟨q,hq⟩ ⟨hl,hd,_,(rel.put k eb rv).keeps λc ys ec=>?_,q,es,ep,hq,h2,h3,h4,h5⟩
  rw[Ad (bz3 ec e (λz=>nomatch z))]
  exact ec
end
section
variable {X:Cx}{ξ:List (Addr×Obj)}{σ:St}{H:Hp}{s:aw}{a:Addr}{kvs:List (Key×V)}{k:Key}{u:Value}{A:bF}{E:Value->aw->Prop}
def bw5(I:Inv X ξ σ H s)(e:Rd H a (.dK kvs))(h:∀t s',Inv X ξ σ H s'->Q (.int kvs.length t) s'):aR (model X.prog X.w) A (call (.builtin "len") [.ref a]) Q E s:=by
 obtain⟨z,hd,vs,rel,dd⟩:=Dm I.hok e
 refine call_len_dict hd dd (by rw[<- rel.length];rw[bN] at z;omega) ?_
 rw[<- rel.length]
 exact h _ _ (I.tok _)
end
def Sc(I:Inv X ξ σ H s)(g:DGet H a y o):s.TypeIs (.ref a) "dict" := by
 rcases g with⟨kvs,k,e,_,_⟩|⟨kvs,k,b,e,_,_,_⟩
 .obtain⟨_,_,vs,_,dd⟩:=Dm I.hok e
  exact dd.typeIs
 .obtain⟨_,_,xs,_,dd⟩:=Si I.hok e
  exact dd.typeIs
def ai3(h:Heap)(hb:c7<h.objs.size):ObjOk P w H (h.push {cls:=.type "dict", data:=.dict #[]}) h.objs.size (.dK []):=
 ⟨bw _,beq_eq_false_iff_ne.mpr (cg (aN hb)),[],.nil,Heap.DictOf.new h⟩
def ai4(h:Heap)(hb:c7<h.objs.size):ObjOk P w H (h.push {cls:=.type "dict", data:=.dict #[]}) h.objs.size (.dT []):=
 ⟨bw _,beq_eq_false_iff_ne.mpr (cg (aN hb)),[],.nil,_,#[],0,aE _ rfl,⟨rfl,rfl,rfl⟩,rfl,rfl,im⟩
section
variable {X:Cx}{ξ:List (Addr×Obj)}{σ:St}{H:Hp}{s:aw}{a:Addr}{y d:V}{u r:Value}{o:Option V}{A:bF}{E:Value->aw->Prop}
def bg2(hu:A.units+9<cLine)(I:Inv X ξ σ H s)(g:DGet H a y o)(ry:RelV y u)(h:∀w' s',Inv X ξ σ H s'->RelV (o.getD .non) w'->Q w' s') :
  aR (model X.prog X.w) A (call (.builtin "dict.get") [.ref a,u]) Q E s:=by
 rcases g with⟨kvs,k,e,ey,l⟩|⟨kvs,k,b,e,ey,eb,l⟩
 .subst ey
  obtain⟨z,hd,vs,rel,dd⟩:=Dm I.hok e
  refine iw d6 dd.typeIs fN (jF _ _) (meets_dict_get (Be X.prog X.w) a (J5 ry) hd) ⟨_,dd.mapOf,h _ _ (I.tok _) ?_⟩
  rw[l]
  exact(rel.val k).getD rfl
 .subst ey
  cases(ry)
  obtain⟨z,hd,xs,rel,dd⟩:=Si I.hok e
  refine iw d6 dd.typeIs fN (jF _ _) (meetsH_dict_get (Di X.prog X.w) a b hd) ⟨show A.units+1+8<cLine by omega,k,xs,L6 I.hok eb,dd,h _ _ (I.tok _) ?_⟩
  rw[l]
  exact(rel.val k).getD rfl
def bg3(hu:A.units+9<cLine)(I:Inv X ξ σ H s)(g:DGet H a y o)(ry:RelV y u)(rd:RelV d r)(h:∀w' s',Inv X ξ σ H s'->RelV (o.getD d) w'->Q w' s') :
  aR (model X.prog X.w) A (call (.builtin "dict.get") [.ref a,u,r]) Q E s:=by
 rcases g with⟨kvs,k,e,ey,l⟩|⟨kvs,k,b,e,ey,eb,l⟩
 .subst ey
  obtain⟨z,hd,vs,rel,dd⟩:=Dm I.hok e
  refine iw d6 dd.typeIs fN (jG _ _ _) (meets_dict_get_default (Be X.prog X.w) a (J5 ry) hd r) ⟨_,dd.mapOf,h _ _ (I.tok _) ?_⟩
  rw[l]
  exact(rel.val k).getD rd
 .subst ey
  cases(ry)
  obtain⟨z,hd,xs,rel,dd⟩:=Si I.hok e
  refine iw d6 dd.typeIs fN (jG _ _ _) (meetsH_dict_get_default (Di X.prog X.w) a b hd r) ⟨show A.units+1+8<cLine by omega,k,xs,L6 I.hok eb,dd,h _ _ (I.tok _) ?_⟩
  rw[l]
  exact(rel.val k).getD rd
end
abbrev EK:=Addr->Hp->Prop
abbrev DE:=St->Hp->VK->EK->Prop
abbrev DT:=St->Hp->(Bool->Hp->Prop)->EK->Prop
abbrev DA:=St->Hp->(List V->Hp->Prop)->EK->Prop
structure Outs where
 nx:St->Hp->Prop
 rt:VK
 bk:St->Hp->Prop
 ct:St->Hp->Prop
 ex:St->EK
abbrev DS:=Outs->St->Hp->Prop
abbrev As(C:Addr)(dx:Option Addr)(vs:Array Value):Obj:={cls:=.ref C,dict:=dx,data:=.fields vs}
def Fn(a C:Addr)(dx:Option Addr):HO:=.ext λh=>∃vs,h.get? a=some (As C dx vs)/\vs.size=6/\vs[1]?=some .none/\vs[2]?=some .none
def flO(a C:Addr)(dx:Option Addr):HO:=.ext λh=>∃vs,h.get? a=some (As C dx vs)/\vs.size=6/\vs[2]?=some .none
def fcO(a C:Addr)(dx:Option Addr):HO:=.ext λh=>∃vs,h.get? a=some (As C dx vs)/\vs.size=6
def FlO(H:Hp)(a C:Addr)(dx:Option Addr):Prop:=H a=some (flO a C dx)\/H a=some (fcO a C dx)
def xdO(dx:Addr)(fs:List (Str×V)):HO:=.ext λh=>fs.length<=1000/\∃mA,h.Ns1 dx mA/\(∀f,RelO (fs.lookup f) (mA f))/\fu mA (fs.map (·.1))
def G9(X:Cx)(ξ:List (Addr×Obj))(H:Hp)(a:Addr)(s:aw):Prop:=
 ∃C dx vs,FlO H a C dx/\s.heap.get? a=some (As C dx vs)/\vs.size=6 /\
  (vs[1]?=some .none \/ ∃T oT ts,vs[1]?=some (.ref T)/\T≠a/\s.heap.get? T=some oT/\oT.data=.fields ts/\(∃z,ts[3]?=some z)/\Cz X ξ H T)
def Meets(X:Cx)(Ex:St->EK):Prop:=
 ∀ξ (σ:St) (H:Hp) (s:aw) (a:Addr),Inv X ξ σ H s->G9 X ξ H a s->Ex σ a H->X.xe (.ref a) s
def QE(X:Cx)(e:Expr)(t:DE):Prop:=∀Ex,Meets X Ex->PE X e (λσ H Q=>t σ H Q (Ex σ))
def QT(X:Cx)(e:Expr)(t:DT):Prop:=∀Ex,Meets X Ex->PT X e (λσ H Q=>t σ H Q (Ex σ))
def QW(X:Cx)(e:Expr)(t:DT):Prop:=∀Ex,Meets X Ex->PW X e (λσ H Q=>t σ H Q (Ex σ))
def QA(X:Cx)(es:List Expr)(t:DA):Prop:=∀Ex,Meets X Ex->PA X es (λσ H Q=>t σ H Q (Ex σ))
def a34(Ex:St->EK)(D:ag0):Outs:=⟨D.nx,D.rt,D.bk,D.ct,Ex⟩
def QS(X:Cx)(st:Stmt)(t:DS):Prop:=∀Ex,Meets X Ex->PS X st (λD σ H=>t (a34 Ex D) σ H)
def QSs(X:Cx)(st:List Stmt)(t:DS):Prop:=∀Ex,Meets X Ex->PSs X st (λD σ H=>t (a34 Ex D) σ H)
noncomputable def dNo:DE:=λ_ _ _ _=>False
noncomputable def Ab(i:Nat):DE:=λσ H Q _=>match σ[i]? with
 |some (some v)=>Q v H
 |_=>False
noncomputable def dC(v:V):DE:=λ_ H Q _=>Q v H
noncomputable def Ah(r:R2)(a b:DE):DE:=λσ H Q E=>a σ H (λx H1=>b σ H1 (λy H2=>r x y H2 Q) E) E
noncomputable def dUn(r:V->Hp->VK->Prop)(a:DE):DE:=λσ H Q E=>a σ H (λx H1=>r x H1 Q) E
noncomputable def Dw(r r':R2)(a b c:DE):DE:=λσ H Q E=>a σ H (λx H1=>b σ H1 (λy H2=>r x y H2 λz H3=>match z with
 |.bl k=>if k=true then c σ H3 (λw H4=>r' y w H4 Q) E else Q (.bl false) H3
 |_=>False) E) E
noncomputable def Kb(a b:DT):DT:=λσ H Q E=>a σ H (λk H1=>if k=true then b σ H1 Q E else Q false H1) E
noncomputable def dOr(a b:DT):DT:=λσ H Q E=>a σ H (λk H1=>if k=true then Q true H1 else b σ H1 Q E) E
noncomputable def Ff(a:DT):DT:=λσ H Q E=>a σ H (λk H1=>Q (!k) H1) E
def av7(K:ac)(x:V)(H:Hp)(Q:Bool->Hp->Prop):Prop:=match x with
 |.bl k=>Q k H
 |.non=>Q false H
 |.int i=>Q (i != 0) H
 |.str y=>y.length<=sizeLine/\Q ((y.length:Int) != 0) H
 |.ref p=>∃k,bw0 K (.ref p) H k/\Q k H
 |_=>False
noncomputable def Lj(K:ac)(a b:DE):DE:=λσ H Q E=>a σ H (λx H1=>av7 K x H1 λk H2=>if k=true then b σ H2 Q E else Q x H2) E
noncomputable def bw4(K:ac)(a b:DE):DE:=λσ H Q E=>a σ H (λx H1=>av7 K x H1 λk H2=>if k=true then Q x H2 else b σ H2 Q E) E
noncomputable def X3(K:ac)(a:DE):DE:=λσ H Q E=>a σ H (λx H1=>av7 K x H1 λk H2=>Q (.bl (!k)) H2) E
noncomputable def De(K:ac)(a:DE):DT:=λσ H Q E=>a σ H (λx H1=>av7 K x H1 Q) E
noncomputable def Bb(a:DE):DT:=λσ H Q E=>a σ H (λx H1=>match x with
 |.bl k=>Q k H1
 |_=>False) E
noncomputable def Ag:DA:=λ_ H Q _=>Q [] H
noncomputable def Ac(a:DE)(r:DA):DA:=λσ H Q E=>a σ H (λx H1=>r σ H1 (λxs H2=>Q (x::xs) H2) E) E
noncomputable def Dn(t:DA):DE:=λσ H Q E=>t σ H (λxs H1=>xs.length<=sizeLine/\∀p,H1 p=none->Q (.ref p) (upd H1 p (.tup xs))) E
noncomputable def Cf(t:DA):DE:=λσ H Q E=>t σ H (λxs H1=>xs.length<=sizeLine/\∀p,H1 p=none->Q (.ref p) (upd H1 p (.lst xs))) E
noncomputable def dFn(r:List V->Hp->VK->EK->Prop)(t:DA):DE:=λσ H Q E=>t σ H (λvs H1=>r vs H1 Q E) E
noncomputable def dMt(r:V->Hp->(Hp->(List V->Hp->Prop)->Prop)->VK->Prop)(o:DE)(t:DA):DE:=λσ H Q E=>o σ H (λx H1=>r x H1 (λH2 R=>t σ H2 R E) Q) E
noncomputable def Af:DS:=λD σ H=>D.nx σ H
noncomputable def Bt:DS:=λ_ _ _=>False
def Outs.thn(D:Outs)(f:St->Hp->Prop):Outs:={D with nx:=f}
def Outs.lp(D:Outs)(P:St->Hp->Prop):Outs:={D with nx:=P,ct:=P,bk:=D.nx}
noncomputable def Ae(t u:DS):DS:=λD σ H=>t (D.thn (u D)) σ H
noncomputable def Aq(e:DE):DS:=λD σ H=>e σ H D.rt (D.ex σ)
noncomputable def ba0:DS:=λD _ H=>D.rt .non H
noncomputable def Dl(e:DE):DS:=λD σ H=>e σ H (λ_ H1=>D.nx σ H1) (D.ex σ)
noncomputable def dIf(c:DT)(t u:DS):DS:=λD σ H=>c σ H (λb H1=>if b=true then t D σ H1 else u D σ H1) (D.ex σ)
noncomputable def Ao(i:Nat)(e:DE):DS:=λD σ H=>e σ H (λv H1=>D.nx (σ.set i (some v)) H1) (D.ex σ)
abbrev DG:=TG
noncomputable def Ef(e:DE)(g:DG):DS:=λD σ H=>e σ H (λv H1=>g v σ H1 D.nx) (D.ex σ)
abbrev DI:=St->Hp->(It->Hp->Prop)->EK->Prop
noncomputable def Px(c:DT)(tb:DS):DS:=λD σ H=>∃W:Nat->St->Hp->Prop,(∃m,W m σ H)/\∀m σ H,W m σ H ->
 c σ H (λb H1=>if b=true then ∃N,(∀ σ' H',N σ' H' -> ∃m',m'<m/\W m' σ' H')/\tb (D.lp N) σ H1 else D.nx σ H1) (D.ex σ)
def Um(J:It)(g:DG)(tb:DS)(D:Outs)(σ:St)(H:Hp):Prop:=∃W:Nat->Nat->St->Hp->Prop,(∃m,W 0 m σ H)/\∀i m σ H,W i m σ H ->
 (J.stop i H/\D.nx σ H)\/(J.go i H/\∃N,(∀ σ' H',N σ' H' -> ∃m',m'<m/\W (i+1) m' σ' H')/\∀x H',J.yld i H x H'->g x σ H' (λσ2 H2=>tb (D.lp N) σ2 H2))
def Thaw(H0 H:Hp)(P:Hp->Prop):Prop:=P H \/ ∃p o kvs,H0 p=some (.dK kvs)/\H p=some (.frz o (.dK kvs))/\P (upd H p (.dK kvs))
def Outs.thw(D:Outs)(H:Hp):Outs:={D with nx:=λσ' H'=>Thaw H H' (D.nx σ')}
noncomputable def Ca(wi:DI)(g:DG)(tb:DS):DS:=λD σ H=>wi σ H (λJ H1=>Um J g tb (D.thw H) σ H1) (D.ex σ)
def Ez(J:It)(g:DG)(tc:DT)(te:DE)(D:Addr)(R:Hp->Prop)(σ:St)(H:Hp)(E:EK):Prop:=
 ∃W:Nat->Nat->St->Hp->Prop,(∃m,W 0 m σ H)/\∀i m σ' H',W i m σ' H' ->
  (J.stop i H'/\R H')\/(J.go i H'/\∃N:St->Hp->Prop,(∀ σ2 H2,N σ2 H2 -> ∃m',m'<m/\W (i+1) m' σ2 H2)/\∀x H2,J.yld i H' x H2->g x σ' H2 (λσ3 H3=>tc σ3 H3 (λb H4=>if b=true then
    te σ3 H4 (λv H5=>∃ys,H5 D=some (.lst ys)/\ys.length<sizeLine/\N σ3 (upd H5 D (.lst (ys++[v])))) E
   else N σ3 H4) E))
noncomputable def Bg(srcs:List (Option Nat))(wi:DI)(g:DG)(tc:DT)(te:DE):DE:=λσ H Q E=>wi σ H (λJ H1=>∀D,H1 D=none->Ez J g tc te D (λH'=>Q (.ref D) H') (Ux srcs σ) (upd H1 D (.lst [])) E) E
noncomputable def Cg:DT:=λ_ H Q _=>Q true H
noncomputable def gdN(i:Nat):DG:=λv σ H Q=>Q (σ.set i (some v)) H
open PySem.W
section
variable {prog:aW}{w:bC}{A:bF}{E:Value->aw->Prop}{s:aw}{K:ac}{x C:Addr}{ox:Obj}{od:Option Obj}{name:Str}{expr:Bool}{Q:Value->aw->Prop}
def R3(self:Value):lN (.builtin "BaseException.__getattribute__") self=pure (.builtin "BaseException.__getattribute__", [self]):=by
 have hop:withoutEnding? "BaseException.__getattribute__" "#opaque"=none:=by decide +kernel
 have hdat:withoutEnding? "BaseException.__getattribute__" "#data"=none:=by decide +kernel
 have hk:builtinKind "BaseException.__getattribute__"=some .slot:=by decide +kernel
 simp only[lN,typeOf,builtinType,hop,hdat,hk];rfl
def a08(X:K.In s.heap)(I:gG s.heap x ox C od)(hga:aZ K (.ref C) "__getattribute__"=some (some (.builtin "BaseException.__getattribute__")))(hgt:aZ K (.ref C) "__getattr__"=some none)(hB:gn K C (.type "BaseException")=some true)(hf:PySem.W.findObj K C od name=some (.value v))(hh:gJ v=true)(h:Q v {s with toks:=s.toks+1}) :
  aR (model prog w) A (l7 (.ref x) name expr) Q E s:=by
 obtain⟨hp,g,d,t,os⟩:=s
 have L0:=I.type (M:=model prog w)
 have L1:=eJ (M:=model prog w) X hga
 have L2:=eJ (M:=model prog w) X hgt
 have L3:=lS (M:=model prog w) X I hf
 have L4:=lJ (M:=model prog w) X hB
 refine af (wpAny_mkText (bD (af (L0.at (af (L1.at ?_))))))
 have hx2:(dE "BaseException.__getattribute__" == dE "object.__getattribute__")=false:=by decide +kernel
 have hx1:(mM (aX C)&&dE "BaseException.__getattribute__" == dE "object.__getattribute__")=false:=by rw[hx2];rfl
 dsimp only
 rw[hx1,if_neg aC]
 refine af (show aR _ _ (jw (.ref C) "__getattr__") _ _ _ from L2.at ?_)
 refine af (gv (bD ?_))
 have hx0:(expr&&mM (dE "BaseException.__getattribute__"))=false:=by cases expr <;> rfl
 unfold callGetattribute
 rw[hx0,if_neg aC]
 unfold boundAndCalled
 rw[R3]
 refine af (am ?_)
 refine dS (eK (by decide +kernel) F.entry_bexc_ga (check_slot (i := "BaseException.__getattribute__") (owner := "BaseException") (n := "__getattribute__") (by decide +kernel) (by decide +kernel) (L0.andThen L4) (F.args_bexc_ga _ _) ?_))
 unfold a_.«object.__getattribute__»
 refine af (am (af (am (af (L0.at (af (L3.at ?_)))))))
 refine am ?_
 show aR _ _ (handedOut v) _ _ _
 rw[kU hh]
 exact am h
end
open Builtin Builtin.ObjectAttr
def Bc:List Value->Bool
 |[.type a,.type b,.type c,.type d]=>a == "ValueError" && b == "Exception" && c == "BaseException" && d == "object"
 |.ref _::r=>Bc r
 |_=>false
def valTail:List Value:=[.type "ValueError", .type "Exception", .type "BaseException", .type "object"]
def V5(self:Value):refuseLoop self "__setattr__" valTail=pure ():=by kernel_rfl
theorem Dy:∀{l},Bc l=true -> ∃rs:List Addr,l=rs.map aX++valTail
 | [.type a,.type b,.type c,.type d],e=>by
  have e:(a == "ValueError" && b == "Exception" && c == "BaseException" && d == "object")=true:=e
  simp only[a9,beq_iff_eq] at e
  obtain⟨⟨⟨rfl,rfl⟩,rfl⟩,rfl⟩:=e
  exact⟨[],rfl⟩
 | .ref a::r,e=>by
  have e:Bc r=true:=by cases r <;> first|exact e|cases e
  obtain⟨rs,h⟩:=Dy e
  exact⟨a::rs,by rw[h];rfl⟩
def V4(self:Value)(rs:List Addr):refuseLoop self "__setattr__" (rs.map aX++valTail)=pure ():=by
 induction rs with
 |nil=>exact V5 self
 |cons a r ih=>rw[aT,gI,refuseLoop_ref];exact ih
def Uf(rs:List Addr)(h:valTail.contains (.type T)=true):(rs.map aX++valTail).contains (.type T)=true:=by
 induction rs with
 |nil=>exact h
 |cons a r ih=>rw[aT,gI,bQ,ih,fQ]
section
variable {prog:aW}{w:bC}{A:bF}{s:aw}{K:ac}{x C:Addr}{R:mV->aw->Prop}
def Oz(X:K.In s.heap)(I:gG s.heap x ox C od)(hc:mI K C=some cd)(hp:Bc cd.mro=true)(ht:findIn K (.ref C) name=some none)(h:aR (model prog w) A.in1 (storeInOwnDict (.ref x) (.ref C) (.str name tk) name v false)
   (λfin s'=>match fin with | .done f=>R (.ok f) s' | .again c'=>c'.quiet=true/\gN (model prog w) A c' R s') (λe s'=>R (.error e) s') s) :
  gN (model prog w) A (.call (.builtin "object.__setattr__") ⟨[.ref x,.str name tk,v],[]⟩) R s:=by
 have SF:=PySem.F.store_object
 obtain⟨rs,hm⟩:=Dy hp
 have ne:cd.mro.isEmpty=false:=by rw[hm];cases rs <;> rfl
 have sub:Looks (model prog w) s.heap (isInstance (.ref x) (.type "object")) true:=I.type.andThen (looks_mroIn X (by unfold mroIn;rw[hc,cL,if_neg (by rw[ne];decide),hm,Uf rs (by decide +kernel)]))
 refine eK SF.slot.plain SF.entry (@check_slot (model prog w) _ _ s "object.__setattr__" "object" "__setattr__" (.ref x) [.str name tk,v] [] _ SF.kind SF.split sub (SF.args (.ref x) (.str name tk) v) ?_)
 have hmr:Looks (model prog w) s.heap (mroOf (.ref C)) cd.mro:=(looks_clsIn X hc).andThen .now
 rw[osa_eq,refuse_eq]
 refine af (af (I.type.here (af (hmr.here ?_))))
 rw[hm,V4]
 exact am (af (I.type.here (af ((looks_findIn X ht).here (af (am h))))))
end
section
variable {prog:aW}{w:bC}{A:bF}{E:Value->aw->Prop}{s:aw}{K:ac}{x dx C f:Addr}{mA:Str->Option Value}{name:Str}{v:Value}{vs:Array Value}
def a70(X:K.In s.heap)(hx:s.heap.get? x=some (As C (some dx) vs))(hn:s.heap.Ns1 dx mA)(hne:dx≠x)(hs:findIn K (.ref C) "__setattr__"=some (some (.builtin "object.__setattr__")))(hc:mI K C=some cd)(hp:Bc cd.mro=true)(hd':cd.hasDict=true)(ht:findIn K (.ref C) name=some none)(hw:fu mA ns)(hsz:ns.length<=sizeLine)(h:∀h',h'.get? x=some (As C (some dx) vs)->h'.Ns1 dx (λy=>if y=name then some v else mA y)->bO dx s.heap h'->Q () {s with heap:=h',toks:=s.toks+2}) :
  aR (model prog w) A (mP (.ref x) name v) Q E s:=by
 obtain⟨od,ho,hl⟩:=Jj hn
 have J:gG s.heap x (As C (some dx) vs) C (some od):=⟨hx,rfl,rfl,ho⟩
 refine set_plain X J hs (Oz X J hc hp ht ?_)
 refine af (am (af (af (jg hx (af (Looks.here (looks_clsIn X hc) ?_))))))
 rw[hd']
 refine am (af (am (af ?_)))
 refine mw hn λh' hn2 hs2=>?_
 obtain⟨oD,esD,epD,hoD,hdD,hcD⟩:=hn2.count (PySem.Within.cons name v hw)
 exact af (jW hoD (by rw[hdD];exact jS (aU hcD (by rw[aK];omega))) (am (h _ ((hs2.2 _ (cg hne)).trans hx) hn2 hs2)))
def ar9(X:K.In s.heap)(hx:s.heap.get? x=some (As C none vs))(hs:findIn K (.ref C) "__setattr__"=some (some (.builtin "object.__setattr__")))(hc:mI K C=some cd)(hp:Bc cd.mro=true)(hd':cd.hasDict=true)(ht:findIn K (.ref C) name=some none)(h:∀h',h'.get? x=some (As C (some s.heap.objs.size) vs)->h'.Ns1 s.heap.objs.size (λy=>if y=name then some v else none)->(∀b o,b≠x->s.heap.get? b=some o->h'.get? b=some o)->Q () {s with heap:=h',toks:=s.toks+2}) :
  aR (model prog w) A (mP (.ref x) name v) Q E s:=by
 have J:gG s.heap x (As C none vs) C none:=⟨hx,rfl,rfl,aP⟩
 refine set_plain X J hs (Oz X J hc hp ht ?_)
 refine af (am (af (af (jg hx (af (Looks.here (looks_clsIn X hc) ?_))))))
 rw[hd',if_neg (by decide)]
 refine af (wpAny_alloc (af (wpAny_update (ah _ hx) ?_)))
 refine am (af (am (af ?_)))
 have e1:(s.heap.push emptyDict).get? s.heap.objs.size=some emptyDict:=aE s.heap rfl
 have hne:=aN (aG hx)
 have e2:((s.heap.push emptyDict).update x λo=>{o with dict:=some s.heap.objs.size}).get? s.heap.objs.size=some emptyDict:=by rw[bZ _ _ hne];exact e1
 have e3:((s.heap.push emptyDict).update x λo=>{o with dict:=some s.heap.objs.size}).get? x=some (As C (some s.heap.objs.size) vs):=dX _ (ah _ hx) rfl
 have n0:((s.heap.push emptyDict).update x λo=>{o with dict:=some s.heap.objs.size}).Ns s.heap.objs.size (λ_=>none):=⟨emptyDict,#[],_,e2,rfl,(λe he=>absurd he (by simp)),λ_=>rfl⟩
 refine mw (Heap.Ns1.of_empty n0) λh' hn2 hs2=>?_
 obtain⟨oD,esD,epD,hoD,hdD,hcD⟩:=hn2.count (ns:=[name]) (λy hy=>by
  by_cases e:y=name
  .rw[e];simp
  .exact absurd (by rw[if_neg e]) hy)
 refine af (jW hoD (by rw[hdD];exact jS (aU hcD (by show 1<=sizeLine+1;decide))) ?_)
 refine am (h _ ((hs2.2 _ hne).trans e3) hn2 λb o hb e=>?_)
 have hbs:=aN (aG e)
 refine(hs2.2 b hbs).trans ?_
 rw[bZ _ _ (cg hb)]
 exact ah _ e
end
end L2
namespace L2
open PySem PySem.Spec PySem.W Builtin Builtin.ObjectAttr
open Sem (wp)
structure ECls (K:ac) (C:Addr):Prop where
 obj:∃nm q N bs bm hdct sn sub ab col dd k0 k1 k2 k3 k5,K.lookup C=some (f_ nm q C N bs bm hdct sn sub ab col dd k0 k1 k2 k3 k5 "ValueError.__new__")/\Bc bm=true/\hdct=true
 sa:findIn K (.ref C) "__setattr__"=some (some (.builtin "object.__setattr__"))
 ga:findIn K (.ref C) "__getattribute__"=some (some (.builtin "BaseException.__getattribute__"))
 gt:findIn K (.ref C) "__getattr__"=some none
 ca:findIn K (.ref C) "__class__"=some (some (.builtin "object.__class__"))
 hn:specialIn K (.builtin "object.__class__") "__get__"=some (some (.builtin "getset_descriptor.__get__"))
 htk:takesIn K (.builtin "object.__class__")=some true
def Cb(h:Bc bm=true)(hb:valTail.contains (.type T)=b):bm.contains (.type T)=b:=by
 obtain⟨rs,rfl⟩:=Dy h
 induction rs with
 |nil=>exact hb
 |cons a r ih=>
  have h':Bc (r.map aX++valTail)=true:=by
   cases r <;> exact h
  rw[aT,gI,bQ,ih h']
  rfl
section
variable {M:Model}{A:bF}{E:Value->aw->Prop}{h:Heap}{g:Array lO}{d:Drawn}{t:Nat}{os:OsState}
variable {nm q:Str}{C N:Addr}{bs bm:List Value}{hdct:Bool}{sn:List Str}{sub:List Value}{ab:Bool}{col:Option Bool}{dd:Option Addr}{k0 k1 k2 k3 k5:Option Value}
def Eb(T:Bc bm=true){rest:List Value}{Q:Unit->aw->Prop}(hC:h.get? C=some (f_ nm q C N bs bm hdct sn sub ab col dd k0 k1 k2 k3 k5 "ValueError.__new__"))(hq:Q () ⟨h,g,d,t,os⟩):aR M A (iC "ValueError.__new__" ⟨.ref C::rest,[]⟩) Q E ⟨h,g,d,t,os⟩:=by
 have F:=dQ
 have hcont:(aX C::bm).contains (.type "ValueError")=true:=by rw[bQ,Cb T (show valTail.contains (.type "ValueError")=true by decide +kernel),fQ]
 have hstar:=F.noStar
 simp only[iC,F.newKind,F.newSplit,F.newRow]
 repeat (first|refine bL hC ?_|(refine cO hC ?_;rw[hcont])|refine wpAny_staticBase_exc hC ?_|refine jX hC ?_|simp only[bne_self_eq_false,dv,if_false] | wp_step)
 exact hq
end
section
variable {prog:aW}{w:bC}{A:bF}{R:mV->aw->Prop}{h:Heap}{g:Array lO}{d:Drawn}{t:Nat}{os:OsState}
variable {nm q:Str}{C N:Addr}{bs bm:List Value}{hdct:Bool}{sn:List Str}{sub:List Value}{ab:Bool}{col:Option Bool}{dd:Option Addr}{k0 k1 k2 k3 k5:Option Value}
def D9(T:Bc bm=true){rest:List Value}(hC:h.get? C=some (f_ nm q C N bs bm hdct sn sub ab col dd k0 k1 k2 k3 k5 "ValueError.__new__"))(hq:R (.ok (.ret (.ref (h.objs.size+1)))) ⟨(h.push {cls:=.type "tuple", data:=.seq rest.toArray}).push
   {cls:=.ref C,data:=.fields #[.ref h.objs.size,.none,.none,.none,.bool false,.none]},g,d,t,os⟩)(hrest:rest.length<=sizeLine) :
  gN (model prog w) A (.builtin "ValueError.__new__" ⟨.ref C::rest,[]⟩) R ⟨h,g,d,t,os⟩:=by
 have F:=dQ
 have hends:=F.ends
 have hcB:(aX C::bm).contains (.type "ValueError")=true:=by rw[bQ,Cb T (show valTail.contains (.type "ValueError")=true by decide +kernel),fQ]
 have hcA:(aX C::bm).contains (.type "AttributeError")=false:=by rw[bQ,Cb T (show valTail.contains (.type "AttributeError")=false by decide +kernel)];rfl
 have hcN:(aX C::bm).contains (.type "NameError")=false:=by rw[bQ,Cb T (show valTail.contains (.type "NameError")=false by decide +kernel)];rfl
 refine codeAny_builtinAt F.entry ?_
 refine wpAt_bind ?_
 refine wpAt_bind (wpAt_stack λp below=>wpAt_of_wpAny ?_)
 wp_walk
 refine wpAt_of_wpAny ?_
 rw[F.owner]
 repeat (first|with_reducible refine wpAny_madeHere_exc F.canon hC ?_|with_reducible refine bL hC ?_|(with_reducible refine cO hC ?_;first|rw[hcB] | rw[hcA] | rw[hcN])|wp_step)
 rw[cR]
 exact hq
end
end L2
namespace L2
open PySem PySem.Spec PySem.W Builtin Builtin.ObjectAttr
open Sem (wp)
section
variable {prog:aW}{w:bC}{A:bF}{E:Value->aw->Prop}{h:Heap}{g:Array lO}{d:Drawn}{t:Nat}{os:OsState}
variable {nm q:Str}{C N f:Addr}{bs bm:List Value}{hdct:Bool}{sn:List Str}{sub:List Value}{ab:Bool}{col:Option Bool}{dd:Option Addr}{k0 k1 k2 k3 k5:Option Value}
abbrev Cv(h:Heap)(C:Addr)(rest:List Value):Heap:=(h.push {cls:=.type "tuple", data:=.seq rest.toArray}).push {cls:=.ref C,data:=.fields #[.ref h.objs.size,.none,.none,.none,.bool false,.none]}
def Ix(T:Bc bm=true){rest:List Value}{Q:Fin->aw->Prop}(hC:h.get? C=some (f_ nm q C N bs bm hdct sn sub ab col dd k0 k1 k2 k3 k5 "ValueError.__new__"))(hi:Looks (model prog w) h (jw (.ref C) "__init__") (some (.ref f)))(hb:∀self,Looks (model prog w) h (lN (.ref f) self) (.ref f,[self]))(hq:aR (model prog w) A (call (.ref f) (.ref (h.objs.size+1)::rest)) (λv s'=>v=.none/\Q (.done (.ret (.ref (h.objs.size+1)))) s') E ⟨Cv h C rest,g,d,t,os⟩)(hrest:rest.length<=sizeLine) :
  aR (model prog w) A (a_.«type.__call__» ⟨.ref C::rest,[]⟩) Q E ⟨h,g,d,t,os⟩:=by
 have F:=dQ
 repeat (first|with_reducible refine bL hC ?_|with_reducible refine jX hC ?_|wp_step)
 refine jc (dw _ F.quiet) (Eb T hC ?_)
 refine D9 T hC ?_ hrest
 have kp:∀b o,h.get? b=some o->(Cv h C rest).get? b=some o:=λb o e=>ah _ (ah _ e)
 have hC₁:=kp _ _ hC
 have hget:(Cv h C rest).get? (h.objs.size+1)=some {cls:=.ref C,data:=.fields #[.ref h.objs.size,.none,.none,.none,.bool false,.none]}:=by heap_get
 have hcC:(aX C::bm).contains (.ref C)=true:=by simp
 repeat (first|with_reducible refine bL hget ?_|(with_reducible refine cO hC₁ ?_;rw[hcC])|wp_step)
 refine(hi.keeps kp).at ?_
 refine bD (af (((hb _).keeps kp).at ?_))
 refine af (bJ hq (λv s' z=>?_) λ_ _ z=>z)
 obtain⟨rfl,z⟩:=z
 exact am (am z)
def al2(T:Bc bm=true){rest:List Value}{R:mV->aw->Prop}(hC:h.get? C=some (f_ nm q C N bs bm hdct sn sub ab col dd k0 k1 k2 k3 k5 "ValueError.__new__"))(hi:Looks (model prog w) h (jw (.ref C) "__init__") (some (.ref f)))(hb:∀self,Looks (model prog w) h (lN (.ref f) self) (.ref f,[self]))(hq:gN (model prog w) (A.under (.builtin "type.__call__" ⟨.ref C::rest,[]⟩)) (.call (.ref f) ⟨.ref (h.objs.size+1)::rest,[]⟩) (InitBack (h.objs.size+1) R) ⟨Cv h C rest,g,d,t,os⟩)(hrest:rest.length<=sizeLine) :
  gN (model prog w) A (.call (.ref C) ⟨rest,[]⟩) R ⟨h,g,d,t,os⟩:=by
 have f1:=tc_lookup
 have f2:=tc_bind (.ref C)
 have hT:(⟨h,g,d,t,os⟩:aw).TypeIs (.ref C) "type" := ⟨_,hC,rfl⟩
 refine kz ?_
 repeat (any_goals (first|assumption|with_reducible refine bL hC ?_|wp_step))
 refine⟨rfl,?_⟩
 refine jL (dw _ (by decide +kernel)) entry_typeCall (je hC (Ix T hC hi hb (dS (d8 hq λr s' z=>?_)) hrest))
 rcases r with e|(v|_|_|_) <;> first|exact z|exact z.elim
def G8(T:Bc bm=true){rest:List Value}{Q:Fin->aw->Prop}(hC:h.get? C=some (f_ nm q C N bs bm hdct sn sub ab col dd k0 k1 k2 k3 k5 "ValueError.__new__"))(hi:Looks (model prog w) h (jw (.ref C) "__init__") (some (.builtin "ValueError.__init__")))(hq:∀h' e,Heap.MadeExcOf h h' e (.ref C) rest->e=h.objs.size+1->Q (.done (.ret (.ref e))) ⟨h',g,d,t,os⟩)(hrest:rest.length<=sizeLine) :
  aR (model prog w) A (a_.«type.__call__» ⟨.ref C::rest,[]⟩) Q E ⟨h,g,d,t,os⟩:=by
 have F:=dQ
 repeat (first|with_reducible refine bL hC ?_|with_reducible refine jX hC ?_|wp_step)
 refine jc (dw _ F.quiet) (Eb T hC ?_)
 refine D9 T hC ?_ hrest
 have kp:∀b o,h.get? b=some o->(Cv h C rest).get? b=some o:=λb o e=>ah _ (ah _ e)
 have hC₁:=kp _ _ hC
 have hget:(Cv h C rest).get? (h.objs.size+1)=some {cls:=.ref C,data:=.fields #[.ref h.objs.size,.none,.none,.none,.bool false,.none]}:=by heap_get
 have hcC:(aX C::bm).contains (.ref C)=true:=by simp
 have hcB:(aX C::bm).contains (.type "ValueError")=true:=by rw[bQ,Cb T (show valTail.contains (.type "ValueError")=true by decide +kernel),fQ]
 repeat (first|with_reducible refine bL hget ?_|(with_reducible refine cO hC₁ ?_;rw[hcC])|wp_step)
 refine(hi.keeps kp).at ?_
 refine bD (af (mS (F.init.bind _) ?_))
 have chk:∀{Q'} {E'} {A'},Q' () ⟨Cv h C rest,g,d,t,os⟩->aR (model prog w) A' (iC "ValueError.__init__" ⟨.ref (h.objs.size+1)::rest,[]⟩) Q' E' ⟨Cv h C rest,g,d,t,os⟩:=λ{Q' E' A'} hq'=>by
  have hshort:=F.noStar
  simp only[iC,F.initKind,F.initSplit,F.initRow]
  repeat (first|with_reducible refine bL hget ?_|with_reducible refine bL hC₁ ?_|(with_reducible refine cO hC₁ ?_;rw[hcB])|wp_step)
  refine wpAny_onRaise ?_
  rw[show ∀a b n,Bind.check ⟨.positional,"*","ValueError", .self,[⟨"args", .varPos,false⟩]⟩ a b n (kJ (λx=>x.fst) ({pos:=aX (h.objs.size+1)::rest}:Args).kw)=pure () from
   λa b n=>check_star_args _ _ _ _ _ _]
  exact am hq'
 refine af (dS (eK F.init.plain F.initEntry (chk ?_)))
 wp_walk
 refine hq _ _ ⟨λb o hb=>?_,iE (cM _),h.objs.size+2,?_,iE (by omega),?_⟩ rfl
 .rw[bZ _ _ (fj (dG (aG hb)))]
  exact ah _ (ah _ (ah _ hb))
 .rw[dX _ (ah _ hget) rfl]
  simp only[cR]
  rfl
 .rw[bZ _ _ (show h.objs.size+1≠h.objs.size+2 by omega)]
  exact Heap.get?_push_at (by simp only[cR]) rfl
def Zu(T:Bc bm=true){rest:List Value}{R:mV->aw->Prop}(hC:h.get? C=some (f_ nm q C N bs bm hdct sn sub ab col dd k0 k1 k2 k3 k5 "ValueError.__new__"))(hi:Looks (model prog w) h (jw (.ref C) "__init__") (some (.builtin "ValueError.__init__")))(hq:∀h' e,Heap.MadeExcOf h h' e (.ref C) rest->e=h.objs.size+1->R (.ok (.ret (.ref e))) ⟨h',g,d,t,os⟩)(hrest:rest.length<=sizeLine) :
  gN (model prog w) A (.call (.ref C) ⟨rest,[]⟩) R ⟨h,g,d,t,os⟩:=by
 have f1:=tc_lookup
 have f2:=tc_bind (.ref C)
 have hT:(⟨h,g,d,t,os⟩:aw).TypeIs (.ref C) "type" := ⟨_,hC,rfl⟩
 refine kz ?_
 repeat (any_goals (first|assumption|with_reducible refine bL hC ?_|wp_step))
 exact⟨rfl,(jL (dw _ (by decide +kernel)) entry_typeCall (je hC (G8 T hC hi hq hrest)))⟩
end
end L2
namespace L2
open PySem PySem.Spec PySem.W PyProof.Rows
def ECls.cls{K:ac}{C:Addr}(c:ECls K C):∃cd,mI K C=some cd/\Bc cd.mro=true/\cd.hasDict=true:=by
 obtain⟨nm,q,N,bs,bm,hdct,sn,sub,ab,col,dd,k0,k1,k2,k3,k5,hl,ht,hd⟩:=c.obj
 refine⟨_,by unfold mI;rw[hl],?_,hd⟩
 obtain⟨rs,e⟩:=Dy ht
 rw[e]
 clear e
 have:∀l,Bc (kJ aX l++valTail)=true:=λl=>by
  induction l with
  |nil=>decide +kernel
  |cons a r ih=>cases r <;> exact ih
 exact this _
def ECls.sub{K:ac}{C:Addr}(c:ECls K C){T:String}(h:valTail.contains (.type T)=true):mroIn K C (.type T)=some true:=by
 obtain⟨cd,h1,h2,_⟩:=c.cls
 obtain⟨rs,e⟩:=Dy h2
 unfold mroIn
 rw[h1,cL,e,Uf rs h,if_neg]
 cases rs <;> exact aC
section
variable {prog:aW}{w:bC}{A:bF}{E:Value->aw->Prop}{s:aw}{K:ac}{x C:Addr}{ox:Obj}{od:Option Obj}{name:Str}
def aj6{g a v:Value}{Q:Option Value->aw->Prop}(X:K.In s.heap)(I:gG s.heap x ox C od)(hga:aZ K (.ref C) "__getattribute__"=some (some (.builtin "BaseException.__getattribute__")))(hgt:aZ K (.ref C) "__getattr__"=some none)(hB:gn K C (.type "BaseException")=some true)(hf:PySem.W.findObj K C od name=some (.bind g a))(hh:gJ v=true)(h:∀{A'} {R},R (.ok (.ret v)) {s with toks:=s.toks+1}->gN (model prog w) A' (.call g ⟨[a,.ref x,.ref C],[]⟩) R {s with toks:=s.toks+1})(hq:Q (some v) {s with toks:=s.toks+1}) :
  aR (model prog w) A (getAttr? (.ref x) name) Q E s:=by
 obtain⟨hp,gg,d,t,os⟩:=s
 have L0:=I.type (M:=model prog w)
 have L1:=eJ (M:=model prog w) X hga
 have L2:=eJ (M:=model prog w) X hgt
 have L3:=lS (M:=model prog w) X I hf
 have L4:=lJ (M:=model prog w) X hB
 refine af (wpAny_mkText (af (gv (bD (af (L0.at (af (L1.at ?_))))))))
 have hx2:(dE "BaseException.__getattribute__" == dE "object.__getattribute__")=false:=by decide +kernel
 have hx1:(mM (aX C)&&dE "BaseException.__getattribute__" == dE "object.__getattribute__")=false:=by rw[hx2];rfl
 dsimp only
 rw[hx1,if_neg aC]
 refine af (show aR _ _ (jw (.ref C) "__getattr__") _ _ _ from L2.at ?_)
 refine af (gv (bD ?_))
 have hx0:(false&&mM (dE "BaseException.__getattribute__"))=false:=rfl
 unfold callGetattribute
 rw[hx0,if_neg aC]
 unfold boundAndCalled
 rw[R3]
 refine af (am ?_)
 refine dS (eK (by decide +kernel) F.entry_bexc_ga (check_slot (i := "BaseException.__getattribute__") (owner := "BaseException") (n := "__getattribute__") (by decide +kernel) (by decide +kernel) (L0.andThen L4) (F.args_bexc_ga _ _) ?_))
 unfold a_.«object.__getattribute__»
 refine af (am (af (am (af (L0.at (af (L3.at ?_)))))))
 refine af (bD (dS (h ?_)))
 refine am ?_
 show aR _ _ (handedOut v) _ _ _
 rw[kU hh]
 exact am (am hq)
def Ng(hc:(mI K C).isSome=true)(ha:findIn K (.ref C) name=some (some a))(hg:specialIn K a "__get__"=some (some g))(ht:takesIn K a=some true):findObj K C od name=some (.bind g a):=by
 obtain⟨cd,hc⟩:=Option.isSome_iff_exists.mp hc
 unfold findObj
 rw[hc,cL,ha,cL]
 simp[hg,ht]
def Zh{Q:Option Value->aw->Prop}(c:ECls K C)(X:K.In s.heap)(I:InstAt s.heap x ox C od)(h:Q (some (.ref C)) {s with toks:=s.toks+1}):aR (model prog w) A (getAttr? (.ref x) "__class__") Q E s:=by
 have hf:findObj K C od "__class__"=some (.bind (.builtin "getset_descriptor.__get__") (.builtin "object.__class__")):=Ng (by obtain⟨cd,hc,_⟩:=c.cls;rw[hc];rfl) c.ca c.hn c.htk
 exact aj6 X I c.ga c.gt (c.sub (by decide +kernel)) hf rfl (λq=>class_get X I (c.sub (by decide +kernel)) q) h
end
def ak8{K:ac}{x D:Addr}(c:ECls K D):KitX K (.ref x) (.ref D) (λh=>∃ox od,InstAt h x ox D od) where
 ty:=λ_ _ _ ⟨_,_,I⟩=>I.type
 it:=λ_ _ X _=>by
  obtain⟨cdD,hcD,_⟩:=c.cls
  unfold mI at hcD
  split at hcD
  .rename_i c' d' cd' sl' ho
   intro A' Q' E' s' k q
   exact af (jg (k _ _ (X _ _ ho)) (am q))
  .cases hcD
 ne:=λh tp dd χ n sl X htp=>by
  obtain⟨cdD,hcD,_⟩:=c.cls
  refine Bool.eq_false_iff.mpr λq=>?_
  have e:=Value.ref.inj (beq_iff_eq.mp q)
  subst e
  unfold mI at hcD
  split at hcD
  .rename_i c' d' cd' sl' ho
   have z:=(X _ _ ho).symm.trans htp
   cases z
  .cases hcD
 ca:=λX ⟨_,_,I⟩ k=>Zh c X I k
def ExcAt(H:Hp)(a C:Addr)(fs:List (Str×V)):Prop:=(fs=[]/\(H a=some (Fn a C none)\/FlO H a C none)) \/ ∃dx,dx≠a/\(H a=some (Fn a C (some dx))\/FlO H a C (some dx))/\H dx=some (xdO dx fs)
inductive TyX (K:ac) (H:Hp) (x:V) (t:Value):Prop where
 |of (h:TyOf K H x t)
 |exc {a C:Addr}{fs:List (Str×V)} (ex:x=.ref a) (e:ExcAt H a C fs) (c:ECls K C) (et:t=.ref C)
 |sqT {a:Addr}{xs:List V} (ex:x=.ref a) (e:SqT K H a xs) (et:t=.type "tuple")
 |sqL {a:Addr}{xs:List V} (ex:x=.ref a) (e:SqL K H a xs) (et:t=.type "list")
section
variable {X:Cx}{ξ:List (Addr×Obj)}{σ:St}{H:Hp}{s:aw}{A:bF}{E:Value->aw->Prop}{a C:Addr}{fs:List (Str×V)}
def P3{dx:Option Addr}(I:Inv X ξ σ H s)(e:H a=some (Fn a C dx)):∃vs,s.heap.get? a=some (As C dx vs)/\vs.size=6/\vs[1]?=some .none/\vs[2]?=some .none:=(I.hok a _ e).1
def ba3{dx:Option Addr}(I:Inv X ξ σ H s)(e:H a=some (flO a C dx)):∃vs,s.heap.get? a=some (As C dx vs)/\vs.size=6/\vs[2]?=some .none:=(I.hok a _ e).1
def ai8{dx:Option Addr}(I:Inv X ξ σ H s)(e:H a=some (Fn a C dx)\/FlO H a C dx):∃vs,s.heap.get? a=some (As C dx vs)/\vs.size=6:=by
 rcases e with e|e|e
 .obtain⟨vs,h1,h2,_⟩:=P3 I e;exact⟨vs,h1,h2⟩
 .obtain⟨vs,h1,h2,_⟩:=ba3 I e;exact⟨vs,h1,h2⟩
 .exact (I.hok a _ e).1
def bd6(I:Inv X ξ σ H s)(e:H dx=some (xdO dx fs)):fs.length<=1000/\∃mA,s.heap.Ns1 dx mA/\(∀f,RelO (fs.lookup f) (mA f))/\fu mA (fs.map (·.1)):=(I.hok dx _ e).1
def ExcAt.inst(I:Inv X ξ σ H s)(e:ExcAt H a C fs):∃vs dx od,InstAt s.heap a (As C dx vs) C od/\(∀o,od=some o -> ∀name,∃v,lookIn name o=some v/\RelO (fs.lookup name) v)/\(od=none->fs=[]):=by
 rcases e with⟨rfl,e⟩|⟨dx,ne,e,ed⟩
 .obtain⟨vs,h1,_⟩:=ai8 I e
  exact⟨vs,none,none,⟨h1,rfl,rfl,aP⟩,λo z=>(nomatch z),λ_=>rfl⟩
 .obtain⟨vs,h1,_⟩:=ai8 I e
  obtain⟨_,mA,hn,hr,_⟩:=bd6 I ed
  obtain⟨od,ho,hl⟩:=Jj hn
  refine⟨vs,some dx,some od,⟨h1,rfl,rfl,ho⟩,λo z name=>?_,λz=>nomatch z⟩
  cases z
  exact⟨_,hl name,hr name⟩
def Vg(I:Inv X ξ σ H s)(rx:RelV x u)(ty:TyX X.K H x t)(e:c_ X.K t c=some b)(h:∀tk,Q (.bool b) {s with toks:=tk}) :
  aR (model X.prog X.w) A (call (.builtin "isinstance") [u,c]) Q E s:=by
 cases ty with
 |of ty=>exact Zp I rx ty e h
 |@exc a C fs ex ea cl et=>
  subst ex et
  cases(rx)
  obtain⟨vs,dx,od,J,_⟩:=ea.inst I
  exact dq (ak8 cl) I.kIn ⟨_,_,J⟩ e (λz=>nomatch z) h
 |@sqT a xs ex q et=>
  subst ex et
  cases(rx)
  obtain⟨_,_,⟨o,h1,h2,_⟩,_⟩:=I.tuple q
  exact dq PySem.W.kitx_tuple I.kIn ⟨o,h1,h2⟩ e (λz=>nomatch z) h
 |@sqL a xs ex q et=>
  subst ex et
  cases(rx)
  obtain⟨_,_,⟨o,_,h1,h2,_⟩,_⟩:=I.list q
  exact dq PySem.W.kitx_list I.kIn ⟨o,h1,h2⟩ e (λz=>nomatch z) h
def Zk{b:Bool}{f:Str}{v:V}{Q:Value->aw->Prop}(I:Inv X ξ σ H s)(e:ExcAt H a C fs)(c:ECls X.K C)(n:NoAttr X.K C f)(l:fs.lookup f=some v)(h:∀u s',Inv X ξ σ H s'->RelV v u->Q u s'):aR (model X.prog X.w) A (l7 (.ref a) f b) Q E s:=by
 obtain⟨vs,dx,od,J,hl,hn⟩:=e.inst I
 obtain⟨cd,hc,_,hd⟩:=c.cls
 cases od with
 |none=>rw[hn rfl] at l;cases l
 |some o=>
  obtain⟨u?,h1,h2⟩:=hl o rfl f
  rw[l] at h2
  obtain⟨u,hu,ru⟩:=RelO.some_of h2
  subst hu
  refine a08 I.kIn J c.ga c.gt (c.sub (by decide +kernel)) (lI (by unfold hasDictIn;rw[hc];exact hd) n rfl h1) (Op ru) (h u _ (I.tok _) ru)
def bv5(H:Hp)(a C:Addr)(f:Str)(y:V)(N:Hp->Prop):Prop:=
 (H a=some (Fn a C none)/\∀dx,H dx=none->dx≠a->N (upd (upd H dx (xdO dx [(f,y)])) a (Fn a C (some dx)))) \/
 ∃dx fs,dx≠a/\H a=some (Fn a C (some dx))/\H dx=some (xdO dx fs)/\fs.length<1000/\N (upd H dx (xdO dx (E6 f y fs)))
def P2(h1:h.get? a=some (As C dx vs))(h2:vs.size=6)(h3:vs[1]?=some .none)(h4:vs[2]?=some .none):ObjOk P w H h a (Fn a C dx):=
 ⟨⟨vs,h1,h2,h3,h4⟩,⟨_,h1⟩,λ_ _ ⟨vs',q1,q2⟩ k=>⟨vs',k _ q1,q2⟩⟩
def aj0(h1:h.get? a=some (As C dx vs))(h2:vs.size=6)(h4:vs[2]?=some .none):ObjOk P w H h a (flO a C dx):=
 ⟨⟨vs,h1,h2,h4⟩,⟨_,h1⟩,λ_ _ ⟨vs',q1,q2⟩ k=>⟨vs',k _ q1,q2⟩⟩
def bh0(h1:h.get? a=some (As C dx vs))(h2:vs.size=6):ObjOk P w H h a (fcO a C dx):=
 ⟨⟨vs,h1,h2⟩,⟨_,h1⟩,λ_ _ ⟨vs',q1,q2⟩ k=>⟨vs',k _ q1,q2⟩⟩
def aw5(z:fs.length<=1000)(h1:h.Ns1 dx mA)(h2:∀f,RelO (fs.lookup f) (mA f))(h3:fu mA (fs.map (·.1))):ObjOk P w H h dx (xdO dx fs):=
 ⟨⟨z,mA,h1,h2,h3⟩,(let⟨o,_,_,e,_⟩:=h1;⟨o,e⟩),λ_ _ ⟨z',mB,q1,q2,q3⟩ k=>⟨z',mB,q1.at k,q2,q3⟩⟩
def ab3(I:Inv X ξ σ H s)(c:ECls X.K C)(n:NoAttr X.K C f)(ry:RelV y u)(h0:bv5 H a C f y N)(h:∀H' s',Inv X ξ σ H' s'->N H'->Q () s'):aR (model X.prog X.w) A (mP (.ref a) f u) Q E s:=by
 obtain⟨cd,hc,hp,hd⟩:=c.cls
 rcases h0 with⟨e,hN⟩|⟨dx,fs,ne,e,ed,hz,hN⟩
 .obtain⟨vs,h1,h2,h3,h4⟩:=P3 I e
  refine ar9 I.kIn h1 c.sa hc hp hd n λh' q1 q2 q3=>?_
  have fr:=I.hok.fresh (ag _)
  have ane:s.heap.objs.size≠a:=λz=>by rw[z,e] at fr;cases fr
  refine h _ _ ?_ (hN _ fr ane)
  obtain⟨o,es,ep,eo,hrest⟩:=id q2
  have eo1:=aE s.heap (Heap.get?_some_iff.mp eo).2
  have I1:=I.laid (o:=xdO s.heap.objs.size [(f,y)]) (λb u e=>ah _ e) (ag _)
   (aw5 (by simp) (q2.at λo' e'=>by rw[eo] at e';cases e';exact eo1) (λg=>by
    by_cases q:g=f
    .rw[if_pos q,q];simp only[fV,beq_self_eq_true];exact ry
    .rw[if_neg q];simp only[fV,beq_eq_false_iff_ne.mpr q];exact aP) (λg hg=>by
    by_cases q:g=f
    .rw[q];simp
    .exact absurd (by show(if g=f then some u else none)=none;rw[if_neg q]) hg))
  exact I1.write (by rw[Ad (cg ane),e];exact aP) (.inl rfl) (λb u hb eb=>by
   by_cases hs:b=s.heap.objs.size
   .rw[hs] at eb ⊢
    rw[eo1] at eb
    cases eb
    exact eo
   .refine q3 b u hb ?_
    rcases Heap.get?_push_cases eb with z|z
    .exact absurd z.1 hs
    .exact z) ⟨_,q1⟩ (P2 q1 h2 h3 h4)
 .obtain⟨vs,h1,h2,h3⟩:=P3 I e
  obtain⟨z,mA,hn,hr,wi⟩:=bd6 I ed
  refine a70 I.kIn h1 hn ne c.sa hc hp hd n wi (by rw[ae,bN];omega) λh' q1 q2 q3=>?_
  refine h _ _ ?_ hN
  refine I.write (by rw[ed];exact aP) (.inl rfl) (λb q hb z=>(q3.2 b hb).trans z) (let⟨o,_,_,e',_⟩:=q2;⟨o,e'⟩) ?_
  refine aw5 ?_ q2 (λg=>?_) (λg hg=>?_)
  .have:=Fs f y fs;omega
  .rw[Ft]
   by_cases q:g=f
   .rw[if_pos q,if_pos q];exact ry
   .rw[if_neg q,if_neg q];exact hr g
  .by_cases q:g=f
   .rw[q];exact(El f y fs).1
   .refine (El f y fs).2 g (wi g λz=>hg ?_)
    rw[if_neg q];exact z
def Inv.madeX(I:Inv X ξ σ H s)(C:Addr)(rest:List Value):Inv X ξ σ (upd H (s.heap.objs.size+1) (Fn (s.heap.objs.size+1) C none)) {s with heap:=Cv s.heap C rest}:=by
 have hget:(Cv s.heap C rest).get? (s.heap.objs.size+1)=some (As C none #[.ref s.heap.objs.size,.none,.none,.none,.bool false,.none]):=by heap_get
 exact I.laid (λb u e=>ah _ (ah _ e)) (cM _) (P2 hget rfl rfl rfl)
variable {CX:CXT}{k:Nat}{f:Addr}{fd:bh}{ps:List Str}{sp:Sp}{dvs:List V}{ds us:List Value}{vs:List V}{Q:VK}
def V7(c:ECls X.K C)(hi:findIn X.K (.ref C) "__init__"=some (some (.builtin "ValueError.__init__")))(I:Inv X ξ σ H s)(r:Vals vs us)(hl:vs.length<=1000)(h:∀a,H a=none->Q (.ref a) (upd H a (Fn a C none))) :
  aR (model X.prog X.w) X.A (call (.ref C) us) (EP X ξ σ Q) X.xe s:=by
 obtain⟨nm,q,N,bs,bm,hdct,sn,sub,ab,col,dd,k0,k1,k2,k3,k5,hC,ht,_⟩:=c.obj
 obtain⟨hh,g,d,t,os⟩:=s
 refine dS (Zu ht (I.kIn _ _ hC) (looks_findIn I.kIn hi) (λh' e M ee=>?_) (by rw[<- r.length,bN];omega))
 subst ee
 obtain⟨kp,_,t0,q1,_,_⟩:=M
 exact⟨.ref (hh.objs.size+1),upd H (hh.objs.size+1) (Fn (hh.objs.size+1) C none),(I.laid (t':=t) kp (cM _) (P2 q1 rfl rfl rfl)),rfl,h _ (I.hok.fresh (cM _))⟩
def aa8(c:ECls X.K C)(hi:findIn X.K (.ref C) "__init__"=some (some (.ref f)))(hf:isFn X.K (.ref f)=true)(F:FnOk X.prog X.w X.K X.mg X.base CX k f fd ps sp)(hr:Room (k+1) X.A)(hb:Binds X.K fd ps ds)(hd:Vals dvs ds)(I:Inv X ξ σ H s)(r:Vals vs us)(hl:vs.length<=1000)(hx:∀e s1 s' H1,Inv X ξ σ H1 s1->CX X.stack H1 s1 EX e s'->X.xe e s')(h:∀a,H a=none->sp (.ref a::(vs++dvs)) (upd H a (Fn a C none)) (λv H2=>v=.non/\Q (.ref a) H2) EX) :
  aR (model X.prog X.w) X.A (call (.ref C) us) (EP X ξ σ Q) X.xe s:=by
 obtain⟨nm,q,N,bs,bm,hdct,sn,sub,ab,col,dd,k0,k1,k2,k3,k5,hC,ht,_⟩:=c.obj
 have hq:=h (s.heap.objs.size+1) (I.hok.fresh (cM _))
 have I2:=I.madeX C us
 have r2:Vals (V.ref (s.heap.objs.size+1)::(vs++dvs)) (aX (s.heap.objs.size+1)::(us++ds)):=.cons rfl (r.append hd)
 have hlen:(aX (s.heap.objs.size+1)::us++ds).length=ps.length:=by
  have e:=r2.length
  rw[F.len _ _ _ _ hq] at e
  exact e.symm
 refine dS (al2 ht (I.kIn _ _ hC) (looks_findIn I.kIn hi) (λself=>PySem.W.bind_fn I.kIn self (beq_iff_eq.mp hf)) (d8 (F.run _ X.stack {s with heap:=Cv s.heap C us} _ ⟨aX (s.heap.objs.size+1)::us,[]⟩ (aX (s.heap.objs.size+1)::(us++ds)) _ _ EX (hr.make C us [])
  (I2.env0.make C us []) (hb _ (aX (s.heap.objs.size+1)::us) I2.kIn hlen) r2 hq) λr s' hq'=>?_) (by rw[<- r.length,bN];omega))
 cases r with
 |error e=>exact hx e _ s' _ I2 hq'
 |ok fl=>
  cases fl with
  |ret u=>
   obtain⟨v,H',I3,rv,ev,q3⟩:=I2.after hq'
   subst ev
   exact⟨rv,⟨V.ref (s.heap.objs.size+1),H',I3,rfl,q3⟩⟩
  |next=>exact bP hq'
  |brk=>exact bP hq'
  |cont=>exact bP hq'
end
end L2
namespace L2
open PySem PySem.Spec PyProof.Rows
def Ite(K:ac)(l:Addr):It:=
  ⟨λi H=>∃xs x,SqL K H l xs/\xs[i]?=some x,
   λi H v H'=>∃T x,H T=none/\v=.ref T/\(∀xs,SqL K H l xs->xs[i]?=some x)/\H'=upd H T (.tup [.int i,x]),
   λi H=>∃xs,SqL K H l xs/\xs.length<=i⟩
def ac2{P:aW}{w:bC}{K:ac}{elts:List Expr}{kt:Nat}{pt:Pos}{e it l:Addr}(ne:e≠it) :
  Nb P w K (.Tuple elts kt pt) (Ite K l) [e,it] e (λi h=>(∃old,IsEnum h e it (i:Int) old)/\h.IsListIter it l i) where
 mem:=by simp
 obj:=λi h st b hb=>by
  obtain⟨⟨old,he⟩,⟨o1,e1,c1,d1⟩⟩:=st
  have hb:b=e\/b=it:=by simpa using hb
  rcases hb with rfl|rfl
  .exact⟨_,he,λv q=>nomatch q⟩
  .exact⟨o1,e1,λv q=>by rw[d1] at q;cases q⟩
 keep:=λi h h' st k=>by
  obtain⟨⟨old,he⟩,h1⟩:=st
  exact⟨⟨old,k e (by simp) _ he⟩,h1.at λo q=>k it (by simp) o q⟩
 item:=by
  intro X hP hw hK hc i ξ s σ H E I hf st hg
  subst hP hw hK
  obtain⟨xs,x,q1,hx⟩:=hg
  obtain⟨its1,r1,p1,z1⟩:=I.list q1
  obtain⟨u,hu,ru⟩:=r1.get hx
  obtain⟨⟨old,he⟩,h1⟩:=st
  refine wpAny_pyNext_enum_item he h1 p1.isList (by simpa using hu) ne λh' a1 a2 a3 a4 hk=>?_
  refine⟨_,rfl,iZ a1 λh'' hz' hs'=>?_⟩
  have hT:=I.hok.fresh (ag s.heap.objs.size)
  have up':∀b o,b∉[e,it]->s.heap.get? b=some o->h''.get? b=some o:=λb o hb q=>by
   have b1:b≠e:=by rintro rfl;exact hb (by simp)
   have b2:b≠it:=by rintro rfl;exact hb (by simp)
   exact hs'.extBut b o b1 (hk b o b1 b2 q)
  have nT:∀{b o},s.heap.get? b=some o->b≠s.heap.objs.size:=λq=>aN (aG q)
  have Tnew:=hs'.extBut _ _ (cg (nT he)) a3
  have I1:Inv X ξ σ (upd H s.heap.objs.size (.tup [.int i,x])) {s with heap:=h'',toks:=s.toks+1}:=
   I.turnedN (λb hb=>hf b hb) up' (ag _) ⟨by show 2<=sizeLine;decide,[.int i s.toks,u],.cons ⟨_,rfl⟩ (.cons ru .nil),⟨_,Tnew,rfl,_,rfl⟩⟩
  refine⟨.ref s.heap.objs.size,_,I1,rfl,⟨s.heap.objs.size,x,hT,rfl,λxs' h'=>by rw[I.list_inj h' q1];exact hx,rfl⟩,⟨⟨_,hz'⟩,a2.at λo q=>hs'.extBut _ o (cg ne) q⟩,λb hb=>?_⟩
  have q:=(hf b hb).1
  rw[Ad ?_]
  .exact q
  .have hb:b=e\/b=it:=by simpa using hb
   rcases hb with rfl|rfl
   .exact nT he
   .obtain⟨_,q,_⟩:=h1;exact nT q
 done:=by
  intro X hP hw hK hc i ξ s σ H E I hf st hg
  subst hP hw hK
  obtain⟨xs,q1,hx⟩:=hg
  obtain⟨its1,r1,p1,z1⟩:=I.list q1
  have e1:=r1.length
  obtain⟨⟨old,he⟩,h1⟩:=st
  refine wpAny_pyNext_enum_end (I.ok.hd hc) he h1 p1.isList (by simp;omega) λh' hk=>⟨rfl,?_⟩
  refine I.turnedL (λb hb=>hf b hb) λb o hb q=>?_
  have b2:b≠it:=by rintro rfl;exact hb (by simp)
  exact hk b o b2 q
 self:=λA i s Q E st h=>let⟨_,he⟩:=st.1;ii he h
section
variable {X:Cx}{ξ:List (Addr×Obj)}{σ σ0:St}{H H0:Hp}{s s0:aw}{p:Addr}{kvs:List (Key×V)}{o:Obj}
def Y4(o:Obj)(ep:Nat):Prop:=∃es,o.data=.dict es ep
def Inv.froze(I:Inv X ξ σ H s)(h:H p=some (.dK kvs)):∃ob ep,s.heap.get? p=some ob/\Y4 ob ep/\Inv X ξ σ (upd H p (.frz ob (.dK kvs))) s:=by
 have K:=I.hok p _ h
 obtain⟨z,y,vs,r,ob,es,ep,e,c,d,q⟩:=id K
 exact⟨ob,ep,e,⟨es,d⟩,(I.write (x:=p) (e:=p) (t':=s.toks) (h':=s.heap) (by rw[h];trivial) (.inl rfl) (λb u _ q=>q) ⟨ob,e⟩ ⟨e,K⟩)⟩
def Inv.thaw(I0:Inv X ξ σ0 H0 s0)(h0:H0 p=some (.dK kvs))(I:Inv X ξ σ H s)(h:H p=some (.frz o (.dK kvs))):Inv X ξ σ (upd H p (.dK kvs)) s:=by
 have ne:∀b,H b=none->b≠p:=λb e z=>by rw[z,h] at e;cases e
 have ntup:∀b xs,H b=some (.tup xs)->b≠p:=λb xs e z=>by rw[z,h] at e;cases e
 have nown:∀b c,H b=some (.own c)->b≠p:=λb c e z=>by rw[z,h] at e;cases e
 refine⟨I.ok,I.os,I.bare,⟨I.base.keep,I.base.slot,λb ob e n hx=>?_,I.base.there,λb xs e=>?_,λb ob u e=>?_,λb ps e=>?_⟩,I.loc,I.cell,?_,λx c e=>?_,λq hq=>?_,λb u e=>?_,I.len⟩
 .have q:=I.base.free b ob e n hx
  rw[Ad (ne b q)];exact q
 .have q:=I.base.tups b xs e
  rw[Ad (ntup b xs q)];exact q
 .have q:=I.base.frzs b ob u e
  have n:b≠p:=λz=>by
   have q0:=I0.base.frzs b ob u e
   rw[z,h0] at q0;cases q0
  rw[Ad n];exact q
 .obtain⟨more,q⟩:=I.base.tbls b ps e
  have n:b≠p:=λz=>by rw[z,h] at q;cases q
  exact⟨more,by rw[Ad n];exact q⟩
 .rw[Ad (ne _ I.free)];exact I.free
 .have q:=I.freeC x c e
  rw[Ad (ne _ q)];exact q
 .obtain⟨a,b,c⟩:=I.pin q hq
  exact⟨a,by rw[Ad (ne _ b)];exact b,c⟩
 .by_cases z:b=p
  .subst z
   rw[Aa] at e
   cases e
   exact(I.hok b _ h).2
  .rw[Ad z] at e
   exact(I.hok b u e).stay (λ_ _ _ q=>q) (λc q=>by rw[Ad (nown c b q)];exact q) λc xs q=>by rw[Ad (ntup c xs q)];exact q
def Thaw.inv(I0:Inv X ξ σ0 H0 s0)(I:Inv X ξ σ H s)(t:Thaw H0 H P):∃H',Inv X ξ σ H' s/\P H':=by
 rcases t with t|⟨p,o,kvs,h0,h,t⟩
 .exact⟨H,I,t⟩
 .exact⟨_,I0.thaw h0 I h,t⟩
def Inv.kdict(I:Inv X ξ σ H s)(h:H p=some (.frz o (.dK kvs)))(he:Y4 o ep):∃vs,KV kvs vs/\s.heap.DictAt (Be X.prog X.w) p vs ep/\(p==c7)=false:=by
 obtain⟨e1,z,y,vs,r,ob,es,ep',e,c,d,q⟩:=I.hok p _ h
 obtain⟨es',d'⟩:=he
 rw[e1] at e
 cases e
 have d2:=d
 rw[d'] at d2
 cases d2
 exact⟨vs,r,⟨o,_,e1,c,d,q⟩,y⟩
end
def Itd(p:Addr)(o:Obj)(kvs:List (Key×V)):It:=
 ⟨λi H=>H p=some (.frz o (.dK kvs))/\i<kvs.length,λi H x H'=>H'=H/\∃k v,kvs[i]?=some (k,v)/\x=kV k,λi H=>H p=some (.frz o (.dK kvs))/\kvs.length<=i⟩
theorem ak9:∀{kvs} {vs}{i:Nat}{k:Key}{v:V},KV kvs vs->kvs[i]?=some (k,v) -> ∃u,vs[i]?=some (k,u)/\RelV v u
 | _,_,0,k,v,.cons (b:=q) r _,e=>by
  simp only[fw,h_] at e
  subst e
  exact⟨q.2,congrArg some (Prod.ext r.1.symm rfl),r.2⟩
 | _,_,i+1,k,v,.cons r t,e=>by
  simp only[bK] at e ⊢
  exact ak9 t e
def ak6(h:(Be P w).is k u=true):RelV (kV k) u:=by
 cases k with
 |inl i=>obtain⟨t,rfl⟩:=Value.isInt_shape (h);exact⟨t,rfl⟩
 |inr z=>obtain⟨t,rfl⟩:=lM (h);exact⟨t,rfl⟩
def ac1{P:aW}{w:bC}{K:ac}{tg:Expr}(p it:Addr)(o:Obj)(kvs:List (Key×V)){ep:Nat}(he:Y4 o ep):Nb P w K tg (Itd p o kvs) [it] it (λi h=>h.IsKeyIter it p i kvs.length ep) where
 mem:=by simp
 obj:=λi h st b hb=>by
  have e:b=it:=by simpa using hb
  subst e
  obtain⟨o,e,c,d⟩:=st
  exact⟨o,e,λv z=>by rw[d] at z;cases z⟩
 keep:=λi h h' st k=>st.at λo e=>k it (by simp) o e
 item:=by
  intro X hP hw hK hc i ξ s σ H E I hf st hg
  subst hP hw hK
  obtain⟨hH,hi⟩:=hg
  obtain⟨vs,rel,hd,hm⟩:=I.kdict hH he
  obtain⟨f0,f1,f2,f3,f4,f5⟩:=hf it (by simp)
  obtain⟨⟨k,v⟩,hx⟩:∃q,kvs[i]?=some q:=⟨kvs[i],by simp[hi]⟩
  obtain⟨u,hu,_⟩:=ak9 rel hx
  have hl:=rel.length
  rw[hl] at st
  refine j1 st hd hu λkey h' hk st' sb=>?_
  have I1:=I.turned (λb o hb e=>sb.extBut b o hb e) f0 f1 f3 f4 f5
  obtain⟨o1,e,c,d⟩:=id st'
  exact⟨key,rfl,Ls e c d (by decide) ⟨kV k,H,I1,ak6 hk,⟨rfl,k,v,hx,rfl⟩,by rw[hl];exact st',λb hb=>(hf b hb).1⟩⟩
 done:=by
  intro X hP hw hK hc i ξ s σ H E I hf st hg
  subst hP hw hK
  obtain⟨hH,hi⟩:=hg
  obtain⟨vs,rel,hd,hm⟩:=I.kdict hH he
  obtain⟨f0,f1,f2,f3,f4,f5⟩:=hf it (by simp)
  have hl:=rel.length
  rw[hl] at st
  exact wpAny_pyNext_dict_end (I.ok.hd hc) st hd (by simp;omega) λh' eb=>⟨rfl,I.turned (λb o hb e=>eb b o hb e) f0 f1 f3 f4 f5⟩
 self:=λ_ _ _ _ _ st h=>k6 st h
def a01{X:Cx}{tg:Expr}{ξ:List (Addr×Obj)}{σ:St}{H:Hp}{s:aw}{R:It->Hp->Prop}{E:Value->aw->Prop}{p:Addr}{o:Obj}{kvs:List (Key×V)}(I:Inv X ξ σ H s)(h:H p=some (.frz o (.dK kvs)))(q:R (Itd p o kvs) H):aR (model X.prog X.w) X.A (mN (.ref p)) (PIE X ξ σ tg R) E s:=by
 have he:∃ep,Y4 o ep:=by
  obtain⟨e1,z,y,vs,r,ob,es,ep,e,c,d,_⟩:=I.hok p _ h
  rw[e1] at e;cases e
  exact⟨ep,es,d⟩
 obtain⟨ep,he⟩:=he
 obtain⟨vs,rel,hd,hm⟩:=I.kdict h he
 refine gx hm hd ?_
 refine⟨s.heap.objs.size,[s.heap.objs.size],_,_,H,rfl,I.kept λb o e=>ah _ e,ac1 p _ o kvs he,⟨_,aE _ rfl,rfl,by rw[rel.length];rfl⟩,λb hb=>?_,q⟩
 have e:b=s.heap.objs.size:=by simpa using hb
 subst e
 exact I.fpOk (ag _) (I.hok.fresh (ag _))
section
variable {prog:aW}{w:bC}{A:bF}{E:Value->aw->Prop}{s:aw}{d it:Addr}{ob:Obj}{es:Array mz}{ep i:Nat}
def a04(nm:(d==c7)=false)(g:s.heap.get? d=some ob)(c:ob.ExactDict)(e:ob.data=.dict es ep)(q:Q (.ref s.heap.objs.size) {s with heap:=s.heap.push {cls:=.type "dict_keyiterator", data:=.fields #[.ref d,.int 0 0,.int es.size 0,.int ep 0]}}):aR (model prog w) A (mN (.ref d)) Q E s:=by
 have T:s.TypeIs (.ref d) "dict" := ⟨ob,g,c.1⟩
 refine wpAny_pyIter_slot T F.slot_dict_iter (dU F.slot_dict_iter T F.entry_dict_iter ?_ (F.args_dict_iter_1 _))
 refine af ?_
 refine af (wpAny_notOrdered_dict T (am ?_))
 show aR _ _ (j3 d >>= _) _ _ s
 unfold j3
 rw[if_neg (by rw[nm];exact aC)]
 refine af (am (af (ig g e (af (iT g e ?_)))))
 refine af (dI (am ⟨_,rfl,"dict_keyiterator", _,⟨_,aE _ rfl,rfl⟩,F.slot_dict_keyiterator_next.lookup,?_⟩))
 simpa [eY] using q
def a03(t:s.heap.IsKeyIter it d i es.size ep)(g:s.heap.get? d=some ob)(e:ob.data=.dict es ep)(hi:i<es.size)(q:∀h',h'.IsKeyIter it d (i+1) es.size ep->bO it s.heap h'->Q (some es[i].key) {s with heap:=h'}):aR (model prog w) A (mO (.ref it)) Q E s:=by
 obtain⟨o,ho,hc,hd⟩:=id t
 refine af (gv (fH t.typeIs bY (dU bY t.typeIs fI ?_ (ff _))))
 refine af (am (af (af ?_)))
 first|refine af (ck t.typeIs (am ?_))|refine af (cQ t.typeIs (am ?_))
 refine af (jf ho hd ?_)
 show aR _ _ (if(aX d==bI)=true then _ else _) _ _ s
 rw[if_neg (show ¬ ((aX d==bI)=true) from aC)]
 refine af (am (af (ig g e ?_)))
 rw[if_neg (by simp)]
 refine af (am (af (iT g e ?_)))
 rw[if_neg (by simp)]
 refine am ?_
 simp only[show ¬ ((i:Int)<0) from by omega,if_false,aY,d_ hi]
 refine af ?_
 first|refine af (ck t.typeIs (am ?_))|refine af (cQ t.typeIs (am ?_))
 refine af (kG t.typeIs ?_)
 show aR _ _ (my (.ref it) 1 (eY ((i:Int)+1)) >>= _) _ _ s
 refine af (gH ho hd (by simp) ?_)
 have t':(s.heap.update it (fE (·.setIfInBounds 1 (eY ((i:Int)+1))))).IsKeyIter it d (i+1) es.size ep:=
  ⟨_,dX _ ho (iq (lR hd _)),(Obj.cls_mapFields ..).trans hc,by rw[lR hd];simp[eY]⟩
 refine af (bD (af (kG (s:={s with heap:=s.heap.update it (fE (·.setIfInBounds 1 (eY ((i:Int)+1))))}) t'.typeIs ?_)))
 show aR _ _ (pure es[i].key) _ _ _
 exact am (am ⟨_,rfl,am (q _ t' (bV ..))⟩)
def bg8(hh:A.handled=none)(t:s.heap.IsKeyIter it d i es.size ep)(g:s.heap.get? d=some ob)(e:ob.data=.dict es ep)(hi:es.size<=i)(q:∀h',mC it s.heap h'->Q none {s with heap:=h'}):aR (model prog w) A (mO (.ref it)) Q E s:=by
 obtain⟨o,ho,hc,hd⟩:=id t
 refine af (gv (fH t.typeIs bY (dU bY t.typeIs fI ?_ (ff _))))
 refine af (am (af (af ?_)))
 first|refine af (ck t.typeIs (am ?_))|refine af (cQ t.typeIs (am ?_))
 refine af (jf ho hd ?_)
 show aR _ _ (if(aX d==bI)=true then _ else _) _ _ s
 rw[if_neg (show ¬ ((aX d==bI)=true) from aC)]
 refine af (am (af (ig g e ?_)))
 rw[if_neg (by simp)]
 refine af (am (af (iT g e ?_)))
 rw[if_neg (by simp)]
 refine am ?_
 simp only[by omega,if_false,aY,jY hi]
 refine af ?_
 first|refine af (ck t.typeIs (am ?_))|refine af (cQ t.typeIs (am ?_))
 show aR _ _ (my (.ref it) 0 .none >>= _) _ _ s
 refine af (gH ho hd (by simp) ?_)
 show aR _ _ (newExc (.type "StopIteration") [] >>= _) _ _ _
 refine af ?_
 simp only[newExc,newTuple]
 refine af (dI ?_ (by size_fits))
 refine af (m:=ly _ _) (mS (a:=bI) (by first|rfl|(simp only[ly];rfl)) ?_)
 refine dI ?_ (by size_fits)
 simp only[raiseNew]
 refine af (wpAny_handled ?_)
 rw[show A.in1.handled=none from hh]
 refine af (am (mT ?_))
 refine af (jV (T := "StopIteration") (b:=true) ⟨_,aE _ rfl,rfl⟩ isSubtype_stop ?_)
 exact am (q _ (((bV ..).extBut.push _).push _))
end
section
variable {X:Cx}{ξ:List (Addr×Obj)}{σ:St}{H:Hp}{s:aw}{p:Addr}{kvs:List (TK×V)}{o:Obj}
def Inv.frozeT(I:Inv X ξ σ H s)(h:H p=some (.dT kvs)):∃ob,Inv X ξ σ (upd H p (.frz ob (.dT kvs))) s:=by
 have K:=I.hok p _ h
 obtain⟨z,y,vs,r,ob,es,ep,e,c,d,q⟩:=id K
 exact⟨ob,I.write (by rw[h];trivial) (.inl rfl) (λb u _ q=>q) ⟨ob,e⟩ ⟨e,K.stay (λ_ _ _ q=>q) (λc q=>by rw[Ad λz=>by rw[z,h] at q;cases q];exact q) λc xs q=>by rw[Ad λz=>by rw[z,h] at q;cases q];exact q⟩⟩
def Inv.tdict(I:Inv X ξ σ H s)(h:H p=some (.frz o (.dT kvs))):∃es ep,s.heap.get? p=some o/\o.ExactDict/\o.data=.dict es ep/\(p==c7)=false/\es.size=kvs.length/\∀(i:Nat)(hi:i<es.size),∃k v b,kvs[i]?=some (k,v)/\es[i].key=.ref b/\Ap k<=8/\TkAt H k (.ref b):=by
 obtain⟨e1,z,y,xs,r,ob,es,ep,e,c,d,q,_⟩:=I.hok p _ h
 rw[e1] at e
 cases e
 have hl:es.size=kvs.length:=by
  have:=congrArg cE q
  rw[ae] at this
  rw[r.length,<- this,bU]
 refine⟨es,ep,e1,c,d,y,hl,λi hi=>?_⟩
 have all:∀{l:List (TK×V)}{m:List (TK×Addr×Value)}{j:Nat}{x:TK×Addr×Value},ir (λ(p:TK×V) (q:TK×Addr×Value)=>p.1=q.1/\(Ap p.1<=8/\TkAt H p.1 (.ref q.2.1))/\RelV p.2 q.2.2) l m->m[j]?=some x -> ∃k v,l[j]?=some (k,v)/\Ap k<=8/\TkAt H k (.ref x.2.1):=by
  intro l m j x q
  induction q generalizing j with
  |nil=>intro e;simp at e
  |@cons a b _ _ hq t ih=>
   intro e
   cases j with
   |zero=>cases e;exact⟨a.1,a.2,rfl,hq.2.1⟩
   |succ j=>exact ih (e)
 have hx:i<xs.length:=by
  have:=congrArg cE q
  rw[ae,bU] at this
  omega
 obtain⟨k,v,e2,e3⟩:=all r (ai hx)
 refine⟨k,v,(xs[i]).2.1,e2,?_,e3⟩
 have:es.toList[i]?=some (entryOfKey (Di X.prog X.w) xs[i]):=by rw[q,ak,ai hx];rfl
 rw[cw,d_ hi] at this
 rw[az this]
 rfl
end
def ay7(p:Addr)(o:Obj)(kvs:List (TK×V)):It:=
 ⟨λi H=>H p=some (.frz o (.dT kvs))/\i<kvs.length,λi H x H'=>H'=H/\∃k v,kvs[i]?=some (k,v)/\Ap k<=8/\TkAt H k x/\∃b,x=.ref b,λi H=>H p=some (.frz o (.dT kvs))/\kvs.length<=i⟩
def a91{P:aW}{w:bC}{K:ac}{tg:Expr}(p it:Addr)(o:Obj)(kvs:List (TK×V)){es:Array mz}{ep:Nat}(he:o.data=.dict es ep):Nb P w K tg (ay7 p o kvs) [it] it (λi h=>h.IsKeyIter it p i es.size ep) where
 mem:=by simp
 obj:=λi h st b hb=>by
  have e:b=it:=by simpa using hb
  subst e
  obtain⟨o,e,c,d⟩:=st
  exact⟨o,e,λv z=>by rw[d] at z;cases z⟩
 keep:=λi h h' st k=>st.at λo e=>k it (by simp) o e
 item:=by
  intro X hP hw hK hc i ξ s σ H E I hf st hg
  subst hP hw hK
  obtain⟨hH,hi⟩:=hg
  obtain⟨es',ep',g,c,d,_,hl,hk⟩:=I.tdict hH
  rw[he] at d
  cases d
  obtain⟨f0,f1,f2,f3,f4,f5⟩:=hf it (by simp)
  have hi':i<es.size:=by omega
  obtain⟨k,v,b,e1,e2,e3,e4⟩:=hk i hi'
  refine a03 st g he hi' λh' st' sb=>?_
  have I1:=I.turned (λb o hb e=>sb.extBut b o hb e) f0 f1 f3 f4 f5
  obtain⟨o1,e,c,d⟩:=id st'
  exact⟨_,rfl,Ls e c d (by decide) ⟨.ref b,H,I1,e2,⟨rfl,k,v,e1,e3,e4,b,rfl⟩,st',λb hb=>(hf b hb).1⟩⟩
 done:=by
  intro X hP hw hK hc i ξ s σ H E I hf st hg
  subst hP hw hK
  obtain⟨hH,hi⟩:=hg
  obtain⟨es',ep',g,c,d,_,hl,hk⟩:=I.tdict hH
  rw[he] at d
  cases d
  obtain⟨f0,f1,f2,f3,f4,f5⟩:=hf it (by simp)
  exact bg8 (I.ok.hd hc) st g he (by omega) λh' eb=>⟨rfl,I.turned (λb o hb e=>eb b o hb e) f0 f1 f3 f4 f5⟩
 self:=λ_ _ _ _ _ st h=>k6 st h
def bw6{X:Cx}{tg:Expr}{ξ:List (Addr×Obj)}{σ:St}{H:Hp}{s:aw}{R:It->Hp->Prop}{E:Value->aw->Prop}{p:Addr}{kvs:List (TK×V)}(I:Inv X ξ σ H s)(h:H p=some (.dT kvs))(q:∀o,R (ay7 p o kvs) (upd H p (.frz o (.dT kvs)))):aR (model X.prog X.w) X.A (mN (.ref p)) (PIE X ξ σ tg R) E s:=by
 obtain⟨o,I1⟩:=I.frozeT h
 obtain⟨es,ep,g,c,d,nm,hl,_⟩:=I1.tdict Aa
 refine a04 nm g c d ?_
 refine⟨s.heap.objs.size,[s.heap.objs.size],_,_,_,rfl,I1.kept λb o e=>ah _ e,a91 p _ o kvs d,⟨_,aE _ rfl,rfl,rfl⟩,λb hb=>?_,q o⟩
 have e:b=s.heap.objs.size:=by simpa using hb
 subst e
 exact I1.fpOk (ag _) (I1.hok.fresh (ag _))
end L2
namespace PySem
def Sem.wp_never{α:Type}(M:Model)(Γ:Ctx):∀(t:Sem α) p s,Sem.wp M Γ t (λ_ _ _=>False) (λ_ _ _=>False) p s->False:=by
 intro t
 induction t with
 |pure a=>intro p s h;exact h
 |raise e=>intro p s h;exact h
 |unsupported w=>intro p s h;exact h
 |finish e=>intro p s h;exact h
 |rule tag k ih=>intro p s h;exact ih () p s h
 |«at» q k ih=>intro p s h;exact ih () q s h
 |load a part k ih=>intro p s h;obtain⟨o,_,h⟩:=h;exact ih o p s h
 |update a part f k ih=>intro p s h;exact ih () p _ h.2
 |alloc o k ih=>intro p s h;exact ih _ p _ h
 |loadIfAlive a k ih=>intro p s h;exact ih _ p s h
 |point l k ih=>intro p s h;exact ih () p s h
 |register a k ih=>intro p s h;exact h
 |fresh k ih=>intro p s h;exact ih _ p _ h
 |ask k ih=>intro p s h;exact ih _ p s h
 |choose src n k ih=>intro p s h;exact ih _ p _ h.2
 |os q l k ih=>intro p s h;exact ih _ p _ h
 |call c hd g l k ih=>intro p s h;obtain⟨r,s',_,h⟩:=h;exact ih r p s' h
 |handled own k ih=>intro p s h;exact ih _ p s h
 |newGen c k ih=>intro p s h;exact ih _ p _ h
 |genState g k ih=>intro p s h;obtain⟨st,_,h⟩:=h;exact ih _ p s h
 |resume g r l k ih=>intro p s h;obtain⟨res,s',_,h⟩:=h;exact ih res p s' h
 |yield v g l k ih=>intro p s h;exact h
 |stack k ih=>intro p s h;exact ih _ p s h
 |fork c k ih=>intro p s h;exact h
 |thread k ih=>intro p s h;first|exact ih _ p s h|exact h
 |await a tk d l k ih=>intro p s h;first|exact h|exact ih _ p s h
section
variable {prog:aW}{w:bC}{A:bF}{E:Value->aw->Prop}{s:aw}
def Z3(h:aR (model prog w) A (mO v) (λr s'=>∃u,r=some u/\P u s') (λ_ _=>False) s):aR (model prog w) A (c8 v) P E s:=by
 intro Γ p hΓ
 have h:=h Γ p hΓ
 unfold mO Sem.attempt at h
 unfold c8
 rw[mq,Sem.wp_tryCatch,Sem.wp_bind] at h
 rw[mq]
 refine Sem.wp_mono _ _ _ (λo p' s' q=>?_) (λe p' s' q=>?_) p s h
 .cases o with
  |none=>exact(q).elim
  |some u=>
   obtain⟨u',e,q⟩:=q
   cases e
   exact q
 .refine (Sem.wp_never (model prog w) Γ (isInstance e (.type "StopIteration")) p' s' ?_).elim
  have q:Sem.wp (model prog w) Γ (isInstance e (.type "StopIteration") >>= λb=>if b=true then pure none else throw e) (λr _ s'=>∃u,r=some u/\P u s') (λ_ _ _=>False) p' s':=q
  rw[mq] at q
  refine Sem.wp_mono _ _ _ (λb p2 s2 q=>?_) (λ_ _ _ z=>z) p' s' q
  cases b with
  |true=>obtain⟨u,z,_⟩:=q;cases z
  |false=>exact q
variable {κ:Type} [DecidableEq κ] {knd:KeyKind prog w κ}{d it:Addr}{ep i:Nat}{kvs:List (κ×Value)}
def Fd(hh:A.handled=none)(hit:s.heap.IsKeyIter it d i kvs.length ep)(hm:s.heap.DictAt knd d kvs ep)(hx:kvs[i]?=none)(hE:∀h' x,mC it s.heap h'->(∃o,h'.get? x=some o/\o.cls=.type "StopIteration")->E (.ref x) {s with heap:=h'}):aR (model prog w) A (c8 (.ref it)) Q E s:=by
 have ⟨oi,ei,ci,di⟩:=hit
 have ⟨od,es,ed,_,dd,_,pr,_⟩:=hm
 have size:es.size=kvs.length:=pr.length▸(by simp)
 have past:es.size<=i:=by rw[size];simpa using hx
 have own:Builtin.Dict_items.ownsTuple "dict_keyiterator"=false:=by decide
 have nx:¬ ((i:Int)<0):=by omega
 have noNone:¬ ((aX d==bI)=true):=aC
 refine af (fH hit.typeIs bY (dU bY hit.typeIs fI ?_ (ff _)))
 refine af (am (af (af ?_)))
 first|refine af (ck hit.typeIs (am (af (jf ei di ?_))))|refine af (cQ hit.typeIs (am (af (jf ei di ?_))))
 show aR _ _ (if(aX d==bI)=true then _ else _) _ _ s
 rw[if_neg noNone]
 refine af (am (af (ig ed dd ?_)))
 rw[if_neg (show ¬ _ by rw[size];simp)]
 refine af (am (af (iT ed dd ?_)))
 rw[if_neg (show ¬ _ by simp)]
 refine am ?_
 simp only[nx,if_false,aY,jY past]
 refine af ?_
 first|refine af (ck hit.typeIs (am ?_))|refine af (cQ hit.typeIs (am ?_))
 show aR _ _ (my (.ref it) 0 .none >>= λ_=>newExc (.type "StopIteration") [] >>= _) _ _ s
 refine af (gH ei di (by simp) (af ?_))
 refine af (dI (af (mS (by first|rfl|(simp only[ly];rfl)) (dI ?_ (by size_fits)))) (by size_fits))
 refine af (wpAny_handled ?_)
 rw[hh]
 exact af (am (mT (hE _ _ (((bV ..).extBut.push _).push _) ⟨_,aE _ rfl,rfl⟩)))
def Jk(hit:s.heap.IsKeyIter it d i kvs.length ep)(hm:s.heap.DictAt knd d kvs ep)(hx:kvs[i]?=some (k,v))(hQ:∀key h',knd.is k key=true->h'.IsKeyIter it d (i+1) kvs.length ep->bO it s.heap h'->Q key {s with heap:=h'}):aR (model prog w) A (c8 (.ref it)) Q E s:=
 Z3 (j1 hit hm hx λkey h' a b c=>⟨key,rfl,hQ key h' a b c⟩)
def bg5(hh:A.handled=none)(ne:d≠it):Draws prog w A it [it,d] kvs.length (λi v=>∃k x,kvs[i]?=some (k,x)/\knd.is k v=true) (λi h=>h.IsKeyIter it d i kvs.length ep/\h.DictAt knd d kvs ep) where
 live:=λ_ _ h=>let⟨o,e,_⟩:=h.1;⟨o,e⟩
 frame:=λ_ _ _ h k=>⟨h.1.at λo q=>k it (by simp) o q,h.2.at' λo q=>k d (by simp) o q⟩
 item:=λi s Q E hi h hQ=>Jk h.1 h.2 (ai hi) λkey h' a b c=>hQ key h' s.toks ⟨_,_,ai hi,a⟩ ⟨b,h.2.at' λo q=>c.extBut d o ne q⟩ c
 done:=λs Q E h hE=>Fd hh h.1 h.2 (dm (ag _)) hE
def Jq(hh:A.handled=none)(he:IsEnum s.heap e it i old)(hit:s.heap.IsKeyIter it d i kvs.length ep)(hm:s.heap.DictAt knd d kvs ep)(hx:kvs[i]?=none)(hQ:∀h',mC it s.heap h'->Q none {s with heap:=h'}):aR (model prog w) A (mO (.ref e)) Q E s:=by
 have ty:s.TypeIs (.ref e) "enumerate" := ⟨_,he,rfl⟩
 refine af (gv (fH ty j4 (dU j4 ty F.entry_enumerate_next ?_ (F.args_enumerate_next_1 _))))
 show aR _ _ (field (.ref e) 2 >>= λz=>c8 z >>= _) _ _ _
 exact af (gO he rfl (x:=.ref it) rfl (af (Fd hh hit hm hx λh' x hk ⟨o,ho,hc⟩=>(af (jV (T := "StopIteration") (b:=true) ⟨o,ho,hc⟩ isSubtype_stop (am (hQ _ hk)))))))
def Uu(hd:(d==c7)=false)(hm:s.heap.DictAt knd d kvs ep)(h:∀h',IsEnum h' (s.heap.objs.size+1) s.heap.objs.size 0 .none->h'.IsKeyIter s.heap.objs.size d 0 kvs.length ep->(∀b o,s.heap.get? b=some o->h'.get? b=some o)->Q (.ref (s.heap.objs.size+1)) {s with heap:=h'}) :
  aR (model prog w) A (call (.type "enumerate") [.ref d]) Q E s:=by
 have g:MeetsIn prog w (a_.«enumerate.__new__» ⟨[.type "enumerate", .ref d],[]⟩) (λ_ R s=>s.heap.DictAt knd d kvs ep /\
   R (.ok (.ret (.ref (s.heap.objs.size+1)))) {s with heap:=(s.heap.push {cls:=.type "dict_keyiterator", data:=.fields #[.ref d,.int 0 0,.int kvs.length 0,.int ep 0]}).push {cls:=.type "enumerate", data:=.fields #[.none,.bool false,.ref s.heap.objs.size,eY 0,.none,.none]}}):=by
  refine .of_wp λA R s h=>?_
  obtain⟨hp,g,d',tk,os⟩:=s
  obtain⟨hm,h⟩:=h
  have hsub:=sub_enumerate
  obtain⟨o,es,ho,hcl,hdat,q⟩:=id hm
  have hz:(hp.push {cls:=.type "dict_keyiterator", data:=.fields #[.ref d,.int 0 0,.int kvs.length 0,.int ep 0]}).objs.size=hp.objs.size+1:=cR ..
  wp_walk using gx hd hm
  refine wpAny_stack_any λst=>am ?_
  have h2:R (.ok (.ret (.ref (hp.push {cls:=.type "dict_keyiterator", data:=.fields #[.ref d,.int 0 0,.int kvs.length 0,.int ep 0]}).objs.size))) ⟨(hp.push {cls:=.type "dict_keyiterator", data:=.fields #[.ref d,.int 0 0,.int kvs.length 0,.int ep 0]}).push {cls:=.type "enumerate", data:=.fields #[.none,.bool false,.ref hp.objs.size,eY 0,.none,.none]},g,d',tk,os⟩:=by rw[hz];exact h
  split
  .rename_i c _ _ _ _ _
   cases(c==jt "enumerate")
   .wp_walk using gx hd hm
    exact⟨_,rfl,h2⟩
   .wp_walk using gx hd hm
    exact⟨_,rfl,h2⟩
  .wp_walk using gx hd hm
   exact⟨_,rfl,h2⟩
 refine callType_newIn F.called_enumerate (by decide) (F.typeCall_enumerate_1 _) (F.newCall_enumerate_1 _) (λobj=>F.args_object_init_2 obj _) F.entry_enumerate_new g ⟨hm,?_⟩
 have hz:(s.heap.push {cls:=.type "dict_keyiterator", data:=.fields #[.ref d,.int 0 0,.int kvs.length 0,.int ep 0]}).objs.size=s.heap.objs.size+1:=cR ..
 have he:IsEnum ((s.heap.push {cls:=.type "dict_keyiterator", data:=.fields #[.ref d,.int 0 0,.int kvs.length 0,.int ep 0]}).push {cls:=.type "enumerate", data:=.fields #[.none,.bool false,.ref s.heap.objs.size,eY 0,.none,.none]}) (s.heap.objs.size+1) s.heap.objs.size 0 .none:=hz▸aE _ rfl
 exact⟨⟨_,he,rfl⟩,h _ he ⟨_,ah _ (aE _ rfl),rfl,rfl⟩ λb o x=>ah _ (ah _ x)⟩
end
end PySem
namespace L2
open PySem PySem.Spec PyProof.Rows
def ay6(p:Addr)(o:Obj)(kvs:List (Key×V)):It:=
  ⟨λi H=>H p=some (.frz o (.dK kvs))/\i<kvs.length,
   λi H x H'=>∃T k v,H T=none/\x=.ref T/\kvs[i]?=some (k,v)/\H'=upd H T (.tup [.int i,kV k]),
   λi H=>H p=some (.frz o (.dK kvs))/\kvs.length<=i⟩
def W7{P:aW}{w:bC}{K:ac}{elts:List Expr}{kt:Nat}{pt:Pos}{e it p:Addr}{o:Obj}{kvs:List (Key×V)}{ep:Nat}(ne:e≠it)(he:Y4 o ep) :
  Nb P w K (.Tuple elts kt pt) (ay6 p o kvs) [e,it] e (λi h=>(∃old,IsEnum h e it (i:Int) old)/\h.IsKeyIter it p i kvs.length ep) where
 mem:=by simp
 obj:=λi h st b hb=>by
  obtain⟨⟨old,he⟩,⟨o1,e1,c1,d1⟩⟩:=st
  rcases List.mem_cons.mp hb with rfl|hb
  .exact⟨_,he,λv q=>nomatch q⟩
  .rw[List.mem_singleton.mp hb];exact⟨o1,e1,λv q=>by rw[d1] at q;cases q⟩
 keep:=λi h h' st k=>let⟨⟨old,he⟩,h1⟩:=st;⟨⟨old,k e (by simp) _ he⟩,h1.at λo q=>k it (by simp) o q⟩
 item:=by
  intro X hP hw hK hc i ξ s σ H E I hf st hg
  subst hP hw hK
  obtain⟨hH,hi⟩:=hg
  obtain⟨vs,rel,hd,hm⟩:=I.kdict hH he
  obtain⟨⟨k,v⟩,hx⟩:∃q,kvs[i]?=some q:=⟨kvs[i],by simp[hi]⟩
  obtain⟨u,hu,_⟩:=ak9 rel hx
  have hl:=rel.length
  obtain⟨⟨old,en⟩,h1⟩:=st
  rw[hl] at h1
  have np:=Ai hH (hf e (by simp)).1
  have ni:=Ai hH (hf it (by simp)).1
  refine bG (ag _) (wpAny_pyNext_enum_itemD (bg5 (by simp[I.ok.hd hc]) ni) en ⟨h1,hd⟩ (by omega) ne (by simp[ne,np.symm]) λkey h' tk ⟨k',x',hx',hk⟩ a1 ⟨a2,_⟩ a3 _ hk' htk=>?_)
  rw[hu] at hx'
  cases hx'
  refine⟨_,rfl,iZ a1 λh'' hz' hs'=>?_⟩
  have hT:=I.hok.fresh (ag s.heap.objs.size)
  have nT:∀{b ob},s.heap.get? b=some ob->b≠s.heap.objs.size:=λq=>aN (aG q)
  have up:∀b ob,b∉[e,it]->s.heap.get? b=some ob->h''.get? b=some ob:=λb ob hb q=>by
   have b1:b≠e:=by rintro rfl;exact hb (by simp)
   have b2:b≠it:=by rintro rfl;exact hb (by simp)
   exact hs'.extBut b ob b1 (hk' b ob b1 b2 q)
  have Tnew:=hs'.extBut _ _ (cg (nT en)) a3
  have I1:Inv X ξ σ (upd H s.heap.objs.size (.tup [.int i,kV k])) {s with heap:=h'',toks:=tk+1}:=
   I.turnedN (λb hb=>hf b hb) up (ag _) ⟨by show 2<=sizeLine;decide,[.int i tk,key],.cons ⟨_,rfl⟩ (.cons (ak6 hk) .nil),⟨_,Tnew,rfl,_,rfl⟩⟩
  refine⟨.ref s.heap.objs.size,_,I1,rfl,⟨s.heap.objs.size,k,v,hT,rfl,hx,rfl⟩,⟨⟨_,hz'⟩,by rw[hl];exact a2.at λo q=>hs'.extBut _ o (cg ne) q⟩,λb hb=>?_⟩
  have q:=(hf b hb).1
  rw[Ad ?_]
  .exact q
  .rcases List.mem_cons.mp hb with rfl|hb
   .exact nT en
   .rw[List.mem_singleton.mp hb];obtain⟨_,q,_⟩:=h1;exact nT q
 done:=by
  intro X hP hw hK hc i ξ s σ H E I hf st hg
  subst hP hw hK
  obtain⟨hH,hi⟩:=hg
  obtain⟨vs,rel,hd,hm⟩:=I.kdict hH he
  have hl:=rel.length
  obtain⟨⟨old,en⟩,h1⟩:=st
  rw[hl] at h1
  refine Jq (I.ok.hd hc) en h1 hd (by simp;omega) λh' hk=>⟨rfl,?_⟩
  refine I.turnedL (λb hb=>hf b hb) λb o hb q=>hk b o (by rintro rfl;exact hb (by simp)) q
 self:=λA i s Q E st h=>let⟨_,he⟩:=st.1;ii he h
def ai5{X:Cx}{elts:List Expr}{kt:Nat}{pt:Pos}{ξ:List (Addr×Obj)}{σ:St}{H:Hp}{s:aw}{R:It->Hp->Prop}{E:Value->aw->Prop}{p:Addr}{o:Obj}{kvs:List (Key×V)}(I:Inv X ξ σ H s)(h:H p=some (.frz o (.dK kvs)))(q:R (ay6 p o kvs) H):aR (model X.prog X.w) X.A (call (.type "enumerate") [.ref p]) (λv s1=>aR (model X.prog X.w) X.A (mN v) (PIE X ξ σ (.Tuple elts kt pt) R) E s1) E s:=by
 have he:∃ep,Y4 o ep:=by
  obtain⟨e1,z,y,vs,r,ob,es,ep,e,c,d,_⟩:=I.hok p _ h
  rw[e1] at e;cases e
  exact⟨ep,es,d⟩
 obtain⟨ep,he⟩:=he
 obtain⟨vs,rel,hd,hm⟩:=I.kdict h he
 refine Uu hm hd λh' en hit hk=>ii en ?_
 refine⟨_,_,_,_,H,rfl,I.kept hk,W7 (Nat.succ_ne_self _) he,⟨⟨_,en⟩,by rw[rel.length];exact hit⟩,λb hb=>?_,q⟩
 have hb:b=s.heap.objs.size+1\/b=s.heap.objs.size:=by simpa using hb
 have le:=hb.elim (λe=>e▸bv _ 1) λe=>e▸ag _
 exact I.fpOk le (I.hok.fresh le)
end L2
namespace PySem
open PyProof.Rows
section
variable {κ:Type} [DecidableEq κ]
def Fh(xs:List κ):List κ:=xs.foldl (λσ k=>if σ.any (λj=>decide (j=k)) then σ else σ++[k]) []
def Ox(xs:List κ)(k:κ):Fh (xs++[k])=if(Fh xs).any (λj=>decide (j=k)) then Fh xs else Fh xs++[k]:=by
 unfold Fh
 rw[gd]
 rfl
def al6(xs:List κ)(k j:κ):(Fh (xs++[k])).any (λi=>decide (i=j))=((Fh xs).any (λi=>decide (i=j))||decide (j=k)):=by
 rw[Ox]
 by_cases h:(Fh xs).any (λi=>decide (i=k))=true
 .rw[if_pos h]
  by_cases e:j=k
  .subst e;rw[h];rfl
  .simp[e]
 .rw[if_neg h,List.any_append]
  congr 1
  simp[eq_comm]
def Td(xs:List κ):(Fh xs).length<=xs.length:=by
 have:∀(ys acc:List κ),(ys.foldl (λσ k=>if σ.any (λj=>decide (j=k)) then σ else σ++[k]) acc).length<=acc.length+ys.length:=by
  intro ys
  induction ys with
  |nil=>intro acc;exact ag _
  |cons y ys ih=>
   intro acc
   refine aU (ih _) ?_
   rw[aK]
   dsimp only
   split
   .omega
   .rw[aI,bR];omega
 exact aU (this xs []) (by simp)
end
section
variable {prog:aW}{w:bC}{A:bF}{R:mV->aw->Prop}{I:Addr}{fp wr:List Addr}{G:Array lO->Array lO->Prop}{P:Nat->Value->Prop}{St:Nat->aw->Prop}{κ:Type} [DecidableEq κ] {knd:KeyKind prog w κ}{ks:List κ}
abbrev Gw(knd:KeyKind prog w κ)(h:Heap)(S:Addr)(ks:List κ):Prop:=h.SetOf knd S (λk=>(Fh ks).any (λj=>decide (j=k))) (Fh ks).length
def Oh(x:Gw knd h S ks)(k:∀o,h.get? S=some o->h'.get? S=some o):Gw knd h' S ks:=
 let⟨o,es,ep,t,ho,r⟩:=x;⟨o,es,ep,t,k o ho,r⟩
def T7(W:WalksS prog w A.in1 I fp wr G ks.length P St)(S:Addr)(out:S∉fp)(hv:∀i v,P i v -> ∃k,ks[i]?=some k/\knd.is k v=true/\v.scannable=true)(few:ks.length+1<scanBound)(left:Nat) :
  ∀i s,i+left=ks.length->St i s->Gw knd s.heap S (ks.take i)->(∀s',Moved (S::wr) G s s'->Gw knd s'.heap S ks->R (.ok (.ret .none)) s') ->
   gN (model prog w) A (.builtin "set.update.loop" ⟨[.ref S,.ref I],[]⟩) R s:=by
 have outw:S∉wr:=λz=>out (W.sub _ z)
 have into:∀b∈wr,b∈S::wr:=λb z=>.tail _ z
 induction left with
 |zero=>
  intro i s hi st fl hR
  have ei:=hi
  subst ei
  rw[aA] at fl
  refine eW jA (gC gT _ ▸ ?_)
  exact af (W.done s _ _ st λs' mv=>am (hR s' (mv.mono into) (Oh fl λo e=>mv.heap S o outw e)))
 |succ left ih=>
  intro i s hi st fl hR
  have lt:i<ks.length:=by omega
  refine eW jA (gC gT _ ▸ ?_)
  refine af (W.item i s _ _ lt st λv s1 pv st1 mv=>?_)
  obtain⟨k,ek,ik,sk⟩:=hv i v pv
  have fl1:=Oh fl λo e=>mv.heap S o outw e
  have tk:ks.take (i+1)=ks.take i++[k]:=by rw[List.take_succ,ek];rfl
  refine af (bD ?_)
  refine bD (af (knd.pyHash ik ?_))
  have room:(Fh (ks.take i)).length+1<scanBound:=by
   have:=Td (ks.take i)
   rw[aM] at this
   omega
  refine wpAny_setAddHashed_of ik sk fl1 room λh' sb fl2=>?_
  have fl3:Gw knd h' S (ks.take (i+1)):=by
   have eS:=funext λj=>(al6 (ks.take i) k j).symm
   have en:(if(Fh (ks.take i)).any (λm=>decide (m=k))=true then(Fh (ks.take i)).length else(Fh (ks.take i)).length+1)=(Fh (ks.take i++[k])).length:=by
    rw[Ox];split <;> simp
   rw[tk]
   show h'.SetOf knd S _ _
   rw[<- eS,<- en]
   exact fl2
  refine am ⟨plainId_quiet gT _,ih (i+1) _ (by omega) (W.frame _ s1 _ _ st1 (cM _) λb hb o e=>?_) fl3 λs2 mv2 fl4=>?_⟩
  .exact (sb.2 b λz=>out (z▸hb)).trans e
  .exact hR s2 (Moved.trans W.gtrans ((mv.mono into).then_heap (cM _) λb o hb e=>(sb.2 b λz=>hb (z▸aQ)).trans e) mv2) fl4
end
section
variable {prog:aW}{w:bC}{A:bF}{E:Value->aw->Prop}{s:aw}{κ:Type} [DecidableEq κ] {knd:KeyKind prog w κ}{ks:List κ}
abbrev C9(led:Bool):Obj:={cls:=.type "set", dict:=none,data:=.set #[] 0 (.fresh 0 0 led)}
def T8(hh:A.handled=none)(hl:s.heap.IsList l ψ)(hv:∀(i:Nat)(v:Value),ψ[i]?=some v -> ∃k,ks[i]?=some k/\knd.is k v=true/\v.scannable=true)(hs:ψ.size=ks.length)(few:ks.length+1<scanBound)(h:∀(h':Heap)(tk:Nat),Gw knd h' s.heap.objs.size ks->(∀b o,b<s.heap.objs.size->s.heap.get? b=some o->h'.get? b=some o)->Q (.ref s.heap.objs.size) {s with heap:=h',toks:=tk}) :
  aR (model prog w) A (call (.type "set") [.ref l]) Q E s:=by
 obtain⟨c,tl,hmro⟩:=F.called_set.mro
 have m1:=F.called_set.made
 have m2:=F.called_set.sub
 have m3:=F.called_set.notType
 have m4:=F.called_set.canCreate
 have m5:=F.typeCall_set_1 (.ref l)
 refine dS (kz (am ⟨dw _ (by decide +kernel),eW F.entry_type_call ?_⟩))
 rw[Around.under_plain (weight_type_call_type "set" [.ref l] []) rfl]
 repeat (any_goals (first|assumption|wp_step))
 refine d8 (code_set_new_1 (.ref l) (E:=E) (Q₁:=λobj s₁=>∃led:Bool,obj=.ref s.heap.objs.size/\s₁={s with heap:=s.heap.push (C9 led)}) λled=>⟨led,rfl,rfl⟩) λr s₁ hr=>?_
 cases r with
 |error e=>exact hr
 |ok fl=>
  cases fl with
  |ret obj=>
   obtain⟨led,rfl,rfl⟩:=hr
   have new:(s.heap.push (C9 led)).get? s.heap.objs.size=some (C9 led):=aE _ rfl
   have ty:Shared.TypeIs {s with heap:=s.heap.push (C9 led)} (.ref s.heap.objs.size) "set" := ⟨_,new,rfl⟩
   have m6:=F.called_set.init.lookup
   have m7:=F.called_set.init.bind (.ref s.heap.objs.size)
   repeat (any_goals (first|assumption|wp_step))
   refine d8 (eK (R:=wants (λr s₂=>r=.none/\∃h' tk,s₂={s with heap:=h',toks:=tk}/\Gw knd h' s.heap.objs.size ks/\(∀b o,b<s.heap.objs.size->s.heap.get? b=some o->h'.get? b=some o)) E) F.called_set.init.plain F.entry_set_init (check_set_init_1 ty ?_)) λr2 s2 hr2=>?_
   .obtain⟨⟨oc,odict,od,osl⟩,ol,hc,n,hd⟩:=hl
    subst hc;subst hd
    have lt:=aG ol
    have ol2:(s.heap.push (C9 led)).get? l=some {cls:=.type "list", dict:=odict,data:=.seq ψ n,slots:=osl}:=ah _ ol
    have m8:=F.sub_list_set
    have m9:=F.sub_list_frozenset
    have m10:(jt "list" == jt "dict")=false:=by decide
    have isl:(s.heap.push (C9 led)).IsList l ψ:=⟨_,ol2,rfl,n,rfl⟩
    have size:(s.heap.push (C9 led)).objs.size=s.heap.objs.size+1:=cR ..
    unfold a_.«set.__init__» noKeywords Builtin.Frozenset.updateFrom
    generalize hPI:mN=PI
    wp_walk
    subst hPI
    refine jx isl (af (lB ?_))
    have quiet:A.in1.in1.in1.handled=none:=by simp[hh]
    have ne1:l≠(s.heap.push (C9 led)).objs.size:=size▸aN (dG lt)
    have out:s.heap.objs.size∉[(s.heap.push (C9 led)).objs.size,l]:=by
     simp only[size,aD,ce,or_false,not_or]
     exact⟨aN (cf _),fj lt⟩
    have W:=(Walks.list (prog:=prog) (w:=w) quiet (s.heap.push (C9 led)).objs.size l ne1 ψ).toS
    rw[hs] at W
    refine T7 (ks:=ks) W s.heap.objs.size out hv few ks.length 0 _ (dn _) ⟨⟨_,aE _ rfl,rfl,rfl⟩,isl.push _⟩ ?_ λs' mv fl=>?_
    .exact (setObjOf_fresh (knd:=knd) led).setOf (ah _ new) (by unfold scanBound;omega)
    .obtain⟨h',g',d',tk',os'⟩:=s'
     have e1:g'=s.gens:=mv.gens
     have e2:d'=s.drawn:=mv.drawn
     have e3:os'=s.os:=mv.os
     subst e1;subst e2;subst e3
     refine(show aR _ _ _ _ _ _ from am (show aR _ _ (ret bI) _ _ _ from am ⟨rfl,h',tk',rfl,fl,λb o hb e=>?_⟩))
     refine mv.heap b o ?_ (ah _ (ah _ e))
     simp only[size,aD,ce,or_false,not_or]
     exact⟨aN hb,aN (dG hb)⟩
   .cases r2 with
    |error e=>exact hr2
    |ok f2=>
     cases f2 with
     |ret r=>
      obtain⟨rfl,h',tk,rfl,fl,kept⟩:=hr2
      repeat (any_goals (first|assumption|wp_step))
      exact h _ _ fl kept
     |_=>exact hr2.elim
  |_=>exact hr.elim
end
end PySem
namespace L2
open PySem PySem.Spec PyProof.Rows
section
variable {X:Cx}{e:Expr}{de:DE}{p p2 pos pos2:Pos}
def Le(K:ac):V->Hp->VK->Prop:=λx H Q=>match x with
 |.ref l=>∃ys,SqL K H l (ys.map V.str)/\ys.length<30/\Q (.int (Fh ys).length) H
 |_=>False
theorem Y0:∀{ys:List Str}{us:List Value}{i:Nat}{v:Value},Vals (ys.map V.str) us->us[i]?=some v -> ∃k t,ys[i]?=some k/\v=.str k t
 |[],_,i,v,r,e=>by rw[fg] at r;cases r;simp at e
 | y::ys,_,i,v,r,e=>by
  rw[aT] at r
  cases r with
  |cons r1 r2=>
   obtain⟨t,rfl⟩:=r1
   cases i with
   |zero=>simp only[fw,h_] at e;exact⟨y,t,rfl,e.symm⟩
   |succ i=>simp only[bK] at e ⊢;exact Y0 r2 e
def a15(hc:X.calm=true)(I:Inv X ξ σ H s)(rx:RelV x u)(h:Le X.K x H Q) :
  aR (model X.prog X.w) X.A (call (.type "set") [u]) (λv s1=>aR (model X.prog X.w) X.A (call (.builtin "len") [v]) (EP X ξ σ Q) X.xe s1) X.xe s:=by
 cases x with
 |ref l=>
  cases rx
  obtain⟨ys,hq,few,q⟩:=h
  obtain⟨χ,rv,pl,hz⟩:=I.list hq
  have hl:χ.length=ys.length:=by rw[<- rv.length,ae]
  refine bG (ag _) (T8 (knd:=PySem.strKind X.prog X.w) (I.ok.hd hc) pl.isList (λi v e=>?_) (hl) (by unfold scanBound;omega) λh' tk fl kept htk=>?_)
  .obtain⟨k,t,ek,rfl⟩:=Y0 rv (by simpa using e)
   exact⟨k,ek,by show jJ k (.str k t)=true;simp[jJ],rfl⟩
  .have I1:=I.kept (t':=tk) λb o e=>kept b o (aG e) e
   obtain⟨o,es,ep,t,ho,hex,hd,hel,hmem,hb,hf,hn⟩:=fl
   refine call_len_set ho hex hd hf ?_ ?_
   .have:=Td ys
    rw[hn];omega
   .rw[hn]
    exact⟨.int _,H,I1.tok _,⟨_,rfl⟩,q⟩
 |_=>exact(h).elim
end
section
variable {X:Cx}
def bc2(K:ac):R2:=λx y H Q=>∃a b ys,x=.ref a/\y=.ref b/\SqT K H a []/\SqT K H b ys/\Q (.ref b) H
def a30:OpR X (dO .Add) (bc2 X.K):=by
 intro ξ s σ H x y v u Q I rx ry h
 obtain⟨a,b,ys,rfl,rfl,ha,hb,q⟩:=h
 cases rx
 cases ry
 obtain⟨χ,r1,p1,_⟩:=I.tuple ha
 obtain⟨its2,r2,p2,_⟩:=I.tuple hb
 cases r1
 obtain⟨⟨c1,d1,da1,s1⟩,ho,hc,n,hd⟩:=p1
 obtain⟨⟨c2,d2,da2,s2⟩,ho2,hc2,n2,hd2⟩:=p2
 subst hc hd hc2 hd2
 exact mr ⟨_,ho,rfl⟩ ⟨_,ho2,rfl⟩ jR lX g_ gY (gR _ _)
   (tuple_addW0 a b _ _ n n2 d1 d2 s1 s2 rfl) ⟨ho,ho2,⟨.ref b,H,I,rfl,q⟩⟩
def Hu(hu:X.A.units+64<cLine):IxR X (λx y H Q=>∃a v,x=.ref a/\DGet H a y (some v)/\Q v H):=by
 intro value slice ξ s σ H x y v u Q I rx ry h hs
 obtain⟨a,w',rfl,g,q⟩:=h
 cases rx
 exact tail_any (Sc I g) PySem.F.slot_dict_getitem.lookup (Ze (by omega) I g ry λw1 s' I' r'=>⟨w',H,I',r',q⟩) hs
end
section
variable {X:Cx}{ξ:List (Addr×Obj)}{σ:St}{H:Hp}{s:aw}{Q:VK}
theorem Y2:∀{ys}{us:List Value},ys.length=us.length->(∀(i:Nat) y u,ys[i]?=some y->us[i]?=some u->RelV y u)->Vals ys us
 |[],[],_,_=>.nil
 |y::ys,u::us,hl,h=>.cons (h 0 y u rfl rfl) (Y2 (by simpa using hl) λi y u e1 e2=>h (i+1) y u (by rw[bK];exact e1) (by rw[bK];exact e2))
 |[],_::_,hl,_=>by simp at hl
 |_::_,[],hl,_=>by simp at hl
def Ml:V->Hp->VK->Prop:=λx H Q=>match x with
 |.int n=>n<=1000 /\ -(2^62)<=n/\∀D,H D=none->Q (.ref D) (upd H D (.lst ((aV n.toNat).map λi:Nat=>V.int (i:Int))))
 |_=>False
def al1(hc:X.calm=true)(I:Inv X ξ σ H s)(hn:n<=1000)(h0:-(2^62)<=n)(q:∀D,H D=none->Q (.ref D) (upd H D (.lst ((aV n.toNat).map λi:Nat=>V.int (i:Int))))) :
  aR (model X.prog X.w) X.A (call (.type "range") [.int n t]) (λv s1=>aR (model X.prog X.w) X.A (call (.type "list") [v]) (EP X ξ σ Q) X.xe s1) X.xe s:=by
 refine call_range_1 ?_
 have zv:(s.heap.push {cls:=.type "range", data:=.fields #[.int 0 s.toks,.int n t,.int 1 (s.toks+1)]}).objs.size=s.heap.objs.size+1:=cR ..
 have hr:IsRange (s.heap.push {cls:=.type "range", data:=.fields #[.int 0 s.toks,.int n t,.int 1 (s.toks+1)]}) s.heap.objs.size 0 n 1 s.toks t (s.toks+1):=IsRange.new ..
 have on1:∀b o,s.heap.get? b=some o->(s.heap.push {cls:=.type "range", data:=.fields #[.int 0 s.toks,.int n t,.int 1 (s.toks+1)]}).get? b=some o:=λb o q=>ah _ q
 generalize s.heap.push {cls:=.type "range", data:=.fields #[.int 0 s.toks,.int n t,.int 1 (s.toks+1)]}=h1 at zv hr on1 ⊢
 refine bG (show s.toks<=s.toks+1+1 by omega) (call_list_range (I.ok.hd hc) hr (small_one (by omega) (by omega) (by omega) (by omega)) (rangeSize_nat _ _) (by omega) λh' tk acc c k e it htk=>?_)
 rw[zv] at e ⊢
 rw[Int.sub_zero] at it
 refine⟨.ref (s.heap.objs.size+1),_,I.laid (λb o q=>k b o (on1 b o q)) (cM _) (show ObjOk X.prog X.w _ h' _ (.lst ((aV n.toNat).map λi:Nat=>V.int (i:Int))) from⟨?_,acc.toList,c,Y2 ?_ λi y u e1 e2=>?_,by simpa using e⟩),rfl,q _ (I.hok.fresh (cM _))⟩
 .rw[ae,bo]
  exact aU (show n.toNat<=1000 by omega) (by decide)
 .rw[ae,bo,bU,it.1]
 .rw[cw] at e2
  obtain⟨tt,ev⟩:=it.2 i u e2
  have hi:i<n.toNat:=by
   have:=(Array.getElem?_eq_some_iff.mp e2).1
   rw[it.1] at this
   exact this
  rw[ak,fA hi] at e1
  cases e1
  exact⟨tt,by rw[ev];congr 1;omega⟩
end
open Sem (wp)
section
variable {X:Cx}{e:Expr}{te:TE}{pos:Pos}
def V1(K:ac)(R:EK):VK:=λx H=>match x with
 |.ref a=>∃C dx,H a=some (Fn a C dx)/\ECls K C/\R a (upd H a (flO a C dx))
 |_=>False
def ap0(m:Meets X Ex)(hh:X.A.handled=none)(he:PE X e te):PS X (.Raise (some e) none pos) (λ_ σ H=>te σ H (V1 X.K (Ex σ))):=by
 intro ξ s σ H D I h
 rw[arm_exec_Raise]
 refine af (d9 ?_)
 refine af (af (thn (he ξ s σ H _ I h) λv s1 ⟨x,H1,I1,r1,q1⟩=>af (d9 (am ?_))))
 cases x with
 |ref a=>
  cases r1
  obtain⟨C,dx,ea,c,q⟩:=q1
  obtain⟨vs,g1,g2,g3,g4⟩:=P3 I1 ea
  obtain⟨nm,qn,N,bs,bm,hdct,sn,sub,ab,col,dd,k0,k1,k2,k3,k5,hl,ht,hd⟩:=c.obj
  have hC:=I1.kIn _ _ hl
  have hb:bm.contains (.type "BaseException")=true:=Cb ht (by decide +kernel)
  have I2:Inv X ξ σ (upd H1 a (flO a C dx)) s1:=by
   have:=I1.write (by rw[ea];exact aP) (.inl rfl) (λb u _ z=>z) ⟨_,g1⟩ (aj0 g1 g2 g4)
   exact this
  have hx:=m ξ σ _ s1 a I2 ⟨C,dx,vs,.inl Aa,g1,g2,.inl g3⟩ q
  have hcB:(aX C::bm).contains (.type "BaseException")=true:=by rw[bQ,hb,fQ]
  obtain⟨hp,g,d,tk,os⟩:=s1
  repeat (first|with_reducible refine gO g1 rfl g3 ?_|with_reducible refine bL g1 ?_|with_reducible refine bL hC ?_|(with_reducible refine cO hC ?_;rw[hcB])|wp_step)
  exact wpAny_raiseNew_none hh hx
 |_=>exact(q1).elim
end
end L2
namespace L2
open PySem PySem.Spec PyProof.Rows
inductive Dt where
 |at_ (v:V)
 |lst (l:List Dt)
 |tup (l:List Dt)
mutual
def deq:Dt->Dt->Bool
 |.at_ v,.at_ w=>eqV v w
 |.lst xs,.lst ys=>Fg xs ys
 |.tup xs,.tup ys=>Fg xs ys
 |_,_=>false
def Fg:List Dt->List Dt->Bool
 |[],[]=>true
 |x::xs,y::ys=>deq x y&&Fg xs ys
 |_,_=>false
end
mutual
def dep:Dt->Nat
 |.at_ _=>0
 |.lst l=>Eg l+1
 |.tup l=>Eg l+1
def Eg:List Dt->Nat
 |[]=>0
 |x::xs=>Nat.max (dep x) (Eg xs)
end
mutual
def At(K:ac)(H:Hp):Dt->V->Prop
 |.at_ v,x=>x=v/\Br v=true
 |.lst ds,x=>∃a xs,x=.ref a/\SqL K H a xs/\AtL K H ds xs
 |.tup ds,x=>∃a xs,x=.ref a/\SqT K H a xs/\AtL K H ds xs
def AtL(K:ac)(H:Hp):List Dt->List V->Prop
 |[],xs=>xs=[]
 |d::ds,xs=>∃y ys,xs=y::ys/\At K H d y/\AtL K H ds ys
end
theorem AtL.length{K:ac}{H:Hp}:∀{ds:List Dt}{xs:List V},AtL K H ds xs->xs.length=ds.length
 |[],xs,h=>by unfold AtL at h;subst h;rfl
 | d::ds,xs,h=>by
  unfold AtL at h
  obtain⟨y,ys,rfl,_,h2⟩:=h
  rw[aK,aK,AtL.length h2]
def ai7(h:Br v=true):eqV v v=true:=by
 cases v <;> first|rfl|(exact beq_self_eq_true _)|exact absurd (show false=true from h) aC
mutual
theorem Fk{K:ac}{H:Hp}:∀{d:Dt}{x:V},At K H d x->deq d d=true
 |.at_ v,x,h=>by unfold At at h;unfold deq;exact ai7 h.2
 |.lst l,x,h=>by unfold At at h;obtain⟨a,xs,_,_,h⟩:=h;unfold deq;exact Je h
 |.tup l,x,h=>by unfold At at h;obtain⟨a,xs,_,_,h⟩:=h;unfold deq;exact Je h
theorem Je{K:ac}{H:Hp}:∀{ds:List Dt}{xs:List V},AtL K H ds xs->Fg ds ds=true
 |[],xs,h=>by unfold Fg;rfl
 | d::ds,xs,h=>by
  unfold AtL at h
  obtain⟨y,ys,rfl,h1,h2⟩:=h
  unfold Fg
  rw[Fk h1,Je h2]
  rfl
end
theorem Fl:∀{xs ys:List Dt},xs.length≠ys.length->Fg xs ys=false
 |[],[],h=>absurd rfl h
 |[],_::_,_=>by unfold Fg;rfl
 |_::_,[],_=>by unfold Fg;rfl
 | x::xs,y::ys,h=>by
  unfold Fg
  rw[Fl (xs:=xs) (ys:=ys) (λe=>h (by rw[aK,aK,e])),ij]
theorem Dx(z:Dt):∀{xs ys:List Dt},xs.length=ys.length->Fg xs ys=(aV xs.length).all λj=>deq (xs.getD j z) (ys.getD j z)
 |[],[],_=>by unfold Fg;rfl
 |[],_::_,h=>by simp at h
 |_::_,[],h=>by simp at h
 | x::xs,y::ys,h=>by
  unfold Fg
  rw[aK,List.range_succ_eq_map,cb,ip,Dx z (xs:=xs) (ys:=ys) (by simpa using h)]
  rfl
section
variable {X:Cx}{ξ:List (Addr×Obj)}{σ:St}{H:Hp}{s:aw}
def Tk(I:Inv X ξ σ H s)(h:SqL X.K H a xs)(h':SqT X.K H a ys):False:=by
 obtain⟨χ,r,⟨o,n,e,c,_,d⟩,_⟩:=I.list h
 obtain⟨its',r',⟨o',e',c',n',d'⟩,_⟩:=I.tuple h'
 rw[e] at e';cases e'
 rw[c] at c'
 injection c' with c'
 exact absurd c' (by decide)
mutual
theorem Up(I:Inv X ξ σ H s):∀{d d':Dt}{x:V},At X.K H d x->At X.K H d' x->d=d'
 |.at_ v,.at_ w,x,h,h'=>by unfold At at h h';rw[<- h.1,<- h'.1]
 | .at_ v,.lst l,x,h,h'=>by
  unfold At at h h'
  obtain⟨a,xs,rfl,_⟩:=h'
  rw[<- h.1] at h
  exact absurd (show false=true from h.2) aC
 | .at_ v,.tup l,x,h,h'=>by
  unfold At at h h'
  obtain⟨a,xs,rfl,_⟩:=h'
  rw[<- h.1] at h
  exact absurd (show false=true from h.2) aC
 | .lst l,.at_ v,x,h,h'=>by
  unfold At at h h'
  obtain⟨a,xs,rfl,_⟩:=h
  rw[<- h'.1] at h'
  exact absurd (show false=true from h'.2) aC
 | .tup l,.at_ v,x,h,h'=>by
  unfold At at h h'
  obtain⟨a,xs,rfl,_⟩:=h
  rw[<- h'.1] at h'
  exact absurd (show false=true from h'.2) aC
 | .lst l,.lst l',x,h,h'=>by
  unfold At at h h'
  obtain⟨a,xs,rfl,q,h⟩:=h
  obtain⟨a',xs',e,q',h'⟩:=h'
  cases e
  rw[I.list_inj q q'] at h
  rw[Pi I h h']
 | .tup l,.tup l',x,h,h'=>by
  unfold At at h h'
  obtain⟨a,xs,rfl,q,h⟩:=h
  obtain⟨a',xs',e,q',h'⟩:=h'
  cases e
  rw[I.tuple_inj q q'] at h
  rw[Pi I h h']
 | .lst l,.tup l',x,h,h'=>by
  unfold At at h h'
  obtain⟨a,xs,rfl,q,h⟩:=h
  obtain⟨a',xs',e,q',h'⟩:=h'
  cases e
  exact(Tk I q q').elim
 | .tup l,.lst l',x,h,h'=>by
  unfold At at h h'
  obtain⟨a,xs,rfl,q,h⟩:=h
  obtain⟨a',xs',e,q',h'⟩:=h'
  cases e
  exact(Tk I q' q).elim
theorem Pi(I:Inv X ξ σ H s):∀{ds ds':List Dt}{xs:List V},AtL X.K H ds xs->AtL X.K H ds' xs->ds=ds'
 |[],[],_,_,_=>rfl
 |[],_::_,_,h,h'=>by unfold AtL at h h';obtain⟨y,ys,e,_⟩:=h';rw[h] at e;cases e
 |_::_,[],_,h,h'=>by unfold AtL at h h';obtain⟨y,ys,e,_⟩:=h;rw[h'] at e;cases e
 | d::ds,d'::ds',xs,h,h'=>by
  unfold AtL at h h'
  obtain⟨y,ys,rfl,h1,h2⟩:=h
  obtain⟨y',ys',e,h1',h2'⟩:=h'
  cases e
  rw[Up I h1 h1',Pi I h2 h2']
end
def Oi{A:bF}{v:V}{u:Value}{a:Addr}{χ:Array Value}(f:Br v=true)(r:RelV v u)(hl:s.heap.IsList a χ)(hu:A.units<cLine):bB A s u (.ref a) false/\bB A s (.ref a) u false:=by
 cases v with
 |non=>cases r;exact⟨.none_list hl hu,.list_none hl hu⟩
 |bl b=>cases r;exact⟨.bool_list b hl hu,.list_bool b hl hu⟩
 |int i=>obtain⟨t,rfl⟩:=r;exact⟨.int_list i t hl hu,.list_int i t hl hu⟩
 |str i=>obtain⟨t,rfl⟩:=r;exact⟨.str_list i t hl hu,.list_str i t hl hu⟩
 |_=>exact absurd (show false=true from f) aC
def Lp{A:bF}{v:V}{u:Value}{a:Addr}{χ:Array Value}(f:Br v=true)(r:RelV v u)(hl:s.heap.IsTuple a χ)(hu:A.units<cLine):bB A s u (.ref a) false/\bB A s (.ref a) u false:=by
 cases v with
 |non=>cases r;exact⟨.none_tuple hl hu,.tuple_none hl hu⟩
 |bl b=>cases r;exact⟨.bool_tuple b hl hu,.tuple_bool b hl hu⟩
 |int i=>obtain⟨t,rfl⟩:=r;exact⟨.int_tuple i t hl hu,.tuple_int i t hl hu⟩
 |str i=>obtain⟨t,rfl⟩:=r;exact⟨.str_tuple i t hl hu,.tuple_str i t hl hu⟩
 |_=>exact absurd (show false=true from f) aC
mutual
theorem bg7(I:Inv X ξ σ H s):∀(d d':Dt)(A:bF)(x y:V)(u v:Value),At X.K H d x->At X.K H d' y->RelV x u->RelV y v->A.units+dep d<cLine->bB A s u v (deq d d')
 | .at_ p,.at_ q,A,x,y,u,v,h,h',r,r',hu=>by
  unfold At at h h';unfold deq
  obtain⟨rfl,f⟩:=h
  obtain⟨rfl,f'⟩:=h'
  exact P1 r r' f f'
 | .at_ p,.lst l,A,x,y,u,v,h,h',r,r',hu=>by
  unfold At at h h';unfold deq
  obtain⟨rfl,f⟩:=h
  obtain⟨a,xs,rfl,q,_⟩:=h'
  obtain⟨χ,_,pl,_⟩:=I.list q
  cases r'
  exact(Oi f r pl.isList (by omega)).1
 | .at_ p,.tup l,A,x,y,u,v,h,h',r,r',hu=>by
  unfold At at h h';unfold deq
  obtain⟨rfl,f⟩:=h
  obtain⟨a,xs,rfl,q,_⟩:=h'
  obtain⟨χ,_,pl,_⟩:=I.tuple q
  cases r'
  exact(Lp f r pl (by omega)).1
 | .lst l,.at_ p,A,x,y,u,v,h,h',r,r',hu=>by
  unfold At at h h';unfold deq
  obtain⟨rfl,f⟩:=h'
  obtain⟨a,xs,rfl,q,_⟩:=h
  obtain⟨χ,_,pl,_⟩:=I.list q
  cases r
  exact(Oi f r' pl.isList (by omega)).2
 | .tup l,.at_ p,A,x,y,u,v,h,h',r,r',hu=>by
  unfold At at h h';unfold deq
  obtain⟨rfl,f⟩:=h'
  obtain⟨a,xs,rfl,q,_⟩:=h
  obtain⟨χ,_,pl,_⟩:=I.tuple q
  cases r
  exact(Lp f r' pl (by omega)).2
 | .lst l,.tup l',A,x,y,u,v,h,h',r,r',hu=>by
  unfold At at h h';unfold deq
  obtain⟨a,xs,rfl,q,_⟩:=h
  obtain⟨b,ys,rfl,q',_⟩:=h'
  obtain⟨χ,_,pl,_⟩:=I.list q
  obtain⟨its',_,pl',_⟩:=I.tuple q'
  cases r;cases r'
  exact .list_tuple pl.isList pl' (by omega)
 | .tup l,.lst l',A,x,y,u,v,h,h',r,r',hu=>by
  unfold At at h h';unfold deq
  obtain⟨a,xs,rfl,q,_⟩:=h
  obtain⟨b,ys,rfl,q',_⟩:=h'
  obtain⟨χ,_,pl,_⟩:=I.tuple q
  obtain⟨its',_,pl',_⟩:=I.list q'
  cases r;cases r'
  exact .tuple_list pl pl'.isList (by omega)
 | .lst l,.lst l',A,x,y,u,v,h,h',r,r',hu=>by
  by_cases e:x=y
  .subst e
   have:=Up I h h'
   rw[<- this,Fk h]
   have hx:∃a,x=.ref a:=by unfold At at h;obtain⟨a,_,e,_⟩:=h;exact⟨a,e⟩
   obtain⟨a,rfl⟩:=hx
   cases r;cases r'
   exact .same _
  .unfold At at h h';unfold deq
   unfold dep at hu
   obtain⟨a,xs,rfl,q,h⟩:=h
   obtain⟨b,ys,rfl,q',h'⟩:=h'
   obtain⟨χ,ri,pl,_⟩:=I.list q
   obtain⟨its',ri',pl',_⟩:=I.list q'
   cases r;cases r'
   have ne:a≠b:=λz=>e (by rw[z])
   have e1:=h.length
   have e2:=h'.length
   have e3:=ri.length
   have e4:=ri'.length
   refine .of_refs ne ?_
   by_cases hl:l.length=l'.length
   .rw[Dx (.lst []) hl]
    have hsz:χ.toArray.size=l.length:=by simp;omega
    rw[<- hsz]
    exact .lists pl.isList pl'.isList (by simp;omega) (by omega) λj h1 h2=>by
     have:=Hl I l l' A.in1 xs ys χ its' h h' ri ri' (by show A.units+1+Eg l<cLine;omega) j (by simpa using h1) (by simpa using h2)
     simpa using this
   .rw[Fl hl]
    exact .lists_lengths pl.isList pl'.isList (by simp;omega) (by omega)
 | .tup l,.tup l',A,x,y,u,v,h,h',r,r',hu=>by
  by_cases e:x=y
  .subst e
   have:=Up I h h'
   rw[<- this,Fk h]
   have hx:∃a,x=.ref a:=by unfold At at h;obtain⟨a,_,e,_⟩:=h;exact⟨a,e⟩
   obtain⟨a,rfl⟩:=hx
   cases r;cases r'
   exact .same _
  .unfold At at h h';unfold deq
   unfold dep at hu
   obtain⟨a,xs,rfl,q,h⟩:=h
   obtain⟨b,ys,rfl,q',h'⟩:=h'
   obtain⟨χ,ri,pl,_⟩:=I.tuple q
   obtain⟨its',ri',pl',_⟩:=I.tuple q'
   cases r;cases r'
   have ne:a≠b:=λz=>e (by rw[z])
   have e1:=h.length
   have e2:=h'.length
   have e3:=ri.length
   have e4:=ri'.length
   refine .of_refs ne ?_
   have T:=js (A:=A) (s:=s) (e:=λj=>deq (l.getD j (.lst [])) (l'.getD j (.lst []))) pl pl' (by omega) λj h1 h2=>by
     have:=Hl I l l' A.in1 xs ys χ its' h h' ri ri' (by show A.units+1+Eg l<cLine;omega) j (by simpa using h1) (by simpa using h2)
     simpa using this
   by_cases hl:l.length=l'.length
   .rw[Dx (.lst []) hl]
    have hsz:χ.toArray.size=l.length:=by simp;omega
    have hsz':its'.toArray.size=l.length:=by simp;omega
    rw[hsz,hsz',mn,beq_self_eq_true,gS] at T
    exact T
   .rw[Fl hl]
    have hne:(χ.toArray.size==its'.toArray.size)=false:=by
     rw[beq_eq_false_iff_ne];simp;omega
    rw[hne,ij] at T
    exact T
theorem Hl(I:Inv X ξ σ H s):∀(ds ds':List Dt)(A:bF)(xs ys:List V)(us vs:List Value),AtL X.K H ds xs->AtL X.K H ds' ys->Vals xs us->Vals ys vs->A.units+Eg ds<cLine ->
  ∀(j:Nat)(h1:j<us.length)(h2:j<vs.length),bB A s us[j] vs[j] (deq (ds.getD j (.lst [])) (ds'.getD j (.lst [])))
 | [],_,A,xs,ys,us,vs,h,h',r,r',hu=>λj h1 h2=>by
  unfold AtL at h
  subst h
  cases r
  cases h1
 | _::_,[],A,xs,ys,us,vs,h,h',r,r',hu=>λj h1 h2=>by
  unfold AtL at h'
  subst h'
  cases r'
  cases h2
 | d::ds,d'::ds',A,xs,ys,us,vs,h,h',r,r',hu=>λj h1 h2=>by
  unfold AtL at h h'
  obtain⟨y,ys,rfl,q1,q2⟩:=h
  obtain⟨z,zs,rfl,q1',q2'⟩:=h'
  cases r with
  |cons r1 r2=>
   cases r' with
   |cons r1' r2'=>
    unfold Eg at hu
    have m1:dep d<=Nat.max (dep d) (Eg ds):=Nat.le_max_left _ _
    have m2:Eg ds<=Nat.max (dep d) (Eg ds):=Nat.le_max_right _ _
    cases j with
    |zero=>exact bg7 I d d' A _ _ _ _ q1 q1' r1 r1' (by omega)
    |succ j=>exact Hl I ds ds' A _ _ _ _ q2 q2' r2 r2' (by omega) j (by simpa using h1) (by simpa using h2)
end
def Gf{K:ac}{d:Dt}{a:Addr}(h:At K H d (.ref a)):(∃l xs,d=.lst l/\SqL K H a xs/\AtL K H l xs)\/(∃l xs,d=.tup l/\SqT K H a xs/\AtL K H l xs):=by
 cases d with
 |at_ v=>
  unfold At at h
  rw[<- h.1] at h
  exact absurd (show false=true from h.2) aC
 |lst l=>unfold At at h;obtain⟨b,xs,e,q,h⟩:=h;cases e;exact .inl ⟨l,xs,rfl,q,h⟩
 |tup l=>unfold At at h;obtain⟨b,xs,e,q,h⟩:=h;cases e;exact .inr ⟨l,xs,rfl,q,h⟩
def Tj{K:ac}{d:Dt}{x:V}(h:At K H d x)(f:∀a,x≠.ref a):d=.at_ x/\Br x=true:=by
 cases d with
 |at_ v=>unfold At at h;rw[h.1];exact⟨rfl,h.2⟩
 |lst l=>unfold At at h;obtain⟨b,xs,e,_⟩:=h;exact absurd e (f b)
 |tup l=>unfold At at h;obtain⟨b,xs,e,_⟩:=h;exact absurd e (f b)
def cb7(I:Inv X ξ σ H s){A:bF}{d d':Dt}{a b:Addr}(h:At X.K H d (.ref a))(h':At X.K H d' (.ref b))(hu:A.units+dep d<cLine):ic A s (.ref a) (.ref b) (deq d d')/\f9 A s (.ref a) (.ref b) (!deq d d'):=by
 rcases Gf h with⟨l,xs,rfl,q,h⟩|⟨l,xs,rfl,q,h⟩
 .rcases Gf h' with⟨l',ys,rfl,q',h'⟩|⟨l',ys,rfl,q',h'⟩
  .unfold deq
   unfold dep at hu
   obtain⟨χ,ri,pl,_⟩:=I.list q
   obtain⟨its',ri',pl',_⟩:=I.list q'
   have e1:=h.length
   have e2:=h'.length
   have e3:=ri.length
   have e4:=ri'.length
   have it:∀j (h1:j<χ.toArray.size) (h2:j<its'.toArray.size),bB A.in1 s χ.toArray[j] its'.toArray[j] (deq (l.getD j (.lst [])) (l'.getD j (.lst []))):=λj h1 h2=>by
    have:=Hl I l l' A.in1 xs ys χ its' h h' ri ri' (by show A.units+1+Eg l<cLine;omega) j (by simpa using h1) (by simpa using h2)
    simpa using this
   by_cases hl:l.length=l'.length
   .rw[Dx (.lst []) hl]
    have hsz:χ.toArray.size=l.length:=by simp;omega
    rw[<- hsz]
    exact⟨.lists pl.isList pl'.isList (by simp;omega) (by omega) it,.lists pl.isList pl'.isList (by simp;omega) (by omega) it⟩
   .rw[Fl hl]
    exact⟨.lists_lengths pl.isList pl'.isList (by simp;omega) (by omega),.lists_lengths pl.isList pl'.isList (by simp;omega) (by omega)⟩
  .unfold deq
   obtain⟨χ,ri,pl,_⟩:=I.list q
   obtain⟨its',ri',pl',_⟩:=I.tuple q'
   exact⟨.list_tuple pl.isList pl' (by omega),.list_tuple pl.isList pl' (by omega)⟩
 .rcases Gf h' with⟨l',ys,rfl,q',h'⟩|⟨l',ys,rfl,q',h'⟩
  .unfold deq
   obtain⟨χ,ri,pl,_⟩:=I.tuple q
   obtain⟨its',ri',pl',_⟩:=I.list q'
   exact⟨.tuple_list pl pl'.isList (by omega),.tuple_list pl pl'.isList (by omega)⟩
  .unfold deq
   unfold dep at hu
   obtain⟨χ,ri,pl,_⟩:=I.tuple q
   obtain⟨its',ri',pl',_⟩:=I.tuple q'
   have e1:=h.length
   have e2:=h'.length
   have e3:=ri.length
   have e4:=ri'.length
   have it:∀j (h1:j<χ.toArray.size) (h2:j<its'.toArray.size),bB A.in1 s χ.toArray[j] its'.toArray[j] (deq (l.getD j (.lst [])) (l'.getD j (.lst []))):=λj h1 h2=>by
    have:=Hl I l l' A.in1 xs ys χ its' h h' ri ri' (by show A.units+1+Eg l<cLine;omega) j (by simpa using h1) (by simpa using h2)
    simpa using this
   have T:=js pl pl' (by omega) it
   have T':=SeqAt.RcNeAt.tuples pl pl' (by omega) it
   by_cases hl:l.length=l'.length
   .rw[Dx (.lst []) hl]
    have hsz:χ.toArray.size=l.length:=by simp;omega
    have hsz':its'.toArray.size=l.length:=by simp;omega
    rw[hsz,hsz',mn,beq_self_eq_true,gS] at T T'
    exact⟨T,T'⟩
   .rw[Fl hl]
    have hne:(χ.toArray.size==its'.toArray.size)=false:=by
     rw[beq_eq_false_iff_ne];simp;omega
    rw[hne,ij] at T T'
    exact⟨T,T'⟩
def Yr(I:Inv X ξ σ H s){A:bF}{d:Dt}{a:Addr}{v:V}{u:Value}(h:At X.K H d (.ref a))(f:Br v=true)(r:RelV v u)(hu:A.units<cLine) :
  ic A s (.ref a) u false/\f9 A s (.ref a) u true/\ic A s u (.ref a) false/\f9 A s u (.ref a) true:=by
 rcases Gf h with⟨l,xs,rfl,q,h⟩|⟨l,xs,rfl,q,h⟩
 .obtain⟨χ,ri,pl,_⟩:=I.list q
  cases v with
  |non=>cases r;exact⟨.list_none pl.isList hu,.list_none pl.isList hu,.none_list pl.isList hu,.none_list pl.isList hu⟩
  |bl b=>cases r;exact⟨.list_bool b pl.isList hu,.list_bool b pl.isList hu,.bool_list b pl.isList hu,.bool_list b pl.isList hu⟩
  |int b=>obtain⟨t,rfl⟩:=r;exact⟨.list_int b t pl.isList hu,.list_int b t pl.isList hu,.int_list b t pl.isList hu,.int_list b t pl.isList hu⟩
  |str b=>obtain⟨t,rfl⟩:=r;exact⟨.list_str b t pl.isList hu,.list_str b t pl.isList hu,.str_list b t pl.isList hu,.str_list b t pl.isList hu⟩
  |_=>exact absurd (show false=true from f) aC
 .obtain⟨χ,ri,pl,_⟩:=I.tuple q
  cases v with
  |non=>cases r;exact⟨.tuple_none pl hu,.tuple_none pl hu,.none_tuple pl hu,.none_tuple pl hu⟩
  |bl b=>cases r;exact⟨.tuple_bool b pl hu,.tuple_bool b pl hu,.bool_tuple b pl hu,.bool_tuple b pl hu⟩
  |int b=>obtain⟨t,rfl⟩:=r;exact⟨.tuple_int b t pl hu,.tuple_int b t pl hu,.int_tuple b t pl hu,.int_tuple b t pl hu⟩
  |str b=>obtain⟨t,rfl⟩:=r;exact⟨.tuple_str b t pl hu,.tuple_str b t pl hu,.str_tuple b t pl hu,.str_tuple b t pl hu⟩
  |_=>exact absurd (show false=true from f) aC
def aq8(K:ac)(neg:Bool):R2:=λx y H Q=>∃d d',At K H d x/\At K H d' y/\dep d<=40/\Q (.bl (if neg then !deq d d' else deq d d')) H
def ar5(I:Inv X ξ σ H s){A:bF}{d d':Dt}{x y:V}{u v:Value}(h:At X.K H d x)(h':At X.K H d' y)(r:RelV x u)(r':RelV y v)(hr:(∃a,x=.ref a) \/ ∃b,y=.ref b)(hu:A.units+dep d<cLine) :
  ic A s u v (deq d d')/\f9 A s u v (!deq d d'):=by
 by_cases hx:∃a,x=.ref a
 .obtain⟨a,rfl⟩:=hx
  cases r
  by_cases hy:∃b,y=.ref b
  .obtain⟨b,rfl⟩:=hy
   cases r'
   exact cb7 I h h' hu
  .obtain⟨rfl,f⟩:=Tj h' (λb e=>hy ⟨b,e⟩)
   obtain⟨q1,q2,_⟩:=Yr I h f r' (show A.units<cLine by omega)
   have e:deq d (.at_ y)=false:=by
    rcases Gf h with⟨l,xs,rfl,_⟩|⟨l,xs,rfl,_⟩ <;> (unfold deq;rfl)
   rw[e]
   exact⟨q1,q2⟩
 .have hy:∃b,y=.ref b:=hr.resolve_left hx
  obtain⟨b,rfl⟩:=hy
  cases r'
  obtain⟨rfl,f⟩:=Tj h (λb e=>hx ⟨b,e⟩)
  obtain⟨_,_,q1,q2⟩:=Yr I h' f r (show A.units<cLine by omega)
  have e:deq (.at_ x) d'=false:=by
   rcases Gf h' with⟨l,xs,rfl,_⟩|⟨l,xs,rfl,_⟩ <;> (unfold deq;rfl)
  rw[e]
  exact⟨q1,q2⟩
def Vt(hu:X.A.units+64<cLine)(I:Inv X ξ σ H s)(rx:RelV x u)(ry:RelV y v)(hr:(∃a,x=.ref a) \/ ∃b,y=.ref b)(h:aq8 X.K false x y H Q):aR (model X.prog X.w) X.A (cI .Eq u v) (EP X ξ σ Q) X.xe s:=by
 obtain⟨d,d',h1,h2,hd,q⟩:=h
 exact(ar5 I h1 h2 rx ry hr (A:=X.A) (by omega)).1 _ _ _ _ ⟨.bl _,H,I,rfl,q⟩
def Vu(hu:X.A.units+64<cLine)(I:Inv X ξ σ H s)(rx:RelV x u)(ry:RelV y v)(hr:(∃a,x=.ref a) \/ ∃b,y=.ref b)(h:aq8 X.K true x y H Q):aR (model X.prog X.w) X.A (cI .NotEq u v) (EP X ξ σ Q) X.xe s:=by
 obtain⟨d,d',h1,h2,hd,q⟩:=h
 exact(ar5 I h1 h2 rx ry hr (A:=X.A) (by omega)).2 _ _ _ _ ⟨.bl _,H,I,rfl,q⟩
end
open AutoSeq1 (wpAny_loadPart')
open MeetsSeq MeetsSeq2 MeetsSeq3 SeqRoads2
def bt1(K:ac)(neg:Bool):R2:=λx y H Q=>match x,y with
 |.ref a,.ref b=>False\/(∃kvs,Rd H a (.dK kvs)/\Rd H b (.dK [])/\Q (.bl (if neg then !kvs.isEmpty else kvs.isEmpty)) H)\/(∃xs ys,SqL K H a xs/\SqL K H b ys/\xs.length≠ys.length/\Q (.bl neg) H)
 |_,_=>False
section
variable {X:Cx}{ξ:List (Addr×Obj)}{σ:St}{H:Hp}{s:aw}
def bo0(hu:X.A.units+64<cLine)(I:Inv X ξ σ H s)(rx:RelV x u)(ry:RelV y v)(h:bt1 X.K false x y H Q):aR (model X.prog X.w) X.A (cI .Eq u v) (EP X ξ σ Q) X.xe s:=by
 cases x <;> cases y <;> first|exact(h).elim|skip
 cases rx;cases ry
 rcases h with h|⟨kvs,h1,h2,q⟩|⟨xs,ys,h1,h2,len,q⟩
 .exact h.elim
 .obtain⟨_,z1,ka,r1,d1⟩:=Dm I.hok h1
  obtain⟨_,z2,kb,r2,d2⟩:=Dm I.hok h2
  cases r2
  refine PySem.W.keq_eq (r:=true) z1 z2 d1 d2 (by omega) (λe=>?_) ?_
  .rw[List.length_eq_zero_iff.mp e];exact .nil
  .have e:(ka.length==([]:List (Key×Value)).length&&true)=kvs.isEmpty:=by
    rw[gS,<- r1.length]
    cases kvs <;> rfl
   rw[e]
   exact⟨.bl _,H,I,rfl,q⟩
 .obtain⟨χ,ri,pl,_⟩:=I.list h1
  obtain⟨its',ri',pl',_⟩:=I.list h2
  have e3:=ri.length
  have e4:=ri'.length
  exact SeqAt.RcAt.lists_lengths pl.isList pl'.isList (by simp;omega) (by omega) _ _ _ _ ⟨.bl _,H,I,rfl,q⟩
def bo5(hu:X.A.units+64<cLine)(I:Inv X ξ σ H s)(rx:RelV x u)(ry:RelV y v)(h:bt1 X.K true x y H Q):aR (model X.prog X.w) X.A (cI .NotEq u v) (EP X ξ σ Q) X.xe s:=by
 cases x <;> cases y <;> first|exact(h).elim|skip
 cases rx;cases ry
 rcases h with h|⟨kvs,h1,h2,q⟩|⟨xs,ys,h1,h2,len,q⟩
 .exact h.elim
 .obtain⟨_,z1,ka,r1,d1⟩:=Dm I.hok h1
  obtain⟨_,z2,kb,r2,d2⟩:=Dm I.hok h2
  cases r2
  refine PySem.W.keq_ne (r:=true) z1 z2 d1 d2 (by omega) (λe=>?_) ?_
  .rw[List.length_eq_zero_iff.mp e];exact .nil
  .have e:(!(ka.length==([]:List (Key×Value)).length&&true)) = !kvs.isEmpty:=by
    rw[gS,<- r1.length]
    cases kvs <;> rfl
   rw[e]
   exact⟨.bl _,H,I,rfl,q⟩
 .obtain⟨χ,ri,pl,_⟩:=I.list h1
  obtain⟨its',ri',pl',_⟩:=I.list h2
  have e3:=ri.length
  have e4:=ri'.length
  exact iY pl.isList pl'.isList (by simp;omega) (by omega) _ _ _ _ ⟨.bl _,H,I,rfl,q⟩
end
end L2
namespace L2
open PySem PySem.Spec PyProof.Rows
section
variable {X:Cx}{ξ:List (Addr×Obj)}{σ:St}{H:Hp}{s:aw}
def aq9:R2:=λx y H Q=>match x,y with
 |.str a,.int k=>∃z,(k=0/\z=cH\/k=1/\z=a)/\Q (.str z) H
 |_,_=>False
def a32:OpR X (dO .Mult) aq9:=by
 intro ξ s σ H x y v u Q I rx ry h
 unfold aq9 at h
 split at h
 .rename_i a k
  obtain⟨t,rfl⟩:=rx
  obtain⟨t',rfl⟩:=ry
  obtain⟨z,⟨rfl,rfl⟩|⟨rfl,rfl⟩,q⟩:=h
  .refine PySem.P.mul_str rfl (λz _=>absurd (by decide) z) (λz _=>absurd (by decide) z) ?_
   rw[if_pos (by decide)]
   exact⟨by decide,.str _,H,I.tok _,⟨_,rfl⟩,q⟩
  .refine PySem.P.mul_str rfl (λ_ z=>by cases z) (λ_ z=>by cases z) ?_
   rw[if_neg (by decide)]
   exact⟨.str _,H,I,⟨_,rfl⟩,q⟩
 .exact h.elim
end
section
variable {X:Cx}{ξ:List (Addr×Obj)}{σ:St}{H:Hp}{s:aw}
def Qq:List V->Hp->VK->Prop:=λxs H Q=>∃p kvs,xs=[.ref p]/\Rd H p (.dK kvs)/\∀q,H q=none->Q (.ref q) (upd H q (.dK kvs))
def Ut:Ci X (.type "dict") Qq:=by
 intro ξ s σ H xs us Q I r h
 obtain⟨p,kvs,rfl,e,q⟩:=h
 obtain⟨u,rfl,rx⟩:=D4 r
 cases rx
 obtain⟨z,hd,vs,rel,dd⟩:=Dm I.hok e
 refine kt_call_dict hd dd (by rw[<- rel.length];exact z) λh' hm hs=>?_
 have kp:∀b o',s.heap.get? b=some o'->h'.get? b=some o':=λb o' hb=>by
  have hlt:=aG hb
  rw[hs.2 b (aN hlt)]
  exact ah _ hb
 exact⟨.ref s.heap.objs.size,_,I.laid kp (ag _) (U1 z (by rw[beq_eq_false_iff_ne];exact cg (aN I.big)) rel hm),rfl,q _ (I.hok.fresh (ag _))⟩
def boot_dict:cG "dict"=some (.type "dict"):=by decide +kernel
end
def rNo:R2:=λ_ _ _ _=>False
def Ba(K:ac):R2:=λx y H Q=>match x,y with
 |.int i,.int j=>Q (.int (i+j)) H
 |.str a,.str b=>a.length+b.length<=sizeLine/\Q (.str (a++b)) H
 |.ref a,.ref b=>b41 (.ref a) (.ref b) H Q\/bc3 K (.ref a) (.ref b) H Q\/bc2 K (.ref a) (.ref b) H Q
 |_,_=>False
def ar4:R2:=λx y H Q=>match x,y with
 |.int i,.int j=>Q (.int (i-j)) H
 |_,_=>False
def Dh(K:ac):R2:=λx y H Q=>match x,y with
 |.int i,.int j=>CMul i j/\Q (.int (i*j)) H
 |.str a,.int k=>aq9 (.str a) (.int k) H Q
 |_,_=>False
def D0:R2:=λx y H Q=>match x,y with
 |.int i,.int j=>bv0 i j/\Q (.int (i/j)) H
 |_,_=>False
def Bi:R2:=λx y H Q=>match x,y with
 |.int i,.int j=>0<j/\Q (.int (i%j)) H
 |_,_=>False
def bc5:R2:=λx y H Q=>match x,y with
 |.int i,.int j=>aw9 i j/\Q (.int (i^j.toNat)) H
 |_,_=>False
def O9:R2:=λx y H Q=>match x,y with
 |.int i,.int j=>aw9 i j/\Q (.int (i*2^j.toNat)) H
 |_,_=>False
def Yo:R2:=λx y H Q=>match x,y with
 |.int i,.int j=>0<=j/\Q (.int (i/2^j.toNat)) H
 |_,_=>False
def J7:R2:=λx y H Q=>match x,y with
 |.int i,.int j=>Q (.int (cA i j)) H
 |_,_=>False
def ar0:R2:=λx y H Q=>match x,y with
 |.int i,.int j=>Q (.int (cT i j)) H
 |_,_=>False
def b43:R2:=λx y H Q=>match x,y with
 |.int i,.int j=>Q (.int (Builtin.bitXor i j)) H
 |_,_=>False
def rOp(K:ac):Operator->R2
 |.Add=>Ba K
 |.Sub=>ar4
 |.Mult=>Dh K
 |.FloorDiv=>D0
 |.Mod=>Bi
 |.Pow=>bc5
 |.LShift=>O9
 |.RShift=>Yo
 |.BitAnd=>J7
 |.BitOr=>ar0
 |.BitXor=>b43
 |_=>rNo
section
variable {X:Cx}
def ca9(op:Operator):OpR X (dO op) (rOp X.K op):=by
 intro ξ s σ H x y v u Q I rx ry h
 cases op with
 |Add=>
  cases x <;> cases y <;> first
   |exact(h).elim
   |exact bn8 ξ s σ H _ _ v u Q I rx ry ⟨_,_,rfl,rfl,h⟩
   |exact Vs ξ s σ H _ _ v u Q I rx ry ⟨_,_,rfl,rfl,h⟩
   |exact(op_cat.or (op_catT.or a30)) ξ s σ H _ _ v u Q I rx ry h
 |Sub=>cases x <;> cases y <;> first|exact(h).elim|exact bp0 ξ s σ H _ _ v u Q I rx ry ⟨_,_,rfl,rfl,h⟩
 |Mult=>cases x <;> cases y <;> first|exact(h).elim|exact bo4 ξ s σ H _ _ v u Q I rx ry ⟨_,_,rfl,rfl,h⟩|exact a32 ξ s σ H _ _ v u Q I rx ry h
 |FloorDiv=>cases x <;> cases y <;> first|exact(h).elim|exact a31 ξ s σ H _ _ v u Q I rx ry ⟨_,_,rfl,rfl,h⟩
 |Mod=>cases x <;> cases y <;> first|exact(h).elim|exact bo3 ξ s σ H _ _ v u Q I rx ry ⟨_,_,rfl,rfl,h⟩
 |Pow=>cases x <;> cases y <;> first|exact(h).elim|exact bo7 ξ s σ H _ _ v u Q I rx ry ⟨_,_,rfl,rfl,h⟩
 |LShift=>cases x <;> cases y <;> first|exact(h).elim|exact bo8 ξ s σ H _ _ v u Q I rx ry ⟨_,_,rfl,rfl,h⟩
 |RShift=>cases x <;> cases y <;> first|exact(h).elim|exact bo9 ξ s σ H _ _ v u Q I rx ry ⟨_,_,rfl,rfl,h⟩
 |BitAnd=>cases x <;> cases y <;> first|exact(h).elim|exact bn9 ξ s σ H _ _ v u Q I rx ry ⟨_,_,rfl,rfl,h⟩
 |BitOr=>cases x <;> cases y <;> first|exact(h).elim|exact b26 ξ s σ H _ _ v u Q I rx ry ⟨_,_,rfl,rfl,h⟩
 |BitXor=>cases x <;> cases y <;> first|exact(h).elim|exact bp1 ξ s σ H _ _ v u Q I rx ry ⟨_,_,rfl,rfl,h⟩
 |_=>exact(h).elim
end
def Bw(K:ac)(neg:Bool):R2:=λx y H Q=>match x,y with
 |.ref a,.ref b=>bt2 K neg (.ref a) (.ref b) H Q\/aq8 K neg (.ref a) (.ref b) H Q\/bt1 K neg (.ref a) (.ref b) H Q\/False\/False
 |.ref a,y=>aq8 K neg (.ref a) y H Q\/False
 |x,.ref b=>aq8 K neg x (.ref b) H Q
 |.int i,.int j=>Q (.bl (if neg then !decide (i=j) else decide (i=j))) H
 |.str i,.str j=>Q (.bl (if neg then !decide (i=j) else decide (i=j))) H
 |.bl i,.bl j=>Q (.bl (if neg then !(i==j) else(i==j))) H
 |x,y=>bt5 x y=true/\Q (.bl (if neg then !decide (x=y) else decide (x=y))) H
def a62:R2:=λx y H Q=>match x,y with
 |.int i,.int j=>Q (.bl (decide (i<j))) H
 |.str i,.str j=>Q (.bl (decide (i.cps.toList<j.cps.toList))) H
 |_,_=>False
def Ic:R2:=λx y H Q=>match x,y with
 |.int i,.int j=>Q (.bl (decide (i<=j))) H
 |.str i,.str j=>Q (.bl (!decide (j.cps.toList<i.cps.toList))) H
 |_,_=>False
def aa4:R2:=λx y H Q=>match x,y with
 |.int i,.int j=>Q (.bl (decide (j<i))) H
 |_,_=>False
def cb2:R2:=λx y H Q=>match x,y with
 |.int i,.int j=>Q (.bl (decide (j<=i))) H
 |_,_=>False
def Ib(K:ac)(neg:Bool):R2:=λx y H Q=>match x,y with
 |.non,_=>False
 |x,.ref p=>rIn K neg x (.ref p) H Q \/ ∃o,(Xe H p x o\/False)/\Q (.bl (if neg then !o.isSome else o.isSome)) H
 |_,_=>False
def bt3(neg:Bool):R2:=λx y H Q=>match y with
 |.non=>Q (.bl (if neg then !decide (x=.non) else decide (x=.non))) H
 | .bl d=>(match x with
  |.bl c=>Q (.bl (if neg then !(c==d) else(c==d))) H
  |_=>False)
 |_=>False
def Js(K:ac):mU->R2
 |.Eq=>Bw K false
 |.NotEq=>Bw K true
 |.Lt=>a62
 |.LtE=>Ic
 |.Gt=>aa4
 |.GtE=>cb2
 |.In=>Ib K false
 |.NotIn=>Ib K true
 |.Is=>bt3 false
 |.IsNot=>bt3 true
section
variable {X:Cx}
def Oe(hu:X.A.units+64<cLine)(op:mU):OpR X (cI op) (Js X.K op):=by
  intro ξ s σ H x y v u Q I rx ry h
  cases op with
  |Eq=>
    cases x <;> cases y <;> first
      | (rcases h with h|h|h|h|h
         . exact bo1 (by omega) ξ s σ H _ _ v u Q I rx ry h
         . exact Vt hu I rx ry (.inl ⟨_,rfl⟩) h
         . exact bo0 hu I rx ry h
         . exact h.elim
         . exact h.elim)
      | (rcases h with h|h
         . exact Vt hu I rx ry (.inl ⟨_,rfl⟩) h
         . exact h.elim)
      |exact Vt hu I rx ry (.inr ⟨_,rfl⟩) h
      |exact Yf ξ s σ H _ _ v u Q I rx ry h
      |exact Yf ξ s σ H _ _ v u Q I rx ry ⟨rfl,by rw[Kt,fP];exact h⟩
      |exact Yf ξ s σ H _ _ v u Q I rx ry ⟨rfl,by rw[Ku,fP];exact h⟩
      |exact Yf ξ s σ H _ _ v u Q I rx ry ⟨rfl,by rw[Pz];exact h⟩
  |NotEq=>
    cases x <;> cases y <;> first
      | (rcases h with h|h|h|h|h
         . exact bo6 (by omega) ξ s σ H _ _ v u Q I rx ry h
         . exact Vu hu I rx ry (.inl ⟨_,rfl⟩) h
         . exact bo5 hu I rx ry h
         . exact h.elim
         . exact h.elim)
      | (rcases h with h|h
         . exact Vu hu I rx ry (.inl ⟨_,rfl⟩) h
         . exact h.elim)
      |exact Vu hu I rx ry (.inr ⟨_,rfl⟩) h
      |exact Yg ξ s σ H _ _ v u Q I rx ry h
      |exact Yg ξ s σ H _ _ v u Q I rx ry ⟨rfl,by rw[Kt,fP];exact h⟩
      |exact Yg ξ s σ H _ _ v u Q I rx ry ⟨rfl,by rw[Ku,fP];exact h⟩
      |exact Yg ξ s σ H _ _ v u Q I rx ry ⟨rfl,by rw[Pz];exact h⟩
  |Lt=>cases x <;> cases y <;> first|exact(h).elim|exact b25 ξ s σ H _ _ v u Q I rx ry ⟨_,_,rfl,rfl,h⟩|exact Z7 ξ s σ H _ _ v u Q I rx ry ⟨_,_,rfl,rfl,h⟩
  |LtE=>cases x <;> cases y <;> first|exact(h).elim|exact b24 ξ s σ H _ _ v u Q I rx ry ⟨_,_,rfl,rfl,h⟩|exact Z6 ξ s σ H _ _ v u Q I rx ry ⟨_,_,rfl,rfl,h⟩
  |Gt=>cases x <;> cases y <;> first|exact(h).elim|exact b23 ξ s σ H _ _ v u Q I rx ry ⟨_,_,rfl,rfl,h⟩
  |GtE=>cases x <;> cases y <;> first|exact(h).elim|exact b22 ξ s σ H _ _ v u Q I rx ry ⟨_,_,rfl,rfl,h⟩
  |In=>cases x <;> cases y <;> first|exact(h).elim|exact h.elim (Z5 ξ s σ H _ _ v u Q I rx ry) (fun⟨o,g,q⟩=>by cases ry;exact ca3 I (g.resolve_right id) rx λs' I'=>⟨.bl _,H,I',rfl,q⟩)
  |NotIn=>cases x <;> cases y <;> first|exact(h).elim|exact h.elim (Ql ξ s σ H _ _ v u Q I rx ry) (fun⟨o,g,q⟩=>by cases ry;exact az9 I (g.resolve_right id) rx λs' I'=>⟨.bl _,H,I',rfl,q⟩)
  |Is=>cases y <;> first|exact(h).elim|exact bo2 ξ s σ H _ _ v u Q I rx ry ⟨rfl,h⟩|(cases x <;> first|exact(h).elim|(cases rx;cases ry;exact is_bool ⟨.bl _,H,I,rfl,h⟩))
  |IsNot=>cases y <;> first|exact(h).elim|exact a33 ξ s σ H _ _ v u Q I rx ry ⟨rfl,h⟩|(cases x <;> first|exact(h).elim|(cases rx;cases ry;exact isnot_bool ⟨.bl _,H,I,rfl,h⟩))
end
def Tu:V->Hp->VK->Prop:=λx H Q=>match x with
 |.int i=>Q (.int (-i)) H
 |_=>False
def cf5:UnR X (nj .USub) Tu:=by
 intro ξ s σ H x v Q I rx h
 cases x <;> first|exact(h).elim|exact bu4 ξ s σ H _ v Q I rx ⟨_,rfl,h⟩
def Yn:V->Hp->VK->Prop:=λx H Q=>match x with
 |.int i=>Q (.int (cr i)) H
 |_=>False
def by4:UnR X (nj .Invert) Yn:=by
 intro ξ s σ H x v Q I rx h
 cases x <;> first|exact(h).elim|exact bu3 ξ s σ H _ v Q I rx ⟨_,rfl,h⟩
def Y1:bv9 X (av7 X.K):=by
 intro ξ s σ H x v Q I rx h
 cases x with
 |non=>exact M6 ξ s σ H _ v Q I rx ⟨_,rfl,h⟩
 |bl b=>exact M6 ξ s σ H _ v Q I rx ⟨_,rfl,h⟩
 |int i=>exact M6 ξ s σ H _ v Q I rx ⟨_,rfl,h⟩
 |str y=>exact M6 ξ s σ H _ v Q I rx ⟨_,⟨h.1,rfl⟩,h.2⟩
 |ref p=>exact M6 ξ s σ H _ v Q I rx h
 |_=>exact(h).elim
inductive SqX (K:ac) (H:Hp) (p:Addr) (i:Int) (xs:List V):Prop where
 |inl (h:SqL K H p xs)
 |inr (h:SqT K H p xs)
 |dk (h:∀v,atI xs i=some v->DGet H p (.int i) (some v))
def Aw(K:ac):R2:=λx y H Q=>match x,y with
 |.str z,.int i=>z.length<=sizeLine/\∃c,atI z.cps.toList i=some c/\Q (.str ⟨#[c]⟩) H
 |.ref p,.int i=>∃xs v,SqX K H p i xs/\atI xs i=some v/\Q v H
 |.ref p,.str k=>∃v,DGet H p (.str k) (some v)/\Q v H
 |.ref p,.ref b=>∃v,DGet H p (.ref b) (some v)/\Q v H
 |_,_=>False
def ca8(hu:X.A.units+64<cLine):IxR X (Aw X.K):=by
  intro value slice ξ s σ H x y v u Q I rx ry h hs
  cases x <;> cases y <;> first
    |exact(h).elim
    |(obtain⟨h1,c,h2,h3⟩:=h;exact bh9 value slice ξ s σ H _ _ v u Q I rx ry ⟨_,_,c,rfl,rfl,h1,h2,h3⟩ hs)
    | (obtain⟨xs,w,h1|h1|h1,h2,h3⟩:=h
       . exact a10 value slice ξ s σ H _ _ v u Q I rx ry ⟨_,_,_,_,rfl,rfl,h1,h2,h3⟩ hs
       . exact bi0 value slice ξ s σ H _ _ v u Q I rx ry ⟨_,_,_,_,rfl,rfl,h1,h2,h3⟩ hs
       . exact Hu hu value slice ξ s σ H _ _ v u Q I rx ry ⟨_,w,rfl,h1 w h2,h3⟩ hs)
    |(obtain⟨w,h1,h2⟩:=h;exact Hu hu value slice ξ s σ H _ _ v u Q I rx ry ⟨_,w,rfl,h1,h2⟩ hs)
def bc6:V->V->V->Hp->(Hp->Prop)->Prop:=λo i v H N=>match o,i with
 |.ref p,.int k=>False \/ ∃H',DPut H p (.int k) v H'/\N H'
 |.ref p,i=>∃H',DPut H p i v H'/\N H'
 |_,_=>False
def b46(hu:X.A.units+64<cLine):bv4 X bc6:=by
 intro ξ s σ H o i v ov iv u Q I ro ri rv h
 cases o with
 |ref p=>
  have dp:∀{H'},DPut H p i v H'->Q H'->aR (model X.prog X.w) X.A (setItem ov iv u) (λ_ s'=>∃H',Inv X ξ σ H' s'/\Q H') X.xe s:=λ{H'} g q=>by
   cases ro
   exact Zf (by omega) I g ri rv λs' I'=>⟨H',I',q⟩
  cases i with
  |int k=>
   obtain⟨H',g,q⟩:=h.resolve_left id
   exact dp g q
  |_=>obtain⟨H',g,q⟩:=h;exact dp g q
 |_=>exact(h).elim
def Bp(K:ac)(f:Str):V->Hp->VK->Prop:=λx H Q=>match x with
 |.ref a=>(∃C dx fs v,H a=some (.ins C dx fs)/\Cls K C/\NoAttr K C f/\fs.lookup f=some v/\Q v H)\/(∃C fs v,ExcAt H a C fs/\ECls K C/\NoAttr K C f/\fs.lookup f=some v/\Q v H)
 |_=>False
def ar1(K:ac)(f:Str):V->V->Hp->(Hp->Prop)->Prop:=λx y H N=>match x with
 |.ref a=>(∃C dx fs,H a=some (.ins C dx fs)/\Cls K C/\NoAttr K C f/\fs.length<1000/\N (upd H a (.ins C dx (E6 f y fs))))\/(∃C,ECls K C/\NoAttr K C f/\bv5 H a C f y N)
 |_=>False
section
variable {X:Cx}{ξ:List (Addr×Obj)}{σ:St}{H:Hp}{s:aw}{A:bF}{E:Value->aw->Prop}
def bx1(I:Inv X ξ σ H s)(rx:RelV x u)(h:Bp X.K f x H Q):aR (model X.prog X.w) A (l7 u f b) (EP X ξ σ Q) E s:=by
 cases x with
 |ref a=>
  cases rx
  rcases h with⟨C,dx,fs,v,ea,c,n,l,q⟩|⟨C,fs,v,ea,c,n,l,q⟩
  .exact Va I ea c n l λu' s2 I2 ru=>⟨v,H,I2,ru,q⟩
  .exact Zk I ea c n l λu' s2 I2 ru=>⟨v,H,I2,ru,q⟩
 |_=>exact(h).elim
def b45(I:Inv X ξ σ H s)(rx:RelV x u)(ry:RelV y v)(h:ar1 X.K f x y H N)(hQ:∀H' s',Inv X ξ σ H' s'->N H'->Q () s') :
  aR (model X.prog X.w) A (mP u f v) Q E s:=by
 cases x with
 |ref a=>
  cases rx
  rcases h with⟨C,dx,fs,ea,c,n,l,q⟩|⟨C,c,n,q⟩
  .exact V9 I ea c n l ry λs3 I3=>hQ _ _ I3 q
  .exact ab3 I c n ry q hQ
 |_=>exact(h).elim
end
structure FI where
 f:Addr
 fd:bh
 ps:List Str
 k:Nat
 sp:Sp
 dfs:List V
 ds:List Value
structure MI where
 C:Addr
 i:FI
inductive GB where
 |fn (i:FI)
 |cls (C:Addr) (i:Option FI)
 |met (m:Str) (l:List MI)
 |val (v:V) (u:Value)
 |exc (C:Addr) (i:Option FI)
 |ini (C:Addr) (i:FI)
 |dic (a:Addr) (kvs:List (Key×V))
 |key (m:Str) (l:List MI)
def B9:List (Str×GB)->Str->Option (List MI)
 |[],_=>none
 |(_,.met m l)::r,x=>if m=x then some l else B9 r x
 |_::r,x=>B9 r x
theorem Bo:∀{gb} {x} {l},B9 gb x=some l -> ∃k,(k,GB.met x l)∈gb
 | (k,.met m l')::r,x,l,h=>by
  unfold B9 at h
  by_cases e:m=x
  .rw[if_pos e] at h;cases h;subst e;exact⟨k,by simp⟩
  .rw[if_neg e] at h;obtain⟨k,q⟩:=Bo h;exact⟨k,av _ q⟩
 |(_,.fn _)::r,x,l,h=>by unfold B9 at h;obtain⟨k,q⟩:=Bo h;exact⟨k,av _ q⟩
 |(_,.cls _ _)::r,x,l,h=>by unfold B9 at h;obtain⟨k,q⟩:=Bo h;exact⟨k,av _ q⟩
 |(_,.val _ _)::r,x,l,h=>by unfold B9 at h;obtain⟨k,q⟩:=Bo h;exact⟨k,av _ q⟩
 |(_,.dic _ _)::r,x,l,h=>by unfold B9 at h;obtain⟨k,q⟩:=Bo h;exact⟨k,av _ q⟩
 |(_,.key _ _)::r,x,l,h=>by unfold B9 at h;obtain⟨k,q⟩:=Bo h;exact⟨k,av _ q⟩
 |(_,.ini _ _)::r,x,l,h=>by unfold B9 at h;obtain⟨k,q⟩:=Bo h;exact⟨k,av _ q⟩
 |(_,.exc _ _)::r,x,l,h=>by unfold B9 at h;obtain⟨k,q⟩:=Bo h;exact⟨k,av _ q⟩
def Hn:List (Str×GB)->Str->Option (List MI)
 |[],_=>none
 | (_,g)::r,x=>match g with
  |.key m l=>if m=x then some l else Hn r x
  |_=>Hn r x
theorem Fo:∀{gb} {x} {l},Hn gb x=some l -> ∃k,(k,GB.key x l)∈gb
 |[],_,_,h=>by cases h
 | (k,g)::r,x,l,h=>by
  unfold Hn at h
  split at h
  .split at h
   .rename_i e
    cases h
    subst e
    exact⟨k,aQ⟩
   .obtain⟨k,q⟩:=Fo h;exact⟨k,av _ q⟩
  .obtain⟨k,q⟩:=Fo h;exact⟨k,av _ q⟩
structure Sg where
 K:ac
 N:List Str
 sc:List (Str×c9)
 gb:List (Str×GB)
 bl:List Str
 top:Bool
 calm:Bool
def C2:List Str->Str->Nat->Option Nat
 |[],_,_=>none
 |y::r,x,i=>if y=x then some i else C2 r x (i+1)
theorem Pa:∀{N} {x} {i j},C2 N x j=some i->j<=i/\N[i-j]?=some x
 |[],_,_,_,h=>by cases h
 | y::r,x,i,j,h=>by
  unfold C2 at h
  by_cases e:y=x
  .rw[if_pos e] at h
   cases h
   refine⟨ag _,?_⟩
   rw[gQ,e]
   rfl
  .rw[if_neg e] at h
   obtain⟨h1,h2⟩:=Pa h
   refine⟨by omega,?_⟩
   have:i-j=(i-(j+1))+1:=by omega
   rw[this,bK]
   exact h2
def Ep(h:C2 N x 0=some i):N[i]?=some x:=(Pa h).2
def En(x:Str):Bool:=!(x==("__debug__" : Str)) && !(x==("__classdict__" : Str)) && !(x==("__name__" : Str))
def Lx(G:Sg)(x:Str):Bool:=(G.sc.lookup x==some .globalImplicit)&&En x
def Xb(x:Str):Option String:=
 if x="int" then some "int" else if x="bool" then some "bool" else if x="str" then some "str" else if x="list" then some "list" else if x="tuple" then some "tuple" else if x="dict" then some "dict" else if x="ValueError" then some "ValueError" else none
def az7:cG "ValueError"=some (.type "ValueError"):=by decide +kernel
def ac4(h:Xb x=some T):cG x=some (.type T):=by
 unfold Xb at h
 by_cases e1:x="int"
 .rw[if_pos e1] at h;cases h;rw[e1];exact kh
 rw[if_neg e1] at h
 by_cases e2:x="bool"
 .rw[if_pos e2] at h;cases h;rw[e2];exact PyProof.Rows.boot_bool
 rw[if_neg e2] at h
 by_cases e3:x="str"
 .rw[if_pos e3] at h;cases h;rw[e3];exact PyProof.Rows.boot_str
 rw[if_neg e3] at h
 by_cases e4:x="list"
 .rw[if_pos e4] at h;cases h;rw[e4];exact g9
 rw[if_neg e4] at h
 by_cases e5:x="tuple"
 .rw[if_pos e5] at h;cases h;rw[e5];exact jE
 rw[if_neg e5] at h
 by_cases e6:x="dict"
 .rw[if_pos e6] at h;cases h;rw[e6];exact PyProof.Rows.boot_dict
 rw[if_neg e6] at h
 by_cases e7:x="ValueError"
 .rw[if_pos e7] at h;cases h;rw[e7];exact az7
 rw[if_neg e7] at h
 cases h
def J1(CX:CXT)(X:Cx):Prop:=∀Ex,Meets X Ex -> ∀ξ (σ:St) (H:Hp) (s:aw) (e:Value) (s':aw),Inv X ξ σ H s->CX X.stack H s (λv _ H'=>∃a,v=.ref a/\Ex σ a H') e s'->X.xe e s'
structure Iy (X:Cx) (i:FI):Prop where
 kp:ba X.K (.ref i.f)=true
 ok:∃CX,(∀X':Cx,X'.prog=X.prog->X'.w=X.w->J1 CX X')/\FnOk X.prog X.w X.K X.mg X.base CX i.k i.f i.fd i.ps i.sp
 room:Room i.k X.A
 binds:∀j,j<=i.dfs.length->Binds X.K i.fd i.ps (i.ds.drop j)
 vals:Vals i.dfs i.ds
def Uo(X:Cx)(C:Addr):Option FI->Prop
 |none=>aZ X.K (.ref C) "__init__"=some (some (.builtin "ValueError.__init__"))
 |some i=>aZ X.K (.ref C) "__init__"=some (some (.ref i.f))/\cW X.K (.ref i.f)=true/\Iy X i/\Room (i.k+1) X.A
def bf1(X:Cx)(C:Addr):Option FI->Prop
 |none=>dN X.K C=true/\aZ X.K (.ref C) "__init__"=some (some (.builtin "object.__init__"))
 |some i=>dN X.K C=true/\aZ X.K (.ref C) "__init__"=some (some (.ref i.f))/\cW X.K (.ref i.f)=true/\Iy X i/\Room (i.k+1) X.A
structure a97 (K:ac) (C f:Addr):Prop where
 ga:dH K (.ref C) "__getattribute__"=some (some (.builtin "type.__getattribute__"))
 rd:PySem.W.readsIn K C (.type "type")=true
 fc:PySem.W.findCls K (.ref C) (.type "type") "__init__"=some (.val (.ref f))
 hh:gJ (.ref f)=true
def bv3(P:aW)(w:bC)(K:ac)(a:Addr)(kvs:List (Key×V)):Prop:=(a==c7)=false/\∃vs,KV kvs vs/\∀h,K.In h->h.DictOf (Be P w) a vs
structure bf0 (X:Cx) (m:Str) (mi:MI):Prop where
 c:Cls X.K mi.C
 k:Na X.K mi.C m mi.i.f
 sg:dH X.K (.ref mi.i.f) "__get__"=some (some (.builtin "function.__get__"))
 tk:f6 X.K (.ref mi.i.f)=some false
 cn:PySem.W.copiedNames.contains m=false
 fi:Iy X mi.i
 room:Room (mi.i.k+2) X.A
def GBOk(X:Cx)(x:Str):GB->Prop
 |.dic a kvs=>X.mg x=some (.ref a)/\bv3 X.prog X.w X.K a kvs
 |.fn i=>X.mg x=some (.ref i.f)/\Iy X i
 |.val v u=>X.mg x=some u/\RelV v u
 |.exc C oi=>X.mg x=some (.ref C)/\ba X.K (.ref C)=true/\ECls X.K C/\Uo X C oi
 |.cls C oi=>X.mg x=some (.ref C)/\ba X.K (.ref C)=true/\bf1 X C oi
 |.met m l=>∀mi∈l,Cls X.K mi.C/\Na X.K mi.C m mi.i.f/\Iy X mi.i
 |.ini C i=>X.mg x=some (.ref C)/\a97 X.K C i.f/\Iy X i
 |.key m l=>∀mi∈l,bf0 X m mi
def GBOk.to(hm:X'.mg=X.mg)(hK:X'.K=X.K)(hP:X'.prog=X.prog)(hw:X'.w=X.w)(hA:∀k,Room k X.A->Room k X'.A)(hf:∀i,Iy X i->Iy X' i)(h:GBOk X x g):GBOk X' x g:=by
 cases g with
 |fn i=>exact⟨hm▸h.1,hf i h.2⟩
 |val v u=>exact⟨hm▸h.1,h.2⟩
 |exc C oi=>
  obtain⟨a,b,c,d⟩:=h
  refine⟨hm▸a,hK▸b,hK▸c,?_⟩
  cases oi with
  |none=>unfold Uo at d ⊢;rw[hK];exact d
  |some i=>obtain⟨d1,d2,d3,d4⟩:=d;exact⟨hK▸d1,hK▸d2,hf i d3,hA _ d4⟩
 |cls C oi=>
  obtain⟨a,b,d⟩:=h
  refine⟨hm▸a,hK▸b,?_⟩
  cases oi with
  |none=>unfold bf1 at d ⊢;rw[hK];exact d
  |some i=>obtain⟨d1,d2,d3,d4,d5⟩:=d;exact⟨hK▸d1,hK▸d2,hK▸d3,hf i d4,hA _ d5⟩
 |met m l=>exact λmi hi=>⟨hK▸(h mi hi).1,hK▸(h mi hi).2.1,hf _ (h mi hi).2.2⟩
 |ini C i=>exact⟨hm▸h.1,hK▸h.2.1,hf i h.2.2⟩
 |dic a kvs=>exact⟨hm▸h.1,by rw[hP,hw,hK];exact h.2⟩
 |key m l=>exact λmi hi=>let q:=h mi hi;⟨hK▸q.c,hK▸q.k,hK▸q.sg,hK▸q.tk,q.cn,hf _ q.fi,hA _ q.room⟩
def FrH(X:Cx):Prop:=∃e0 o0 L,X.stack=e0::o0/\e0.frame=some L/\X.env.frame=some L
structure GOk (X:Cx) (G:Sg):Prop where
 K:X.K=G.K
 kind:X.env.scope.kind=.function
 own:G.top=true->gX (model X.prog X.w) X.A X.env X.xe
 N:X.N=G.N
 nd:G.N.Nodup
 sc:∀x,X.env.scope.names.lookup x=G.sc.lookup x
 vis:∀x∈G.N,Vis X.env.scope x
 top:G.top=true -> ∀x,X.fn x=true
 calm:G.calm=X.calm
 hd:X.calm=true->X.A.handled=none
 units:X.A.units+64<cLine
 cel:∀x,(X.env.scope.names.lookup x=some .cell\/X.env.scope.names.lookup x=some .free) -> ∃c,X.env.cells.lookup x=some c
 gb:∀x g,(x,g)∈G.gb->GBOk X x g
 bl:∀x,G.bl.contains x=true->X.mg x=none
 frm:G.top=true->X.stack=X.env::X.outer/\X.env.frame=some X.env.locals
 fr:FrH X
section
variable {X:Cx}{G:Sg}
def GOk.at_(O:GOk X G)(x:Str)(g:GB)(e:G.gb.lookup x=some g):GBOk X x g:=O.gb x g (bX e)
def GOk.met(O:GOk X G)(m:Str)(l:List MI)(e:B9 G.gb m=some l):∀mi∈l,Cls X.K mi.C/\Na X.K mi.C m mi.i.f/\Iy X mi.i:=by
 obtain⟨x,hx⟩:=Bo e
 exact O.gb x _ hx
def GOk.gl(O:GOk X G)(h:Lx G x=true):Gl X x:=by
 unfold Lx at h
 rw[a9] at h
 have:=cz h.1
 show X.env.scope.names.lookup x=_
 rw[O.sc x]
 exact this
def Qm(h:En x=true):(x==("__debug__" : Str))=false/\(x==("__classdict__" : Str))=false/\x ≠ "__name__" := by
 unfold En at h
 simp only[a9,ji] at h
 exact⟨h.1.1,h.1.2,λe=>by rw[e] at h;simp at h⟩
def Vf(h:Lx G x=true):(x==("__debug__" : Str))=false/\(x==("__classdict__" : Str))=false/\x ≠ "__name__" := by
 unfold Lx at h
 rw[a9] at h
 exact Qm h.2
noncomputable def aw3(G:Sg)(x:Str):DE:=
 match C2 G.N x 0 with
 |some i=>if En x=true then Ab i else dNo
 | none=>if Lx G x=true then(match G.gb.lookup x with
   |some (.val v _)=>dC v
   |some (.exc C _)=>dC (.ref C)
   |some (.cls C _)=>dC (.ref C)
   |some (.ini C _)=>dC (.ref C)
   |some _=>dNo
   | none=>if G.bl.contains x=true then(match Xb x with
    |some T=>dC (.ty T)
    |none=>dNo) else dNo) else dNo
def Bv:QE X e dNo:=λ_ _ _ _ _ _ _ _ h=>h.elim
def bs0(hN:X.N[i]?=some x)(hv:Vis X.env.scope x)(hp:En x=true):QE X (.Name x pos) (Ab i):=by
 intro Ex _ ξ s σ H Q I h
 unfold Ab at h
 split at h
 .rename_i v e
  exact bp9 hN hv (Qm hp).1 (Qm hp).2.1 ξ s σ H Q I ⟨v,e,h⟩
 .exact h.elim
def a53(O:GOk X G)(x:Str)(pos:Pos):QE X (.Name x pos) (aw3 G x):=by
 unfold aw3
 split
 .rename_i i e
  split
  .rename_i hp
   have hi:=Ep e
   exact bs0 (by rw[O.N];exact hi) (O.vis x (aj hi)) hp
  .exact Bv
 .split
  .rename_i hg
   have dd:=Vf hg
   split
   .rename_i v u e
    obtain⟨h1,h2⟩:=O.at_ x _ e
    exact λ_ _=>Lb (O.gl hg) h1 h2 dd.1
   .rename_i C oi e
    exact λ_ _=>Lb (O.gl hg) (O.at_ x _ e).1 rfl dd.1
   .rename_i C oi e
    exact λ_ _=>Lb (O.gl hg) (O.at_ x _ e).1 rfl dd.1
   .rename_i C i e
    exact λ_ _=>Lb (O.gl hg) (O.at_ x _ e).1 rfl dd.1
   .exact Bv
   .split
    .rename_i hb
     split
     .rename_i T e
      exact λ_ _=>a36 (O.gl hg) (O.bl x hb) (ac4 e) rfl dd.2.2 dd.1
     .exact Bv
    .exact Bv
  .exact Bv
noncomputable def aw2:Const->DE
 |.int i=>dC (.int i)
 |.bool b=>dC (.bl b)
 |.none=>dC .non
 |.str x=>dC (.str x)
 |_=>dNo
def ap7(c:Const)(j:Nat)(pos:Pos):QE X (.Constant c j pos) (aw2 c):=by
 cases c with
 |int i=>exact λ_ _=>bp3
 |bool b=>exact λ_ _=>b27
 |none=>exact λ_ _=>bp5
 |str x=>exact λ_ _=>bp7
 |_=>exact Bv
variable {a b c:Expr}{da db dc:DE}{ta tb:DT}{es:List Expr}{r:DA}{pos:Pos}
def bq9(op:Operator)(ha:QE X a da)(hb:QE X b db):QE X (.BinOp a op b pos) (Ah (rOp X.K op) da db):=λEx m=>b29 (ca9 op) (ha Ex m) (hb Ex m)
def br5(ha:QE X a da):QE X (.UnaryOp .USub a pos) (dUn Tu da):=λEx m=>bb6 cf5 (ha Ex m)
def br2(ha:QE X a da):QE X (.UnaryOp .Invert a pos) (dUn Yn da):=λEx m=>bb6 by4 (ha Ex m)
def br1(hu:X.A.units+64<cLine)(op:mU)(ha:QE X a da)(hb:QE X b db)(hm:g6 op b=false):QE X (.Compare a [op] [b] pos) (Ah (Js X.K op) da db):=λEx m=>a37 (Oe hu op) (ha Ex m) (hb Ex m) hm
def bs7(hu:X.A.units+64<cLine)(op:mU)(ha:QE X a da)(hb:QE X b db)(hm:g6 op b=false):QT X (.Compare a [op] [b] pos) (Bb (Ah (Js X.K op) da db)):=by
 intro Ex m ξ s σ H Q I h
 refine wpAny_isTrue_Compare1 (thn (ha Ex m ξ s σ H _ I h) λv s1 ⟨x,H1,I1,r1,q1⟩=>thn (hb Ex m ξ s1 σ H1 _ I1 q1) λu s2 ⟨y,H2,I2,r2,q2⟩=>
  thn (Oe hu op ξ s2 σ H2 x y v u _ I2 r1 r2 q2) λc s3 ⟨z,H3,I3,r3,q3⟩=>?_) hm
 cases z with
 |bl k=>cases r3;exact e_ ⟨H3,I3,q3⟩
 |_=>exact(q3).elim
def ap6(hu:X.A.units+64<cLine)(op op':mU)(ha:QE X a da)(hb:QE X b db)(hc:QE X c dc)(hm:lW [op,op'] [b,c]=false) :
  QE X (.Compare a [op,op'] [b,c] pos) (Dw (Js X.K op) (Js X.K op') da db dc):=by
 intro Ex m ξ s σ H Q I h
 refine Compare_chain (thn (ha Ex m ξ s σ H _ I h) λv s1 ⟨x,H1,I1,r1,q1⟩=>chain_link (thn (hb Ex m ξ s1 σ H1 _ I1 q1) λu s2 ⟨y,H2,I2,r2,q2⟩=>
  thn (Oe hu op ξ s2 σ H2 x y v u _ I2 r1 r2 q2) λd s3 ⟨z,H3,I3,r3,q3⟩=>?_)) hm
 cases z with
 |bl k=>
  cases r3
  refine e_ ?_
  cases k with
  |false=>exact ite_ff ⟨.bl false,H3,I3,rfl,q3⟩
  |true=>exact ite_tt (chain_last (thn (hc Ex m ξ s3 σ H3 _ I3 q3) λw' s4 ⟨z',H4,I4,r4,q4⟩=>Oe hu op' ξ s4 σ H4 y z' u w' Q I4 r2 r4 q4))
 |_=>exact(q3).elim
def aq6(hu:X.A.units+64<cLine)(op op':mU)(ha:QE X a da)(hb:QE X b db)(hc:QE X c dc)(hm:lW [op,op'] [b,c]=false) :
  QT X (.Compare a [op,op'] [b,c] pos) (Bb (Dw (Js X.K op) (Js X.K op') da db dc)):=by
 intro Ex m ξ s σ H Q I h
 refine isTrue_chain (thn (ha Ex m ξ s σ H _ I h) λv s1 ⟨x,H1,I1,r1,q1⟩=>test_link (thn (hb Ex m ξ s1 σ H1 _ I1 q1) λu s2 ⟨y,H2,I2,r2,q2⟩=>
  thn (Oe hu op ξ s2 σ H2 x y v u _ I2 r1 r2 q2) λd s3 ⟨z,H3,I3,r3,q3⟩=>?_)) hm
 cases z with
 |bl k=>
  cases r3
  refine e_ ?_
  cases k with
  |false=>exact ite_ff ⟨H3,I3,q3⟩
  |true=>
   refine ite_tt (test_last (thn (hc Ex m ξ s3 σ H3 _ I3 q3) λw' s4 ⟨z',H4,I4,r4,q4⟩=>thn (Oe hu op' ξ s4 σ H4 y z' u w' _ I4 r2 r4 q4) λd' s5 ⟨z2,H5,I5,r5,q5⟩=>?_))
   cases z2 with
   |bl k2=>cases r5;exact e_ ⟨H5,I5,q5⟩
   |_=>exact(q5).elim
 |_=>exact(q3).elim
def ao8:Expr->Bool
 |.UnaryOp .Not _ _=>false
 |.BoolOp _ _ _=>false
 |.IfExp _ _ _ _=>false
 |.Compare _ _ _ _=>false
 |_=>true
def Z9(h:ao8 e=true)(whole:Sem Value):isTrue e X.env whole=(do let v <- whole;standAt e.pos;holding [v] (truthy v)):=by
 cases e with
 |UnaryOp op _ _=>cases op <;> first|rfl|cases h
 |BoolOp _ _ _=>cases h
 |IfExp _ _ _ _=>cases h
 |Compare _ _ _ _=>cases h
 |_=>rfl
def aq7(ha:QE X a da)(h:ao8 a=true):QT X a (De X.K da):=by
 intro Ex m ξ s σ H Q I hw
 exact isTrue_plain (thn (ha Ex m ξ s σ H _ I hw) λv s1 ⟨x,H1,I1,r1,q1⟩=>Y1 ξ s1 σ H1 x v Q I1 r1 q1) (Z9 h _)
def bs8(ha:QT X a ta):QT X (.UnaryOp .Not a pos) (Ff ta):=λEx m=>bq5 (ha Ex m)
def a61(ha:QT X a ta):QW X (.BoolOp .And [a] pos) ta:=λEx m=>a48 (ha Ex m)
def bt0(ha:QT X a ta):QW X (.BoolOp .Or [a] pos) ta:=λEx m=>bq7 (ha Ex m)
def bs9(ha:QT X a ta)(hb:QW X (.BoolOp .And (b::es) pos) tb):QW X (.BoolOp .And (a::b::es) pos) (Kb ta tb):=λEx m=>bq6 (ha Ex m) (hb Ex m)
def b40(ha:QT X a ta)(hb:QW X (.BoolOp .Or (b::es) pos) tb):QW X (.BoolOp .Or (a::b::es) pos) (dOr ta tb):=λEx m=>b33 (ha Ex m) (hb Ex m)
def br7(ha:QE X a da):QE X (.BoolOp op [a] pos) da:=λEx m=>bp6 (ha Ex m)
def bq8(ha:QE X a da)(hb:QE X (.BoolOp .And (b::es) pos) db):QE X (.BoolOp .And (a::b::es) pos) (Lj X.K da db):=by
 intro Ex m ξ s σ H Q I h
 refine BoolOp_and (thn (ha Ex m ξ s σ H _ I h) λv s1 ⟨x,H1,I1,r1,q1⟩=>thn (Y1 ξ s1 σ H1 x v _ I1 r1 q1) λk s2 ⟨H2,I2,q2⟩=>?_)
 cases k with
 |true=>exact hb Ex m ξ s2 σ H2 Q I2 q2
 |false=>exact⟨x,H2,I2,r1,q2⟩
def b38(ha:QE X a da)(hb:QE X (.BoolOp .Or (b::es) pos) db):QE X (.BoolOp .Or (a::b::es) pos) (bw4 X.K da db):=by
 intro Ex m ξ s σ H Q I h
 refine BoolOp_or (thn (ha Ex m ξ s σ H _ I h) λv s1 ⟨x,H1,I1,r1,q1⟩=>thn (Y1 ξ s1 σ H1 x v _ I1 r1 q1) λk s2 ⟨H2,I2,q2⟩=>?_)
 cases k with
 |false=>exact hb Ex m ξ s2 σ H2 Q I2 q2
 |true=>exact⟨x,H2,I2,r1,q2⟩
def br6(ha:QE X a da):QE X (.UnaryOp .Not a pos) (X3 X.K da):=by
 intro Ex m ξ s σ H Q I h
 exact UnaryOp_ (thn (ha Ex m ξ s σ H _ I h) λv s1 ⟨x,H1,I1,r1,q1⟩=>not_of (thn (Y1 ξ s1 σ H1 x v _ I1 r1 q1) λk s2 ⟨H2,I2,q2⟩=>⟨.bl (!k),H2,I2,rfl,q2⟩))
def noStar:Expr->Bool
 |.Starred _ _=>false
 |_=>true
def Az(h:noStar e=true)(es:List Expr)(env:Env):df (e::es) env=(false,eval e env)::df es env:=by
 cases e with
 |Starred _ _=>cases h
 |_=>rfl
def Cq(h:es.all noStar=true)(env:Env)(pos:Pos):(ku pos (df es env)).any (·.1)=false:=by
 induction es with
 |nil=>rfl
 |cons e es ih=>
  rw[cb,a9] at h
  rw[Az h.1]
  show(false||(ku pos (df es env)).any (·.1))=false
  rw[ih h.2]
  rfl
def J6(h:es.all noStar=true)(env:Env)(pos:Pos):(ku pos (df es env)).all (λx=>!x.1)=true:=by
 induction es with
 |nil=>rfl
 |cons e es ih=>
  rw[cb,a9] at h
  rw[Az h.1]
  show(true&&(ku pos (df es env)).all (λx=>!x.1))=true
  rw[ih h.2]
  rfl
def Qn:QA X [] Ag:=λ_ _=>bp2
def Lc(ha:QE X a da)(hr:QA X es r)(hs:noStar a=true):QA X (a::es) (Ac da r):=λEx m=>a35 (ha Ex m) (hr Ex m) (Az hs es X.env)
def br9(h:QA X es r):QE X (.Tuple es k pos) (Dn r):=λEx m=>bp8 (h Ex m)
def br3(h:QA X es r):QE X (.List es pos) (Cf r):=λEx m=>bp4 (h Ex m)
def K9:Expr->Bool
 |.Slice _ _ _ _=>false
 |_=>true
def Vp(h:K9 e=true):Xn e:=by
 intro o i
 cases e with
 |Slice _ _ _ _=>cases h
 |_=>rfl
def b34(hu:X.A.units+64<cLine)(ha:QE X a da)(hb:QE X b db)(h:K9 b=true):QE X (.Subscript a b pos) (Ah (Aw X.K) da db):=λEx m=>b28 (ca8 hu) (ha Ex m) (hb Ex m) (Vp h)
def a49(ha:QE X a da)(h:jK a f X.env (eval a X.env)=eval a X.env):QE X (.Attribute a f pos) (dUn (Bp X.K f) da):=by
 intro Ex m ξ s σ H Q I hw
 exact Xv h (thn (ha Ex m ξ s σ H _ I hw) λu s1 ⟨x,H1,I1,rx,q⟩=>bx1 I1 rx q)
end
end L2
namespace PySem.SeqAt
open AutoSeq1 (wpAny_loadPart')
open MeetsSeq MeetsSeq2 MeetsSeq3
end PySem.SeqAt
namespace PySem.W
open PySem PySem.Calls PyProof.Rows
def kRun{α:Type}(n:Nat)(lt:Nat->Nat->Bool):KasT α->Option α
 |.ret a=>some a
 |.ask i j k=>if i<n/\j<n then kRun n lt (k (lt i j)) else none
theorem kRun_wp{α:Type}{n:Nat}{lt:Nat->Nat->Bool}{cmp:Nat->Nat->(Bool->aw->Prop)->aw->Prop}{G:α->aw->Prop}{s:aw}(h:∀i j C,i<n->j<n->C (lt i j) s->cmp i j C s) :
  ∀{t} {a},kRun n lt t=some a->G a s->t.kasWp cmp G s
 | .ret b,a,e,g=>by
  have:b=a:=az e
  subst this
  exact g
 | .ask i j k,a,e,g=>by
  unfold kRun at e
  split at e
  .rename_i hij
   exact h i j _ hij.1 hij.2 (kRun_wp h e g)
  .cases e
section
variable {prog:aW}{w:bC}{A:bF}{E:Value->aw->Prop}{s:aw}{vs:List Value}
def SoFin(a:Addr)(e:Nat)(out:List Value)(C:aw->Prop)(s:aw):Prop:=
 s.heap.get? a=some (bE "list" #[] e)/\∀h' c,h'.get? a=some (bE "list" (fh out) c)->bO a s.heap h'->C {s with heap:=h'}
def SoFin.mono(h:SoFin a e out C s)(hc:∀s,C s->C' s):SoFin a e out C' s:=⟨h.1,λh' c x y=>hc _ (h.2 h' c x y)⟩
def Qw(ho:s.heap.get? a=some (bE "list" vs.toArray n))(h2:2<=vs.length)(h64:vs.length<64)(h:∀e1 h',h'.get? a=some (bE "list" #[] e1)->(∀b o,b≠a->s.heap.get? b=some o->h'.get? b=some o) ->
   aR (model prog w) A (jM vs.toArray) (λκ s'=>(kas_sort vs.length).kasWp (kas_ask prog w A κ vs) (λp s''=>SoFin a e1 (p.toList.map λi=>vs.getD i bI) (λs3=>P (.done (.ret .none)) s3) s'') s') (λ_ _=>False) {s with heap:=h'}) :
  aR (model prog w) A (a_.«list.sort» ⟨[.ref a],[]⟩) P E s:=by
 have ha:=aG ho
 have s1:=bV s.heap a (bH λ_=>(#[]:Array Value))
 obtain⟨e1,ho1⟩:∃e1,(s.heap.update a (bH λ_=>(#[]:Array Value))).get? a=some (bE "list" #[] e1):=⟨_,eX ho λ_=>#[]⟩
 have ask:=h e1 (((s.heap.update a (bH λ_=>(#[]:Array Value))).push (bE "tuple" vs.toArray 0)).push (bE "list" #[] 0)) (ah _ (ah _ ho1))
  (λb o nb e=>ah _ (ah _ ((s1.2 b nb).trans e)))
 rw[list_sort_plain]
 refine af (kE ho rfl ?_)
 refine af (fG ho rfl ?_ (by rw[ax,bN];omega) (bw _))
 refine af (iS ho1 rfl ?_)
 refine af (lA ?_ (by show vs.length<=_;rw[bN];omega))
 refine af (gw ?_ (bw _))
 refine bD ?_
 have hn2:¬ vs.toArray.size<2:=by rw[ax];omega
 rw[if_neg hn2,if_neg hn2]
 refine af (bJ ask (λκ s0 hk=>?_) λ_ _ x=>x.elim)
 refine af (bJ (kat_run (Q:=λst' s'=>∃p,p.size=vs.length/\arrOf st'=p.map (kas_item (vs.toArray.zip vs.toArray))/\failedOf st'=none/\SoFin a e1 (p.toList.map λi=>vs.getD i bI) (λs''=>P (.done (.ret .none)) s'') s')
  rfl h2 h64 (λp' st' s' a1 a2 a3 a4=>⟨p',a1,a2,a3,a4⟩) hk) ?_ λ_ _ e=>e)
 rintro⟨⟨⟩,st'⟩ s' ⟨p,hp,har,hf,na,k⟩
 dsimp only
 have hout:=kat_snds rfl har
 have hsz:(fh (p.toList.map λi=>vs.getD i bI)).size=vs.length:=by rw[ax,ae,bU,hp]
 rw[hout]
 have s2:=bV s'.heap a (bH λ_=>fh (p.toList.map λi=>vs.getD i bI))
 obtain⟨c2,hc2⟩:∃c2,(s'.heap.update a (bH λ_=>fh (p.toList.map λi=>vs.getD i bI))).get? a=some (bE "list" (fh (p.toList.map λi=>vs.getD i bI)) c2):=⟨_,eX na λ_=>fh (p.toList.map λi=>vs.getD i bI)⟩
 refine af (iS na rfl ?_)
 refine af (fG na rfl ?_ (bw _) (aU (ml hsz) (by rw[bN];omega)))
 rw[hf]
 simp only[bne_self_eq_false,dv,if_false]
 exact am (k _ c2 hc2 s2)
end
end PySem.W
namespace L2
open PySem PySem.Spec PyProof.Rows
def D8:cG "sorted"=some (.builtin "sorted"):=by decide +kernel
end L2
namespace PySem.W
open PySem PySem.Calls PyProof.Rows
section
variable {n:Nat}{lt:Nat->Nat->Bool}
theorem Dr{α β:Type}{f:α->KasT β}:∀t,kRun n lt (t.bind f)=(kRun n lt t).bind λa=>kRun n lt (f a)
 |.ret a=>rfl
 | .ask i j k=>by
  show(if i<n/\j<n then kRun n lt ((k (lt i j)).bind f) else none)=(if i<n/\j<n then kRun n lt (k (lt i j)) else none).bind _
  by_cases h:i<n/\j<n
  .rw[if_pos h,if_pos h,Dr (k (lt i j))]
  .rw[if_neg h,if_neg h];rfl
structure Tot (n:Nat) (lt:Nat->Nat->Bool):Prop where
 tot:∀i j,i<n->j<n->i≠j->lt i j = !lt j i
 tr:∀i j k,i<n->j<n->k<n->lt i j=true->lt j k=true->lt i k=true
def pg(p:Array Nat)(i:Nat):Nat:=p.getD i 0
def PermN(n:Nat)(p:Array Nat):Prop:=p.toList.Perm (aV n)
theorem PermN.size(h:PermN n p):p.size=n:=by
 have:=h.length_eq
 simpa using this
def pg_get(h:i<p.size):p[i]?=some (pg p i):=by
 unfold pg
 rw[Array.getD_eq_getD_getElem?,d_ h]
 rfl
def PermN.bd{p:Array Nat}(h:PermN n p){i:Nat}(hi:i<n):pg p i<n:=by
 have hs:i<p.size:=by rw[h.size];exact hi
 have hm:pg p i∈p.toList:=by
  have:=pg_get hs
  rw[<- cw] at this
  exact aj this
 exact List.mem_range.mp (h.mem_iff.mp hm)
def PermN.inj{p:Array Nat}(h:PermN n p){i j:Nat}(hi:i<n)(hj:j<n)(e:pg p i=pg p j):i=j:=by
 have nd:=(h.nodup_iff).mpr List.nodup_range
 have ei:=pg_get (by rw[h.size];exact hi)
 have ej:=pg_get (by rw[h.size];exact hj)
 rw[<- cw] at ei ej
 have li:i<p.toList.length:=by rw[bU,h.size];exact hi
 refine(List.getElem?_inj li nd).mp ?_
 rw[ei,ej,e]
def Srt(lt:Nat->Nat->Bool)(p:Array Nat)(m:Nat):Prop:=∀i j,i<j->j<m->lt (pg p i) (pg p j)=true
def Dsc(lt:Nat->Nat->Bool)(p:Array Nat)(m:Nat):Prop:=∀i j,i<j->j<m->lt (pg p j) (pg p i)=true
def Ek{α:Type}{i j:Nat}{k:Bool->KasT α}(hi:i<n)(hj:j<n):kRun n lt (.ask i j k)=kRun n lt (k (lt i j)):=if_pos ⟨hi,hj⟩
variable (T:Tot n lt) {p:Array Nat} (h:PermN n p)
include T h
theorem Hg:∀f k,1<=k->k+f<=n->Srt lt p k -> ∃m,kRun n lt (nh p f k)=some m/\k<=m/\m<=k+f/\Srt lt p m
 |0,k,h1,h2,hs=>⟨k,rfl,ag _,ag _,hs⟩
 | f+1,k,h1,h2,hs=>by
  have e:kRun n lt (nh p (f+1) k)=kRun n lt (if lt (pg p k) (pg p (k-1))=true then .ret k else nh p f (k+1)):=Ek (h.bd (by omega)) (h.bd (by omega))
  rw[e]
  cases c:lt (pg p k) (pg p (k-1)) with
  |true=>exact⟨k,rfl,ag _,by omega,hs⟩
  |false=>
   have c1:lt (pg p (k-1)) (pg p k)=true:=by
    rw[T.tot _ _ (h.bd (by omega)) (h.bd (by omega)) (λq=>by have:=h.inj (by omega) (by omega) q;omega),c];rfl
   obtain⟨m,r1,r2,r3,r4⟩:=Hg f (k+1) (by omega) (by omega) (λi j hij hj=>by
    by_cases hk:j<k
    .exact hs i j hij hk
    .have:j=k:=by omega
     subst this
     by_cases hi:i=j-1
     .subst hi;exact c1
     .exact T.tr _ _ _ (h.bd (by omega)) (h.bd (by omega)) (h.bd (by omega)) (hs i (j-1) (by omega) (by omega)) c1)
   exact⟨m,r1,by omega,by omega,r4⟩
theorem R8:∀f k,1<=k->k+f<=n->Dsc lt p k -> ∃m,kRun n lt (lV f p k 0)=some (p,m,0)/\k<=m/\m<=k+f/\Dsc lt p m
 |0,k,h1,h2,hs=>⟨k,rfl,ag _,ag _,hs⟩
 | f+1,k,h1,h2,hs=>by
  have e:kRun n lt (lV (f+1) p k 0)=kRun n lt (if lt (pg p k) (pg p (k-1))=true then(if 0 > 0 then lV f (kC p (k-(0+1)) k) (k+1) 0 else lV f p (k+1) 0) else .ask (pg p (k-1)) (pg p k) λd=>if d=true then .ret (p,k,0) else lV f p (k+1) (0+1)):=Ek (h.bd (by omega)) (h.bd (by omega))
  rw[e]
  cases c:lt (pg p k) (pg p (k-1)) with
  |true=>
   rw[if_pos rfl,if_neg (by omega)]
   obtain⟨m,r1,r2,r3,r4⟩:=R8 f (k+1) (by omega) (by omega) (λi j hij hj=>by
    by_cases hk:j<k
    .exact hs i j hij hk
    .have:j=k:=by omega
     subst this
     by_cases hi:i=j-1
     .subst hi;exact c
     .exact T.tr _ _ _ (h.bd (by omega)) (h.bd (by omega)) (h.bd (by omega)) c (hs i (j-1) (by omega) (by omega)))
   exact⟨m,r1,by omega,by omega,r4⟩
  |false=>
   have c1:lt (pg p (k-1)) (pg p k)=true:=by
    rw[T.tot _ _ (h.bd (by omega)) (h.bd (by omega)) (λq=>by have:=h.inj (by omega) (by omega) q;omega),c];rfl
   rw[if_neg aC,Ek (h.bd (by omega)) (h.bd (by omega)),c1]
   exact⟨k,rfl,ag _,by omega,hs⟩
omit T in
def a63{m:Nat}(hm:m<=n)(hd:Dsc lt p m):PermN n (kC p 0 m)/\Srt lt (kC p 0 m) m:=by
 have hp:PermN n (kC p 0 m):=by
  have:=mirror_perm p 0 m ((m-0)/2)
  exact(Array.perm_iff_toList_perm.mp this).trans h
 have gt:∀k,k<m->pg (kC p 0 m) k=pg p (m-1-k):=λk hk=>by
  have e:=getElem?_mirror_all (i:=0) (by rw[h.size];exact hm) k
  have e1:(kC p 0 m)[k]?=some (pg (kC p 0 m) k):=pg_get (by rw[hp.size];omega)
  have e2:p[m-1-k]?=some (pg p (m-1-k)):=pg_get (by rw[h.size];omega)
  have e':(kC p 0 m)[k]?=p[m-1-k]?:=by
   refine e.trans ?_
   rw[if_pos (by omega)]
   congr 1
   omega
  rw[e1,e2] at e'
  exact az e'
 refine⟨hp,λi j hij hj=>?_⟩
 rw[gt i (by omega),gt j hj]
 exact hd _ _ (by omega) (by omega)
def Zd(hn:1<=n):∃m p',kRun n lt (kas_count n p)=some (m,p')/\PermN n p'/\1<=m/\m<=n/\Srt lt p' m:=by
 obtain⟨m,r1,r2,r3,r4⟩:=Hg T h (n-1) 1 (ag _) (by omega) (λi j hij hj=>by omega)
 unfold kas_count
 rw[Dr,r1,cL]
 by_cases hm:m=n
 .have e:(m==n)=true:=by rw[hm];exact beq_self_eq_true n
  rw[if_pos e]
  exact⟨m,p,rfl,h,r2,by omega,r4⟩
 .have e:¬ (m==n)=true:=λq=>hm (beq_iff_eq.mp q)
  rw[if_neg e]
  by_cases h1:m > 1
  .rw[if_pos h1]
   have:=Ek (lt:=lt) (k:=λc=>if c=true then KasT.ret (m,p) else kas_descPart m n (kC p 0 m)) (h.bd (i:=0) (by omega)) (h.bd (i:=m-1) (by omega))
   refine⟨m,p,this.trans ?_,h,r2,by omega,r4⟩
   have e1:=r4 0 (m-1) (by omega) (by omega)
   rw[e1]
   rfl
  .rw[if_neg h1]
   have hm1:m=1:=by omega
   subst hm1
   unfold kas_descPart
   have hd:∃d,kRun n lt (lV (n-(1+1)) p (1+1) 0)=some (p,d,0)/\1<=d/\d<=n/\Dsc lt p d:=by
    by_cases c:lt (pg p 1) (pg p 0)=true
    .obtain⟨d,q1,q2,q3,q4⟩:=R8 T h (n-2) 2 (by omega) (by omega) (λi j hij hj=>by
      have:i=0:=by omega
      have:j=1:=by omega
      subst i j;exact c)
     exact⟨d,q1,by omega,by omega,q4⟩
    .exfalso
     have e:=Hg T h (n-1) 1 (ag _) (by omega) (λi j hij hj=>by omega)
     obtain⟨m',a1,a2,a3,a4⟩:=e
     obtain⟨f,hf⟩:∃f,n-1=f+1:=⟨n-2,by omega⟩
     rw[hf] at r1
     have e2:kRun n lt (nh p (f+1) 1)=kRun n lt (if lt (pg p 1) (pg p (1-1))=true then .ret 1 else nh p f (1+1)):=Ek (h.bd (by omega)) (h.bd (by omega))
     rw[e2,if_neg c] at r1
     have c0:lt (pg p 1) (pg p 0)=false:=by simpa using c
     have c1:lt (pg p 0) (pg p 1)=true:=by
      rw[T.tot _ _ (h.bd (by omega)) (h.bd (by omega)) (λq=>by have:=h.inj (by omega) (by omega) q;omega),c0];rfl
     obtain⟨m2,b1,b2,b3,b4⟩:=Hg T h f 2 (by omega) (by omega) (λi j hij hj=>by
      have:i=0:=by omega
      have:j=1:=by omega
      subst i j;exact c1)
     rw[r1] at b1
     cases b1
     omega
   obtain⟨d,q1,q2,q3,q4⟩:=hd
   rw[Dr,q1,cL]
   show ∃m p',kRun n lt (if 0 > 0 then _ else kas_tail3 d n p)=some (m,p')/\_
   rw[if_neg (by omega)]
   unfold kas_tail3
   obtain⟨hp,hs⟩:=a63 h q3 q4
   obtain⟨m',a1,a2,a3,a4⟩:=Hg T hp (n-d) d q2 (by omega) hs
   rw[Dr,a1,cL]
   exact⟨m',_,rfl,hp,by omega,by omega,a4⟩
theorem Jp{k:Nat}(hk:k<n)(hs:Srt lt p k):∀f l r,l<=r->r<=k->r-l<=f->(∀i,i<l->lt (pg p i) (pg p k)=true)->(∀i,r<=i->i<k->lt (pg p k) (pg p i)=true) ->
  ∃m,kRun n lt (iR p k f l r)=some m/\m<=k/\(∀i,i<m->lt (pg p i) (pg p k)=true)/\(∀i,m<=i->i<k->lt (pg p k) (pg p i)=true)
 |0,l,r,h1,h2,h3,hl,hr=>⟨l,rfl,by omega,hl,λi a b=>hr i (by omega) b⟩
 | f+1,l,r,h1,h2,h3,hl,hr=>by
  by_cases hlr:l ≥ r
  .have e:iR p k (f+1) l r=.ret l:=by unfold iR;rw[if_pos hlr]
   rw[e]
   exact⟨l,rfl,by omega,hl,λi a b=>hr i (by omega) b⟩
  .have e:kRun n lt (iR p k (f+1) l r)=kRun n lt (if lt (pg p k) (pg p ((l+r)/2))=true then iR p k f l ((l+r)/2) else iR p k f ((l+r)/2+1) r):=by
    conv=>lhs;unfold iR
    rw[if_neg hlr]
    exact Ek (h.bd hk) (h.bd (by omega))
   rw[e]
   have hm1:l<=(l+r)/2:=by omega
   have hm2:(l+r)/2<r:=by omega
   generalize (l+r)/2=mid at hm1 hm2 ⊢
   cases c:lt (pg p k) (pg p mid) with
   |true=>
    rw[if_pos rfl]
    refine Jp hk hs f l mid hm1 (by omega) (by omega) hl λi a b=>?_
    by_cases hi:i=mid
    .subst hi;exact c
    .exact T.tr _ _ _ (h.bd hk) (h.bd (by omega)) (h.bd (by omega)) c (hs mid i (by omega) b)
   |false=>
    rw[if_neg aC]
    have c1:lt (pg p mid) (pg p k)=true:=by
     rw[T.tot _ _ (h.bd (by omega)) (h.bd hk) (λq=>by have:=h.inj (by omega) hk q;omega),c];rfl
    refine Jp hk hs f (mid+1) r (by omega) h2 (by omega) (λi a=>?_) hr
    by_cases hi:i=mid
    .subst hi;exact c1
    .exact T.tr _ _ _ (h.bd (by omega)) (h.bd (by omega)) (h.bd hk) (hs i mid (by omega) (by omega)) c1
omit T in
def Us(hk:k<n)(hl:l<=k)(hs:Srt lt p k)(h1:∀i,i<l->lt (pg p i) (pg p k)=true)(h2:∀i,l<=i->i<k->lt (pg p k) (pg p i)=true):PermN n (mX p k (k-l))/\Srt lt (mX p k (k-l)) (k+1):=by
 have hp:PermN n (mX p k (k-l)):=(Array.perm_iff_toList_perm.mp (bubble_perm p k (k-l))).trans h
 have hk':k<p.size:=by rw[h.size];exact hk
 have gt:∀i,i<k+1->pg (mX p k (k-l)) i=if i=l then pg p k else if l<i then pg p (i-1) else pg p i:=λi hi=>by
  have e:=getElem?_bubble hk' (k-l) (by omega) i
  have e1:(mX p k (k-l))[i]?=some (pg (mX p k (k-l)) i):=pg_get (by rw[hp.size];omega)
  rw[e1,show k-(k-l)=l by omega] at e
  by_cases a:i=l
  .rw[if_pos a] at e ⊢
   rw[pg_get hk'] at e
   exact az e
  .rw[if_neg a] at e ⊢
   by_cases b:l<i
   .rw[if_pos ⟨b,by omega⟩] at e
    rw[if_pos b]
    rw[pg_get (by rw[h.size];omega)] at e
    exact az e
   .rw[if_neg (λq=>b q.1)] at e
    rw[if_neg b]
    rw[pg_get (by rw[h.size];omega)] at e
    exact az e
 refine⟨hp,λi j hij hj=>?_⟩
 rw[gt i (by omega),gt j hj]
 by_cases a:i=l
 .rw[if_pos a,if_neg (by omega),if_pos (by omega)]
  exact h2 (j-1) (by omega) (by omega)
 .rw[if_neg a]
  by_cases b:l<i
  .rw[if_pos b,if_neg (by omega),if_pos (by omega)]
   exact hs (i-1) (j-1) (by omega) (by omega)
  .rw[if_neg b]
   by_cases c:j=l
   .rw[if_pos c];exact h1 i (by omega)
   .rw[if_neg c]
    by_cases d:l<j
    .rw[if_pos d]
     exact hs i (j-1) (by omega) (by omega)
    .rw[if_neg d];exact hs i j hij (by omega)
end
theorem Xw{n:Nat}{lt:Nat->Nat->Bool}(T:Tot n lt):∀f p k,PermN n p->k+f=n->Srt lt p k -> ∃p',kRun n lt (kas_bin f p k)=some p'/\PermN n p'/\Srt lt p' n
 |0,p,k,h,e,hs=>⟨p,rfl,h,by rw[<- e];exact hs⟩
 | f+1,p,k,h,e,hs=>by
  obtain⟨l,a1,a2,a3,a4⟩:=Jp T h (by omega) hs k 0 k (bw _) (ag _) (by omega) (λi hi=>by omega) (λi a b=>by omega)
  obtain⟨b1,b2⟩:=Us h (by omega) a2 hs a3 a4
  obtain⟨p',c1,c2,c3⟩:=Xw T f _ (k+1) b1 (by omega) b2
  refine⟨p',?_,c2,c3⟩
  show kRun n lt ((iR p k k 0 k).bind λl=>kas_bin f (mX p k (k-l)) (k+1))=some p'
  rw[Dr,a1]
  exact c1
def sort_run{n:Nat}{lt:Nat->Nat->Bool}(T:Tot n lt)(hn:1<=n):∃p,kRun n lt (kas_sort n)=some p/\PermN n p/\Srt lt p n:=by
 have h0:PermN n (fh (aV n)):=by show(fh (aV n)).toList.Perm _;exact i7 _
 obtain⟨m,p,r1,r2,r3,r4,r5⟩:=Zd T h0 hn
 unfold kas_sort
 rw[Dr,r1,cL]
 by_cases h:m<n
 .rw[if_pos h,Nat.max_eq_left r3]
  exact Xw T (n-m) p m r2 (by omega) r5
 .rw[if_neg h]
  have:m=n:=by omega
  subst this
  exact⟨p,rfl,r2,r5⟩
end PySem.W
namespace L2
open PySem PySem.Spec PyProof.Rows
section
variable {α:Type}
def Kd(lt:α->α->Bool)(z:α):List α->List α
 |[]=>[z]
 |y::ys=>if lt z y=true then z::y::ys else y::Kd lt z ys
def Bx(lt:α->α->Bool):List α->List α
 |[]=>[]
 |z::zs=>Kd lt z (Bx lt zs)
structure OrdL (lt:α->α->Bool) (zs:List α):Prop where
 tot:∀a∈zs,∀b∈zs,a≠b->lt a b = !lt b a
 tr:∀a∈zs,∀b∈zs,∀c∈zs,lt a b=true->lt b c=true->lt a c=true
 nd:zs.Nodup
theorem Jh(lt:α->α->Bool)(z:α):∀ys,(Kd lt z ys).Perm (z::ys)
 |[]=>i7 _
 | y::ys=>by
  unfold Kd
  split
  .exact i7 _
  .exact ((Jh lt z ys).cons y).trans (List.Perm.swap z y ys)
theorem Ar(lt:α->α->Bool):∀zs,(Bx lt zs).Perm zs
 |[]=>i7 _
 |z::zs=>(Jh lt z _).trans ((Ar lt zs).cons z)
def OrdL.of(h:OrdL lt zs)(hs:∀a∈ys,a∈zs)(nd:ys.Nodup):OrdL lt ys:=⟨λa ha b hb=>h.tot a (hs a ha) b (hs b hb),λa ha b hb c hc=>h.tr a (hs a ha) b (hs b hb) c (hs c hc),nd⟩
theorem Os{lt:α->α->Bool}{z:α}:∀{ys},OrdL lt (z::ys)->ys.Pairwise (λa b=>lt a b=true)->(Kd lt z ys).Pairwise (λa b=>lt a b=true)
 |[],_,_=>List.pairwise_singleton _ _
 | y::ys,h,hp=>by
  rw[dY] at hp
  have nd:=h.nd
  rw[bS] at nd
  have ny:=nd.2
  rw[bS] at ny
  unfold Kd
  split
  .rename_i c
   refine List.pairwise_cons.mpr ⟨λb hb=>?_,List.pairwise_cons.mpr hp⟩
   rcases List.mem_cons.mp hb with rfl|hb'
   .exact c
   .exact h.tr z (.head _) y (.tail _ (.head _)) b (.tail _ hb) c (hp.1 b hb')
  .rename_i c
   have c:lt z y=false:=by simpa using c
   have c1:lt y z=true:=by rw[h.tot y (.tail _ (.head _)) z (.head _) (λe=>nd.1 (e▸.head _)),c];rfl
   have hz:=h.of (λa ha=>by rcases List.mem_cons.mp ha with rfl|q;exact .head _;exact .tail _ (.tail _ q)) (List.nodup_cons.mpr ⟨λq=>nd.1 (.tail _ q),ny.2⟩)
   refine List.pairwise_cons.mpr ⟨λb hb=>?_,Os hz hp.2⟩
   rcases List.mem_cons.mp ((Jh lt z ys).mem_iff.mp hb) with rfl|hb'
   .exact c1
   .exact hp.1 b hb'
theorem Gk{lt:α->α->Bool}:∀{zs},OrdL lt zs->(Bx lt zs).Pairwise (λa b=>lt a b=true)
 |[],_=>jk
 | z::zs,h=>by
  have nd:=List.nodup_cons.mp h.nd
  have hz:=h.of (λa ha=>.tail _ ha) nd.2
  refine Os (h.of (λa ha=>?_) ?_) (Gk hz)
  .rcases List.mem_cons.mp ha with rfl|q
   .exact .head _
   .exact .tail _ ((Ar lt zs).mem_iff.mp q)
  .exact List.nodup_cons.mpr ⟨λq=>nd.1 ((Ar lt zs).mem_iff.mp q),((Ar lt zs).nodup_iff).mpr nd.2⟩
theorem Gj{lt:α->α->Bool}:∀{xs ys},OrdL lt xs->xs.Perm ys->xs.Pairwise (λa b=>lt a b=true)->ys.Pairwise (λa b=>lt a b=true)->xs=ys
 |[],ys,_,h,_,_=>(List.Perm.nil_eq h)
 |x::xs,[],_,h,_,_=>absurd h.symm.nil_eq (by simp)
 | x::xs,y::ys,o,h,hx,hy=>by
  rw[dY] at hx hy
  have e:x=y:=by
   apply eh
   intro ne
   have m1:x∈ys:=by
    have:x∈y::ys:=h.mem_iff.mp (.head _)
    rcases List.mem_cons.mp this with q|q
    .exact absurd q ne
    .exact q
   have m2:y∈xs:=by
    have:y∈x::xs:=h.mem_iff.mpr (.head _)
    rcases List.mem_cons.mp this with q|q
    .exact absurd q.symm ne
    .exact q
   have a:=hx.1 y m2
   have b:=hy.1 x m1
   rw[o.tot x (.head _) y (.tail _ m2) ne,b] at a
   cases a
  subst e
  have nd:=List.nodup_cons.mp o.nd
  rw[Gj (o.of (λa ha=>.tail _ ha) nd.2) ((List.perm_cons x).mp h) hx.2 hy.2]
def ab4(d:α)(o:OrdL lt zs)(hn:1<=zs.length) :
  ∃p,PySem.W.kRun zs.length (λi j=>lt (zs.getD i d) (zs.getD j d)) (PySem.W.kas_sort zs.length)=some p/\p.toList.length=zs.length/\(∀i∈p.toList,i<zs.length)/\(p.toList.map λi=>zs.getD i d)=Bx lt zs:=by
 have gm:∀i,i<zs.length->zs.getD i d∈zs:=λi hi=>by rw[au,ai hi];exact cJ hi
 have gi:∀i j,i<zs.length->j<zs.length->zs.getD i d=zs.getD j d->i=j:=λi j hi hj e=>by
  rw[au,ai hi,au,ai hj] at e
  exact(dA o.nd).mp e
 obtain⟨p,h1,h2,h3⟩:=PySem.W.sort_run ⟨λi j hi hj ne=>o.tot _ (gm i hi) _ (gm j hj) (λe=>ne (gi i j hi hj e)),λi j k hi hj hk=>o.tr _ (gm i hi) _ (gm j hj) _ (gm k hk)⟩ hn
 have hp:(p.toList.map λi=>zs.getD i d).Perm zs:=by
  have q:=h2.map (λi=>zs.getD i d)
  have e:((aV zs.length).map λi=>zs.getD i d)=zs:=by
   apply jn
   intro i
   rw[ak]
   by_cases hi:i<zs.length
   .rw[fA hi,ai hi,dL,au,ai hi];rfl
   .rw[dm (by simp;omega),dm (by omega)];rfl
  rw[e] at q
  exact q
 refine⟨p,h1,by rw[bU,h2.size],λi hi=>List.mem_range.mp (h2.mem_iff.mp hi),?_⟩
 refine Gj (o.of (λa ha=>hp.mem_iff.mp ha) ((hp.nodup_iff).mpr o.nd)) (hp.trans (Ar lt zs).symm) ?_ (Gk o)
 rw[gE]
 intro i j hi hj hij
 rw[ae,bU,h2.size] at hi hj
 have g:∀k (hk:k<zs.length),∃hk',(p.toList.map λi=>zs.getD i d)[k]'hk'=zs.getD (PySem.W.pg p k) d:=λk hk=>by
  have e:=PySem.W.pg_get (by rw[h2.size];exact hk)
  rw[<- cw] at e
  obtain⟨a,b⟩:=List.getElem?_eq_some_iff.mp e
  refine⟨by rw[ae];exact a,?_⟩
  rw[cV,b]
 obtain⟨a1,b1⟩:=g i hi
 obtain⟨a2,b2⟩:=g j hj
 rw[b1,b2]
 exact h3 i j hij hj
end
def ltS(a b:Str):Bool:=decide (a.cps.toList<b.cps.toList)
def E3(nd:zs.Nodup):OrdL ltS zs where
 nd:=nd
 tot:=λa _ b _ ne=>by
  unfold ltS
  rw[<- decide_not]
  refine decide_eq_decide.mpr ⟨λh q=>lg _ (List.lt_trans h q),λh=>?_⟩
  apply eh
  intro q
  exact ne (Str.ext' (Array.toList_inj.mp (List.le_antisymm (List.not_lt.mp h) (List.not_lt.mp q))))
 tr:=λa _ b _ c _ h q=>by
  exact decide_eq_true (List.lt_trans (of_decide_eq_true h) (of_decide_eq_true q))
end L2
namespace PySem.W
open PySem PySem.Calls PyProof.Rows
section
variable {prog:aW}{w:bC}{A:bF}{E:Value->aw->Prop}{s:aw}{vs:List Value}
def collect_src{T:String}{r d:Addr}{n:Nat}{P:Nat->Value->Prop}{OK:Heap->Prop}{Q:List Value->aw->Prop}(K:KdlSrc prog w T r d n P OK)(hh:A.handled=none)(hok:OK s.heap)(hn:n<=sizeLine)(h:∀h' tk us,(∀b o,s.heap.get? b=some o->h'.get? b=some o)->s.heap.objs.size<h'.objs.size->us.length=n->(∀j v,us[j]?=some v->P j v)->Q us {s with heap:=h',toks:=tk}) :
  aR (model prog w) A (mJ (.ref r)) Q E s:=by
 have hlt:=K.there _ hok
 refine af (lB (eW kZ ?_))
 refine af (gw (am ⟨dw _ (by decide +kernel),eW entry_list_iadd' ?_⟩))
 rw[gC jH _]
 refine kdl_extend (R:=wants _ _) K hh (K.keep _ _ hok λb _ o e=>ah _ e) s.heap.objs.size (fj hlt.1) (fj hlt.2) _ 0 (aE _ rfl) (λh' tk acc' c' hk hS' hacc=>?_) hn
 show aR (model prog w) A (do
   let o <- load s.heap.objs.size
   match o.data with
   |.seq xs _=>pure xs.toList
   |_=>unsupported "internal:collect") Q E {s with heap:=h',toks:=tk}
 exact af (wpAny_load hS' (am (h h' tk acc'.toList (λb o e=>hk b o (aN (aG e)) (ah _ e)) (aG hS') (by rw[bU];exact hacc.1) λj v e=>hacc.2 j v (by rw[<- cw];exact e))))
def Nk(ho:s.heap.get? a=some (bE "list" vs.toArray n))(h2:vs.length<2)(h:∀h' c,h'.get? a=some (bE "list" vs.toArray c)->(∀b o,b≠a->s.heap.get? b=some o->h'.get? b=some o)->P (.done (.ret .none)) {s with heap:=h'}) :
  aR (model prog w) A (a_.«list.sort» ⟨[.ref a],[]⟩) P E s:=by
 have ha:=aG ho
 have s1:=bV s.heap a (bH λ_=>(#[]:Array Value))
 obtain⟨e1,ho1⟩:∃e1,(s.heap.update a (bH λ_=>(#[]:Array Value))).get? a=some (bE "list" #[] e1):=⟨_,eX ho λ_=>#[]⟩
 rw[list_sort_plain]
 refine af (kE ho rfl ?_)
 refine af (fG ho rfl ?_ (by rw[ax,bN];omega) (bw _))
 refine af (iS ho1 rfl ?_)
 refine af (lA ?_ (by show vs.length<=_;rw[bN];omega))
 refine af (gw ?_ (bw _))
 refine bD ?_
 dsimp only
 have hn2:vs.toArray.size<2:=by rw[ax];omega
 rw[if_pos hn2,if_pos hn2]
 refine af (am ?_)
 rw[StateT.run_pure]
 refine af (am ?_)
 have ho6:(((s.heap.update a (bH λ_=>(#[]:Array Value))).push (bE "tuple" vs.toArray 0)).push (bE "list" #[] 0)).get? a=some (bE "list" #[] e1):=ah _ (ah _ ho1)
 have o6:∀b o,b≠a->s.heap.get? b=some o->(((s.heap.update a (bH λ_=>(#[]:Array Value))).push (bE "tuple" vs.toArray 0)).push (bE "list" #[] 0)).get? b=some o:=λb o nb e=>ah _ (ah _ ((s1.2 b nb).trans e))
 generalize ((s.heap.update a (bH λ_=>(#[]:Array Value))).push (bE "tuple" vs.toArray 0)).push (bE "list" #[] 0)=h6 at ho6 o6 ⊢
 have hout:jh (λx=>x.snd) (arrOf (l6 m_ (vs.toArray.zip vs.toArray) #[] 7 none))=vs.toArray:=by
  show jh (λx=>x.snd) (vs.toArray.zip vs.toArray)=vs.toArray
  apply Array.ext'
  simp only[Array.toList_map,Array.toList_zip]
  exact jQ (ag _)
 refine af (iS ho6 rfl ?_)
 refine af (fG ho6 rfl ?_ (bw _) (by rw[hout,ax,bN];omega))
 have s2:=bV h6 a (bH λ_=>jh (λx=>x.snd) (arrOf (l6 m_ (vs.toArray.zip vs.toArray) #[] 7 none)))
 obtain⟨c2,hc2⟩:∃c2,(h6.update a (bH λ_=>jh (λx=>x.snd) (arrOf (l6 m_ (vs.toArray.zip vs.toArray) #[] 7 none)))).get? a=some (bE "list" (jh (λx=>x.snd) (arrOf (l6 m_ (vs.toArray.zip vs.toArray) #[] 7 none))) c2):=⟨_,eX ho6 λ_=>_⟩
 rw[hout] at hc2 s2 ⊢
 simp only[bne_self_eq_false,dv,if_false]
 exact am (h _ c2 hc2 λb o nb e=>(s2.2 b nb).trans (o6 b o nb e))
def Wa{x:Value}{OKQ:List Value->aw->Prop}{Q:Value->aw->Prop}(hc:∀R,(∀us s',OKQ us s'->R us s')->aR (model prog w) A.in1 (mJ x) R (λ_ _=>False) s)(h:∀us s',OKQ us s'->us.length<64/\((us.length<2 -> ∀h2 c,h2.get? s'.heap.objs.size=some (bE "list" us.toArray c)->(∀b o,s'.heap.get? b=some o->h2.get? b=some o)->Q (.ref s'.heap.objs.size) {s' with heap:=h2})/\(2<=us.length -> ∀D e1 h2,s'.heap.objs.size<=D->h2.get? D=some (bE "list" #[] e1)->(∀b o,s'.heap.get? b=some o->h2.get? b=some o) ->
   aR (model prog w) A.in1.in1 (jM us.toArray) (λκ s''=>(kas_sort us.length).kasWp (kas_ask prog w A.in1.in1 κ us) (λp s3=>SoFin D e1 (p.toList.map λi=>us.getD i bI) (λs4=>Q (.ref D) s4) s3) s'') (λ_ _=>False) {s' with heap:=h2}))) :
  aR (model prog w) A (call (.builtin "sorted") [x]) Q E s:=by
 refine Calls.call_function_entry kind_sorted plain_sorted entry_sorted (args_sorted1 _) ?_
 refine af (am ?_)
 refine af (bJ (hc _ λus s' ok=>?_) (λ_ _ z=>z) λ_ _ z=>z.elim)
 obtain⟨h64,hs,hb⟩:=h us s' ok
 refine af (gw ?_ (by rw[bN];omega))
 have hoL:(s'.heap.push (bE "list" us.toArray 0)).get? s'.heap.objs.size=some (bE "list" us.toArray 0):=aE _ rfl
 refine af (bD (dU slot_list_sort ⟨_,hoL,rfl⟩ entry_list_sort ?body (args_list_sort _)))
 case body=>
  by_cases h2:2<=us.length
  .refine Qw hoL h2 h64 λe1 h2' g k=>?_
   refine bJ (hb h2 _ e1 h2' (ag _) g λb o q=>k b o (aN (aG q)) (ah _ q)) (λκ s' hk=>?_) λ_ _ x=>x
   rw[kat_ask_eq rfl] at hk ⊢
   exact kas_wp_mono hk λp s'' hk'=>hk'.mono λs3 hq=>⟨_,rfl,am ⟨_,rfl,hq⟩⟩
  .have h2:us.length<2:=by omega
   exact Nk (s:={s' with heap:=s'.heap.push (bE "list" us.toArray 0)}) hoL h2 λh3 c g k=>⟨_,rfl,am ⟨_,rfl,hs h2 h3 c g λb o q=>k b o (aN (aG q)) (ah _ q)⟩⟩
def so_sortedC{x:Value}{OKQ:List Value->Heap->Nat->Prop}{Q:Value->aw->Prop}(hc:∀R,(∀us h' tk,OKQ us h' tk->R us {s with heap:=h',toks:=tk})->aR (model prog w) A.in1 (mJ x) R (λ_ _=>False) s)(h:∀us h' tk,OKQ us h' tk->us.length<64/\((us.length<2 -> ∀h2 c,h2.get? h'.objs.size=some (bE "list" us.toArray c)->(∀b o,h'.get? b=some o->h2.get? b=some o)->Q (.ref h'.objs.size) {s with heap:=h2,toks:=tk})/\(2<=us.length -> ∀D e1 h2,h'.objs.size<=D->h2.get? D=some (bE "list" #[] e1)->(∀b o,h'.get? b=some o->h2.get? b=some o) ->
   aR (model prog w) A.in1.in1 (jM us.toArray) (λκ s'=>(kas_sort us.length).kasWp (kas_ask prog w A.in1.in1 κ us) (λp s''=>SoFin D e1 (p.toList.map λi=>us.getD i bI) (λs3=>Q (.ref D) s3) s'') s') (λ_ _=>False) {s with heap:=h2,toks:=tk}))) :
  aR (model prog w) A (call (.builtin "sorted") [x]) Q E s:=
 Wa (OKQ:=λus s'=>∃h' tk,s'={s with heap:=h',toks:=tk}/\OKQ us h' tk) (λR hR=>hc R λus h' tk ok=>hR us _ ⟨h',tk,rfl,ok⟩) λus s' ⟨h',tk,e,ok⟩=>by subst e;exact h us h' tk ok
end
end PySem.W
namespace L2
open PySem PySem.Spec PyProof.Rows
theorem Rm:∀{xs}{us:List Value},xs.length=us.length->(∀(i:Nat) x u,xs[i]?=some x->us[i]?=some u->RelV x u)->Vals xs us
 |[],[],_,_=>.nil
 |[],_::_,h,_=>by simp at h
 |_::_,[],h,_=>by simp at h
 |x::xs,u::us,h,g=>.cons (g 0 x u rfl rfl) (Rm (by simpa using h) λi a b ha hb=>g (i+1) a b ha hb)
def Zs(rel:KV kvs vs)(hl:us.length=vs.length)(h:∀(j:Nat) v,us[j]?=some v -> ∃k x,vs[j]?=some (k,x)/\(Be P w).is k v=true):Vals (kvs.map λkv=>kV kv.1) us:=by
 refine Rm (by rw[ae,rel.length,hl]) λi x u hx hu=>?_
 obtain⟨k,y,hk,his⟩:=h i u hu
 have e:(kvs.map (·.1))[i]?=some k:=by rw[rel.keys,ak,hk];rfl
 rw[ak] at hx e
 obtain⟨kv,hkv,rfl⟩:=Option.map_eq_some_iff.mp hx
 rw[hkv] at e
 cases e
 exact Qa his
section
variable {X:Cx}
def ah9{ξ:List (Addr×Obj)}{s:aw}{σ:St}{H:Hp}{p:Addr}{xs:List V}{R:List Value->aw->Prop}(hc:X.calm=true)(I:Inv X ξ σ H s)(hp:SqL X.K H p xs \/ ∃kvs,Rd H p (.dK kvs)/\(kvs.map λkv=>kV kv.1)=xs)(hR:∀us h' tk,(∀b o,s.heap.get? b=some o->h'.get? b=some o)->s.heap.objs.size<=h'.objs.size->s.toks<=tk->Vals xs us->R us {s with heap:=h',toks:=tk}):aR (model X.prog X.w) X.A.in1 (mJ (.ref p)) R (λ_ _=>False) s:=by
 rcases hp with hp|⟨kvs,hp,ek⟩
 .obtain⟨χ,ri,pl,hz⟩:=I.list hp
  refine collect_list pl.isList (hR _ _ s.toks (λb o e=>?_) ?_ (ag _) ri) (by rw[<- ri.length];exact hz)
  .rw[Heap.get?_update_ne _ _ _ _ (aN (aG e))]
   exact ah _ e
  .rw[Heap.size_update,kM]
   exact cM _
 .obtain⟨z,lo,vs,rel,dof⟩:=Dm I.hok hp
  obtain⟨ep,dat⟩:=dof.dictAt
  exact bG (ag _) (PySem.W.collect_src (PySem.W.kdl_dict lo) (by simp[I.ok.hd hc]) dat (by rw[<- rel.length];exact z) λh' tk us hk hs hl hi htk=>hR us h' tk hk (fW hs) htk (ek▸Zs rel hl hi))
def Q4{α:Type}{lt:α->α->Bool}{zs:List α}(h:zs.length<2):Bx lt zs=zs:=by
 match zs,h with
 |[],_=>rfl
 |[z],_=>rfl
def R1{α:Type}{v:α->V}{zs:List α}{us:List Value}(d:α)(rv:Vals (zs.map v) us){i:Nat}(h:i<zs.length):RelV (v (zs.getD i d)) (us.getD i bI):=by
 obtain⟨u,hu,ru⟩:=rv.get (x:=v (zs.getD i d)) (by rw[ak,au,ai h];rfl)
 rw[au (l:=us),hu]
 exact ru
theorem Uk{α:Type}{v:α->V}{zs:List α}{us:List Value}(d:α)(rv:Vals (zs.map v) us):∀p:List Nat,(∀i∈p,i<zs.length)->Vals ((p.map λi=>zs.getD i d).map v) (p.map λi=>us.getD i bI)
 |[],_=>.nil
 |i::p,h=>.cons (R1 d rv (h i aQ)) (Uk d rv p λj hj=>h j (av _ hj))
def W3{α:Type}{v:α->V}{lt:α->α->Bool}{zs:List α}{us:List Value}{s:aw}{G:Array Nat->aw->Prop}{ask:Nat->Nat->(Bool->aw->Prop)->aw->Prop}(d:α)(o:OrdL lt zs)(rv:Vals (zs.map v) us)(h2:2<=us.length)(ha:∀i j C,i<zs.length->j<zs.length->C (lt (zs.getD i d) (zs.getD j d)) s->ask i j C s)(hG:∀p:Array Nat,Vals ((Bx lt zs).map v) (p.toList.map λi=>us.getD i bI)->G p s):(PySem.W.kas_sort us.length).kasWp ask G s:=by
 have hl:zs.length=us.length:=by have:=rv.length;rwa[ae] at this
 obtain⟨pp,h1,h3,h4,h5⟩:=ab4 d o (by omega)
 rw[<- hl]
 exact PySem.W.kRun_wp ha h1 (hG pp (h5▸Uk d rv pp.toList h4))
def ar3(K:ac):List V->Hp->VK->Prop:=λxs H Q=>∃p zs,xs=[.ref p]/\(SqL K H p (zs.map V.str) \/ ∃kvs,Rd H p (.dK kvs)/\kvs.map (·.1)=zs.map du)/\zs.Nodup/\zs.length<64/\∀D,H D=none->Q (.ref D) (upd H D (.lst ((Bx ltS zs).map V.str)))
def X8{K:ac}{H:Hp}{p:Addr}{zs:List Str}(h:SqL K H p (zs.map V.str) \/ ∃kvs,Rd H p (.dK kvs)/\kvs.map (·.1)=zs.map du):SqL K H p (zs.map V.str) \/ ∃kvs,Rd H p (.dK kvs)/\(kvs.map λkv=>kV kv.1)=zs.map V.str:=
 h.imp id fun⟨kvs,h1,h2⟩=>⟨kvs,h1,by
  have:=congrArg (kJ kV) h2
  rwa[aB,aB] at this⟩
def Uw(hc:X.calm=true):Ci X (.builtin "sorted") (ar3 X.K):=by
 intro ξ s σ H xs us Q I r h
 obtain⟨p,zs,rfl,hp,nd,h64,q⟩:=h
 obtain⟨u,rfl,ru⟩:=D4 r
 cases ru
 refine PySem.W.so_sortedC (OKQ:=λus h' tk=>(∀b o,s.heap.get? b=some o->h'.get? b=some o)/\s.heap.objs.size<=h'.objs.size/\s.toks<=tk/\Vals (zs.map V.str) us) (λR hR=>ah9 hc I (X8 hp) λus h' tk a b c d=>hR us h' tk ⟨a,b,c,d⟩) λus h' tk ⟨keep,hD,htk,rv⟩=>?_
 have hl:zs.length=us.length:=by have:=rv.length;rwa[ae] at this
 have fin:∀{h3} {D} {out} {c},h'.objs.size<=D->(∀b o,h'.get? b=some o->h3.get? b=some o)->Vals ((Bx ltS zs).map V.str) out->h3.get? D=some (bE "list" out.toArray c)->EP X ξ σ Q (.ref D) {s with heap:=h3,toks:=tk}:=λ{h3 D out c} hD2 k r g=>
  ⟨.ref D,_,I.laid (λb o e=>k b o (keep b o e)) (aU hD hD2) (o:=.lst ((Bx ltS zs).map V.str)) ⟨by rw[ae,(Ar ltS zs).length_eq,bN];omega,out,c,r,g⟩,rfl,q _ (I.hok.fresh (aU hD hD2))⟩
 refine⟨by omega,λh2 h2' c g k=>fin (ag _) k (by rw[Q4 (by omega)];exact rv) g,λh2 D e1 h2' hD2 gD k=>?_⟩
 refine PySem.W.kas_kind (T:=.type "str") h2 (λv hv=>?_) rfl rfl (W3 cH (E3 nd) rv h2 (λi j C hi hj hC=>?_) λp ro=>⟨gD,λh3 c g sb=>fin hD2 (λb o e=>(sb.2 b (aN (aL (aG e) hD2))).trans (k b o e)) ro g⟩)
 .obtain⟨i,hi,rfl⟩:=List.getElem_of_mem hv
  obtain⟨t,e⟩:=R1 cH rv (i:=i) (by omega)
  rw[au,ai hi] at e
  rw[show us[i]=_ from e]
  exact .now
 .unfold eV
  obtain⟨t1,e1⟩:=R1 cH rv hi
  obtain⟨t2,e2⟩:=R1 cH rv hj
  rw[e1,e2]
  exact PySem.W.kas_lt_str hC
end
end L2
namespace PySem.W
open PySem PySem.Calls PyProof.Rows
end PySem.W
namespace L2
open PySem PySem.Spec PyProof.Rows
section
variable {X:Cx}
def bt4(K:ac):List V->Hp->VK->Prop:=λxs H Q=>∃(p:Addr)(ns:List Int),xs=[.ref p]/\SqL K H p (ns.map V.int)/\Q (.int ns.sum) H
def ah7(hc:X.calm=true):Ci X (.builtin "sum") (bt4 X.K):=by
 intro ξ s σ H xs us Q I r h
 obtain⟨p,ns,rfl,hp,q⟩:=h
 obtain⟨u,rfl,ru⟩:=D4 r
 cases ru
 obtain⟨χ,ri,pl,hz⟩:=I.list hp
 have ia:=Lv ri
 obtain⟨xs,e⟩:=ia.allInts.items
 have hl:=pl.isList
 rw[e] at hl
 refine bG (ag _) (sum_intListG (I.ok.hd hc) hl λh' tk t' hk htk=>?_)
 refine⟨.int ns.sum,H,I.kept hk htk,⟨t',?_⟩,q⟩
 rw[preSum_eq,jZ (by simp),<- nums_intItems,<- e,show χ.toArray.toList=χ from rfl,ia.numsOf]
end
end L2
namespace PySem.W
open PySem PySem.Calls PyProof.Rows
section
variable {prog:aW}{w:bC}{A:bF}{E:Value->aw->Prop}{s:aw}{vs:List Value}
def SkFin(a b:Addr)(e e1:Nat)(ks out:List Value)(C:aw->Prop)(s:aw):Prop:=
 s.heap.get? a=some (bE "list" #[] e1)/\s.heap.get? b=some (bE "list" ks.toArray e)/\∀h' c,h'.get? a=some (bE "list" (fh out) c)->(∀d,d≠a->d≠b->h'.get? d=s.heap.get? d)->C {s with heap:=h'}
def Yw{a kS:Addr}{ks:List Value}{st:SortSt}{e e1:Nat}{out:List Value}{P:PySem.Fin->aw->Prop}(hne:a≠kS)(har:jh (λx=>x.snd) (arrOf st)=out.toArray)(h64:out.length<64)(k64:ks.length<64)(hf:failedOf st=none)(h:SkFin a kS e e1 ks out (λs'=>P (.done (.ret .none)) s') s):aR (model prog w) A (ksk_tail a false e1 (.ref kS) st) P E s:=by
 obtain⟨ha,hk,q⟩:=h
 unfold ksk_tail
 rw[har,hf]
 have s1:=bV s.heap kS (bH λ_=>(#[]:Array Value))
 have ha1:=(s1.2 a hne).trans ha
 refine af (fG hk rfl ?_ (by rw[ax,bN];omega) (bw _))
 refine af (wpAny_letGo ?_)
 refine af (iS ha1 rfl ?_)
 refine af (fG ha1 rfl ?_ (bw _) (by simp only[dv,if_false];rw[ax,bN];omega))
 simp only[bne_self_eq_false,dv,if_false]
 have s2:=bV (s.heap.update kS (bH λ_=>(#[]:Array Value))) a (bH λ_=>out.toArray)
 obtain⟨c2,hc2⟩:∃c2,((s.heap.update kS (bH λ_=>(#[]:Array Value))).update a (bH λ_=>out.toArray)).get? a=some (bE "list" out.toArray c2):=⟨_,eX ha1 λ_=>_⟩
 exact am (q _ c2 hc2 λd d1 d2=>(s2.2 d d1).trans (s1.2 d d2))
def a74(ho:s.heap.get? a=some (bE "list" vs.toArray n))(h64:vs.length<64)(h:∀e1 kS h',s.heap.objs.size<=kS->h'.get? a=some (bE "list" #[] e1)->h'.get? kS=some (bE "list" #[] 0)->(∀b o,b≠a->s.heap.get? b=some o->h'.get? b=some o) ->
   ∃G:List Value->aw->Prop,(∀e,h'.get? kS=some (bE "list" #[] e)->G [] {s with heap:=h'}) /\
    (∀(j:Nat) x ks e s',vs[j]?=some x->ks.length=j->s'.heap.get? kS=some (bE "list" ks.toArray e)->G ks s'->aR (model prog w) A (call f [x]) (λk s''=>s''.heap.get? kS=some (bE "list" ks.toArray e)/\∀h2 c,h2.get? kS=some (bE "list" (ks++[k]).toArray c)->bO kS s''.heap h2->G (ks++[k]) {s'' with heap:=h2}) (λ_ _=>False) s') /\
    (∀ks e s',ks.length=vs.length->s'.heap.get? kS=some (bE "list" ks.toArray e)->G ks s'->(vs.length<2->SkFin a kS e e1 ks vs (λs3=>P (.done (.ret .none)) s3) s')/\(2<=vs.length ->
     aR (model prog w) A (jM ks.toArray) (λκ s''=>(kas_sort vs.length).kasWp (kas_ask prog w A κ ks) (λp s3=>SkFin a kS e e1 ks (p.toList.map λi=>vs.getD i bI) (λs4=>P (.done (.ret .none)) s4) s3) s'') (λ_ _=>False) s'))) :
  aR (model prog w) A (ksk_tree a f false) P E s:=by
 have ha:=aG ho
 have s1:=bV s.heap a (bH λ_=>(#[]:Array Value))
 obtain⟨e1,ho1⟩:∃e1,(s.heap.update a (bH λ_=>(#[]:Array Value))).get? a=some (bE "list" #[] e1):=⟨_,eX ho λ_=>#[]⟩
 have hsz:((s.heap.update a (bH λ_=>(#[]:Array Value))).push (bE "tuple" vs.toArray 0)).objs.size=s.heap.objs.size+1:=by rw[kM,Heap.size_update]
 refine af (kE ho rfl ?_)
 refine af (fG ho rfl ?_ (by rw[ax,bN];omega) (bw _))
 refine af (iS ho1 rfl ?_)
 refine af (lA ?_ (by show vs.length<=_;rw[bN];omega))
 refine af (gw ?_ (bw _))
 refine bD ?_
 have hk0:(((s.heap.update a (bH λ_=>(#[]:Array Value))).push (bE "tuple" vs.toArray 0)).push (bE "list" #[] 0)).get? (((s.heap.update a (bH λ_=>(#[]:Array Value))).push (bE "tuple" vs.toArray 0)).objs.size)=some (bE "list" #[] 0):=aE _ rfl
 have ha0:(((s.heap.update a (bH λ_=>(#[]:Array Value))).push (bE "tuple" vs.toArray 0)).push (bE "list" #[] 0)).get? a=some (bE "list" #[] e1):=ah _ (ah _ ho1)
 obtain⟨G,g0,gs,gf⟩:=h e1 _ _ (by rw[hsz];exact cM _) ha0 hk0 (λb o nb e=>ah _ (ah _ ((s1.2 b nb).trans e)))
 have hne:a≠((s.heap.update a (bH λ_=>(#[]:Array Value))).push (bE "tuple" vs.toArray 0)).objs.size:=by rw[hsz];exact aN (dG ha)
 have gz:=g0 0 hk0
 generalize ((s.heap.update a (bH λ_=>(#[]:Array Value))).push (bE "tuple" vs.toArray 0)).objs.size=kS at *
 generalize ((s.heap.update a (bH λ_=>(#[]:Array Value))).push (bE "tuple" vs.toArray 0)).push (bE "list" #[] 0)=h' at *
 refine af (wpAny_rule ?_)
 rw[<- i3]
 refine af (ksk_fold (λj s'=>∃ks e,ks.length=j/\s'.heap.get? kS=some (bE "list" ks.toArray e)/\G ks s') vs 0 _ ⟨[],0,rfl,hk0,gz⟩ (λj x s' hx ⟨ks,e,hl,hk,hg⟩=>?_) λs' ⟨ks,e,hl,hk,hg⟩=>?_)
 .rw[dn] at hl
  have hj:=(List.getElem?_eq_some_iff.mp hx).1
  refine af (gv (bJ (gs j x ks e s' hx hl hk hg) (λk s'' hq=>?_) λ_ _ z=>z.elim))
  obtain⟨hk2,hq⟩:=hq
  refine af (fG hk2 rfl ?_ (by rw[ax,bN];omega) (by rw[Array.size_push,ax,bN];omega))
  have e3:(ks.toArray.push k)=(ks++[k]).toArray:=by simp
  obtain⟨c,hc⟩:∃c,(s''.heap.update kS (bH λx=>x.push k)).get? kS=some (bE "list" (ks++[k]).toArray c):=⟨_,by rw[<- e3];exact eX hk2 λx=>x.push k⟩
  exact am ⟨rfl,ks++[k],c,by rw[aI,hl,dn];rfl,hc,hq _ c hc (bV _ _ _)⟩
 .rw[dn] at hl
  obtain⟨q1,q2⟩:=gf ks e s' hl hk hg
  refine af (kE hk rfl ?_)
  unfold ksk_end
  simp only[dv,if_false]
  by_cases h2:vs.toArray.size<2
  .rw[if_pos h2,if_pos h2]
   refine af (am ?_)
   rw[StateT.run_pure]
   refine af (am ?_)
   refine Yw hne ?_ h64 (by omega) rfl (q1 (by simpa using h2))
   show jh (λx:Keyed=>x.snd) (ks.toArray.zip vs.toArray)=vs.toArray
   apply Array.ext'
   simp only[Array.toList_map,Array.toList_zip]
   exact jQ (by omega)
  .have h2':2<=vs.length:=by rw[ax] at h2;omega
   rw[if_neg h2,if_neg h2]
   refine af (bJ (q2 h2') (λκ s0 hk0=>?_) λ_ _ x=>x.elim)
   refine af (bJ (kat_run (Q:=λst' s'=>∃p:Array Nat,p.size=vs.length/\arrOf st'=p.map (kas_item (ks.toArray.zip vs.toArray))/\failedOf st'=none/\SkFin a kS e e1 ks (p.toList.map λi=>vs.getD i bI) (λs''=>P (.done (.ret .none)) s'') s')
    hl h2' h64 (λp' st' s' a1 a2 a3 a4=>⟨p',a1,a2,a3,a4⟩) hk0) ?_ λ_ _ e=>e)
   rintro⟨⟨⟩,st'⟩ s' ⟨p,hp,har,hf,hq⟩
   exact Yw hne (kat_snds hl har) (by rw[ae,bU,hp];exact h64) (by omega) hf hq
def sk_sorted{x:Value}{b:Addr}{OKQ:List Value->Heap->Nat->Prop}{Q:Value->aw->Prop}(hc:∀R:List Value->aw->Prop,(∀us h' tk,OKQ us h' tk->R us {s with heap:=h',toks:=tk})->aR (model prog w) A.in1 (mJ x) R (λ_ _=>False) s)(h:∀us h' tk,OKQ us h' tk->us.length<64/\∀D e1 kS h2,h'.objs.size<=D->D<kS->h2.get? D=some (bE "list" #[] e1)->h2.get? kS=some (bE "list" #[] 0)->(∀b o,h'.get? b=some o->h2.get? b=some o) ->
   ∃G:List Value->aw->Prop,G [] {s with heap:=h2,toks:=tk} /\
    (∀(j:Nat) x ks e s',us[j]?=some x->ks.length=j->s'.heap.get? kS=some (bE "list" ks.toArray e)->G ks s'->aR (model prog w) A.in1.in1 (call (.ref b) [x]) (λk s''=>s''.heap.get? kS=some (bE "list" ks.toArray e)/\∀h2 c,h2.get? kS=some (bE "list" (ks++[k]).toArray c)->bO kS s''.heap h2->G (ks++[k]) {s'' with heap:=h2}) (λ_ _=>False) s') /\
    (∀ks e s',ks.length=us.length->s'.heap.get? kS=some (bE "list" ks.toArray e)->G ks s'->(us.length<2->SkFin D kS e e1 ks us (λs3=>Q (.ref D) s3) s')/\(2<=us.length ->
     aR (model prog w) A.in1.in1 (jM ks.toArray) (λκ s''=>(kas_sort us.length).kasWp (kas_ask prog w A.in1.in1 κ ks) (λp s3=>SkFin D kS e e1 ks (p.toList.map λi=>us.getD i bI) (λs4=>Q (.ref D) s4) s3) s'') (λ_ _=>False) s'))) :
  aR (model prog w) A (call (.builtin "sorted") [x] [("key", .ref b)]) Q E s:=by
 refine call_function_entry_kw kind_sorted plain_sorted entry_sorted (ksk_s1 _ _) ?_
 refine af (am ?_)
 refine af (bJ (hc _ λus h' tk ok=>?_) (λ_ _ z=>z) λ_ _ z=>z.elim)
 obtain⟨h64,hb⟩:=h us h' tk ok
 refine af (gw ?_ (by rw[bN];omega))
 have hoL:(h'.push (bE "list" us.toArray 0)).get? h'.objs.size=some (bE "list" us.toArray 0):=aE _ rfl
 refine af (bD (wpAny_call_entry_kw slot_list_sort ⟨_,hoL,rfl⟩ entry_list_sort ?body (ksk_l1 _ _)))
 case body=>
  rw[ksk_t1]
  refine a74 hoL h64 λe1 kS h2 hk g gk k=>?_
  have hk2:h'.objs.size<kS:=by
   have hk:(h'.push (bE "list" us.toArray 0)).objs.size<=kS:=hk
   rw[kM] at hk;omega
  obtain⟨G,g0,gs,gf⟩:=hb h'.objs.size e1 kS h2 (ag _) hk2 g gk λb o q=>k b o (aN (aG q)) (ah _ q)
  refine⟨G,λ_ _=>g0,gs,λks e s' hl hk hg=>?_⟩
  obtain⟨q1,q2⟩:=gf ks e s' hl hk hg
  refine⟨λh2=>?_,λh2=>bJ (q2 h2) (λκ s'' hk=>?_) λ_ _ x=>x⟩
  .obtain⟨r1,r2,r3⟩:=q1 h2
   exact⟨r1,r2,λh' c x y=>⟨_,rfl,am ⟨_,rfl,r3 h' c x y⟩⟩⟩
  .rw[kat_ask_eq hl] at hk ⊢
   exact kas_wp_mono hk λp s3 ⟨r1,r2,r3⟩=>⟨r1,r2,λh' c x y=>⟨_,rfl,am ⟨_,rfl,r3 h' c x y⟩⟩⟩
end
end PySem.W
namespace L2
open PySem PySem.Spec PyProof.Rows
def ltK(kf:Str->Int)(a b:Str):Bool:=if kf a=kf b then ltS a b else decide (kf a<kf b)
def a18(nd:zs.Nodup):OrdL (ltK kf) zs where
 tot:=λa ha b hb n=>by
  unfold ltK
  by_cases h:kf a=kf b
  .rw[if_pos h,if_pos h.symm];exact(E3 nd).tot a ha b hb n
  .rw[if_neg h,if_neg (cg h)]
   by_cases c:kf a<kf b
   .rw[decide_eq_true c,decide_eq_false (by omega)];rfl
   .rw[decide_eq_false c,decide_eq_true (by omega)];rfl
 tr:=λa ha b hb c hc h1 h2=>by
  unfold ltK at *
  by_cases e1:kf a=kf b
  .rw[if_pos e1] at h1
   by_cases e2:kf b=kf c
   .rw[if_pos e2] at h2
    rw[if_pos (e1.trans e2)]
    exact(E3 nd).tr a ha b hb c hc h1 h2
   .rw[if_neg e2] at h2
    rw[e1,if_neg e2]
    exact h2
  .rw[if_neg e1] at h1
   have h1:=of_decide_eq_true h1
   by_cases e2:kf b=kf c
   .rw[<- e2,if_neg e1]
    exact decide_eq_true h1
   .rw[if_neg e2] at h2
    have h2:=of_decide_eq_true h2
    rw[if_neg (by omega)]
    exact decide_eq_true (by omega)
 nd:=nd
section
variable {X:Cx}{ξ:List (Addr×Obj)}{σ:St}{H:Hp}{s:aw}
def Inv.adopt(I:Inv X ξ σ H s)(fa:Cz X ξ H a)(fd:Cz X ξ H d)(k:∀b u,b≠a->b≠d->s.heap.get? b=some u->h'.get? b=some u)(new:ObjOk X.prog X.w (upd H a o) h' a o):Inv X ξ σ (upd H a o) {s with heap:=h'}:=by
 have nit:∀b u,H b=some u->b≠a/\b≠d:=λb u e=>⟨Ai e fa.1,Ai e fd.1⟩
 have nc:∀{b},b∉[a,d]->b≠a/\b≠d:=λh=>by simpa using h
 refine I.step (λb hb=>?_) (λb u _ _ hc e _=>k b u (nc hc).1 (nc hc).2 e) (λb u _ _ hc e _=>⟨u.slots,k b u (nc hc).1 (nc hc).2 e⟩) (λb u hc e n=>by rw[Ad (nc hc).1];exact n)
  (λb u hc e=>⟨u,k b u (nc hc).1 (nc hc).2 e⟩) (λb xs q=>by rw[Ad (nit b _ q).1];exact q) (λb u v q=>by rw[Ad (nit b _ q).1];exact q) (λb ps q=>⟨#[],by rw[Ad (nit b _ q).1,q];simp⟩) (λm hm=>?_) (λb u e=>?_) I.bare
 .rcases List.mem_cons.mp hb with rfl|hb
  .exact⟨fa.2.2.2.1,fa.2.1,fa.2.2.2.2.1,fa.2.2.2.2.2⟩
  .have e:b=d:=by simpa using hb
   subst e
   exact⟨fd.2.2.2.1,fd.2.1,fd.2.2.2.2.1,fd.2.2.2.2.2⟩
 .obtain⟨u,es,ep,ho,r⟩:=hm
  exact⟨u,es,ep,k _ u (cg fa.2.1) (cg fd.2.1) ho,r⟩
 .by_cases hb:b=a
  .subst hb;rw[Aa] at e;cases e;exact new
  .rw[Ad hb] at e
   refine(I.hok b u e).stay (λc v hc q=>?_) (λc q=>by rw[Ad (nit c _ q).1];exact q) λc xs q=>by rw[Ad (nit c _ q).1];exact q
   rcases hc with z|z
   .rw[z] at q ⊢;exact k _ v (nit b u e).1 (nit b u e).2 q
   .exact k c v (nit c _ z).1 (nit c _ z).2 q
def Zj(I:Inv X ξ σ H s)(e:H a=some (.ins C dx fs))(c:Cls X.K C)(k:Na X.K C m g)(sg:dH X.K (.ref g) "__get__"=some (some (.builtin "function.__get__")))(tk:f6 X.K (.ref g)=some false)(cn:PySem.W.copiedNames.contains m=false)(l:fs.lookup m=none)(h:∀s',s'.heap.get? s.heap.objs.size=some (jq (.ref g) (.ref a))->s.heap.objs.size<s'.heap.objs.size->Inv X ξ σ H s'->Q (.ref s.heap.objs.size) s'):aR (model X.prog X.w) A (l7 (.ref a) m expr) Q E s:=by
 obtain⟨mA,O,r,_,_,_⟩:=K2 I.hok e
 have hn:=RelO.none_of (by rw[<- l];exact r m)
 obtain⟨od,J,hl⟩:=O.look
 exact PySem.W.get_bind I.kIn J (fF (c.get m)).1 (PySem.W.findObj_fn c.hd k.at_ sg tk cn (by rw[hl,hn])) (fF (c.get m)).2 (dS (PySem.W.fn_get (s:={s with toks:=s.toks+1}) I.kIn (beq_iff_eq.mp k.fn) (PySem.W.handed_on rfl (h _ (aE _ rfl) (by show _<(s.heap.push _).objs.size;rw[kM];exact cf _) (I.kept (t':=s.toks+1) λb o e=>ah _ e)))))
def a64(K:bf0 X m mi)(I:Inv X ξ σ H s)(hb:s.heap.get? bm=some (jq (.ref mi.i.f) (.ref a)))(ru:RelV (.str z) u)(h:mi.i.sp [.ref a,.str z] H Q (λv _ _=>∃a,v=aX a/\False)) :
  aR (model X.prog X.w) X.A.in1.in1 (call (.ref bm) [u]) (EP X ξ σ Q) (λ_ _=>False) s:=by
 obtain⟨CX,hx,FO⟩:=K.fi.ok
 have r2:Vals [.ref a,.str z] [aX a,u]:=.cons rfl (.cons ru .nil)
 have hl:=FO.len _ _ _ _ h
 have hd:=K.fi.binds mi.i.dfs.length (ag _)
 rw[List.drop_of_length_le (by rw[K.fi.vals.length];exact ag _)] at hd
 have hb2:=hd s [aX a,u] I.kIn hl
 rw[b7] at hb2
 refine dS (ks_codeAny_call_bound hb (d8 (FO.run X.A.in1.in1 X.stack s H ⟨[aX a,u],[]⟩ [aX a,u] _ Q _ K.room.in1.in1 I.env0.in1.in1 hb2 r2 h) λr s' hq=>?_))
 cases r with
 |error e=>
  have o:=I.ok
  have I':Inv {X with xe:=λ_ _=>False} ξ σ H s:=⟨⟨o.mod,o.kind,o.glob,o.blt,o.above,o.inj,o.has,o.cab,o.hd,o.frames,o.stk,o.exf,o.bs,o.bsz,o.noex,o.exfs,o.funs,o.frf,o.tk⟩,I.os,I.bare,I.base,I.loc,I.cell,I.free,I.freeC,I.pin,I.hok,I.len⟩
  exact hx {X with xe:=λ_ _=>False} rfl rfl (λ_ _ _=>False) (λ_ _ _ _ _ _ _ z=>z.elim) ξ σ H s e s' I' hq
 |ok fl=>
  cases fl with
  |ret u=>exact I.after hq
  |next=>exact bP hq
  |brk=>exact bP hq
  |cont=>exact bP hq
def ag2{α:Type}(KR:α->V->Hp->Prop)(H:Hp)(zs:List α)(ks:List Value):Prop:=∀(i:Nat) k z,ks[i]?=some k->zs[i]?=some z -> ∃w,RelV w k/\KR z w H
def bi2(kf:Str->Int)(z:Str)(w:V)(H:Hp):Prop:=∃q,w=.ref q/\H q=some (.tup [.int (kf z),.str z])
theorem Sx(I:Inv X ξ σ H s){kf:Str->Int}:∀{zs} {ks},ks.length=zs.length->ag2 (bi2 kf) H zs ks -> ∃fs,fZ s.heap ks fs/\fs.length=zs.length/\∀v∈fs,∃i t,v=.int i t
 |[],[],_,_=>⟨[],lG,rfl,λv hv=>by cases hv⟩
 |[],_::_,h,_=>by simp at h
 |_::_,[],h,_=>by simp at h
 | z::zs,k::ks,h,ka=>by
  obtain⟨fs,kt,hl,hi⟩:=Sx I (by simpa using h) λi k' z' h1 h2=>ka (i+1) k' z' h1 h2
  obtain⟨_,rk,q,rfl,hq⟩:=ka 0 k z rfl rfl
  cases rk
  obtain⟨χ,ri,⟨o,e,c,n,dd⟩,_⟩:=I.tuple (SqT.of hq)
  cases ri with
  |cons ra rr=>
   obtain⟨t,rfl⟩:=ra
   exact⟨_::fs,kQ e c dd rfl kt,by rw[aK,aK,hl],λv hv=>(List.mem_cons.mp hv).elim (λz=>⟨_,_,z⟩) (hi v)⟩
def bi5(I:Inv X ξ σ H s)(h1:H q1=some (.tup [.int (kf z1),.str z1]))(h2:H q2=some (.tup [.int (kf z2),.str z2]))(hC:C (ltK kf z1 z2) s) :
  aR (model X.prog X.w) A (keyLt' (tuples' true) (.ref q1) (.ref q2)) C E s:=by
 obtain⟨i1,r1,⟨o1,e1,c1,m1,d1⟩,_⟩:=I.tuple (SqT.of h1)
 obtain⟨i2,r2,⟨o2,e2,c2,m2,d2⟩,_⟩:=I.tuple (SqT.of h2)
 obtain⟨u1,v1,rfl,⟨tk1,rfl⟩,⟨tv1,rfl⟩⟩:=r1.two
 obtain⟨u2,v2,rfl,⟨tk2,rfl⟩,⟨tv2,rfl⟩⟩:=r2.two
 refine PySem.W.kat_lt e1 d1 e2 d2 ?_
 refine iB (jT ?_)
 unfold ltK at hC
 refine i_ (λe=>?_) (λe=>?_)
 .have e:kf z1=kf z2:=by simpa using e
  rw[if_pos e] at hC
  refine iQ (iB (jU ?_))
  refine i_ (λe=>?_) (λe=>?_)
  .have e:z1=z2:=by simpa using e
   subst e
   have:ltS z1 z1=false:=by unfold ltS;exact decide_eq_false (lg _)
   rw[this] at hC
   exact iQ (PySem.W.kat_nil hC)
  .exact lh (PySem.W.kat_one _ _ (lt_str hC))
 .have e:¬ kf z1=kf z2:=by simpa using e
  rw[if_neg e] at hC
  exact lh (oneLt_int hC)
def Yz{α:Type}{v:α->V}{lt:α->α->Bool}{KR:α->V->Hp->Prop}(d:α)(hc:X.calm=true){fn p:Addr}{zs:List α}{Q:VK}(I:Inv X ξ σ H s)(hp:SqL X.K H p (zs.map v) \/ ∃kvs,Rd H p (.dK kvs)/\(kvs.map λkv=>kV kv.1)=zs.map v)(o:OrdL lt zs)(h64:zs.length<64)(up:∀{z w H1 H2},Same H1 H2->KR z w H1->KR z w H2)(hk:∀z∈zs,∀pl s' H3 u,Inv X (ξ++pl) σ H3 s'->Same H H3->RelV (v z) u->aR (model X.prog X.w) X.A.in1.in1 (call (.ref fn) [u]) (EP X (ξ++pl) σ λw H4=>KR z w H4/\Same H3 H4) (λ_ _=>False) s')(ht:∀{pins' H3 s3 ks},Inv X pins' σ H3 s3->ks.length=zs.length->2<=ks.length->ag2 KR H3 zs ks -> ∀{G:SortKind->aw->Prop},(∀ κ,(∀i j C,i<zs.length->j<zs.length->C (lt (zs.getD i d) (zs.getD j d)) s3->eV X.prog X.w X.A.in1.in1 κ ks i j C s3)->G κ s3)->aR (model X.prog X.w) X.A.in1.in1 (jM ks.toArray) G (λ_ _=>False) s3)(q:∀H3 D,Same H H3->H D=none->H3 D=some (.lst ((Bx lt zs).map v))->Q (.ref D) H3) :
  aR (model X.prog X.w) X.A (call (.builtin "sorted") [.ref p] [("key", .ref fn)]) (EP X ξ σ Q) X.xe s:=by
 refine PySem.W.sk_sorted (OKQ:=λus h' tk=>(∀b o,s.heap.get? b=some o->h'.get? b=some o)/\s.heap.objs.size<=h'.objs.size/\s.toks<=tk/\Vals (zs.map v) us) (λR hR=>ah9 hc I hp λus h' tk a b c d=>hR us h' tk ⟨a,b,c,d⟩) λus h' tk ⟨keep,hD,htk,rv⟩=>?_
 have hl:us.length=zs.length:=by have:=rv.length;simpa using this.symm
 refine⟨by omega,λD e1 kS h2 hD2 hDk gD gk k=>?_⟩
 have lD:=aU hD hD2
 have lk:=aU lD (fW hDk)
 have I2:=I.kept (t':=tk) λb o e=>k b o (keep b o e)
 have fD:∀{H':Hp},H' D=none->Cz X ξ H' D:=λhn=>I.fpOk lD hn
 have fk:∀{H':Hp},H' kS=none->Cz X (ξ++[(D,bE "list" #[] e1)]) H' kS:=λhn=>by
  obtain⟨a1,a2,a3,a4,a5,a6⟩:=I.fpOk lk (I.hok.fresh lk)
  refine⟨hn,a2,a3,a4,a5,λp hp=>?_⟩
  rw[<- cY] at hp
  rcases List.mem_append.mp hp with hp|hp
  .exact a6 p hp
  .rw[List.mem_singleton.mp hp]
   exact aN hDk
 refine⟨λks s'=>∃H',Inv X (ξ++[(D,bE "list" #[] e1)]) σ H' s'/\Same H H'/\H' kS=none/\ag2 KR H' zs ks,⟨H,?_,Same.refl _,I.hok.fresh lk,λi k z h=>by simp at h⟩,?_,?_⟩
 .refine I2.pins_of λp hp=>?_
  rcases List.mem_append.mp hp with hp|hp
  .exact I2.pin p (aH _ hp)
  .rw[List.mem_singleton.mp hp]
   have f:=fD (I.hok.fresh lD)
   exact⟨gD,f.1,f.2.1,f.2.2.1,λv z=>by cases z⟩
 .intro j x ks e s' hx hlk hks ⟨H',I',S,hn,ka⟩
  have hj:=(List.getElem?_eq_some_iff.mp hx).1
  obtain⟨u,hu,ru⟩:=rv.get (i:=j) (by rw[ak,ai (by omega)];rfl)
  rw[hx] at hu
  cases hu
  have I1:Inv X (ξ++([(D,bE "list" #[] e1)]++[(kS,bE "list" ks.toArray e)])) σ H' s':=I'.pins_of λp hp=>by
   rw[<- cY] at hp
   rcases List.mem_append.mp hp with hp|hp
   .exact I'.pin p (aH _ hp)
   .rw[List.mem_singleton.mp hp]
    have f:=fk hn
    exact⟨hks,f.1,f.2.1,f.2.2.1,λv z=>by cases z⟩
  refine bJ (hk _ (cJ _) _ s' H' _ I1 S ru) (λk s'' hq=>?_) λ_ _ z=>z
  obtain⟨w,H'',I'',rk,kr,S2⟩:=hq
  have pk:=I''.pin (kS,bE "list" ks.toArray e) (by simp)
  refine⟨pk.1,λh3 c g sb=>⟨H'',?_,S.trans S2,pk.2.1,λi k' z h1 h2=>?_⟩⟩
  .have f:=fk pk.2.1
   have I3:Inv X (ξ++[(D,bE "list" #[] e1)]) σ H'' s'':=I''.pins_of λp hp=>I''.pin p (by
    rcases List.mem_append.mp hp with hp|hp
    .exact aH _ (bx _ hp)
    .exact aH _ (aH _ (bx _ hp)))
   exact I3.turned (t':=s''.toks) (λb o nb e=>(sb.2 b nb).trans e) f.1 f.2.1 f.2.2.2.1 f.2.2.2.2.1 f.2.2.2.2.2
  .by_cases hi:i<ks.length
   .rw[bq hi] at h1
    obtain⟨w',r',h'⟩:=ka i k' z h1 h2
    exact⟨w',r',up S2 h'⟩
   .have hi2:i<(ks++[k]).length:=(List.getElem?_eq_some_iff.mp h1).1
    rw[aI,bR] at hi2
    have ei:i=j:=by omega
    subst ei
    rw[bi (by omega),show i-ks.length=0 by omega] at h1
    cases h1
    rw[ai (by omega)] at h2
    cases h2
    exact⟨w,rk,kr⟩
 .intro ks e s' hlk hks ⟨H',I',S,hn,ka⟩
  have pD:=I'.pin (D,bE "list" #[] e1) (by simp)
  have Iu:=I'.unpinned
  have fk':Cz X ξ H' kS:=by
   have f:=fk hn
   exact⟨f.1,f.2.1,f.2.2.1,f.2.2.2.1,f.2.2.2.2.1,λp hp=>f.2.2.2.2.2 p (by rw[<- cY];exact bx _ hp)⟩
  have fin:∀out:List Value,Vals ((Bx lt zs).map v) out->PySem.W.SkFin D kS e e1 ks out (λs3=>EP X ξ σ Q (.ref D) s3) s':=λout ro=>by
   refine⟨pD.1,hks,λh4 c g sm=>?_⟩
   refine⟨.ref D,upd H' D (.lst ((Bx lt zs).map v)),Iu.adopt (fD pD.2.1) fk' (λb u b1 b2 e=>(sm b b1 b2).trans e) ⟨?_,out,c,ro,g⟩,rfl,q _ D (λb o e=>?_) (I.hok.fresh lD) Aa⟩
   .rw[ae,(Ar _ zs).length_eq,bN];omega
   .rw[Ad (Ai (S b o e) pD.2.1)]
    exact S b o e
  exact⟨λh2=>fin us (by rw[Q4 (by omega)];exact rv),λh2=>ht I' (by omega) (by omega) ka λκ hκ=>W3 d o rv h2 hκ λp ro=>fin _ ro⟩
def by9(I':Inv X pins' σ H3 s3)(hlz:ks.length=zs.length)(h2:2<=ks.length)(ka:ag2 (bi2 kf) H3 zs ks)(hG:∀ κ,(∀i j C,i<zs.length->j<zs.length->C (ltK kf (zs.getD i cH) (zs.getD j cH)) s3->eV X.prog X.w A κ ks i j C s3)->G κ s3):aR (model X.prog X.w) A (jM ks.toArray) G (λ_ _=>False) s3:=by
 obtain⟨fs,kt,kl,ki⟩:=Sx I' hlz ka
 refine PySem.W.kat_kind kt (by omega) (λv hv=>by obtain⟨i,t,rfl⟩:=ki v hv;exact .now) rfl (hG _ λi j C hi hj hC=>?_)
 unfold eV
 have at_:∀{i:Nat},i<zs.length -> ∃q,ks.getD i bI=.ref q/\H3 q=some (.tup [.int (kf (zs.getD i cH)),.str (zs.getD i cH)]):=λ{i} hi=>by
  obtain⟨w,r,q,rfl,h⟩:=ka i (ks[i]'(by omega)) (zs[i]'(by omega)) (ai _) (ai _)
  refine⟨q,?_,?_⟩
  .rw[au,ai (by omega)];exact r
  .rw[au,ai (by omega)];exact h
 obtain⟨q1,e1,t1⟩:=at_ hi
 obtain⟨q2,e2,t2⟩:=at_ hj
 rw[e1,e2]
 exact bi5 I' t1 t2 hC
end
theorem Vo{α β:Type}{f:α->β}:∀{ds:List α},(ds.map f).Nodup -> ∀a∈ds,∀b∈ds,f a=f b->a=b
 |[],_,a,ha,_,_,_=>by cases ha
 | d::ds,nd,a,ha,b,hb,e=>by
  rw[aT,bS] at nd
  rcases List.mem_cons.mp ha with h1|h1
  .rcases List.mem_cons.mp hb with h2|h2
   .rw[h1,h2]
   .exact (nd.1 (by rw[<- h1,e];exact bA h2)).elim
  .rcases List.mem_cons.mp hb with h2|h2
   .exact (nd.1 (by rw[<- h2,<- e];exact bA h1)).elim
   .exact Vo nd.2 a h1 b h2 e
def bz2{α β:Type}{f:α->β}{ds:List α}(h:(ds.map f).Nodup):ds.Nodup:=(List.pairwise_map.mp h).imp λh e=>h (congrArg f e)
end L2
namespace PySem.W
open PySem PySem.Calls PyProof.Rows
section
variable {prog:aW}{w:bC}{A:bF}{E:Value->aw->Prop}{s:aw}
def collect_items{κ:Type} [DecidableEq κ]{knd:KeyKind prog w κ}{r d:Addr}{kvs:List (κ×Value)}{ep:Nat}{Q:List Value->aw->Prop}(hh:A.handled=none)(hv:s.heap.IsItemsView r d)(hm:s.heap.DictAt knd d kvs ep)(hn:kvs.length<=sizeLine)(h:∀h' tk as,(∀b o,s.heap.get? b=some o->h'.get? b=some o)->as.length=kvs.length->KdxG knd kvs s.heap.objs.size h' as->Q (as.map aX) {s with heap:=h',toks:=tk}) :
  aR (model prog w) A (mJ (.ref r)) Q E s:=by
 have hr:=let⟨o,ho,_⟩:=hv;aG ho
 refine af (lB (eW kZ ?_))
 refine af (gw (am ⟨dw _ (by decide +kernel),eW entry_list_iadd' ?_⟩))
 rw[gC jH _]
 refine kdx_extend (R:=wants _ _) hh (let⟨o,ho,x⟩:=hv;⟨o,ah _ ho,x⟩) (hm.keep λb o e=>ah _ e) s.heap.objs.size (fj hr) (aN hm.lt_size) _ 0 (aE _ rfl) (λh' tk acc c as hk hS hl hG hacc=>?_) hn
 show aR (model prog w) A (do
   let o <- load s.heap.objs.size
   match o.data with
   |.seq xs _=>pure xs.toList
   |_=>unsupported "internal:collect") Q E {s with heap:=h',toks:=tk}
 refine af (wpAny_load hS ?_)
 refine am ?_
 rw[hacc]
 exact h h' tk as (λb o e=>hk b o (aN (aG e)) (ah _ e)) hl (hG.low (by show _<=(s.heap.push _).objs.size;rw[kM];exact cM _))
end
end PySem.W
namespace L2
open PySem PySem.Spec PyProof.Rows
section
variable {β:Type}
theorem Rp:∀{as:List Addr}{ks:List β}{b:Addr}{kv:β},(as.zip ks).lookup b=some kv -> ∃j:Nat,as[j]?=some b/\ks[j]?=some kv
 |[],_,_,_,h=>nomatch h
 |_::_,[],_,_,h=>nomatch h
 | a::as,k::ks,b,kv,h=>by
  rw[i6,fK] at h
  by_cases e:b=a
  .subst e
   rw[beq_self_eq_true] at h
   exact⟨0,rfl,h⟩
  .rw[beq_false_of_ne e] at h
   obtain⟨j,x,y⟩:=Rp h
   exact⟨j+1,x,y⟩
theorem bd7:∀{as:List Addr}{ks:List β}{j:Nat}{b:Addr}{kv:β},as.Pairwise (· < ·)->as[j]?=some b->ks[j]?=some kv->(as.zip ks).lookup b=some kv
 |_::_,_::_,0,_,_,_,x,y=>by cases x;cases y;rw[i6,fK,beq_self_eq_true]
 | a::as,_::ks,j+1,b,_,p,x,y=>by
  have q:=List.pairwise_cons.mp p
  have:a<b:=q.1 b (aj x)
  rw[i6,fK,beq_false_of_ne (fj this)]
  exact bd7 q.2 x y
end
section
variable {X:Cx}{ξ:List (Addr×Obj)}{σ:St}{H:Hp}{s:aw}
def Rl(H:Hp)(as:List Addr)(vs:List (V×V)):Hp:=λb=>match (as.zip vs).lookup b with
 |some kv=>some (.tup [kv.1,kv.2])
 |none=>H b
def Inv.twos(I:Inv X ξ σ H s)(k:∀b u,s.heap.get? b=some u->h'.get? b=some u)(ab:∀a∈as,s.heap.objs.size<=a)(pr:∀(j:Nat) a kv,as[j]?=some a->vs[j]?=some kv -> ∃x y,RelV kv.1 x/\RelV kv.2 y/\h'.get? a=some {cls:=.type "tuple", data:=.seq #[x,y]})(ht:s.toks<=tk) :
  Inv X ξ σ (Rl H as vs) {s with heap:=h',toks:=tk}/\∀b o,H b=some o->Rl H as vs b=some o:=by
 have low:∀b:Addr,b<s.heap.objs.size->Rl H as vs b=H b:=λb lt=>by
  unfold Rl
  split
  .rename_i kv e
   obtain⟨j,x,_⟩:=Rp e
   exact absurd (ab b (aj x)) (Nat.not_le.mpr lt)
  .rfl
 have top:∀b o,H b=some o->Rl H as vs b=some o:=λb o q=>by
  rw[low b (Nat.lt_of_not_le λz=>by rw[I.hok.fresh z] at q;cases q)]
  exact q
 refine⟨I.un ⟨λb u q _ _ _=>k b u q,λb u q _ _ _=>⟨u.slots,k b u q⟩,λb u q n _=>by rw[low b (aG q)];exact n,λb u q _=>⟨u,k b u q⟩,λb xs q=>top _ _ q,λb o u q=>top _ _ q,λb ps q=>⟨#[],by rw[Array.append_empty];exact top _ _ q⟩⟩ (λb o e=>?_) ht,top⟩
 cases hb:H b with
 |some u'=>
  have g:=top b u' hb
  rw[e] at g
  cases g
  exact(I.hok b o hb).stay (λc v _ q=>k c v q) (λc q=>top _ _ q) λc xs q=>top _ _ q
 |none=>
  unfold Rl at e
  split at e
  .rename_i kv q
   cases e
   obtain⟨j,x,y⟩:=Rp q
   obtain⟨u,v,r1,r2,g⟩:=pr j b kv x y
   exact⟨(show 2<=sizeLine by decide),[u,v],.cons r1 (.cons r2 .nil),_,g,rfl,_,rfl⟩
  .rw[hb] at e;cases e
def ltA(a b:Str×Addr):Bool:=ltS a.1 b.1
def a16(nd:(ds.map (·.1)).Nodup):OrdL ltA ds where
 tot:=λa ha b hb n=>(E3 nd).tot a.1 (bA ha) b.1 (bA hb) λe=>n (Vo nd a ha b hb e)
 tr:=λa ha b hb c hc=>(E3 nd).tr a.1 (bA ha) b.1 (bA hb) c.1 (bA hc)
 nd:=bz2 nd
theorem Su(d:Str×Addr):∀ds,(Kd ltA d ds).map (·.1)=Kd ltS d.1 (ds.map (·.1))
 |[]=>rfl
 | e::ds=>by
  show kJ _ (if ltS d.1 e.1=true then d::e::ds else e::Kd ltA d ds)=if ltS d.1 e.1=true then d.1::e.1::ds.map (·.1) else e.1::Kd ltS d.1 (ds.map (·.1))
  split
  .rfl
  .rw[aT,Su d ds]
theorem T9:∀ds,(Bx ltA ds).map (·.1)=Bx ltS (ds.map (·.1))
 |[]=>rfl
 | d::ds=>by
  show(Kd ltA d (Bx ltA ds)).map (·.1)=Kd ltS d.1 (Bx ltS (ds.map (·.1)))
  rw[Su,T9 ds]
def bu2(I:Inv X ξ σ H s){A:bF}{q1 q2:Addr}{z1 z2:Str}{f:Str->Int}{C:Bool->aw->Prop}{E:Value->aw->Prop}(h1:H q1=some (.tup [.str z1,.int (f z1)]))(h2:H q2=some (.tup [.str z2,.int (f z2)]))(hC:C (ltS z1 z2) s) :
  aR (model X.prog X.w) A (keyLt' (tuples' true) (.ref q1) (.ref q2)) C E s:=by
 obtain⟨i1,r1,⟨o1,e1,c1,m1,d1⟩,_⟩:=I.tuple (SqT.of h1)
 obtain⟨i2,r2,⟨o2,e2,c2,m2,d2⟩,_⟩:=I.tuple (SqT.of h2)
 obtain⟨u1,v1,rfl,⟨tk1,rfl⟩,⟨tv1,rfl⟩⟩:=r1.two
 obtain⟨u2,v2,rfl,⟨tk2,rfl⟩,⟨tv2,rfl⟩⟩:=r2.two
 refine PySem.W.kat_lt e1 d1 e2 d2 (iB (jU (i_ (λe=>?_) (λe=>?_))))
 .have e:z1=z2:=by simpa using e
  subst e
  have:ltS z1 z1=false:=by unfold ltS;exact decide_eq_false (lg _)
  rw[this] at hC
  refine iQ (iB (jT (i_ (λe=>?_) (λe=>?_))))
  .exact iQ (PySem.W.kat_nil hC)
  .simp at e
 .exact lh (oneLt_str hC)
theorem Uh(I:Inv X ξ σ H s){f:Str->Int}:∀{ds:List (Str×Addr)},(∀d∈ds,H d.2=some (.tup [.str d.1,.int (f d.1)])) -> ∃fs,fZ s.heap (ds.map λd=>aX d.2) fs/\fs.length=ds.length/\∀v∈fs,∃i t,v=.str i t
 |[],_=>⟨[],lG,rfl,λv hv=>by cases hv⟩
 | d::ds,h=>by
  obtain⟨fs,kt,hl,hi⟩:=Uh I λe he=>h e (av _ he)
  obtain⟨χ,ri,⟨o,e,c,n,dd⟩,_⟩:=I.tuple (SqT.of (h d aQ))
  cases ri with
  |cons ra rr=>
   obtain⟨t,rfl⟩:=ra
   exact⟨_::fs,kQ e c dd rfl kt,by rw[aK,aK,hl],λv hv=>(List.mem_cons.mp hv).elim (λz=>⟨_,_,z⟩) (hi v)⟩
theorem Eo:∀ds:List (Str×Addr),Vals (ds.map λd=>V.ref d.2) (ds.map λd=>aX d.2)
 |[]=>.nil
 |_::r=>.cons rfl (Eo r)
def Jt(K:ac):V->Hp->VK->Prop:=λx H Q=>match x with
 |.ref p=>∃zs,∃f:Str->Int,Rd H p (.dK (zs.map λz=>(.inr z,.int (f z))))/\zs.Nodup/\zs.length<64/\∀H' D (es:List (Str×Addr)),Same H H'->H D=none->es.map (·.1)=Bx ltS zs->H' D=some (.lst (es.map λe=>.ref e.2))->(∀e∈es,H' e.2=some (.tup [.str e.1,.int (f e.1)]))->Q (.ref D) H'
 |_=>False
theorem bb8{α β:Type}{F:α->β->Prop}:∀{l} {m}{j:Nat}{a:α}{b:β},ir F l m->l[j]?=some a->m[j]?=some b->F a b
 |_,_,0,_,_,.cons r _,h,g=>by cases h;cases g;exact r
 |_,_,j+1,_,_,.cons _ t,h,g=>bb8 t h g
def ab5{p:Addr}{zs:List Str}{f:Str->Int}{Q:VK}(hc:X.calm=true)(I:Inv X ξ σ H s)(e:Rd H p (.dK (zs.map λz=>(.inr z,.int (f z)))))(nd:zs.Nodup)(h64:zs.length<64)(q:∀H' D (es:List (Str×Addr)),Same H H'->H D=none->es.map (·.1)=Bx ltS zs->H' D=some (.lst (es.map λe=>.ref e.2))->(∀e∈es,H' e.2=some (.tup [.str e.1,.int (f e.1)]))->Q (.ref D) H') :
  aR (model X.prog X.w) X.A (call (.builtin "dict.items") [.ref p]) (λv s1=>aR (model X.prog X.w) X.A (call (.builtin "sorted") [v]) (EP X ξ σ Q) X.xe s1) X.xe s:=by
 obtain⟨z,lo,vs,rel,dof⟩:=Dm I.hok e
 obtain⟨ep,dat⟩:=dof.dictAt
 refine iw jI dof.typeIs PySem.F.entry_dict_items (PySem.F.args_dict_items_1 _) (meets_dict_items _ p lo) ⟨⟨vs,dof⟩,?_⟩
 have zv:(s.heap.push {cls:=.type "dict_items", data:=.fields #[.ref p]}).objs.size=s.heap.objs.size+1:=cR ..
 have view:(s.heap.push {cls:=.type "dict_items", data:=.fields #[.ref p]}).get? s.heap.objs.size=some {cls:=.type "dict_items", data:=.fields #[.ref p]}:=aE _ rfl
 have on1:∀b o,s.heap.get? b=some o->(s.heap.push {cls:=.type "dict_items", data:=.fields #[.ref p]}).get? b=some o:=λb o q=>ah _ q
 generalize s.heap.push {cls:=.type "dict_items", data:=.fields #[.ref p]}=h1 at zv view on1 ⊢
 refine PySem.W.so_sortedC (OKQ:=λus h' tk=>∃as,us=as.map aX/\(∀b o,h1.get? b=some o->h'.get? b=some o)/\as.length=vs.length/\PySem.W.KdxG (Be X.prog X.w) vs h1.objs.size h' as/\s.toks<=tk) (λR hR=>?_) ?_
 .exact bG (ag _) (PySem.W.collect_items (by simp[I.ok.hd hc]) ⟨_,view,rfl,rfl⟩ (dat.keep on1) (by rw[<- rel.length];exact z) λh' tk as hk hl hG htk=>hR _ _ _ ⟨as,rfl,hk,hl,hG,htk⟩)
 rintro _ h' tk ⟨as,rfl,hk,hl,hG,htk⟩
 have al:as.length=zs.length:=by rw[hl,<- rel.length,ae]
 have hD0:s.heap.objs.size<=h1.objs.size:=by omega
 obtain⟨I2,top⟩:=I.twos (vs:=zs.map λz=>(V.str z,V.int (f z))) (λb u q=>hk b u (on1 b u q)) (λa ha=>aU hD0 (fW (hG.above a ha))) (λj a kv x y=>by
  rw[ak] at y
  obtain⟨c,hz,rfl⟩:=Option.map_eq_some_iff.mp y
  obtain⟨key,k,v,e1,e2,e3⟩:=hG.pairs j a x
  obtain⟨r1,r2⟩:=bb8 rel (by rw[ak,hz];rfl) e1
  exact⟨key,v,(show RelV (kV (.inr c)) key by have r1:du c=k:=r1;rw[r1];exact ak6 e2),r2,e3⟩) htk
 have at2:∀d∈zs.zip as,Rl H as (zs.map λz=>(V.str z,V.int (f z))) d.2=some (.tup [.str d.1,.int (f d.1)]):=λd hd=>by
  obtain⟨j,hj⟩:=List.mem_iff_getElem?.mp hd
  obtain⟨x,y⟩:=List.getElem?_zip_eq_some.mp hj
  unfold Rl
  rw[bd7 (kv:=(V.str d.1,V.int (f d.1))) hG.rise y (by rw[ak,x];rfl)]
 generalize Rl H as (zs.map λz=>(V.str z,V.int (f z)))=H2 at I2 top at2
 have ea:(zs.zip as).map (·.2)=as:=jQ (by omega)
 have ez:(zs.zip as).map (·.1)=zs:=List.map_fst_zip (by omega)
 generalize zs.zip as=ds at at2 ea ez
 subst ez
 have eu:as.map aX=ds.map λd=>aX d.2:=by rw[<- ea,aB];rfl
 rw[eu]
 rw[ae] at h64
 have ul:(ds.map λd=>aX d.2).length=ds.length:=ae _
 have fin:∀{h3:Heap}{D:Addr}{us:List Value}{c:Nat},h'.objs.size<=D->(∀b o,h'.get? b=some o->h3.get? b=some o)->Vals ((Bx ltA ds).map λd=>V.ref d.2) us->h3.get? D=some (bE "list" us.toArray c)->EP X ξ σ Q (.ref D) {s with heap:=h3,toks:=tk}:=λ{h3 D us c} hD k r g=>by
  have fr:=I2.hok.fresh hD
  refine⟨.ref D,_,I2.laid (t':=tk) k hD (o:=.lst ((Bx ltA ds).map λd=>.ref d.2)) ⟨?_,us,c,r,g⟩,rfl,q _ D (Bx ltA ds) (λb o e=>?_) ?_ (T9 ds) Aa λe he=>?_⟩
  .rw[ae,(Ar ltA ds).length_eq,bN];omega
  .have:=top b o e
   rw[Ad (Ai this fr)];exact this
  .cases c:H D with
   |none=>rfl
   |some o=>rw[top D o c] at fr;cases fr
  .have:=at2 e ((Ar _ _).mem_iff.mp he)
   rw[Ad (Ai this fr)];exact this
 refine⟨by rw[ul];exact h64,λh2 h2' c g k=>fin (ag _) k (by rw[Q4 (by rw[ul] at h2;exact h2)];exact Eo ds) g,λh2 D e1 h2' hD2 gD k=>?_⟩
 have I3:Inv X ξ σ H2 {s with heap:=h2',toks:=tk}:=I2.kept (t':=tk) k
 obtain⟨fs,kt,kl,ki⟩:=Uh I3 at2
 refine PySem.W.kat_kind (T:=.type "str") kt (by rw[ul] at h2;omega) (λv hv=>by obtain⟨i,t,rfl⟩:=ki v hv;exact .now) rfl (W3 (cH,0) (a16 nd) (Eo ds) h2 (λi j C hi hj hC=>?_) λp ro=>⟨gD,λh3 c g sb=>fin hD2 (λb o e=>(sb.2 b (aN (aL (aG e) hD2))).trans (k b o e)) ro g⟩)
 unfold eV
 have gr:∀i (h:i<ds.length),ds.getD i (cH,0)∈ds:=λi h=>by
  rw[au,ai h];exact cJ h
 have e1:=R1 (cH,0) (Eo ds) hi
 have e2:=R1 (cH,0) (Eo ds) hj
 rw[show List.getD _ i bI=_ from e1,show List.getD _ j bI=_ from e2]
 exact bu2 I3 (at2 _ (gr i hi)) (at2 _ (gr j hj)) hC
end
abbrev RF:=List V->Hp->VK->Prop
def ba9(x:V)(T:String):Bool:=match x with
 |.int _=>T == "int"
 |.bl _=>T == "bool" || T == "int"
 |.str _=>T == "str"
 |_=>false
def okT(T:String):Bool:=["int","bool","str","list","tuple","dict"].contains T
def D6(K:ac):RF:=λxs H Q=>match xs with
 | [x,c]=>(match c with
  |.ty T=>if Br x=true then okT T=true/\Q (.bl (ba9 x T)) H else ∃t b,TyX K H x t/\c_ K t (.type T)=some b/\Q (.bl b) H
  |.ref C=>(∃t b,TyX K H x t/\c_ K t (.ref C)=some b/\Q (.bl b) H)\/False
  |_=>False)
 |_=>False
def D7(K:ac):RF:=λxs H Q=>match xs with
 |[.str z]=>z.length<=sizeLine/\Q (.int z.length) H
 |[.ref p]=>(∃ys,(SqL K H p ys\/SqT K H p ys)/\Q (.int ys.length) H) \/ ∃kvs,Rd H p (.dK kvs)/\Q (.int kvs.length) H
 |_=>False
def Tq(K:ac):RF:=λxs H Q=>match xs with
 |[.ref p]=>∃bs:List Bool,SqL K H p (bs.map V.bl)/\Q (.bl (bs.all λb=>b)) H
 |_=>False
def V0:RF:=λxs H Q=>match xs with
 |[.int i]=>Q (.int i) H
 |[.bl k]=>Q (.int (if k then 1 else 0)) H
 |_=>False
def Qt(K:ac):RF:=λxs H Q=>match xs with
 |[.ref p]=>∃ys,(SqL K H p ys\/SqT K H p ys)/\∀l,H l=none->Q (.ref l) (upd H l (.lst ys))
 |_=>False
def G1(K:ac):RF:=λxs H Q=>match xs with
 |[.ref p]=>∃ys,(SqL K H p ys/\∀l,H l=none->Q (.ref l) (upd H l (.tup ys)))\/(SqT K H p ys/\Q (.ref p) H)
 |_=>False
def Qs(K:ac)(calm:Bool):RF:=λxs H Q=>Qt K xs H Q\/(calm=true/\False)
def V2(K:ac)(calm:Bool):RF:=λxs H Q=>False\/(calm=true/\(ar3 K xs H Q\/False))
inductive BF where
 |bf (id:String)|ty (T:String)
def bf8(K:ac)(calm:Bool)(x:Str):Option (BF×RF):=
 if x="len" then some (.bf "len", D7 K) else
 if x="isinstance" then some (.bf "isinstance", D6 K) else
 if x="all" /\ calm=true then some (.bf "all", Tq K) else
 if x="int" then some (.ty "int", V0) else
 if x="list" then some (.ty "list", Qs K calm) else
 if x="tuple" then some (.ty "tuple", G1 K) else
 if x="sorted" then some (.bf "sorted", V2 K calm) else
 if x="sum" /\ calm=true then some (.bf "sum", bt4 K) else
 if x="dict" then some (.ty "dict", Qq) else none
def BF.val:BF->Value
 |.bf id=>.builtin id
 |.ty T=>.type T
section
variable {X:Cx}
def Vh{K:ac}{x:V}{T:String}(hx:Br x=true)(h:okT T=true):∃t,(∀H,TyOf K H x t)/\c_ K t (.type T)=some (ba9 x T):=by
 have hT:T="int" \/ T="bool" \/ T="str" \/ T="list" \/ T="tuple" \/ T="dict" := by
  unfold okT at h
  simpa using h
 cases x with
 |int i=>refine⟨_,λH=>TyOf.int i,?_⟩;rcases hT with rfl|rfl|rfl|rfl|rfl|rfl <;> rfl
 |bl i=>refine⟨_,λH=>TyOf.bl i,?_⟩;rcases hT with rfl|rfl|rfl|rfl|rfl|rfl <;> rfl
 |str i=>refine⟨_,λH=>TyOf.str i,?_⟩;rcases hT with rfl|rfl|rfl|rfl|rfl|rfl <;> rfl
 |non=>refine⟨_,λH=>TyOf.non,?_⟩;rcases hT with rfl|rfl|rfl|rfl|rfl|rfl <;> rfl
 |_=>cases hx
def ah6:Ci X (.builtin "isinstance") (D6 X.K):=by
 intro ξ s σ H xs us Q I r h
 rcases xs with _|⟨x,_|⟨c,_|_⟩⟩ <;> try exact h.elim
 obtain⟨u,v,rfl,ru,rv⟩:=r.two
 have go:∀w,(∃t b,TyX X.K H x t/\c_ X.K t w=some b/\Q (.bl b) H)->aR (model X.prog X.w) X.A (call (.builtin "isinstance") [u,w]) (EP X ξ σ Q) X.xe s:=λw ⟨t,b,ty,e,q⟩=>bG (ag _) (Vg I ru ty e λtk htk=>⟨.bl b,H,I.tok tk htk,rfl,q⟩)
 cases c with
 |ty T=>
  cases rv
  by_cases f:Br x=true
  .rw[show D6 X.K [x,.ty T] H Q=_ from if_pos f] at h
   obtain⟨t,ht,hk⟩:=Vh f h.1
   exact go _ ⟨t,_,.of (ht H),hk,h.2⟩
  .rw[show D6 X.K [x,.ty T] H Q=_ from if_neg f] at h
   exact go _ h
 |ref C=>cases rv;exact go _ (h.resolve_right id)
 |_=>exact h.elim
def Za:Ci X (.builtin "len") (D7 X.K):=by
 intro ξ s σ H xs us Q I r h
 unfold D7 at h
 split at h
 .exact Po ξ s σ H _ us Q I r ⟨_,rfl,h.1,h.2⟩
 .rcases h with⟨ys,h1,h2⟩|⟨kvs,h1,h2⟩
  .exact Pm ξ s σ H _ us Q I r ⟨_,ys,rfl,h1,h2⟩
  .obtain⟨u,rfl,ru⟩:=D4 r
   cases ru
   exact bw5 I h1 λt s' I'=>⟨.int _,H,I',⟨t,rfl⟩,h2⟩
 .exact h.elim
def Y8(hc:X.calm=true):Ci X (.builtin "all") (Tq X.K):=by
 intro ξ s σ H xs us Q I r h
 unfold Tq at h
 split at h
 .obtain⟨bs,h1,h2⟩:=h
  exact ah5 hc ξ s σ H _ us Q I r ⟨_,bs,rfl,h1,h2⟩
 .exact h.elim
def Y9:Ci X (.type "int") V0:=by
 intro ξ s σ H xs us Q I r h
 unfold V0 at h
 split at h
 .exact Ob ξ s σ H _ us Q I r (.inl ⟨_,rfl,h⟩)
 .exact Ob ξ s σ H _ us Q I r (.inr ⟨_,rfl,h⟩)
 .exact h.elim
def Uv:Ci X (.type "list") (Qt X.K):=by
 intro ξ s σ H xs us Q I r h
 unfold Qt at h
 split at h
 .obtain⟨ys,h1,h2⟩:=h
  exact Pp ξ s σ H _ us Q I r ⟨_,ys,rfl,h1,h2⟩
 .exact h.elim
def Zb:Ci X (.type "tuple") (G1 X.K):=by
 intro ξ s σ H xs us Q I r h
 unfold G1 at h
 split at h
 .obtain⟨ys,h1⟩:=h
  exact Nc ξ s σ H _ us Q I r ⟨_,ys,rfl,h1⟩
 .exact h.elim
def B3{α:Type}{c:Prop} [Decidable c]{a z:α}{b:Option α}{P:Prop}(h:(if c then some a else b)=some z)(h1:c->a=z->P)(h2:b=some z->P):P:=by
 by_cases k:c
 .rw[if_pos k] at h;exact h1 k (az h)
 .rw[if_neg k] at h;exact h2 h
def Do{α:Type}{c:Prop} [Decidable c]{a z:α}{b:List α}{P:Prop}(h:z∈(if c then [a] else b))(h1:c->z=a->P)(h2:z∈b->P):P:=by
 by_cases k:c
 .rw[if_pos k] at h;exact h1 k (List.mem_singleton.mp h)
 .rw[if_neg k] at h;exact h2 h
def az6(hu:X.A.units+64<cLine){x:Str}{f:BF}{r:RF}{c:Bool}(h:bf8 X.K c x=some (f,r))(hc:c=X.calm):cG x=some f.val/\Ci X f.val r:=by
 have ok:∀{y} {g} {q},(g,q)=(f,r)->x=y->cG y=some g.val/\Ci X g.val q->cG x=some f.val/\Ci X f.val r:=λe1 e2 z=>by cases e1;subst e2;exact z
 exact B3 h (λe z=>ok z e ⟨PySem.boot_len,Za⟩) λh=>B3 h (λe z=>ok z e ⟨PyProof.Rows.boot_isinstance,ah6⟩) λh=>B3 h (λe z=>ok z e.1 ⟨PyProof.Rows.boot_all,Y8 (hc▸e.2)⟩) λh=>
  B3 h (λe z=>ok z e ⟨kh,Y9⟩) λh=>B3 h (λe z=>ok z e ⟨g9,λξ s σ H xs us Q I r h=>Uv ξ s σ H xs us Q I r (h.resolve_right And.right)⟩) λh=>B3 h (λe z=>ok z e ⟨jE,Zb⟩) λh=>
  B3 h (λe z=>ok z e ⟨D8,λξ s σ H xs us Q I r h=>h.elim bP λz=>Uw (hc▸z.1) ξ s σ H xs us Q I r (z.2.resolve_right id)⟩) λh=>B3 h (λe z=>ok z e.1 ⟨PyProof.Rows.boot_sum,ah7 (hc▸e.2)⟩) λh=>B3 h (λe z=>ok z e ⟨boot_dict,Ut⟩) λh=>nomatch h
abbrev RM:=V->List V->Hp->VK->Prop
structure BM where
 T:String
 id:String
 r:RM
def rMt(K:ac)(bs:List BM):V->Hp->(Hp->(List V->Hp->Prop)->Prop)->VK->Prop:=λx H1 ta Q=>
 match bs with
 |[]=>False
 |[b]=>tyV K b.T x H1/\ta H1 λxs H2=>b.r x xs H2 Q
 |b::rest=>(tyV K b.T x H1/\ta H1 λxs H2=>b.r x xs H2 Q)\/rMt K rest x H1 ta Q
structure ac9 (X:Cx) (m:Str) (b:BM):Prop where
 pa:PlainAttrs b.T
 slot:Slot b.T m b.id
 ty:typeOf (.builtin b.id)=pure (.type "method_descriptor")
 mt:MtR X b.id b.r
def Tt(K:ac):RM:=λx xs H Q=>∃z p ys,x=.str z/\xs=[.ref p]/\(SqL K H p (ys.map V.str)\/False)/\(ys.map (·.length)).sum+ys.length*z.length<=16777216/\Q (.str (Txt.join z ys)) H
def am5{X:Cx}:MtR X "str.join" (Tt X.K):=by
 intro ξ s σ H x xs v us Q I rx rs h
 obtain⟨z,p,ys,rfl,rfl,hq,hz,q⟩:=h
 exact a22 ξ s σ H _ _ v us Q I rx rs ⟨z,p,ys,rfl,rfl,hq.resolve_right id,hz,q⟩
def bc1:RM:=λx xs H Q=>∃i,x=.int i/\xs=[]/\Q (.int (iK i:Nat)) H
def Gv:RM:=λx xs H Q=>match x,xs with
 |.ref a,[y]=>∃o,DGet H a y o/\Q (o.getD .non) H
 |.ref a,[y,z]=>∃o,DGet H a y o/\Q (o.getD z) H
 |_,_=>False
def a21(hu:X.A.units+64<cLine):MtR X "dict.get" Gv:=by
 intro ξ s σ H x xs v us Q I rx rs h
 unfold Gv at h
 split at h
 .obtain⟨o,g,q⟩:=h
  obtain⟨u,rfl,ru⟩:=rs.one
  cases rx
  exact bg2 (by omega) I g ru λw' s' I' r'=>⟨_,H,I',r',q⟩
 .obtain⟨o,g,q⟩:=h
  obtain⟨u,w,rfl,ru,rw'⟩:=rs.two
  cases rx
  exact bg3 (by omega) I g ru rw' λw' s' I' r'=>⟨_,H,I',r',q⟩
 .exact h.elim
def U8(h:i<sizeLine):gy (i:Int)=true:=by
 have hs:sizeLine<=9223372036854775807:=aF rfl
 have e:(2:Int)^63=9223372036854775808:=rfl
 unfold gy
 rw[e,a9]
 exact⟨decide_eq_true (by omega),decide_eq_true (by omega)⟩
def Qr:RM:=λx vs H Q=>∃l xs y,∃i:Nat,x=.ref l/\vs=[.int (i:Int),y]/\H l=some (.lst xs)/\i<=xs.length/\xs.length<sizeLine/\Q .non (upd H l (.lst (xs.take i++y::xs.drop i)))
def Z0:MtR X "list.insert" Qr:=by
 intro ξ s σ H x vs v us Q I rx rv h
 obtain⟨l,xs,y,i,rfl,rfl,hH,hi,hz,q⟩:=h
 cases rx
 obtain⟨u1,u2,rfl,⟨t,rfl⟩,r2⟩:=rv.two
 obtain⟨z,χ,n,r,hl,e⟩:=I.lstM hH
 have hf:=U8 (bb hi hz)
 have hz':χ.toArray.size<=sizeLine:=by rw[ax,<- hl];exact z
 obtain⟨j,hj⟩:∃j:Int,j=(i:Int):=⟨_,rfl⟩
 rw[<- hj] at hf ⊢
 have hf':¬ (!gy j)=true:=by rw[hf];decide
 have M:=AutoSeq1.list_insert_list_int_val_1 l χ.toArray n j t u2 hf' hz'
 refine kK jp ⟨_,e,rfl⟩ PySem.F.entry_list_insert (PySem.F.args_list_insert_3 _ _ _) M ⟨e,?_⟩
 refine⟨.non,_,I.lset hH e ?_ ((r.take i).append (.cons r2 (r.drop i))) ?_,rfl,q⟩
 .have hk:(if j<0 then(j+(χ.toArray.size:Int)).toNat else min j.toNat χ.toArray.size)=i:=by
   rw[if_neg (by omega),ax,hj,aY]
   omega
  rw[hk]
  apply Array.toList_inj.mp
  simp
  exact jZ (by simp)
 .rw[aI,aK,aM,List.length_drop]
  omega
def bc4:RM:=λx vs H Q=>b42 x vs H Q\/False
def ar2:RM:=λx xs H Q=>∃p k v kvs,x=.ref p/\xs=[kV k,v]/\H p=some (.dK kvs)/\kvs.length<sizeLine/\(match Bf kvs k with
 |some w=>Q w H
 |none=>Q v (upd H p (.dK (Cj kvs k v))))
def am7:MtR X "dict.setdefault" ar2:=by
 intro ξ s σ H x xs v us Q I rx rs h
 obtain⟨p,k,y,kvs,rfl,rfl,e,hl,q⟩:=h
 cases rx
 obtain⟨u1,u2,rfl,ru,rv⟩:=rs.two
 obtain⟨z,hd,vs,rel,dd⟩:=ba2 I.hok e
 have hv:=rel.val k
 refine iw iI dd.typeIs PySem.F.entry_dict_setdefault (PySem.F.args_dict_setdefault_3 _ _ _) (kt_meets_setdefault (Be X.prog X.w) p (J5 ru) hd u2) ⟨vs,dd,by rw[<- rel.length];exact z,λr hr=>?_,λhr h' dd' hs=>?_⟩
 .rw[hr] at hv
  cases e2:Bf kvs k with
  |none=>rw[e2] at hv;cases hv
  |some w=>rw[e2] at hv q;exact⟨w,H,I.tok _,hv,q⟩
 .rw[hr] at hv
  cases e2:Bf kvs k with
  |some w=>rw[e2] at hv;cases hv
  |none=>
   rw[e2] at q
   have hl2:(Cj kvs k y).length<=sizeLine:=by have:=Dg kvs k y;omega
   have he:∃q,h'.get? p=some q:=let⟨q,_,_,hq,_⟩:=dd';⟨q,hq⟩
   exact⟨y,_,Py I (by rw[e];exact aP) hs he (U1 hl2 hd (rel.put k rv) dd'),rv,q⟩
def Tv:RM:=λx vs H Q=>False\/ar2 x vs H Q
def mtR(K:ac)(m:Str):List BM:=
 if m="append" then [⟨"list","list.append", Dp⟩] else
 if m="get" then [⟨"dict","dict.get", Gv⟩] else
 if m="extend" then [⟨"list","list.extend", Ld⟩] else
 if m="clear" then [⟨"list","list.clear", Vz⟩] else
 if m="join" then [⟨"str","str.join", Tt K⟩] else
 if m="bit_length" then [⟨"int","int.bit_length", bc1⟩] else
 if m="setdefault" then [⟨"dict","dict.setdefault", Tv⟩] else
 if m="insert" then [⟨"list","list.insert", Qr⟩] else
 if m="pop" then [⟨"list","list.pop", bc4⟩] else []
def am0{m:Str}{b:BM}(hu:X.A.units+64<cLine)(h:b∈mtR X.K m):ac9 X m b:=by
 have ok:∀{y} {c},m=y->b=c->ac9 X y c->ac9 X m b:=λe1 e2 z=>by subst e1 e2;exact z
 exact Do h (λe z=>ok e z ⟨dD,PySem.F.slot_list_append,PySem.F.type_list_append,Oy⟩) λh=>Do h (λe z=>ok e z ⟨gZ,d6,PySem.F.type_dict_get,a21 hu⟩) λh=>Do h (λe z=>ok e z ⟨dD,PySem.F.slot_list_extend,PySem.F.type_list_extend,Zz⟩) λh=>
  Do h (λe z=>ok e z ⟨dD,PySem.F.slot_list_clear,PySem.F.type_list_clear,am3⟩) λh=>Do h (λe z=>ok e z ⟨PySem.F.plainAttrs_str,PySem.F.slot_str_join,PySem.F.type_str_join,am5⟩) λh=>Do h (λe z=>ok e z ⟨PySem.F.plainAttrs_int,PySem.F.slot_int_bit_length,PySem.F.type_int_bit_length,a20⟩) λh=>
  Do h (λe z=>ok e z ⟨gZ,iI,PySem.F.type_dict_setdefault,λξ s σ H x vs v us Q I rx rv h=>am7 ξ s σ H x vs v us Q I rx rv (h.resolve_left id)⟩) λh=>Do h (λe z=>ok e z ⟨dD,jp,PySem.F.type_list_insert,Z0⟩) λh=>Do h (λe z=>ok e z ⟨dD,PySem.F.slot_list_pop,PySem.F.type_list_pop,λξ s σ H x vs v us Q I rx rv h=>bj4 ξ s σ H x vs v us Q I rx rv (h.resolve_right id)⟩) λh=>nomatch h
theorem Qu{K:ac}:∀{bs} {x} {H1} {ta} {Q},rMt K bs x H1 ta Q -> ∃b∈bs,tyV K b.T x H1/\ta H1 λxs H2=>b.r x xs H2 Q
 |[],_,_,_,_,h=>h.elim
 |[b],_,_,_,_,h=>⟨b,by simp,h⟩
 | b::c::rest,x,H1,ta,Q,h=>by
  rcases h with h|h
  .exact⟨b,by simp,h⟩
  .obtain⟨d,hd,q⟩:=Qu h
   exact⟨d,av _ hd,q⟩
def Cw:Expr->Bool
 |.Call (.Name x _) [] [] _=>!(x==("super" : Str))
 |_=>true
def C7(h:Cw e=true)(f:Str)(env:Env)(whole:Sem Value):jK e f env whole=whole:=by
 unfold jK
 split
 .rename_i id p pos
  have:(id==("super" : Str))=false:=by
   have h':(!(id==("super" : Str)))=true:=h
   simpa using h'
  have e2:(id != "super")=true:=by
   show(!(id == "super"))=true
   rw[this]
   rfl
  rw[e2]
  simp
 .rfl
variable {o:Expr}{do':DE}{es:List Expr}{r:DA}{m:Str}{apos cpos:Pos}
def br4{bs:List BM}(hb:∀b∈bs,ac9 X m b)(ho:QE X o do')(h1:Cw o=true)(h4:(apos.endLine==cpos.line)=true) :
  QE X (.Call (.Attribute o m apos) [] [] cpos) (dMt (rMt X.K bs) do' Ag):=by
 intro Ex mt ξ s σ H Q I h
 refine jP (C7 h1 m X.env _) h4 (thn (ho Ex mt ξ s σ H _ I h) λv s1 ⟨x,H1,I1,r1,q1⟩=>?_)
 obtain⟨b,hbm,ty,q⟩:=Qu q1
 obtain⟨k1,k2⟩:=aw1 I1 r1 ty
 have B:=hb b hbm
 exact⟨b.T,b.id,B.pa,B.slot,B.ty,k1,k2,g7 rfl (lK (B.mt ξ s1 σ H1 x [] v [] Q I1 r1 .nil q))⟩
def b36{bs:List BM}{e:Expr}(hb:∀b∈bs,ac9 X m b)(ho:QE X o do')(ha:QA X (e::es) r)(h1:Cw o=true)(h2:(e::es).all noStar=true)(h3:(e::es).length<30)(h4:(apos.endLine==cpos.line)=true) :
  QE X (.Call (.Attribute o m apos) (e::es) [] cpos) (dMt (rMt X.K bs) do' r):=by
 intro Ex mt ξ s σ H Q I h
 have hs:=cb▸h2
 rw[a9] at hs
 have hfew:((ku cpos (df (e::es) X.env)).all (λx=>!x.1)&&(mx cpos (jN [] X.env)).all (λx=>x.1.isSome)
   && decide ((e::es).length+([]:List mF).length+(if([]:List mF).isEmpty then 0 else 1)<30))=true:=by
  rw[J6 h2]
  have:decide ((e::es).length+([]:List mF).length+(if([]:List mF).isEmpty then 0 else 1)<30)=true:=by
   rw[decide_eq_true_iff]
   simpa using h3
  rw[this]
  rfl
 refine wpAny_Call_method_late (C7 h1 m X.env _) hfew h4 rfl (thn (ho Ex mt ξ s σ H _ I h) λv s1 ⟨x,H1,I1,r1,q1⟩=>?_)
 obtain⟨b,hbm,ty,q⟩:=Qu q1
 obtain⟨k1,k2⟩:=aw1 I1 r1 ty
 have B:=hb b hbm
 refine⟨b.T,b.id,B.pa,B.slot,B.ty,k1,k2,?_⟩
 have hA:=ha Ex mt cpos ξ s1 σ H1 _ I1 q
 rw[Az hs.1] at hA ⊢
 exact g7 (by show(false||(ku cpos (df es X.env)).any (·.1))=false;rw[Cq hs.2] <;> rfl) (Calls.evalArgs_plain (thn hA λus s2 ⟨vs,H2,I2,r2,q2⟩=>B.mt ξ s2 σ H2 x vs v us Q I2 r1 r2 q2))
variable {x:Str}{p pos:Pos}{G:Sg}
def br0{f:BF}{rf:RF}{e:Expr}(hc:Ci X f.val rf)(hg:Gl X x)(hm:X.mg x=none)(hv:cG x=some f.val)(ha:QA X (e::es) r)(hs:(e::es).all noStar=true)(hn:x ≠ "__name__")(hdb:(x==("__debug__" : Str))=false) :
  QE X (.Call (.Name x p) (e::es) [] pos) (dFn (λvs H Q _=>rf vs H Q) r):=by
 intro Ex mt
 have h:=cb▸hs
 rw[a9] at h
 cases f with
 |bf id=>exact ao3 hc hg hm hv (ha Ex mt) hn hdb (Az h.1 es X.env) (Cq h.2 X.env pos)
 |ty T=>exact Z8 hc hg hm hv (ha Ex mt) hn hdb (Az h.1 es X.env) (Cq h.2 X.env pos)
def spE(sp:Sp)(dvs:List V):List V->Hp->VK->EK->Prop:=λvs H Q E=>sp (vs++dvs) H Q (λv _ H'=>∃a,v=.ref a/\E a H')
def Yu(F:Iy X i)(hj:j<=i.dfs.length)(mt:Meets X Ex)(I:Inv X ξ σ H s)(r:Vals vs us)(h:spE i.sp (i.dfs.drop j) vs H Q (Ex σ)):aR (model X.prog X.w) X.A (call (.ref i.f) us) (EP X ξ σ Q) X.xe s:=by
 obtain⟨CX,hx,FO⟩:=F.ok
 have r2:=r.append (F.vals.drop j)
 have hl:(us++i.ds.drop j).length=i.ps.length:=by rw[<- r2.length];exact FO.len _ _ _ _ h
 refine dS (d8 (FO.run X.A X.stack s H ⟨us,[]⟩ (us++i.ds.drop j) (vs++i.dfs.drop j) Q _ F.room I.env0 (F.binds j hj s us I.kIn hl) r2 h) λr s' hq=>?_)
 cases r with
 |error e=>exact hx X rfl rfl Ex mt ξ σ H s e s' I hq
 |ok fl=>
  cases fl with
  |ret u=>exact I.after hq
  |next=>exact bP hq
  |brk=>exact bP hq
  |cont=>exact bP hq
noncomputable def Dv:List DE->DA
 |[]=>Ag
 |a::r=>Ac a (Dv r)
theorem Ea{X:Cx}{w:Expr->DE}(h:∀e,QE X e (w e)):∀{es},es.all noStar=true->QA X es (Dv (es.map w))
 |[],_=>Qn
 | e::es,hs=>by
  rw[cb,a9] at hs
  exact Lc (h e) (Ea h hs.2) hs.1
def X2(kp:ba X.K (.ref f)=true)(h:∀e,QE X e (w e))(hs:es.all noStar=true)(mt:Meets X Ex)(I:Inv X ξ σ H s)(ha:Dv (es.map w) σ H C (Ex σ))(run:∀us vs H1 s1,Inv X ξ σ H1 s1->Vals vs us->C vs H1->aR (model X.prog X.w) X.A (call (.ref f) (first++us)) P X.xe s1) :
  aR (model X.prog X.w) X.A (callWith pos (.ref f) first (ku pos (df es X.env)) (mx pos (jN [] X.env))) P X.xe s:=by
 cases es with
 |nil=>exact PySem.W.callWith_K0 I.kIn kp (run [] [] H s I .nil ha)
 |cons e es=>
  have h2:=cb▸hs
  rw[a9] at h2
  exact PySem.W.callWith_K I.ok.mod.kin kp (thn (Ea h hs Ex mt pos ξ s σ H _ I ha) λus s1 ⟨vs,H1,I1,r,q⟩=>⟨I1.kIn,run us vs H1 s1 I1 r q⟩) (Az h2.1 es X.env) (Cq h2.2 X.env pos)
def ap8{w:Expr->DE}{f:Addr}{R:List V->Hp->VK->EK->Prop}(h:∀e,QE X e (w e))(hs:es.all noStar=true)(hg:Gl X x)(hdb:(x==("__debug__" : Str))=false)(hm:X.mg x=some (.ref f))(kp:ba X.K (.ref f)=true)(run:∀{Ex} {ξ}{σ:St}{H:Hp}{s:aw}{Q:VK}{us:List Value}{vs:List V},Meets X Ex->Inv X ξ σ H s->Vals vs us->R vs H Q (Ex σ)->aR (model X.prog X.w) X.A (call (.ref f) us) (EP X ξ σ Q) X.xe s) :
  QE X (.Call (.Name x p) es [] pos) (dFn R (Dv (es.map w))):=by
 intro Ex mt ξ s σ H Q I q
 exact cu (Qb I hg hm (X2 kp h hs mt I q λus vs H1 s1 I1 r q=>run mt I1 r q) hdb)
def mkX(C:Addr):Option FI->Nat->List V->Hp->VK->EK->Prop
 |none,_=>λ_ H Q _=>∀a,H a=none->Q (.ref a) (upd H a (Fn a C none))
 |some i,j=>λvs H Q E=>∀a,H a=none->i.sp (.ref a::(vs++i.dfs.drop j)) (upd H a (Fn a C none)) (λv H2=>v=.non/\Q (.ref a) H2) (λv _ H'=>∃b,v=.ref b/\E b H')
def a68(c:ECls X.K C)(hi:Uo X C oi)(hj:∀i,oi=some i->j<=i.dfs.length)(mt:Meets X Ex)(I:Inv X ξ σ H s)(rv:Vals vs us)(hl:vs.length<=1000)(h:mkX C oi j vs H Q (Ex σ)):aR (model X.prog X.w) X.A (call (.ref C) us) (EP X ξ σ Q) X.xe s:=by
 cases oi with
 |none=>exact V7 c hi I rv hl h
 |some i=>
  obtain⟨h1,h2,F,hr⟩:=hi
  obtain⟨CX,hx,FO⟩:=F.ok
  exact aa8 c h1 h2 FO hr (F.binds j (hj i rfl)) (F.vals.drop j) I rv hl (λe s1 s' H1 I1 q=>hx X rfl rfl Ex mt ξ σ H1 s1 e s' I1 q) h
def mkC(C:Addr):Option FI->Nat->List V->Hp->VK->EK->Prop
 |none,_=>λ_ _ _ _=>False
 | some i,j=>λvs H Q E=>∀a dx,H a=none->H dx=none->dx≠a ->
   i.sp (.ref a::(vs++i.dfs.drop j)) (upd (upd H dx (.own a)) a (.ins C dx [])) (λv H2=>v=.non/\Q (.ref a) H2) (λv _ H'=>∃b,v=.ref b/\E b H')
def a66(M:Mk X.K C f)(F:FnOk X.prog X.w X.K X.mg X.base CX k f fd ps sp)(hr:Room (k+1) X.A)(hb:Binds X.K fd ps ds)(hd:Vals dvs ds)(hx:∀H1 s1 e s',Inv X ξ σ H1 s1->CX X.stack H1 s1 E e s'->X.xe e s')(I:Inv X ξ σ H s)(r:Vals vs us)(h:∀x dx,H x=none->H dx=none->dx≠x->sp (.ref x::(vs++dvs)) (upd (upd H dx (.own x)) x (.ins C dx [])) (λv H2=>v=.non/\Q (.ref x) H2) E) :
  aR (model X.prog X.w) X.A (call (.ref C) us) (EP X ξ σ Q) X.xe s:=by
 have hq:=h (s.heap.objs.size+1) s.heap.objs.size (I.hok.fresh (cM _)) (I.hok.fresh (ag _)) (aN (cf _))
 have I2:=Inv.made (C:=C) I
 have r2:Vals (V.ref (s.heap.objs.size+1)::(vs++dvs)) (aX (s.heap.objs.size+1)::(us++ds)):=.cons rfl (r.append hd)
 have hl:(aX (s.heap.objs.size+1)::us++ds).length=ps.length:=by
  have e:=r2.length
  rw[F.len _ _ _ _ hq] at e
  exact e.symm
 refine dS (al3 I.kIn M.makes M.init (beq_iff_eq.mp M.fn) (d8 (F.run _ X.stack _ _ ⟨aX (s.heap.objs.size+1)::us,[]⟩ (aX (s.heap.objs.size+1)::(us++ds)) _ _ E (hr.make C us [])
  (I2.env0.make C us []) (hb _ (aX (s.heap.objs.size+1)::us) I2.kIn hl) r2 hq) λr s' hq'=>?_))
 cases r with
 |error e=>exact hx _ _ e s' I2 hq'
 |ok fl=>
  cases fl with
  |ret u=>
   obtain⟨v,H',I3,rv,ev,q3⟩:=I2.after hq'
   subst ev
   exact⟨rv,⟨V.ref (s.heap.objs.size+1),H',I3,rfl,q3⟩⟩
  |next=>exact bP hq'
  |brk=>exact bP hq'
  |cont=>exact bP hq'
def a67(hi:bf1 X C oi)(hj:∀i,oi=some i->j<=i.dfs.length)(mt:Meets X Ex)(I:Inv X ξ σ H s)(rv:Vals vs us)(kp:ba X.K (.ref C)=true)(h:mkC C oi j vs H Q (Ex σ)):aR (model X.prog X.w) X.A (call (.ref C) us) (EP X ξ σ Q) X.xe s:=by
 cases oi with
 |none=>exact h.elim
 |some i=>
  obtain⟨h0,h1,h2,F,hr⟩:=hi
  obtain⟨CX,hx,FO⟩:=F.ok
  exact a66 ⟨h0,h1,h2,kp⟩ FO hr (F.binds j (hj i rfl)) (F.vals.drop j) (λH1 s1 e s' I1 q=>hx X rfl rfl Ex mt ξ σ H1 s1 e s' I1 q) I rv h
noncomputable def Cd(m:Str)(n:Nat)(l:List MI)(o:DE)(t:DA):DE:=λσ H Q E=>o σ H (λx H1=>∃a dx fs mi,x=.ref a/\mi∈l/\H1 a=some (.ins mi.C dx fs)/\fs.lookup m=none/\(n+1<=mi.i.ps.length/\mi.i.ps.length<=n+1+mi.i.dfs.length) /\
 t σ H1 (λvs H2=>spE mi.i.sp (mi.i.dfs.drop (n+1+mi.i.dfs.length-mi.i.ps.length)) (.ref a::vs) H2 Q E) E) E
def ao0(h1:Cw o=true)(h2:es.all noStar=true)(h3:es.length<30)(h4:(apos.endLine==cpos.line)=true)(h:aR (model X.prog X.w) X.A (eval o X.env) (λov s1=>∀pl,aR (model X.prog X.w) X.A (getMethod ov m pl) (λfx s2=>aR (model X.prog X.w) X.A (callWith cpos fx.1 fx.2 (ku cpos (df es X.env)) (mx cpos (jN [] X.env))) P X.xe s2) X.xe s1) X.xe s) :
  aR (model X.prog X.w) X.A (eval (.Call (.Attribute o m apos) es [] cpos) X.env) P X.xe s:=by
 have few:methodCallForm (es.length+([]:List mF).length) (ku cpos (df es X.env)) (mx cpos (jN [] X.env))=true:=by
  unfold methodCallForm
  rw[J6 h2]
  simpa [mx,jN] using h3
 rw[arm_eval_Call,C7 h1]
 refine af (thn h λov s1 h1=>af (d9 ?_))
 unfold methodCall calleeOf
 rw[few,if_pos rfl]
 refine af (bD (thn (h1 _) λfx s2 h2=>?_))
 have hp:methodCallPos true o X.env apos cpos=pure cpos:=by unfold methodCallPos;rw[h4];rfl
 rw[hp]
 exact af (am h2)
def br8(hl:∀mi∈l,Cls X.K mi.C/\Na X.K mi.C m mi.i.f/\Iy X mi.i)(h:∀e,QE X e (w e))(h1:Cw o=true)(h2:es.all noStar=true)(h3:es.length<30)(h4:(apos.endLine==cpos.line)=true) :
  QE X (.Call (.Attribute o m apos) es [] cpos) (Cd m es.length l (w o) (Dv (es.map w))):=by
 intro Ex mt ξ s σ H Q I q
 refine ao0 h1 h2 h3 h4 (thn (h o Ex mt ξ s σ H _ I q) λu s1 ⟨x,H1,I1,rx,a,dx,fs,mi,ex,hm,ea,hf,hn,q⟩ pl=>?_)
 subst ex
 obtain rfl:u=aX a:=rx
 obtain⟨c,k,F⟩:=hl mi hm
 exact Vb I1 ea c k hf (X2 k.kp h h2 mt I1 q λus vs H2 s2 I2 r2 q2=>Yu (vs:=.ref a::vs) F (by omega) mt I2 (.cons rfl r2) q2)
noncomputable def Dd:DE:=λ_ H Q _=>∀p,H p=none->Q (.ref p) (upd H p (.dK []))\/Q (.ref p) (upd H p (.dT []))
def a51:QE X (.Dict [] [] pos) Dd:=λEx mt ξ s σ H Q I h=>by
 have fr:=I.hok.fresh (ag s.heap.objs.size)
 rcases h _ fr with q|q
 .exact wpAny_Dict_empty ⟨.ref _,_,I.laid (λ_ _ q=>ah _ q) (ag _) (ai3 s.heap I.big),rfl,q⟩
 .exact wpAny_Dict_empty ⟨.ref _,_,I.laid (λ_ _ q=>ah _ q) (ag _) (ai4 s.heap I.big),rfl,q⟩
def aa3(hc:X.calm=true)(hg:Gl X "len")(hm:X.mg "len"=none)(hg2:Gl X "set")(hm2:X.mg "set"=none)(ha:QE X a da)(hs:noStar a=true) :
  QE X (.Call (.Name "len" p) [.Call (.Name "set" p2) [a] [] pos2] [] pos) (dUn (Le X.K) da):=by
 intro Ex mt ξ s σ H Q I h
 refine cu (C6 I hg hm PySem.boot_len (fm (dW ?_) rfl rfl) (by decide) (by decide))
 refine cu (C6 I hg2 hm2 PyProof.Rows.boot_set (b_ ?_ (Az hs [] X.env) rfl) (by decide) (by decide))
 rw[Az hs]
 exact dW (thn (ha Ex mt ξ s σ H _ I h) λu s1 ⟨x,H1,I1,r1,q1⟩=>eN (thn (a15 hc I1 r1 q1) λv s2 q=>eN q))
def Vw(hc:X.calm=true)(hg:Gl X "list")(hm:X.mg "list"=none)(hg2:Gl X "range")(hm2:X.mg "range"=none)(ha:QE X a da)(hs:noStar a=true) :
  QE X (.Call (.Name "list" p) [.Call (.Name "range" p2) [a] [] pos2] [] pos) (dUn Ml da):=by
 intro Ex mt ξ s σ H Q I h
 refine cu (C6 I hg hm g9 (b_ (dW ?_) rfl rfl) (by decide) (by decide))
 refine cu (C6 I hg2 hm2 boot_range (b_ ?_ (Az hs [] X.env) rfl) (by decide) (by decide))
 rw[Az hs]
 refine dW (thn (ha Ex mt ξ s σ H _ I h) λu s1 ⟨x,H1,I1,r1,q1⟩=>eN ?_)
 cases x with
 |int n=>
  obtain⟨t,rfl⟩:=r1
  exact thn (al1 hc I1 q1.1 q1.2.1 q1.2.2) λv s2 q=>eN q
 |_=>exact(q1).elim
def Tm(hc:X.calm=true)(hg:Gl X "sorted")(hm:X.mg "sorted"=none)(ho:QE X o do')(h1:Cw o=true)(h4:(ap.endLine==cp.line)=true) :
  QE X (.Call (.Name "sorted" p) [.Call (.Attribute o "items" ap) [] [] cp] [] pos) (dUn (Jt X.K) do'):=by
 intro Ex mt ξ s σ H Q I h
 refine cu (C6 I hg hm D8 (fm (dW ?_) rfl rfl) (by decide) (by decide))
 refine jP (C7 h1 "items" X.env _) h4 (thn (ho Ex mt ξ s σ H _ I h) λv s1 ⟨x,H1,I1,r1,q1⟩=>?_)
 cases x with
 |ref a=>
  cases r1
  obtain⟨zs,f,rd,nd,few,q⟩:=q1
  obtain⟨_,lo,vs,rel,dof⟩:=Dm I1.hok rd
  obtain⟨ob,es,ep,e,c,_⟩:=id dof
  refine⟨"dict","dict.items", gZ,jI,PySem.F.type_dict_items,dof.typeIs,λa' e'=>?_,g7 rfl (lK ?_)⟩
  .cases e';exact⟨ob,e,c.2.1⟩
  .exact thn (ab5 hc I1 rd nd few q) λv s2 q=>eN q
 |_=>exact(q1).elim
end
noncomputable def ai2(K:ac)(m:Str)(l:List MI)(a o:DE):DE:=λσ H Q E=>Ac a Ag σ H (λxs H1=>o σ H1 (λy H2=>∃(p b dx:Addr)(fs:List (Str×V))(mi:MI)(zs:List Str)(kf:Str->Int),xs=[.ref p]/\(SqL K H2 p (zs.map V.str) \/ ∃kvs,Rd H2 p (.dK kvs)/\kvs.map (·.1)=zs.map du)/\zs.Nodup/\zs.length<64/\y=.ref b/\mi∈l/\H2 b=some (.ins mi.C dx fs)/\fs.lookup m=none /\
 (∀z∈zs,∀H3,Same H2 H3->spE mi.i.sp [] [.ref b,.str z] H3 (λv H4=>∃q,v=.ref q/\Same H3 H4/\H4 q=some (.tup [.int (kf z),.str z])) (λ_ _=>False))/\∀H3 D,Same H2 H3->H2 D=none->H3 D=some (.lst ((Bx (ltK kf) zs).map V.str))->Q (.ref D) H3) E) E
section
variable {X:Cx}{a o:Expr}{da do':DE}{p ap kp pos:Pos}{m:Str}
def a54(hc:X.calm=true)(hl:∀mi∈l,bf0 X m mi)(hg:Gl X "sorted")(hm:X.mg "sorted"=none)(ha:QE X a da)(ho:QE X o do')(hs:noStar a=true)(h1:Cw o=true):QE X (.Call (.Name "sorted" p) [a] [⟨some "key", .Attribute o m ap,kp⟩] pos) (ai2 X.K m l da do'):=by
 intro Ex mt ξ s σ H Q I h
 have hA:=Lc ha Qn hs
 refine cu (C6 I hg hm D8 ?_ (by decide) (by decide))
 refine kX ?_ rfl ?_
 .rw[Az hs [] X.env];rfl
 have e0:df [a] X.env=[(false,eval a X.env)]:=by rw[Az hs [] X.env];rfl
 have hh:=hA Ex mt pos ξ s σ H _ I h
 rw[e0] at hh ⊢
 refine af (thn hh λus s1 ⟨vs,H1,I1,r1,q1⟩=>af (am (bD ?_)))
 show aR (model X.prog X.w) X.A (do
  let l <- evalAll [do let v <- eval (.Attribute o m ap) X.env;standAt pos;pure v]
  let ps <- (pure us:Sem (List Value))
  pure (⟨ps,[("key" : Str)].zip l⟩:Args)) _ _ s1
 refine af (lY (af (Xv (C7 h1 _ X.env _) (thn (ho Ex mt ξ s1 σ H1 _ I1 q1) λov s2 ⟨y,H2,I2,ry,q2⟩=>?_))))
 obtain⟨pp,b,dx,fs,mi,zs,kf,rfl,hp,nd,h64,rfl,hm,eb,hf,hk,q⟩:=q2
 cases ry
 obtain⟨u,rfl,ru⟩:=D4 r1
 cases ru
 have K:=hl mi hm
 refine Zj I2 eb K.c K.k K.sg K.tk K.cn hf λs3 g3 l3 I3=>?_
 refine af (d9 (am (wpAny_evalAll_nil (af (am (am ?_))))))
 have fb:=I2.fpOk (ag _) (I2.hok.fresh (ag _))
 have I4:Inv X (ξ++[(s2.heap.objs.size,jq (.ref mi.i.f) (.ref b))]) σ H2 s3:=I3.pins_of λp hp=>by
  rcases List.mem_append.mp hp with hp|hp
  .exact I3.pin p (aH _ hp)
  .rw[List.mem_singleton.mp hp]
   exact⟨g3,fb.1,fb.2.1,fb.2.2.1,λv z=>by cases z⟩
 exact bJ (Yz (v:=V.str) (KR:=bi2 kf) cH hc I4 (X8 hp) (a18 nd) h64 (λS ⟨q,e,h⟩=>⟨q,e,S _ _ h⟩) (λz hz pl s' H3 u I' S ru=>(bJ (a64 K I' (I'.pin (s2.heap.objs.size,_) (by simp)).1 ru (hk z hz H3 S)) (λv s'' ⟨w,H4,J,r,q,e,S2,h⟩=>⟨w,H4,J,r,⟨q,e,h⟩,S2⟩) λ_ _ z=>z)) (λa b c d=>@λ_ e=>by9 a b c d e) q) (λv s' ⟨y,H',J,r,qq⟩=>⟨y,H',J.unpinned,r,qq⟩) λ_ _ z=>z
end
def QI(X:Cx)(tg e:Expr)(t:DI):Prop:=∀Ex,Meets X Ex->PI X tg e (λσ H R=>t σ H R (Ex σ))
noncomputable def iNo:DI:=λ_ _ _ _=>False
def onD(p:Addr)(H:Hp)(R:Obj->List (Key×V)->Hp->Prop):Prop:=(∃kvs,H p=some (.dK kvs)/\∀o,R o kvs (upd H p (.frz o (.dK kvs)))) \/ ∃o kvs,H p=some (.frz o (.dK kvs))/\R o kvs H
def an7(I:Inv X ξ σ H s)(h:onD p H R):∃o kvs H',Inv X ξ σ H' s/\H' p=some (.frz o (.dK kvs))/\R o kvs H':=by
 rcases h with⟨kvs,e,q⟩|⟨o,kvs,e,q⟩
 .obtain⟨o,ep,_,_,I'⟩:=I.froze e
  exact⟨o,kvs,_,I',Aa,q o⟩
 .exact⟨o,kvs,H,I,e,q⟩
noncomputable def Bj(K:ac)(a:DE):DI:=λσ H R E=>a σ H (λx H1=>match x with
 |.str z=>R (Its z) H1
 |.ref p=>((∃xs,SqL K H1 p xs)/\R (Itl K p) H1)\/((∃xs,SqT K H1 p xs)/\R (Itt K p) H1)\/(onD p H1 λo kvs H2=>R (Itd p o kvs) H2) \/ ∃kvs,H1 p=some (.dT kvs)/\∀o,R (ay7 p o kvs) (upd H1 p (.frz o (.dT kvs)))
 |_=>False) E
noncomputable def Gq(t:DA):DI:=λσ H R E=>t σ H (λvs H1=>match vs with
 |[.int j]=>(-(2^62)<=j/\j<2^62)/\R (Itr 0 j.toNat) H1
 |[.int i,.int j]=>(-(2^62)<=i/\i<2^62 /\ -(2^62)<=j/\j<2^62)/\R (Itr i (j-i).toNat) H1
 |_=>False) E
noncomputable def iEn(K:ac)(t:DA):DI:=λσ H R E=>t σ H (λvs H1=>match vs with
 |[.ref a]=>((∃xs,SqL K H1 a xs)/\R (Ite K a) H1)\/onD a H1 λo kvs H2=>R (ay6 a o kvs) H2
 |_=>False) E
section
variable {X:Cx}{tg e a b:Expr}{da:DE}{r:DA}{p pos:Pos}
def bb9:QI X tg e iNo:=λ_ _ _ _ _ _ _ _ h=>h.elim
def Jr(ha:QE X e da):QI X tg e (Bj X.K da):=by
 intro Ex mt ξ s σ H R I h
 refine thn (ha Ex mt ξ s σ H _ I h) λv s1 ⟨x,H1,I1,r1,q1⟩=>?_
 cases x with
 |str z=>
  obtain⟨t,rfl⟩:=r1
  refine wpAny_pyIter_strU ?_
  refine⟨s1.heap.objs.size,[s1.heap.objs.size],_,_,H1,rfl,I1.kept λb o e=>ah _ e,av9 s1.heap.objs.size z t (strIterType z) (by unfold strIterType;split <;> simp),⟨_,aE _ rfl,rfl,rfl⟩,λb hb=>?_,q1⟩
  have e:b=s1.heap.objs.size:=by simpa using hb
  subst e
  exact I1.fpOk (ag _) (I1.hok.fresh (ag _))
 |ref a=>
  cases r1
  rcases q1 with⟨⟨xs,hq⟩,q⟩|⟨⟨xs,hq⟩,q⟩|q|⟨kvs,hq,q⟩
  .obtain⟨χ,rv,p,hz⟩:=I1.list hq
   refine jx p.isList ?_
   refine⟨s1.heap.objs.size,[s1.heap.objs.size],_,_,H1,rfl,I1.kept λb o e=>ah _ e,ac3 a _,⟨_,aE _ rfl,rfl,rfl⟩,λb hb=>?_,q⟩
   have e:b=s1.heap.objs.size:=by simpa using hb
   subst e
   exact I1.fpOk (ag _) (I1.hok.fresh (ag _))
  .obtain⟨χ,rv,p,hz⟩:=I1.tuple hq
   refine wpAny_pyIter_tuple (p) ?_
   refine⟨s1.heap.objs.size,[s1.heap.objs.size],_,_,H1,rfl,I1.kept λb o e=>ah _ e,W9 a _,⟨_,aE _ rfl,rfl,rfl⟩,λb hb=>?_,q⟩
   have e:b=s1.heap.objs.size:=by simpa using hb
   subst e
   exact I1.fpOk (ag _) (I1.hok.fresh (ag _))
  .obtain⟨o,kvs,H2,I2,e,q⟩:=an7 I1 q
   exact a01 I2 e q
  .exact bw6 I1 hq q
 |_=>exact(q1).elim
variable {es:List Expr}
def aq1(hg:Gl X "range")(hm:X.mg "range"=none)(ha:QA X (a::es) r)(hs:(a::es).all noStar=true):QI X tg (.Call (.Name "range" p) (a::es) [] pos) (Gq r):=by
 intro Ex mt ξ s σ H R I h
 have h2:=cb▸hs
 rw[a9] at h2
 refine Call_ (C6 I hg hm boot_range (b_ (thn (ha Ex mt pos ξ s σ H _ I h) λus s1 ⟨vs,H1,I1,r1,q1⟩=>?_) (Az h2.1 es X.env) (Cq h2.2 X.env pos)))
 dsimp only at q1
 split at q1
 .obtain⟨⟨h1,h2⟩,q⟩:=q1
  obtain⟨u,rfl,t,rfl⟩:=D4 r1
  exact call_range_1 (Tw I1 (by first|exact ag _|exact bv _ _|omega|(dsimp only;omega)) (by omega) (by omega) h1 h2 (by simpa using q))
 .obtain⟨⟨h1,h2,h3,h4⟩,q⟩:=q1
  obtain⟨u,v,rfl,⟨t,rfl⟩,⟨t',rfl⟩⟩:=b94 r1
  exact call_range_2 (Tw I1 (by first|exact ag _|exact bv _ _|omega|(dsimp only;omega)) h1 h2 h3 h4 q)
 .exact q1.elim
def a56(hg:Gl X "enumerate")(hm:X.mg "enumerate"=none)(ha:QA X (a::es) r)(hs:(a::es).all noStar=true):QI X (.Tuple elts kt pt) (.Call (.Name "enumerate" p) (a::es) [] pos) (iEn X.K r):=by
 intro Ex mt ξ s σ H R I h
 have hh:=cb▸hs
 rw[a9] at hh
 refine Call_ (C6 I hg hm boot_enumerate (b_ (thn (ha Ex mt pos ξ s σ H _ I h) λus s1 ⟨vs,H1,I1,r1,q1⟩=>?_) (Az hh.1 es X.env) (Cq hh.2 X.env pos)))
 dsimp only at q1
 split at q1
 .rename_i l
  obtain⟨u,rfl,ru⟩:=D4 r1
  cases ru
  rcases q1 with⟨⟨xs,q1⟩,q⟩|q
  case inr=>
   obtain⟨o,kvs,H2,I2,e,q⟩:=an7 I1 q
   exact ai5 I2 e q
  obtain⟨its1,t1,p1,z1⟩:=I1.list q1
  refine call_enumerate_list p1.isList λh' he hit hsz hk=>?_
  refine ii he ?_
  refine⟨_,_,_,_,H1,rfl,I1.kept hk,ac2 (Nat.succ_ne_self _),⟨⟨_,he⟩,hit⟩,λb hb=>?_,q⟩
  have hb:b=s1.heap.objs.size+1\/b=s1.heap.objs.size:=by simpa using hb
  have le:s1.heap.objs.size<=b:=by
   rcases hb with e|e
   .rw[e];exact bv _ 1
   .rw[e];exact ag _
  exact I1.fpOk le (I1.hok.fresh le)
 .exact q1.elim
noncomputable def gNo:DG:=λ_ _ _ _=>False
def gdS:List DG->List V->St->Hp->(St->Hp->Prop)->Prop
 |[],[],σ,H,Q=>Q σ H
 |g::gs,v::vs,σ,H,Q=>g v σ H λσ' H'=>gdS gs vs σ' H' Q
 |_,_,_,_,_=>False
noncomputable def gdT(K:ac)(n:Nat)(gs:List DG):DG:=λv σ H Q=>match v with
 |.ref a=>∃xs,(SqT K H a xs\/SqL K H a xs)/\xs.length=n/\gdS gs xs σ H Q
 |_=>False
def Tl:PG X tg gNo:=λ_ _ _ _ _ _ _ _ _ h=>h.elim
def b31:PGs X [] (gdS []):=by
 intro ξ s σ H vs us Q I r h
 cases vs with
 |nil=>exact a39 ξ s σ H [] us Q I r ⟨rfl,h⟩
 |cons v vs=>exact(h).elim
def b30(h1:PG X tg g)(h2:PGs X ts (gdS gs))(hs:(dy (tg::ts) X.env).map (·.2)=mW tg X.env::(dy ts X.env).map (·.2)):PGs X (tg::ts) (gdS (g::gs)):=by
 intro ξ s σ H vs us Q I r h
 cases vs with
 |nil=>exact(h).elim
 |cons v vs=>exact ao4 h1 h2 hs ξ s σ H (v::vs) us Q I r ⟨v,vs,rfl,h⟩
def cb1(hc:X.calm=true)(h:PGs X ts (gdS gs))(hn:(dy ts X.env).length=n)(hst:(dy ts X.env).findIdx? (·.1)=none):PG X (.Tuple ts k pos) (gdT X.K n gs):=by
 intro ξ s σ H v u Q I r hw
 cases v with
 |ref a=>
  obtain⟨xs,h1|h1,h2,h3⟩:=hw
  .exact bq1 hc h hn hst ξ s σ H _ u Q I r ⟨a,xs,rfl,h1,h2,h3⟩
  cases r
  obtain⟨χ,rv,pl,_⟩:=I.list h1
  rw[assign_Tuple]
  refine af (d9 ?_)
  unfold unpack
  rw[hst,show(dy ts X.env).length=χ.toArray.size by rw[hn,<- h2,rv.length];rfl]
  refine af (bD (PySem.W.kun_itemsOf (I.ok.hd hc) pl.isList λh' hx=>?_))
  have I1:=I.kept λb o e=>hx b o (aN (aG e)) e
  exact h ξ _ σ H xs _ Q I1 (rv) h3
 |_=>exact(hw).elim
end
def Rr(K:ac)(a:Addr)(n:Nat):It:=
 ⟨λi H=>i<n/\∃xs,SqL K H a xs/\xs.length=n,λi H x H'=>H'=H/\∀xs,SqL K H a xs->xs[n-1-i]?=some x,λi _=>n<=i⟩
def av8{P:aW}{w:bC}{K:ac}{tg:Expr}(a it:Addr)(n:Nat):Nb P w K tg (Rr K a n) [it] it (λi h=>i<=n/\h.IsRevIter it a ((n:Int)-1-(i:Int))) where
 mem:=by simp
 obj:=λi h st b hb=>by
  have e:b=it:=by simpa using hb
  subst e
  obtain⟨_,o,e,c,d⟩:=st
  exact⟨o,e,λv z=>by rw[d] at z;cases z⟩
 keep:=λi h h' st k=>⟨st.1,by
  obtain⟨_,o,e,c,d⟩:=st
  exact⟨o,k it (by simp) o e,c,d⟩⟩
 item:=by
  intro X hP hw hK hc i ξ s σ H E I hf st hg
  subst hP hw hK
  obtain⟨hi,xs,hq,hl⟩:=hg
  obtain⟨χ,rv,p,hz⟩:=I.list hq
  have hx:xs[n-1-i]?=some (xs[n-1-i]'(by omega)):=ai _
  obtain⟨u,hu,ru⟩:=rv.get hx
  obtain⟨f0,f1,f2,f3,f4,f5⟩:=hf it (by simp)
  have e0:(n:Int)-1-(i:Int)=((n-1-i:Nat):Int):=by omega
  have st2:=st.2
  rw[e0] at st2
  refine wpAny_pyNext_rev_item st2 p.isList (by simpa using hu) λh' st' sb=>?_
  have I1:=I.turned (λb o hb e=>(sb.2 b hb).trans e) f0 f1 f3 f4 f5
  obtain⟨o,e,c,d⟩:=id st'
  refine⟨u,rfl,Ls e c d (by decide) ⟨_,H,I1,ru,⟨rfl,λys hy=>by rw[I.list_inj hy hq];exact hx⟩,⟨hi,?_⟩,λb hb=>(hf b hb).1⟩⟩
  rw[show(n:Int)-1-((i+1:Nat):Int)=((n-1-i:Nat):Int)-1 by omega]
  exact st'
 done:=by
  intro X hP hw hK hc i ξ s σ H E I hf st hg
  subst hP hw hK
  obtain⟨f0,f1,f2,f3,f4,f5⟩:=hf it (by simp)
  have hg:n<=i:=hg
  have st2:=st.2
  rw[show(n:Int)-1-(i:Int) = -1 by have:=st.1;omega] at st2
  exact wpAny_pyNext_rev_end (I.ok.hd hc) st2 λh' eb=>⟨rfl,I.turned (t':=s.toks) (λb o hb e=>eb b o hb e) f0 f1 f3 f4 f5⟩
 self:=λ_ _ _ _ _ st h=>k9 st.2 h
noncomputable def ak1(K:ac)(a:DE):DI:=λσ H R E=>a σ H (λx H1=>match x with
 |.ref p=>∃xs,SqL K H1 p xs/\R (Rr K p xs.length) H1
 |_=>False) E
def ah1:cG "reversed"=some (.type "reversed"):=by decide +kernel
def bs1{X:Cx}{tg a:Expr}{da:DE}{p pos:Pos}(hg:Gl X "reversed")(hm:X.mg "reversed"=none)(ha:QE X a da)(hs:noStar a=true):QI X tg (.Call (.Name "reversed" p) [a] [] pos) (ak1 X.K da):=by
 intro Ex mt ξ s σ H R I h
 have hA:=Lc ha Qn hs
 refine Call_ (C6 I hg hm ah1 (b_ (thn (hA Ex mt pos ξ s σ H (λvs H1=>∃x,vs=[x]/\(match x with | .ref p=>∃xs,SqL X.K H1 p xs/\R (Rr X.K p xs.length) H1|_=>False)) I ?_) λus s1 ⟨vs,H1,I1,r1,q1⟩=>?_) (Az hs [] X.env) rfl))
 .have h2:da σ H (λx H1=>∃y,[x]=[y]/\(match y with | .ref p=>∃xs,SqL X.K H1 p xs/\R (Rr X.K p xs.length) H1|_=>False)) (Ex σ):=by
   have e:(λ(x:V) H1=>∃y,[x]=[y]/\(match y with | .ref p=>∃xs,SqL X.K H1 p xs/\R (Rr X.K p xs.length) H1|_=>False))=λx H1=>(match x with | .ref p=>∃xs,SqL X.K H1 p xs/\R (Rr X.K p xs.length) H1|_=>False):=by
    funext x H1
    apply propext
    constructor
    .rintro⟨y,e,h⟩
     cases e
     exact h
    .exact λh=>⟨x,rfl,h⟩
   rw[e]
   exact h
  exact h2
 .obtain⟨x,rfl,q⟩:=q1
  obtain⟨u,rfl,ru⟩:=D4 r1
  cases x with
  |ref l=>
   cases ru
   obtain⟨xs,hq,q⟩:=q
   obtain⟨χ,rv,pl,hz⟩:=I1.list hq
   refine call_reversed_list pl.isList ?_
   have e:((χ.toArray.size:Nat):Int)-1=(xs.length:Int)-1-((0:Nat):Int):=by rw[ax,rv.length];omega
   rw[e]
   have st:(s1.heap.push (revObj l ((xs.length:Int)-1-((0:Nat):Int)))).IsRevIter s1.heap.objs.size l ((xs.length:Int)-1-((0:Nat):Int)):=⟨_,aE _ rfl,rfl,rfl⟩
   refine k9 st ?_
   refine⟨s1.heap.objs.size,[s1.heap.objs.size],_,_,H1,rfl,I1.kept λb o e=>ah _ e,av8 l s1.heap.objs.size xs.length,⟨bw _,st⟩,λb hb=>?_,q⟩
   have e:b=s1.heap.objs.size:=by simpa using hb
   subst e
   exact I1.fpOk (ag _) (I1.hok.fresh (ag _))
  |_=>exact(q).elim
def Dj(cs:List (Str×Addr)):List (Str×c9)->List (Str×Addr)->List (Str×Addr)
 |[],acc=>acc
 |(n,k)::r,acc=>if k==.free then Dj cs r ((n,(cs.lookup n).getD 0)::acc) else Dj cs r acc
def Nd(h:∀y∈scope.names,y.2=.free -> ∃c,env.cells.lookup y.1=some c):kL scope env=pure (Dj env.cells scope.names []):=by
 unfold kL
 generalize scope.names=names at h
 suffices ∀acc,(forIn names acc λx cs=>do
   if(x.2==.free)=true then do
    let c <- cellOf env x.1
    pure (fT ((x.1,c)::cs))
   else pure (fT cs):Sem (List (Str×Addr)))=pure (Dj env.cells names acc) by
  have:=this []
  simp only[bind_pure]
  exact this
 induction names with
 |nil=>intro acc;rfl
 |cons y r ih=>
  intro acc
  obtain⟨n,k⟩:=y
  rw[List.forIn_cons]
  unfold Dj
  by_cases e:(k==fC)=true
  .obtain⟨c,hc⟩:=h (n,k) (by simp) (cz e)
   have ec:cellOf env n=pure c:=by
    unfold cellOf
    rw[hc]
   simp only[e,if_true,ec,pure_bind]
   rw[ih (λy hy=>h y (av _ hy)),show env.cells.lookup n=some c from hc]
   rfl
  .have e':(k==fC)=false:=by simpa using e
   simp only[e',dv,if_false,pure_bind]
   rw[ih (λy hy=>h y (av _ hy))]
theorem Jd{cs:List (Str×Addr)}:∀{names} {acc} {p},p∈Dj cs names acc->p∈acc\/((p.1,fC)∈names/\p.2=(cs.lookup p.1).getD 0)
 |[],_,_,h=>.inl h
 | (n,k)::r,acc,p,h=>by
  unfold Dj at h
  by_cases e:(k==fC)=true
  .rw[if_pos e] at h
   rcases Jd h with h|⟨h1,h2⟩
   .rcases List.mem_cons.mp h with h|h
    .subst h
     exact .inr ⟨by rw[cz e];simp,rfl⟩
    .exact .inl h
   .exact .inr ⟨av _ h1,h2⟩
  .rw[if_neg e] at h
   rcases Jd h with h|⟨h1,h2⟩
   .exact .inl h
   .exact .inr ⟨av _ h1,h2⟩
theorem Jc{cs:List (Str×Addr)}:∀{names} {acc} {p},p∈acc->p∈Dj cs names acc
 |[],_,_,h=>h
 | (n,k)::r,acc,p,h=>by
  unfold Dj
  split
  .exact Jc (av _ h)
  .exact Jc h
theorem Od{cs:List (Str×Addr)}:∀{names} {acc} {n},(n,fC)∈names->n∈(Dj cs names acc).map (·.1)
 |[],_,_,h=>by cases h
 | (m,k)::r,acc,n,h=>by
  unfold Dj
  rcases List.mem_cons.mp h with e|h
  .cases e
   rw[if_pos (show(fC==fC)=true from rfl)]
   exact List.mem_map.mpr ⟨_,Jc (aQ),rfl⟩
  .split <;> exact Od h
def aa7(sc:List (Str×c9))(names:List (Str×c9)):List (Str×c9):=names.map λ(n,k)=>if(k==.free&&sc.lookup n==some .cell) then(n,.cell) else(n,k)
def Ta(names:List (Str×c9)):List Str:=(names.filter λy=>(y.2==.local) && !(y.1==(".0" : Str))).map (·.1)
def U9(names:List (Str×c9)):List Str:=(names.filter λy=>y.2==.free).map (·.1)
def cfV(o:Option c9):Bool:=o==some .cell||o==some .free
def Dk(G:Sg)(names:List (Str×c9)):Sg:={G with N:=Ta names++U9 names,sc:=aa7 G.sc names,top:=false}
def Gd(G:Sg)(names:List (Str×c9)):List (Option Nat):=(Ta names).map (λ_=>none)++(U9 names).map (λx=>C2 G.N x 0)
def Fj(G:Sg)(sc:Scope):Bool:=
 (sc.names.all λy=>!(y.2==.cell))&&(sc.names.all λy=>!(y.2==.local)||(sc.names.lookup y.1==some .local))&&(sc.kind==.function) &&
 decide (Ta sc.names++U9 sc.names).Nodup&&((U9 sc.names).all λx=>(C2 G.N x 0).isSome&&cfV (G.sc.lookup x)&&cfV ((aa7 G.sc sc.names).lookup x)) &&
 ((Ta sc.names).all λx=>(aa7 G.sc sc.names).lookup x==some .local)
section
variable {X:Cx}{G:Sg}{sc:Scope}
def Hh(h:cfV o=true):o=some .cell\/o=some .free:=by
 unfold cfV at h
 rw[cS] at h
 exact h.elim (λe=>.inl (cz e)) λe=>.inr (cz e)
def G3(O:GOk X G):(jO sc X.env).names=aa7 G.sc sc.names:=by
 apply bW
 rintro⟨n,k⟩ _
 have e:X.env.kindOf n=G.sc.lookup n:=O.sc n
 dsimp only
 rw[e,O.kind]
 simp
def Pw(O:GOk X G)(h:Fj G sc=true):Lg X (Dk G sc.names).N (Gd G sc.names) sc (Dj X.env.cells sc.names []):=by
 unfold Fj at h
 simp only[a9,bj,ji,decide_eq_true_eq,cS] at h
 obtain⟨⟨⟨⟨⟨h1,h2⟩,h3⟩,h4⟩,h5⟩,h6⟩:=h
 have fr:∀y∈sc.names,y.2=.free -> ∃c,X.env.cells.lookup y.1=some c:=λy hy hf=>by
  refine O.cel y.1 ?_
  rw[O.sc]
  exact Hh (h5 y.1 (List.mem_map.mpr ⟨y,List.mem_filter.mpr ⟨hy,by rw[hf];rfl⟩,rfl⟩)).1.2
 have nc:∀y∈sc.names,y.2≠.cell:=λy hy e=>by
  have:=h1 y hy
  rw[e] at this
  cases this
 refine⟨Nd fr,nc,cz h3,λy hy hl=>?_,λx c hx=>?_,λx hx=>?_,?_,λk j x e1 e2=>?_⟩
 .rcases h2 y hy with z|z
  .rw[hl] at z;cases z
  .exact cz z
 .have hm:=bX hx
  rcases Jd hm with z|⟨z1,z2⟩
  .cases z
  .obtain⟨c',hc'⟩:=fr _ z1 rfl
   have z2':c=(X.env.cells.lookup x).getD 0:=z2
   rw[hc'] at z2' ⊢
   rw[z2']
   rfl
 .have hn:(jO sc X.env).names=aa7 G.sc sc.names:=G3 O
  have key:∀kd,(jO sc X.env).names.lookup x=some kd->cfV (some kd)=true -> ∃c,(Dj X.env.cells sc.names []).lookup x=some c:=λkd hkd hc=>by
   rw[hn] at hkd
   have hm:=bX hkd
   obtain⟨⟨n,k⟩,hy,e⟩:=List.mem_map.mp hm
   dsimp only at e
   have hfree:k=.free/\n=x:=by
    have hkc:=nc _ hy
    by_cases e1:(k==fC&&G.sc.lookup n==some .cell)=true
    .rw[if_pos e1] at e
     rw[a9] at e1
     exact⟨cz e1.1,congrArg mY e⟩
    .rw[if_neg e1] at e
     cases e
     rcases Hh hc with z|z
     .exact absurd (az z) hkc
     .exact⟨az z,rfl⟩
   obtain⟨rfl,rfl⟩:=hfree
   exact al4 (Od hy)
  rcases hx with hx|hx
  .exact key _ hx rfl
  .exact key _ hx rfl
 .unfold Gd Dk
  simp
 .have e1':(Ta sc.names++U9 sc.names)[k]?=some x:=e1
  have e2':((Ta sc.names).map (λ_=>(none:Option Nat))++(U9 sc.names).map (λx=>C2 G.N x 0))[k]?=some (some j):=e2
  by_cases hlt:k<(Ta sc.names).length
  .rw[bq (by simpa using hlt),ak] at e2'
   cases q:(Ta sc.names)[k]? with
   |none=>rw[q] at e2';cases e2'
   |some z=>rw[q] at e2';cases e2'
  .rw[bi (by simpa using hlt)] at e1' 
   rw[bi (by simpa using hlt),ae,ak,e1'] at e2'
   have hs:C2 G.N x 0=some j:=az e2'
   have hx:x∈U9 sc.names:=aj e1'
   obtain⟨⟨_,c1⟩,c2⟩:=h5 x hx
   refine⟨by rw[O.N];exact Ep hs,?_,?_⟩
   .rw[O.sc];exact Hh c1
   .rw[G3 O];exact Hh c2
def X1(O:GOk X G)(h:Fj G sc=true)(fp:List Addr)(C:Addr)(s:aw)(H:Hp)(xe:Value->aw->Prop) :
  GOk (X.comp (Dk G sc.names).N sc (Dj X.env.cells sc.names []) fp C s H xe) (Dk G sc.names):=by
 have S:=Pw O h
 unfold Fj at h
 simp only[a9,bj,ji,decide_eq_true_eq,cS] at h
 obtain⟨⟨⟨⟨⟨h1,h2⟩,h3⟩,h4⟩,h5⟩,h6⟩:=h
 have hn:(jO sc X.env).names=aa7 G.sc sc.names:=G3 O
 refine⟨O.K,cz h3,(λz=>by cases z),rfl,h4,λx=>?_,λx hx=>?_,λz=>(by cases z),O.calm,O.hd,O.units,λx hx=>S.has x hx,λx g e=>?_,O.bl,λz=>(by cases z),O.fr⟩
 .show (jO sc X.env).names.lookup x=_
  rw[hn]
  rfl
 .show Vis (jO sc X.env) x
  unfold Vis
  rw[hn]
  rcases List.mem_append.mp hx with q|q
  .exact .inl (cz (h6 x q))
  .exact .inr (Hh (h5 x q).2)
 .refine GBOk.to ?_ ?_ ?_ ?_ ?_ ?_ (O.gb x g e)
  .rfl
  .rfl
  .rfl
  .rfl
  .exact λ_ r=>r
  .exact λi F=>⟨F.kp,F.ok,F.room,F.binds,F.vals⟩
end
def Lk:St->Hp->(Option Int->Hp->Prop)->EK->Prop:=λ_ H Q _=>Q none H
def R6(a:DE):St->Hp->(Option Int->Hp->Prop)->EK->Prop:=λσ H Q E=>a σ H (λx H1=>match x with
 |.int i=>Q (some i) H1
 |_=>False) E
abbrev DO:=St->Hp->(Option Int->Hp->Prop)->EK->Prop
def cb6(K:ac):V->Option Int->Option Int->Hp->VK->Prop:=λx lo hi H Q=>match x with
 |.str z=>z.length<=sizeLine/\Q (.str (Txt.slice z lo hi)) H
 |_=>False
noncomputable def dSl(K:ac)(a:DE)(l h:DO):DE:=λσ H Q E=>a σ H (λx H1=>l σ H1 (λlo H2=>h σ H2 (λhi H3=>cb6 K x lo hi H3 Q) E) E) E
def QO(X:Cx)(e:Option Expr)(t:DO):Prop:=∀Ex,Meets X Ex->PO X e (λσ H Q=>t σ H Q (Ex σ))
section
variable {X:Cx}{G:Sg}{e:Expr}{de:DE}{lo hi:Option Expr}{dl dh:DO}{pos p2:Pos}
def Yk:QO X none Lk:=λ_ _=>a40
def Yl(h:QE X e de):QO X (some e) (R6 de):=by
 intro Ex m ξ s σ H Q I hw
 rw[evalPart_some]
 refine thn (h Ex m ξ s σ H _ I hw) λu s1 ⟨x,H1,I1,r1,q1⟩=>?_
 cases x with
 |int i=>obtain⟨t,rfl⟩:=r1;exact⟨some i,H1,I1,.int i t,q1⟩
 |_=>exact(q1).elim
def Qi(e:Expr)(z:Str)(t:Tok)(r:Value):letTemporaryGo e (.str z t) r=pure ():=by
 cases e <;> rfl
def aq0(he:QE X e de)(hl:QO X lo dl)(hh:QO X hi dh):QE X (.Subscript e (.Slice lo hi none p2) pos) (dSl X.K de dl dh):=by
 intro Ex m ξ s σ H Q I h
 refine Subscript_ (thn (he Ex m ξ s σ H _ I h) λv s1 ⟨x,H1,I1,r1,q1⟩=>?_)
 refine wpAny_Slice (thn (hl Ex m ξ s1 σ H1 _ I1 q1) λvl s2 ⟨l,H2,I2,pl,q2⟩=>thn (hh Ex m ξ s2 σ H2 _ I2 q2) λvu s3 ⟨u,H3,I3,pu,q3⟩=>?_)
 rw[evalPart_none]
 refine am ?_
 have I4:Inv X ξ σ H3 {s3 with heap:=s3.heap.push {cls:=.type "slice", data:=.fields #[vl,vu,.none]}}:=I3.kept λb ob q=>ah _ q
 cases x with
 |str z=>
  obtain⟨hz,q⟩:=q3
  obtain⟨t,rfl⟩:=r1
  have hk:KeptH (λh=>Inv X ξ σ H3 {s3 with heap:=h}):=λh ob J=>J.kept λb o eb=>ah _ eb
  have fin:∀h' t' k,Inv X ξ σ H3 {s3 with heap:=h'}->(λa s'=>s3.toks<=s'.toks->EP X ξ σ Q a s') (.str (Txt.slice z l u) t') {s3 with heap:=h',toks:=k}:=λh' t' k J htk=>⟨.str _,H3,J.tok k htk,⟨_,rfl⟩,q⟩
  refine bG (ag _) ?_
  cases pl with
  |none=>
   cases pu with
   |none=>exact jd (SBH.sliceItem_nn hk I3 fin hz) (by with_unfolding_all rfl) (Qi e z t)
   |int j uj=>exact jd (SBH.sliceItem_ns hk I3 fin hz) (by with_unfolding_all rfl) (Qi e z t)
  |int i ui=>
   cases pu with
   |none=>exact jd (SBH.sliceItem_sn hk I3 fin hz) (by with_unfolding_all rfl) (Qi e z t)
   |int j uj=>exact jd (SBH.sliceItem_ss hk I3 fin hz) (by with_unfolding_all rfl) (Qi e z t)
 |_=>exact(q3).elim
def Me:Expr->Bool
 |.Set _ _ _=>false
 |_=>true
def Mf(h:Me e=true)(env:Env)(x:Value):gu e env x=pure x:=by
 cases e with
 |Set _ _ _=>cases h
 |_=>rfl
def Hv:Meets X (λ_ _ _=>False):=λ_ _ _ _ _ _ _ h=>h.elim
variable {tg iter elt:Expr}{ifs:List Expr}{sc:Scope}{wi:DI}{g:DG}{tc:DT}
def Vr(G:Sg)(x:Str):Bool:=(G.sc.lookup x==some .local)||(G.top&&(G.sc.lookup x==some .cell))
noncomputable def wG:Nat->Sg->Expr->DG
 |0,_,_=>gNo
 | n+1,G,e=>match e with
  | .Name x _=>match C2 G.N x 0 with
   |some i=>if Vr G x=true then gdN i else gNo
   |none=>gNo
  |.Tuple ts _ _=>if G.calm=true/\ts.all noStar=true then gdT G.K ts.length (ts.map (wG n G)) else gNo
  |_=>gNo
def Qk(O:GOk X G)(h:Vr G x=true):Loc X.env.scope x/\(X.fn x=true\/X.env.scope.names.lookup x=some .local):=by
 unfold Vr at h
 rw[cS,a9] at h
 rcases h with h|⟨h1,h2⟩
 .have:X.env.scope.names.lookup x=some .local:=by rw[O.sc];exact cz h
  exact⟨.inl this,.inr this⟩
 .have:X.env.scope.names.lookup x=some .cell:=by rw[O.sc];exact cz h2
  exact⟨.inr this,.inl (O.top h1 x)⟩
def Fc(h:noStar e=true)(es:List Expr)(env:Env):dy (e::es) env=(false,mW e env)::dy es env:=by
 cases e with
 |Starred _ _=>cases h
 |_=>rfl
def Lh(h:es.all noStar=true)(env:Env):(dy es env).length=es.length/\(dy es env).findIdx? (·.1)=none:=by
 induction es with
 |nil=>exact⟨rfl,rfl⟩
 |cons e es ih=>
  rw[cb,a9] at h
  obtain⟨h1,h2⟩:=ih h.2
  rw[Fc h.1]
  refine⟨by rw[aK,aK,h1],?_⟩
  rw[List.findIdx?_cons,h2]
  rfl
theorem Ul:∀n X G,GOk X G -> ∀e,PG X e (wG n G e)
 |0,_,_,_,_=>Tl
 | n+1,X,G,O,e=>by
  cases e with
  |Name x p=>
   unfold wG
   dsimp only
   split
   .rename_i i e
    split
    .rename_i h
     obtain⟨h1,h2⟩:=Qk O h
     exact a38 (by rw[O.N];exact O.nd) (by rw[O.N];exact Ep e) h1 h2
    .exact Tl
   .exact Tl
  |Tuple ts k p=>
   unfold wG
   dsimp only
   split
   .rename_i h
    obtain⟨h1,h2⟩:=h
    obtain⟨h3,h4⟩:=Lh h2 X.env
    rw[<- O.K]
    refine cb1 (O.calm▸h1) ?_ h3 h4
    clear h3 h4
    induction ts with
    |nil=>exact b31
    |cons t ts ih=>
     rw[cb,a9] at h2
     refine b30 (Ul n X G O t) (ih h2.2) ?_
     rw[Fc h2.1]
     rfl
   .exact Tl
  |_=>exact Tl
end
end L2
namespace L2
open PySem PySem.Spec
structure Xm (l:List Addr) (e C:Addr) (dx:Option Addr) (h h':Heap):Prop where
 exc:∃(vs':Array Value)(T:Addr)(oT:Obj)(ts':Array Value),h'.get? e=some (As C dx vs')/\vs'.size=6/\vs'[1]?=some (.ref T)/\h.objs.size<=T/\T≠e/\h'.get? T=some oT/\oT.data=.fields ts'/\3<ts'.size/\∀vs,h.get? e=some (As C dx vs)->vs'[2]?=vs[2]?
 keep:∀b o,b≠e->b∉l->h.get? b=some o->h'.get? b=some o
 slot:∀b o,b≠e->h.get? b=some o -> ∃sl,h'.get? b=some {o with slots:=sl}
abbrev tbO(fs:Array Value):Obj:={cls:=.type "traceback", dict:=none,data:=.fields fs}
abbrev Mb(T:Addr):Obj->Obj:=fE (·.setIfInBounds 1 (.ref T))
abbrev Kv(h:Heap)(e:Addr)(fs:Array Value):Heap:=(h.push (tbO fs)).update e (Mb h.objs.size)
section
variable {h:Heap}{e C:Addr}{dx:Option Addr}{vs fs:Array Value}
def apart(q:h.get? e=some (As C dx vs)):h.objs.size≠e:=fj (aG q)
def Sz(T:Addr):(Mb T (As C dx vs)).data=.fields (vs.setIfInBounds 1 (.ref T)):=rfl
def U4(q:h.get? e=some (As C dx vs)):(Kv h e fs).get? e=some (As C dx (vs.setIfInBounds 1 (.ref h.objs.size))):=
 dX (Mb h.objs.size) (ah (tbO fs) q) (iq (Sz h.objs.size))
def U5(q:h.get? e=some (As C dx vs)):(Kv h e fs).get? h.objs.size=some (tbO fs):=
 (bZ (h.push (tbO fs)) (Mb h.objs.size) (apart q).symm).trans (aE h rfl)
def J4(ne:b≠e)(q:h.get? b=some o):(Kv h e fs).get? b=some o:=
 (bZ (h.push (tbO fs)) (Mb h.objs.size) ne.symm).trans (ah (tbO fs) q)
def Vi(hz:h.objs.size=h0.objs.size)(k1:∀b,b∉l->h.get? b=h0.get? b)(k2:∀b o,h0.get? b=some o -> ∃sl,h.get? b=some {o with slots:=sl})(q:h.get? e=some (As C dx vs))(hs:vs.size=6)(hf:3<fs.size) :
  Xm l e C dx h0 (Kv h e fs) where
 exc:=⟨_,h.objs.size,_,_,U4 q,by rw[Array.size_setIfInBounds];exact hs,fO (by omega),by omega,apart q,U5 q,rfl,hf,λvs0 q0=>by
  obtain⟨sl,z⟩:=k2 e _ q0
  rw[q] at z
  cases z
  exact Array.getElem?_setIfInBounds_ne (by decide)⟩
 keep:=λb o ne nl hb=>J4 ne ((k1 b nl).trans hb)
 slot:=λb o ne hb=>let⟨sl,z⟩:=k2 b o hb;⟨sl,J4 ne z⟩
end
section
variable {M:Model}{A:bF}{E:Value->aw->Prop}{s:aw}{base:Heap}{env:Env}{outer:List Env}{L e C:Addr}{dx:Option Addr}{vs:Array Value}{Q:Unit->aw->Prop}
def Z2(hfr:A.frames=some (env0::outer))(hl:s.heap.FunFrames base (env0::outer))(h0:env0.frame=some L)(hf:env.frame=some L)(q:s.heap.get? e=some (As C dx vs))(hs:vs.size=6)(k:∀h',Xm (frs (env0::outer)) e C dx s.heap h'->Q () {s with heap:=h'}) :
  aR M A ((mZ env >>= λa=>entryPlaceOf L hadNext >>= λpl=>lC head a .none (eY L) .none pl >>= λb=>my (.ref e) 1 b)) Q E s:=by
 have off:e∉frs (env0::outer):=λz=>by
  obtain⟨_,o,z1,z2⟩:=hl.mem z
  rw[q] at z1
  cases z1
  exact z2 vs rfl
 have fe:mZ env=mZ env0:=by unfold mZ;rw[hf,h0]
 rw[fe]
 refine af (wpAny_frameOf_fun hfr hl h0 λh1 ⟨a1,a2,a3⟩=>af (wpAny_entryPlaceOf λpl hpl=>?_))
 refine af (dI ?_ (hpl.sizeOk5 _ _ _ _ _))
 have q1:=(a2 e off).trans q
 have lt:3<([head,.ref L,.none,eY L,.none]++(if pl.isEmpty then i8 6 bI else pl)).toArray.size:=by rw[ax,aI];simp only[aK,j7];omega
 generalize ([head,.ref L,.none,eY L,.none]++(if pl.isEmpty then i8 6 bI else pl)).toArray=fs at lt ⊢
 exact gH (ah (tbO fs) q1) rfl (show 1<vs.size by omega) (k _ (Vi a1 a2 a3 q1 hs lt))
end
open PyProof.Rows
open Sem (wp)
def bv2(n:Nat)(a:Addr)(H':Hp)(s':aw):Prop:=
 ∃C dx vs T oT ts,FlO H' a C dx/\s'.heap.get? a=some (As C dx vs)/\vs.size=6/\vs[1]?=some (.ref T)/\T≠a/\s'.heap.get? T=some oT/\oT.data=.fields ts/\ts[3]?=some .none/\n<=T/\H' T=none
noncomputable def CXE(P:aW)(w:bC):CXT:=λouter H s E e s'=>
 ∃a H',e=.ref a/\(s'.os=s.os/\s.toks<=s'.toks)/\j2 s'.gens/\Un (frs outer) [] H H' s.heap s'.heap/\HOk P w H' s'.heap/\bv2 s.heap.objs.size a H' s'/\E e none H'
section
variable {X:Cx}{ξ:List (Addr×Obj)}{σ:St}{H:Hp}{s:aw}{a C:Addr}{dx:Option Addr}{h':Heap}
def a12(I:Inv X ξ σ H s)(ea:FlO H a C dx)(L:Xm (frs X.stack) a C dx s.heap h'):Un (frs X.stack) [] H H s.heap h' where
 keep:=λb o q n hb _=>L.keep b o (λz=>by rw[z] at n;rcases ea with ea|ea <;> (rw[ea] at n;cases n)) hb q
 slot:=λb o q n _ _=>L.slot b o (λz=>by rw[z] at n;rcases ea with ea|ea <;> (rw[ea] at n;cases n)) q
 free:=λb o _ n _=>n
 there:=λb o q _=>by
  by_cases hb:b=a
  .obtain⟨vs',T,oT,ts',h1,_⟩:=L.exc
   exact⟨_,by rw[hb];exact h1⟩
  .obtain⟨sl,h1⟩:=L.slot b o hb q
   exact⟨_,h1⟩
 tups:=λ_ _ e=>e
 frzs:=λ_ _ _ e=>e
 tbls:=λb ps e=>⟨#[],by rw[e];simp⟩
def a11(I:Inv X ξ σ H s)(ea:FlO H a C dx)(L:Xm (frs X.stack) a C dx s.heap h'):HOk X.prog X.w H h':=λb o e=>by
 by_cases hb:b=a
 .subst hb
  obtain⟨vs',T,oT,ts',h1,h2,_,_,_,_,_,_,hc⟩:=L.exc
  rcases ea with ea|ea
  .obtain⟨vs,g1,_,g3⟩:=ba3 I ea
   rw[ea] at e
   cases e
   exact aj0 h1 h2 ((hc vs g1).trans g3)
  .rw[ea] at e
   cases e
   exact bh0 h1 h2
 .refine (I.hok b o e).stay (λc u hc q=>L.keep c u ?_ ?_ q) (λ_ q=>q) λ_ _ q=>q
  .rcases hc with rfl|hc
   .exact hb
   .rintro rfl
    rcases ea with ea|ea <;> (rw[ea] at hc;cases hc)
  .intro hm
   have n:=I.stkFree c hm
   rcases hc with rfl|hc
   .rw[n] at e;cases e
   .rw[n] at hc;cases hc
end
end L2
namespace L2
open PySem PySem.Spec PyProof.Rows
open Sem (wp)
section
variable {X:Cx}{ξ:List (Addr×Obj)}{σ:St}{H:Hp}{s:aw}{a:Addr}{E:Value->aw->Prop}{Q:Unit->aw->Prop}
def FlyT(X:Cx)(ξ:List (Addr×Obj))(H:Hp)(a:Addr)(s:aw)(z:Value):Prop:=
 ∃C dx vs T oT ts,FlO H a C dx/\s.heap.get? a=some (As C dx vs)/\vs.size=6/\vs[1]?=some (.ref T)/\T≠a/\s.heap.get? T=some oT/\oT.data=.fields ts/\ts[3]?=some z/\Cz X ξ H T
def FlyT.at(F:FlyT X ξ H a s z):G9 X ξ H a s:=by
 obtain⟨C,dx,vs,T,oT,ts,h1,h2,h3,q1,q2,q3,q4,q5,q6⟩:=F
 exact⟨C,dx,vs,h1,h2,h3,.inr ⟨T,oT,ts,q1,q2,q3,q4,⟨z,q5⟩,q6⟩⟩
def b44(I:Inv X ξ σ H s)(h1:FlO H a C dx)(h2:s.heap.get? a=some (As C dx vs))(h3:vs.size=6)(q1:vs[1]?=some (.ref T))(q2:T≠a)(q3:s.heap.get? T=some oT)(q4:oT.data=.fields ts)(q5:ts[3]?=some y)(q6:Cz X ξ H T)(v:Value) :
  Inv X ξ σ H {s with heap:=s.heap.update T (fE (·.setIfInBounds 3 v))}/\FlyT X ξ H a {s with heap:=s.heap.update T (fE (·.setIfInBounds 3 v))} v/\(s.heap.update T (fE (·.setIfInBounds 3 v))).get? a=some (As C dx vs):=by
 have ha:(s.heap.update T (fE (·.setIfInBounds 3 v))).get? a=some (As C dx vs):=(bZ _ _ q2).trans h2
 obtain⟨c0,d0,dt0,sl0⟩:=oT
 cases(q4)
 have hT:(s.heap.update T (fE (·.setIfInBounds 3 v))).get? T=some ⟨c0,d0,.fields (ts.setIfInBounds 3 v),sl0⟩:=dX _ q3 (iq rfl)
 exact⟨I.turned (λb o ne e=>(bZ _ _ (cg ne)).trans e) q6.1 q6.2.1 q6.2.2.2.1 q6.2.2.2.2.1 q6.2.2.2.2.2,⟨C,dx,vs,T,_,_,h1,ha,h3,q1,q2,hT,rfl,fO (Array.getElem?_eq_some_iff.mp q5).1,q6⟩,ha⟩
def ar7(I:Inv X ξ σ H s)(F:FlyT X ξ H a s z)(h:∀s',Inv X ξ σ H s'->FlyT X ξ H a s' (fr.elim .none λf=>eY f)->Q () s'):aR (model X.prog X.w) A (mQ (.ref a) fr) Q E s:=by
 obtain⟨C,dx,vs,T,oT,ts,h1,h2,h3,q1,q2,q3,q4,q5,q6⟩:=F
 obtain⟨I',F',_⟩:=b44 I h1 h2 h3 q1 q2 q3 q4 q5 q6 (fr.elim .none λf=>eY f)
 refine af (gO h2 rfl q1 ?_)
 rw[if_pos (by simp)]
 exact gH q3 q4 (Array.getElem?_eq_some_iff.mp q5).1 (h _ I' F')
def bb2(I:Inv X ξ σ H s)(hs:X.stack=e0::o0)(h0:e0.frame=some L)(hf:env.frame=some L)(F:G9 X ξ H a s)(h:∀s' z,Inv X ξ σ H s'->FlyT X ξ H a s' z->Q () s') :
  aR (model X.prog X.w) X.A (mL (.ref a) env) Q E s:=by
 obtain⟨C,dx,vs,h1,h2,h3,h4⟩:=F
 have fr:=hs▸I.ok.frames
 have new:∀{s1} {head} {hadNext},Inv X ξ σ H s1->s1.heap.get? a=some (As C dx vs)->aR (model X.prog X.w) X.A ((mZ env >>= λy=>entryPlaceOf L hadNext >>= λpl=>lC head y .none (eY L) .none pl >>= λb=>my (.ref a) 1 b)) Q E s1:=λ{s1 head hadNext} I1 q=>by
  have fn:=hs▸I1.stack
  refine Z2 fr fn h0 hf q h3 λh' L=>?_
  rw[<- hs] at L
  have I':=I1.call (d':=s1.drawn) (a12 I1 h1 L) (a11 I1 h1 L) I1.bare (λb z=>absurd z (by simp))
  obtain⟨vs',T,oT,ts',a1,a2,a3,a4,a5,a6,a7,a8,_⟩:=L.exc
  exact h _ _ I' ⟨C,dx,vs',T,oT,ts',h1,a1,a2,a3,a5,a6,a7,d_ a8,I1.fpOk a4 (I1.hok.fresh a4)⟩
 unfold mL
 simp only[hf]
 rcases h4 with c|⟨T,oT,ts,c,ne,hT,hd,⟨z,hz⟩,fp⟩
 .refine af (gO h2 rfl c ?_)
  rw[if_neg (by decide)]
  exact new I h2
 .refine af (gO h2 rfl c ?_)
  rw[if_pos (by simp)]
  refine af (gO hT hd hz ?_)
  by_cases e:(z==eY L)=true
  .rw[if_pos e]
   exact am (h s z I ⟨C,dx,vs,T,oT,ts,h1,h2,h3,c,ne,hT,hd,hz,fp⟩)
  .rw[if_neg e]
   obtain⟨I',_,ha⟩:=b44 I h1 h2 h3 c ne hT hd hz fp .none
   exact af (gH hT hd (Array.getElem?_eq_some_iff.mp hz).1 (new I' ha))
def Yd(I:Inv X ξ σ H s)(hs:X.stack=X.env::X.outer)(hf:X.env.frame=some X.env.locals)(F:G9 X ξ H a s)(h:∀s',Inv X ξ σ H s'->FlyT X ξ H a s' .none->Q () s') :
  aR (model X.prog X.w) X.A (mL (.ref a) X.env) (λ_ s1=>aR (model X.prog X.w) X.A (mQ (.ref a) none) Q E s1) E s:=
 bb2 I hs hf hf F λs1 z I1 F1=>ar7 I1 F1 h
def Ol(I:Inv X ξ σ H s)(F:G9 X ξ H a s)(h:∀s',Inv X ξ σ H s'->G9 X ξ H a s'->Q () s'):aR (model X.prog X.w) A (mQ (.ref a) none) Q E s:=by
 obtain⟨C,dx,vs,h1,h2,h3,h4⟩:=F
 rcases h4 with h4|⟨T,oT,ts,q1,q2,q3,q4,⟨z,q5⟩,q6⟩
 .refine af (gO h2 rfl h4 ?_)
  rw[if_neg (by decide)]
  exact am (h s I ⟨C,dx,vs,h1,h2,h3,.inl h4⟩)
 .exact ar7 I ⟨C,dx,vs,T,oT,ts,h1,h2,h3,q1,q2,q3,q4,q5,q6⟩ λs' I' F'=>h s' I' F'.at
end
section
variable {prog:aW}{w:bC}{A:bF}{E:Value->aw->Prop}{s:aw}{K:ac}{a C D:Addr}{dx:Option Addr}{vs:Array Value}{b:Bool}{Q:Bool->aw->Prop}
open PySem.W in
def Vm(X:K.In s.heap)(c:ECls K C)(d:ECls K D)(ha:s.heap.get? a=some (As C dx vs))(m:mroIn K C (.ref D)=some b)(h:Q b s) :
  aR (model prog w) A (excMatches (.ref a) (.ref D)) Q E s:=by
 obtain⟨nm,qn,N,bs,bm,hdct,sn,sub,ab,col,dd,k0,k1,k2,k3,k5,hl,ht,hd⟩:=c.obj
 obtain⟨nm',qn',N',bs',bm',hdct',sn',sub',ab',col',dd',k0',k1',k2',k3',k5',hl',ht',hd'⟩:=d.obj
 have hC:=X _ _ hl
 have hD:=X _ _ hl'
 have hcB:(aX D::bm').contains (.type "BaseException")=true:=by rw[bQ,Cb ht' (show valTail.contains (.type "BaseException")=true by decide +kernel),fQ]
 have hcD:(aX C::bm).contains (.ref D)=b:=by
  unfold mroIn at m
  obtain⟨cd,e,em⟩:∃cd,mI K C=some cd/\cd.mro=.ref C::bm:=⟨_,by unfold mI;rw[hl],rfl⟩
  rw[e,cL,em] at m
  exact az m
 have f:=tc_notTuple
 obtain⟨hp,g,dr,tk,os⟩:=s
 repeat (first|with_reducible refine bL ha ?_|with_reducible refine bL hD ?_|(with_reducible refine cO hD ?_;rw[hcB])|(with_reducible refine cO hC ?_;rw[hcD])|wp_step)
 cases b <;> (wp_walk;exact h)
end
end L2
namespace L2
open PySem PySem.Spec PyProof.Rows
section
variable {X:Cx}{G:Sg}{elt tg iter:Expr}{ifs:List Expr}{sc:Scope}{wi:DI}{g:DG}{tc:DT}{de:DE}{pos:Pos}
def bw9(I2:Inv X ξ σ H2 s2)(f2:∀b∈fp,Cz X ξ H2 b)(F:Cz (X.comp N' sc cl fp C s2 H2 xe) pins' H' T):Cz X ξ H' T:=by
 obtain⟨r1,r2,r3,r4,r5,r6⟩:=F
 rcases r4 with r4|r4
 .exact⟨r1,(f2 T r4).2⟩
 .exact I2.fpOk r4 r1
def Mc(m:Meets X Ex)(fr:FrH X)(I2:Inv X ξ σ H2 s2)(f2:∀b∈fp,Cz X ξ H2 b)(hC:s2.heap.objs.size<=C):Meets (X.comp N' sc cl fp C s2 H2 (Bs X sc cl us Q2 D C)) (λ_ a H'=>Ex σ a H'):=by
 intro pins' σ' H' s' a I' F' hE
 obtain⟨e0,o0,L,f1,f3,f4⟩:=fr
 refine bb2 (X:=X.comp N' sc cl fp C s2 H2 (Bs X sc cl us Q2 D C)) I' f1 f3 f4 F' λs3 z I3 F3=>?_
 obtain⟨mm,hn,_⟩:=I3.loc
 refine⟨mm,hn,λh' sb cenv hce=>?_⟩
 have I4:=I2.call' I3.os I3.base I3.hok I3.bare λb hb=>⟨(f2 b hb).2.2.2.1,(f2 b hb).2.1,(f2 b hb).2.2.2.2.1,(f2 b hb).2.2.2.2.2⟩
 have fo:=I2.fpOk hC I3.free
 obtain⟨g0,g1,g2,g3,g4,g5⟩:=fo
 have I5:=I4.turned (λb o hb e=>(sb.2 b hb).trans e) g0 g1 g3 g4 g5
 obtain⟨C0,dx,vs,T,oT,ts,h1,h2,h3,q1,q2,q3,q4,q5,q6⟩:=F3
 have na:a≠C:=λz=>by rcases h1 with h1|h1 <;> (rw[z,g0] at h1;cases h1)
 have nT:=q6.2.1
 have F5:FlyT X ξ H' a {s3 with heap:=h'} z:=⟨C0,dx,vs,T,oT,ts,h1,(sb.2 a na).trans h2,h3,q1,q2,(sb.2 T nT).trans q3,q4,q5,bw9 I2 f2 q6⟩
 refine af (gO ((sb.2 a na).trans h2) rfl q1 ?_)
 rw[if_neg (by simp)]
 exact af (ar7 I5 F5 λs6 I6 F6=>(mT (m ξ σ H' s6 a I6 F6.at hE)))
def ay8(X:Cx)(ifs:List Expr)(t:DT):Prop:=∀Ex,Meets X Ex->Y6 X ifs (λσ H Q=>t σ H Q (Ex σ))
def Tn:ay8 X [] Cg:=λ_ _=>ao6
def To(h:QT X c t):ay8 X [c] t:=λEx m=>ao7 (h Ex m)
def Yi(O:GOk X G)(hc:X.calm=true)(hk:Fj G sc=true)(hs:Me iter=true)(hi:QI X tg iter wi)(hg:∀X',GOk X' (Dk G sc.names)->PG X' tg g)(ht:∀X',GOk X' (Dk G sc.names)->ay8 X' ifs tc)(he:∀X',GOk X' (Dk G sc.names)->QE X' elt de) :
  QE X (.ListComp elt [⟨tg,iter,ifs,0⟩] sc pos) (Bg (Gd G sc.names) wi g tc de):=by
 intro Ex m ξ s σ H Q I h
 exact ai1 hc (Pw O hk) (hi Ex m) (λQ2 fp C D s2 H2 I2 f2 hC=>
  have M:=Mc (Q2:=Q2) m O.fr I2 f2 hC
  have K:=X1 O hk fp C s2 H2 (Bs X sc (Dj X.env.cells sc.names []) none Q2 D C)
  ⟨hg _ K,ht _ K _ M,he _ K _ M⟩) I h (λx=>Mf hs X.env x)
end
noncomputable def Xy(K:ac)(op:BoolOp):List DE->DE
 |[]=>dNo
 |[a]=>a
 | a::r=>match op with
  |.And=>Lj K a (Xy K op r)
  |.Or=>bw4 K a (Xy K op r)
noncomputable def Xx(op:BoolOp):List DT->DT
 |[]=>λ_ _ _ _=>False
 |[a]=>a
 | a::r=>match op with
  |.And=>Kb a (Xx op r)
  |.Or=>dOr a (Xx op r)
noncomputable def tNo:DT:=λ_ _ _ _=>False
noncomputable def Ro(G:Sg)(ops:List mU)(bs:List Expr)(a:DE)(ds:List DE):DE:=match ops,bs,ds with
 |[op],[b],[d]=>if g6 op b=false then Ah (Js G.K op) a d else dNo
 |[op,op'],[b,c],[d,d']=>if lW [op,op'] [b,c]=false then Dw (Js G.K op) (Js G.K op') a d d' else dNo
 |_,_,_=>dNo
def exJ(n:Nat)(i:FI):Nat:=min i.dfs.length (n+i.dfs.length-i.ps.length)
def exO(n:Nat):Option FI->Nat
 |none=>0
 |some i=>exJ n i
noncomputable def bd3(G:Sg)(x:Str)(es:List Expr)(ds:List DE):DE:=
 if Lx G x=true/\es.all noStar=true then(match G.gb.lookup x with
  |some (.fn i)=>dFn (spE i.sp (i.dfs.drop (exJ es.length i))) (Dv ds)
  |some (.exc C oi)=>dFn (λvs H Q E=>vs.length<=1000/\mkX C oi (exO (es.length+1) oi) vs H Q E) (Dv ds)
  |some (.cls C oi)=>dFn (mkC C oi (exO (es.length+1) oi)) (Dv ds)
  |some _=>dNo
  | none=>if G.bl.contains x=true then(match bf8 G.K G.calm x with
   |some (_,r)=>if es.isEmpty=true then dNo else dFn (λvs H Q _=>r vs H Q) (Dv ds)
   |none=>dNo) else dNo) else dNo
noncomputable def bd4(G:Sg)(o:Expr)(m:Str)(es:List Expr)(ap cp:Pos)(d:DE)(ds:List DE):DE:=
 if Cw o=true/\es.all noStar=true/\es.length<30/\(ap.endLine==cp.line)=true then(match B9 G.gb m with
  |none=>dMt (rMt G.K (mtR G.K m)) d (Dv ds)
  |some l=>Cd m es.length l d (Dv ds)) else dNo
noncomputable def Og(d:DE):DE:=λσ H Q E=>d σ H (λv H'=>Thaw H H' (Q v)) E
def Yj(h:QE X e d):QE X e (Og d):=λEx mt ξ s σ H Q I q=>
 thn (h Ex mt ξ s σ H _ I q) λv s1 ⟨x,H1,I1,r1,q1⟩=>
  let⟨H2,I2,q2⟩:=Thaw.inv I I1 q1
  ⟨x,H2,I2,r1,q2⟩
noncomputable def thw(e:Expr)(d:DE):DE:=match e with
 |.ListComp _ _ _ _=>Og d
 |_=>d
def Vx(h:QE X e d):QE X e (thw e' d):=by
 cases e' with
 |ListComp=>exact Yj h
 |_=>exact h
inductive Fz where
 |lenSet (a:Expr)|rngList (a:Expr)|srtItems (o:Expr)
noncomputable def fzD(K:ac)(w:Expr->DE):Fz->DE
 |.lenSet a=>dUn (Le K) (w a)
 |.rngList a=>dUn Ml (w a)
 |.srtItems o=>dUn (Jt K) (w o)
def Vd(G:Sg)(x:Str):Bool:=Lx G x&&(G.gb.lookup x).isNone&&G.bl.contains x
def fz1(G:Sg)(x:Str):Expr->Option Fz
 | .Call f as ks cp=>(match f with
  | .Name y _=>(match as with
   | [a]=>if x="len" /\ y="set" /\ ks.isEmpty=true/\Vd G x=true/\Vd G y=true/\noStar a=true/\G.calm=true then some (.lenSet a)
    else if x="list" /\ y="range" /\ ks.isEmpty=true/\Vd G x=true/\Vd G y=true/\noStar a=true/\G.calm=true then some (.rngList a) else none
   |_=>none)
  |.Attribute o m ap=>if x="sorted" /\ m="items" /\ ks.isEmpty=true/\as.isEmpty=true/\Vd G x=true/\Cw o=true/\(ap.endLine==cp.line)=true/\G.calm=true then some (.srtItems o) else none
  |_=>none)
 |_=>none
def aj4(G:Sg)(x:Str):List Expr->Option Fz
 |[a]=>fz1 G x a
 |_=>none
noncomputable def wUn(K:ac)(op:UnaryOp)(d:DE):DE:=match op with
 |.USub=>dUn Tu d
 |.Not=>X3 K d
 |.Invert=>dUn Yn d
 |_=>dNo
noncomputable def wNm(G:Sg)(w:Expr->DE)(x:Str)(es:List Expr):DE:=match aj4 G x es with
 |some z=>fzD G.K w z
 |none=>bd3 G x es (es.map λe=>if x="sum" then thw e (w e) else w e)
noncomputable def wKw(G:Sg)(w:Expr->DE)(x:Str)(a:Expr)(k:Str)(v:Expr):DE:=match v with
 | .Attribute o m _=>if x="sorted" /\ k="key" /\ Lx G x=true/\G.bl.contains x=true/\noStar a=true/\Cw o=true/\G.calm=true then(match Hn G.gb m with
   |some l=>ai2 G.K m l (w a) (w o)
   |none=>dNo) else dNo
 |_=>dNo
mutual
noncomputable def wE:Nat->Sg->Expr->DE
 |0,_,_=>dNo
 | n+1,G,e=>match e with
  |.Constant c _ _=>aw2 c
  |.Name x _=>aw3 G x
  |.BinOp a op b _=>thw b (Ah (rOp G.K op) (wE n G a) (wE n G b))
  |.UnaryOp op a _=>wUn G.K op (wE n G a)
  |.BoolOp op es _=>Xy G.K op (es.map (wE n G))
  |.Compare a ops bs _=>Ro G ops bs (wE n G a) (bs.map (wE n G))
  |.List es _=>if es.all noStar=true then Cf (Dv (es.map (wE n G))) else dNo
  |.Tuple es _ _=>if es.all noStar=true then Dn (Dv (es.map (wE n G))) else dNo
  | .Subscript a b _=>(match b with
   |.Slice lo hi st _=>if st.isNone=true then dSl G.K (wE n G a) (match lo with|none=>Lk|some l=>R6 (wE n G l)) (match hi with|none=>Lk|some h=>R6 (wE n G h)) else dNo
   |b=>Ah (Aw G.K) (wE n G a) (wE n G b))
  |.Attribute o f _=>if Cw o=true then dUn (Bp G.K f) (wE n G o) else dNo
  | .Call f es ks cp=>(match f with
   | .Name x _=>(match ks with
    |[]=>wNm G (wE n G) x es
    | [⟨some k,v,_⟩]=>(match es with
     |[a]=>wKw G (wE n G) x a k v
     |_=>dNo)
    |_=>dNo)
   |.Attribute o m ap=>if ks.isEmpty=true then bd4 G o m es ap cp (wE n G o) (es.map (wE n G)) else dNo
   |_=>dNo)
  |.Dict ks vs _=>if ks.isEmpty=true/\vs.isEmpty=true then Dd else dNo
  | .ListComp elt gs sc _=>(match gs with
   | [⟨tg,iter,ifs,a⟩]=>if a=0/\G.calm=true/\Fj G sc=true/\Me iter=true then
    Bg (Gd G sc.names) (wI n G tg iter) (wG n (Dk G sc.names) tg) (match ifs with | []=>Cg | [c]=>wT n (Dk G sc.names) c|_=>tNo) (wE n (Dk G sc.names) elt) else dNo
   |_=>dNo)
  |_=>dNo
noncomputable def wT:Nat->Sg->Expr->DT
 |0,_,_=>tNo
 | n+1,G,e=>match e with
  | .UnaryOp op a p=>(match op with
   |.Not=>Ff (wT n G a)
   |op=>De G.K (wE n G (.UnaryOp op a p)))
  |.BoolOp op es _=>Xx op (es.map (wT n G))
  |.Compare a ops bs _=>Bb (Ro G ops bs (thw a (wE n G a)) (bs.map λe=>thw e (wE n G e)))
  |.IfExp _ _ _ _=>tNo
  |e=>De G.K (wE n G e)
noncomputable def wI:Nat->Sg->Expr->Expr->DI
 |0,_,_,_=>iNo
 | n+1,G,tg,e=>match e with
  | .Call f es ks p=>(match f with
   | .Name x q=>(match es with
    | a::es=>if ks.isEmpty=true/\Lx G x=true/\G.bl.contains x=true/\(a::es).all noStar=true then
      (if x="range" then Gq (Dv ((a::es).map (wE n G)))
      else if x="enumerate" then(match tg with
       |.Tuple _ _ _=>iEn G.K (Dv ((a::es).map (wE n G)))
       |_=>iNo)
      else if x="reversed" /\ es.isEmpty=true then ak1 G.K (wE n G a)
      else Bj G.K (wE n G (.Call (.Name x q) (a::es) ks p)))
     else Bj G.K (wE n G (.Call (.Name x q) (a::es) ks p))
    |[]=>Bj G.K (wE n G (.Call (.Name x q) [] ks p)))
   |f=>Bj G.K (wE n G (.Call f es ks p)))
  |.ListComp a b c d=>Bj G.K (Og (wE n G (.ListComp a b c d)))
  |e=>Bj G.K (wE n G e)
end
def bc0:QT X e tNo:=λ_ _ _ _ _ _ _ _ h=>h.elim
theorem Qo(h:∀e,QE X e (w e)):∀{es:List Expr},QE X (.BoolOp op es pos) (Xy X.K op (es.map w))
 |[]=>Bv
 |[e]=>br7 (h e)
 | e::e'::es=>by
  cases op with
  |And=>exact bq8 (h e) (Qo h)
  |Or=>exact b38 (h e) (Qo h)
theorem Qp(h:∀e,QT X e (w e)):∀{es:List Expr},QW X (.BoolOp op es pos) (Xx op (es.map w))
 |[]=>λ_ _ _ _ _ _ _ _ _ h=>h.elim
 | [e]=>by
  cases op with
  |And=>exact a61 (h e)
  |Or=>exact bt0 (h e)
 | e::e'::es=>by
  cases op with
  |And=>exact bs9 (h e) (Qp h)
  |Or=>exact b40 (h e) (Qp h)
section
variable {X:Cx}{G:Sg}
def E8{c:Prop} [Decidable c](h:c->QE X e d):QE X e (if c then d else dNo):=by
 by_cases z:c
 .rw[if_pos z];exact h z
 .rw[if_neg z];exact Bv
def X0{P:List mU->List Expr->DE->Prop}{w:Expr->DE}(a:Expr)(h1:∀op b,g6 op b=false->P [op] [b] (Ah (Js G.K op) (w a) (w b)))(h2:∀op op' b c,lW [op,op'] [b,c]=false->P [op,op'] [b,c] (Dw (Js G.K op) (Js G.K op') (w a) (w b) (w c)))(h0:∀ops bs,P ops bs dNo)(ops:List mU)(bs:List Expr):P ops bs (Ro G ops bs (w a) (bs.map w)):=by
 rcases ops with _|⟨op,_|⟨op',_|_⟩⟩ <;> rcases bs with _|⟨b,_|⟨c,_|_⟩⟩ <;> try exact h0 _ _
 .exact dite (g6 op b=false) (λz=>by rw[show Ro G [op] [b] (w a) ([b].map w)=_ from if_pos z];exact h1 op b z) λz=>by rw[show Ro G [op] [b] (w a) ([b].map w)=_ from if_neg z];exact h0 _ _
 .exact dite (lW [op,op'] [b,c]=false) (λz=>by rw[show Ro G [op,op'] [b,c] (w a) ([b,c].map w)=_ from if_pos z];exact h2 op op' b c z) λz=>by rw[show Ro G [op,op'] [b,c] (w a) ([b,c].map w)=_ from if_neg z];exact h0 _ _
def a50(O:GOk X G)(h:∀e,QE X e (w e))(a:Expr)(ops:List mU)(bs:List Expr)(pos:Pos):QE X (.Compare a ops bs pos) (Ro G ops bs (w a) (bs.map w)):=
 X0 (P:=λops bs d=>QE X (.Compare a ops bs pos) d) a (λop b z=>by rw[<- O.K];exact br1 O.units op (h a) (h b) z) (λop op' b c z=>by rw[<- O.K];exact ap6 O.units op op' (h a) (h b) (h c) z) (λ_ _=>Bv) ops bs
def a60(O:GOk X G)(h:∀e,QE X e (w e))(a:Expr)(ops:List mU)(bs:List Expr)(pos:Pos):QT X (.Compare a ops bs pos) (Bb (Ro G ops bs (w a) (bs.map w))):=
 X0 (P:=λops bs d=>QT X (.Compare a ops bs pos) (Bb d)) a (λop b z=>by rw[<- O.K];exact bs7 O.units op (h a) (h b) z) (λop op' b c z=>by rw[<- O.K];exact aq6 O.units op op' (h a) (h b) (h c) z) (λ_ _=>λ_ _ _ _ _ _ _ _ h=>h.elim) ops bs
def ap5(O:GOk X G)(h:∀e,QE X e (w e))(x:Str)(es:List Expr)(p pos:Pos):QE X (.Call (.Name x p) es [] pos) (bd3 G x es (es.map w)):=by
 refine E8 fun⟨hg,hs⟩=>?_
 have dd:=Vf hg
 cases e:G.gb.lookup x with
 |some b=>
  have A:=O.at_ x _ e
  cases b with
  |fn i=>exact ap8 h hs (O.gl hg) dd.1 A.1 A.2.kp λmt I r q=>Yu A.2 (j_ _ _) mt I r q
  |exc C oi=>exact ap8 h hs (O.gl hg) dd.1 A.1 A.2.1 λmt I r q=>a68 A.2.2.1 A.2.2.2 (λi z=>by subst z;exact j_ _ _) mt I r q.1 q.2
  |cls C oi=>exact ap8 h hs (O.gl hg) dd.1 A.1 A.2.1 λmt I r q=>a67 A.2.2 (λi z=>by subst z;exact j_ _ _) mt I r A.2.1 q
  |_=>exact Bv
 |none=>
  refine E8 λhb=>?_
  cases er:bf8 G.K G.calm x with
  |none=>exact Bv
  |some f=>
   obtain⟨f,r⟩:=f
   cases es with
   |nil=>exact Bv
   |cons e es=>
    rw[<- O.K] at er
    obtain⟨b1,b2⟩:=az6 O.units er O.calm
    exact br0 b2 (O.gl hg) (O.bl x hb) b1 (Ea h hs) hs dd.2.2 dd.1
def ap9(O:GOk X G)(h:∀e,QE X e (w e))(o:Expr)(m:Str)(es:List Expr)(ap cp:Pos):QE X (.Call (.Attribute o m ap) es [] cp) (bd4 G o m es ap cp (w o) (es.map w)):=by
 refine E8 fun⟨h1,h2,h3,h4⟩=>?_
 rw[<- O.K]
 cases e:B9 G.gb m with
 |none=>
  cases es with
  |nil=>exact br4 (λb hb=>am0 O.units hb) (h o) h1 h4
  |cons e es=>exact b36 (λb hb=>am0 O.units hb) (h o) (Ea h h2) h1 h2 h3 h4
 |some l=>exact br8 (O.met m l e) h h1 h2 h3 h4
end
def Da(O:GOk X G)(h:Vd G x=true):Gl X x/\X.mg x=none:=by
 unfold Vd at h
 rw[a9,a9] at h
 exact⟨O.gl h.1.1,O.bl _ h.2⟩
def a52(O:GOk X G)(h:∀e,QE X e (w e))(e:aj4 G x es=some z) :
  QE X (.Call (.Name x p) es [] pos) (fzD G.K w z):=by
 rw[<- O.K]
 rcases es with _|⟨f,_|_⟩
 .cases e
 .cases f with
  |Call f as ks cp=>
   cases f with
   |Name y q=>
    rcases as with _|⟨a,_|_⟩
    .cases e
    .refine B3 e (fun⟨e1,e2,h0,h1,h2,h3,h4⟩ ez=>?_) λe=>B3 e (fun⟨e1,e2,h0,h1,h2,h3,h4⟩ ez=>?_) λe=>nomatch e <;> (subst e1 e2 ez;rw[List.isEmpty_iff.mp h0])
     .exact aa3 (O.calm▸h4) (Da O h1).1 (Da O h1).2 (Da O h2).1 (Da O h2).2 (h _) h3
     .exact Vw (O.calm▸h4) (Da O h1).1 (Da O h1).2 (Da O h2).1 (Da O h2).2 (h _) h3
    .cases e
   |Attribute o m ap=>
    refine B3 e (fun⟨e1,e2,h0,h5,h1,h2,h3,h4⟩ ez=>?_) λe=>nomatch e
    subst e1 e2 ez
    rw[List.isEmpty_iff.mp h0,List.isEmpty_iff.mp h5]
    exact Tm (O.calm▸h4) (Da O h1).1 (Da O h1).2 (h _) h2 h3
   |_=>cases e
  |_=>cases e
 .cases e
def b37(O:GOk X G)(h:∀e,QE X e (w e)):QE X (.Call (.Name x p) es [] pos) (wNm G w x es):=by
 unfold wNm
 split
 .exact a52 O h ‹_›
 ·(refine ap5 O ?_ _ _ _ _;exact λe=>by split <;> first|exact Vx (h e)|exact h e)
def b35(O:GOk X G)(h:∀e,QE X e (w e)):QE X (.Call (.Name x p) [a] [⟨some k,v,q⟩] pos) (wKw G w x a k v):=by
 cases v with
 |Attribute o m ap=>
  refine E8 λhh=>?_
  obtain⟨rfl,rfl,h1,h2,h3,h4,h5⟩:=hh
  split
  .rename_i l el
   obtain⟨k,hk⟩:=Fo el
   rw[<- O.K]
   exact a54 (O.calm▸h5) (O.gb _ _ hk) (O.gl h1) (O.bl _ h2) (h _) (h _) h3 h4
  .exact Bv
 |_=>exact Bv
def aw4:∀(n:Nat)(X:Cx)(G:Sg),GOk X G->(∀e,QE X e (wE n G e))/\(∀e,QT X e (wT n G e))/\(∀tg e,QI X tg e (wI n G tg e)):=by
 intro n
 induction n with
 |zero=>
  intro X G O
  exact⟨λ_=>Bv,λ_=>bc0,λ_ _=>bb9⟩
 |succ n ih=>
  intro X G O
  obtain⟨hE,hT,hI⟩:=ih X G O
  obtain⟨K,N,sc0,gb,bl,top,cm⟩:=G
  obtain rfl:X.K=K:=O.K
  refine⟨λe=>?_,λe=>?_,λtg e=>?_⟩
  .cases e with
   |Constant=>exact ap7 _ _ _
   |Name=>exact a53 O _ _
   |BinOp=>exact Vx (bq9 _ (hE _) (hE _))
   |UnaryOp op=>
    cases op with
    |USub=>exact br5 (hE _)
    |Not=>exact br6 (hE _)
    |Invert=>exact br2 (hE _)
    |_=>exact Bv
   |BoolOp=>exact Qo hE
   |Compare=>exact a50 O hE _ _ _ _
   |List=>exact E8 λh=>br3 (Ea hE h)
   |Tuple=>exact E8 λh=>br9 (Ea hE h)
   |Subscript a b=>
    cases b with
    |Slice lo hi st=>
     cases st with
     |none=>exact aq0 (hE _) (by cases lo <;> first|exact Yk|exact Yl (hE _)) (by cases hi <;> first|exact Yk|exact Yl (hE _))
     |some=>exact Bv
    |_=>exact b34 O.units (hE _) (hE _) rfl
   |Attribute=>exact E8 λh=>a49 (hE _) (C7 h _ X.env _)
   |Call f es ks=>
    cases f with
    |Name x=>
     rcases ks with _|⟨⟨_|k,v,_⟩,_|_⟩
     .exact b37 O hE
     .exact Bv
     .exact Bv
     .rcases es with _|⟨a,_|_⟩
      .exact Bv
      .exact b35 O hE
      .exact Bv
     .exact Bv
    |Attribute=>
     cases ks with
     |nil=>exact ap9 O hE _ _ _ _ _
     |cons=>exact Bv
    |_=>exact Bv
   |Dict ks vs=>
    refine E8 λh=>?_
    rw[List.isEmpty_iff.mp h.1,List.isEmpty_iff.mp h.2]
    exact a51
   |ListComp elt gs=>
    rcases gs with _|⟨⟨tg,it,ifs,a⟩,_|_⟩
    .exact Bv
    .refine E8 fun⟨h0,h1,h2,h3⟩=>?_
     subst h0
     refine Yi O (O.calm▸h1) h2 h3 (hI _ _) (λX' O'=>Ul n X' _ O' _) (λX' O'=>?_) (λX' O'=>(ih X' _ O').1 _)
     rcases ifs with _|⟨c,_|_⟩
     .exact Tn
     .exact To ((ih X' _ O').2.1 _)
     .exact λ_ _ _ _ _ _ _ _ h=>h.elim
    .exact Bv
   |_=>exact Bv
  .cases e with
   |UnaryOp op=>
    cases op with
    |Not=>exact bs8 (hT _)
    |_=>exact aq7 (hE _) rfl
   |BoolOp=>exact λEx m=>PW.pt (Qp hT Ex m)
   |Compare=>exact a60 O (λe=>Vx (hE e)) _ _ _ _
   |IfExp=>exact bc0
   |_=>exact aq7 (hE _) rfl
  .cases e with
   |Call f es ks p=>
    cases f with
    |Name x q=>
     cases es with
     |nil=>exact Jr (hE _)
     |cons a es=>
      show QI X tg _ (if _ then _ else _)
      split
      .rename_i hh
       obtain⟨h0,h1,h2,h3⟩:=hh
       rw[List.isEmpty_iff.mp h0]
       split
       .rename_i e;subst e;exact aq1 (O.gl h1) (O.bl _ h2) (Ea hE h3) h3
       split
       .rename_i e
        subst e
        cases tg with
        |Tuple=>exact a56 (O.gl h1) (O.bl _ h2) (Ea hE h3) h3
        |_=>exact bb9
       split
       .rename_i e
        obtain⟨rfl,h4⟩:=e
        rw[List.isEmpty_iff.mp h4]
        rw[cb,a9] at h3
        exact bs1 (O.gl h1) (O.bl _ h2) (hE _) h3.1
       .exact Jr (hE _)
      .exact Jr (hE _)
    |_=>exact Jr (hE _)
   |ListComp=>exact Jr (Yj (hE _))
   |_=>exact Jr (hE _)
def Cx.tr(X:Cx)(pn:List (Addr×Obj))(xe:Value->aw->Prop):Cx:={X with pn:=pn,xe:=xe}
def Cx.hd(X:Cx)(a:Addr):Cx:={X with A:=X.A.mark (some (.ref a)),calm:=false,xe:=λ_ _=>False}
section
variable {X:Cx}{ξ pins':List (Addr×Obj)}{σ:St}{H:Hp}{s:aw}{a C:Addr}{dx:Option Addr}{xe:Value->aw->Prop}
def bz5(o:X.Ok):(X.tr pn xe).Ok:=⟨o.mod,o.kind,o.glob,o.blt,o.above,o.inj,o.has,o.cab,o.hd,o.frames,o.stk,o.exf,o.bs,o.bsz,o.noex,o.exfs,o.funs,o.frf,o.tk⟩
def a28(o:(X.tr pn xe).Ok):X.Ok:=⟨o.mod,o.kind,o.glob,o.blt,o.above,o.inj,o.has,o.cab,o.hd,o.frames,o.stk,o.exf,o.bs,o.bsz,o.noex,o.exfs,o.funs,o.frf,o.tk⟩
def bh8(I:Inv X ξ σ H s):Inv (X.tr (X.pn++ξ) xe) [] σ H s:=
 ⟨bz5 I.ok,I.os,I.bare,I.base,I.loc,I.cell,I.free,I.freeC,λp hp=>I.pin p (by rw[b7] at hp;exact hp),I.hok,I.len⟩
def Fr(I:Inv (X.tr (X.pn++ξ) xe) pins' σ H s):Inv X ξ σ H s:=
 ⟨a28 I.ok,I.os,I.bare,I.base,I.loc,I.cell,I.free,I.freeC,λp hp=>I.pin p (bx _ hp),I.hok,I.len⟩
def aj2(F:G9 (X.tr (X.pn++ξ) xe) pins' H a s):G9 X ξ H a s:=by
 obtain⟨C,dx,vs,h1,h2,h3,h4⟩:=F
 refine⟨C,dx,vs,h1,h2,h3,h4.imp id fun⟨T,oT,ts,q1,q2,q3,q4,q5,q6⟩=>⟨T,oT,ts,q1,q2,q3,q4,q5,?_⟩⟩
 obtain⟨r1,r2,r3,r4,r5,r6⟩:=q6
 exact⟨r1,r2,r3,r4,r5,λp hp=>r6 p (bx _ hp)⟩
def a75(h:SP (X.tr (X.pn++ξ) xe) pins' D f s):SP X ξ D f s:=by
 cases f with
 |next=>obtain⟨σ',H',I,q⟩:=h;exact⟨σ',H',Fr I,q⟩
 |brk=>obtain⟨σ',H',I,q⟩:=h;exact⟨σ',H',Fr I,q⟩
 |cont=>obtain⟨σ',H',I,q⟩:=h;exact⟨σ',H',Fr I,q⟩
 |ret u=>obtain⟨v,σ',H',I,r,q⟩:=h;exact⟨v,σ',H',Fr I,r,q⟩
def Vc(I:Inv X ξ σ H s):Inv (X.hd a) ξ σ H s:=
 ⟨⟨I.ok.mod,I.ok.kind,I.ok.glob,I.ok.blt,I.ok.above,I.ok.inj,I.ok.has,I.ok.cab,(λz=>by cases z),I.ok.frames,I.ok.stk,I.ok.exf,I.ok.bs,I.ok.bsz,I.ok.noex,I.ok.exfs,I.ok.funs,I.ok.frf,I.ok.tk⟩,I.os,I.bare,I.base,I.loc,I.cell,I.free,I.freeC,I.pin,I.hok,I.len⟩
def Hs(o:X.Ok)(I:Inv (X.hd a) ξ σ H s):Inv X ξ σ H s:=⟨o,I.os,I.bare,I.base,I.loc,I.cell,I.free,I.freeC,I.pin,I.hok,I.len⟩
def Yx(o:X.Ok)(h:SP (X.hd a) ξ D f s):SP X ξ D f s:=by
 cases f with
 |next=>obtain⟨σ',H',I,q⟩:=h;exact⟨σ',H',Hs o I,q⟩
 |brk=>obtain⟨σ',H',I,q⟩:=h;exact⟨σ',H',Hs o I,q⟩
 |cont=>obtain⟨σ',H',I,q⟩:=h;exact⟨σ',H',Hs o I,q⟩
 |ret u=>obtain⟨v,σ',H',I,r,q⟩:=h;exact⟨v,σ',H',Hs o I,r,q⟩
end
inductive HK where
 |no
 |as (i:Nat)
def asD(a:Addr)(u:DS):HK->DS
 |.no=>λD σ H=>u {D with ex:=λ_ _ _=>False} σ H
 |.as i=>λD σ H=>u ⟨λσ' H'=>D.nx (σ'.set i none) H',D.rt,λσ' H'=>D.bk (σ'.set i none) H',λσ' H'=>D.ct (σ'.set i none) H',λ_ _ _=>False⟩ (σ.set i (some (.ref a))) H
def Pq(K:ac)(C a:Addr):List (Addr×HK×DS)->Outs->St->Hp->Prop
 |[],_,_,_=>False
 |(T,oi,u)::r,D,σ,H=>∃b,gn K C (.ref T)=some b/\(if b=true then asD a u oi D σ H else Pq K C a r D σ H)
noncomputable def az8(K:ac)(tb:DS)(us:List (Addr×HK×DS)):DS:=λD σ H=>tb {D with ex:=λσ' a H'=>∃C dx,FlO H' a C dx/\ECls K C/\Pq K C a us D σ' H'} σ H
inductive ac8 (X:Cx):Option Str->HK->Prop where
 |no:ac8 X none .no
 |as {n:Str}{i:Nat} (hN:X.N.Nodup) (hi:X.N[i]?=some n) (hl:X.env.scope.names.lookup n=some .local):ac8 X (some n) (.as i)
inductive Y5 (X:Cx):List ExceptHandler->List (Addr×HK×DS)->Prop where
 |nil {hl:List ExceptHandler}:Y5 X hl []
 | cons {x:Str}{p pos:Pos}{nm:Option Str}{oi:HK}{b:Stmt}{suite:List Stmt}{rest:List ExceptHandler}{T:Addr}{u:DS}{us:List (Addr×HK×DS)} (hg:Gl X x) (hm:X.mg x=some (.ref T)) (hd:(x==("__debug__" : Str))=false) (ec:ECls X.K T) (ha:ac8 X nm oi) (hs:∀a,QSs (X.hd a) (b::suite) u) (r:Y5 X rest us) :
   Y5 X (.ExceptHandler (some (.Name x p)) nm (b::suite) pos::rest) ((T,oi,u)::us)
section
variable {X:Cx}{ξ:List (Addr×Obj)}
def Gg(I:Inv X ξ σ H s)(hN:X.N.Nodup)(hi:X.N[i]?=some x)(hk:X.env.scope.names.lookup x=some .local)(h:∀s',Inv X ξ (σ.set i none) H s'->Q () s'):aR M A (do bindName X.env x .none;unbindBehindTheSuite X.env x pos) Q E s:=by
 obtain⟨m,hn,hl⟩:=I.loc
 refine wpAny_nameGoes_keeps hk hn (by rw[I.ok.kind];rfl) λh' v hn' sb=>h _ ?_
 have old:∀{b o},X.s₀.heap.get? b=some o->h'.get? b=s.heap.get? b:=λ{b o} e=>sb.2 b (aN (aL (aG e) I.ok.above))
 exact {
  ok:=I.ok
  os:=⟨I.os.1,gh I.os.2⟩
  bare:=I.bare
  base:={I.base with
   keep:=λb o e n hb hx=>by show h'.get? b=_;rw[old e];exact I.base.keep b o e n hb hx
   slot:=λb o e n hb hx=>by show ∃sl,h'.get? b=_;rw[old e];exact I.base.slot b o e n hb hx
   there:=λb o e hx=>by show ∃o',h'.get? b=_;rw[old e];exact I.base.there b o e hx}
  loc:=⟨_,hn',λj y w e1 e2 e3=>by
   have hj:j≠i:=λz=>by
    have lt:i<σ.length:=by rw[I.len];exact(List.getElem?_eq_some_iff.mp hi).1
    rw[z,g8 lt] at e2
    cases e2
   rw[iF (cg hj)] at e2
   obtain⟨u,r,q⟩:=hl j y w e1 e2 e3
   have ny:y≠x:=λz=>hj (Mg hN e1 (z▸hi))
   refine⟨u,r,q.imp (fun⟨k,e⟩=>⟨k,(if_neg ny).trans e⟩) fun⟨k,c,e,z⟩=>⟨k,c,e,z.sameBut sb (I.cne y c e)⟩⟩⟩
  cell:=λy c e=>let⟨w,z⟩:=I.cell y c e;⟨w,z.sameBut sb (I.cne y c e)⟩
  free:=I.free
  freeC:=I.freeC
  pin:=λp hp=>let⟨e,n,ne,nf,d⟩:=I.pin p hp;⟨(sb.2 p.1 ne).trans e,n,ne,nf,d⟩
  hok:=λb ob e=>(I.hok b ob e).stay (λc w hc q=>(sb.2 c (by
   rintro rfl
   have f:=I.free
   rcases hc with rfl|hc
   .rw[f] at e;cases e
   .rw[f] at hc;cases hc)).trans q) (λ_ q=>q) λ_ _ q=>q
  len:=by rw[j8];exact I.len}
def Zl(hst:X.stack=X.env::X.outer)(hfr:X.env.frame=some X.env.locals)(mt:Meets X Ex)(K:Y5 X hl us):∀{σ:St}{H:Hp}{s:aw}{a C:Addr}{dx:Option Addr},Inv X ξ σ H s->G9 X ξ H a s->FlO H a C dx->ECls X.K C->Pq X.K C a us (a34 Ex D) σ H ->
  aR (model X.prog X.w) X.A (handleBy (.ref a) X.env hl) (SP X ξ D) X.xe s:=by
 induction K with
 |nil=>intro σ H s a C dx I F e ec h;exact h.elim
 |@cons x p pos nm oi b suite rest T u us hg hm hd ecT ha hs r ih=>
  intro σ H s a C dx I F e ec h
  obtain⟨m,hm2,h⟩:=h
  have hx:∃vs,s.heap.get? a=some (As C dx vs):=by
   obtain⟨vs,z,_⟩:=ai8 I (.inr e)
   exact⟨vs,z⟩
  obtain⟨vs,hx⟩:=hx
  refine wpAny_handleBy_cons (codeAny_handlers_test (Qb (Vc I) hg hm ?_ hd)) (by intro q;cases q)
  refine Vm I.kIn ec ecT hx hm2 ?_
  cases m with
  |false=>exact ih I F e ec h
  |true=>
   cases ha with
   |no=>
    exact codeAny_handlers_suite (Ol (A:=(X.hd a).A) I F λs1 I1 F1=>(bJ (hs a (λ_ _ _=>False) Hv ξ s1 σ H D (Vc I1) h) (λf s2 q=>Yx I.ok q) λ_ _ z=>z.elim))
   |@as n i hN hi hlo=>
    refine codeAny_handlers_suite_as (Ol I F λs1 I1 F1=>?_)
    refine Ij (v:=.ref a) I1 hN hi (.inl hlo) rfl (λs2 I2=>?_) (.inr hlo)
    refine bJ (hs a (λ_ _ _=>False) Hv ξ s2 (σ.set i (some (.ref a))) H ⟨λσ' H'=>D.nx (σ'.set i none) H',D.rt,λσ' H'=>D.bk (σ'.set i none) H',λσ' H'=>D.ct (σ'.set i none) H'⟩ (Vc I2) h) (λf s3 q=>?_) λ_ _ z=>z.elim
    have q:=Yx I.ok q
    cases f with
    |next=>obtain⟨σ',H',I',q⟩:=q;exact Gg I' hN hi hlo λs4 I4=>⟨_,H',I4,q⟩
    |brk=>obtain⟨σ',H',I',q⟩:=q;exact Gg I' hN hi hlo λs4 I4=>⟨_,H',I4,q⟩
    |cont=>obtain⟨σ',H',I',q⟩:=q;exact Gg I' hN hi hlo λs4 I4=>⟨_,H',I4,q⟩
    |ret w=>obtain⟨v,σ',H',I',r,q⟩:=q;exact Gg I' hN hi hlo λs4 I4=>⟨v,_,H',I4,r,q⟩
def bs6(hst:Y.stack=Y.env::Y.outer)(hfr:Y.env.frame=some Y.env.locals)(hb:∀pn xe,gX (model Y.prog Y.w) Y.A Y.env xe->QSs (Y.tr pn xe) body tb)(hh:Y5 Y (h0::hs) us):QS Y (.Try body (h0::hs) [] [] pos) (az8 Y.K tb us):=by
 intro Ex m ξ s σ H D I hw
 refine wpAny_Try_except ?_
 refine bJ (hb (Y.pn++ξ) (λe s1=>aR (model Y.prog Y.w) Y.A (mL e Y.env) (λ_ s2=>aR (model Y.prog Y.w) Y.A (mQ e none) (λ_ s3=>aR (model Y.prog Y.w) Y.A (handleBy e Y.env (h0::hs)) (SP Y ξ D) Y.xe s3) Y.xe s2) Y.xe s1) PassesOwn.looking
  (λσ' a H'=>∃C dx,FlO H' a C dx/\ECls Y.K C/\Pq Y.K C a us (a34 Ex D) σ' H') ?_ [] s σ H D (bh8 I) hw) (λf s1 q=>?_) λ_ _ z=>z
 .intro pins' σ' H' s' a I' F' ⟨C,dx,e,ec,h⟩
  exact Yd (Fr I') hst hfr (aj2 F') λs2 I2 F2=>Zl hst hfr m hh I2 F2.at e ec h
 .have q:=a75 q
  cases f with
  |next=>exact iU q
  |_=>exact q
end
def Jl:Expr->Bool
 |.ListComp _ _ _ _=>false
 |.SetComp _ _ _ _=>false
 |.DictComp _ _ _ _ _=>false
 |_=>true
def Jm{e:Expr}(h:Jl e=true)(t:Option Expr)(l:Nat)(env:Env):jv e t l env=pure false:=by
 cases e with
 |ListComp _ _ _ _=>cases h
 |SetComp _ _ _ _=>cases h
 |DictComp _ _ _ _ _=>cases h
 |_=>rfl
section
variable {X:Cx}{G:Sg}{st:Stmt}{rest:List Stmt}{t u:DS}{e:Expr}{de:DE}{pos p':Pos}
def Ck:QS X st Bt:=λ_ _ _ _ _ _ _ _ h=>h.elim
def Ym:QSs X [] Af:=λ_ _=>a44
def Tp(h1:QS X st t)(h2:QSs X rest u):QSs X (st::rest) (Ae t u):=λEx m=>ap2 (h1 Ex m) (h2 Ex m)
def a58:QS X (.Pass pos) Af:=λ_ _=>a42
def aq3(h:QE X e de):QS X (.Return (some e) pos) (Aq de):=λEx m=>bq3 (h Ex m)
def a59:QS X (.Return none pos) ba0:=λ_ _=>a43
def a57(h:QE X e de)(hn:Jl e=true):QS X (.Expr e pos) (Dl de):=λEx m=>a41 (h Ex m) (Jm hn _ _ _)
def b39{c:Expr}{a b:List Stmt}{tc:DT}(hc:QT X c tc)(ha:QSs X a t)(hb:QSs X b u):QS X (.If c a b pos) (dIf tc t u):=λEx m=>b32 (hc Ex m) (ha Ex m) (hb Ex m)
def aq4{i:Nat}{x:Str}(O:GOk X G)(hi:C2 G.N x 0=some i)(hx:Vr G x=true)(h:QE X e de)(hn:jv e (some (.Name x p')) pos.line X.env=pure false):QS X (.Assign [.Name x p'] e pos) (Ao i de):=by
 obtain⟨h1,h2⟩:=Qk O hx
 exact λEx m=>bq4 (by rw[O.N];exact O.nd) (by rw[O.N];exact Ep hi) h1 (h Ex m) hn h2
variable {tg iter elt:Expr}{ifs:List Expr}{sc:Scope}{wi:DI}{g:DG}{tc:DT}
def Vy{i:Nat}{x:Str}{cp:Pos}(O:GOk X G)(hi:C2 G.N x 0=some i)(hx:Vr G x=true)(hc:X.calm=true)(hk:Fj G sc=true)(hs:Me iter=true)(hq:QI X tg iter wi)(hg:∀X',GOk X' (Dk G sc.names)->PG X' tg g)(ht:∀X',GOk X' (Dk G sc.names)->ay8 X' ifs tc)(he:∀X',GOk X' (Dk G sc.names)->QE X' elt de) :
  QS X (.Assign [.Name x p'] (.ListComp elt [⟨tg,iter,ifs,0⟩] sc cp) pos) (Ao i (Bg (Gd G sc.names) wi g tc de)):=by
 obtain⟨h1,h2⟩:=Qk O hx
 have sw:jv (.ListComp elt [⟨tg,iter,ifs,0⟩] sc cp) (some (.Name x p')) pos.line X.env=pure (X.env.blockKind==.function&&X.env.kindOf x==some .local&&p'.line==(Expr.ListComp elt [⟨tg,iter,ifs,0⟩] sc cp).pos.line
   && !(sc.names.any λ(n,k)=>n==x&&(k==.local||k==.cell))):=rfl
 cases hb:(X.env.blockKind==.function&&X.env.kindOf x==some .local&&p'.line==(Expr.ListComp elt [⟨tg,iter,ifs,0⟩] sc cp).pos.line
   && !(sc.names.any λ(n,k)=>n==x&&(k==.local||k==.cell))) with
 |false=>
  rw[hb] at sw
  exact aq4 O hi hx (Yi O hc hk hs hq hg ht he) sw
 |true=>
  rw[hb] at sw
  simp only[a9] at hb
  have hl:=cz hb.1.1.2
  intro Ex m ξ s σ H D I h
  exact ai0 hc (by rw[O.N];exact O.nd) (by rw[O.N];exact Ep hi) hl (Pw O hk) (hq Ex m) (λus Q2 fp C D s2 H2 I2 f2 hC=>
   have M:=Mc (Q2:=Q2) m O.fr I2 f2 hC
   have K:=X1 O hk fp C s2 H2 (Bs X sc (Dj X.env.cells sc.names []) us Q2 D C)
   ⟨hg _ K,ht _ K _ M,he _ K _ M⟩) I h sw (λx=>Mf hs X.env x)
def bs4{body:List Stmt}(O:GOk X G)(ht:G.top=true)(hc:X.calm=true)(hi:QI X tg iter wi)(hg:PG X tg g)(hb:QSs X body t)(hs:Me iter=true):QS X (.For tg iter body [] pos) (Ca wi g t):=by
 intro Ex m ξ s σ H D I h
 refine bJ (bq2 (O.own ht) hc (hi Ex m) hg (hb Ex m) (λx=>Mf hs X.env x) ξ s σ H {D with nx:=λσ' H'=>Thaw H H' (D.nx σ')} I h) (λf s' q=>?_) λ_ _ z=>z
 cases f with
 |next=>
  obtain⟨σ',H',I',q⟩:=q
  obtain⟨H2,I2,q2⟩:=Thaw.inv I I' q
  exact⟨σ',H2,I2,q2⟩
 |_=>exact q
def aq5{c:Expr}{body:List Stmt}(O:GOk X G)(ht:G.top=true)(hc:QT X c tc)(hb:QSs X body t):QS X (.While c body [] pos) (Px tc t):=λEx m=>ap1 (O.own ht) (hc Ex m) (hb Ex m)
noncomputable def B7(K:ac)(e:DE):DS:=λD σ H=>e σ H (V1 K (D.ex σ)) (D.ex σ)
def aq2(O:GOk X G)(hc:X.A.handled=none)(h:QE X e de):QS X (.Raise (some e) none pos) (B7 X.K de):=λEx m=>ap0 m hc (h Ex m)
def an1:Expr->Bool
 |.Tuple _ _ _=>false
 |_=>true
def an2(h:an1 e=true)(env:Env):swappedStores [.Tuple ts kt pt] e env=pure none:=by
 cases e with
 |Tuple _ _ _=>cases h
 |_=>rfl
def bs2{ts:List Expr}{kt:Nat}{pt:Pos}{g:DG}(h:QE X e de)(hg:PG X (.Tuple ts kt pt) g)(hn:Jl e=true)(ht:an1 e=true):QS X (.Assign [.Tuple ts kt pt] e pos) (Ef de g):=
 λEx m=>ao9 (h Ex m) hg (Jm hn (some (.Tuple ts kt pt)) pos.line X.env) (an2 ht _)
noncomputable def C1(K:ac)(o i:DE):DG:=λv σ H Q=>o σ H (λx H1=>i σ H1 (λy H2=>bc6 x y v H2 (Q σ)) λ_ _=>False) λ_ _=>False
def bs5{o i:Expr}{do' di:DE}(hu:X.A.units+64<cLine)(ho:QE X o do')(hi:QE X i di)(h:QE X e de)(hsl:K9 i=true):QS X (.Assign [.Subscript o i p'] e pos) (Ef de (C1 X.K do' di)):=by
 intro Ex m
 have hg:PG X (.Subscript o i p') (C1 X.K do' di):=bq0 (ho _ Hv) (hi _ Hv) (b46 hu) (by
  intro v
  cases i with
  |Slice _ _ _ _=>cases hsl
  |_=>rfl)
 exact ao9 (h Ex m) hg (by show jv e (some (.Subscript o i p')) pos.line X.env=pure false;cases e <;> rfl) (by cases e <;> rfl)
noncomputable def Go(K:ac)(f:Str)(o e:DE):DS:=λD σ H=>e σ H (λy H1=>o σ H1 (λx H2=>ar1 K f x y H2 (D.nx σ)) (D.ex σ)) (D.ex σ)
def bs3{o:Expr}{f:Str}{do':DE}(ho:QE X o do')(h:QE X e de):QS X (.Assign [.Attribute o f p'] e pos) (Go X.K f do' de):=by
 intro Ex m ξ s σ H D I hw
 exact plainObj_wpAny_Assign_Attribute (thn (h Ex m ξ s σ H _ I hw) λu s1 ⟨y,H1,I1,ry,q⟩=>thn (ho Ex m ξ s1 σ H1 _ I1 q) λov s2 ⟨x,H2,I2,rx,q2⟩=>(b45 I2 rx ry q2 λH' s' I' hN=>⟨σ,H',I',hN⟩)) (by cases e <;> rfl)
end
def cf6:GB->GB
 |.val v u=>.val v u
 |.exc C _=>.val (.ref C) (.ref C)
 |.cls C _=>.val (.ref C) (.ref C)
 |.ini C _=>.val (.ref C) (.ref C)
 |_=>.met "" []
def bu6(gb:List (Str×GB)):List (Str×GB):=gb.map λp=>(p.1,cf6 p.2)
def hdG(G:Sg):Sg:={G with gb:=bu6 G.gb,calm:=false}
def Sm(gb:List (Str×GB))(x:Str):Option Addr:=match gb.lookup x with
 |some (.exc T _)=>some T
 |_=>none
def okH(G:Sg):ExceptHandler->Bool
 | .ExceptHandler (some e) nm (_::_) _=>(match e with
  | .Name x _=>Lx G x&&(Sm G.gb x).isSome&&(match nm with
   |none=>true
   |some n=>(C2 G.N n 0).isSome&&(G.sc.lookup n==some .local))
  |_=>false)
 |_=>false
def bz1(G:Sg):ExceptHandler->Option Nat
 |.ExceptHandler _ (some n) _ _=>C2 G.N n 0
 |_=>none
def bb1(G:Sg)(h:ExceptHandler):HK:=match bz1 G h with
 |some i=>.as i
 |none=>.no
def bw3(G:Sg):ExceptHandler->Addr
 |.ExceptHandler (some (.Name x _)) _ _ _=>(Sm G.gb x).getD 0
 |_=>0
def bw2:ExceptHandler->List Stmt
 |.ExceptHandler _ _ b _=>b
def bh3{X:Cx}{G:Sg}(O:GOk X G)(a:Addr):GOk (X.hd a) (hdG G) where
 K:=O.K
 kind:=O.kind
 own:=λ_=>kg
 N:=O.N
 nd:=O.nd
 sc:=O.sc
 vis:=O.vis
 top:=O.top
 calm:=rfl
 hd:=λz=>by cases z
 units:=O.units
 cel:=O.cel
 gb:=λx g e=>by
  obtain⟨⟨y,g'⟩,hg,z⟩:=List.mem_map.mp (e)
  cases z
  have h:=O.gb _ g' hg
  cases g' with
  |val v u=>exact h
  |exc C i=>exact⟨h.1,rfl⟩
  |cls C i=>exact⟨h.1,rfl⟩
  |ini C i=>exact⟨h.1,rfl⟩
  |fn i=>exact λmi hm=>by cases hm
  |met m l=>exact λmi hm=>by cases hm
  |dic a kvs=>exact λmi hm=>by cases hm
  |key m l=>exact λmi hm=>by cases hm
 bl:=O.bl
 frm:=O.frm
 fr:=O.fr
def b93(F:Iy X i):Iy (X.tr pn xe) i:=⟨F.kp,F.ok,F.room,F.binds,F.vals⟩
def bu1{X:Cx}{G:Sg}(O:GOk X G){pn:List (Addr×Obj)}{xe:Value->aw->Prop}(ho:gX (model X.prog X.w) X.A X.env xe):GOk (X.tr pn xe) G where
 K:=O.K
 kind:=O.kind
 own:=λ_=>ho
 N:=O.N
 nd:=O.nd
 sc:=O.sc
 vis:=O.vis
 top:=O.top
 calm:=O.calm
 hd:=O.hd
 units:=O.units
 cel:=O.cel
 gb:=λx g e=>by
  refine GBOk.to ?_ ?_ ?_ ?_ ?_ ?_ (O.gb x g e)
  .rfl
  .rfl
  .rfl
  .rfl
  .exact λ_ r=>r
  .exact λi F=>b93 F
 bl:=O.bl
 frm:=O.frm
 fr:=O.fr
def an5(hh:okH G h=true):∃x p nm b suite pos,h=.ExceptHandler (some (.Name x p)) nm (b::suite) pos/\Lx G x=true/\(Sm G.gb x).isSome=true/\∀n,nm=some n->(C2 G.N n 0).isSome=true/\G.sc.lookup n=some .local:=by
 obtain⟨_|e,nm,_|⟨b,r⟩,p⟩:=h
 .cases hh
 .cases hh
 .cases hh
 .cases e with
  |Name x q=>
   obtain⟨h1,h2⟩:=Bool.and_eq_true_iff.mp (hh)
   have h1:=Bool.and_eq_true_iff.mp h1
   refine⟨_,_,_,_,_,_,rfl,h1.1,h1.2,λn e=>?_⟩
   subst e
   have h2:=Bool.and_eq_true_iff.mp (h2)
   exact⟨h2.1,cz h2.2⟩
  |_=>cases hh
def hsD(G:Sg)(w:List Stmt->DS)(hl:List ExceptHandler):List (Addr×HK×DS):=(hl.takeWhile (okH G)).map λh=>(bw3 G h,bb1 G h,w (bw2 h))
theorem ba4{X:Cx}{G:Sg}(O:GOk X G){w:List Stmt->DS}(h:∀a ss,QSs (X.hd a) ss (w ss)):∀hl,Y5 X hl (hsD G w hl)
 |[]=>.nil
 | e0::r=>by
  unfold hsD
  rw[List.takeWhile_cons]
  cases h1:okH G e0 with
  |false=>exact .nil
  |true=>
  obtain⟨x,p,nm,b,suite,pos,rfl,hg,hs,hnm⟩:=an5 h1
  obtain⟨T,hT⟩:=Option.isSome_iff_exists.mp hs
  have hl:∃oi,G.gb.lookup x=some (.exc T oi):=by
   unfold Sm at hT
   split at hT
   .rename_i T' oi e;cases hT;exact⟨oi,e⟩
   .cases hT
  obtain⟨oi,hl⟩:=hl
  obtain⟨m,kp,ec,_⟩:=O.at_ x _ hl
  have e:bw3 G (.ExceptHandler (some (.Name x p)) nm (b::suite) pos)=T:=by show(Sm G.gb x).getD 0=T;rw[hT];rfl
  simp only[if_true,aT]
  rw[e]
  have ao:ac8 X nm (bb1 G (.ExceptHandler (some (.Name x p)) nm (b::suite) pos)):=by
   cases nm with
   |none=>exact .no
   |some n=>
    obtain⟨z1,z2⟩:=hnm n rfl
    obtain⟨i,hi⟩:=Option.isSome_iff_exists.mp z1
    show ac8 X (some n) (match C2 G.N n 0 with|some i=>HK.as i|none=>HK.no)
    rw[hi]
    exact .as (by rw[O.N];exact O.nd) (by rw[O.N];exact Ep hi) (by rw[O.sc];exact z2)
  exact .cons (O.gl hg) m (Vf hg).1 ec ao (λa=>h a _) (ba4 O h r)
mutual
noncomputable def wS:Nat->Sg->Stmt->DS
 |0,_,_=>Bt
 | n+1,G,st=>match st with
  |.Pass _=>Af
  | .Return v _=>(match v with
   |some e=>Aq (wE n G e)
   |none=>ba0)
  |.Expr e _=>if Jl e=true then Dl (wE n G e) else Bt
  |.If c a b _=>dIf (wT n G c) (wSs n G a) (wSs n G b)
  | .Assign ts e _=>(match ts with
   | [t]=>(match t with
    | .Name x _=>(match C2 G.N x 0 with
     | some i=>(match e with
      | .ListComp elt gs sc _=>(match gs with
       | [⟨tg,iter,ifs,a⟩]=>if a=0/\Vr G x=true/\G.calm=true/\Fj G sc=true/\Me iter=true then
        Ao i (Bg (Gd G sc.names) (wI n G tg iter) (wG n (Dk G sc.names) tg) (match ifs with | []=>Cg | [c]=>wT n (Dk G sc.names) c|_=>tNo) (wE n (Dk G sc.names) elt)) else Bt
       |_=>Bt)
      |e=>if Vr G x=true/\Jl e=true then Ao i (wE n G e) else Bt)
     |none=>Bt)
    |.Tuple ts kt pt=>if Jl e=true/\an1 e=true then Ef (wE n G e) (wG n G (.Tuple ts kt pt)) else Bt
    |.Attribute o f _=>Go G.K f (wE n G o) (wE n G e)
    |.Subscript o i _=>if K9 i=true then Ef (wE n G e) (C1 G.K (wE n G o) (wE n G i)) else Bt
    |_=>Bt)
   |_=>Bt)
  | .Raise v c _=>(match v with
   |some e=>if c.isNone=true/\G.calm=true then B7 G.K (wE n G e) else Bt
   |none=>Bt)
  |.For tg iter body el _=>if el.isEmpty=true/\G.calm=true/\Me iter=true/\G.top=true then Ca (wI n G tg iter) (wG n G tg) (wSs n G body) else Bt
  |.While c body el _=>if el.isEmpty=true/\G.top=true then Px (wT n G c) (wSs n G body) else Bt
  |.Try body hs el fi _=>if hs.isEmpty=false/\el.isEmpty=true/\fi.isEmpty=true/\G.top=true then az8 G.K (wSs n G body) (hsD G (wSs n (hdG G)) hs) else Bt
  |_=>Bt
noncomputable def wSs:Nat->Sg->List Stmt->DS
 |0,_,_=>Bt
 |_+1,_,[]=>Af
 |n+1,G,s::r=>Ae (wS n G s) (wSs n G r)
end
def E9{X:Cx}{c:Prop} [Decidable c]{st:Stmt}{d:DS}(h:c->QS X st d):QS X st (if c then d else Bt):=by
 by_cases z:c
 .rw[if_pos z];exact h z
 .rw[if_neg z];exact Ck
def bd5:∀n X G,GOk X G->(∀s,QS X s (wS n G s))/\(∀ss,QSs X ss (wSs n G ss)):=by
 intro n
 induction n with
 |zero=>exact λ_ _ _=>⟨λ_=>Ck,λ_ _ _ _ _ _ _ _ _ h=>h.elim⟩
 |succ n ih=>
  intro X G O
  obtain⟨hS,hSs⟩:=ih X G O
  obtain⟨hE,hT,hI⟩:=aw4 n X G O
  refine⟨λs=>?_,λs=>?_⟩
  .obtain⟨K,N,sc0,gb,bl,top,cm⟩:=G
   obtain rfl:X.K=K:=O.K
   cases s with
   |Pass=>exact a58
   |Return v=>
    cases v with
    |some=>exact aq3 (hE _)
    |none=>exact a59
   |Expr=>exact E9 λh=>a57 (hE _) h
   |If=>exact b39 (hT _) (hSs _) (hSs _)
   |Assign ts e p=>
    rcases ts with _|⟨t,_|_⟩
    .exact Ck
    .cases t with
     |Name x q=>
      show QS X _ (match C2 N x 0 with|some i=>_|none=>Bt)
      split
      .rename_i i ei
       cases e with
       |ListComp elt gs sc=>
        rcases gs with _|⟨⟨tg,it,ifs,a⟩,_|_⟩
        .exact Ck
        .refine E9 fun⟨h0,h1,h2,h3,h4⟩=>?_
         subst h0
         refine Vy O ei h1 (O.calm▸h2) h3 h4 (hI _ _) (λX' O'=>Ul n X' _ O' _) (λX' O'=>?_) (λX' O'=>(aw4 n X' _ O').1 _)
         rcases ifs with _|⟨c,_|_⟩
         .exact Tn
         .exact To ((aw4 n X' _ O').2.1 _)
         .exact λ_ _ _ _ _ _ _ _ h=>h.elim
        .exact Ck
       |_=>exact E9 λh=>aq4 O ei h.1 (hE _) (Jm h.2 _ _ _)
      .exact Ck
     |Tuple=>exact E9 λh=>bs2 (hE _) (Ul n X _ O _) h.1 h.2
     |Attribute=>exact bs3 (hE _) (hE _)
     |Subscript=>exact E9 λh=>bs5 O.units (hE _) (hE _) (hE _) h
     |_=>exact Ck
    .exact Ck
   |Raise v c=>
    cases v with
    |some=>exact E9 λh=>by rw[Option.isNone_iff_eq_none.mp h.1];exact aq2 O (O.hd (O.calm▸h.2)) (hE _)
    |none=>exact Ck
   |For=>exact E9 λh=>by rw[List.isEmpty_iff.mp h.1];exact bs4 O h.2.2.2 (O.calm▸h.2.1) (hI _ _) (Ul n X _ O _) (hSs _) h.2.2.1
   |While=>exact E9 λh=>by rw[List.isEmpty_iff.mp h.1];exact aq5 O h.2 (hT _) (hSs _)
   |Try b hs=>
    refine E9 λh=>?_
    rw[List.isEmpty_iff.mp h.2.1,List.isEmpty_iff.mp h.2.2.1]
    cases hs with
    |nil=>cases h.1
    |cons=>exact bs6 (O.frm h.2.2.2).1 (O.frm h.2.2.2).2 (λpn xe ho=>(ih _ _ (bu1 O ho)).2 _) (ba4 O (λa ss=>(ih _ _ (bh3 O a)).2 ss) _)
   |_=>exact Ck
  .cases s with
   |nil=>exact Ym
   |cons a r=>exact Tp (hS a) (hSs r)
section
variable {P:aW}{w:bC}{K:ac}{mg:Str->Option Value}{base:Heap}
structure FnIn (P:aW) (w:bC) (K:ac) (mg:Str->Option Value) (base:Heap) (k:Nat) (x:Str) (i:FI):Prop where
 at_:mg x=some (.ref i.f)
 kp:ba K (.ref i.f)=true
 ok:∃CX,(∀X':Cx,X'.prog=P->X'.w=w->J1 CX X')/\FnOk P w K mg base CX i.k i.f i.fd i.ps i.sp
 le:i.k<=k
 binds:∀j,j<=i.dfs.length->Binds K i.fd i.ps (i.ds.drop j)
 vals:Vals i.dfs i.ds
def be9(P:aW)(w:bC)(K:ac)(mg:Str->Option Value)(base:Heap)(k:Nat)(C:Addr):Option FI->Prop
 |none=>aZ K (.ref C) "__init__"=some (some (.builtin "ValueError.__init__"))
 | some i=>aZ K (.ref C) "__init__"=some (some (.ref i.f))/\cW K (.ref i.f)=true/\ba K (.ref i.f)=true/\(∃CX,(∀X',X'.prog=P->X'.w=w->J1 CX X')/\FnOk P w K mg base CX i.k i.f i.fd i.ps i.sp) /\
   i.k+1<=k/\(∀j,j<=i.dfs.length->Binds K i.fd i.ps (i.ds.drop j))/\Vals i.dfs i.ds
structure ExcIn (P:aW) (w:bC) (K:ac) (mg:Str->Option Value) (base:Heap) (k:Nat) (x:Str) (C:Addr) (oi:Option FI):Prop where
 at_:mg x=some (.ref C)
 kp:ba K (.ref C)=true
 cls:ECls K C
 init:be9 P w K mg base k C oi
structure FiIn (P:aW) (w:bC) (K:ac) (mg:Str->Option Value) (base:Heap) (k:Nat) (i:FI):Prop where
 kp:ba K (.ref i.f)=true
 ok:∃CX,(∀X':Cx,X'.prog=P->X'.w=w->J1 CX X')/\FnOk P w K mg base CX i.k i.f i.fd i.ps i.sp
 le:i.k<=k
 binds:∀j,j<=i.dfs.length->Binds K i.fd i.ps (i.ds.drop j)
 vals:Vals i.dfs i.ds
def FiIn.mono(F:FiIn P w K mg base k i)(h:k<=k'):FiIn P w K mg base k' i:=⟨F.kp,F.ok,aU F.le h,F.binds,F.vals⟩
def b99(P:aW)(w:bC)(K:ac)(mg:Str->Option Value)(base:Heap)(k:Nat)(C:Addr):Option FI->Prop
 |none=>dN K C=true/\aZ K (.ref C) "__init__"=some (some (.builtin "object.__init__"))
 |some i=>dN K C=true/\aZ K (.ref C) "__init__"=some (some (.ref i.f))/\cW K (.ref i.f)=true/\FiIn P w K mg base k i/\i.k+1<=k
structure ClsIn (P:aW) (w:bC) (K:ac) (mg:Str->Option Value) (base:Heap) (k:Nat) (x:Str) (C:Addr) (oi:Option FI):Prop where
 at_:mg x=some (.ref C)
 kp:ba K (.ref C)=true
 made:b99 P w K mg base k C oi
theorem ClsIn.mono(F:ClsIn P w K mg base k x C oi)(h:k<=k'):ClsIn P w K mg base k' x C oi:=by
 refine⟨F.at_,F.kp,?_⟩
 cases oi with
 |none=>exact F.made
 |some i=>obtain⟨a,b,c,d,e⟩:=F.made;exact⟨a,b,c,d.mono h,aU e h⟩
structure MetIn (P:aW) (w:bC) (K:ac) (mg:Str->Option Value) (base:Heap) (k:Nat) (m:Str) (mi:MI):Prop where
 cls:Cls K mi.C
 at_:Na K mi.C m mi.i.f
 fi:FiIn P w K mg base k mi.i
theorem MetIn.mono(F:MetIn P w K mg base k m mi)(h:k<=k'):MetIn P w K mg base k' m mi:=⟨F.cls,F.at_,F.fi.mono h⟩
def ExcIn.mono(F:ExcIn P w K mg base k x C oi)(h:k<=k'):ExcIn P w K mg base k' x C oi:=by
 refine⟨F.at_,F.kp,F.cls,?_⟩
 cases oi with
 |none=>exact F.init
 |some i=>obtain⟨a,b,c,d,e,f⟩:=F.init;exact⟨a,b,c,d,aU e h,f⟩
structure bv6 (P:aW) (w:bC) (K:ac) (mg:Str->Option Value) (base:Heap) (k:Nat) (x:Str) (C:Addr) (i:FI):Prop where
 at_:mg x=some (.ref C)
 sup:a97 K C i.f
 fi:FiIn P w K mg base k i
structure b95 (P:aW) (w:bC) (K:ac) (mg:Str->Option Value) (base:Heap) (k:Nat) (m:Str) (mi:MI):Prop where
 met:MetIn P w K mg base k m mi
 sg:dH K (.ref mi.i.f) "__get__"=some (some (.builtin "function.__get__"))
 tk:f6 K (.ref mi.i.f)=some false
 cn:PySem.W.copiedNames.contains m=false
 le:mi.i.k+2<=k
def GBIn(P:aW)(w:bC)(K:ac)(mg:Str->Option Value)(base:Heap)(k:Nat)(x:Str):GB->Prop
 |.fn i=>FnIn P w K mg base k x i
 |.val v u=>mg x=some u/\RelV v u
 |.exc C oi=>ExcIn P w K mg base k x C oi
 |.cls C oi=>ClsIn P w K mg base k x C oi
 |.met m l=>∀mi∈l,MetIn P w K mg base k m mi
 |.ini C i=>bv6 P w K mg base k x C i
 |.dic a kvs=>mg x=some (.ref a)/\bv3 P w K a kvs
 |.key m l=>∀mi∈l,b95 P w K mg base k m mi
structure Tab (P:aW) (w:bC) (K:ac) (mg:Str->Option Value) (base:Heap) (k:Nat) (gb:List (Str×GB)) (bl:List Str):Prop where
 all:∀x g,(x,g)∈gb->GBIn P w K mg base k x g
 bl:∀x∈bl,mg x=none
def FnIn.mono(F:FnIn P w K mg base k x i)(h:k<=k'):FnIn P w K mg base k' x i:=⟨F.at_,F.kp,F.ok,aU F.le h,F.binds,F.vals⟩
theorem GBIn.mono(F:GBIn P w K mg base k x g)(h:k<=k'):GBIn P w K mg base k' x g:=by
 cases g with
 |fn i=>exact FnIn.mono F h
 |val v u=>exact F
 |exc C oi=>exact ExcIn.mono F h
 |cls C oi=>exact ClsIn.mono F h
 |met m l=>exact λmi hm=>(F mi hm).mono h
 |ini C i=>exact⟨F.at_,F.sup,F.fi.mono h⟩
 |dic a kvs=>exact F
 |key m l=>exact λmi hm=>let q:=F mi hm;⟨q.met.mono h,q.sg,q.tk,q.cn,aU q.le h⟩
def GBIn.there(F:GBIn X.prog X.w X.K X.mg X.base k x g)(hr:Room k X.A):GBOk X x g:=by
 cases g with
 |fn i=>exact⟨F.at_,F.kp,F.ok,hr.mono F.le,F.binds,F.vals⟩
 |val v u=>exact F
 |exc C oi=>
  refine⟨F.at_,F.kp,F.cls,?_⟩
  cases oi with
  |none=>exact F.init
  |some i=>obtain⟨a,b,c,d,e,f,g⟩:=F.init;exact⟨a,b,⟨c,d,hr.mono (by omega),f,g⟩,hr.mono e⟩
 |cls C oi=>
  refine⟨F.at_,F.kp,?_⟩
  cases oi with
  |none=>exact F.made
  |some i=>obtain⟨a,b,c,d,e⟩:=F.made;exact⟨a,b,c,⟨d.kp,d.ok,hr.mono d.le,d.binds,d.vals⟩,hr.mono e⟩
 |met m l=>exact λmi hm=>⟨(F mi hm).cls,(F mi hm).at_,⟨(F mi hm).fi.kp,(F mi hm).fi.ok,hr.mono (F mi hm).fi.le,(F mi hm).fi.binds,(F mi hm).fi.vals⟩⟩
 |ini C i=>exact⟨F.at_,F.sup,⟨F.fi.kp,F.fi.ok,hr.mono F.fi.le,F.fi.binds,F.fi.vals⟩⟩
 |dic a kvs=>exact F
 |key m l=>exact λmi hm=>let q:=F mi hm;⟨q.met.cls,q.met.at_,q.sg,q.tk,q.cn,⟨q.met.fi.kp,q.met.fi.ok,hr.mono q.met.fi.le,q.met.fi.binds,q.met.fi.vals⟩,hr.mono q.le⟩
def Hz(X:Cx):J1 CX0 X:=λ_ _ _ _ _ _ _ _ _ h=>h.elim
def Kc(K:ac)(N:List Str)(sc:Scope)(gb:List (Str×GB))(bl:List Str):Sg:=⟨K,N,sc.names,gb,bl,true,true⟩
def M9(N:List Str)(sc:Scope):Bool:=N.all λx=>(sc.names.lookup x==some .local)||(sc.names.lookup x==some .cell)
def U3(Q:VK)(E:EK):Outs:=⟨λ_ H'=>Q .non H',Q,λ_ _=>False,λ_ _=>False,λ_=>E⟩
structure FunD (K:ac) (x qual:Str) (st:Stmt) (f:Addr) (fd:bh) (dV:Value):Prop where
 ex:∃(oc:Value)(od:Option Addr)(kV doc pm:Value)(an:Option Addr)(θ ct:Value)(osl:Array (Option Value)),
  fd=cy x qual (B8 st) (A9 st) (Al st) dV kV doc pm an θ ct/\K.lookup f=some ⟨oc,od,.func fd,osl⟩/\dF K θ qual=true
 kp:ba K (.ref f)=true
def Fun.toD{x qual:Str}{st:Stmt}{f:Addr}{fd:bh}(F:Fun K x qual st f fd):FunD K x qual st f fd .none:=⟨F.ex,F.kp⟩
def a07{x qual:Str}{st:Stmt}{f:Addr}{oc:Value}{od an:Option Addr}{osl:Array (Option Value)}{dV kV doc pm θ ct:Value}(l:K.lookup f=some ⟨oc,od,.func (cy x qual (B8 st) (A9 st) (Al st) dV kV doc pm an θ ct),osl⟩)(c:dF K θ qual=true)(k:ba K (.ref f)=true):FunD K x qual st f (cy x qual (B8 st) (A9 st) (Al st) dV kV doc pm an θ ct) dV:=⟨⟨oc,od,kV,doc,pm,an,θ,ct,osl,rfl,l,c⟩,k⟩
def FunD.ok{x qual:Str}{st:Stmt}{f:Addr}{fd:bh}{dV:Value}{N ps:List Str}{k:Nat}{sp:Sp}(F:FunD K x qual st f fd dV)(S:Cs N ps (Al st))(len:∀vs H Q E,sp vs H Q E->vs.length=ps.length)(hbody:∀θ A outer s H vs Q E,Room k (A.deeper (lx qual (Al st) s.heap.objs.size f θ))->sp vs H Q E ->
   ∃t,PSs (Hj CX0 P w K mg base N qual (Al st) f θ A outer s H E).nox (A9 st) t/\t {nx:=λ_ H'=>Q .non H',rt:=Q} (Cy N vs) H):FnOk P w K mg base CX0 (k+1) f fd ps sp:=by
 obtain⟨oc,od,kV,doc,pm,an,θ,ct,osl,rfl,lk,hcd⟩:=F.ex
 refine aj3 lk hcd S len λA outer s H vs Q E hr hsp=>?_
 obtain⟨t,h,q⟩:=hbody θ A outer s H vs Q E hr hsp
 exact⟨t,h.nox,q⟩
def Ur{fd:bh}{ps:List Str}{T:Addr}{o:Obj}{ψ:Array Value}{n:Nat}{ds:List Value}(hd:fd.defaults=.ref T)(ho:K.lookup T=some o)(hs:o.data=.seq ψ n)(h:∀us,(us++ds).length=ps.length -> ∃k,iJ fd ⟨us,[]⟩=seqItems? fd.defaults >>= k/\k (some ψ)=pure (ps.zip (us++ds))):Binds K fd ps ds:=λs us X hl=>by
 obtain⟨k,h1,h2⟩:=h us hl
 exact PySem.W.binds_K X hd ho hs h1 h2
def FunD.okW0{x qual:Str}{st:Stmt}{f:Addr}{fd:bh}{N ps:List Str}{k n:Nat}{sp:Sp}{gb:List (Str×GB)}{bl:List Str}{t:DS}{dV:Value}(F:FunD K x qual st f fd dV)(S:Cs N ps (Al st))(hv:M9 N (Al st)=true)(T:Tab P w K mg base k gb bl)(rd:wSs n (Kc K N (Al st) gb bl) (A9 st)=t)(len:∀vs H Q E,sp vs H Q E->vs.length=ps.length)(hbody:∀vs H Q E,sp vs H Q E->t (U3 Q λ_ _=>False) (Cy N vs) H):FnOk P w K mg base CX0 (k+1) f fd ps sp:=by
 refine F.ok S len λθ A outer s H vs Q E hr h=>?_
 have O:GOk (Hj CX0 P w K mg base N qual (Al st) f θ A outer s H E).nox (Kc K N (Al st) gb bl):=by
  refine⟨rfl,S.kind,(λ_=>kg),rfl,S.nd,λx=>rfl,λx hx=>?_,λ_ _=>rfl,rfl,(λ_=>hr.hd),hr.units,λx hx=>?_,λx g e=>?_,λx hx=>?_,(λ_=>⟨rfl,rfl⟩),⟨_,_,_,rfl,rfl,rfl⟩⟩
  .have:=List.all_eq_true.mp hv x hx
   rw[cS] at this
   exact this.elim (λz=>.inl (cz z)) λz=>.inr (.inl (cz z))
  .rcases hx with hx|hx
   .exact Fi hx
   .exact absurd rfl (S.nofree _ (bX hx))
  .exact (T.all x g e).there hr
  .exact T.bl x (by have hx':bl.contains x=true:=hx;simpa using hx')
 refine⟨_,(bd5 n _ _ O).2 (A9 st) (λ_ _ _=>False) (λ_ _ _ _ _ _ _ h=>h.elim),?_⟩
 rw[rd]
 exact hbody vs H Q E h
end
def Rs(p:Addr)(H H':Hp):Prop:=∀b u,b≠p->H b=some u->H' b=some u
def aj8{P:aW}{w:bC}{K:ac}{mg:Str->Option Value}{base:Heap}{N ps:List Str}{qual:Str}{scope:Scope}{f:Addr}{θ:Value}{A:bF}{outer:List Env}{s:aw}{H:Hp}{E:XK}{k:Nat}{gb:List (Str×GB)}{bl:List Str}(S:Cs N ps scope)(hv:M9 N scope=true)(T:Tab P w K mg base k gb bl)(hr:Room k (A.deeper (lx qual scope s.heap.objs.size f θ))):GOk (Hj CX0 P w K mg base N qual scope f θ A outer s H E).nox (Kc K N scope gb bl):=by
 refine⟨rfl,S.kind,(λ_=>kg),rfl,S.nd,λx=>rfl,λx hx=>?_,λ_ _=>rfl,rfl,(λ_=>hr.hd),hr.units,λx hx=>?_,λx g e=>?_,λx hx=>?_,(λ_=>⟨rfl,rfl⟩),⟨_,_,_,rfl,rfl,rfl⟩⟩
 .have:=List.all_eq_true.mp hv x hx
  rw[cS] at this
  exact this.elim (λz=>.inl (cz z)) λz=>.inr (.inl (cz z))
 .rcases hx with hx|hx
  .exact Fi hx
  .exact absurd rfl (S.nofree _ (bX hx))
 .exact (T.all x g e).there hr
 .exact T.bl x (by have hx':bl.contains x=true:=hx;simpa using hx')
def a65{P:aW}{w:bC}{K:ac}{mg:Str->Option Value}{base:Heap}{k:Nat}{f c':Addr}{name qual:Str}{params:Arguments}{lb:Expr}{scope:Scope}{pm ctv:Value}{N ps:List Str}{A:bF}{outer:List Env}{s:aw}{H:Hp}{us:List Value}{vs:List V}{Q:VK}{E:XK}(hr:Room (k+1) A)(e0:Env0 P w K mg base A outer s H)(ho:s.heap.get? f=some (PySem.W.kla_obj name qual params lb scope [] pm c' ctv))(hcd:s.heap.CodeRec (.ref c') qual)(S:Cs N ps scope)(hb:iJ (lq name qual params lb scope [] pm (.ref c') ctv) ⟨us,[]⟩=pure (ps.zip us))(hl:vs.length=ps.length)(r:Vals vs us)(hbody:Room k (A.deeper (lx qual scope s.heap.objs.size f (.ref c'))) -> ∃t,PE (Hj CX0 P w K mg base N qual scope f (.ref c') A outer s H E).nox lb t/\t (Cy N vs) H Q) :
  gN (model P w) A (.call (.ref f) ⟨us,[]⟩) (CR CX0 outer P w H s Q E) s:=by
 have lim:=e0.mod.nolimit.keeps λb o e=>(e0.bs b o e).1
 have hkind:∀y∈ps.zip us,scope.names.lookup y.1=some .local\/(scope.names.lookup y.1=some .cell/\((mH (s.heap.objs.size+1) scope.names []).lookup y.1).isSome=true):=fun⟨n,v⟩ hy=>by
  rcases S.par n (iO hy).1 with q|q
  .exact .inl q
  .exact .inr ⟨q,hJ _ _ _ (.inl q)⟩
 refine PySem.W.kla_callFunE hr.depth ho rfl S.co S.gen rfl hcd ?_
 rw[hb]
 refine am (bG (ag _) (i0 S.kind hkind λenv he s1 x htk=>?_))
 subst he
 refine⟨lim.keeps x.toInCall.keep,PySem.W.kla_codeExpr ?_⟩
 obtain⟨t,ht,hq⟩:=hbody (hr.deeper _)
 have I:Inv (Hj CX0 P w K mg base N qual scope f (.ref c') A outer s H E) [] (Cy N vs) H s1:=Ou S hr.hd e0 htk hl r x
 exact bJ (ht.nox [] s1 (Cy N vs) H _ I hq) (λu s' ⟨v,H',J,rv,q⟩=>⟨v,H',J.os,J.bare,J.base,J.hok,rv,q⟩) λe s' hs=>hs
section
variable {X:Cx}{ξ:List (Addr×Obj)}{σ:St}{H:Hp}{s:aw}
def Inv.grow(I:Inv X ξ σ H s)(hp:H p=some (.tbl ps))(k:∀b o,b≠p->s.heap.get? b=some o->h'.get? b=some o)(g:h'.get? p=some (jb (ps++more)))(ht:s.toks<=t'):Inv X ξ σ (upd H p (.tbl (ps++more))) {s with heap:=h',toks:=t'}:=by
 have ne:∀{b},H b=none->b≠p:=λe z=>by rw[z,hp] at e;cases e
 refine I.step (ch:=[]) (λ_ z=>nomatch z) (λb o _ _ _ e n=>k b o (ne n) e) (λb o _ _ _ e n=>⟨o.slots,k b o (ne n) e⟩) (λb o _ _ n=>by rw[Ad (ne n)];exact n)
  (λb o _ e=>?_) (λb xs e=>by rw[Ad λz=>by rw[z,hp] at e;cases e];exact e) (λb o u e=>by rw[Ad λz=>by rw[z,hp] at e;cases e];exact e) (λb qs e=>?_) (λm hm=>?_) (λb u e=>?_) I.bare ht
 .by_cases z:b=p
  .exact⟨_,z▸g⟩
  .exact⟨o,k b o z e⟩
 .by_cases z:b=p
  .subst z
   rw[hp] at e
   cases e
   exact⟨more,Aa⟩
  .exact⟨#[],by rw[Ad z,e];simp⟩
 .obtain⟨o,es,ep,ho,r⟩:=hm
  exact⟨o,es,ep,k _ o (ne I.free) ho,r⟩
 .by_cases z:b=p
  .subst z
   rw[Aa] at e
   cases e
   exact g
  .rw[Ad z] at e
   refine(I.hok b u e).stay (λc v hc q=>k c v ?_ q) (λc q=>by rw[Ad λz=>by rw[z,hp] at q;cases q];exact q) λc xs q=>by rw[Ad λz=>by rw[z,hp] at q;cases q];exact q
   rcases hc with hc|hc
   .rw[hc];exact z
   .exact λz=>by rw[z,hp] at hc;cases hc
def by8{ds:List (Int×V)}{pins':List (Addr×Obj)}{H3:Hp}{s3:aw}{ks:List Value}{A:bF}(_:Inv X pins' σ H3 s3)(hl:ks.length=ds.length)(h2:2<=ks.length)(ka:ag2 (λd w _=>w=.int d.1) H3 ds ks){G:SortKind->aw->Prop}(hG:∀ κ,(∀i j C,i<ds.length->j<ds.length->C (decide ((ds.getD i (0,.non)).1<(ds.getD j (0,.non)).1)) s3->eV X.prog X.w A κ ks i j C s3)->G κ s3):aR (model X.prog X.w) A (jM ks.toArray) G (λ_ _=>False) s3:=by
 have rv:Vals (ds.map λd=>V.int d.1) ks:=Rm (by rw[ae];exact hl.symm) λi x u h1 h2=>by
  rw[ak] at h1
  obtain⟨d,hd,rfl⟩:=Option.map_eq_some_iff.mp h1
  obtain⟨_,r,rfl⟩:=ka i u d h2 hd
  exact r
 rw[ksk_kind (Lv (by rw[aB];exact rv)) (by rw[ax];exact h2)]
 refine am (hG _ λi j C hi hj hC=>?_)
 unfold eV
 obtain⟨t,e⟩:=R1 (0,.non) rv hi
 obtain⟨u,e'⟩:=R1 (0,.non) rv hj
 rw[e,e']
 exact PySem.W.kat_lt_int hC
def ltI(a b:Int×V):Bool:=decide (a.1<b.1)
def a17(h:(ds.map (·.1)).Pairwise (· < ·)):OrdL ltI ds/\Bx ltI ds=ds:=by
 have pw:=(List.pairwise_map.mp h).imp λh=>decide_eq_true h
 have nd:ds.Nodup:=pw.imp λh e=>by subst e;exact absurd (of_decide_eq_true h) (Int.lt_irrefl _)
 have o:OrdL ltI ds:=⟨λa ha b hb n=>?_,λa _ b _ c _ h1 h2=>decide_eq_true (Int.lt_trans (of_decide_eq_true h1) (of_decide_eq_true h2)),nd⟩
 .exact⟨o,(Gj o (Ar _ _).symm pw (Gk o)).symm⟩
 .have ne:a.1≠b.1:=λe=>n (Vo (h.imp λh=>Int.ne_of_lt h) a ha b hb e)
  unfold ltI
  by_cases c:a.1<b.1
  .rw[decide_eq_true c,decide_eq_false (by omega)];rfl
  .rw[decide_eq_false c,decide_eq_true (by omega)];rfl
def b96(K:ac)(Pt bm:Addr)(N:List Str)(dl:DE)(v:V)(H:Hp)(Q:VK):Prop:=∃(b:Addr)(ob:Obj)(u:HO)(ds:List (Int×V)),v=.ref b/\SqL K H b (ds.map (·.2))/\ds.length<64/\(ds.map (·.1)).Pairwise (· < ·)/\H Pt=some (.tbl #[])/\H bm=some (.frz ob u) /\
 (ob.cls=.type "module" /\ ob.dict=some ju/\ob.data=.plain)/\(∀d∈ds,∀H3,Rs Pt H H3->dl (Cy N [d.2]) H3 (λv H4=>v=.int d.1/\Same H3 H4) (λ_ _=>False))/\∀H' D,Rs Pt H H'->H D=none->H' D=some (.lst (ds.map (·.2)))->Q (.ref D) H'
noncomputable def ba1(K:ac)(Pt bm:Addr)(N:List Str)(dl a:DE):DE:=λσ H Q E=>Ac a Ag σ H (λxs H1=>∃v,xs=[v]/\b96 K Pt bm N dl v H1 Q) E
def a55{a lb:Expr}{da dl:DE}{p kp lpos pos:Pos}{c Pt bm:Addr}{lp:Arguments}{ls:Scope}{N:List Str}{j n:Nat}{gb:List (Str×GB)}{bl:List Str}(hc:X.calm=true)(hg:Gl X "sorted")(hm:X.mg "sorted"=none)(ha:QE X a da)(hs:noStar a=true)(hr:Room (j+3) X.A)(T:Tab X.prog X.w X.K X.mg X.base j gb bl)(hcode:X.env.code=.ref c)(hd:dR X.K c Pt=true)(hbm:X.mg "__builtins__"=some (.ref bm))(hcl:kL ls X.env=pure [])(hdf:defaultsOf lp X.env=([],[]))(S:Cs N N ls)(hv:M9 N ls=true)(hN:N.length=1)(hb:∀q pm cd ct u,iJ (lq "<lambda>" q lp lb ls [] pm cd ct) ⟨[u],[]⟩=pure (N.zip [u]))(rd:wE n (Kc X.K N ls gb bl) lb=dl) :
  QE X (.Call (.Name "sorted" p) [a] [⟨some "key", .Lambda lp lb ls lpos,kp⟩] pos) (ba1 X.K Pt bm N dl da):=by
 intro Ex mt ξ s σ H Q I h
 have hA:=Lc ha Qn hs
 refine cu (C6 I hg hm D8 ?_ (by decide) (by decide))
 refine kX ?_ rfl ?_
 .rw[Az hs [] X.env];rfl
 have e0:df [a] X.env=[(false,eval a X.env)]:=by rw[Az hs [] X.env];rfl
 have hh:=hA Ex mt pos ξ s σ H _ I h
 rw[e0] at hh ⊢
 refine af (thn hh λus s1 ⟨vs,H1,I1,r1,q1⟩=>af (am (bD ?_)))
 obtain⟨v,rfl,b,ob,u,ds,rfl,hp,h64,asc,hP,hB,⟨b1,b2,b3⟩,hk,q⟩:=q1
 obtain⟨u1,rfl,ru⟩:=D4 r1
 cases ru
 show aR (model X.prog X.w) X.A (do
  let l <- evalAll [do let v <- eval (.Lambda lp lb ls lpos) X.env;standAt pos;pure v]
  let ps <- (pure [aX b]:Sem (List Value))
  pure (⟨ps,[("key" : Str)].zip l⟩:Args)) _ _ s1
 have gP:=I1.hok Pt _ hP
 have gB:=(I1.hok bm _ hB).1
 have ns:=I1.mod.glob.keeps I1.bk
 have nG:∀{z} {o},s1.heap.get? z=some o->(∀es ep,o.data≠.dict es ep)->z≠mainGlobals:=λe d z=>by
  obtain⟨o',es,ep,e2,d2,_⟩:=ns
  rw[z,e2] at e;cases e;exact d _ _ d2
 refine af (lY (af (PySem.W.kla_eval hdf (bG (ag _) (PySem.W.kla_makeFunction hcl I1.ok.glob ns hcode (lH I1.kIn hd) gP trivial rfl (cg (nG gP λ_ _ z=>by cases z)) ⟨bm,ob,hbm,?_,nG gB (λes ep z=>by rw[b3] at z;cases z),?_,gB,b1,b2,b3⟩ λc' ctv h' tk hx hge hlt hrec htb htk=>?_)))))
 .obtain⟨mb,nb,_⟩:=I1.mod.blt
  obtain⟨o',es,ep,e2,d2,_⟩:=nb.keeps I1.bk
  rintro rfl
  rw[e2] at gB;cases gB;rw[b3] at d2;cases d2
 .rintro rfl
  rw[hP] at hB;cases hB
 generalize ef:PySem.W.kla_obj "<lambda>" (X.env.qual ++ "<lambda>") lp lb ls [] ((X.mg "__name__").getD .none) c' ctv=fo
 have I2:Inv X ξ σ (upd H1 Pt (.tbl (#[] ++ #[eY lpos.line,eY lpos.col,.ref c']))) {s1 with heap:=h'.push fo,toks:=tk}:=
  I1.grow hP (λb o nb e=>ah _ (hx b o nb e)) (ah _ htb) htk
 have gF:(h'.push fo).get? h'.objs.size=some fo:=by rw[<- ef];exact aE _ rfl
 obtain⟨c2,oc,vs,t,e2,hoc,hdc,hvc⟩:=hrec
 cases e2
 have nP:∀{b},s1.heap.objs.size<=b->b≠Pt:=λh z=>absurd (aG gP) (Nat.not_lt.mpr (z▸h))
 have f1:Cz X ξ (upd H1 Pt (.tbl (#[] ++ #[eY lpos.line,eY lpos.col,.ref c']))) c':=I1.fpOk hge (by rw[Ad (nP hge)];exact I1.hok.fresh hge)
 have hle:=fW (bb hge hlt)
 have f2:Cz X ξ (upd H1 Pt (.tbl (#[] ++ #[eY lpos.line,eY lpos.col,.ref c']))) h'.objs.size:=I1.fpOk hle (by rw[Ad (nP hle)];exact I1.hok.fresh hle)
 have O2:Rs Pt H1 (upd H1 Pt (.tbl (#[] ++ #[eY lpos.line,eY lpos.col,.ref c']))):=λb u nb e=>by rw[Ad nb];exact e
 have nD:∀D,upd H1 Pt (.tbl (#[] ++ #[eY lpos.line,eY lpos.col,.ref c'])) D=none->H1 D=none:=λD e=>by
  by_cases z:D=Pt
  .rw[z,Aa] at e;cases e
  .rwa[Ad z] at e
 generalize upd H1 Pt (.tbl (#[] ++ #[eY lpos.line,eY lpos.col,.ref c']))=H2 at I2 f1 f2 O2 nD
 have I3:Inv X (ξ++[(c',oc),(h'.objs.size,fo)]) σ H2 {s1 with heap:=h'.push fo,toks:=tk}:=I2.pins_of λp hp=>by
  rcases List.mem_append.mp hp with hp|hp
  .exact I2.pin p (aH _ hp)
  .simp only[aD,ce,or_false] at hp
   rcases hp with rfl|rfl
   .exact⟨ah _ hoc,f1.1,f1.2.1,f1.2.2.1,λv z=>by have z:oc.data=.cell v:=z;rw[hdc] at z;cases z⟩
   .exact⟨gF,f2.1,f2.2.1,f2.2.2.1,λv z=>by have z:fo.data=.cell v:=z;rw[<- ef] at z;cases z⟩
 have hp2:SqL X.K H2 b (ds.map (·.2)):=by
  rcases hp with hp|hp
  .rcases hp with hp|⟨o,hp⟩
   .exact .inl (.inl (O2 _ _ (λz=>by rw[z,hP] at hp;cases hp) hp))
   .exact .inl (.inr ⟨o,O2 _ _ (λz=>by rw[z,hP] at hp;cases hp) hp⟩)
  .exact .inr hp
 refine af (d9 (am (wpAny_evalAll_nil (af (am (am ?_))))))
 obtain⟨od,oe⟩:=a17 asc
 refine bJ (Yz (α:=Int×V) (KR:=λd w _=>w=.int d.1) (0,.non) hc I3 (.inl hp2) od h64 (λ{_ _ _ _} _ h=>h) (λd hd pl s' H3 u I' S' ru=>?_) by8 λH3 D S3 nd e3=>q H3 D (λb u nb e=>S3 _ _ (O2 b u nb e)) (nD D nd) (by rw[e3,oe])) (λv s' ⟨y,H',J,r,qq⟩=>⟨y,H',J.unpinned,r,qq⟩) λ_ _ z=>z
 have g1:=(I'.pin (h'.objs.size,fo) (by simp)).1
 have g2:=(I'.pin (c',oc) (by simp)).1
 rw[<- ef] at g1
 have hl:[d.2].length=N.length:=hN.symm
 refine dS (d8 (a65 (k:=j) (E:=λ_ _ _=>False) (Q:=λv H4=>v=.int d.1/\Same H3 H4) hr.in1.in1 I'.env0.in1.in1 g1 ⟨c',oc,vs,t,rfl,g2,hdc,hvc⟩ S (hb _ _ _ _ u) hl (.cons ru .nil) λhr'=>?_) λr s'' hq=>?_)
 .refine⟨_,(aw4 n _ _ (aj8 S hv T hr')).1 lb (λ_ _ _=>False) (λ_ _ _ _ _ _ _ h=>h.elim),?_⟩
  rw[rd]
  exact hk d hd H3 (λb u nb e=>S' _ _ (O2 b u nb e))
 .cases r with
  |error e=>exact bP hq
  |ok fl=>
   cases fl with
   |ret u=>exact I'.after hq
   |next=>exact bP hq
   |brk=>exact bP hq
   |cont=>exact bP hq
end
def bh1{P:aW}{w:bC}{K:ac}{mg:Str->Option Value}{base:Heap}{x qual:Str}{st:Stmt}{f:Addr}{fd:bh}{dV:Value}{a lb:Expr}{da dl:DE}{p kp lpos pos rp:Pos}{c Pt bm:Addr}{lp:Arguments}{ls:Scope}{N ps N':List Str}{j m n:Nat}{gb gb':List (Str×GB)}{bl:List Str}{sp:Sp}(F:FunD K x qual st f fd dV)(S:Cs N ps (Al st))(hv:M9 N (Al st)=true)(T:Tab P w K mg base (j+3) gb bl)(T':Tab P w K mg base j gb' bl)(hst:A9 st=[.Return (some (.Call (.Name "sorted" p) [a] [⟨some "key", .Lambda lp lb ls lpos,kp⟩] pos)) rp])(hg:(Al st).names.lookup ("sorted" : Str)=some .globalImplicit)(hm:mg "sorted"=none)(hs:noStar a=true)(hcode:fd.code=.ref c)(hd:dR K c Pt=true)(hbm:mg "__builtins__"=some (.ref bm))(hcl:∀env,kL ls env=pure [])(hdf:∀env,defaultsOf lp env=([],[]))(S':Cs N' N' ls)(hv':M9 N' ls=true)(hN:N'.length=1)(hb:∀q pm cd ct u,iJ (lq "<lambda>" q lp lb ls [] pm cd ct) ⟨[u],[]⟩=pure (N'.zip [u]))(rd:wE n (Kc K N' ls gb' bl) lb=dl)(ra:wE m (Kc K N (Al st) gb bl) a=da)(len:∀vs H Q E,sp vs H Q E->vs.length=ps.length)(hsp:∀vs H Q E,sp vs H Q E->ba1 K Pt bm N' dl da (Cy N vs) H Q (λ_ _=>False)):FnOk P w K mg base CX0 (j+4) f fd ps sp:=by
 obtain⟨oc,od,kV,doc,pm,an,θ,ct,osl,rfl,lk,hcd⟩:=F.ex
 obtain rfl:θ=.ref c:=hcode
 refine aj3 lk hcd S len λA outer s H vs Q E hr hq=>?_
 have O:=aj8 (outer:=outer) (H:=H) (E:=E) S hv T hr
 have ha:=(aw4 m _ _ O).1 a
 rw[ra] at ha
 have h:=Tp (aq3 (pos:=rp) (a55 (X:=(Hj CX0 P w K mg base N qual (Al st) f (.ref c) A outer s H E).nox) (p:=p) (kp:=kp) (lpos:=lpos) (pos:=pos) (bm:=bm) rfl hg hm ha hs hr T' rfl hd hbm (hcl _) (hdf _) S' hv' hN hb rd)) Ym (λ_ _ _=>False) (λ_ _ _ _ _ _ _ h=>h.elim)
 rw[hst]
 exact⟨_,h.nox,hsp vs H Q E hq⟩
def ag3(H:Hp)(Pt bm:Addr):Prop:=H Pt=some (.tbl #[])/\∃ob u,H bm=some (.frz ob u)/\ob.cls=.type "module" /\ ob.dict=some ju/\ob.data=.plain
def Zt{P:aW}{w:bC}{K:ac}{mg mb:Str->Option Value}{k:Nat}{fa a c Pt bm:Addr}{fd:bh}{x:Str}{sp:Sp}{s₁:aw}{vs:List Value}{ns:List Int}{ob:Obj}(KX:K.In s₁.heap)(hns:s₁.heap.Ns mainGlobals mg)(hb:s₁.heap.Ns ju mb)(hbb:∀x:Str,x ≠ "__name__" -> mb x=cG x)(htk:Xo K s₁.toks)(hlim:s₁.heap.NoLimit)(hg:s₁.gens = #[])(ha:s₁.heap.get? a=some {cls:=.type "list", data:=.seq vs.toArray})(hi:mE vs ns)(hl:ns.length<=sizeLine)(hr:Room k mG)(F:∀base:Heap,K.In base->base.Ns mainGlobals mg->FnOk P w K mg base CX0 k fa fd [x] sp)(hbind:∀(s:aw)(u:Value),lZ s fd ⟨[u],[]⟩ [(x,u)])(hP:s₁.heap.get? Pt=some (jb #[]))(hT:isCodeTable s₁.heap Pt)(hB:s₁.heap.get? bm=some ob)(b1:ob.cls=.type "module")(b2:ob.dict=some ju)(b3:ob.data=.plain)(kP:K.lookup Pt=none)(kB:K.lookup bm=none)(kA:K.lookup a=none)(hsp:∀H:Hp,ag3 H Pt bm->SqL K H a (ns.map V.int)->sp [.ref a] H (λv _=>v=.bl true) λ_ _ _=>False) :
  gN (model P w) mG (.call (.ref fa) ⟨[.ref a],[]⟩) (λr s'=>r=.ok (.ret (.bool true))/\OldK s₁.heap s'.heap/\s'.os=s₁.os/\j2 s'.gens) s₁:=by
 have rv:=Pe hi
 have n1:Pt≠a:=λz=>by rw[z,ha] at hP;cases hP
 have n2:bm≠a:=λz=>by
  rw[z,ha] at hB
  cases hB
  have b1:=b1
  injection b1 with b1
  exact absurd b1 (by decide)
 have n3:bm≠Pt:=λz=>by rw[z,hP] at hB;cases hB;cases b1
 let H:Hp:=λb=>if b=a then some (.frz {cls:=.type "list", data:=.seq vs.toArray} (.lst (ns.map V.int))) else if b=Pt then some (.tbl #[]) else if b=bm then some (.frz ob (.ext λ_=>True)) else none
 have eA:H a=some (.frz {cls:=.type "list", data:=.seq vs.toArray} (.lst (ns.map V.int))):=if_pos rfl
 have eP:H Pt=some (.tbl #[]):=by show(if _ then _ else _)=_;rw[if_neg n1,if_pos rfl]
 have eB:H bm=some (.frz ob (.ext λ_=>True)):=by show(if _ then _ else _)=_;rw[if_neg n2,if_neg n3,if_pos rfl]
 have only:∀b u,H b=some u->(b=a/\u=.frz {cls:=.type "list", data:=.seq vs.toArray} (.lst (ns.map V.int)))\/(b=Pt/\u=.tbl #[])\/(b=bm/\u=.frz ob (.ext λ_=>True)):=λb u e=>by
  by_cases z:b=a
  .rw[z,eA] at e;exact .inl ⟨z,(az e).symm⟩
  by_cases z2:b=Pt
  .rw[z2,eP] at e;exact .inr (.inl ⟨z2,(az e).symm⟩)
  by_cases z3:b=bm
  .rw[z3,eB] at e;exact .inr (.inr ⟨z3,(az e).symm⟩)
  have e:(if b=a then _ else if b=Pt then _ else if b=bm then _ else none)=some u:=e
  rw[if_neg z,if_neg z2,if_neg z3] at e
  cases e
 have hok:HOk P w H s₁.heap:=λb u e=>by
  rcases only b u e with⟨rfl,rfl⟩|⟨rfl,rfl⟩|⟨rfl,rfl⟩
  .exact⟨ha,by rw[ae];exact hl,vs,_,rv,ha⟩
  .exact hP
  .exact⟨hB,trivial,⟨ob,hB⟩,λ_ _ _ _=>trivial⟩
 have base_of:∀{b:Addr}{o:Obj},s₁.heap.get? b=some o->H b=none->(P6 s₁.heap H).get? b=some o:=λe n=>ak0 e n
 have noA:∀{b:Addr}{o:Obj}{es:Array mz}{ep:Nat},s₁.heap.get? b=some o->o.data=.dict es ep->H b=none:=λ{b o es ep} e d=>by
  cases q:H b with
  |none=>rfl
  |some u=>
   rcases only b u q with⟨rfl,_⟩|⟨rfl,_⟩|⟨rfl,_⟩
   .rw[ha] at e;cases e;cases d
   .rw[hP] at e;cases e;cases d
   .rw[hB] at e;cases e;rw[b3] at d;cases d
 have nsK:∀{b:Addr}{m:Str->Option Value},s₁.heap.Ns b m->(P6 s₁.heap H).Ns b m:=λ{b m} ⟨o,es,ep,e,d,r⟩=>⟨o,es,ep,base_of e (noA e d),d,r⟩
 have hKb:K.In (P6 s₁.heap H):=λb o e=>base_of (KX b o e) (by
  cases q:H b with
  |none=>rfl
  |some u=>
   rcases only b u q with⟨rfl,_⟩|⟨rfl,_⟩|⟨rfl,_⟩
   .rw[kA] at e;cases e
   .rw[kP] at e;cases e
   .rw[kB] at e;cases e)
 have hM:Mod K mg (P6 s₁.heap H):=⟨hKb,nsK hns,⟨mb,nsK hb,hbb⟩,let⟨mc,h1,h2⟩:=hlim;⟨mc,nsK h1,h2⟩⟩
 have e0:Env0 P w K mg (P6 s₁.heap H) mG [] s₁ H:=⟨rfl,hM,λb o e=>a26 e,ml (Zn _ _),trivial,λb hb=>absurd (show b∈([]:List Addr) from hb) (by simp),hok,.of_eq hg,htk⟩
 refine d8 ((F _ hKb (nsK hns)).run mG [] s₁ H ⟨[.ref a],[]⟩ [.ref a] [.ref a] _ _ hr e0 (hbind s₁ (.ref a)) (.cons rfl .nil) (hsp H ⟨eP,ob,_,eB,b1,b2,b3⟩ (.inl (.inr ⟨_,eA⟩)))) λr s' h=>?_
 cases r with
 |error e=>exact bP h
 |ok fl=>
  cases fl with
  |next=>exact bP h
  |brk=>exact bP h
  |cont=>exact bP h
  |ret u=>
   obtain⟨v,H',os,bare,un,hok',r',q⟩:=h
   have q':=q
   subst q'
   obtain rfl:u=Value.bool true:=r'
   have keep:∀b o,b≠Pt->s₁.heap.get? b=some o->s'.heap.get? b=some o:=λb o nb e=>by
    cases q:H b with
    |none=>exact un.keep b o e q (by intro z;exact absurd (show b∈([]:List Addr) from z) (by simp)) (by simp)
    |some u=>
     have fz:∀{o':Obj}{u':HO},H b=some (.frz o' u')->s'.heap.get? b=some o:=λz=>by
      have z2:=un.frzs b _ _ z
      obtain⟨e1,_⟩:=hok b _ z
      obtain⟨e2,_⟩:=hok' b _ z2
      rw[e] at e1;cases e1
      exact e2
     rcases only b u q with⟨rfl,rfl⟩|⟨rfl,_⟩|⟨rfl,rfl⟩
     .exact fz eA
     .exact absurd rfl nb
     .exact fz eB
   obtain⟨more,hm⟩:=un.tbls Pt #[] eP
   have gP:=hok' Pt _ hm
   refine⟨rfl,⟨λb o e=>?_,λb o e=>?_⟩,os.1,bare⟩
   .by_cases z:b=Pt
    .subst z
     rw[hP] at e
     cases e
     exact .inr (.inl ⟨hT,rfl,#[],#[]++more,rfl,by rw[Array.empty_append];exact gP⟩)
    .exact .inl (keep b o z e)
   .by_cases z:b=Pt
    .exact⟨_,z▸gP⟩
    .exact⟨o,keep b o z e⟩
def walk_ofT{l:kj}{n k:Nat}{q:aW}{loose:List Str}{XP:(Str->Option Value)->Heap->Prop}{YP:bC->Heap->Prop}{d:DefRec}{K:Params->ac}{sp:bC->Sp}{x:Str}{Pt bm:Addr}(hT:∀(w:bC)(m:Nat),Xo (K w.params) m)(hn:l.most=some n)(hn2:n<=sizeLine)(hdf:d.params.defaults=[])(hr:Room k mG)(hY:∀(w:bC)(h:Heap),YP w h->(K w.params).In h/\h.get? Pt=some (jb #[]))(hK:∀w:bC,(∃c,dR (K w.params) c Pt=true)/\(K w.params).lookup Pt=none/\(K w.params).lookup bm=none/\bT (K w.params) mainGlobals "__builtins__"=some (some (.ref bm))/\((K w.params).all λp=>!(p.2.cls==jt "list"))=true)(F:∀(w:bC)(mg:Str->Option Value)(fa:Addr)(h:Heap),(K w.params).In h->h.Ns mainGlobals mg->mg d.name=some (.ref fa) ->
   ∃fd:bh,(∀(s:aw)(u:Value),lZ s fd ⟨[u],[]⟩ [(x,u)])/\∀base:Heap,(K w.params).In base->base.Ns mainGlobals mg->FnOk l.prog w (K w.params) mg base CX0 k fa fd [x] (sp w))(hsp:∀(w:bC)(H:Hp)(a:Addr)(ns:List Int),ns.length<=n->ag3 H Pt bm->SqL (K w.params) H a (ns.map V.int)->sp w [.ref a] H (λv _=>v=.bl true) λ_ _ _=>False) :
  PySem.W.WalkO q loose XP YP l.row.toRowW d [] (λf vs=>PySem.call f vs):=by
 refine Att.attach_call hn hdf λw s₀ s₁ mg mb fa o pm cd doc a vs ns G Y ho hd hcd hmg hobj hints hlen hg=>?_
 obtain⟨KX,hP⟩:=hY w _ Y
 obtain⟨⟨c,k1⟩,k2,k3,k4,k5⟩:=hK w
 obtain⟨fd,hb,hF⟩:=F w mg fa _ KX G.T.g hmg
 obtain⟨bm',ob,c1,c2,c3,c4,c5,c6⟩:=G.T.bmain
 have eb:bm'=bm:=by
  have:=d7 KX G.T.g k4
  rw[c1] at this
  injection this with this
  injection this
 subst eb
 have kA:(K w.params).lookup a=none:=by
  cases e:(K w.params).lookup a with
  |none=>rfl
  |some o=>
   have:=KX a o e
   rw[hobj] at this
   cases this
   have:=List.all_eq_true.mp k5 _ (PySem.W.mem_of_lookupK e)
   simp at this
 exact Zt (c:=c) KX G.T.g G.T.b G.T.builtins (hT _ _) G.T.nolimit hg hobj hints (aU hlen hn2) hr hF hb hP (((lH KX k1).tab hP).isCodeTable) c3 c4 c5 c6 k2 k3 kA λH h1 h2=>hsp w H a ns hlen h1 h2
theorem Same.upd(h:H a=none):Same H (upd H a o):=λb u e=>by rw[Ad (Ai e h)];exact e
def Same.set(s:Same H H')(h:H a=none):Same H (L2.upd H' a o):=λb u e=>by rw[Ad (Ai e h)];exact s b u e
def Same.seqT{K:ac}{H H':Hp}{a:Addr}{xs:List V}(e:Same H H')(h:SqT K H a xs):SqT K H' a xs:=by
 rcases h with(h|⟨o,h⟩)|h
 .exact .inl (.inl (e _ _ h))
 .exact .inl (.inr ⟨o,e _ _ h⟩)
 .exact .inr h
structure C3 (J:It) (χ:List V) (ok:Hp->Prop):Prop where
 go:∀i H,ok H->i<χ.length->J.go i H
 stop:∀H,ok H->J.stop χ.length H
 yld:∀i H x H',ok H->i<χ.length->J.yld i H x H'->H'=H/\χ[i]?=some x
structure Kr (J:It) (χ:List (V×V)) (ok:Hp->Prop):Prop where
 go:∀i H,ok H->i<χ.length->J.go i H
 stop:∀H,ok H->J.stop χ.length H
 yld:∀i H v H',ok H->i<χ.length->J.yld i H v H' -> ∃T x y,H T=none/\v=.ref T/\χ[i]?=some (x,y)/\H'=upd H T (.tup [x,y])
def F0(z:Str):List V:=z.cps.toList.map λc=>V.str ⟨#[c]⟩
def bu8(z:Str):C3 (Its z) (F0 z) (λ_=>True):=by
 have e:(F0 z).length=z.cps.size:=by unfold F0;simp
 refine⟨λi H _ h=>?_,λH _=>?_,λi H x H' _ _ h=>?_⟩
 .show i<z.cps.size;omega
 .show (F0 z).length=z.cps.size;exact e
 .obtain⟨h1,c,h2,h3⟩:=h
  refine⟨h1,?_⟩
  unfold F0
  rw[ak,cw,h2,h3]
  rfl
def Ay{K:ac}{a:Addr}(xs:List V):C3 (Itl K a) xs (λH=>SqL K H a xs):=by
 refine⟨λi H q h=>⟨xs,xs[i],q,by simp[h]⟩,λH q=>⟨xs,q,ag _⟩,λi H x H' q _ h=>?_⟩
 obtain⟨h1,h2⟩:=h
 exact⟨h1,h2 xs q⟩
def aw8{K:ac}{a:Addr}(xs:List V):C3 (Itt K a) xs (λH=>SqT K H a xs):=by
 refine⟨λi H q h=>⟨xs,xs[i],q,by simp[h]⟩,λH q=>⟨xs,q,ag _⟩,λi H x H' q _ h=>?_⟩
 obtain⟨h1,h2⟩:=h
 exact⟨h1,h2 xs q⟩
def V6(lo:Int)(n:Nat):List V:=(aV n).map λ(i:Nat)=>V.int (lo+(i:Int))
def A0(lo:Int)(n:Nat):(V6 lo n).length=n:=by unfold V6;simp
def Tx{lo:Int}{n i:Nat}(h:i<n):(V6 lo n)[i]?=some (.int (lo+(i:Int))):=by unfold V6;simp[h]
def Bn(lo:Int)(n:Nat):C3 (Itr lo n) (V6 lo n) (λ_=>True):=by
 refine⟨λi H _ h=>?_,λH _=>?_,λi H x H' _ hi h=>?_⟩
 .rw[A0] at h;exact h
 .show n<=(V6 lo n).length;rw[A0];exact ag _
 .obtain⟨h1,h2⟩:=h
  rw[A0] at hi
  exact⟨h1,by rw[Tx hi,h2]⟩
def Ei:Nat->List V->List (V×V)
 |_,[]=>[]
 |k,x::r=>(.int k,x)::Ei (k+1) r
theorem Bu:∀k xs,(Ei k xs).length=xs.length
 |_,[]=>rfl
 |k,_::r=>by rw[Ei,aK,aK,Bu (k+1) r]
theorem C4:∀{k i:Nat} {xs} {x},xs[i]?=some x->(Ei k xs)[i]?=some (.int ((k+i:Nat):Int),x)
 |_,_,[],_,h=>by simp at h
 | k,0,y::r,x,h=>by
  simp only[fw,h_] at h
  subst h
  rfl
 | k,i+1,y::r,x,h=>by
  rw[bK] at h
  rw[Ei,bK,C4 h]
  congr 4
  omega
def Gm{K:ac}{a:Addr}(xs:List V):Kr (Ite K a) (Ei 0 xs) (λH=>SqL K H a xs):=by
 have e:=Bu 0 xs
 refine⟨λi H q h=>⟨xs,xs[i]'(by omega),q,by simp⟩,λH q=>⟨xs,q,by omega⟩,λi H v H' q _ h=>?_⟩
 obtain⟨T,x,hT,h1,h2,h4⟩:=h
 refine⟨T,.int i,x,hT,h1,?_,h4⟩
 have:=C4 (k:=0) (h2 xs q)
 rw[dn] at this
 exact this
section
variable {J:It}{χ:List V}{ok:Hp->Prop}{g:DG}{tb:DS}{D:Outs}{σ:St}{H:Hp}
def A3(Y:C3 J χ ok)(Pv:Nat->St->Hp->Prop)(h0:Pv 0 σ H)(hok:∀i σ H,i<=χ.length->Pv i σ H->ok H)(hs:∀i x σ H,χ[i]?=some x->Pv i σ H->g x σ H λσ2 H2=>tb (D.lp (Pv (i+1))) σ2 H2)(hd:∀ σ H,Pv χ.length σ H->D.nx σ H):Um J g tb D σ H:=by
 refine⟨λi m σ H=>m=χ.length-i/\i<=χ.length/\Pv i σ H,⟨χ.length,by simp,bw _,h0⟩,?_⟩
 rintro i m σ H ⟨rfl,hi,p⟩
 by_cases hlt:i<χ.length
 .refine .inr ⟨Y.go i H (hok i σ H hi p) hlt,Pv (i+1),λσ' H' p'=>⟨χ.length-(i+1),by omega,rfl,hlt,p'⟩,λx H' y=>?_⟩
  obtain⟨e,y2⟩:=Y.yld i H x H' (hok i σ H hi p) hlt y
  subst e
  exact hs i x σ _ y2 p
 .have e:i=χ.length:=by omega
  subst e
  exact .inl ⟨Y.stop H (hok _ σ H hi p),hd σ H p⟩
def Kw{χ:List (V×V)}(Y:Kr J χ ok)(Pv:Nat->St->Hp->Prop)(h0:Pv 0 σ H)(hok:∀i σ H,i<=χ.length->Pv i σ H->ok H)(hs:∀i x y T σ H,χ[i]?=some (x,y)->H T=none->Pv i σ H->g (.ref T) σ (upd H T (.tup [x,y])) λσ2 H2=>tb (D.lp (Pv (i+1))) σ2 H2)(hd:∀ σ H,Pv χ.length σ H->D.nx σ H):Um J g tb D σ H:=by
 refine⟨λi m σ H=>m=χ.length-i/\i<=χ.length/\Pv i σ H,⟨χ.length,by simp,bw _,h0⟩,?_⟩
 rintro i m σ H ⟨rfl,hi,p⟩
 by_cases hlt:i<χ.length
 .refine .inr ⟨Y.go i H (hok i σ H hi p) hlt,Pv (i+1),λσ' H' p'=>⟨χ.length-(i+1),by omega,rfl,hlt,p'⟩,λx H' y=>?_⟩
  obtain⟨T,u,v,hT,e1,e2,e3⟩:=Y.yld i H x H' (hok i σ H hi p) hlt y
  subst e1 e3
  exact hs i u v T σ _ e2 hT p
 .have e:i=χ.length:=by omega
  subst e
  exact .inl ⟨Y.stop H (hok _ σ H hi p),hd σ H p⟩
variable {tc:DT}{te:DE}{L:Addr}{R:Hp->Prop}{E:EK}
def Cu(Y:C3 J χ ok)(Pv:Nat->St->Hp->Prop)(h0:Pv 0 σ H)(hok:∀i σ H,i<=χ.length->Pv i σ H->ok H)(hs:∀i x σ H,χ[i]?=some x->Pv i σ H->g x σ H λσ3 H3=>tc σ3 H3 (λb H4=>if b=true then te σ3 H4 (λv H5=>∃ys,H5 L=some (.lst ys)/\ys.length<sizeLine/\Pv (i+1) σ3 (upd H5 L (.lst (ys++[v])))) E else Pv (i+1) σ3 H4) E)(hd:∀ σ H,Pv χ.length σ H->R H):Ez J g tc te L R σ H E:=by
 refine⟨λi m σ H=>m=χ.length-i/\i<=χ.length/\Pv i σ H,⟨χ.length,by simp,bw _,h0⟩,?_⟩
 rintro i m σ H ⟨rfl,hi,p⟩
 by_cases hlt:i<χ.length
 .refine .inr ⟨Y.go i H (hok i σ H hi p) hlt,Pv (i+1),λσ' H' p'=>⟨χ.length-(i+1),by omega,rfl,hlt,p'⟩,λx H' y=>?_⟩
  obtain⟨e,y2⟩:=Y.yld i H x H' (hok i σ H hi p) hlt y
  subst e
  exact hs i x σ _ y2 p
 .have e:i=χ.length:=by omega
  subst e
  exact .inl ⟨Y.stop H (hok _ σ H hi p),hd σ H p⟩
def Pr{χ:List (V×V)}(Y:Kr J χ ok)(Pv:Nat->St->Hp->Prop)(h0:Pv 0 σ H)(hok:∀i σ H,i<=χ.length->Pv i σ H->ok H)(hs:∀i x y T σ H,χ[i]?=some (x,y)->H T=none->Pv i σ H->g (.ref T) σ (upd H T (.tup [x,y])) λσ3 H3=>tc σ3 H3 (λb H4=>if b=true then te σ3 H4 (λv H5=>∃ys,H5 L=some (.lst ys)/\ys.length<sizeLine/\Pv (i+1) σ3 (upd H5 L (.lst (ys++[v])))) E else Pv (i+1) σ3 H4) E)(hd:∀ σ H,Pv χ.length σ H->R H):Ez J g tc te L R σ H E:=by
 refine⟨λi m σ H=>m=χ.length-i/\i<=χ.length/\Pv i σ H,⟨χ.length,by simp,bw _,h0⟩,?_⟩
 rintro i m σ H ⟨rfl,hi,p⟩
 by_cases hlt:i<χ.length
 .refine .inr ⟨Y.go i H (hok i σ H hi p) hlt,Pv (i+1),λσ' H' p'=>⟨χ.length-(i+1),by omega,rfl,hlt,p'⟩,λx H' y=>?_⟩
  obtain⟨T,u,v,hT,e1,e2,e3⟩:=Y.yld i H x H' (hok i σ H hi p) hlt y
  subst e1 e3
  exact hs i u v T σ _ e2 hT p
 .have e:i=χ.length:=by omega
  subst e
  exact .inl ⟨Y.stop H (hok _ σ H hi p),hd σ H p⟩
def Fe{α β:Type}{χ:List α}{i:Nat}{x:α}(h:χ[i]?=some x)(p:α->Bool)(f:α->β):((χ.take (i+1)).filter p).map f=((χ.take i).filter p).map f++(if p x=true then [f x] else []):=by
 rw[aJ,h]
 congr 1
 cases e:p x <;> simp[e]
def Ps(Y:C3 J χ ok)(Sg:St->Prop)(p:V->Bool)(f:V->V)(h0:H L=none)(hok:∀H1,Same H H1->ok H1)(hn:χ.length<sizeLine)(hσ:Sg σ)(hs:∀x σ H1,x∈χ->Sg σ->Same H H1 -> ∀(Fin:V->St->Hp->Prop)(Skip:St->Hp->Prop),(∀v σ3 H5,Sg σ3->Same H1 H5->p x=true->v=f x->Fin v σ3 H5)->(∀ σ3 H4,Sg σ3->Same H1 H4->p x=false->Skip σ3 H4) ->
   g x σ H1 λσ3 H3=>tc σ3 H3 (λb H4=>if b=true then te σ3 H4 (λv H5=>Fin v σ3 H5) E else Skip σ3 H4) E)(hd:∀H',Same H H'->H' L=some (.lst ((χ.filter p).map f))->R H'):Ez J g tc te L R σ (upd H L (.lst [])) E:=by
 refine Cu Y (λi σ' H'=>Sg σ'/\Same H H'/\H' L=some (.lst (((χ.take i).filter p).map f))) ⟨hσ,Same.upd h0,Aa⟩ (λi σ' H' _ q=>hok H' q.2.1) ?_ ?_
 .rintro i x σ' H' hx ⟨q1,q2,q3⟩
  have hi:=(List.getElem?_eq_some_iff.mp hx).1
  refine hs x σ' H' (aj hx) q1 q2 (λv σ3 H5=>∃ys,H5 L=some (.lst ys)/\ys.length<sizeLine/\Sg σ3/\Same H (upd H5 L (.lst (ys++[v])))/\upd H5 L (.lst (ys++[v])) L=some (.lst (((χ.take (i+1)).filter p).map f)))
   (λσ3 H4=>Sg σ3/\Same H H4/\H4 L=some (.lst (((χ.take (i+1)).filter p).map f))) (λv σ3 H5 s1 s2 hp hv=>?_) (λσ3 H4 s1 s2 hp=>?_)
  .refine⟨_,s2 _ _ q3,?_,s1,(q2.trans s2).set h0,?_⟩
   .rw[ae]
    have h1:=cx p (χ.take i)
    have h2:(χ.take i).length<=i:=by rw[aM];omega
    omega
   .rw[Aa,Fe hx,if_pos hp,hv]
  .refine⟨s1,q2.trans s2,?_⟩
   rw[s2 _ _ q3,Fe hx,if_neg (by rw[hp];exact aC),b7]
 .rintro σ' H' ⟨_,q2,q3⟩
  rw[aA] at q3
  exact hd H' q2 q3
end
section
variable {K:ac}{H H':Hp}
def Same.seqL(e:Same H H')(h:SqL K H a xs):SqL K H' a xs:=by
 rcases h with(h|⟨o,h⟩)|h
 .exact .inl (.inl (e _ _ h))
 .exact .inl (.inr ⟨o,e _ _ h⟩)
 .exact .inr h
def Xu:AtL K H [] []:=by unfold AtL;rfl
def R0(h:At K H d x)(t:AtL K H ds xs):AtL K H (d::ds) (x::xs):=by unfold AtL;exact⟨x,xs,rfl,h,t⟩
def Pj(h:SqT K H a xs)(g:AtL K H ds xs):At K H (.tup ds) (.ref a):=by unfold At;exact⟨a,xs,rfl,h,g⟩
def ag7(h:SqL K H a xs)(g:AtL K H ds xs):At K H (.lst ds) (.ref a):=by unfold At;exact⟨a,xs,rfl,h,g⟩
def az2(f:Br v=true):At K H (.at_ v) v:=by unfold At;exact⟨rfl,f⟩
end
theorem R7{α:Type}{f:α->Dt}{n:Nat}(h:∀a,dep (f a)<=n):∀(l:List α),Eg (l.map f)<=n
 |[]=>by unfold kJ Eg;exact bw _
 | a::l=>by
  rw[aT]
  exact Nat.max_le.mpr ⟨h a,R7 h l⟩
section
variable {K:ac}{H H':Hp}
def ag4(Y:C3 J χ ok)(Sg:St->Prop)(hD:H D=none)(hok:∀H1,Same H H1->ok H1)(hn:χ.length<sizeLine)(hσ:Sg σ)(hS:∀ σ x,Sg σ->Sg (σ.set 0 (some x)))(he:∀x σ H1 Q1,x∈χ->Sg σ->Same H H1->(∀H2,Same H1 H2->Q1 (.bl true) H2)->te (σ.set 0 (some x)) H1 Q1 E)(k:∀H',Same H H'->SqL K H' D ((χ.map λ_=>true).map V.bl)->R H') :
  Ez J (gdN 0) Cg te D R σ (upd H D (.lst [])) E:=by
 refine Ps Y Sg (λ_=>true) (λ_=>.bl true) hD hok hn hσ ?_ ?_
 .intro x σ H1 hx hs S Fin Skip hF hK
  exact he x σ H1 _ hx hs S λH2 S2=>hF _ _ _ (hS _ _ hs) S2 rfl rfl
 .intro H' S hD'
  exact k H' S (SqL.of (hD'.trans (by rw[List.filter_eq_self.mpr (λ_ _=>rfl),aB];rfl)))
def Xt(χ:List V):((χ.map λ_=>true).all λb=>b)=true:=by rw[ip,bj];exact λ_ _=>rfl
end
end L2
namespace L2
open PySem PySem.Spec PySem.W
structure XC (K:ac) (C:Addr) (bm:List Value):Prop where
 lk:∃nm q N bs sn sub ab col dd k0 k1 k2 k3 k5,K.lookup C=some (f_ nm q C N bs bm true sn sub ab col dd k0 k1 k2 k3 k5 "ValueError.__new__")
 ty:typeIn K (.ref C)=some (.type "type")
 sa:findIn K (.ref C) "__setattr__"=some (some (.builtin "object.__setattr__"))
 ga:findIn K (.ref C) "__getattribute__"=some (some (.builtin "BaseException.__getattribute__"))
 gt:findIn K (.ref C) "__getattr__"=some none
 ca:findIn K (.ref C) "__class__"=some (some (.builtin "object.__class__"))
 hn:specialIn K (.builtin "object.__class__") "__get__"=some (some (.builtin "getset_descriptor.__get__"))
 htk:takesIn K (.builtin "object.__class__")=some true
def xc_mk{K:ac}{C N:Addr}{bm bs:List Value}{nm q:Str}{sn:List Str}{sub:List Value}{ab:Bool}{col:Option Bool}{dd:Option Addr}{k0 k1 k2 k3 k5:Option Value}(lk:K.lookup C=some (f_ nm q C N bs bm true sn sub ab col dd k0 k1 k2 k3 k5 "ValueError.__new__"))(ty:typeIn K (.ref C)=some (.type "type"))(sa:findIn K (.ref C) "__setattr__"=some (some (.builtin "object.__setattr__")))(ga:findIn K (.ref C) "__getattribute__"=some (some (.builtin "BaseException.__getattribute__")))(gt:findIn K (.ref C) "__getattr__"=some none)(ca:findIn K (.ref C) "__class__"=some (some (.builtin "object.__class__")))(hn:specialIn K (.builtin "object.__class__") "__get__"=some (some (.builtin "getset_descriptor.__get__")))(htk:takesIn K (.builtin "object.__class__")=some true):XC K C bm:=⟨⟨_,_,_,_,_,_,_,_,_,_,_,_,_,_,lk⟩,ty,sa,ga,gt,ca,hn,htk⟩
def XC.ecls(x:XC K C bm)(h:Bc bm=true):ECls K C:=by
 obtain⟨nm,q,N,bs,sn,sub,ab,col,dd,k0,k1,k2,k3,k5,lk⟩:=x.lk
 exact⟨⟨_,_,_,_,bm,true,_,_,_,_,_,_,_,_,_,_,lk,h,rfl⟩,x.sa,x.ga,x.gt,x.ca,x.hn,x.htk⟩
def XC.cls(x:XC K C bm):∃cd,mI K C=some cd/\cd.mro=.ref C::bm:=by
 obtain⟨nm,q,N,bs,sn,sub,ab,col,dd,k0,k1,k2,k3,k5,lk⟩:=x.lk
 exact⟨_,by unfold mI;rw[lk],rfl⟩
def XC.kit(x:XC K C bm)(y:XC K D bd)(h:(aX C::bm).contains (.ref D)=b):kitOne K (.ref C) (.ref D)=some b:=by
 obtain⟨cd,h1,h2⟩:=x.cls
 obtain⟨cd',h3,_⟩:=y.cls
 unfold kitOne
 by_cases e:(aX C==aX D)=true
 .rw[if_pos e]
  have e':=(cz e).symm
  rw[<- h,bQ,e']
  simp
 .rw[if_neg e]
  unfold kitCls
  dsimp only
  rw[h3,y.ty,if_pos (by rfl)]
  show mroIn K C (.ref D)=_
  unfold mroIn
  rw[h1,cL,h2,h]
  rfl
def J3{K:ac}{fd:bh}{ps:List Str}{T:Addr}{o:Obj}{ψ:Array Value}{n:Nat}{ds:List Value}(m:Nat)(hd:fd.defaults=.ref T)(ho:K.lookup T=some o)(hs:o.data=.seq ψ n)(hm:m+ds.length=ps.length)(h:∀us,us.length=m -> ∃k,iJ fd ⟨us,[]⟩=seqItems? fd.defaults >>= k/\k (some ψ)=pure (ps.zip (us++ds))):Binds K fd ps ds:=
 Ur hd ho hs λus hl=>h us (by rw[aI] at hl;omega)
end L2
namespace L2
open PySem PySem.Spec PyProof.Rows
open Sem (wp)
section
variable {X:Cx}{ξ:List (Addr×Obj)}{σ:St}{H:Hp}{s:aw}{a C:Addr}{dx:Option Addr}{h':Heap}
def ao2(X:Cx):J1 (CXE X.prog X.w) X:=by
 intro Ex m ξ σ H s e s' I h
 obtain⟨a,H',rfl,os,bare,u,hok,F,a',e',hE⟩:=h
 cases e'
 have I':=I.call' os u hok bare (λb z=>absurd z (by simp))
 obtain⟨C,dx,vs,T,oT,ts,h1,h2,h3,h4,h5,h6,h7,h8,h9,h10⟩:=F
 exact m ξ σ H' s' a I' ⟨C,dx,vs,h1,h2,h3,.inr ⟨T,oT,ts,h4,h5,h6,h7,⟨_,h8⟩,I.fpOk h9 h10⟩⟩ hE
end
section
variable {P:aW}{w:bC}{K:ac}{mg:Str->Option Value}{base:Heap}
def Zx :
  Meets (Hj (CXE P w) P w K mg base N qual scope f θ A outer s H E) (λ_ a H'=>E (.ref a) none H'):=by
 intro ξ σ H1 s1 a I F hE
 refine af (Yd I rfl rfl F λs' I' F'=>?_)
 obtain⟨C,dx,vs,T,oT,ts,h1,h2,h3,q1,q2,q3,q4,q5,q6⟩:=F'
 exact⟨a,H1,rfl,I'.os,I'.bare,I'.base,I'.hok,⟨C,dx,vs,T,oT,ts,h1,h2,h3,q1,q2,q3,q4,q5,q6.2.2.2.1.elim (λz=>absurd z (by simp[Hj])) id,q6.1⟩,hE⟩
def X4(Q:VK)(E:XK):Outs:=⟨λ_ H'=>Q .non H',Q,λ_ _=>False,λ_ _=>False,λ_ a H'=>E (.ref a) none H'⟩
def FunD.okWX{x qual:Str}{st:Stmt}{f:Addr}{fd:bh}{N ps:List Str}{k n:Nat}{sp:Sp}{gb:List (Str×GB)}{bl:List Str}{t:DS}{dV:Value}(F:FunD K x qual st f fd dV)(S:Cs N ps (Al st))(hv:M9 N (Al st)=true)(T:Tab P w K mg base k gb bl)(rd:wSs n (Kc K N (Al st) gb bl) (A9 st)=t)(len:∀vs H Q E,sp vs H Q E->vs.length=ps.length)(hbody:∀vs H Q E,sp vs H Q E->t (X4 Q E) (Cy N vs) H):FnOk P w K mg base (CXE P w) (k+1) f fd ps sp:=by
 obtain⟨oc,od,kV,doc,pm,an,θ,ct,osl,rfl,lk,hcd⟩:=F.ex
 refine aj3 lk hcd S len λA outer s H vs Q E hr h=>?_
 have O:GOk (Hj (CXE P w) P w K mg base N qual (Al st) f θ A outer s H E) (Kc K N (Al st) gb bl):=by
  refine⟨rfl,S.kind,(λ_=>PassesOwn.leaving),rfl,S.nd,λx=>rfl,λx hx=>?_,λ_ _=>rfl,rfl,(λ_=>hr.hd),hr.units,λx hx=>?_,λx g e=>?_,λx hx=>?_,(λ_=>⟨rfl,rfl⟩),⟨_,_,_,rfl,rfl,rfl⟩⟩
  .have:=List.all_eq_true.mp hv x hx
   rw[cS] at this
   exact this.elim (λz=>.inl (cz z)) λz=>.inr (.inl (cz z))
  .rcases hx with hx|hx
   .exact Fi hx
   .exact absurd rfl (S.nofree _ (bX hx))
  .exact (T.all x g e).there hr
  .exact T.bl x (by have hx':bl.contains x=true:=hx;simpa using hx')
 refine⟨_,(bd5 n _ _ O).2 (A9 st) (λ_ a H'=>E (.ref a) none H') Zx,?_⟩
 rw[rd]
 exact hbody vs H Q E h
end
end L2
namespace Pn
open PySem L2
abbrev Sw:=List (Str×List Str)
def K7(c:Nat):Bool:=decide (97<=c)&&decide (c<=122)
def okW(z:Str):Prop:=1<=z.length/\z.length<=8/\z.cps.toList.all K7=true
def okL(l:List Str):Prop:=(∀z∈l,okW z)/\l.Nodup/\l.length<=8
def Gu(l:List Str):Prop:=okL l/\2<=l.length/\l.length<=4
def Cr(sw:Sw):Nat:=sw.foldl (λn x=>n*x.2.length) 1
def okSw(sw:Sw):Prop:=1<=sw.length/\sw.length<=5/\(sw.map (·.1)).Nodup/\(∀x∈sw,okW x.1/\Gu x.2)/\Cr sw<=256
def Er(acc:List (List Str))(x:Str×List Str):List (List Str):=acc.flatMap λa=>x.2.map λz=>a++[z]
def Aj(sw:Sw):List (List Str):=sw.foldl Er [[]]
def ab1(ns:List Nat):Int:=ns.foldl (λc n=>cT c (2^n)) 0
def G5(ms:List Int):Int:=ms.foldl (λc m=>cT c m) 0
def Dz(p:Nat)(z:Str):Nat->List (List Str)->List Nat
 |_,[]=>[]
 |k,r::rs=>if r[p]?=some z then k::Dz p z (k+1) rs else Dz p z (k+1) rs
def Em(rows:List (List Str))(p:Nat)(z:Str):Int:=ab1 (Dz p z 0 rows)
def G0(sw:Sw)(w:Str):Nat:=sw.findIdx λx=>decide (x.1=w)
def J9(sw:Sw)(e:Str×List Str):Int:=G5 (e.2.map (Em (Aj sw) (G0 sw e.1)))
def Rv(sw:Sw):Int:=2^(Aj sw).length-1
def ah2(sw:Sw)(rule:Sw):Int:=rule.foldl (λc e=>cA c (J9 sw e)) (Rv sw)
def J2(sw:Sw)(ζ:List Sw):List Int:=ζ.map (ah2 sw)
def Lq(sw:Sw)(ζ:List Sw):Int:=cA (Rv sw) (cr (G5 (J2 sw ζ)))
def Jn(sw:Sw)(e:Str×List Str):Prop:=e.2≠[]/\okL e.2/\∃x∈sw,x.1=e.1/\∀z∈e.2,z∈x.2
def E5(sw:Sw)(rule:Sw):Prop:=rule≠[]/\rule.length<=100/\(rule.map (·.1)).Nodup/\∀e∈rule,Jn sw e
def Pb(acc:List (List Str))(x:Str×List Str):(Er acc x).length=acc.length*x.2.length:=by
 unfold Er
 induction acc with
 |nil=>simp
 |cons a acc ih=>rw[hZ,aI,ih,ae,aK,Nat.add_mul,Nat.one_mul,mj]
theorem Ig:∀(sw:Sw) acc,(sw.foldl Er acc).length=sw.foldl (λn x=>n*x.2.length) acc.length
 |[],_=>rfl
 |x::sw,acc=>by rw[b9,b9,Ig sw,Pb]
def Ie(sw:Sw):(Aj sw).length=Cr sw:=Ig sw [[]]
def Mh(k:Nat)(rs:List (List Str)):Prop:=rs.Nodup/\(∀r∈rs,r.length=k)/\∀r∈rs,∀z∈r,okW z
def av2(h:Mh k acc)(hx:Gu x.2):Mh (k+1) (Er acc x):=by
 obtain⟨h1,h2,h3⟩:=h
 refine⟨?_,?_,?_⟩
 .unfold Er
  clear h3
  induction acc with
  |nil=>exact im
  |cons a acc ih=>
   rw[hZ,eQ]
   rw[bS] at h1
   refine⟨?_,ih h1.2 (λr hr=>h2 r (av _ hr)),?_⟩
   .refine hX _ ?_ hx.1.2.1
    intro y z ne e
    exact ne (by simpa using e)
   .intro r hr q hq e
    subst e
    obtain⟨y,hy,rfl⟩:=List.mem_map.mp hr
    obtain⟨b,hb,hq⟩:=List.mem_flatMap.mp hq
    obtain⟨z,hz,e⟩:=List.mem_map.mp hq
    have:b=a/\z=y:=by simpa using e
    rw[this.1] at hb
    exact h1.1 hb
 .intro r hr
  obtain⟨b,hb,hq⟩:=List.mem_flatMap.mp hr
  obtain⟨z,hz,rfl⟩:=List.mem_map.mp hq
  rw[aI,h2 b hb]
  rfl
 .intro r hr y hy
  obtain⟨b,hb,hq⟩:=List.mem_flatMap.mp hr
  obtain⟨z,hz,rfl⟩:=List.mem_map.mp hq
  rcases List.mem_append.mp hy with hy|hy
  .exact h3 b hb y hy
  .have:y=z:=by simpa using hy
   subst this
   exact hx.1.1 _ hz
theorem J8:∀{sw:Sw} {k} {acc},Mh k acc->(∀x∈sw,Gu x.2)->Mh (k+sw.length) (sw.foldl Er acc)
 |[],_,_,h,_=>h
 | x::sw,k,acc,h,hs=>by
  have:=J8 (av2 h (hs x (aQ))) (λy hy=>hs y (av _ hy))
  rw[b9,aK,show k+(sw.length+1)=k+1+sw.length by omega]
  exact this
def Ih(h:∀x∈sw,Gu x.2):Mh sw.length (Aj sw):=by
 have:=J8 (k:=0) (acc:=[[]]) ⟨by simp,by simp,by simp⟩ h
 rwa[dn] at this
theorem Db:∀{sw:Sw} {n},1<=n->(∀x∈sw,Gu x.2)->n<=sw.foldl (λn x=>n*x.2.length) n
 |[],n,_,_=>ag _
 | x::sw,n,h,hs=>by
  rw[b9]
  have h2:=(hs x aQ).2.1
  have:n<=n*x.2.length:=Nat.le_mul_of_pos_right _ (by omega)
  exact aU this (Db (by omega) (λy hy=>hs y (av _ hy)))
def okSw.sets(h:okSw sw):∀x∈sw,Gu x.2:=λx hx=>(h.2.2.2.1 x hx).2
def okSw.len(h:okSw sw):(Aj sw).length<=256:=by rw[Ie];exact h.2.2.2.2
def okSw.pos(h:okSw sw):1<=(Aj sw).length:=by rw[Ie];exact Db (ag 1) h.sets
def aa1(h:okSw sw)(i:Nat):Cr (sw.take i)<=Cr sw:=by
 conv=>rhs;rw[<- List.take_append_drop i sw]
 unfold Cr
 rw[gd]
 exact Db (Db (ag 1) λx hx=>h.sets x (eG hx)) λx hx=>h.sets x (List.mem_of_mem_drop hx)
def Cn{α β:Type}{l:List α}{i:Nat}{x:α}(h:l[i]?=some x)(f:β->α->β)(b:β):(l.take (i+1)).foldl f b=f ((l.take i).foldl f b) x:=by
 rw[aJ,h,dZ,gd]
 rfl
def B0{α β:Type}{l:List α}{i:Nat}{x:α}(h:l[i]?=some x)(f:α->β):(l.take (i+1)).map f=(l.take i).map f++[f x]:=by
 rw[aJ,h,dZ,aq]
 rfl
abbrev Own(ok:Addr->Prop)(H:Hp)(a:Addr)(o:HO):Prop:=ok a/\H a=some o
abbrev Kp(ok:Addr->Prop)(H:Hp)(ok':Addr->Prop)(H':Hp):Prop:=∀a o,Own ok H a o->Own ok' H' a o
abbrev fresh(H:Hp):Addr->Prop:=λa=>H a=none
abbrev any:Addr->Prop:=λ_=>True
def Kp.same(S:Same H H'):Kp ok H ok H':=λa o h=>⟨h.1,S _ _ h.2⟩
theorem Kp.any:Kp ok H Pn.any H:=λa o h=>⟨trivial,h.2⟩
def Kp.weak(h:∀a,ok a->ok' a):Kp ok H ok' H:=λa o q=>⟨h a q.1,q.2⟩
def Kp.trans(h:Kp ok1 H1 ok2 H2)(g:Kp ok2 H2 ok3 H3):Kp ok1 H1 ok3 H3:=λa o q=>g a o (h a o q)
def aa9(S:Same H H')(h:H' a=none):H a=none:=by
 cases e:H a with
 |none=>rfl
 |some o=>rw[S _ _ e] at h;cases h
theorem Kp.fresh(S:Same H1 H2):Kp (fresh H2) H (Pn.fresh H1) H:=Kp.weak λa h=>aa9 S h
def Kp.off(h:¬ ok p):Kp ok H ok (upd H p o):=λa u q=>⟨q.1,by
 have n:a≠p:=λe=>h (by rw[<- e];exact q.1)
 rw[Ad n];exact q.2⟩
abbrev kR(x:(Str×List Str)×Addr):Key×V:=(.inr x.1.1,.ref x.2)
abbrev Eu(r:List Str):HO:=.tup (r.map V.str)
abbrev Bd(r:List Str):HO:=.lst (r.map V.str)
def SwAt(ok:Addr->Prop)(H:Hp)(d:Addr)(sw:Sw):Prop:=∃ds:List ((Str×List Str)×Addr),ds.map (·.1)=sw/\Own ok H d (.dK (ds.map kR))/\∀x∈ds,Own ok H x.2 (Eu x.1.2)
def RuleAt(ok:Addr->Prop)(H:Hp)(d:Addr)(sw:Sw):Prop:=∃ds:List ((Str×List Str)×Addr),ds.map (·.1)=sw/\Own ok H d (.dK (ds.map kR))/\∀x∈ds,Own ok H x.2 (Bd x.1.2)
def TupsAt(ok:Addr->Prop)(H:Hp)(l:Addr)(rows:List (List Str)):Prop:=∃ds:List (List Str×Addr),ds.map (·.1)=rows/\Own ok H l (.lst (ds.map λx=>.ref x.2))/\∀x∈ds,Own ok H x.2 (Eu x.1)
def SwIn(ok:Addr->Prop)(H:Hp)(l:Addr)(sw:Sw):Prop:=∃ds:List (((Str×List Str)×Addr)×Addr),ds.map (·.1.1)=sw/\Own ok H l (.lst (ds.map λx=>.ref x.2))/\∀x∈ds,Own ok H x.2 (.tup [.str x.1.1.1,.ref x.1.2])/\Own ok H x.1.2 (Bd x.1.1.2)
def a25(r:List Str):TK:=.tup (r.map λz=>.at_ (.inr z))
def NumAt(ok:Addr->Prop)(H:Hp)(n:Addr)(_:List (List Str)):Prop:=∃kvs,Own ok H n (.dT kvs)
def V8(rows:List (List Str))(i:Nat)(l:List Str):HO:=.dK (l.map λz=>(.inr z,.int (Em rows i z)))
def SetsAt(ok:Addr->Prop)(H:Hp)(d:Addr)(sw:Sw):Prop:=∃ds:List ((Str×List Str)×Addr),ds.map (·.1)=sw/\Own ok H d (.dK (ds.map kR))/\∀i x,ds[i]?=some x->Own ok H x.2 (V8 (Aj sw) i x.1.2)
def RulesAt(ok:Addr->Prop)(H:Hp)(k:Addr)(ζ:List Sw):Prop:=∃ds:List (Sw×Addr),ds.map (·.1)=ζ/\Own ok H k (.lst (ds.map λx=>.ref x.2))/\∀x∈ds,RuleAt ok H x.2 x.1
section
variable {ok ok':Addr->Prop}{H H':Hp}{d:Addr}{sw:Sw}{rows:List (List Str)}{ζ:List Sw}
def SwAt.mono(h:SwAt ok H d sw)(k:Kp ok H ok' H'):SwAt ok' H' d sw:=by
 obtain⟨ds,e,o,q⟩:=h;exact⟨ds,e,k _ _ o,λx hx=>k _ _ (q x hx)⟩
def RuleAt.mono(h:RuleAt ok H d sw)(k:Kp ok H ok' H'):RuleAt ok' H' d sw:=by
 obtain⟨ds,e,o,q⟩:=h;exact⟨ds,e,k _ _ o,λx hx=>k _ _ (q x hx)⟩
def TupsAt.mono(h:TupsAt ok H d rows)(k:Kp ok H ok' H'):TupsAt ok' H' d rows:=by
 obtain⟨ds,e,o,q⟩:=h;exact⟨ds,e,k _ _ o,λx hx=>k _ _ (q x hx)⟩
def SwIn.mono(h:SwIn ok H d sw)(k:Kp ok H ok' H'):SwIn ok' H' d sw:=by
 obtain⟨ds,e,o,q⟩:=h;exact⟨ds,e,k _ _ o,λx hx=>⟨k _ _ (q x hx).1,k _ _ (q x hx).2⟩⟩
def SetsAt.mono(h:SetsAt ok H d sw)(k:Kp ok H ok' H'):SetsAt ok' H' d sw:=by
 obtain⟨ds,e,o,q⟩:=h;exact⟨ds,e,k _ _ o,λi x hx=>k _ _ (q i x hx)⟩
theorem RulesAt.mono(h:RulesAt ok H d ζ)(k:Kp ok H ok' H'):RulesAt ok' H' d ζ:=by
 obtain⟨ds,e,o,q⟩:=h;exact⟨ds,e,k _ _ o,λx hx=>(q x hx).mono k⟩
def NumAt.mono(h:NumAt ok H d rows)(k:Kp ok H ok' H'):NumAt ok' H' d rows:=let⟨kvs,h⟩:=h;⟨kvs,k _ _ h⟩
end
def bw8(d l n s k b:Addr)(f:Int):List (Str×V):=[("settings", .ref d),("tuples", .ref l),("numbers", .ref n),("sets", .ref s),("kept_rules", .ref k),("bars", .ref b),("free", .int f)]
structure PanAt (C:Addr) (ok:Addr->Prop) (H:Hp) (p:Addr) (sw:Sw) (ζ:List Sw) (dx d l n s k b:Addr):Prop where
 ins:Own ok H p (.ins C dx (bw8 d l n s k b (Lq sw ζ)))
 sws:SwAt ok H d sw
 tps:TupsAt ok H l (Aj sw)
 nms:NumAt ok H n (Aj sw)
 sts:SetsAt ok H s sw
 rls:RulesAt ok H k ζ
 brs:Own ok H b (.lst ((J2 sw ζ).map V.int))
def PanelAt(C:Addr)(ok:Addr->Prop)(H:Hp)(p:Addr)(sw:Sw)(ζ:List Sw):Prop:=∃dx d l n s k b,PanAt C ok H p sw ζ dx d l n s k b
theorem PanelAt.mono(h:PanelAt C ok H p sw ζ)(k:Kp ok H ok' H'):PanelAt C ok' H' p sw ζ:=by
 obtain⟨dx,d,l,n,s,kk,b,h⟩:=h
 exact⟨dx,d,l,n,s,kk,b,⟨k _ _ h.ins,h.sws.mono k,h.tps.mono k,h.nms.mono k,h.sts.mono k,h.rls.mono k,k _ _ h.brs⟩⟩
def SelfAt(C:Addr)(ok:Addr->Prop)(H:Hp)(p l s:Addr):Prop:=∃dx fs,Own ok H p (.ins C dx fs)/\fs.lookup ("tuples" : Str)=some (.ref l)/\fs.lookup ("sets" : Str)=some (.ref s)/\∀m∈(["all_choices","box","many","term","read_rule","read_rules"]:List Str),fs.lookup m=none
def SelfAt.mono(h:SelfAt C ok H p l s)(k:Kp ok H ok' H'):SelfAt C ok' H' p l s:=by
 obtain⟨dx,fs,o,q⟩:=h;exact⟨dx,fs,k _ _ o,q⟩
def Dc(kvs:List (Key×V)):C3 (Itd p o kvs) (kvs.map λkv=>kV kv.1) (λH=>H p=some (.frz o (.dK kvs))):=by
 refine⟨λi H q h=>⟨q,by simpa using h⟩,λH q=>⟨q,by simp⟩,λi H x H' q hi h=>?_⟩
 obtain⟨h1,k,v,h2,h3⟩:=h
 refine⟨h1,?_⟩
 rw[ak,h2,h3]
 rfl
def aw6(kvs:List (Key×V)):Kr (ay6 p o kvs) (Ei 0 (kvs.map λkv=>kV kv.1)) (λH=>H p=some (.frz o (.dK kvs))):=by
 have e:(Ei 0 (kvs.map λkv=>kV kv.1)).length=kvs.length:=by rw[Bu];simp
 refine⟨λi H q h=>⟨q,by omega⟩,λH q=>⟨q,by omega⟩,λi H x H' q hi h=>?_⟩
 obtain⟨T,k,v,hT,h1,h2,h3⟩:=h
 refine⟨T,.int i,kV k,hT,h1,?_,h3⟩
 have:=C4 (k:=0) (xs:=kvs.map λkv=>kV kv.1) (by rw[ak,h2];rfl)
 rw[dn] at this
 exact this
def Same.thaw(h:H p=some (.dK kvs))(S:Same (upd H p (.frz o (.dK kvs))) H'):Same H (upd H' p (.dK kvs)):=by
 intro b u e
 by_cases hb:b=p
 .subst hb;rw[Aa,<- h,e]
 .rw[Ad hb];exact S _ _ (by rw[Ad hb];exact e)
def Gi(h:H d=some u):¬ Pn.fresh H d:=λe=>by
 have e:H d=none:=e
 rw[h] at e
 cases e
def Gs{A B:Prop}(e:b=false)(h:B):if b=true then A else B:=by subst e;exact Kg h
def Ht{A B:Prop}(e:b=true)(h:A):if b=true then A else B:=by subst e;exact Sv h
def Am{α β:Type}{l:List α}{f:α->β}{i:Nat}{x:β}(h:(l.map f)[i]?=some x):∃m,l[i]?=some m/\x=f m:=by
 rw[ak] at h
 cases e:l[i]? with
 |none=>rw[e] at h;cases h
 |some m=>rw[e] at h;exact⟨m,rfl,by simpa using h.symm⟩
def Ak{α:Type}{l:List α}{i:Nat}{x:α}(h:l[i]?=some x):i<l.length:=(List.getElem?_eq_some_iff.mp h).1
def C8{n i:Nat}{x:V}(h:(V6 0 n)[i]?=some x):i<n/\x=.int (i:Int):=by
 have hi:=Ak h
 rw[A0] at hi
 rw[Tx hi] at h
 refine⟨hi,?_⟩
 have:V.int (0+(i:Int))=x:=by simpa using h
 rw[<- this,Int.zero_add]
def Ik(z:Str):z.cps.toList.length=z.length:=by simp[Str.length]
def an8(a c:Nat):decide ([c]<[a])=decide (c<a):=by
 rw[b5,decide_eq_true_iff,decide_eq_true_iff,List.cons_lt_cons_iff]
 simp
def leL{s:Str}{a c:Nat}(h:s.cps.toList=[a]):(!decide ((⟨#[c]⟩:Str).cps.toList<s.cps.toList))=decide (a<=c):=by
 rw[h]
 rw[an8,<- decide_not]
 exact decide_eq_decide.mpr Nat.not_lt
def leR{s:Str}{a c:Nat}(h:s.cps.toList=[a]):(!decide (s.cps.toList<(⟨#[c]⟩:Str).cps.toList))=decide (c<=a):=by
 rw[h]
 rw[an8,<- decide_not]
 exact decide_eq_decide.mpr Nat.not_lt
def Zc{s1 s2:Str}{a b c:Nat}{Q:VK}{H:Hp}(h1:s1.cps.toList=[a])(h2:s2.cps.toList=[b])(k:Q (.bl (decide (a<=c)&&decide (c<=b))) H) :
  if(!decide ((⟨#[c]⟩:Str).cps.toList<s1.cps.toList))=true then Q (.bl (!decide (s2.cps.toList<(⟨#[c]⟩:Str).cps.toList))) H else Q (.bl false) H:=by
 rw[leL h1,leR h2]
 cases e:decide (a<=c) with
 |true=>rw[e,jz] at k;exact Sv k
 |false=>rw[e,k_] at k;exact Kg k
def Oc{a b c:Int}{Q:VK}{H:Hp}(k:Q (.bl (decide (a<=c)&&decide (c<=b))) H):if decide (a<=c)=true then Q (.bl (decide (c<=b))) H else Q (.bl false) H:=by
 cases e:decide (a<=c) with
 |true=>rw[e,jz] at k;exact Sv k
 |false=>rw[e,k_] at k;exact Kg k
def a00(h1:s1.cps.toList=[a])(h2:s2.cps.toList=[b])(hv:σ[i]?=some (some (.str ⟨#[c]⟩)))(k:Q (.bl (decide (a<=c)&&decide (c<=b))) H) :
  Dw Ic Ic (dC (.str s1)) (Ab i) (dC (.str s2)) σ H Q E:=by
 unfold Dw dC Ab
 rw[hv]
 exact Zc h1 h2 k
def Y7{K:ac}{z:Str}{te:DE}{p:Nat->Bool}{H:Hp}{Q:VK}{E:EK}(hz:z.length<=1000)(he:∀c (σ:St) (H1:Hp) (Q1:VK),σ.length=1->Q1 (.bl (p c)) H1->te (σ.set 0 (some (.str ⟨#[c]⟩))) H1 Q1 E)(k:∀H',Same H H'->Q (.bl (z.cps.toList.all p)) H') :
  ∀D,H D=none->Ez (Its z) (gdN 0) Cg te D (λH'=>Tq K [.ref D] H' Q) (Ux [none] [some (.str z)]) (upd H D (.lst [])) E:=by
 intro D hD
 refine Ps (bu8 z) (λσ=>σ.length=1) (λ_=>true) (λv=>match v with | .str y=>.bl (p (y.cps.getD 0 0))|_=>.non) hD (λ_ _=>aP) ?_ rfl ?_ ?_
 .unfold F0
  rw[ae]
  exact bb (by have:z.cps.size<=1000:=hz;simpa using this) (by decide)
 .intro x σ H1 hx hσ S Fin Skip hF hS
  obtain⟨c,hc,rfl⟩:=List.mem_map.mp hx
  exact he c σ H1 _ hσ (hF _ _ _ (by rw[j8];exact hσ) (Same.refl _) rfl rfl)
 .intro H' S hD'
  have e:((F0 z).filter λ_=>true).map (λv=>match v with | .str y=>V.bl (p (y.cps.getD 0 0))|_=>.non)=(z.cps.toList.map p).map V.bl:=by
   unfold F0
   rw[List.filter_eq_self.mpr (λ_ _=>rfl),aB,aB]
   rfl
  refine⟨z.cps.toList.map p,SqL.of (hD'.trans (by rw[e])),?_⟩
  have e2:(z.cps.toList.map p).all (λb=>b)=z.cps.toList.all p:=by rw[ip];rfl
  rw[e2]
  exact k H' S
def Rz{K:ac}{J:It}{χ:List V}{ok:Hp->Prop}{te:DE}{σ:St}{H:Hp}{R:Hp->Addr->Prop}{E:EK}(Y:C3 J χ ok)(Sg:St->Prop)(hok:∀H1,Same H H1->ok H1)(hn:χ.length<sizeLine)(hσ:Sg σ)(hS:∀ σ x,Sg σ->Sg (σ.set 0 (some x)))(he:∀x σ H1 Q1,x∈χ->Sg σ->Same H H1->(∀H2,Same H1 H2->Q1 (.bl true) H2)->te (σ.set 0 (some x)) H1 Q1 E)(k:∀D H',Same H H'->SqL K H' D ((χ.map λ_=>true).map V.bl)->R H' D) :
  ∀D,H D=none->Ez J (gdN 0) Cg te D (λH'=>R H' D) σ (upd H D (.lst [])) E:=λD hD=>ag4 Y Sg hD hok hn hσ hS he (k D)
theorem Tc:∀(xs acc:List Str),(acc++xs).Nodup->xs.foldl (λσ k=>if σ.any (λj=>decide (j=k)) then σ else σ++[k]) acc=acc++xs
 |[],acc,_=>by rw[List.foldl_nil,b7]
 | x::xs,acc,h=>by
  have hx:(acc.any λj=>decide (j=x))=false:=by
   rw[jm]
   intro j hj e
   have e:j=x:=by simpa using e
   subst e
   exact(List.nodup_append.mp h).2.2 j hj j aQ rfl
  rw[b9,hx]
  have h2:(acc++[x]++xs).Nodup:=by simpa using h
  show List.foldl _ (acc++[x]) xs=_
  rw[Tc xs (acc++[x]) h2]
  simp
def a19{xs:List Str}(h:xs.Nodup):Fh xs=xs:=Tc xs [] (h)
theorem Bm{κ:Type} [DecidableEq κ]:∀{kvs}{i:Nat}{k:κ}{v:V},(kvs.map (·.1)).Nodup->kvs[i]?=some (k,v)->Bf kvs k=some v
 |[],_,_,_,_,e=>by simp at e
 | p::r,0,k,v,_,e=>by
  rw[fw] at e
  cases e
  exact B6 rfl
 | p::r,i+1,k,v,h,e=>by
  rw[bK] at e
  rw[aT,bS] at h
  have ne:¬ p.1=k:=λz=>h.1 (List.mem_map.mpr ⟨(k,v),aj e,z.symm⟩)
  rw[Bz ne]
  exact Bm h.2 e
theorem Ce{κ:Type} [DecidableEq κ]:∀{kvs}{k:κ},¬ k∈kvs.map (·.1)->Bf kvs k=none
 |[],_,_=>rfl
 | p::r,k,h=>by
  rw[aT,aD,not_or] at h
  rw[Bz (λe=>h.1 e.symm)]
  exact Ce h.2
def Gh{l:List Str}(h:l.Nodup):(l.map (du:Str->Key)).Nodup:=hX _ (λa b ne e=>ne (by injection e)) h
def K5(ds:List ((Str×List Str)×Addr)):(ds.map kR).map (·.1)=((ds.map (·.1)).map (·.1)).map (du:Str->Key):=by simp[aB]
def E2{ds:List ((Str×List Str)×Addr)}{sw:Sw}(e:ds.map (·.1)=sw)(h:(sw.map (·.1)).Nodup):((ds.map kR).map (·.1)).Nodup:=by
 rw[K5,e]
 exact Gh h
def Ee(x y:Nat):cT (x:Int) (y:Int)=((x ||| y:Nat):Int):=by
 unfold cT
 have hx:¬ (0:Int)<=cr (x:Int):=by unfold cr;omega
 have hy:¬ (0:Int)<=cr (y:Int):=by unfold cr;omega
 rw[PyProof.Rows.bitAnd_nn hx hy]
 have e:∀z,(cr (cr (z:Int)))=(z:Int):=λz=>by unfold cr;omega
 rw[e,e,e,aY,aY]
def E0(x y:Nat):cA (x:Int) (y:Int)=((x &&& y:Nat):Int):=by
 rw[PyProof.Rows.bitAnd_pp (by omega) (by omega),aY,aY]
def Ev(n:Nat):(2:Int)^n=((2^n:Nat):Int):=by simp
def Gr(ns:List Nat):Nat:=ns.foldl (λc n=>c ||| 2^n) 0
theorem Ty:∀(ns:List Nat)(c:Nat),ns.foldl (λ(c:Int) n=>cT c (2^n)) (c:Int)=((ns.foldl (λc n=>c ||| 2^n) c:Nat):Int)
 |[],c=>rfl
 |n::ns,c=>by rw[b9,b9,Ev,Ee,Ty ns]
def ar8(ns:List Nat):ab1 ns=(Gr ns:Nat):=Ty ns 0
theorem Tz:∀(ns:List Nat) c k,(ns.foldl (λc n=>c ||| 2^n) c).testBit k=(c.testBit k||decide (k∈ns))
 |[],c,k=>by simp
 | n::ns,c,k=>by
  rw[b9,Tz ns,fM,cN,Bool.or_assoc]
  congr 1
  rw[b5,cS,decide_eq_true_iff,decide_eq_true_iff,decide_eq_true_iff,aD]
  exact or_congr ⟨Eq.symm,Eq.symm⟩ Iff.rfl
def Fy(ns:List Nat)(k:Nat):(Gr ns).testBit k=decide (k∈ns):=by
 unfold Gr
 rw[Tz,cK,jy]
def Ed(ms:List Nat):Nat:=ms.foldl (λc m=>c ||| m) 0
theorem M7:∀(ms:List Nat)(c:Nat),(ms.map λm:Nat=>(m:Int)).foldl (λc m=>cT c m) (c:Int)=((ms.foldl (λc m=>c ||| m) c:Nat):Int)
 |[],c=>rfl
 |n::ns,c=>by rw[aT,b9,b9,Ee,M7 ns]
def G6(ms:List Nat):G5 (ms.map λm:Nat=>(m:Int))=(Ed ms:Nat):=M7 ms 0
theorem M8:∀(ms:List Nat) c k,(ms.foldl (λc m=>c ||| m) c).testBit k=(c.testBit k||ms.any λm=>m.testBit k)
 |[],c,k=>by simp
 |n::ns,c,k=>by rw[b9,M8 ns,fM,gU,Bool.or_assoc]
def G7(ms:List Nat)(k:Nat):(Ed ms).testBit k=ms.any λm=>m.testBit k:=by
 unfold Ed
 rw[M8,cK,jy]
def Zm(rows:List (List Str))(p:Nat)(z:Str)(k:Nat):Bool:=decide ((rows[k]?.bind λr=>r[p]?)=some z)
theorem X6(p:Nat)(z:Str):∀rows j n,n∈Dz p z j rows↔j<=n/\(rows[n-j]?.bind λr=>r[p]?)=some z
 |[],j,n=>by simp[Dz]
 | r::rows,j,n=>by
  have ih:=X6 p z rows (j+1) n
  have e:∀b,(n=j/\b)\/(j+1<=n/\(rows[n-(j+1)]?.bind λr=>r[p]?)=some z)↔j<=n/\((n=j/\b)\/(n≠j/\(rows[n-(j+1)]?.bind λr=>r[p]?)=some z)):=λb=>by
   constructor
   .rintro (⟨h1,h2⟩|⟨h1,h2⟩)
    .exact⟨by omega,.inl ⟨h1,h2⟩⟩
    .exact⟨by omega,.inr ⟨by omega,h2⟩⟩
   .rintro⟨h0,⟨h1,h2⟩|⟨h1,h2⟩⟩
    .exact .inl ⟨h1,h2⟩
    .exact .inr ⟨by omega,h2⟩
  have g:j<=n->(((r::rows)[n-j]?.bind λr=>r[p]?)=some z↔((n=j/\r[p]?=some z)\/(n≠j/\(rows[n-(j+1)]?.bind λr=>r[p]?)=some z))):=λh=>by
   by_cases hn:n=j
   .subst hn
    simp
   .have e2:n-j=(n-(j+1))+1:=by omega
    rw[e2,bK]
    simp[hn]
  rw[Dz]
  by_cases hr:r[p]?=some z
  .rw[if_pos hr,aD,ih]
   have:=e (r[p]?=some z)
   constructor
   .intro h
    have h2:=this.mp (h.imp (λx=>⟨x,hr⟩) id)
    exact⟨h2.1,(g h2.1).mpr h2.2⟩
   .rintro⟨h1,h2⟩
    exact(this.mpr ⟨h1,(g h1).mp h2⟩).imp (λx=>x.1) id
  .rw[if_neg hr,ih]
   have:=e (r[p]?=some z)
   constructor
   .intro h
    have h2:=this.mp (.inr h)
    exact⟨h2.1,(g h2.1).mpr h2.2⟩
   .rintro⟨h1,h2⟩
    rcases this.mpr ⟨h1,(g h1).mp h2⟩ with h|h
    .exact absurd h.2 hr
    .exact h
def Yb(rows:List (List Str))(p:Nat)(z:Str):Nat:=Gr (Dz p z 0 rows)
def Zv(rows:List (List Str))(p:Nat)(z:Str):Em rows p z=(Yb rows p z:Nat):=ar8 _
def Zw(rows:List (List Str))(p:Nat)(z:Str)(k:Nat):(Yb rows p z).testBit k=Zm rows p z k:=by
 unfold Yb Zm
 rw[Fy]
 refine decide_eq_decide.mpr ?_
 rw[X6]
 simp
def M5(sw:Sw)(e:Str×List Str):Nat:=Ed (e.2.map (Yb (Aj sw) (G0 sw e.1)))
def ab8(sw:Sw)(e:Str×List Str):J9 sw e=(M5 sw e:Nat):=by
 unfold J9 M5
 rw[<- G6,aB]
 congr 1
 exact bW λz _=>Zv _ _ _
def ab9(sw:Sw)(e:Str×List Str)(k:Nat):(M5 sw e).testBit k=e.2.any λz=>Zm (Aj sw) (G0 sw e.1) z k:=by
 unfold M5
 rw[G7,mh]
 congr 1
 funext z
 exact Zw _ _ _ _
def Rx(sw:Sw):Nat:=2^(Aj sw).length-1
def Rw(sw:Sw):Rv sw=(Rx sw:Nat):=by
 unfold Rv Rx
 rw[Ev]
 have:0<2^(Aj sw).length:=ke _
 omega
def Ry(sw:Sw)(k:Nat):(Rx sw).testBit k=decide (k<(Aj sw).length):=by
 unfold Rx
 rw[Nat.testBit_two_pow_sub_one]
def Gn(sw:Sw)(rule:Sw):Nat:=rule.foldl (λc e=>c &&& M5 sw e) (Rx sw)
theorem R4(sw:Sw):∀(rule:Sw)(c:Nat),rule.foldl (λc e=>cA c (J9 sw e)) (c:Int)=((rule.foldl (λc e=>c &&& M5 sw e) c:Nat):Int)
 |[],c=>rfl
 |e::rule,c=>by rw[b9,b9,ab8,E0,R4 sw rule]
def ah3(sw rule:Sw):ah2 sw rule=(Gn sw rule:Nat):=by
 unfold ah2 Gn
 rw[Rw,R4]
theorem R5(sw:Sw):∀(rule:Sw) c k,(rule.foldl (λc e=>c &&& M5 sw e) c).testBit k=(c.testBit k&&rule.all λe=>e.2.any λz=>Zm (Aj sw) (G0 sw e.1) z k)
 |[],c,k=>by simp
 |e::rule,c,k=>by rw[b9,R5 sw rule,fX,ab9,cb,Bool.and_assoc]
def ah4(sw rule:Sw)(k:Nat):(Gn sw rule).testBit k=(decide (k<(Aj sw).length)&&rule.all λe=>e.2.any λz=>Zm (Aj sw) (G0 sw e.1) z k):=by
 unfold Gn
 rw[R5,Ry]
def Ej(sw:Sw)(ζ:List Sw):Nat:=Rx sw-(Rx sw &&& Ed (ζ.map (Gn sw)))
def Jg(sw:Sw)(ζ:List Sw):Lq sw ζ=(Ej sw ζ:Nat):=by
 unfold Lq Ej J2
 have e:ζ.map (ah2 sw)=(ζ.map (Gn sw)).map λm:Nat=>(m:Int):=by
  rw[aB]
  exact bW λr _=>ah3 sw r
 rw[e,G6,Rw,PyProof.Rows.bitAnd_pn (by omega) (by unfold cr;omega),show cr (cr ((Ed (ζ.map (Gn sw)):Nat):Int))=((Ed (ζ.map (Gn sw)):Nat):Int) by unfold cr;omega,aY,aY]
 have:=Nat.and_le_left (n:=Rx sw) (m:=Ed (ζ.map (Gn sw)))
 omega
def a77(a b:Nat):a-(a &&& b)=a ^^^ (a &&& b):=by
 have h:(a ^^^ (a &&& b)) &&& (a &&& b)=0:=by
  refine eI λk=>?_
  rw[fX,kc,fX,cK]
  cases a.testBit k <;> cases b.testBit k <;> rfl
 have h2:(a ^^^ (a &&& b)) ||| (a &&& b)=a:=by
  refine eI λk=>?_
  rw[fM,kc,fX]
  cases a.testBit k <;> cases b.testBit k <;> rfl
 have h3:(a ^^^ (a &&& b))+(a &&& b)=(a ^^^ (a &&& b)) ||| (a &&& b):=by
  have e:=PyProof.Rows.bitOr_and ((a ^^^ (a &&& b):Nat):Int) ((a &&& b:Nat):Int)
  rw[Ee,E0,h] at e
  omega
 omega
def Zi(sw:Sw)(ζ:List Sw)(k:Nat):(Ej sw ζ).testBit k=(decide (k<(Aj sw).length) && !ζ.any λr=>(Gn sw r).testBit k):=by
 unfold Ej
 rw[a77,kc,fX,Ry,G7,mh]
 show(_ ^^ (_&&ζ.any λr=>(Gn sw r).testBit k))=_
 cases decide (k<(Aj sw).length) <;> cases ζ.any (λr=>(Gn sw r).testBit k) <;> rfl
end Pn
namespace L2
open PySem PySem.Spec PyProof.Rows
section
variable {P:aW}{w:bC}{K:ac}{mg:Str->Option Value}{base:Heap}{x q:Str}{st:Stmt}{f:Addr}{d:bh}{ps:List Str}
def bv1(K:ac)(x q:Str)(st:Stmt)(f:Addr):Prop:=∃d,Fun K x q st f d
structure bv8 (K:ac) (q:Str) (st:Stmt) (f:Addr):Prop where
 at_:bT K mainGlobals q=some (some (.ref f))
 d:bv1 K q q st f
structure MetD (K:ac) (x q:Str) (st:Stmt) (f:Addr):Prop where
 fn:cW K (.ref f)=true
 d:bv1 K x q st f
def top_mk{oc:Value}{od an:Option Addr}{osl:Array (Option Value)}{kV doc pm θ ct:Value}(a:bT K mainGlobals q=some (some (.ref f)))(l:K.lookup f=some ⟨oc,od,.func (cy q q (B8 st) (A9 st) (Al st) .none kV doc pm an θ ct),osl⟩)(c:dF K θ q=true)(k:ba K (.ref f)=true):bv8 K q st f:=⟨a,_,P4 l c k⟩
def met_mk{oc:Value}{od an:Option Addr}{osl:Array (Option Value)}{kV doc pm θ ct:Value}(l:K.lookup f=some ⟨oc,od,.func (cy x q (B8 st) (A9 st) (Al st) .none kV doc pm an θ ct),osl⟩)(c:dF K θ q=true)(k:ba K (.ref f)=true)(i:cW K (.ref f)=true):MetD K x q st f:=⟨i,_,P4 l c k⟩
structure DOk (K:ac) (mg:Str->Option Value) (q:Str) (st:Stmt) (f:Addr) (d:bh) (ps:List Str):Prop where
 F:FunD K q q st f d .none
 b:Binds K d ps []
 m:mg q=some (.ref f)
structure MOk (K:ac) (x q:Str) (st:Stmt) (f:Addr) (d:bh) (ps:List Str):Prop where
 F:FunD K x q st f d .none
 b:Binds K d ps []
 i:cW K (.ref f)=true
def MetD.ok(D:MetD K x q st f)(hb:∀kV doc pm an θ ct us,us.length=ps.length->iJ (cy x q (B8 st) (A9 st) (Al st) .none kV doc pm an θ ct) ⟨us,[]⟩=pure (ps.zip us)):∃d,MOk K x q st f d ps:=by
 obtain⟨a,d,F⟩:=D
 exact⟨d,F.toD,F.binds hb,a⟩
def bz4{i:FI}(h2:i.ds=[])(b:Binds K i.fd i.ps []):∀j,j<=i.dfs.length->Binds K i.fd i.ps (i.ds.drop j):=λj _=>by
 rw[h2,List.drop_nil];exact b
def one(h:MetIn P w K mg base k m ⟨C,i⟩):∀mi∈[(⟨C,i⟩:MI)],MetIn P w K mg base k m mi:=λmi hm=>by
 rw[bM] at hm
 exact hm▸h
end
structure Df where
 x:Str
 q:Str
 st:Stmt
 N:List Str
 np:Nat
 lv:Nat
def Df.ps(d:Df):List Str:=d.N.take d.np
abbrev C5(D:Df)(f:Addr)(d:bh)(s:Sp):FI:=⟨f,d,D.ps,D.lv,s,[],[]⟩
def ScOk(N P:List Str)(sc:Scope):Prop:=(sc.kind=.function/\sc.isCoroutine=false/\sc.isGenerator=false)/\N.Nodup/\N.take P.length=P/\(∀x∈P,sc.names.lookup x=some .local\/sc.names.lookup x=some .cell)/\(∀y∈sc.names,y.2≠.free)/\M9 N sc=true
noncomputable instance (N P:List Str) (sc:Scope):Decidable (ScOk N P sc):=by unfold ScOk;infer_instance
def ScOk.fn(h:ScOk N P sc):Cs N P sc:=⟨h.1.1,h.1.2.1,h.1.2.2,h.2.1,h.2.2.1,h.2.2.2.1,h.2.2.2.2.1⟩
structure Ent where
 lv:Nat
 x:Str
 g:GB
def gbT(es:List Ent)(n:Nat):List (Str×GB):=es.filterMap λe=>if e.lv<=n then some (e.x,e.g) else none
def Ha(P:aW)(w:bC)(K:ac)(mg:Str->Option Value)(base:Heap)(es:List Ent)(bl:List Str)(n:Nat):Prop:=∀m,m<n->Tab P w K mg base m (gbT es m) bl
def AllE(P:aW)(w:bC)(K:ac)(mg:Str->Option Value)(base:Heap)(es:List Ent)(bl:List Str):List Ent->Prop
 |[]=>True
 |e::r=>(Ha P w K mg base es bl e.lv->GBIn P w K mg base e.lv e.x e.g)/\AllE P w K mg base es bl r
section
variable {P:aW}{w:bC}{K:ac}{mg:Str->Option Value}{base:Heap}{es:List Ent}{bl:List Str}{f:Nat->Addr}{d:Nat->bh}
theorem AllE.app:∀{a b},AllE P w K mg base es bl a->AllE P w K mg base es bl b->AllE P w K mg base es bl (a++b)
 |[],_,_,h=>h
 |_::_,_,h,g=>⟨h.1,AllE.app h.2 g⟩
theorem AllE.at_:∀{a} {e},AllE P w K mg base es bl a->e∈a->Ha P w K mg base es bl e.lv->GBIn P w K mg base e.lv e.x e.g
 |[],_,_,he=>by cases he
 | _::_,_,h,he=>by
  rcases List.mem_cons.mp he with rfl|he
  .exact h.1
  .exact AllE.at_ h.2 he
def a89(hz:∀x∈bl,mg x=none)(h:AllE P w K mg base es bl es)(n:Nat):Tab P w K mg base n (gbT es n) bl:=by
 induction n using Nat.strongRecOn with
 |ind n ih=>
  refine⟨λx g hx=>?_,hz⟩
  obtain⟨e,he,q⟩:=List.mem_filterMap.mp hx
  split at q
  .rename_i hl
   cases q
   exact(h.at_ he λm hm=>ih m (aL hm hl)).mono hl
  .cases q
def OkD(K:ac)(D:Df)(es:List Ent)(bl:List Str)(f:Addr)(d:bh)(s:Sp):Prop:=∀P w mg base dV,FunD K D.x D.q D.st f d dV->Ha P w K mg base es bl D.lv->FnOk P w K mg base CX0 D.lv f d D.ps s
def OkG(P:aW)(w:bC)(K:ac)(mg:Str->Option Value)(base:Heap)(D:Df)(es:List Ent)(bl:List Str)(f:Addr)(d:bh)(s:Sp):Prop:=Ha P w K mg base es bl D.lv -> ∃C,(∀X',X'.prog=P->X'.w=w->J1 C X')/\FnOk P w K mg base C D.lv f d D.ps s
noncomputable def OkX(K:ac)(D:Df)(es:List Ent)(bl:List Str)(f:Addr)(d:bh)(s:Sp):Prop:=∀P w mg base dV,FunD K D.x D.q D.st f d dV->Ha P w K mg base es bl D.lv->FnOk P w K mg base (CXE P w) D.lv f d D.ps s
def okD{D:Df}{f:Addr}{d:bh}{s:Sp}{k n:Nat}{t:DS}(hl:D.lv=k+1)(c:ScOk D.N D.ps (Al D.st))(rd:wSs n (Kc K D.N (Al D.st) (gbT es k) bl) (A9 D.st)=t)(len:∀vs H Q E,s vs H Q E->vs.length=D.ps.length)(body:∀vs H Q E,s vs H Q E->t (U3 Q λ_ _=>False) (Cy D.N vs) H):OkD K D es bl f d s:=λ_ _ _ _ _ F T=>by
 rw[hl] at T ⊢
 exact F.okW0 c.fn c.2.2.2.2.2 (T k (cf k)) rd len body
def okX{D:Df}{f:Addr}{d:bh}{s:Sp}{k n:Nat}{t:DS}(hl:D.lv=k+1)(c:ScOk D.N D.ps (Al D.st))(rd:wSs n (Kc K D.N (Al D.st) (gbT es k) bl) (A9 D.st)=t)(len:∀vs H Q E,s vs H Q E->vs.length=D.ps.length)(body:∀vs H Q E,s vs H Q E->t (X4 Q E) (Cy D.N vs) H):OkX K D es bl f d s:=λ_ _ _ _ _ F T=>by
 rw[hl] at T ⊢
 exact F.okWX c.fn c.2.2.2.2.2 (T k (cf k)) rd len body
def A5{D:Df}{f:Addr}{d:bh}{s:Sp}(t:DS)(body:∀vs H Q E,s vs H Q E->vs.length=D.ps.length/\t (U3 Q λ_ _=>False) (Cy D.N vs) H)(hl:D.lv=D.lv-1+1:=by rfl)(c:ScOk D.N D.ps (Al D.st):=by decide +kernel)(rd:wSs 40 (Kc K D.N (Al D.st) (gbT es (D.lv-1)) bl) (A9 D.st)=t:=by kernel_rfl):OkD K D es bl f d s:=okD hl c rd (λvs H Q E h=>(body vs H Q E h).1) λvs H Q E h=>(body vs H Q E h).2
def a27{D:Df}{f:Addr}{d:bh}{s:Sp}(t:DS)(body:∀vs H Q E,s vs H Q E->vs.length=D.ps.length/\t (X4 Q E) (Cy D.N vs) H)(hl:D.lv=D.lv-1+1:=by rfl)(c:ScOk D.N D.ps (Al D.st):=by decide +kernel)(rd:wSs 40 (Kc K D.N (Al D.st) (gbT es (D.lv-1)) bl) (A9 D.st)=t:=by kernel_rfl):OkX K D es bl f d s:=okX hl c rd (λvs H Q E h=>(body vs H Q E h).1) λvs H Q E h=>(body vs H Q E h).2
def BtD(D:Df)(d:bh):Prop:=∀s us,us.length=D.ps.length->lZ s d ⟨us,[]⟩ (D.ps.zip us)
def AllG(K:ac)(mg:Str->Option Value)(f:Nat->Addr)(d:Nat->bh):Nat->List Df->Prop
 |_,[]=>True
 |k,D::r=>(DOk K mg D.q D.st (f k) (d k) D.ps/\BtD D (d k))/\AllG K mg f d (k+1) r
theorem AllG.get:∀{L} {k} j {D},AllG K mg f d k L->L[j]?=some D->DOk K mg D.q D.st (f (k+j)) (d (k+j)) D.ps/\BtD D (d (k+j))
 |[],_,_,_,_,e=>by simp at e
 |_::_,_,0,_,h,e=>by cases e;exact h.1
 | _::_,k,j+1,_,h,e=>by
  rw[show k+(j+1)=k+1+j by omega]
  exact AllG.get j h.2 e
def bd8(K:ac):List Df->Prop
 |[]=>True
 |D::r=>(∃a,bv8 K D.q D.st a)/\bd8 K r
def Xd(D:Df):Prop:=∀kV doc pm an θ ct us,us.length=D.ps.length->iJ (cy D.x D.q (B8 D.st) (A9 D.st) (Al D.st) .none kV doc pm an θ ct) ⟨us,[]⟩=pure (D.ps.zip us)
def bu9:List Df->Prop
 |[]=>True
 |D::r=>(D.x=D.q/\Xd D)/\bu9 r
theorem AllG.congr{f':Nat->Addr}{d':Nat->bh}:∀{L} {k},(∀n,k<=n->f' n=f n/\d' n=d n)->AllG K mg f d k L->AllG K mg f' d' k L
 |[],_,_,_=>aP
 |_::_,k,e,h=>⟨by rw[(e k (ag _)).1,(e k (ag _)).2];exact h.1,AllG.congr (λn hn=>e n (by omega)) h.2⟩
theorem Xr{h:Heap}(d₀:bh)(X:K.In h)(G:h.Ns mainGlobals mg):∀{L} k,bd8 K L->bu9 L -> ∃f d,AllG K mg f d k L
 |[],_,_,_=>⟨λ_=>0,λ_=>d₀,aP⟩
 | D::r,k,⟨⟨a,q⟩,t⟩,⟨⟨e,b⟩,bs⟩=>by
  obtain⟨f,d,g⟩:=Xr d₀ X G (k+1) t bs
  obtain⟨m,d0,F⟩:=q
  have b:=b
  unfold Xd at b
  rw[e] at b
  have g0:DOk K mg D.q D.st a d0 D.ps/\BtD D d0:=⟨⟨F.toD,F.binds b,d7 X G m⟩,by
   obtain⟨oc,od,kV,doc,pm,an,θ,ct,osl,rfl,_⟩:=F.ex
   exact λs us hl=>.of_eq (b _ _ _ _ _ _ us hl)⟩
  refine⟨λn=>if n=k then a else f n,λn=>if n=k then d0 else d n,⟨?_,?_⟩⟩
  .simp only[if_true];exact g0
  .exact AllG.congr (λn hn=>by rw[if_neg (by omega),if_neg (by omega)];exact⟨rfl,rfl⟩) g
theorem AllG.pre:∀{a b} {k},AllG K mg f d k (a++b)->AllG K mg f d k a
 |[],_,_,_=>aP
 |_::_,_,_,h=>⟨h.1,AllG.pre h.2⟩
theorem OkD.g(h:OkD K D es bl a fd s)(g:DOk K mg D.q D.st a fd D.ps)(e:D.x=D.q:=by rfl):OkG P w K mg base D es bl a fd s:=λT=>⟨CX0,λX' _ _=>Hz X',h _ _ _ _ _ (by rw[e];exact g.F) T⟩
def fnE(f:Nat->Addr)(d:Nat->bh):Nat->List (Df×Sp)->List Ent
 |_,[]=>[]
 |k,p::r=>⟨p.1.lv,p.1.q,.fn (C5 p.1 (f k) (d k) p.2)⟩::fnE f d (k+1) r
def ac5(P:aW)(w:bC)(K:ac)(mg:Str->Option Value)(base:Heap)(es:List Ent)(bl:List Str)(f:Nat->Addr)(d:Nat->bh):Nat->List (Df×Sp)->Prop
 |_,[]=>True
 |k,p::r=>OkG P w K mg base p.1 es bl (f k) (d k) p.2/\ac5 P w K mg base es bl f d (k+1) r
theorem Xq:∀{L} {k},AllG K mg f d k (L.map (·.1))->ac5 P w K mg base es bl f d k L->AllE P w K mg base es bl (fnE f d k L)
 |[],_,_,_=>aP
 |_::_,_,g,o=>⟨λT=>⟨g.1.1.m,g.1.1.F.kp,o.1 T,ag _,bz4 rfl g.1.1.b,.nil⟩,Xq g.2 o.2⟩
def AllM(K:ac)(c:Addr)(f:Nat->Addr)(d:Nat->bh):Nat->List Df->Prop
 |_,[]=>True
 |k,D::r=>(MOk K D.x D.q D.st (f k) (d k) D.ps/\Na K c D.x (f k))/\AllM K c f d (k+1) r
theorem AllM.get{c:Addr}:∀{L} {k} j {D},AllM K c f d k L->L[j]?=some D->MOk K D.x D.q D.st (f (k+j)) (d (k+j)) D.ps/\Na K c D.x (f (k+j))
 |[],_,_,_,_,e=>by simp at e
 |_::_,_,0,_,h,e=>by cases e;exact h.1
 | _::_,k,j+1,_,h,e=>by
  rw[show k+(j+1)=k+1+j by omega]
  exact AllM.get j h.2 e
theorem AllM.congr{c:Addr}{f':Nat->Addr}{d':Nat->bh}:∀{L} {k},(∀n,k<=n->f' n=f n/\d' n=d n)->AllM K c f d k L->AllM K c f' d' k L
 |[],_,_,_=>aP
 |_::_,k,e,h=>⟨by rw[(e k (ag _)).1,(e k (ag _)).2];exact h.1,AllM.congr (λn hn=>e n (by omega)) h.2⟩
def Rq(K:ac)(c:Addr):List Df->Prop
 |[]=>True
 |D::r=>(∃a,aZ K (.ref c) D.x=some (some (.ref a))/\MetD K D.x D.q D.st a)/\Rq K c r
def a94:List Df->Prop
 |[]=>True
 |D::r=>Xd D/\a94 r
theorem Ks{c:Addr}(d₀:bh):∀{L} k,Rq K c L->a94 L -> ∃f d,AllM K c f d k L
 |[],_,_,_=>⟨λ_=>0,λ_=>d₀,aP⟩
 | D::r,k,⟨⟨a,i,q⟩,t⟩,⟨b,bs⟩=>by
  obtain⟨f,d,g⟩:=Ks d₀ (k+1) t bs
  obtain⟨d0,g0⟩:=q.ok b
  refine⟨λn=>if n=k then a else f n,λn=>if n=k then d0 else d n,⟨?_,?_⟩⟩
  .simp only[if_true];exact⟨g0,i,g0.i,g0.F.kp⟩
  .exact AllM.congr (λn hn=>by rw[if_neg (by omega),if_neg (by omega)];exact⟨rfl,rfl⟩) g
def AllC(mg:Str->Option Value)(u:Nat->Value):Nat->List (Str×V)->Prop
 |_,[]=>True
 |k,c::r=>(mg c.1=some (u k)/\RelV c.2 (u k))/\AllC mg u (k+1) r
theorem AllC.congr{u u':Nat->Value}:∀{L} {k},(∀n,k<=n->u' n=u n)->AllC mg u k L->AllC mg u' k L
 |[],_,_,_=>aP
 |_::_,k,e,h=>⟨by rw[e k (ag _)];exact h.1,AllC.congr (λn hn=>e n (by omega)) h.2⟩
def ac7(K:ac):List (Str×V)->Prop
 |[]=>True
 |(x,v)::r=>(∃u,bT K mainGlobals x=some (some u)/\RelV v u)/\ac7 K r
def con_mk(a:bT K mainGlobals x=some (some u))(r:RelV v u):∃u,bT K mainGlobals x=some (some u)/\RelV v u:=⟨u,a,r⟩
theorem Xp{h:Heap}(X:K.In h)(G:h.Ns mainGlobals mg):∀{L} k,ac7 K L -> ∃u,AllC mg u k L
 |[],_,_=>⟨λ_=>.none,aP⟩
 | c::r,k,⟨⟨v,i,q⟩,t⟩=>by
  obtain⟨u,g⟩:=Xp X G (k+1) t
  refine⟨λn=>if n=k then v else u n,⟨?_,?_⟩⟩
  .simp only[if_true];exact⟨d7 X G i,q⟩
  .exact AllC.congr (λn hn=>if_neg (by omega)) g
def bg1(u:Nat->Value):Nat->List (Str×V)->List Ent
 |_,[]=>[]
 |k,c::r=>⟨0,c.1,.val c.2 (u k)⟩::bg1 u (k+1) r
theorem Ru{u:Nat->Value}:∀{L} {k},AllC mg u k L->AllE P w K mg base es bl (bg1 u k L)
 |[],_,_=>aP
 |_::_,_,h=>⟨λ_=>h.1,Ru h.2⟩
def bd9(K:ac):List Str->Prop
 |[]=>True
 |x::r=>bT K mainGlobals x=some none/\bd9 K r
theorem Xs{h:Heap}(X:K.In h)(G:h.Ns mainGlobals mg):∀{L},bd9 K L -> ∀x∈L,mg x=none
 |[],_,_,hx=>by cases hx
 | _::_,z,x,hx=>by
  rcases List.mem_cons.mp hx with rfl|hx
  .exact PySem.W.mg_none_of X G z.1
  .exact Xs X G z.2 x hx
structure Rt (K:ac) (x:Str) (c f:Addr):Prop where
 a:bT K mainGlobals x=some (some (.ref c))
 i:aZ K (.ref c) "__init__"=some (some (.ref f))
 kp:ba K (.ref c)=true
 mm:dN K c=true
 cl:Cls K c
def own_mk{x:Str}{c f:Addr}(a:bT K mainGlobals x=some (some (.ref c)))(i:aZ K (.ref c) "__init__"=some (some (.ref f)))(k:ba K (.ref c)=true)(m:dN K c=true)(pg:gL K c cH=true)(hd:ib K c=true)(po:jr K c=true)(sa:aZ K (.ref c) "__setattr__"=some (some (.builtin "object.__setattr__"))):Rt K x c f:=⟨a,i,k,m,⟨pg,hd,po,sa⟩⟩
structure Ka (K:ac) (D:Df) (f:Addr) (d:bh) (vs:List V) (us:List Value):Prop where
 F:∃dV,FunD K D.x D.q D.st f d dV
 b:∀j,j<=vs.length->Binds K d D.ps (us.drop j)
 w:Vals vs us
 i:cW K (.ref f)=true
def ini0{D:Df}{f:Addr}{oc:Value}{od an:Option Addr}{osl:Array (Option Value)}{kV doc pm θ ct:Value}(b:Xd D)(l:K.lookup f=some ⟨oc,od,.func (cy D.x D.q (B8 D.st) (A9 D.st) (Al D.st) .none kV doc pm an θ ct),osl⟩)(c:dF K θ D.q=true)(k:ba K (.ref f)=true)(i:cW K (.ref f)=true):∃d,Ka K D f d [] []:=
 ⟨_,⟨_,(P4 l c k).toD⟩,λj _=>by rw[List.drop_nil];exact(P4 l c k).binds b,.nil,i⟩
def a95(D:Df)(ds:List Value):Prop:=∀T kV doc pm an θ ct us,us.length+ds.length=D.ps.length -> ∃k,iJ (cy D.x D.q (B8 D.st) (A9 D.st) (Al D.st) (.ref T) kV doc pm an θ ct) ⟨us,[]⟩=seqItems? (.ref T) >>= k/\k (some #[.none])=pure (D.ps.zip (us++ds))
def ini1{D:Df}{f T:Addr}{oc tc:Value}{od an td:Option Addr}{osl ts:Array (Option Value)}{tn:Nat}{kV doc pm θ ct:Value}(b0:a95 D [])(b1:a95 D [.none])(hm:0<D.np/\D.np<=D.N.length)(l:K.lookup f=some ⟨oc,od,.func (cy D.x D.q (B8 D.st) (A9 D.st) (Al D.st) (.ref T) kV doc pm an θ ct),osl⟩)(c:dF K θ D.q=true)(k:ba K (.ref f)=true)(i:cW K (.ref f)=true)(ld:K.lookup T=some ⟨tc,td,.seq #[.none] tn,ts⟩):∃d,Ka K D f d [.non] [.none]:=by
 have hl:D.ps.length=D.np:=by unfold Df.ps;rw[aM];omega
 refine⟨_,⟨_,a07 l c k⟩,λj hj=>?_,.cons rfl .nil,i⟩
 match j,hj with
 |0,_=>exact J3 (D.np-1) rfl ld rfl (by rw[hl,List.drop_zero,bR];omega) λus e=>b1 T _ _ _ _ _ _ us (by rw[hl,bR];omega)
 |1,_=>exact J3 D.np rfl ld rfl (by rw[hl];rfl) λus e=>b0 T _ _ _ _ _ _ us (by rw[hl];exact e)
def Uy{x:Str}{c:Addr}{D:Df}{f:Addr}{d:bh}{vs:List V}{us:List Value}{s:Sp}{h:Heap}(X:K.In h)(G:h.Ns mainGlobals mg)(o:Rt K x c f)(i:Ka K D f d vs us)(ok:OkD K D es bl f d s)(T:Ha P w K mg base es bl (D.lv+1)):ClsIn P w K mg base (D.lv+1) x c (some ⟨f,d,D.ps,D.lv,s,vs,us⟩):=
 let⟨_,F⟩:=i.F
 ⟨d7 X G o.a,o.kp,o.mm,o.i,i.i,⟨F.kp,⟨CX0,λX' _ _=>Hz X',ok _ _ _ _ _ F λm h=>T m (dG h)⟩,cM _,i.b,i.w⟩,ag _⟩
def al5(c:Addr)(f:Nat->Addr)(d:Nat->bh):Nat->List (Df×Sp)->List Ent
 |_,[]=>[]
 |k,p::r=>⟨p.1.lv,"", .met p.1.x [⟨c,C5 p.1 (f k) (d k) p.2⟩]⟩::al5 c f d (k+1) r
def OkM(K:ac)(D:Df)(es:List Ent)(bl:List Str)(f:Addr)(d:bh)(s:Sp):Prop:=∀P w mg base dV,FunD K D.x D.q D.st f d dV->Ha P w K mg base es bl D.lv -> ∃C,(∀X',X'.prog=P->X'.w=w->J1 C X')/\FnOk P w K mg base C D.lv f d D.ps s
def OkD.m(h:OkD K D es bl a e s):OkM K D es bl a e s:=λP w mg base dV F T=>⟨CX0,λX' _ _=>Hz X',h P w mg base dV F T⟩
def OkX.m(h:OkX K D es bl a e s):OkM K D es bl a e s:=λP w mg base dV F T=>⟨CXE P w,λX' e1 e2=>e1▸e2▸ao2 X',h P w mg base dV F T⟩
def ac6(K:ac)(es:List Ent)(bl:List Str)(f:Nat->Addr)(d:Nat->bh):Nat->List (Df×Sp)->Prop
 |_,[]=>True
 |k,p::r=>OkM K p.1 es bl (f k) (d k) p.2/\ac6 K es bl f d (k+1) r
def Qd(cl:Cls K c)(g:MOk K D.x D.q D.st a e D.ps/\Na K c D.x a)(ok:OkM K D es bl a e s)(h:D.lv<=n)(T:Ha P w K mg base es bl n):MetIn P w K mg base n D.x ⟨c,C5 D a e s⟩:=⟨cl,g.2,g.1.F.kp,ok _ _ _ _ _ g.1.F λm q=>T m (aL q h),h,bz4 rfl g.1.b,.nil⟩
theorem Hb{c:Addr}(cl:Cls K c):∀{L} {k},AllM K c f d k (L.map (·.1))->ac6 K es bl f d k L->AllE P w K mg base es bl (al5 c f d k L)
 |[],_,_,_=>aP
 |_::_,_,g,o=>⟨λT=>one (Qd cl g.1 o.1 (ag _) T),Hb cl g.2 o.2⟩
def bu5(X:K.In h)(G:h.Ns mainGlobals mg)(a:bT K mainGlobals x=some (some (.ref c))):GBIn P w K mg base n x (.val (.ref c) (.ref c)):=⟨d7 X G a,rfl⟩
def AllN(K:ac)(c:Addr):List Str->Prop
 |[]=>True
 |x::r=>aZ K (.ref c) x=some none/\AllN K c r
theorem AllN.all{c:Addr}:∀{L},AllN K c L -> ∀x∈L,NoAttr K c x
 |[],_,_,hx=>by cases hx
 | _::_,z,x,hx=>by
  rcases List.mem_cons.mp hx with rfl|hx
  .exact z.1
  .exact AllN.all z.2 x hx
structure be8 (K:ac) (x:Str) (c f:Addr) (bm:List Value):Prop where
 a:bT K mainGlobals x=some (some (.ref c))
 i:aZ K (.ref c) "__init__"=some (some (.ref f))
 kp:ba K (.ref c)=true
 x:XC K c bm
def bg9{x:Str}{c:Addr}{bm:List Value}{D:Df}{f:Addr}{d:bh}{vs:List V}{us:List Value}{s:Sp}{h:Heap}(X:K.In h)(G:h.Ns mainGlobals mg)(o:be8 K x c f bm)(e:ECls K c)(i:Ka K D f d vs us)(ok:OkD K D es bl f d s)(T:Ha P w K mg base es bl (D.lv+1)):ExcIn P w K mg base (D.lv+1) x c (some ⟨f,d,D.ps,D.lv,s,vs,us⟩):=
 let⟨_,F⟩:=i.F
 ⟨d7 X G o.a,o.kp,e,o.i,i.i,F.kp,⟨CX0,λX' _ _=>Hz X',ok _ _ _ _ _ F λm h=>T m (dG h)⟩,ag _,i.b,i.w⟩
end
section
variable {P:List Value->Prop}
@[elab_as_elim] theorem len1 (h:∀a,P [a]):∀us,us.length=1->P us
 |[a],_=>h a
@[elab_as_elim] theorem len2 (h:∀a b,P [a,b]):∀us,us.length=2->P us
 |[a,b],_=>h a b
@[elab_as_elim] theorem len3 (h:∀a b c,P [a,b,c]):∀us,us.length=3->P us
 |[a,b,c],_=>h a b c
@[elab_as_elim] theorem a13 (h:∀a b c d,P [a,b,c,d]):∀us,us.length=4->P us
 |[a,b,c,d],_=>h a b c d
@[elab_as_elim] theorem a14 (h:∀a b c d e f,P [a,b,c,d,e,f]):∀us,us.length=6->P us
 |[a,b,c,d,e,f],_=>h a b c d e f
end
end L2
namespace K34
open PySem L2
set_option genInjectivity false in
set_option genSizeOfSpec false in
structure Adr where
 f:Nat->Addr
 d:Nat->bh
 u:Nat->Value
 f_zai:Addr
 d_zai:bh
 f_zan:Addr
 d_zan:bh
 f_zaf:Addr
 d_zaf:bh
 f_zn:Addr
 d_zn:bh
 c_zca:Addr
 m_zca:Nat->Addr
 e_zca:Nat->bh
 c_zcb:Addr
 m_zcb:Nat->Addr
 e_zcb:Nat->bh
 c_zbz:Addr
 m_zbz:Nat->Addr
 e_zbz:Nat->bh
 c_zbw:Addr
 c_zbx:Addr
 c_zbv:Addr
 c_zby:Addr
end K34
namespace K34
open PySem L2 Pn
structure bf2 (K:ac) (C:Addr):Prop where
 cl:Cls K C
 na:∀f∈(["settings","tuples","numbers","sets","kept_rules","bars","free"]:List Str),NoAttr K C f
def L8(K:ac)(f:Addr):Bool:=match K.lookup f with
 | some ⟨_,_,.func fn,_⟩=>(match fn.code with
  |.ref c=>dR K c 294
  |_=>false)
 |_=>false
structure An (K:ac) (t:Adr):Prop where
 pf:bf2 K t.c_zbz
 pc:Cls K t.c_zca
 pr:NoAttr K t.c_zca "records"
 bc:Cls K t.c_zcb
 bp:NoAttr K t.c_zcb "panel"
 bk:NoAttr K t.c_zcb "kept"
 ec:ECls K t.c_zby
 n1:NoAttr K t.c_zby "part"
 n2:NoAttr K t.c_zby "choice"
 en:ECls K t.c_zbx
 mp:gn K t.c_zby (.ref t.c_zbw)=some true
 mc:gn K t.c_zbx (.ref t.c_zbw)=some true
 k1:c_ K (.ref t.c_zby) (.ref t.c_zbx)=some false
 k2:c_ K (.ref t.c_zby) (.ref t.c_zby)=some true
 k3:c_ K (.ref t.c_zbx) (.ref t.c_zbx)=some true
 k4:c_ K (.ref t.c_zbx) (.ref t.c_zby)=some false
 ks_place_key:dH K (.ref (t.m_zca 12)) "__get__"=some (some (.builtin "function.__get__"))
 kt_place_key:f6 K (.ref (t.m_zca 12))=some false
 lam:L8 K (t.f 17)=true
def Ct(ns:List Int)(k:Nat):Int:=ns.getD k 0
def B1(c k:Int):Int:=
 if c%2=0/\c/2^(27*k+1).toNat≠0/\c/2^(27*k+1).toNat ≠ -1 then cA (c/2^(27*k+1).toNat) 134217727
 else
  let n:=(c+7919*k)*48271%2147483647
  let m:=n*n%2147483629
  m*(m+3)%2147483587/32
def okB(sw rule:Sw):Prop:=(rule.map (·.1)).Nodup/\∀e∈rule,Jn sw e
abbrev nO(l:List Nat):HO:=.lst (l.map λn:Nat=>V.int (n:Int))
def Nf:List Nat->Nat->List Nat
 |[],_=>[]
 |s::r,n=>Nf r (n/s)++[n%s]
def Se(sw:Sw)(n:Nat):List Nat:=Nf (sw.map (·.2.length)).reverse n
def Jb(sw:Sw)(ζ:List Sw)(n:Nat):Bool:=ζ.any λr=>(Gn sw r).testBit n
def A8(sw:Sw)(ζ:List Sw):List Nat:=(aV (Aj sw).length).filter λn=>!Jb sw ζ n
def a92(sg:Str)(lo:Nat)(ws:List Str):Prop:=ws.Nodup/\∀z∈ws,1<=z.length/\z.length<=lo/\∀c∈z.cps.toList,c∈sg.cps.toList
structure Rc where
 k:Str
 p:Str
 r:Int
 c:TK
def rcT(x:Rc):TK:=.tup [.at_ (.inr x.k),.at_ (.inr x.p),.at_ (.inl x.r),x.c]
abbrev Tr:=List (Str×Rc)
def RcAt(H:Hp)(a:Addr)(x:Rc):Prop:=∃v,H a=some (.tup [.str x.k,.str x.p,.int x.r,v])/\TkAt H x.c v
def UpT(T:Tr):Prop:=∀(i:Nat) n x,T[i]?=some (n,x)->n ≠ "" /\ (x.p="" \/ ∃j,j<i/\∃y,T[j]?=some (x.p,y))
def Bl(T:Tr):Prop:=(T.map (·.1)).Nodup/\T.length<=8/\(∀x∈T,Ap x.2.c<=2)/\UpT T
abbrev kT(e:(Str×Rc)×Addr):Key×V:=(.inr e.1.1,.ref e.2)
def TrAt(ok:Addr->Prop)(H:Hp)(d:Addr)(T:Tr):Prop:=∃es:List ((Str×Rc)×Addr),es.map (·.1)=T/\Own ok H d (.dK (es.map kT))/\∀e∈es,RcAt H e.2 e.1.2
def PlAt(C:Addr)(ok:Addr->Prop)(H:Hp)(p:Addr)(T:Tr):Prop:=∃dx d,Own ok H p (.ins C dx [("records", .ref d)])/\TrAt ok H d T
def aa6(T:Tr)(n:Str):TK:=((T.lookup n).map rcT).getD (.tup [])
def vkT(T:Tr):TK:=.tup ((Bx ltS (T.map (·.1))).map λn=>.tup [.at_ (.inr n),aa6 T n])
abbrev Gp:=TK×Nat×Nat
noncomputable def Ia(gs:List Gp)(k:TK)(n:Nat):List Gp:=if k∈gs.map (·.1) then gs.map λg=>if g.1=k then(g.1,g.2.1,g.2.2 ||| 2^n) else g else gs++[(k,n,2^n)]
noncomputable def Co(f:Nat->TK)(ns:List Nat):List Gp:=ns.foldl (λgs n=>Ia gs (f n) n) []
structure Pg (H:Hp) (W:Addr) (sw:Sw) (ζ:List Sw) (l k f:Addr):Prop where
 at_:H W=some (.lst [.ref l,.ref k,.ref f])
 sws:SwIn any H l sw
 ok:okSw sw
 rl:RulesAt any H k ζ
 rok:∀r∈ζ,E5 sw r
 few:ζ.length<=8
 fr:H f=some (nO (A8 sw ζ))
 ne:A8 sw ζ≠[]
abbrev kF(g:Nat->Addr)(n:Nat):Key×V:=(.inl (n:Int),.ref (g n))
structure FoundAt (H:Hp) (F:Addr) (ns:List Nat) (g:Nat->Addr) (tr:Nat->Tr):Prop where
 at_:H F=some (.dK (ns.map (kF g)))
 one:∀n∈ns,TrAt any H (g n) (tr n)/\Bl (tr n)
 few:∃Ts:List Tr,Ts.length<=4/\∀n∈ns,tr n∈Ts
structure a96 (C:Addr) (H:Hp) (l:Addr) (ns:List Nat) (tr:Nat->Tr) (rs:List (Nat×Addr×Addr)):Prop where
 nms:rs.map (·.1)=ns
 at_:H l=some (.lst (rs.map λr=>.ref r.2.1))
 one:∀r∈rs,H r.2.1=some (.tup [.int ((2^r.1:Nat):Int),.ref r.2.2])/\PlAt C any H r.2.2 (tr r.1)
def stT(T:Tr)(n:Str):Option TK:=(T.lookup n).map rcT
def StAt(H:Hp):Option TK->V->Prop
 |none,v=>v=.non
 |some x,v=>(∃a,v=.ref a)/\TkAt H x v
def bf3(C:Addr)(H:Hp)(l:Addr)(rs:List ((Nat×Tr)×Addr×Addr)):Prop:=H l=some (.lst (rs.map λr=>.ref r.2.2))/\∀r∈rs,H r.2.2=some (.tup [.int (r.1.1:Int),.ref r.2.1])/\PlAt C any H r.2.1 r.1.2/\Bl r.1.2
def ag1(C:Addr)(H:Hp)(D:Addr)(gs:List Gp):Prop:=∃es:List ((Gp×Tr)×Addr×Addr),es.map (·.1.1)=gs/\H D=some (.lst (es.map λe=>.ref e.2.2))/\∀e∈es,H e.2.2=some (.tup [.int (e.1.1.2.2:Int),.ref e.2.1])/\PlAt C any H e.2.1 e.1.2/\Bl e.1.2/\vkT e.1.2=e.1.1.1
def BookAt(t:Adr)(H:Hp)(b:Addr)(sw:Sw)(ζ:List Sw)(gs:List Gp):Prop:=∃dx p l,H b=some (.ins t.c_zcb dx [("panel", .ref p),("kept", .ref l)])/\PanelAt t.c_zbz any H p sw ζ/\ag1 t.c_zca H l gs
def aj9(k:TK)(n:Str):Prop:=∃T,Bl T/\vkT T=k/\(stT T n).isSome=true
structure Bk (ns:List Nat) (tr:Nat->Tr) (gs:List Gp):Prop where
 ge:gs=Co (λn=>vkT (tr n)) ns
 asc:ns.Pairwise (· < ·)
 ok:∀n∈ns,Bl (tr n)/\n<256
 few:gs.length<=4
def cb0:Option Nat->V
 |none=>.non
 |some n=>.int (n:Int)
inductive Bel (T:Tr) (n:Str):Str->Prop
 |one {z:Str}{x:Rc} (h:T.lookup z=some x) (e:x.p=n):Bel T n z
 |more {z:Str}{x:Rc} (h:T.lookup z=some x) (b:Bel T n x.p):Bel T n z
def Ch(T:Tr)(p z:Str):Prop:=∃x,T.lookup z=some x/\x.p=p
def pT(T:Tr)(z:Str):Str:=((T.lookup z).map (·.p)).getD ""
def rkT(T:Tr)(z:Str):Int:=((T.lookup z).map (·.r)).getD 0
def Fw(T:Tr):List Str:=Bx (ltK (rkT T)) (T.map (·.1))
def chz(T:Tr)(zs:List Str)(p:Str):List Str:=zs.filter λz=>decide (pT T z=p)
def UnAt(H:Hp)(u:Addr)(T:Tr):Prop:=∃kvs,H u=some (.dK kvs)/\∀p,match Bf kvs (.inr p) with
 |none=>chz T (Fw T) p=[]
 |some v=>∃l,v=.ref l/\H l=some (Bd (chz T (Fw T) p))
def b97(H:Hp)(D:Addr)(zs:List Str):Prop:=∃es:List ((Int×Str)×Addr),es.map (·.1.2)=zs/\H D=some (.lst (es.map λe=>.ref e.2))/\∀e∈es,H e.2=some (.tup [.int e.1.1,.str e.1.2])
noncomputable def hsB(n:Str)(g:Gp):Bool:=@decide (aj9 g.1 n) (dB _)
def hvL(ns:List Nat)(tr:Nat->Tr)(n:Str):List Nat:=ns.filter λj=>(stT (tr j) n).isSome
noncomputable def alF(ns:List Nat)(tr:Nat->Tr)(n:Str)(x:Nat):List Nat:=ns.filter λj=>decide (stT (tr j) n=stT (tr x) n)
noncomputable def blF(ns:List Nat)(tr:Nat->Tr)(n z:Str):List Nat:=ns.filter λj=>@decide (Bel (tr j) n z) (dB _)
noncomputable def BnAt(H:Hp)(D:Addr)(ns:List Nat)(tr:Nat->Tr)(n:Str):Prop:=∃es:List (Str×Addr),(es.map (·.1)).Nodup/\(∀z,z∈es.map (·.1)↔blF ns tr n z≠[])/\(es.map (·.1)).Pairwise (λa b=>ltS a b=true)/\H D=some (.lst (es.map λe=>.ref e.2))/\∀e∈es,H e.2=some (.tup [.str e.1,.int (Gr (blF ns tr n e.1):Nat)])
def Gz(ns:List Nat):V->Option Nat
 |.int i=>if 0<=i/\i.toNat∈ns then some i.toNat else none
 |_=>none
def flV:V->Prop
 |.int _=>True
 |.bl _=>True
 |.non=>True
 |.str _=>True
 |_=>False
def ca0(C:Addr)(H:Hp)(p:Addr)(sw:Sw):Prop:=∃l s,SelfAt C any H p l s/\TupsAt any H l (Aj sw)
def BqAt(t:Adr)(H:Hp)(b:Addr)(sw:Sw)(gs:List Gp):Prop:=∃dx p l,H b=some (.ins t.c_zcb dx [("panel", .ref p),("kept", .ref l)])/\ca0 t.c_zbz H p sw/\ag1 t.c_zca H l gs
structure FndR (H:Hp) (F:Addr) (ns:List Nat) (g:Nat->Addr) (tr:Nat->Tr):Prop where
 at_:Rd H F (.dK (ns.map (kF g)))
 one:∀n∈ns,TrAt any H (g n) (tr n)/\Bl (tr n)
def FxAt(C:Addr)(H:Hp)(a:Addr)(fs:List (Str×V)):Prop:=∃dx,dx≠a/\H a=some (flO a C (some dx))/\H dx=some (xdO dx fs)
def Bad(C:Addr)(fs:List (Str×V))(H:Hp)(E:XK):Prop:=∀H' a,Same H H'->FxAt C H' a fs->E (.ref a) none H'
abbrev St0(H:Hp):Prop:=ag3 H 294 4
section
abbrev S_:=ac->Adr->Sp
def W2:S_:=λK t vs H Q _=>∃a ns,vs=[.ref a]/\SqL K H a (ns.map λn:Nat=>V.int (n:Int))/\(∀n∈ns,n<=1000)/\Q (.int (ab1 ns)) H
def Ju:S_:=λK t vs H Q _=>∃a ms,vs=[.ref a]/\SqL K H a (ms.map V.int)/\Q (.int (G5 ms)) H
def Wj:S_:=λK t vs H Q _=>∃z lo hi,vs=[.str z,.int lo,.int hi]/\z.length<=1000/\Q (.bl (decide (lo<=(z.length:Int))&&decide ((z.length:Int)<=hi))) H
def Wo:S_:=λK t vs H Q _=>∃c,vs=[.str ⟨#[c]⟩]/\Q (.bl (K7 c)) H
def Qz:S_:=λK t vs H Q _=>∃z,vs=[.str z]/\okW z/\∀H',Same H H'->Q (.bl true) H'
def Yy:S_:=λK t vs H Q _=>∃a l,vs=[.ref a]/\SqL K H a (l.map V.str)/\okL l/\∀H',Same H H'->Q (.bl true) H'
def Wp:S_:=λK t vs H Q _=>∃a b w l,vs=[.ref a]/\H a=some (.tup [.str w,.ref b])/\H b=some (Bd l)/\okW w/\Gu l/\∀H',Same H H'->Q (.bl true) H'
def au2:S_:=λK t vs H Q _=>∃a sw,vs=[.ref a]/\SwIn any H a sw/\okSw sw/\∀H' d,Same H H'->SwAt (fresh H) H' d sw->Q (.ref d) H'
def as5:S_:=λK t vs H Q _=>∃d sw,vs=[.ref d]/\SwAt any H d sw/\okSw sw/\∀H' l,Same H H'->TupsAt (fresh H) H' l (Aj sw)->Q (.ref l) H'
def as1:S_:=λK t vs H Q _=>∃l rows,vs=[.ref l]/\TupsAt any H l rows/\rows.Nodup/\rows.length<=256/\∀H' n,Same H H'->NumAt (fresh H) H' n rows->Q (.ref n) H'
def at1:S_:=λK t vs H Q _=>∃d l sw,vs=[.ref d,.ref l]/\SwAt any H d sw/\TupsAt any H l (Aj sw)/\okSw sw/\∀H' s,Same H H'->SetsAt (fresh H) H' s sw->Q (.ref s) H'
def Wb:S_:=λK t vs H Q _=>∃r rule,vs=[.ref r]/\RuleAt any H r rule/\(rule.map (·.1)).Nodup/\rule.length<=100/\∀H' c,Same H H'->RuleAt (fresh H) H' c rule->Q (.ref c) H'
def Wg:S_:=λK t vs H Q _=>∃p l s sw,vs=[.ref p]/\SelfAt t.c_zbz any H p l s/\TupsAt any H l (Aj sw)/\Q (.int (Aj sw).length) H
def as6:S_:=λK t vs H Q _=>∃p l s sw,vs=[.ref p]/\SelfAt t.c_zbz any H p l s/\TupsAt any H l (Aj sw)/\(Aj sw).length<=256/\Q (.int (Rv sw)) H
def Wh:S_:=λK t vs H Q _=>∃p a l s w ss sw,vs=[.ref p,.str w,.ref a]/\SelfAt t.c_zbz any H p l s/\SetsAt any H s sw/\okSw sw/\H a=some (Bd ss)/\Jn sw (w,ss)/\∀H',Same H H'->Q (.int (J9 sw (w,ss))) H'
def at3:S_:=λK t vs H Q _=>∃p r l s sw rule,vs=[.ref p,.ref r]/\SelfAt t.c_zbz (· ≠ r) H p l s/\TupsAt (· ≠ r) H l (Aj sw)/\SetsAt (· ≠ r) H s sw/\okSw sw/\RuleAt any H r rule/\E5 sw rule/\∀H' c,Same H H'->RuleAt (fresh H) H' c rule->Q (.ref c) H'
def Pf(ok:Addr->Prop)(H:Hp)(v:V)(ζ:List Sw):Prop:=(v=.non/\ζ=[]) \/ ∃k,v=.ref k/\RulesAt ok H k ζ
def as7:S_:=λK t vs H Q _=>∃p l s ok v sw ζ,vs=[.ref p,v]/\SelfAt t.c_zbz ok H p l s/\TupsAt ok H l (Aj sw)/\SetsAt ok H s sw/\okSw sw /\
 Pf (λa=>¬ ok a) H v ζ/\(∀r∈ζ,E5 sw r)/\ζ.length<=8/\∀H' k,Same H H'->RulesAt (fresh H) H' k ζ->Q (.ref k) H'
def as2:S_:=λK t vs H Q _=>∃p a dx v sw ζ,vs=[.ref p,.ref a,v]/\H p=some (.ins t.c_zbz dx [])/\SwIn (· ≠ p) H a sw/\okSw sw/\Pf (· ≠ p) H v ζ/\(∀r∈ζ,E5 sw r)/\ζ.length<=8/\Lq sw ζ≠0 /\
 ∀H',(∀b o,b≠p->H b=some o->H' b=some o)->PanelAt t.c_zbz (λb=>b=p\/H b=none) H' p sw ζ->Q .non H'
def Wl:S_:=λK t vs H Q _=>∃p r l s sw rule,vs=[.ref p,.ref r]/\SelfAt t.c_zbz (· ≠ r) H p l s/\TupsAt (· ≠ r) H l (Aj sw)/\SetsAt (· ≠ r) H s sw/\okSw sw/\RuleAt any H r rule/\okB sw rule/\∀H',Same H H'->Q (.int (ah2 sw rule)) H'
def at8:S_:=λK t vs H Q _=>∃p sw ζ,vs=[.ref p]/\PanelAt t.c_zbz any H p sw ζ/\Q (.int (Lq sw ζ)) H
def as3:S_:=λK t vs H Q _=>∃p dx,vs=[.ref p]/\H p=some (.ins t.c_zca dx [])/\∀d,H d=none->d≠p->Q .non (upd (upd H d (.dK [])) p (.ins t.c_zca dx [("records", .ref d)]))
def Wn:S_:=λK t vs H Q _=>∃p dx d kvs n k q r v,vs=[.ref p,.str n,.str k,.str q,.int r,v]/\H p=some (.ins t.c_zca dx [("records", .ref d)])/\H d=some (.dK kvs)/\kvs.length<=8/\∀a,H a=none->Q .non (upd (upd H a (.tup [.str k,.str q,.int r,v])) d (.dK (Cj kvs (.inr n) (.ref a))))
def au8:S_:=λK t vs H Q _=>∃p T,vs=[.ref p]/\PlAt t.c_zca any H p T/\Bl T/\∀l,H l=none->Q (.ref l) (upd H l (Bd (Bx ltS (T.map (·.1)))))
def au4:S_:=λK t vs H Q _=>∃p T,vs=[.ref p]/\PlAt t.c_zca any H p T/\∀H' q,Same H H'->PlAt t.c_zca any H' q T->Q (.ref q) H'
def at6:S_:=λK t vs H Q _=>∃p T,vs=[.ref p]/\PlAt t.c_zca any H p T/\Bl T/\∀H' b,Same H H'->TkAt H' (vkT T) (.ref b)->Q (.ref b) H'
def Q0:S_:=λK t vs H Q _=>∃c n:Nat,vs=[.int (c:Int),.int (n:Int)]/\Q (.bl (c.testBit n)) H
def bi9(c:Nat):Option Nat->Prop
 |some n=>c.testBit n=true/\∀j,j<n->c.testBit j=false
 |none=>c=0
def au6:S_:=λK t vs H Q _=>∃(c:Nat)(o:Option Nat),vs=[.int (c:Int)]/\bi9 c o/\c<2^1000/\Q (cb0 o) H
def Wx:S_:=λK t vs H Q _=>∃(b:Addr)(es:List (Gp×V×Addr)),vs=[.ref b]/\St0 H/\H b=some (.lst (es.map λe=>.ref e.2.2))/\es.length<64/\(es.map (·.1.2.1)).Pairwise (· < ·)/\(∀e∈es,H e.2.2=some (.tup [.int (e.1.2.2:Int),e.2.1])/\e.1.2.2.testBit e.1.2.1=true/\(∀j,j<e.1.2.1->e.1.2.2.testBit j=false)/\e.1.2.2<2^1000)/\∀H' D,Rs 294 H H'->H' D=some (.lst (es.map λe=>.ref e.2.2))->Q (.ref D) H'
noncomputable def Wq:S_:=λK t vs H Q _=>∃(A:Nat)(l:Addr)(ns:List Nat)(tr:Nat->Tr)(rs:List (Nat×Addr×Addr)),vs=[.int (A:Int),.ref l]/\St0 H/\a96 t.c_zca H l ns tr rs/\(∀n∈ns,Bl (tr n)/\A.testBit n=true/\n<256)/\ns.Pairwise (· < ·)/\(∃Ts:List Tr,Ts.length<=4/\∀n∈ns,tr n∈Ts)/\∀H' D,Rs 294 H H'->ag1 t.c_zca H' D (Co (λn=>vkT (tr n)) ns)->Q (.ref D) H'
def as4:S_:=λK t vs H Q _=>∃b p dx sw ζ,vs=[.ref b,.ref p]/\H b=some (.ins t.c_zcb dx [])/\PanelAt t.c_zbz (· ≠ b) H p sw ζ/\∀H' l,(∀a o,a≠b->H a=some o->H' a=some o)->H' b=some (.ins t.c_zcb dx [("panel", .ref p),("kept", .ref l)])->Q .non H'
noncomputable def Ww:S_:=λK t vs H Q _=>∃p l sw ζ ns tr rs,vs=[.ref p,.ref l]/\St0 H/\PanelAt t.c_zbz (· ≠ 294) H p sw ζ/\a96 t.c_zca H l ns tr rs/\(∀n∈ns,Bl (tr n)/\(Ej sw ζ).testBit n=true/\n<256)/\ns.Pairwise (· < ·)/\(∃Ts:List Tr,Ts.length<=4/\∀n∈ns,tr n∈Ts)/\∀H' b,Rs 294 H H'->BookAt t H' b sw ζ (Co (λn=>vkT (tr n)) ns)->Q (.ref b) H'
def Fa:S_:=λK t vs H Q _=>∃(a:Addr)(ns:List Int)(k:Nat),vs=[.ref a,.int k]/\SqL K H a (ns.map V.int)/\Q (.int (Ct ns k)) H
def Bq:S_:=λK t vs H Q _=>∃c k,vs=[.int c,.int k]/\0<=k/\Q (.int (B1 c k)) H
def Mn:S_:=λK t vs H Q _=>∃(c:Int)(sg:Str)(lo m:Nat),vs=[.int c,.str sg,.int lo,.int m]/\1<=lo/\lo<=12/\m<=sg.length/\1<=sg.length/\sg.length<=100/\sg.cps.toList.Nodup/\∀H' l ws,Same H H'->H l=none->H' l=some (Bd ws)->ws.length=m->a92 sg lo ws->Q (.ref l) H'
def au5:S_:=λK t vs H Q _=>∃(c:Int)(m:Nat),vs=[.int c,.int m]/\4<=m/\m<=256/\∀H' l sw,Same H H'->SwIn any H' l sw->okSw sw->Q (.ref l) H'
def Mo:S_:=λK t vs H Q _=>∃l sw,vs=[.ref l]/\SwIn any H l sw/\okSw sw/\Q (.int (Aj sw).length) H
def Wt:S_:=λK t vs H Q _=>∃c l sw,vs=[.int c,.ref l]/\SwIn any H l sw/\okSw sw/\∀H' k ζ,Same H H'->RulesAt any H' k ζ->(∀r∈ζ,E5 sw r)->ζ.length<=3->Q (.ref k) H'
def Qx:S_:=λK t vs H Q _=>∃(l:Addr)(n:Nat)(sw:Sw),vs=[.ref l,.int (n:Int)]/\SwIn any H l sw/\okSw sw/\∀H' r,Same H H'->H' r=some (nO (Se sw n))->Q (.ref r) H'
def Wk:S_:=λK t vs H Q _=>∃(l k:Addr)(n:Nat)(sw:Sw)(ζ:List Sw),vs=[.ref l,.ref k,.int (n:Int)]/\SwIn any H l sw/\okSw sw/\RulesAt any H k ζ/\(∀r∈ζ,E5 sw r)/\n<(Aj sw).length/\∀H',Same H H'->Q (.bl (Jb sw ζ n)) H'
def Wv:S_:=λK t vs H Q _=>∃(c:Int)(m:Nat),vs=[.int c,.int m]/\4<=m/\m<=256/\∀H' W sw ζ l k f,Same H H'->Pg H' W sw ζ l k f->Q (.ref W) H'
def Qy:S_:=λK t vs H Q _=>∃c,vs=[.int c]/\∀H' z,Same H H'->z.length<=60->Q (.str z) H'
def Wd:S_:=λK t vs H Q _=>∃k c,vs=[.str k,.int c]/\∀H' x v,Same H H'->TkAt H' x v->Ap x<=2->Q v H'
def W1:S_:=λK t vs H Q _=>∃(c:Int)(v:Nat)(l:Addr)(ws:List Str),vs=[.int c,.int (v:Int),.ref l]/\H l=some (Bd ws)/\ws.Nodup/\ws.length<=8/\(∀z∈ws,z ≠ "")/\∀H' d T,Same H H'->TrAt any H' d T->Bl T->Q (.ref d) H'
def Wr:S_:=λK t vs H Q _=>∃(c:Int)(m:Nat),vs=[.int c,.int m]/\m<=8/\∀H' l ws,Same H H'->H' l=some (Bd ws)->ws.length=m->ws.Nodup->(∀z∈ws,z.length<=12/\z ≠ "")->Q (.ref l) H'
def We:S_:=λK t vs H Q _=>∃(c:Int)(l:Addr)(sw:Sw)(n m:Nat),vs=[.int c,.ref l,.int (n:Int),.int (m:Int)]/\SwIn any H l sw/\okSw sw/\1<=m/\∀H' v,Same H H'->v<m->Q (.int (v:Int)) H'
def W0:S_:=λK t vs H Q _=>∃(a:Addr)(ns:List Int)(b:Bool),vs=[.ref a,.bl b]/\SqL K H a (ns.map V.int)/\∀H' L W nm F sw ζ l k f ws g tr,Same H H'->H' L=some (.lst [.ref W,.ref nm,.ref F])->H' nm=some (Bd ws)->1<=ws.length/\ws.length<=8/\(∀z∈ws,z.length<=12/\z ≠ "")->Pg H' W sw ζ l k f->FoundAt H' F (A8 sw ζ) g tr->Q (.ref L) H'
def Ws:S_:=λK t vs H Q _=>∃d T,vs=[.ref d]/\TrAt any H d T/\Bl T/\∀H' p,Same H H'->PlAt t.c_zca any H' p T->Q (.ref p) H'
noncomputable def Wz:S_:=λK t vs H Q _=>∃W F l k f sw ζ g tr,vs=[.ref W,.ref F]/\St0 H/\Pg H W sw ζ l k f/\FoundAt H F (A8 sw ζ) g tr/\∀H' b,Rs 294 H H'->BookAt t H' b sw ζ (Co (λn=>vkT (tr n)) (A8 sw ζ))->Q (.ref b) H'
def Wm:S_:=λK t vs H Q _=>∃p T n,vs=[.ref p,.str n]/\PlAt t.c_zca any H p T/\Bl T/\Q (.bl (stT T n).isSome) H
def bc9:S_:=λK t vs H Q _=>∃H0 a x y,vs=[.ref a,x,y]/\H0 a=none/\H=upd H0 a (Fn a t.c_zby none)/\∀H' dx,Same H0 H'->dx≠a->H' a=some (Fn a t.c_zby (some dx))->H' dx=some (xdO dx [("part", x),("choice", y)])->Q .non H'
def au9:S_:=λK t vs H Q _=>∃p T n,vs=[.ref p,.str n]/\PlAt t.c_zca any H p T/\Bl T/\(stT T n).isSome=true/\∀v,StAt H (stT T n) v->Q v H
def NoN(t:Adr)(n:Str)(c:V)(H:Hp)(E:XK):Prop:=Bad t.c_zby [("part", .str n),("choice", c)] H E
def NoC(t:Adr)(H:Hp)(E:XK):Prop:=∀H' a,Same H H'->H' a=some (flO a t.c_zbx none)->E (.ref a) none H'
def Wy:S_:=λK t vs H Q _=>∃v,vs=[v]/\flV v/\Q (.bl (match v with | .int _=>true|_=>false)) H
def Wu:S_:=λK t vs H Q _=>∃i,vs=[.int i]/\Q (.bl true) H
def as9:S_:=λK t vs H Q _=>∃p T n,vs=[.ref p,.str n]/\PlAt t.c_zca any H p T/\Bl T/\(stT T n).isSome=true/\Q .non H
def at4:S_:=λK t vs H Q _=>∃p T n x,vs=[.ref p,.str n]/\PlAt t.c_zca any H p T/\Bl T/\T.lookup n=some x/\Q (.str x.p) H
def au0:S_:=λK t vs H Q _=>∃p T n x,vs=[.ref p,.str n]/\PlAt t.c_zca any H p T/\Bl T/\T.lookup n=some x/\Q (.int x.r) H
def at5:S_:=λK t vs H Q _=>∃p T n x,vs=[.ref p,.str n]/\PlAt t.c_zca any H p T/\Bl T/\T.lookup n=some x/\∀q,H q=none->Q (.ref q) (upd H q (.tup [.int x.r,.str n]))
def as8:S_:=λK t vs H Q _=>∃p T,vs=[.ref p]/\PlAt t.c_zca any H p T/\Bl T/\∀H' u,Same H H'->UnAt H' u T->Q (.ref u) H'
def Wi:S_:=λK t vs H Q _=>∃p T n,vs=[.ref p,.str n]/\PlAt t.c_zca any H p T/\Bl T/\n ≠ "" /\ ∀H' D zs,Same H H'->b97 H' D zs->zs.Nodup->(∀z,z∈zs↔Bel T n z)->zs.length<=8->Q (.ref D) H'
def at9:S_:=λK t vs H Q _=>∃p T n,vs=[.ref p,.str n]/\PlAt t.c_zca any H p T/\Bl T/\(stT T n).isSome=true/\∀H' D zs,Same H H'->H' D=some (Bd zs)->zs.Nodup->(∀z,z∈zs↔Bel T n z)->zs.length<=8->Q (.ref D) H'
noncomputable def at7:S_:=λK t vs H Q E=>∃b n sw gs,vs=[.ref b,.str n]/\BqAt t H b sw gs/\gs.length<=4/\((gs.filter (hsB n)≠[]/\∀H' l rs,Same H H'->bf3 t.c_zca H' l rs->rs.length<=4->(∀r∈rs,(stT r.1.2 n).isSome=true)->(rs.map λr=>(vkT r.1.2,r.1.1))=(gs.filter (hsB n)).map (λg=>(g.1,g.2.2))->Q (.ref l) H')\/(gs.filter (hsB n)=[]/\NoN t n .non H E))
def au7:S_:=λK t vs H Q E=>∃b v sw gs ns tr,vs=[.ref b,v]/\flV v/\BqAt t H b sw gs/\Bk ns tr gs/\(∀m∈ns,m<(Aj sw).length)/\(∀n,Gz ns v=some n -> ∀a m q T,H a=some (.tup [m,.ref q])->PlAt t.c_zca any H q T->Bl T->vkT T=vkT (tr n)->Q (.ref a) H)/\(Gz ns v=none->NoC t H E)
noncomputable def Wf:S_:=λK t vs H Q E=>∃b n v sw gs ns tr,vs=[.ref b,.str n,v]/\flV v/\BqAt t H b sw gs/\Bk ns tr gs/\(∀m∈ns,m<(Aj sw).length)/\(∀m,Gz ns v=some m->if(stT (tr m) n).isSome=true then ∀H',Same H H'->Q (.int (Gr (alF ns tr n m):Nat)) H' else NoN t n v H E)/\(Gz ns v=none->NoC t H E)
noncomputable def au3:S_:=λK t vs H Q E=>∃b n sw gs ns tr,vs=[.ref b,.str n]/\BqAt t H b sw gs/\Bk ns tr gs/\((hvL ns tr n≠[]/\∀H' D,Same H H'->H D=none->BnAt H' D ns tr n->Q (.ref D) H')\/(hvL ns tr n=[]/\NoN t n .non H E))
noncomputable def Wc:S_:=λK t vs H Q _=>∃F n ns g tr,vs=[.ref F,.str n]/\FoundAt H F ns g tr/\ns.Pairwise (· < ·)/\(∀m∈ns,m<256)/\∀H' D,Same H H'->(n ≠ "" -> BnAt H' D ns tr n)->(∃xs,H' D=some (.lst xs))->Q (.ref D) H'
noncomputable def au1:S_:=λK t vs H Q _=>∃(F:Addr)(n:Str)(m:Nat)(ns:List Nat)(g:Nat->Addr)(tr:Nat->Tr),vs=[.ref F,.str n,.int (m:Int)]/\FndR H F ns g tr/\ns.Pairwise (· < ·)/\(∀m∈ns,m<256)/\m∈ns/\if(stT (tr m) n).isSome=true then ∀H',Same H H'->Q (.int (Gr (alF ns tr n m):Nat)) H' else ∀q,H q=none->Q (.ref q) (upd H q (.tup [.str "no part", .str n,.int (m:Int)]))
noncomputable def Mm:S_:=λK t vs H Q _=>∃b n v dp sw gs ns tr,vs=[.ref b,.str n,v,.bl dp]/\flV v/\BqAt t H b sw gs/\Bk ns tr gs/\(∀m∈ns,m<(Aj sw).length)/\match dp with
 |true=>(hvL ns tr n≠[] -> ∀H' D,Same H H'->H D=none->BnAt H' D ns tr n->Q (.ref D) H')/\(hvL ns tr n=[] -> ∀H' q,Same H H'->H' q=some (.tup [.str "no part", .str n,.non])->Q (.ref q) H')
 |false=>(∀m,Gz ns v=some m->if(stT (tr m) n).isSome=true then ∀H',Same H H'->Q (.int (Gr (alF ns tr n m):Nat)) H' else ∀H' q,Same H H'->H' q=some (.tup [.str "no part", .str n,v])->Q (.ref q) H')/\(Gz ns v=none -> ∀H' q,Same H H'->H' q=some (.tup [.bl true,.bl false])->Q (.ref q) H')
def Q3:S_:=λK t vs H Q _=>∃(a:Addr)(ns:List Int),vs=[.ref a]/\SqL K H a (ns.map V.int)/\ns.length<=63/\St0 H/\∀H',Q (.bl true) H'
end
end K34
namespace K34
open PySem L2
def top(i:Nat):Stmt:=PySem.Challenge.pw_manyleaf_k34_alike_and_beneath.main.body.getD i (.Pass ⟨0,0,0,0⟩)
def bl:List Str:=["all","bool","dict","enumerate","int","isinstance","len","list","range","reversed","set","sorted","str","sum","tuple"]
abbrev af1:Df:=⟨"_law_cell","_law_cell", top 41,["_law_script","_law_k"],2,1⟩
abbrev ae5:Df:=⟨"_law_total","_law_total", top 46,["_law_switches_here","_law_total_here","_law_word","_law_settings"],1,1⟩
abbrev af7:Df:=⟨"_law_mix","_law_mix", top 42,["_law_cell_here","_law_k","_law_left","_law_number"],2,1⟩
abbrev ae4:Df:=⟨"_law_spelt","_law_spelt", top 43,["_law_cell_here","_law_signs","_law_longest","_law_many","_law_word","_law_k","_law_long","_law_at","_law_words","_law_steps"],4,2⟩
abbrev be6:Df:=⟨"_law_switches","_law_switches", top 44,["_law_cell_here","_law_most","_law_letters","_law_words","_law_switches_here","_law_total_here","_law_k","_law_size"],2,3⟩
abbrev ae3:Df:=⟨"_law_rules","_law_rules", top 47,["_law_cell_here","_law_switches_here","_law_rules_here","_law_j","_law_rule","_law_k","_law_word","_law_settings","_law_bits","_law_some"],2,2⟩
abbrev ad6:Df:=⟨"_law_digits","_law_digits", top 45,["_law_switches_here","_law_number","_law_found","_law_word","_law_settings"],2,1⟩
abbrev ad5:Df:=⟨"_law_barred","_law_barred", top 48,["_law_switches_here","_law_rules_here","_law_number","_law_digits_here","_law_rule","_law_inside"],3,2⟩
abbrev ae7:Df:=⟨"_law_world","_law_world", top 49,["_law_cell_here","_law_most","_law_switches_here","_law_rules_here","_law_free"],2,4⟩
abbrev af3:Df:=⟨"_law_text","_law_text", top 50,["_law_cell_here","_law_signs","_law_long"],1,2⟩
abbrev ad2:Df:=⟨"_law_content","_law_content", top 51,["_law_kind","_law_cell_here","_law_wide","_law_rows","_law_row"],2,3⟩
abbrev af4:Df:=⟨"_law_tree","_law_tree", top 52,["_law_cell_here","_law_variant_here","_law_names_here","_law_tree_here","_law_k","_law_name","_law_number","_law_kind","_law_holders","_law_rank"],3,4⟩
abbrev ae1:Df:=⟨"_law_names","_law_names", top 53,["_law_cell_here","_law_many"],2,3⟩
abbrev ad3:Df:=⟨"_law_variant","_law_variant", top 54,["_law_cell_here","_law_switches_here","_law_number","_law_many"],4,2⟩
abbrev af2:Df:=⟨"_law_made","_law_made", top 56,["_law_script","_law_much","_law_world_here","_law_names_here","_law_many","_law_trees","_law_found","_law_number"],2,5⟩
abbrev D_zai:Df:=⟨"__init__","Plain.__init__", Au (top 10) 0,["self"],1,1⟩
abbrev ax8:Df:=⟨"allowed","Panel.allowed", Au (top 32) 10,["self"],1,1⟩
abbrev D_zan:Df:=⟨"__init__","Book.__init__", Au (top 23) 0,["self","panel"],2,3⟩
abbrev ay2:Df:=⟨"copied","Plain.copied", Au (top 10) 19,["self","twin"],1,3⟩
abbrev ay4:Df:=⟨"names","Plain.names", Au (top 10) 8,["self"],1,1⟩
abbrev ax6:Df:=⟨"value_key","Plain.value_key", Au (top 10) 21,["self"],1,3⟩
abbrev af8:Df:=⟨"in_set","in_set", top 12,["choices","number"],2,1⟩
abbrev be7:Df:=⟨"least_choice","least_choice", top 13,["choices","number"],1,2⟩
abbrev D_zbd:Df:=⟨"in_order","in_order", top 16,["pairs"],1,6⟩
abbrev ad9:Df:=⟨"kept_rows","kept_rows", top 25,["allowed","rows","sets","plains","choices","plain","key"],2,7⟩
abbrev ae8:Df:=⟨"gathered","gathered", top 24,["panel","rows","book"],2,8⟩
abbrev af5:Df:=⟨"union_of","union_of", top 15,["sets","choices","one"],1,1⟩
abbrev Xg:Df:=⟨"many","Panel.many", Au (top 32) 3,["self"],1,1⟩
abbrev ax0:Df:=⟨"all_choices","Panel.all_choices", Au (top 32) 9,["self"],1,2⟩
abbrev ad4:Df:=⟨"has_length","has_length", top 20,["thing","least","greatest"],3,1⟩
abbrev ad7:Df:=⟨"is_letter","is_letter", top 21,["sign"],1,1⟩
abbrev af6:Df:=⟨"is_word","is_word", top 19,["thing"],1,2⟩
abbrev be2:Df:=⟨"are_unlike_words","are_unlike_words", top 33,["things"],1,3⟩
abbrev Xh:Df:=⟨"term","Panel.term", Au (top 32) 12,["self","word","settings"],3,4⟩
abbrev Xj:Df:=⟨"box","Panel.box", Au (top 32) 11,["self","terms","choices","word"],2,5⟩
abbrev ad0:Df:=⟨"copied_rule","copied_rule", top 39,["rule","copied","word"],1,1⟩
abbrev ax4:Df:=⟨"read_rule","Panel.read_rule", Au (top 32) 2,["self","rule"],2,6⟩
abbrev ax1:Df:=⟨"read_rules","Panel.read_rules", Au (top 32) 1,["self","rules"],2,7⟩
abbrev ad8:Df:=⟨"is_switch","is_switch", top 35,["switch"],1,4⟩
abbrev be5:Df:=⟨"read_switches","read_switches", top 34,["switches","settings","many","switch"],1,5⟩
abbrev be1:Df:=⟨"settings_of_choices","settings_of_choices", top 36,["settings","tuples","word","longer","ahead"],1,1⟩
abbrev be0:Df:=⟨"numbers_by_settings","numbers_by_settings", top 37,["tuples","numbers","number","told"],1,1⟩
abbrev af9:Df:=⟨"set_of","set_of", top 14,["numbers","choices","number"],1,1⟩
abbrev be3:Df:=⟨"sets_of_settings","sets_of_settings", top 38,["settings","tuples","sets","place","word","setting","having"],2,2⟩
abbrev D_zaf:Df:=⟨"__init__","Panel.__init__", Au (top 32) 0,["self","switches","rules"],3,8⟩
abbrev Xl:Df:=⟨"lay","Plain.lay", Au (top 10) 17,["self","name","kind","parent","rank","content"],6,1⟩
abbrev ae2:Df:=⟨"_law_plain","_law_plain", top 55,["_law_tree_here","_law_plain_here","_law_name","_law_kind","_law_parent","_law_rank","_law_content_here"],1,3⟩
abbrev af0:Df:=⟨"_law_book","_law_book", top 57,["_law_world_here","_law_found","_law_switches_here","_law_rules_here","_law_free","_law_panel","_law_rows","_law_number"],2,10⟩
abbrev ad1:Df:=⟨"_law_beneath","_law_beneath", top 58,["_law_found","_law_name","_law_pairs","_law_number","_law_tree_here","_law_other","_law_at"],2,1⟩
abbrev D_zn:Df:=⟨"__init__","EditError.__init__", Au (top 6) 0,["self","part","choice"],3,1⟩
abbrev ax3:Df:=⟨"need_place","Plain.need_place", Au (top 10) 11,["self","name"],2,3⟩
abbrev ay5:Df:=⟨"state","Plain.state", Au (top 10) 2,["self","name"],2,3⟩
abbrev ax5:Df:=⟨"parent_of","Plain.parent_of", Au (top 10) 5,["self","name"],2,4⟩
abbrev ay0:Df:=⟨"rank_of","Plain.rank_of", Au (top 10) 6,["self","name"],2,4⟩
abbrev Y3:Df:=⟨"place_key","Plain.place_key", Au (top 10) 10,["self","name"],2,5⟩
abbrev ax2:Df:=⟨"all_unders","Plain.all_unders", Au (top 10) 14,["self","unders","name"],1,8⟩
abbrev Xi:Df:=⟨"walk","Plain.walk", Au (top 10) 13,["self","name","unders","found","waiting","line"],2,9⟩
abbrev ax9:Df:=⟨"beneath","Plain.beneath", Au (top 10) 12,["self","name"],2,10⟩
abbrev Xk:Df:=⟨"has","Plain.has", Au (top 10) 1,["self","name"],2,1⟩
abbrev ax7:Df:=⟨"rows_with","Book.rows_with", Au (top 23) 2,["self","name","rows"],2,3⟩
abbrev ae9:Df:=⟨"is_whole","is_whole", top 18,["thing"],1,1⟩
abbrev ay3:Df:=⟨"row_of","Book.row_of", Au (top 23) 8,["self","number","row"],2,2⟩
abbrev Xf:Df:=⟨"alike","Book.alike", Au (top 23) 10,["self","name","number","there","record"],3,4⟩
abbrev ay1:Df:=⟨"beneath","Book.beneath", Au (top 23) 11,["self","name","found","choices","plain","below"],2,11⟩
abbrev ae0:Df:=⟨"_law_asked","_law_asked", top 59,["_law_book_here","_law_name","_law_number","_law_deep","_law_told","e"],4,12⟩
abbrev ae6:Df:=⟨"_law_whole","_law_whole", top 60,["_law_found"],1,1⟩
abbrev be4:Df:=⟨"_law_alike_due","_law_alike_due", top 61,["_law_found","_law_name","_law_number"],3,1⟩
abbrev D_zbp:Df:=⟨"law","law", top 62,["_law_script","_law_world_here","_law_names_here","_law_found","_law_book_here","_law_total_here","_law_name","_law_number","_law_told","_law_due","_law_turn"],1,13⟩
section
variable (K:ac) (t:Adr)
abbrev bx3:FI:=C5 ax2 (t.m_zca 0) (t.e_zca 0) (as8 K t)
abbrev bh7:FI:=C5 ax9 (t.m_zca 1) (t.e_zca 1) (at9 K t)
abbrev by1:FI:=C5 ay2 (t.m_zca 2) (t.e_zca 2) (au4 K t)
abbrev ak4:FI:=C5 Xk (t.m_zca 3) (t.e_zca 3) (Wm K t)
abbrev ba8:FI:=C5 Xl (t.m_zca 4) (t.e_zca 4) (Wn K t)
abbrev by3:FI:=C5 ay4 (t.m_zca 5) (t.e_zca 5) (au8 K t)
abbrev bx4:FI:=C5 ax3 (t.m_zca 6) (t.e_zca 6) (as9 K t)
abbrev bx6:FI:=C5 ax5 (t.m_zca 7) (t.e_zca 7) (at4 K t)
abbrev bx9:FI:=C5 ay0 (t.m_zca 8) (t.e_zca 8) (au0 K t)
abbrev ak5:FI:=C5 ay5 (t.m_zca 9) (t.e_zca 9) (au9 K t)
abbrev bx8:FI:=C5 ax6 (t.m_zca 10) (t.e_zca 10) (at6 K t)
abbrev ba7:FI:=C5 Xi (t.m_zca 11) (t.e_zca 11) (Wi K t)
abbrev bx7:FI:=C5 Y3 (t.m_zca 12) (t.e_zca 12) (at5 K t)
noncomputable abbrev ba5:FI:=C5 Xf (t.m_zcb 0) (t.e_zcb 0) (Wf K t)
noncomputable abbrev by0:FI:=C5 ay1 (t.m_zcb 1) (t.e_zcb 1) (au3 K t)
abbrev by2:FI:=C5 ay3 (t.m_zcb 2) (t.e_zcb 2) (au7 K t)
noncomputable abbrev bh5:FI:=C5 ax7 (t.m_zcb 3) (t.e_zcb 3) (at7 K t)
abbrev bh4:FI:=C5 ax0 (t.m_zbz 0) (t.e_zbz 0) (as6 K t)
abbrev bh6:FI:=C5 ax8 (t.m_zbz 1) (t.e_zbz 1) (at8 K t)
abbrev ak3:FI:=C5 Xj (t.m_zbz 2) (t.e_zbz 2) (Wl K t)
abbrev ak2:FI:=C5 Xg (t.m_zbz 3) (t.e_zbz 3) (Wg K t)
abbrev bx5:FI:=C5 ax4 (t.m_zbz 4) (t.e_zbz 4) (at3 K t)
abbrev bx2:FI:=C5 ax1 (t.m_zbz 5) (t.e_zbz 5) (as7 K t)
abbrev ba6:FI:=C5 Xh (t.m_zbz 6) (t.e_zbz 6) (Wh K t)
def i_zai:FI:=⟨t.f_zai,t.d_zai,D_zai.ps,1,as3 K t,[],[]⟩
def i_zan:FI:=⟨t.f_zan,t.d_zan,D_zan.ps,3,as4 K t,[],[]⟩
def i_zaf:FI:=⟨t.f_zaf,t.d_zaf,D_zaf.ps,8,as2 K t,[.non],[.none]⟩
def i_zn:FI:=⟨t.f_zn,t.d_zn,D_zn.ps,1,bc9 K t,[.non],[.none]⟩
noncomputable def am1:List MI:=[⟨t.c_zcb,ba5 K t⟩]
def Fv:List MI:=[⟨t.c_zbz,bh4 K t⟩]
def Nh:List MI:=[⟨t.c_zca,bx3 K t⟩]
def Md:List MI:=[⟨t.c_zbz,bh6 K t⟩]
noncomputable def Gy:List MI:=[⟨t.c_zca,bh7 K t⟩,⟨t.c_zcb,by0 K t⟩]
def am2:List MI:=[⟨t.c_zbz,ak3 K t⟩]
def Zy:List MI:=[⟨t.c_zca,by1 K t⟩]
def am4:List MI:=[⟨t.c_zca,ak4 K t⟩]
def bj3:List MI:=[⟨t.c_zca,ba8 K t⟩]
def Yc:List MI:=[⟨t.c_zbz,ak2 K t⟩]
def am6:List MI:=[⟨t.c_zca,by3 K t⟩]
def Ni:List MI:=[⟨t.c_zca,bx4 K t⟩]
def Qe:List MI:=[⟨t.c_zca,bx6 K t⟩]
def Vn:List MI:=[⟨t.c_zca,bx9 K t⟩]
def Qf:List MI:=[⟨t.c_zbz,bx5 K t⟩]
def Nj:List MI:=[⟨t.c_zbz,bx2 K t⟩]
def Z1:List MI:=[⟨t.c_zcb,by2 K t⟩]
noncomputable def Hx:List MI:=[⟨t.c_zcb,bh5 K t⟩]
def Hy:List MI:=[⟨t.c_zca,ak5 K t⟩]
def a23:List MI:=[⟨t.c_zbz,ba6 K t⟩]
def Qg:List MI:=[⟨t.c_zca,bx8 K t⟩]
def a24:List MI:=[⟨t.c_zca,ba7 K t⟩]
def Hw:List MI:=[⟨t.c_zca,bx7 K t⟩]
def Tg:List MI:=[⟨t.c_zca,bh7 K t⟩]
def cons:List (Str×V):=[("__builtins__", .ref 4),("TOP", (.str "")),("MOST_SWITCHES", (.int 5)),("LEAST_SETTINGS", (.int 2)),("MOST_SETTINGS", (.int 4)),("MOST_CHOICES", (.int 256)),("MOST_RULES", (.int 8))]
noncomputable def fns:List (Df×Sp):=[(af1,Fa K t),(ae5,Mo K t),(af7,Bq K t),(ae4,Mn K t),(be6,au5 K t),(ae3,Wt K t),(ad6,Qx K t),(ad5,Wk K t),(ae7,Wv K t),(af3,Qy K t),(ad2,Wd K t),(af4,W1 K t),(ae1,Wr K t),(ad3,We K t),(af2,W0 K t),(af8,Q0 K t),(be7,au6 K t),(D_zbd,Wx K t),(ad9,Wq K t),(ae8,Ww K t),(af5,Ju K t),(ad4,Wj K t),(ad7,Wo K t),(af6,Qz K t),(be2,Yy K t),(ad0,Wb K t),(ad8,Wp K t),(be5,au2 K t),(be1,as5 K t),(be0,as1 K t),(af9,W2 K t),(be3,at1 K t),(ae2,Ws K t),(af0,Wz K t),(ad1,Wc K t),(ae9,Wy K t),(ae0,Mm K t),(ae6,Wu K t),(be4,au1 K t)]
def bj1:List (Df×Sp):=[(ax2,as8 K t),(ax9,at9 K t),(ay2,au4 K t),(Xk,Wm K t),(Xl,Wn K t),(ay4,au8 K t),(ax3,as9 K t),(ax5,at4 K t),(ay0,au0 K t),(ay5,au9 K t),(ax6,at6 K t),(Xi,Wi K t),(Y3,at5 K t)]
noncomputable def bj2:List (Df×Sp):=[(Xf,Wf K t),(ay1,au3 K t),(ay3,au7 K t),(ax7,at7 K t)]
def bj0:List (Df×Sp):=[(ax0,as6 K t),(ax8,at8 K t),(Xj,Wl K t),(Xg,Wg K t),(ax4,at3 K t),(ax1,as7 K t),(Xh,Wh K t)]
noncomputable def Av:List Ent:=[⟨2,"Plain", .cls t.c_zca (some (i_zai K t))⟩,⟨4,"Book", .cls t.c_zcb (some (i_zan K t))⟩,⟨9,"Panel", .cls t.c_zbz (some (i_zaf K t))⟩,⟨0,"LeafError", .exc t.c_zbw none⟩,⟨0,"NoChoice", .exc t.c_zbx none⟩,⟨0,"EditError", .val (.ref t.c_zbv) (.ref t.c_zbv)⟩,⟨2,"NoPart", .exc t.c_zby (some (i_zn K t))⟩,⟨11,"", .met "beneath" (Gy K t)⟩,⟨7,"", .key "place_key" (Hw K t)⟩]++(bg1 t.u 0 cons++(al5 t.c_zca t.m_zca t.e_zca 0 (bj1 K t)++(al5 t.c_zcb t.m_zcb t.e_zcb 0 (bj2 K t)++(al5 t.c_zbz t.m_zbz t.e_zbz 0 (bj0 K t)++(fnE t.f t.d 0 (fns K t))))))
end
noncomputable abbrev v0_:DE:=Ab 0
noncomputable abbrev v1_:DE:=Ab 1
noncomputable abbrev v2_:DE:=Ab 2
noncomputable abbrev v3_:DE:=Ab 3
noncomputable abbrev v4_:DE:=Ab 4
noncomputable abbrev v5_:DE:=Ab 5
noncomputable abbrev v6_:DE:=Ab 6
noncomputable abbrev v7_:DE:=Ab 7
noncomputable abbrev v8_:DE:=Ab 8
noncomputable abbrev v9_:DE:=Ab 9
noncomputable abbrev n_(i:Int):DE:=dC (.int i)
noncomputable abbrev o_(a:DE):DA:=Ac a Ag
noncomputable abbrev p_(a b:DE):DA:=Ac a (o_ b)
noncomputable abbrev q_(a b c:DE):DA:=Ac a (p_ b c)
noncomputable abbrev r_(s:Sp)(a:DA):DE:=dFn (spE s []) a
noncomputable abbrev s_(r:RF)(a:DA):DE:=dFn (λvs H Q _=>r vs H Q) a
abbrev R_:=ac->Adr->DS
noncomputable def b81:R_:=λK t=>Ae (dIf (Bb (Ah a62 v1_ (s_ (D7 K) (o_ v0_)))) (Ae (Aq (Ah (Aw K) v0_ v1_)) Af) Af) (Ae (Aq (n_ 0)) Af)
noncomputable def b74:R_:=λK t=>Ae (Ao 1 (n_ 1)) (Ae (Ca (Bj K v0_) (gdT K 2 [gdN 2,gdN 3]) (Ae (Ao 1 (Ah (Dh K) v1_ (s_ (D7 K) (o_ v3_)))) Af)) (Ae (Aq v1_) Af))
noncomputable def Ud:R_:=λK t=>Ae (Ao 3 (Ah Bi (Ah (Dh K) v3_ v3_) (n_ 2147483629))) (Ae (Aq (Ah D0 (Ah Bi (Ah (Dh K) v3_ (Ah (Ba K) v3_ (n_ 3))) (n_ 2147483587)) (n_ 32))) Af)
noncomputable def Ue:R_:=λK t=>Ae (dIf (Kb (Bb (Ah (Bw K false) (Ah Bi v0_ (n_ 2)) (n_ 0))) (Kb (Bb (Ah (Bw K true) v2_ (n_ 0))) (Bb (Ah (Bw K true) v2_ (dUn Tu (n_ 1)))))) (Ae (Aq (Ah J7 v2_ (n_ 134217727))) Af) Af) (Ae (Ao 3 (Ah Bi (Ah (Dh K) (Ah (Ba K) v0_ (Ah (Dh K) (n_ 7919) v1_)) (n_ 48271)) (n_ 2147483647))) (Ud K t))
noncomputable def b87:R_:=λK t=>Ae (Ao 2 (Ah Yo v0_ (Ah (Ba K) (Ah (Dh K) (n_ 27) v1_) (n_ 1)))) (Ue K t)
noncomputable def Nx:R_:=λK t=>Ae (Ao 4 (dMt (rMt K [⟨"str","str.join", Tt K⟩]) (dC (.str "")) (o_ (Bg [none,some 0,some 1] (Gq (o_ v2_)) (gdN 0) Cg (Ah (Aw K) v2_ (Ah Bi (r_ (Bq K t) (p_ v1_ (Ah (Ba K) (n_ 2) v0_))) (s_ (D7 K) (o_ v2_)))))))) (Ae (Aq (Bg [none,some 2,some 4] (Gq (o_ v3_)) (gdN 0) Cg (dSl K v2_ Lk (R6 (Ah ar4 v1_ v0_))))) Af)
noncomputable def Ny:R_:=λK t=>Ae (Dl (dMt (rMt K [⟨"list","list.append", Dp⟩]) v8_ (o_ (dMt (rMt K [⟨"str","str.join", Tt K⟩]) (dC (.str "")) (o_ (Bg [none,some 1] (Bj K v9_) (gdN 0) Cg (Ah (Aw K) v1_ (Ah Bi v0_ (s_ (D7 K) (o_ v1_)))))))))) Af
noncomputable def Nz:R_:=λK t=>Ae (Ao 9 (Bg [none,some 7,some 0,some 5] (Gq (o_ v6_)) (gdN 0) Cg (Ah (Ba K) (r_ (Bq K t) (p_ v2_ (Ah (Ba K) (n_ 22) v0_))) (Ah (Dh K) v3_ (s_ V0 (o_ (Ah (Bw K false) v0_ v1_))))))) (Ny K t)
noncomputable def N0:R_:=λK t=>Ae (Ao 7 (Ah Bi (r_ (Bq K t) (p_ v0_ (n_ 21))) v6_)) (Ae (Ao 8 (Cf Ag)) (Ae (Ca (Gq (o_ v3_)) (gdN 5) (Nz K t)) (Ae (Aq v8_) Af)))
noncomputable def b73:R_:=λK t=>Ae (dIf (Kb (Bb (Ah (Bw K false) (Ah Bi (r_ (Bq K t) (p_ v0_ (n_ 1))) (n_ 3)) (n_ 0))) (Bb (Ah Ic v3_ v2_))) (Nx K t) Af) (Ae (Ao 6 (Ah (Ba K) (n_ 1) (Ah Bi (r_ (Bq K t) (p_ v0_ (n_ 20))) v2_))) (N0 K t))
noncomputable def Jx:R_:=λK t=>Ae (Dl (dMt (rMt K [⟨"list","list.append", Dp⟩]) v4_ (o_ (Dn (p_ (Ah (Aw K) v3_ v6_) (r_ (Mn K t) (Ac (Ah (Ba K) (Ah (Ba K) v0_ (n_ 1)) v6_) (q_ v2_ (n_ 8) v7_)))))))) Af
noncomputable def Jy:R_:=λK t=>Ae (Ao 7 (Ah (Ba K) (n_ 2) (Ah Bi (r_ (Bq K t) (p_ v0_ (Ah (Ba K) (n_ 41) v6_))) (n_ 3)))) (Ae (dIf (Bb (Ah Ic (Ah (Dh K) v5_ v7_) v1_)) (Ae (Ao 5 (Ah (Dh K) v5_ v7_)) (Jx K t)) Af) Af)
noncomputable def Jz:R_:=λK t=>Ae (Ca (Gq (o_ (Ah (Ba K) (n_ 1) (Ah Bi (r_ (Bq K t) (p_ v0_ (n_ 40))) (n_ 5))))) (gdN 6) (Jy K t)) (Ae (Aq v4_) Af)
noncomputable def J0:R_:=λK t=>Ae (Ao 3 (r_ (Mn K t) (Ac v0_ (q_ v2_ (n_ 8) (n_ 5))))) (Ae (Ao 4 (Cf Ag)) (Ae (Ao 5 (n_ 1)) (Jz K t)))
noncomputable def cf0:R_:=λK t=>Ae (Ao 2 (dC (.str "abcdefghijklmnopqrstuvwxyz"))) (J0 K t)
noncomputable def Nt:R_:=λK t=>Ae (dIf (Kb (Bb (Ah (Bw K true) v9_ (Cf Ag))) (Bb (Ah aa4 (Ah Bi (Ah D0 v8_ (n_ 16)) (n_ 3)) (n_ 0)))) (Ae (Ef v9_ (C1 K v4_ v6_)) Af) Af) Af
noncomputable def Nu:R_:=λK t=>Ae (Ao 9 (Bg [none,none,some 8] (iEn K (o_ v7_)) (gdT K 2 [gdN 0,gdN 1]) (Bb (Ah (Bw K false) (Ah J7 (Ah Yo v2_ v0_) (n_ 1)) (n_ 1))) v1_)) (Nt K t)
noncomputable def Nv:R_:=λK t=>Ae (Ca (iEn K (o_ v1_)) (gdT K 2 [gdN 5,(gdT K 2 [gdN 6,gdN 7])]) (Ae (Ao 8 (r_ (Bq K t) (p_ v0_ (Ah (Ba K) (Ah (Ba K) (n_ 61) (Ah (Dh K) (n_ 8) v3_)) v5_)))) (Nu K t))) (Ae (dIf (Bb (Ah (Bw K true) v4_ Dd)) (Ae (Dl (dMt (rMt K [⟨"list","list.append", Dp⟩]) v2_ (o_ v4_))) Af) Af) Af)
noncomputable def Nw:R_:=λK t=>Ae (Ca (Gq (o_ (Ah Bi (r_ (Bq K t) (p_ v0_ (n_ 60))) (n_ 4)))) (gdN 3) (Ae (Ao 4 Dd) (Nv K t))) (Ae (Aq v2_) Af)
noncomputable def b72:R_:=λK t=>Ae (Ao 2 (Cf Ag)) (Nw K t)
noncomputable def M4:R_:=λK t=>Ae (Dl (dMt (rMt K [⟨"list","list.insert", Qr⟩]) v2_ (p_ (n_ 0) (Ah Bi v1_ (s_ (D7 K) (o_ v4_)))))) (Ae (Ao 1 (Ah D0 v1_ (s_ (D7 K) (o_ v4_)))) Af)
noncomputable def b62:R_:=λK t=>Ae (Ao 2 (Cf Ag)) (Ae (Ca (ak1 K v0_) (gdT K 2 [gdN 3,gdN 4]) (M4 K t)) (Ae (Aq v2_) Af))
noncomputable def M3:R_:=λK t=>Ae (Ao 5 (Bg [none,none,none,some 3,some 4] (iEn K (o_ v0_)) (gdT K 2 [gdN 0,(gdT K 2 [gdN 1,gdN 2])]) Cg (Ah (Ib K false) (Ah (Aw K) v2_ (Ah (Aw K) v3_ v0_)) (dMt (rMt K [⟨"dict","dict.get", Gv⟩]) v4_ (p_ v1_ v2_))))) (Ae (dIf (De K (s_ (Tq K) (o_ v5_))) (Ae (Aq (dC (.bl true))) Af) Af) Af)
noncomputable def b61:R_:=λK t=>Ae (Ao 3 (r_ (Qx K t) (p_ v0_ v2_))) (Ae (Ca (Bj K v1_) (gdN 4) (M3 K t)) (Ae (Aq (dC (.bl false))) Af))
noncomputable def N1:R_:=λK t=>Ae (dIf (Bb (Ah (Bw K false) v4_ (Cf Ag))) (Ae (Ao 3 (Cf Ag)) (Ae (Ao 4 (dUn Ml (r_ (Mo K t) (o_ v2_)))) Af)) Af) (Ae (Aq (Cf (q_ v2_ v3_ v4_))) Af)
noncomputable def N2:R_:=λK t=>Ae (Ao 4 (Bg [none,some 3,some 2] (Gq (o_ (r_ (Mo K t) (o_ v2_)))) (gdN 0) (Ff (De K (r_ (Wk K t) (q_ v2_ v1_ v0_)))) v0_)) (N1 K t)
noncomputable def b76:R_:=λK t=>Ae (Ao 2 (r_ (au5 K t) (p_ v0_ v1_))) (Ae (Ao 3 (r_ (Wt K t) (p_ v0_ v2_))) (N2 K t))
noncomputable def Ra:R_:=λK t=>Ae (Aq (dMt (rMt K [⟨"str","str.join", Tt K⟩]) (dC (.str "")) (o_ (Bg [none,some 0,some 1] (Gq (o_ v2_)) (gdN 0) Cg (Ah (Aw K) v2_ (Ah Bi (r_ (Bq K t) (p_ v1_ (Ah (Ba K) (n_ 302) v0_))) (s_ (D7 K) (o_ v2_)))))))) Af
noncomputable def Rb:R_:=λK t=>Ae (Ao 2 (Ah (Aw K) (Cf (Ac (n_ 0) (Ac (n_ 1) (q_ (n_ 2) (n_ 5) (n_ 60))))) (Ah Bi (r_ (Bq K t) (p_ v0_ (n_ 301))) (n_ 5)))) (Ra K t)
noncomputable def b83:R_:=λK t=>Ae (Ao 1 (dC (.str " !\"#$&'()*+,-./0123456789:;<=>?@ABCDEFGHIJKLMNOPQRSTUVWXYZ[\\]^_`"))) (Ae (Ao 1 (Ah (Ba K) v1_ (dC (.str "abcdefghijklmnopqrstuvwxyz{|}~")))) (Rb K t))
noncomputable def Km:R_:=λK t=>Ae (Dl (dMt (rMt K [⟨"list","list.append", Dp⟩]) v3_ (o_ (s_ (G1 K) (o_ (Bg [none,some 1,some 4] (Gq (o_ v2_)) (gdN 0) Cg (dSl K (r_ (Qy K t) (o_ (Ah (Ba K) (Ah (Ba K) v1_ (Ah (Dh K) (n_ 5) v2_)) (Ah (Dh K) (n_ 17) v0_)))) Lk (R6 (n_ 3))))))))) Af
noncomputable def Kn:R_:=λK t=>Ae (Ca (Gq (o_ (Ah (Ba K) (n_ 1) (Ah Bi (r_ (Bq K t) (p_ v1_ (n_ 311))) (n_ 3))))) (gdN 4) (Km K t)) (Ae (Aq (s_ (G1 K) (o_ v3_))) Af)
noncomputable def Ko:R_:=λK t=>Ae (Ao 2 (Ah (Ba K) (n_ 1) (Ah Bi (r_ (Bq K t) (p_ v1_ (n_ 310))) (n_ 3)))) (Ae (Ao 3 (Cf Ag)) (Kn K t))
noncomputable def b52:R_:=λK t=>Ae (dIf (Bb (Ah (Bw K true) v0_ (dC (.str "table")))) (Ae (Aq (r_ (Qy K t) (o_ v1_))) Af) Af) (Ko K t)
noncomputable def Re:R_:=λK t=>Ae (Ef (Dn (Ac v7_ (q_ (Ah (Aw K) v8_ (Ah Bi (Ah D0 v6_ (n_ 384)) (s_ (D7 K) (o_ v8_)))) v9_ (r_ (Wd K t) (p_ v7_ (Ah D0 v6_ (n_ 96))))))) (C1 K v3_ v5_)) Af
noncomputable def Rf:R_:=λK t=>Ae (Ao 9 (Ah (Aw K) (Cf (Ac (n_ 0) (q_ (n_ 1) (Ah bc5 (n_ 10) (n_ 9)) (Ah Bi (Ah D0 v6_ (n_ 96)) (n_ 1000))))) (Ah Bi (Ah D0 v6_ (n_ 24)) (n_ 4)))) (Re K t)
noncomputable def Rg:R_:=λK t=>Ae (Ao 8 (Og (Ah (Ba K) (Cf (o_ (dC (.str "")))) (Bg [none,some 3] (Bj K v3_) (gdN 0) (Bb (Ah (Bw K false) (Ah (Aw K) (Ah (Aw K) v1_ v0_) (n_ 0)) (dC (.str "chapter")))) v0_)))) (Rf K t)
noncomputable def Rh:R_:=λK t=>Ae (Ao 7 (Ah (Aw K) (Cf (Ac (dC (.str "chapter")) (q_ (dC (.str "para")) (dC (.str "table")) (dC (.str "chapter"))))) (Ah Bi (Ah D0 v6_ (n_ 6)) (n_ 4)))) (Rg K t)
noncomputable def Ri:R_:=λK t=>Ae (dIf (Kb (Bb (Ah aa4 v1_ (n_ 0))) (Bb (Ah (Bw K false) (Ah Bi (r_ (Bq K t) (p_ v0_ (Ah (Ba K) (Ah (Ba K) (n_ 130) (Ah (Dh K) (n_ 40) v1_)) v4_))) (n_ 3)) (n_ 0)))) (Ae (Ao 6 (r_ (Bq K t) (p_ v0_ (Ah (Ba K) (Ah (Ba K) (n_ 500) (Ah (Dh K) (n_ 40) v1_)) v4_)))) Af) Af) (Ae (dIf (Bb (Ah aa4 (Ah Bi v6_ (n_ 6)) (n_ 0))) (Rh K t) Af) Af)
noncomputable def Rj:R_:=λK t=>Ae (Ca (iEn K (o_ v2_)) (gdT K 2 [gdN 4,gdN 5]) (Ae (Ao 6 (r_ (Bq K t) (p_ v0_ (Ah (Ba K) (n_ 100) v4_)))) (Ri K t))) (Ae (Aq v3_) Af)
noncomputable def b84:R_:=λK t=>Ae (Ao 3 Dd) (Rj K t)
noncomputable def b70:R_:=λK t=>Ae (Aq (r_ (Mn K t) (Ac v0_ (q_ (dC (.str "abcdefghijklmnopqrstuvwxyz0123456789.")) (n_ 12) v1_)))) Af
noncomputable def Kq:R_:=λK t=>Ae (Aq (Ah Bi (Ah (Aw K) (r_ (Qx K t) (p_ v1_ v2_)) (Ah Bi (r_ (Bq K t) (p_ v0_ (n_ 71))) (s_ (D7 K) (o_ v1_)))) v3_)) Af
noncomputable def b53:R_:=λK t=>Ae (dIf (Bb (Ah (Bw K false) (Ah Bi (r_ (Bq K t) (p_ v0_ (n_ 70))) (n_ 2)) (n_ 0))) (Kq K t) Af) (Ae (Aq (Ah Bi (r_ (Bq K t) (p_ v0_ (Ah (Ba K) (n_ 700) v2_))) v3_)) Af)
noncomputable def Q7:R_:=λK t=>Ae (Ef (Ah (Aw K) v5_ (r_ (We K t) (Ac (r_ (Fa K t) (p_ v0_ (n_ 4))) (q_ (Ah (Aw K) v2_ (n_ 0)) v7_ v4_)))) (C1 K v6_ v7_)) Af
noncomputable def Q8:R_:=λK t=>Ae (Ao 5 (Bg [none,some 3,some 0] (Gq (o_ v4_)) (gdN 0) Cg (r_ (W1 K t) (q_ (r_ (Fa K t) (p_ v2_ (n_ 3))) v0_ v1_)))) (Ae (Ao 6 Dd) (Ae (Ca (Bj K (Ah (Aw K) v2_ (n_ 2))) (gdN 7) (Q7 K t)) (Ae (Aq (Cf (q_ v2_ v3_ v6_))) Af)))
noncomputable def Q9:R_:=λK t=>Ae (Ao 3 (r_ (Wr K t) (p_ (r_ (Fa K t) (p_ v0_ (n_ 1))) (Ah (Ba K) (n_ 1) (Ah Bi (r_ (Fa K t) (p_ v0_ (n_ 2))) (Ah (Aw K) (Cf (p_ (n_ 8) (n_ 3))) (s_ V0 (o_ v1_)))))))) (Ae (Ao 4 (Ah (Ba K) (n_ 1) (Ah Bi (Ah D0 (r_ (Fa K t) (p_ v0_ (n_ 2))) (n_ 8)) (n_ 4)))) (Q8 K t))
noncomputable def b82:R_:=λK t=>Ae (Ao 2 (r_ (Wv K t) (p_ (Ah D0 (r_ (Fa K t) (p_ v0_ (n_ 0))) (n_ 8)) (Ah (Aw K) (Cf (p_ (n_ 24) (n_ 256))) (s_ V0 (o_ v1_)))))) (Q9 K t)
noncomputable def b58:R_:=λK t=>Ae (Go K "records" v0_ Dd) Af
noncomputable def ce3:R_:=λK t=>Ae (Aq (dUn (Bp K "free") v0_)) Af
noncomputable def b63:R_:=λK t=>Ae (Go K "panel" v0_ v1_) (Ae (Go K "kept" v0_ (Cf (o_ (Dn (p_ (Cd "allowed" 0 (Md K t) v1_ Ag) (dFn (mkC t.c_zca (some (i_zai K t)) 0) Ag)))))) Af)
noncomputable def ce9:R_:=λK t=>Ae (Ao 1 (dFn (mkC t.c_zca (some (i_zai K t)) 0) Ag)) (Ae (Go K "records" v1_ (s_ Qq (o_ (dUn (Bp K "records") v0_)))) (Ae (Aq v1_) Af))
noncomputable def cf3:R_:=λK t=>Ae (Aq (s_ (V2 K true) (o_ (dUn (Bp K "records") v0_)))) Af
noncomputable def ce0:R_:=λK t=>Ae (Aq (s_ (G1 K) (o_ (Bg [none,some 0] (Bj K (Cd "names" 0 (am6 K t) v0_ Ag)) (gdN 0) Cg (Dn (p_ v0_ (Ah (Aw K) (dUn (Bp K "records") v1_) v0_))))))) Af
noncomputable def b88:R_:=λK t=>Ae (Aq (Ah (Bw K false) (Ah J7 (Ah Yo v0_ v1_) (n_ 1)) (n_ 1))) Af
noncomputable def cf1:R_:=λK t=>Ae (Ca (Gq (o_ (dMt (rMt K [⟨"int","int.bit_length", bc1⟩]) v0_ Ag))) (gdN 1) (Ae (dIf (De K (r_ (Q0 K t) (p_ v0_ v1_))) (Ae (Aq v1_) Af) Af) Af)) (Ae (Aq (dC .non)) Af)
noncomputable def b78(K:ac)(t:Adr):DE:=
 (dFn (spE (au6 K t) []) (Ac (Ah (Aw K) (Ab 0) (dC (.int 0))) Ag))
noncomputable def Nn:R_:=λK t=>Ae (Ef (Ah ar0 (dMt (rMt K [⟨"dict","dict.get", Gv⟩]) v2_ (p_ v6_ (n_ 0))) (Ah J7 v4_ v0_)) (C1 K v2_ v6_)) (Ae (Ef v5_ (C1 K v3_ v6_)) Af)
noncomputable def No:R_:=λK t=>Ae (Aq (r_ (Wx K t) (o_ (Bg [none,some 3,some 2] (Bj K v2_) (gdN 0) Cg (Dn (p_ (Ah (Aw K) v2_ v0_) (Cd "copied" 0 (Zy K t) (Ah (Aw K) v1_ v0_) Ag))))))) Af
noncomputable def Np:R_:=λK t=>Ae (Ca (Bj K v1_) (gdT K 2 [gdN 4,gdN 5]) (Ae (dIf (Bb (Ah (Bw K true) (Ah J7 v4_ v0_) (n_ 0))) (Ae (Ao 6 (Cd "value_key" 0 (Qg K t) v5_ Ag)) (Nn K t)) Af) Af)) (No K t)
noncomputable def b68:R_:=λK t=>Ae (Ao 2 Dd) (Ae (Ao 3 Dd) (Np K t))
noncomputable def b77:R_:=λK t=>Ae (Ao 2 (dFn (mkC t.c_zcb (some (i_zan K t)) 0) (o_ v0_))) (Ae (Go K "kept" v2_ (r_ (Wq K t) (p_ (Cd "allowed" 0 (Md K t) v0_ Ag) v1_))) (Ae (Aq v2_) Af))
noncomputable def b85:R_:=λK t=>Ae (Ao 1 (n_ 0)) (Ae (Ca (Bj K v0_) (gdN 2) (Ae (Ao 1 (Ah ar0 v1_ v2_)) Af)) (Ae (Aq v1_) Af))
noncomputable def b56:R_:=λK t=>Ae (Aq (s_ (D7 K) (o_ (dUn (Bp K "tuples") v0_)))) Af
noncomputable def cd1:R_:=λK t=>Ae (Aq (Ah ar4 (Ah O9 (n_ 1) (Cd "many" 0 (Yc K t) v0_ Ag)) (n_ 1))) Af
noncomputable def b60:R_:=λK t=>Ae (Aq (Lj K (s_ (D6 K) (p_ v0_ (dC (.ty "str")))) (Dw Ic Ic v1_ (s_ (D7 K) (o_ v0_)) v2_))) Af
noncomputable def bd2:R_:=λK t=>Ae (Aq (Dw Ic Ic (dC (.str "a")) v0_ (dC (.str "z")))) Af
noncomputable def b86:R_:=λK t=>Ae (Aq (Lj K (r_ (Wj K t) (q_ v0_ (n_ 1) (n_ 8))) (s_ (Tq K) (o_ (Bg [none] (Bj K v0_) (gdN 0) Cg (r_ (Wo K t) (o_ v0_))))))) Af
noncomputable def cd5:R_:=λK t=>Ae (dIf (dOr (Ff (De K (s_ (D6 K) (p_ v0_ (dC (.ty "list")))))) (Ff (De K (s_ (Tq K) (o_ (Bg [none] (Bj K v0_) (gdN 0) Cg (r_ (Qz K t) (o_ v0_)))))))) (Ae (Aq (dC (.bl false))) Af) Af) (Ae (Aq (Ah (Bw K false) (dUn (Le K) v0_) (s_ (D7 K) (o_ v0_)))) Af)
noncomputable def Mv:R_:=λK t=>Ae (Aq (r_ (Ju K t) (o_ (Bg [none,some 0,some 1] (Bj K v2_) (gdN 0) Cg (Ah (Aw K) (Ah (Aw K) (dUn (Bp K "sets") v1_) v2_) v0_))))) Af
noncomputable def Mw:R_:=λK t=>Ae (dIf (Ff (De K (s_ (Tq K) (o_ (Bg [none,some 0,some 1] (Bj K v2_) (gdN 0) Cg (Ah (Ib K false) v0_ (Ah (Aw K) (dUn (Bp K "sets") v1_) v2_))))))) (Ae (B7 K dNo) Af) Af) (Mv K t)
noncomputable def Mx:R_:=λK t=>Ae (dIf (dOr (Ff (De K (r_ (Yy K t) (o_ v2_)))) (Bb (Ah (Bw K false) v2_ (Cf Ag)))) (Ae (B7 K dNo) Af) Af) (Mw K t)
noncomputable def b57:R_:=λK t=>Ae (dIf (dOr (Ff (De K (s_ (D6 K) (p_ v1_ (dC (.ty "str")))))) (Bb (Ah (Ib K true) v1_ (dUn (Bp K "sets") v0_)))) (Ae (B7 K dNo) Af) Af) (Mx K t)
noncomputable def Nl:R_:=λK t=>Ae (Ca (Bj K v1_) (gdN 3) (Ae (Ao 2 (Ah J7 v2_ (Cd "term" 2 (a23 K t) v0_ (p_ v3_ (Ah (Aw K) v1_ v3_))))) Af)) (Ae (Aq v2_) Af)
noncomputable def b64:R_:=λK t=>Ae (dIf (Ff (De K (s_ (D6 K) (p_ v1_ (dC (.ty "dict")))))) (Ae (B7 K dNo) Af) Af) (Ae (Ao 2 (Cd "all_choices" 0 (Fv K t) v0_ Ag)) (Nl K t))
noncomputable def Ki:R_:=λK t=>Ae (Ca (Bj K v0_) (gdN 2) (Ae (Ef (s_ (Qs K true) (o_ (Ah (Aw K) v0_ v2_))) (C1 K v1_ v2_)) Af)) (Ae (Aq v1_) Af)
noncomputable def b50:R_:=λK t=>Ae (Ao 1 Dd) (Ki K t)
noncomputable def cd7:R_:=λK t=>Ae (dIf (dOr (Ff (De K (s_ (D6 K) (p_ v1_ (dC (.ty "dict")))))) (Bb (Ah (Bw K false) (s_ (D7 K) (o_ v1_)) (n_ 0)))) (Ae (B7 K dNo) Af) Af) (Ae (az8 K (Ae (Dl (Cd "box" 1 (am2 K t) v0_ (o_ v1_))) Af) []) (Ae (Aq (r_ (Wb K t) (o_ v1_))) Af))
noncomputable def F7:R_:=λK t=>Ae (dIf (dOr (Ff (De K (s_ (D6 K) (p_ v1_ (dC (.ty "list")))))) (Bb (Ah aa4 (s_ (D7 K) (o_ v1_)) (n_ 8)))) (Ae (B7 K dNo) Af) Af) (Ae (Aq (Bg [none,some 0] (Bj K v1_) (gdN 0) Cg (Cd "read_rule" 1 (Qf K t) v1_ (o_ v0_)))) Af)
noncomputable def cd2:R_:=λK t=>Ae (dIf (Bb (Ah (bt3 false) v1_ (dC .non))) (Ae (Aq (Cf Ag)) Af) Af) (F7 K t)
noncomputable def Nm:R_:=λK t=>Ae (Aq (Lj K (r_ (Yy K t) (o_ (Ah (Aw K) v0_ (n_ 1)))) (Dw Ic Ic (n_ 2) (s_ (D7 K) (o_ (Ah (Aw K) v0_ (n_ 1)))) (n_ 4)))) Af
noncomputable def b67:R_:=λK t=>Ae (dIf (dOr (Ff (De K (s_ (D6 K) (p_ v0_ (dC (.ty "tuple")))))) (dOr (Bb (Ah (Bw K true) (s_ (D7 K) (o_ v0_)) (n_ 2))) (Ff (De K (r_ (Qz K t) (o_ (Ah (Aw K) v0_ (n_ 0)))))))) (Ae (Aq (dC (.bl false))) Af) Af) (Nm K t)
noncomputable def Im:R_:=λK t=>Ae (Ef (s_ (G1 K) (o_ (Ah (Aw K) v3_ (n_ 1)))) (C1 K v1_ (Ah (Aw K) v3_ (n_ 0)))) (Ae (Ao 2 (Ah (Dh K) v2_ (s_ (D7 K) (o_ (Ah (Aw K) v3_ (n_ 1)))))) Af)
noncomputable def Io:R_:=λK t=>Ae (dIf (dOr (Ff (De K (r_ (Wp K t) (o_ v3_)))) (Bb (Ah (Ib K false) (Ah (Aw K) v3_ (n_ 0)) v1_))) (Ae (B7 K dNo) Af) Af) (Im K t)
noncomputable def Ip:R_:=λK t=>Ae (Ao 2 (n_ 1)) (Ae (Ca (Bj K v0_) (gdN 3) (Io K t)) (Ae (dIf (Bb (Ah aa4 v2_ (n_ 256))) (Ae (B7 K dNo) Af) Af) (Ae (Aq v1_) Af)))
noncomputable def ce7:R_:=λK t=>Ae (dIf (dOr (Ff (De K (s_ (D6 K) (p_ v0_ (dC (.ty "list")))))) (Ff (Bb (Dw Ic Ic (n_ 1) (s_ (D7 K) (o_ v0_)) (n_ 5))))) (Ae (B7 K dNo) Af) Af) (Ae (Ao 1 Dd) (Ip K t))
noncomputable def Es:R_:=λK t=>Ae (Dl (dMt (rMt K [⟨"list","list.extend", Ld⟩]) v3_ (o_ (Bg [none,some 4] (Bj K (Ah (Aw K) v0_ v2_)) (gdN 0) Cg (Ah (Ba K) v1_ (Dn (o_ v0_))))))) Af
noncomputable def cd0:R_:=λK t=>Ae (Ao 1 (Cf (o_ (Dn Ag)))) (Ae (Ca (Bj K v0_) (gdN 2) (Ae (Ao 3 (Cf Ag)) (Ae (Ca (Bj K v1_) (gdN 4) (Es K t)) (Ae (Ao 1 v3_) Af)))) (Ae (Aq v1_) Af))
noncomputable def cc9:R_:=λK t=>Ae (Ao 1 Dd) (Ae (Ca (iEn K (o_ v0_)) (gdT K 2 [gdN 2,gdN 3]) (Ae (Ef v2_ (C1 K v1_ v3_)) Af)) (Ae (Aq v1_) Af))
noncomputable def b89:R_:=λK t=>Ae (Ao 1 (n_ 0)) (Ae (Ca (Bj K v0_) (gdN 2) (Ae (Ao 1 (Ah ar0 v1_ (Ah O9 (n_ 1) v2_))) Af)) (Ae (Aq v1_) Af))
noncomputable def F9:R_:=λK t=>Ae (Ao 6 (Bg [none,none,some 3,some 5] (iEn K (o_ v1_)) (gdT K 2 [gdN 0,gdN 1]) (Bb (Ah (Bw K false) (Ah (Aw K) v1_ v2_) v3_)) v0_)) (Ae (Ef (r_ (W2 K t) (o_ v6_)) (C1 K (Ah (Aw K) v2_ v4_) v5_)) Af)
noncomputable def Ga:R_:=λK t=>Ae (Ca (iEn K (o_ v0_)) (gdT K 2 [gdN 3,gdN 4]) (Ae (Ef Dd (C1 K v2_ v4_)) (Ae (Ca (Bj K (Ah (Aw K) v0_ v4_)) (gdN 5) (F9 K t)) Af))) (Ae (Aq v2_) Af)
noncomputable def cd6:R_:=λK t=>Ae (Ao 2 Dd) (Ga K t)
noncomputable def Mr:R_:=λK t=>Ae (dIf (Bb (Ah (Bw K false) (dUn (Bp K "free") v0_) (n_ 0))) (Ae (B7 K (dFn (λvs H Q E=>vs.length<=1000/\mkX t.c_zbx none 0 vs H Q E) (o_ (dC (.str "the rules bar every choice"))))) Af) Af) Af
noncomputable def Ms:R_:=λK t=>Ae (Go K "free" v0_ (Ah J7 (Cd "all_choices" 0 (Fv K t) v0_ Ag) (dUn Yn (r_ (Ju K t) (o_ (dUn (Bp K "bars") v0_)))))) (Mr K t)
noncomputable def Mt:R_:=λK t=>Ae (Go K "kept_rules" v0_ (Cd "read_rules" 1 (Nj K t) v0_ (o_ v2_))) (Ae (Go K "bars" v0_ (Bg [none,some 0] (Bj K (dUn (Bp K "kept_rules") v0_)) (gdN 0) Cg (Cd "box" 1 (am2 K t) v1_ (o_ v0_)))) (Ms K t))
noncomputable def Mu:R_:=λK t=>Ae (Go K "numbers" v0_ (r_ (as1 K t) (o_ (dUn (Bp K "tuples") v0_)))) (Ae (Go K "sets" v0_ (r_ (at1 K t) (p_ (dUn (Bp K "settings") v0_) (dUn (Bp K "tuples") v0_)))) (Mt K t))
noncomputable def b55:R_:=λK t=>Ae (Go K "settings" v0_ (r_ (au2 K t) (o_ v1_))) (Ae (Go K "tuples" v0_ (r_ (as5 K t) (o_ (dUn (Bp K "settings") v0_)))) (Mu K t))
noncomputable def b66:R_:=λK t=>Ae (Ef (Dn (Ac v2_ (q_ v3_ v4_ v5_))) (C1 K (dUn (Bp K "records") v0_) v1_)) Af
noncomputable def Nr:R_:=λK t=>Ae (Ef (Ah (Aw K) v0_ v2_) (gdT K 4 [gdN 3,gdN 4,gdN 5,gdN 6])) (Ae (Dl (Cd "lay" 5 (bj3 K t) v1_ (Ac v2_ (Ac v3_ (q_ v4_ v5_ v6_))))) Af)
noncomputable def b71:R_:=λK t=>Ae (Ao 1 (dFn (mkC t.c_zca (some (i_zai K t)) 0) Ag)) (Ae (Ca (Bj K v0_) (gdN 2) (Nr K t)) (Ae (Aq v1_) Af))
noncomputable def Q5:R_:=λK t=>Ae (Dl (dMt (rMt K [⟨"list","list.append", Dp⟩]) v6_ (o_ (Dn (p_ (Ah O9 (n_ 1) v7_) (r_ (Ws K t) (o_ (Ah (Aw K) v1_ v7_)))))))) Af
noncomputable def Q6:R_:=λK t=>Ae (Ao 5 (dFn (mkC t.c_zbz (some (i_zaf K t)) 1) (p_ (Bg [none,none] (Bj K v2_) (gdT K 2 [gdN 0,gdN 1]) Cg (Dn (p_ v0_ (s_ (Qs K true) (o_ v1_))))) v3_))) (Ae (Ao 6 (Cf Ag)) (Ae (Ca (Bj K v1_) (gdN 7) (Q5 K t)) (Ae (Aq (r_ (Ww K t) (p_ v5_ v6_))) Af)))
noncomputable def b80:R_:=λK t=>Ae (Ef v0_ (gdT K 3 [gdN 2,gdN 3,gdN 4])) (Q6 K t)
noncomputable def Kj:R_:=λK t=>Ae (dIf (Kb (Bb (Ah (Bw K false) v6_ v1_)) (Bb (Ah (Ib K false) v6_ v4_))) (Ae (Ef (Ah (Ba K) (dMt (rMt K [⟨"dict","dict.get", Gv⟩]) v2_ (p_ v5_ (n_ 0))) (Ah O9 (n_ 1) v3_)) (C1 K v2_ v5_)) Af) Af) Af
noncomputable def Kk:R_:=λK t=>Ae (Px (Kb (Bb (Ah (Bw K true) v6_ (dC (.str "")))) (Bb (Ah (Bw K true) v6_ v1_))) (Ae (Ao 6 (Ah (Aw K) (Ah (Aw K) v4_ v6_) (n_ 1))) Af)) (Kj K t)
noncomputable def Kl:R_:=λK t=>Ae (Ca (Bj K v0_) (gdN 3) (Ae (Ao 4 (Ah (Aw K) v0_ v3_)) (Ae (Ca (Bj K v4_) (gdN 5) (Ae (Ao 6 (Ah (Aw K) (Ah (Aw K) v4_ v5_) (n_ 1))) (Kk K t))) Af))) (Ae (Aq (dUn (Jt K) v2_)) Af)
noncomputable def b51:R_:=λK t=>Ae (Ao 2 Dd) (Kl K t)
noncomputable def ce2:R_:=λK t=>Ae (Go K "part" v0_ v1_) (Ae (Go K "choice" v0_ v2_) Af)
noncomputable def cd4:R_:=λK t=>Ae (dIf (Kb (Bb (Ah (Bw K true) v1_ (dC (.str "")))) (Bb (Ah (Ib K true) v1_ (dUn (Bp K "records") v0_)))) (Ae (B7 K (dFn (λvs H Q E=>vs.length<=1000/\mkX t.c_zby (some (i_zn K t)) 0 vs H Q E) (o_ v1_))) Af) Af) Af
noncomputable def cf4:R_:=λK t=>Ae (dIf (Bb (Ah (Ib K true) v1_ (dUn (Bp K "records") v0_))) (Ae (B7 K (dFn (λvs H Q E=>vs.length<=1000/\mkX t.c_zby (some (i_zn K t)) 0 vs H Q E) (o_ v1_))) Af) Af) (Ae (Aq (Ah (Aw K) (dUn (Bp K "records") v0_) v1_)) Af)
noncomputable def cd8:R_:=λK t=>Ae (Aq (Ah (Aw K) (Cd "state" 1 (Hy K t) v0_ (o_ v1_)) (n_ 1))) Af
noncomputable def ce5:R_:=λK t=>Ae (Aq (Ah (Aw K) (Cd "state" 1 (Hy K t) v0_ (o_ v1_)) (n_ 2))) Af
noncomputable def cd9:R_:=λK t=>Ae (Aq (Dn (p_ (Cd "rank_of" 1 (Vn K t) v0_ (o_ v1_)) v1_))) Af
noncomputable def F8:R_:=λK t=>Ae (Dl (dMt (rMt K [⟨"list","list.append", Dp⟩]) (dMt (rMt K [⟨"dict","dict.setdefault", Tv⟩]) v1_ (p_ (Cd "parent_of" 1 (Qe K t) v0_ (o_ v2_)) (Cf Ag))) (o_ v2_))) Af
noncomputable def cd3:R_:=λK t=>Ae (Ao 1 Dd) (Ae (Ca (Bj K (ai2 K "place_key" (Hw K t) (dUn (Bp K "records") v0_) v0_)) (gdN 2) (F8 K t)) (Ae (Aq v1_) Af))
noncomputable def Mz:R_:=λK t=>Ae (Dl (dMt (rMt K [⟨"list","list.extend", Ld⟩]) v4_ (o_ (Bg [none,some 5] (ak1 K (dMt (rMt K [⟨"dict","dict.get", Gv⟩]) v2_ (p_ (Ah (Aw K) v5_ (n_ 1)) (Cf Ag)))) (gdN 0) Cg (Dn (p_ (Ah (Ba K) (Ah (Aw K) v1_ (n_ 0)) (n_ 1)) v0_)))))) Af
noncomputable def M0:R_:=λK t=>Ae (Px (Bb (Ah (Bw K true) v4_ (Cf Ag))) (Ae (Ao 5 (dMt (rMt K [⟨"list","list.pop", bc4⟩]) v4_ Ag)) (Ae (Dl (dMt (rMt K [⟨"list","list.append", Dp⟩]) v3_ (o_ v5_))) (Mz K t)))) (Ae (Aq v3_) Af)
noncomputable def M1:R_:=λK t=>Ae (Ao 4 (Bg [none] (ak1 K (dMt (rMt K [⟨"dict","dict.get", Gv⟩]) v2_ (p_ v1_ (Cf Ag)))) (gdN 0) Cg (Dn (p_ (n_ 1) v0_)))) (M0 K t)
noncomputable def b59:R_:=λK t=>Ae (Ao 2 (Cd "all_unders" 0 (Nh K t) v0_ Ag)) (Ae (Ao 3 (Cf Ag)) (M1 K t))
noncomputable def ce4:R_:=λK t=>Ae (Dl (Cd "need_place" 1 (Ni K t) v0_ (o_ v1_))) (Ae (Aq (Bg [none,none] (Bj K (Cd "walk" 1 (a24 K t) v0_ (o_ v1_))) (gdT K 2 [gdN 0,gdN 1]) Cg v1_)) Af)
noncomputable def b65:R_:=λK t=>Ae (Aq (Ah (Ib K false) v1_ (dUn (Bp K "records") v0_))) Af
noncomputable def G4:R_:=λK t=>Ae (dIf (Bb (Ah (Bw K false) v2_ (Cf Ag))) (Ae (B7 K (dFn (λvs H Q E=>vs.length<=1000/\mkX t.c_zby (some (i_zn K t)) 1 vs H Q E) (p_ v1_ (dC .non)))) Af) Af) (Ae (Aq v2_) Af)
noncomputable def ce1:R_:=λK t=>Ae (Ao 2 (Bg [none,none,some 1] (Bj K (dUn (Bp K "kept") v0_)) (gdT K 2 [gdN 0,gdN 1]) (De K (Cd "has" 1 (am4 K t) v1_ (o_ v2_))) (Dn (p_ v0_ v1_)))) (G4 K t)
noncomputable def b79:R_:=λK t=>Ae (Aq (Lj K (s_ (D6 K) (p_ v0_ (dC (.ty "int")))) (X3 K (s_ (D6 K) (p_ v0_ (dC (.ty "bool"))))))) Af
noncomputable def Kh:R_:=λK t=>Ae (Ca (Bj K (dUn (Bp K "kept") v0_)) (gdN 2) (Ae (dIf (De K (r_ (Q0 K t) (p_ (Ah (Aw K) v2_ (n_ 0)) v1_))) (Ae (Aq v2_) Af) Af) Af)) Af
noncomputable def cf2:R_:=λK t=>Ae (dIf (Kb (De K (r_ (Wy K t) (o_ v1_))) (Bb (Dw Ic a62 (n_ 0) v1_ (Cd "many" 0 (Yc K t) (dUn (Bp K "panel") v0_) Ag)))) (Kh K t) Af) (Ae (B7 K (dFn (λvs H Q E=>vs.length<=1000/\mkX t.c_zbx none 0 vs H Q E) (o_ (dC (.str "this is no number of an allowed choice"))))) Af)
noncomputable def Mp:R_:=λK t=>Ae (Aq (r_ (Ju K t) (o_ (Bg [none,none,some 1,some 4] (Bj K (Cd "rows_with" 1 (Hx K t) v0_ (o_ v1_))) (gdT K 2 [gdN 0,gdN 1]) (Bb (Ah (Bw K false) (Cd "state" 1 (Hy K t) v1_ (o_ v2_)) v3_)) v0_)))) Af
noncomputable def Mq:R_:=λK t=>Ae (dIf (Ff (De K (Cd "has" 1 (am4 K t) v3_ (o_ v1_)))) (Ae (B7 K (dFn (λvs H Q E=>vs.length<=1000/\mkX t.c_zby (some (i_zn K t)) 1 vs H Q E) (p_ v1_ v2_))) Af) Af) (Ae (Ao 4 (Cd "state" 1 (Hy K t) v3_ (o_ v1_))) (Mp K t))
noncomputable def b54:R_:=λK t=>Ae (Ao 3 (Ah (Aw K) (Cd "row_of" 1 (Z1 K t) v0_ (o_ v2_)) (n_ 1))) (Mq K t)
noncomputable def Jv:R_:=λK t=>Ae (Ca (Bj K (Cd "beneath" 1 (Tg K t) v4_ (o_ v1_))) (gdN 5) (Ae (Ef (Ah ar0 (dMt (rMt K [⟨"dict","dict.get", Gv⟩]) v2_ (p_ v5_ (n_ 0))) v3_) (C1 K v2_ v5_)) Af)) Af
noncomputable def Jw:R_:=λK t=>Ae (Aq (Bg [none,some 2] (Bj K (s_ (V2 K true) (o_ v2_))) (gdN 0) Cg (Dn (p_ v0_ (Ah (Aw K) v1_ v0_))))) Af
noncomputable def ce8:R_:=λK t=>Ae (Ao 2 Dd) (Ae (Ca (Bj K (Cd "rows_with" 1 (Hx K t) v0_ (o_ v1_))) (gdT K 2 [gdN 3,gdN 4]) (Jv K t)) (Jw K t))
noncomputable def Nq:R_:=λK t=>(Ae (az8 K (Ae (dIf (De K v3_) (Ae (Ao 4 (Cd "beneath" 1 (Gy K t) v0_ (o_ v1_))) Af) (Ae (Ao 4 (Cd "alike" 2 (am1 K t) v0_ (p_ v1_ v2_))) Af)) Af) [(t.c_zbw,.as 5,(Ae (Ao 4 (Dn (Ac (dFn (λvs H Q _=>(D6 K) vs H Q) (Ac (Ab 5) (Ac (dC (.ref t.c_zbx)) Ag))) (Ac (dFn (λvs H Q _=>(D6 K) vs H Q) (Ac (Ab 5) (Ac (dC (.ref t.c_zby)) Ag))) Ag))))
  (Ae (dIf (De K (dFn (λvs H Q _=>(D6 K) vs H Q) (Ac (Ab 5) (Ac (dC (.ref t.c_zby)) Ag)))) (Ae (Ao 4 (Dn (Ac (dC (.str "no part")) (Ac (dUn (Bp K "part") (Ab 5)) (Ac (dUn (Bp K "choice") (Ab 5)) Ag)))))
   Af) Af)
  Af)))]) (Ae (Aq v4_) Af))
noncomputable def b69:R_:=λK t=>Ae (Ao 4 (dC .non)) (Nq K t)
noncomputable def b75:R_:=λK t=>Ae (Aq (Lj K (s_ (D6 K) (p_ v0_ (dC (.ty "int")))) (X3 K (s_ (D6 K) (p_ v0_ (dC (.ty "bool"))))))) Af
noncomputable def Il:R_:=λK t=>Ae (Aq (s_ (bt4 K) (o_ (Og (Bg [none,some 0,some 1,some 2] (Bj K v0_) (gdN 0) (Bb (Ah (Bw K false) (dMt (rMt K [⟨"dict","dict.get", Gv⟩]) (Ah (Aw K) v1_ v0_) (p_ v2_ (dC .non))) (Ah (Aw K) (Ah (Aw K) v1_ v3_) v2_))) (Ah O9 (n_ 1) v0_)))))) Af
noncomputable def ce6:R_:=λK t=>Ae (dIf (Bb (Ah (Ib K true) v1_ (Ah (Aw K) v0_ v2_))) (Ae (Aq (Dn (q_ (dC (.str "no part")) v1_ v2_))) Af) Af) (Il K t)
noncomputable def a80:R_:=λK t=>Ae (dIf (dOr (Bb (Ah (Bw K true) v8_ (r_ (au1 K t) (q_ v3_ v6_ v7_)))) (Kb (Bb (Ah (Ib K false) v6_ (Ah (Aw K) v3_ v7_))) (Ff (De K (r_ (Wu K t) (o_ v8_)))))) (Ae (Aq (dC (.bl false))) Af) Af) Af
noncomputable def a81:R_:=λK t=>Ae (dIf (Bb (Ah (Bw K true) (r_ (Mm K t) (Ac v4_ (q_ v6_ v7_ (dC (.bl false))))) (Dn (p_ (dC (.bl true)) (dC (.bl false)))))) (Ae (Aq (dC (.bl false))) Af) Af) Af
noncomputable def a82:R_:=λK t=>Ae (dIf (De K (s_ (D6 K) (p_ v8_ (dC (.ty "list"))))) (Ae (Dl (dMt (rMt K [⟨"list","list.clear", Vz⟩]) v8_ Ag)) Af) Af) Af
noncomputable def a83:R_:=λK t=>Ae (dIf (dOr (Bb (Ah (Bw K true) (s_ (D6 K) (p_ v8_ (dC (.ty "list")))) (s_ (D6 K) (p_ v9_ (dC (.ty "list")))))) (Bb (Ah (Bw K true) v8_ v9_))) (Ae (Aq (dC (.bl false))) Af) Af) (a82 K t)
noncomputable def a84:R_:=λK t=>Ae (Ca (Gq (o_ (n_ 2))) (gdN 10) (Ae (Ao 8 (r_ (Mm K t) (Ac v4_ (q_ v6_ (n_ 0) (dC (.bl true)))))) (a83 K t))) Af
noncomputable def a85:R_:=λK t=>Ae (dIf (Bb (Ah (Bw K false) (Og (Bg [none,some 3,some 6] (Bj K v3_) (gdN 0) (Bb (Ah (Ib K false) v2_ (Ah (Aw K) v1_ v0_))) v0_)) (Cf Ag))) (Ae (Ao 9 (Dn (q_ (dC (.str "no part")) v6_ (dC .non)))) Af) Af) (a84 K t)
noncomputable def a86:R_:=λK t=>Ae (Ca (Bj K (Ah (Ba K) (Bg [none,some 3] (Gq (o_ v5_)) (gdN 0) (Bb (Ah (Ib K true) v0_ v1_)) v0_) (Cf (Ac v5_ (Ac (dUn Tu (n_ 1)) (q_ (dC (.bl true)) (dC .non) (dC (.str "0")))))))) (gdN 7) (a81 K t)) (Ae (Ao 9 (r_ (Wc K t) (p_ v3_ v6_))) (a85 K t))
noncomputable def a87:R_:=λK t=>Ae (Ca (Bj K v2_) (gdN 6) (Ae (Ca (Bj K v3_) (gdN 7) (Ae (Ao 8 (r_ (Mm K t) (Ac v4_ (q_ v6_ v7_ (dC (.bl false)))))) (a80 K t))) (a86 K t))) (Ae (Aq (dC (.bl true))) Af)
noncomputable def a88:R_:=λK t=>Ae (Ao 2 (Ah (Ba K) v2_ (Cf (p_ (Ah (Ba K) (Ah (Aw K) v2_ (n_ 0)) (Ah (Dh K) (dC (.str ".")) (s_ V0 (o_ (Ah a62 (s_ (D7 K) (o_ (Ah (Aw K) v2_ (n_ 0)))) (n_ 12)))))) (dC (.str "")))))) (a87 K t)
noncomputable def av4:R_:=λK t=>Ae (Ao 4 (r_ (Wz K t) (p_ v1_ v3_))) (Ae (Ao 5 (r_ (Mo K t) (o_ (Ah (Aw K) v1_ (n_ 0))))) (a88 K t))
noncomputable def b90:R_:=λK t=>Ae (Ef (r_ (W0 K t) (p_ v0_ (Ah (Bw K false) (Ah Bi (r_ (Fa K t) (p_ v0_ (n_ 0))) (n_ 8)) (n_ 1)))) (gdT K 3 [gdN 1,gdN 2,gdN 3])) (av4 K t)
end K34
namespace K34
open PySem L2 Pn
def Ii{α:Type} [DecidableEq α]{l:List α}{x:List α}(nd:l.Nodup)(h:∀z∈l,z∈x):l.length<=x.length:=by
 induction l generalizing x with
 |nil=>exact bw _
 |cons a l ih=>
  obtain⟨na,nd⟩:=List.nodup_cons.mp nd
  have ha:=h a aQ
  have:=ih nd λz hz=>(List.mem_erase_of_ne (λe:z=a=>na (e▸hz))).mpr (h z (av _ hz))
  rw[List.length_erase_of_mem ha] at this
  have:0<x.length:=List.length_pos_of_mem ha
  rw[aK]
  omega
def Vv(h:a<2^n):a ||| 2^n=a+2^n:=by
 have:=Nat.two_pow_add_eq_or_of_lt h 1
 rw[Nat.mul_one] at this
 rw[Nat.or_comm,<- this,mj]
theorem Uc:∀l:List Nat,(l.map λn:Nat=>(1*2^((n:Int)).toNat:Int)).sum=(((l.map λi=>2^i).sum:Nat):Int)
 |[]=>rfl
 | n::l=>by
  rw[aT,lQ,Uc l,aT,lQ,jB,aY,Ev,Int.natCast_add]
def a05(sw:Sw)(ζ:List Sw):A8 sw ζ=(aV (Aj sw).length).filter λi=>(Ej sw ζ).testBit i:=by
 refine List.filter_congr λi hi=>?_
 rw[Zi,decide_eq_true (List.mem_range.mp hi),jz]
 rfl
def Fp(h:n∈A8 sw ζ):n<(Aj sw).length/\(Ej sw ζ).testBit n=true:=by
 rw[a05,bz,cC] at h
 exact h
def Lr(sw:Sw)(ζ:List Sw):(A8 sw ζ).Pairwise (· < ·):=List.Pairwise.filter _ List.pairwise_lt_range
def a06(h:A8 sw ζ≠[]):Lq sw ζ≠0:=by
 obtain⟨n,hn⟩:=eC _ h
 have:=(Fp hn).2
 rw[Jg]
 intro e
 have e:Ej sw ζ=0:=by omega
 rw[e,cK] at this
 cases this
theorem So{α β:Type}(f:α->List β)(hs:0<s):∀(l:List α),(∀a∈l,(f a).length=s) -> ∀n,(l.flatMap f)[n]?=(l[n/s]?).bind λa=>(f a)[n%s]?
 |[],_,n=>by simp
 | a::l,h,n=>by
  have ha:=h a aQ
  rw[hZ]
  by_cases hn:n<s
  .rw[bq (by rw[ha];exact hn),Nat.div_eq_of_lt hn,Nat.mod_eq_of_lt hn];rfl
  .rw[bi (by rw[ha];omega),ha,So f hs l (λb hb=>h b (av _ hb)),Nat.div_eq_sub_div (a:=n) hs (by omega),bK,Nat.mod_eq_sub_mod (a:=n) (by omega)]
theorem Eh:∀l n,(Nf l n).length=l.length
 |[],_=>rfl
 |s::r,n=>by rw[Nf,aI,Eh r];rfl
theorem Yt:∀(L:Sw),(∀x∈L,Gu x.2) -> ∀(n:Nat)(r:List Str),(Aj L.reverse)[n]?=some r -> ∀(i:Nat)(x:Str×List Str),L.reverse[i]?=some x -> ∃d,(Nf (L.map (·.2.length)) n)[i]?=some d/\d<x.2.length/\r[i]?=x.2[d]?
 |[],_,n,r,_,i,x,hx=>by simp at hx
 | y::L,h,n,r,hr,i,x,hx=>by
  have oy:=h y aQ
  have h2:∀x∈L,Gu x.2:=λx hx=>h x (av _ hx)
  have pos:0<y.2.length:=by have:=oy.2.1;omega
  have e:Aj (y::L).reverse=Er (Aj L.reverse) y:=by unfold Aj;rw[List.reverse_cons,gd];rfl
  rw[e] at hr
  unfold Er at hr
  rw[So _ pos _ (λa _=>ae _)] at hr
  obtain⟨a,ha,hb⟩:=Option.bind_eq_some_iff.mp hr
  rw[ak] at hb
  obtain⟨z,hz,rfl⟩:=Option.map_eq_some_iff.mp hb
  have la:a.length=L.length:=by
   have:=(Ih λx hx=>h2 x (List.mem_reverse.mp hx)).2.1 a (aj ha)
   rwa[bu] at this
  rw[List.reverse_cons] at hx
  rw[aT,Nf]
  by_cases hi:i<L.length
  .rw[bq (by rw[bu];exact hi)] at hx
   obtain⟨d,h3,h4,h5⟩:=Yt L h2 (n/y.2.length) a ha i x hx
   refine⟨d,?_,h4,?_⟩
   .rw[bq (by rw[Eh,ae];exact hi)];exact h3
   .rw[bq (by omega)];exact h5
  .have hi2:i=L.length:=by
    have:=Ak hx
    rw[aI,bu] at this
    have:i<L.length+1:=this
    omega
   subst hi2
   rw[bi (by rw[bu];exact ag _),bu,gQ] at hx
   cases hx
   refine⟨n%y.2.length,?_,Nat.mod_lt _ pos,?_⟩
   .rw[bi (by rw[Eh,ae];exact ag _),Eh,ae,gQ];rfl
   .rw[bi (by omega),la,gQ,hz];rfl
def bg4{sw:Sw}{n i:Nat}{r:List Str}{x:Str×List Str}(hw:okSw sw)(hn:(Aj sw)[n]?=some r)(hx:sw[i]?=some x):∃d,(Se sw n)[i]?=some d/\d<x.2.length/\r[i]?=x.2[d]?:=by
 have:=Yt sw.reverse (λx hx=>hw.sets x (List.mem_reverse.mp hx)) n r (by rw[kO];exact hn) i x (by rw[kO];exact hx)
 rwa[iy] at this
def Ll(sw:Sw)(n:Nat):(Se sw n).length=sw.length:=by unfold Se;rw[Eh,bu,ae]
structure GInv (n:Nat) (gs:List Gp):Prop where
 nd:(gs.map (·.1)).Nodup
 asc:(gs.map (·.2.1)).Pairwise (· < ·)
 one:∀g∈gs,g.2.1<n/\g.2.2<2^n/\g.2.2.testBit g.2.1=true/\∀j,j<g.2.1->g.2.2.testBit j=false
def GInv.mono(h:GInv n gs)(hm:n<=m):GInv m gs:=⟨h.nd,h.asc,λg hg=>let⟨a,b,c⟩:=h.one g hg;⟨by omega,aL b (iG (by decide) hm),c⟩⟩
def GInv.put(k:TK)(h:GInv n gs):GInv (n+1) (Ia gs k n):=by
 have h1:=h.mono (cM n)
 unfold Ia
 split
 .refine⟨?_,?_,λg hg=>?_⟩
  .have:(gs.map λg=>if g.1=k then(g.1,g.2.1,g.2.2 ||| 2^n) else g).map (·.1)=gs.map (·.1):=by
    rw[aB]
    exact bW λg _=>by show(if _ then _ else _:Gp).1=_;split <;> rfl
   rw[this];exact h.nd
  .have:(gs.map λg=>if g.1=k then(g.1,g.2.1,g.2.2 ||| 2^n) else g).map (·.2.1)=gs.map (·.2.1):=by
    rw[aB]
    exact bW λg _=>by show(if _ then _ else _:Gp).2.1=_;split <;> rfl
   rw[this];exact h.asc
  .obtain⟨g,hg0,rfl⟩:=List.mem_map.mp hg
   clear hg
   split
   .obtain⟨a,b,c,d⟩:=h.one g hg0
    refine⟨dG a,?_,?_,λj hj=>?_⟩
    .show g.2.2 ||| 2^n<2^(n+1)
     rw[Vv b,Nat.pow_succ];omega
    .rw[fM,c];rfl
    .rw[fM,d j hj,cN]
     exact decide_eq_false (by have:j<g.2.1:=hj;omega)
   .exact h1.one g hg0
 .rename_i hk
  refine⟨?_,?_,λg hg=>?_⟩
  .rw[aq]
   refine List.nodup_append.mpr ⟨h.nd,by simp,λa ha b hb e=>?_⟩
   have:b=k:=by simpa using hb
   exact hk (by rw[<- this,<- e];exact ha)
  .rw[aq]
   refine List.pairwise_append.mpr ⟨h.asc,by simp,λa ha b hb=>?_⟩
   have:b=n:=by simpa using hb
   obtain⟨g,hg,rfl⟩:=List.mem_map.mp ha
   rw[this]
   exact(h.one g hg).1
  .rcases List.mem_append.mp hg with hg|hg
   .exact h1.one g hg
   .obtain rfl:g=(k,n,2^n):=by simpa using hg
    refine⟨cf n,?_,?_,λj hj=>?_⟩
    .exact Nat.pow_lt_pow_right (by decide) (cf n)
    .rw[cN];exact decide_eq_true rfl
    .rw[cN];exact decide_eq_false (by have:j<n:=hj;omega)
def Fq{f:Nat->TK}{ns:List Nat}{i n:Nat}(h:ns[i]?=some n):Co f (ns.take (i+1))=Ia (Co f (ns.take i)) (f n) n:=Cn h _ _
def Lf{ns:List Nat}(asc:ns.Pairwise (· < ·)){i n:Nat}(h:ns[i]?=some n):∀m∈ns.take i,m<n:=λm hm=>by
 obtain⟨j,hj,rfl⟩:=List.mem_iff_getElem.mp hm
 rw[aM] at hj
 have hi:=Ak h
 have e:=az ((ai hi).symm.trans h)
 rw[jo,<- e]
 exact List.pairwise_iff_getElem.mp asc j i (by omega) hi (by omega)
theorem Ho{f:Nat->TK}{ns:List Nat}(asc:ns.Pairwise (· < ·)):∀i n,(∀m∈ns.take i,m<n)->GInv n (Co f (ns.take i))
 |0,n,_=>⟨im,jk,λg hg=>by cases hg⟩
 | i+1,n,h=>by
  cases e:ns[i]? with
  |none=>
   have e2:ns.take (i+1)=ns.take i:=by rw[aJ,e];simp
   rw[e2] at h ⊢
   exact Ho asc i n h
  |some m=>
   rw[Fq e]
   have hm:=h m (by rw[aJ,e];simp)
   exact((Ho asc i m (Lf asc e)).put (f m)).mono hm
def ap4(h:g∈Ia gs k n):g.1=k\/g.1∈gs.map (·.1):=by
 unfold Ia at h
 split at h
 .obtain⟨g',hg,rfl⟩:=List.mem_map.mp h
  split
  .exact .inl ‹_›
  .exact .inr (bA hg)
 .rcases List.mem_append.mp h with h|h
  .exact .inr (bA h)
  .obtain rfl:g=(k,n,2^n):=by simpa using h
   exact .inl rfl
theorem Hq{f:Nat->TK}{ns:List Nat}:∀i {g},g∈Co f (ns.take i) -> ∃n∈ns,g.1=f n
 |0,g,h=>by cases h
 | i+1,g,h=>by
  cases e:ns[i]? with
  |none=>
   have e2:ns.take (i+1)=ns.take i:=by rw[aJ,e];simp
   rw[e2] at h
   exact Hq i h
  |some m=>
   rw[Fq e] at h
   rcases ap4 h with h|h
   .exact⟨m,aj e,h⟩
   .obtain⟨g',hg,e3⟩:=List.mem_map.mp h
    obtain⟨n,hn,q⟩:=Hq i hg
    exact⟨n,hn,by rw[<- e3];exact q⟩
theorem bnd:∀l:List Nat,∃N,∀m∈l,m<N
 |[]=>⟨0,λ_ h=>by cases h⟩
 | n::l=>by
  obtain⟨N,h⟩:=bnd l
  exact⟨N+n+1,λm hm=>by rcases List.mem_cons.mp hm with rfl|hm;omega;have:=h m hm;omega⟩
def X5{tr:Nat->Tr}{ns:List Nat}(asc:ns.Pairwise (· < ·))(h:∃Ts:List Tr,Ts.length<=4/\∀n∈ns,tr n∈Ts)(i:Nat):(Co (λn=>vkT (tr n)) (ns.take i)).length<=4:=by
 obtain⟨Ts,h4,hm⟩:=h
 obtain⟨N,hN⟩:=bnd (ns.take i)
 have:=Ii (Ho (f:=λn=>vkT (tr n)) asc i N hN).nd λz hz=>by
  obtain⟨g,hg,rfl⟩:=List.mem_map.mp hz
  obtain⟨n,hn,e⟩:=Hq i hg
  rw[e]
  exact bA (hm n hn)
 rw[ae,ae] at this
 omega
def a46(h:¬ k∈gs.map (·.1)):Ia gs k n=gs++[(k,n,2^n)]:=by unfold Ia;rw[if_neg h]
mutual
def tkD:TK->Dt
 |.at_ k=>.at_ (kV k)
 |.tup l=>.tup (Ir l)
def Ir:List TK->List Dt
 |[]=>[]
 |k::ks=>tkD k::Ir ks
end
def W5(x:TK):∀{v:V},TkAt H x v->At K H (tkD x) v:=by
 refine TK.rec (motive_1:=λx=>∀{v:V},TkAt H x v->At K H (tkD x) v) (motive_2:=λl=>∀{vs:List V},A7 H l vs->AtL K H (Ir l) vs) ?_ ?_ ?_ ?_ x
 .intro k v h;unfold TkAt at h;unfold tkD At;exact⟨h,P9 k⟩
 .intro l ih v h;unfold TkAt at h;obtain⟨a,xs,e,q,i⟩:=h;unfold tkD At;exact⟨a,xs,e,SqT.of q,ih i⟩
 .intro vs h;unfold A7 at h;unfold Ir AtL;exact h
 .intro x l h1 h2 vs h;unfold A7 at h;obtain⟨v,r,e,q1,q2⟩:=h;unfold Ir AtL;exact⟨v,r,e,h1 q1,h2 q2⟩
def a90(x:TK):dep (tkD x)=Ap x:=by
 refine TK.rec (motive_1:=λx=>dep (tkD x)=Ap x) (motive_2:=λl=>Eg (Ir l)=Cp l) ?_ ?_ ?_ ?_ x
 .intro k;unfold tkD dep Ap;rfl
 .intro l ih;unfold tkD dep Ap;rw[ih]
 .unfold Ir Eg Cp;rfl
 .intro x l h1 h2;unfold Ir Eg Cp;rw[h1,h2]
def bt9(x:TK):∀y,deq (tkD x) (tkD y)=decide (x=y):=by
 refine TK.rec (motive_1:=λx=>∀y,deq (tkD x) (tkD y)=decide (x=y)) (motive_2:=λl=>∀l',Fg (Ir l) (Ir l')=decide (l=l')) ?_ ?_ ?_ ?_ x
 .intro k y
  cases y with
  |at_ k'=>unfold tkD deq;exact(ag6 k k').symm
  |tup l=>unfold tkD deq;exact(decide_eq_false λe=>by cases e).symm
 .intro l ih y
  cases y with
  |at_ k'=>unfold tkD deq;exact(decide_eq_false λe=>by cases e).symm
  |tup l'=>unfold tkD deq;rw[ih l'];exact decide_eq_decide.mpr ⟨λe=>by rw[e],λe=>by injection e⟩
 .intro l'
  cases l' with
  |nil=>unfold Ir Fg;exact(decide_eq_true rfl).symm
  |cons _ _=>unfold Ir Fg;exact(decide_eq_false λe=>by cases e).symm
 .intro x l h1 h2 l'
  cases l' with
  |nil=>unfold Ir Fg;exact(decide_eq_false λe=>by cases e).symm
  |cons y l'=>
   unfold Ir Fg
   rw[h1,h2,<- Bool.decide_and]
   exact decide_eq_decide.mpr ⟨fun⟨a,b⟩=>by rw[a,b],λe=>by injection e with a b;exact⟨a,b⟩⟩
def RcAt.tk(h:RcAt H a x):TkAt H (rcT x) (.ref a):=by
 obtain⟨v,e,q⟩:=h
 refine⟨a,_,rfl,e,?_⟩
 unfold A7;refine⟨_,_,rfl,by unfold TkAt;rfl,?_⟩
 unfold A7;refine⟨_,_,rfl,by unfold TkAt;rfl,?_⟩
 unfold A7;refine⟨_,_,rfl,by unfold TkAt;rfl,?_⟩
 unfold A7;refine⟨_,_,rfl,q,?_⟩
 unfold A7;rfl
theorem RcAt.up(h:∀b ys,H b=some (.tup ys)->H' b=some (.tup ys))(q:RcAt H a x):RcAt H' a x:=let⟨v,e,q⟩:=q;⟨v,h _ _ e,q.up h⟩
theorem Cm:∀{T:Tr}{n:Str}{x:Rc},T.lookup n=some x->(n,x)∈T
 |[],_,_,h=>by cases h
 | (m,y)::T,n,x,h=>by
  rw[fK] at h
  split at h
  .rename_i e
   cases h
   rw[cz e]
   exact aQ
  .exact av _ (Cm h)
theorem Qc:∀{T:Tr}{n:Str}{x:Rc},(T.map (·.1)).Nodup->(n,x)∈T->T.lookup n=some x
 | (m,y)::T,n,x,nd,h=>by
  rw[aT,bS] at nd
  rw[fK]
  rcases List.mem_cons.mp h with e|h
  .cases e
   rw[beq_self_eq_true]
  .have:(n==m)=false:=beq_false_of_ne λe=>nd.1 (by rw[<- e];exact List.mem_map.mpr ⟨(n,x),h,rfl⟩)
   rw[this]
   exact Qc nd.2 h
theorem Du:∀{l:List TK},(∀k∈l,Ap k<=n)->Cp l<=n
 |[],_=>by unfold Cp;exact bw _
 |d::ds,h=>by unfold Cp;exact Nat.max_le.mpr ⟨h d aQ,Du λx hx=>h x (av _ hx)⟩
def Iz(k:Key)(n:Nat):Ap (.at_ k)<=n:=by unfold Ap;exact bw _
def Yq(h:Ap x.c<=2):Ap (rcT x)<=3:=by
 refine cD (Du λk hk=>?_)
 simp only[aD,ce,or_false] at hk
 rcases hk with rfl|rfl|rfl|rfl
 .exact Iz _ _
 .exact Iz _ _
 .exact Iz _ _
 .exact h
def bu7(o:Bl T):Ap (vkT T)<=8:=by
 refine cD (aU (Du (n:=4) λk hk=>?_) (by decide))
 obtain⟨n,_,rfl⟩:=List.mem_map.mp hk
 refine cD (Du λk hk=>?_)
 simp only[aD,ce,or_false] at hk
 rcases hk with rfl|rfl
 .exact Iz _ _
 .unfold aa6
  cases e:T.lookup n with
  |none=>unfold Option.map Option.getD Ap Cp;decide
  |some x=>exact Yq (o.2.2.1 (n,x) (Cm e))
theorem Tb{α β:Type}{F G:α->β}(h:∀a b,F a=G b->a=b):∀{l m:List α},l.map F=m.map G->l=m
 |[],[],_=>rfl
 |[],_::_,e=>by cases e
 |_::_,[],e=>by cases e
 | a::l,b::m,e=>by
  rw[aT,aT] at e
  injection e with e1 e2
  rw[h a b e1,Tb h e2]
def V3(h:T.lookup n=some x):aa6 T n=rcT x:=by unfold aa6;rw[h];rfl
def K8{T:Tr}{n:Str}(h:¬ n∈T.map (·.1)):T.lookup n=none:=by
 cases e:T.lookup n with
 |none=>rfl
 |some x=>exact absurd (List.mem_map.mpr ⟨(n,x),Cm e,rfl⟩) h
def Ji(o:Bl T)(h:n∈T.map (·.1)):∃x,T.lookup n=some x/\(n,x)∈T:=by
 obtain⟨⟨m,x⟩,hx,rfl⟩:=List.mem_map.mp h
 exact⟨x,Qc o.1 hx,hx⟩
def a76(o:Bl T)(n:Str):(stT T n).isSome=true↔n∈T.map (·.1):=by
 by_cases h:n∈T.map (·.1)
 .obtain⟨x,e,_⟩:=Ji o h
  unfold stT;rw[e];exact⟨λ_=>h,λ_=>rfl⟩
 .unfold stT;rw[K8 h];exact⟨λz=>(by cases z),λz=>absurd z h⟩
def Ua(o:Bl T)(o':Bl T')(e:vkT T=vkT T')(n:Str):stT T n=stT T' n:=by
 injection e with e
 have en:=Tb (λa b z=>by injection z with z;injection z with z _;injection z with z;injection z) e
 have mm:∀n,n∈T.map (·.1)↔n∈T'.map (·.1):=λn=>by rw[<- (Ar ltS (T.map (·.1))).mem_iff,en,(Ar _ _).mem_iff]
 by_cases h:n∈T.map (·.1)
 .obtain⟨x,ex,_⟩:=Ji o h
  obtain⟨y,ey,_⟩:=Ji o' ((mm n).mp h)
  rw[<- en] at e
  have:=List.map_inj_left.mp e n ((Ar _ _).mem_iff.mpr h)
  injection this with this
  injection this with _ this
  injection this with this _
  rw[V3 ex,V3 ey] at this
  unfold stT
  rw[ex,ey,dL,dL,this]
 .unfold stT
  rw[K8 h,K8 λz=>h ((mm n).mpr z)]
def Hr(o:Bl T)(n:Str):aj9 (vkT T) n↔(stT T n).isSome=true:=⟨fun⟨T',o',e,h⟩=>by rw[<- Ua o' o e];exact h,λh=>⟨T,o,rfl,h⟩⟩
theorem K0{f:Nat->TK}{ns:List Nat}:∀i,∀n∈ns.take i,∃g∈Co f (ns.take i),g.1=f n
 |0,n,h=>by cases h
 | i+1,n,h=>by
  cases e:ns[i]? with
  |none=>
   have e2:ns.take (i+1)=ns.take i:=by rw[aJ,e];simp
   rw[e2] at h ⊢
   exact K0 i n h
  |some m=>
   have km:∀k,k∈(Co f (ns.take i)).map (·.1)\/k=f m -> ∃g∈Co f (ns.take (i+1)),g.1=k:=λk hk=>by
    have:k∈(Co f (ns.take (i+1))).map (·.1):=by
     rw[Fq e]
     unfold Ia
     split
     .rename_i hh
      have q:((Co f (ns.take i)).map λg=>if g.1=f m then(g.1,g.2.1,g.2.2 ||| 2^m) else g).map (·.1)=(Co f (ns.take i)).map (·.1):=by
       rw[aB]
       exact bW λg _=>by show(if _ then _ else _:Gp).1=_;split <;> rfl
      rw[q]
      rcases hk with hk|rfl
      .exact hk
      .exact hh
     .rw[aq]
      rcases hk with hk|rfl
      .exact bx _ hk
      .exact aH _ (by simp)
    obtain⟨g,hg,q⟩:=List.mem_map.mp this
    exact⟨g,hg,q⟩
   rw[aJ,e] at h
   rcases List.mem_append.mp h with h|h
   .obtain⟨g,hg,q⟩:=K0 i n h
    exact km _ (.inl (List.mem_map.mpr ⟨g,hg,q⟩))
   .obtain rfl:n=m:=by simpa using h
    exact km _ (.inr rfl)
theorem Kz{f:Nat->TK}{ns:List Nat}:∀i {g},g∈Co f (ns.take i) -> ∀n,g.2.2.testBit n=true↔n∈ns.take i/\f n=g.1
 |0,g,h=>by cases h
 | i+1,g,h=>by
  intro n
  cases e:ns[i]? with
  |none=>
   have e2:ns.take (i+1)=ns.take i:=by rw[aJ,e];simp
   rw[e2] at h ⊢
   exact Kz i h n
  |some m=>
   have mt:n∈ns.take (i+1)↔n∈ns.take i\/n=m:=by rw[aJ,e];simp
   rw[Fq e] at h
   unfold Ia at h
   rw[mt]
   split at h
   .obtain⟨g,hg,rfl⟩:=List.mem_map.mp h
    have ih:=Kz i hg n
    split
    .rename_i ek
     rw[fM,cN,cS,decide_eq_true_iff,ih]
     refine⟨λq=>q.elim (fun⟨a,b⟩=>⟨.inl a,b⟩) λz=>⟨.inr z.symm,by rw[<- z];exact ek.symm⟩,fun⟨a,b⟩=>a.elim (λa=>.inl ⟨a,b⟩) λz=>.inr z.symm⟩
    .rename_i ek
     rw[ih]
     refine⟨fun⟨a,b⟩=>⟨.inl a,b⟩,fun⟨a,b⟩=>a.elim (λa=>⟨a,b⟩) λz=>absurd (by rw[<- b,z]) ek⟩
   .rename_i hk
    rcases List.mem_append.mp h with h|h
    .rw[Kz i h n]
     refine⟨fun⟨a,b⟩=>⟨.inl a,b⟩,fun⟨a,b⟩=>a.elim (λa=>⟨a,b⟩) λz=>absurd (List.mem_map.mpr ⟨g,h,by rw[<- b,z]⟩) hk⟩
    .obtain rfl:g=(f m,m,2^m):=by simpa using h
     rw[cN,decide_eq_true_iff]
     refine⟨λz=>⟨.inr z.symm,by rw[z]⟩,fun⟨a,b⟩=>a.elim (λa=>?_) λz=>z.symm⟩
     obtain⟨g,hg,q⟩:=K0 i n a
     exact absurd (List.mem_map.mpr ⟨g,hg,q.trans b⟩) hk
def a72(asc:l.Pairwise (· < ·)):(l.map λi=>2^i).sum=Gr l:=by
 have:∀i,((l.take i).map λi=>2^i).sum=Gr (l.take i):=λi=>by
  induction i with
  |zero=>rfl
  |succ i ih=>
   cases e:l[i]? with
   |none=>
    have e2:l.take (i+1)=l.take i:=by rw[aJ,e];simp
    rw[e2];exact ih
   |some n=>
    have st:Gr (l.take (i+1))=Gr (l.take i) ||| 2^n:=Cn e _ _
    rw[B0 e,List.sum_append,ih,st,Vv (i9 _ λj hj=>by
     rw[Fy]
     exact decide_eq_false λz=>by have:=Lf asc e j z;omega)]
    simp
 have:=this l.length
 rwa[aA] at this
section
variable {ns:List Nat}{tr:Nat->Tr}{gs:List Gp}
def Bk.bits(S:Bk ns tr gs){g:Gp}(hg:g∈gs)(n:Nat):g.2.2.testBit n=true↔n∈ns/\vkT (tr n)=g.1:=by
 have:=Kz ns.length (by rw[aA,<- S.ge];exact hg) n
 rwa[aA] at this
def Bk.get(S:Bk ns tr gs){n:Nat}(h:n∈ns):∃g∈gs,g.1=vkT (tr n)/\g.2.2.testBit n=true:=by
 obtain⟨g,hg,e⟩:=K0 ns.length n (by rw[aA];exact h)
 rw[aA,<- S.ge] at hg
 exact⟨g,hg,e,(S.bits hg n).mpr ⟨h,e.symm⟩⟩
end
section
variable {P:aW}{w:bC}{K:ac}{mg:Str->Option Value}{base:Heap}{t:Adr}
def bn2(Z:An K t):OkD K af5 (Av K t) bl (t.f 20) (t.d 20) (Ju K t):=by
 refine A5 (b85 K t) λvs H Q E h=>?_
 .obtain⟨a,ms,rfl,hS,k⟩:=h;refine⟨rfl,?_⟩
  refine .inl ⟨⟨_,hS⟩,?_⟩
  refine A3 (Ay (ms.map V.int)) (λi σ H'=>(∃v2,σ=[some (.ref a),some (.int (G5 (ms.take i))),v2])/\H'=H) ⟨⟨_,rfl⟩,rfl⟩ (λi σ H' _ q=>q.2▸hS) ?_ ?_
  .rintro i x σ H' hx ⟨⟨v2,rfl⟩,rfl⟩
   obtain⟨m,hm,rfl⟩:=Am hx
   have e:G5 (ms.take (i+1))=cT (G5 (ms.take i)) m:=Cn hm _ _
   exact⟨⟨_,congrArg (λz=>[some (V.ref a),some (V.int z),some (V.int m)]) e.symm⟩,rfl⟩
  .rintro σ H' ⟨⟨v2,rfl⟩,rfl⟩
   rw[ae,aA]
   exact .inl k
def bn6(Z:An K t):OkD K af9 (Av K t) bl (t.f 30) (t.d 30) (W2 K t):=by
 refine A5 (b89 K t) λvs H Q E h=>?_
 .obtain⟨a,ms,rfl,hS,hb,k⟩:=h;refine⟨rfl,?_⟩
  refine .inl ⟨⟨_,hS⟩,?_⟩
  refine A3 (Ay (ms.map λn:Nat=>V.int (n:Int))) (λi σ H'=>(∃v2,σ=[some (.ref a),some (.int (ab1 (ms.take i))),v2])/\H'=H) ⟨⟨_,rfl⟩,rfl⟩ (λi σ H' _ q=>q.2▸hS) ?_ ?_
  .rintro i x σ H' hx ⟨⟨v2,rfl⟩,rfl⟩
   obtain⟨m,hm,rfl⟩:=Am hx
   have e:ab1 (ms.take (i+1))=cT (ab1 (ms.take i)) (1*2^((m:Int)).toNat):=by
    rw[jB,aY]
    exact Cn hm _ _
   have hm2:=hb m (aj hm)
   exact⟨⟨by omega,by omega,by decide⟩,⟨⟨_,congrArg (λz=>[some (V.ref a),some (V.int z),some (V.int (m:Int))]) e.symm⟩,rfl⟩⟩
  .rintro σ H' ⟨⟨v2,rfl⟩,rfl⟩
   rw[ae,aA]
   exact .inl k
def bk2(Z:An K t):OkD K Xg (Av K t) bl (t.m_zbz 3) (t.e_zbz 3) (Wg K t):=by
 refine A5 (b56 K t) λvs H Q E h=>?_
 .obtain⟨p,l,s,sw,rfl,⟨dx,fs,⟨_,hp⟩,hl,hs,hm⟩,⟨ds,e,⟨_,o⟩,_⟩,k⟩:=h;refine⟨rfl,?_⟩
  refine fY ⟨_,_,_,_,hp,Z.pf.cl,(Z.pf.na _ (by simp)),hl,(.inl ⟨_,.inl (SqL.of o),?_⟩)⟩
  have el:(ds.map λx=>V.ref x.2).length=(Aj sw).length:=by rw[<- e];simp
  rw[el]
  exact k
def bz8(Z:An K t):OkD K ax0 (Av K t) bl (t.m_zbz 0) (t.e_zbz 0) (as6 K t):=by
 refine A5 (cd1 K t) λvs H Q E h=>?_
 .obtain⟨p,l,s,sw,rfl,hs,ht,hn,k⟩:=h;refine⟨rfl,?_⟩
  obtain⟨dx,fs,⟨_,hp⟩,_,_,hm⟩:=id hs
  refine⟨p,dx,fs,⟨t.c_zbz,ak2 K t⟩,rfl,.head _,hp,hm _ (by decide),⟨aF rfl,aF rfl⟩,?_⟩
  refine⟨p,l,s,sw,rfl,hs,ht,⟨by omega,by omega,by decide⟩,?_⟩
  have e:1*2^(((Aj sw).length:Int)).toNat-1=Rv sw:=by rw[jB,aY];rfl
  show Q (.int (1*2^(((Aj sw).length:Int)).toNat-1)) H
  rw[e]
  exact k
def bk6(Z:An K t):OkD K ad4 (Av K t) bl (t.f 21) (t.d 21) (Wj K t):=by
 refine A5 (b60 K t) λvs H Q E h=>?_
 .obtain⟨z,lo,hi,rfl,hz,k⟩:=h;refine⟨rfl,?_⟩
  exact⟨rfl,aU hz (by decide),Oc k⟩
def bl3(Z:An K t):OkD K ad7 (Av K t) bl (t.f 22) (t.d 22) (Wo K t):=by
 refine A5 (bd2 K t) λvs H Q E h=>?_
 .obtain⟨c,rfl,k⟩:=h;refine⟨rfl,?_⟩
  dsimp only[bd2,Ae,Aq]
  exact a00 (s1 := "a") (s2 := "z") (by decide +kernel) (by decide +kernel) (by rfl) k
def bn3(Z:An K t):OkD K af6 (Av K t) bl (t.f 23) (t.d 23) (Qz K t):=by
 refine A5 (b86 K t) λvs H Q E h=>?_
 .obtain⟨z,rfl,hz,k⟩:=h;refine⟨rfl,?_⟩
  have hl:z.length<=1000:=aU hz.2.1 (by decide)
  refine⟨z,1,8,rfl,hl,?_⟩
  have e:(decide (1<=(z.length:Int))&&decide ((z.length:Int)<=8))=true:=by
   have h1:=hz.1
   have h2:=hz.2.1
   simp
   omega
  refine Ht e ?_
  refine Y7 (p:=K7) hl (λc σ H1 Q1 hσ q=>?_) λH' S=>?_
  .match σ,hσ with
   |[_],_=>exact⟨c,rfl,q⟩
  .rw[hz.2.2];exact k H' S
def b02(Z:An K t):OkD K be2 (Av K t) bl (t.f 24) (t.d 24) (Yy K t):=by
 refine A5 (cd5 K t) λvs H Q E h=>?_
 .obtain⟨a,l,rfl,hS,hl,k⟩:=h;refine⟨rfl,?_⟩
  refine⟨_,true,.sqL rfl hS rfl,rfl,?_⟩
  refine .inl ⟨⟨_,hS⟩,?_⟩
  refine Rz (σ:=[none]) (Ay (l.map V.str)) (λσ=>σ.length=1) (λH1 S=>S.seqL hS) ?_ rfl (λσ x hσ=>by rw[j8];exact hσ) ?_ λD1 H1 S1 q1=>⟨_,q1,?_⟩
  .rw[ae];exact bb hl.2.2 (by decide)
  .intro x σ H1 Q1 hx hσ S q
   obtain⟨z,hz,rfl⟩:=List.mem_map.mp hx
   match σ,hσ with
   |[_],_=>exact⟨z,rfl,hl.1 z hz,q⟩
  .rw[Xt]
   refine⟨l,S1.seqL hS,bb hl.2.2 (by decide),.inl ⟨_,.inl (S1.seqL hS),?_⟩⟩
   rw[a19 hl.2.1,ae]
   have e:decide ((l.length:Int)=(l.length:Int))=true:=by simp
   show Q (.bl (decide ((l.length:Int)=(l.length:Int)))) H1
   rw[e]
   exact k H1 S1
def bl4(Z:An K t):OkD K ad8 (Av K t) bl (t.f 26) (t.d 26) (Wp K t):=by
 refine A5 (b67 K t) λvs H Q E h=>?_
 .obtain⟨a,b,wd,l,rfl,ha,hb,hw,hl,k⟩:=h;refine⟨rfl,?_⟩
  have qa:=SqT.of (K:=K) ha
  have qb:=SqL.of (K:=K) hb
  refine⟨_,true,.sqT rfl qa rfl,rfl,?_⟩
  refine .inl ⟨_,.inr qa,?_⟩
  refine⟨_,_,.inr qa,rfl,?_⟩
  refine⟨wd,rfl,hw,λH1 S1=>?_⟩
  refine⟨_,_,.inr (S1.seqT qa),rfl,?_⟩
  refine⟨b,l,rfl,S1.seqL qb,hl.1,λH2 S2=>?_⟩
  have S:=S1.trans S2
  refine⟨_,_,.inr (S.seqT qa),rfl,.inl ⟨_,.inl (S.seqL qb),?_⟩⟩
  rw[ae]
  have e:(decide (2<=(l.length:Int))&&decide ((l.length:Int)<=4))=true:=by
   have h1:=hl.2.1
   have h2:=hl.2.2
   simp
   omega
  exact Oc (e▸k H2 S)
def Qh{es:List ((Str×List Str)×Addr)}{sw:Sw}{i:Nat}{e:Str×List Str}(he:es.map (·.1)=sw.take i)(hi:sw[i]?=some e)(nd:(sw.map (·.1)).Nodup):Bf (es.map kR) (.inr e.1)=none:=by
 refine Ce ?_
 rw[K5,he]
 intro hm
 obtain⟨w,hw,e2⟩:=List.mem_map.mp hm
 cases e2
 have h1:(sw.map (·.1))[i]?=some e.1:=by rw[ak,hi];rfl
 rw[jC] at hw
 obtain⟨j,hj,e3⟩:=List.mem_iff_getElem.mp hw
 rw[aM] at hj
 rw[jo] at e3
 have hi2:=Ak h1
 have e4:(sw.map (·.1))[i]=e.1:=by
  have:=ai hi2
  rw[this] at h1
  exact az h1
 have:=(dA (i:=j) (h₁:=hi2) nd).mp (by rw[e3,e4])
 omega
def K4{es:List ((Str×List Str)×Addr)}{e:Str×List Str}{a:Addr}(h:Bf (es.map kR) (.inr e.1)=none):Cj (es.map kR) (.inr e.1) (.ref a)=(es++[(e,a)]).map kR:=by
 rw[Fx _ h,aq]
 rfl
def U7{α β:Type}{es:List (α×β)}{sw:List α}{i:Nat}(h:es.map (·.1)=sw.take i):es.length<=sw.length:=by
 have:=congrArg cE h
 rw[ae,aM] at this
 omega
def Hm{α β:Type}{es:List (α×β)}{sw:List α}{i:Nat}{e:α}{a:β}(h:es.map (·.1)=sw.take i)(hi:sw[i]?=some e):(es++[(e,a)]).map (·.1)=sw.take (i+1):=by
 rw[aq,h,aJ,hi]
 rfl
def b15(Z:An K t):OkD K be5 (Av K t) bl (t.f 27) (t.d 27) (au2 K t):=by
 refine A5 (ce7 K t) λvs H Q E h=>?_
 .obtain⟨a,sw,rfl,⟨ds,ed,⟨_,oa⟩,hd⟩,hw,k⟩:=h;refine⟨rfl,?_⟩
  have ql:=SqL.of (K:=K) oa
  have el:(ds.map λx=>V.ref x.2).length=sw.length:=by rw[<- ed];simp
  refine⟨_,true,.sqL rfl ql rfl,rfl,?_⟩
  refine .inl ⟨_,.inl ql,?_⟩
  rw[el]
  have e1:decide (1<=(sw.length:Int))=true:=by have:=hw.1;simp;omega
  have e2:decide ((sw.length:Int)<=5)=true:=by have:=hw.2.1;simp;omega
  refine Ht e1 (Gs (by rw[e2];rfl) ?_)
  intro d hd0
  refine .inl (.inl ⟨⟨_,(Same.upd hd0).seqL ql⟩,?_⟩)
  refine A3 (Ay (ds.map λx=>V.ref x.2)) (λi σ H'=>(∃v3,σ=[some (.ref a),some (.ref d),some (.int (Cr (sw.take i):Nat)),v3])/\Same H H' /\
    ∃es,es.map (·.1)=sw.take i/\H' d=some (.dK (es.map kR))/\∀x∈es,H x.2=none/\H' x.2=some (Eu x.1.2))
   ⟨⟨_,rfl⟩,Same.upd hd0,[],rfl,Aa,λx hx=>by cases hx⟩ (λi σ H' _ q=>q.2.1.seqL ql) ?_ ?_
  .rintro i x σ H1 hx ⟨⟨v3,rfl⟩,S1,es,ee,e1d,he⟩
   obtain⟨⟨⟨e,la⟩,ta⟩,hi,rfl⟩:=Am hx
   have hi2:sw[i]?=some e:=by rw[<- ed,ak,hi];rfl
   obtain⟨⟨_,h1⟩,_,h2⟩:=hd _ (aj hi)
   have hok:=hw.2.2.2.1 e (aj hi2)
   have nk:=Qh ee hi2 hw.2.2.1
   refine⟨ta,la,e.1,e.2,rfl,S1 _ _ h1,S1 _ _ h2,hok.1,hok.2,λH2 S2=>?_⟩
   have S:=S1.trans S2
   have qt:=SqT.of (K:=K) (S _ _ h1)
   have qa:=SqL.of (K:=K) (S _ _ h2)
   refine⟨_,_,.inr qt,rfl,.inr ⟨_,.inl ⟨_,.inr e.1,.inl (S2 _ _ e1d),rfl,rfl⟩,?_⟩⟩
   rw[nk]
   refine⟨_,_,.inr qt,rfl,_,.inl ⟨qa,λtp htp=>?_⟩⟩
   have S3:=Same.upd (o:=Eu e.2) htp
   have et:upd H2 tp (Eu e.2) tp=some (Eu e.2):=Aa
   have hft:=S.free htp
   generalize upd H2 tp (Eu e.2)=H3 at S3 et ⊢
   have Sa:=S.trans S3
   have e3d:=S3 _ _ (S2 _ _ e1d)
   have ndt:=Ai (S2 _ _ e1d) htp
   refine⟨_,_,.inr (S3.seqT qt),rfl,_,DPut.k (k:=.inr e.1) e3d ?_,?_⟩
   .rw[ae]
    have:=U7 ee
    have:=hw.2.1
    exact bb (show es.length<=5 by omega) (by decide)
   rw[K4 nk]
   have Sb:Same H (upd H3 d (.dK ((es++[(e,tp)]).map kR))):=Sa.set hd0
   have keep:∀b,b≠d->upd H3 d (.dK ((es++[(e,tp)]).map kR)) b=H3 b:=λb hb=>Ad hb
   have ebd:upd H3 d (.dK ((es++[(e,tp)]).map kR)) d=some (.dK ((es++[(e,tp)]).map kR)):=Aa
   generalize upd H3 d (.dK ((es++[(e,tp)]).map kR))=H4 at Sb keep ebd ⊢
   refine⟨_,_,.inr (SqT.of (Sb _ _ h1)),rfl,.inl ⟨_,.inl (SqL.of (Sb _ _ h2)),?_⟩⟩
   rw[ae]
   have pm:((Cr (sw.take i):Nat):Int)*(e.2.length:Int)=((Cr (sw.take (i+1)):Nat):Int):=by
    unfold Cr
    rw[Cn hi2,j6]
   have hb4:=hok.2.2.2
   refine⟨.inr ⟨show -(2^64)<(e.2.length:Int) by omega,show(e.2.length:Int)<2^64 by omega⟩,?_⟩
   refine⟨⟨_,congrArg (λz=>[some (V.ref a),some (V.ref d),some (V.int z),some (V.ref ta)]) pm⟩,Sb,es++[(e,tp)],Hm ee hi2,ebd,?_⟩
   intro x hx
   rcases List.mem_append.mp hx with hx|hx
   .obtain⟨a1,a2⟩:=he x hx
    refine⟨a1,?_⟩
    rw[keep x.2 (λz=>by rw[z,e1d] at a2;cases a2)]
    exact S3 _ _ (S2 _ _ a2)
   .have:x=(e,tp):=by simpa using hx
    subst this
    exact⟨hft,by rw[keep _ (cg ndt)];exact et⟩
  .rintro σ H1 ⟨⟨v3,rfl⟩,S1,es,ee,e1d,he⟩
   rw[el,aA] at ee
   rw[el,aA]
   refine .inl (Gs ?_ ?_)
   .have:=hw.2.2.2.2
    simp
    omega
   .exact k H1 d S1 ⟨es,ee,⟨hd0,e1d⟩,he⟩
def bj6(Z:An K t):OkD K ad0 (Av K t) bl (t.f 25) (t.d 25) (Wb K t):=by
 refine A5 (b50 K t) λvs H Q E h=>?_
 .obtain⟨r,rule,rfl,⟨ds,ed,⟨_,od⟩,hd⟩,nd,hl,k⟩:=h;refine⟨rfl,?_⟩
  intro c hc
  have ncr:=Ai od hc
  have od1:upd H c (.dK []) r=some (.dK (ds.map kR)):=by rw[Ad ncr];exact od
  refine .inl (.inr (.inr (.inl (.inl ⟨_,od1,λo=>?_⟩))))
  have Hf:∀b u,b≠r->H b=some u->upd (upd H c (.dK [])) r (.frz o (.dK (ds.map kR))) b=some u:=λb u hb e=>by
   rw[Ad hb,Ad (Ai e hc)];exact e
  have ef:upd (upd H c (.dK [])) r (.frz o (.dK (ds.map kR))) r=some (.frz o (.dK (ds.map kR))):=Aa
  have ec:upd (upd H c (.dK [])) r (.frz o (.dK (ds.map kR))) c=some (.dK []):=by rw[Ad (cg ncr),Aa]
  have len:ds.length=rule.length:=by rw[<- ed];simp
  generalize upd (upd H c (.dK [])) r (.frz o (.dK (ds.map kR)))=H0 at Hf ef ec ⊢
  refine A3 (Dc (ds.map kR)) (λi σ H'=>(∃v2,σ=[some (.ref r),some (.ref c),v2])/\(∀b u,b≠r->H b=some u->H' b=some u)/\H' r=some (.frz o (.dK (ds.map kR))) /\
    ∃es,es.map (·.1)=rule.take i/\H' c=some (.dK (es.map kR))/\∀x∈es,H x.2=none/\H' x.2=some (Bd x.1.2))
   ⟨⟨_,rfl⟩,Hf,ef,[],rfl,ec,λx hx=>by cases hx⟩ (λi σ H' _ q=>q.2.2.1) ?_ ?_
  .rintro i x σ H1 hx ⟨⟨v2,rfl⟩,S1,f1,es,ee,e1c,he⟩
   obtain⟨kv,hi0,rfl⟩:=Am hx
   obtain⟨⟨e,la⟩,hi,rfl⟩:=Am hi0
   have hi2:rule[i]?=some e:=by rw[<- ed,ak,hi];rfl
   obtain⟨_,h2⟩:=hd _ (aj hi)
   have nla:la≠r:=λz=>by rw[z,od] at h2;cases h2
   have nk:=Qh ee hi2 nd
   have hv:=Bm (E2 ed nd) hi0
   refine⟨.ref la,.inl ⟨_,.inr e.1,.inr ⟨o,f1⟩,rfl,hv.symm⟩,.inl ⟨_,.inl (SqL.of (S1 _ _ nla h2)),λlc hlc=>?_⟩⟩
   have S3:=Same.upd (o:=Bd e.2) hlc
   have et:upd H1 lc (Bd e.2) lc=some (Bd e.2):=Aa
   have nlr:=(Ai f1 hlc).symm
   have hft:H lc=none:=by
    cases q:H lc with
    |none=>rfl
    |some u=>rw[S1 _ _ nlr q] at hlc;cases hlc
   have ndt:=Ai e1c hlc
   generalize upd H1 lc (Bd e.2)=H3 at S3 et ⊢
   refine⟨_,DPut.k (S3 _ _ e1c) ?_,?_⟩
   .rw[ae]
    have:=U7 ee
    exact bb (show es.length<=100 by omega) (by decide)
   rw[K4 nk]
   refine⟨⟨_,rfl⟩,λb u hb e4=>?_,?_,es++[(e,lc)],Hm ee hi2,Aa,?_⟩
   .rw[Ad (Ai e4 hc)];exact S3 _ _ (S1 _ _ hb e4)
   .rw[Ad ncr];exact S3 _ _ f1
   .intro x hx
    rcases List.mem_append.mp hx with hx|hx
    .obtain⟨a1,a2⟩:=he x hx
     refine⟨a1,?_⟩
     rw[Ad (λz=>by rw[z,e1c] at a2;cases a2)]
     exact S3 _ _ a2
    .have:x=(e,lc):=by simpa using hx
     subst this
     exact⟨hft,by rw[Ad (cg ndt)];exact et⟩
  .rintro σ H1 ⟨⟨v2,rfl⟩,S1,f1,es,ee,e1c,he⟩
   rw[ae,ae,len,aA] at ee
   refine .inr ⟨r,o,_,od1,f1,?_⟩
   refine k _ c (λb u e4=>?_) ⟨es,ee,⟨hc,?_⟩,λx hx=>⟨(he x hx).1,?_⟩⟩
   .by_cases hb:b=r
    .subst hb;rw[Aa,<- od,e4]
    .rw[Ad hb];exact S1 _ _ hb e4
   .rw[Ad (cg ncr)];exact e1c
   .rw[Ad (λz=>by have:=(he x hx).1;rw[z,od] at this;cases this)];exact(he x hx).2
theorem La:∀r:List Str,A7 H (r.map λz=>.at_ (.inr z)) (r.map V.str)/\Cp (r.map λz=>.at_ (.inr z))=0
 |[]=>⟨by unfold A7;rfl,rfl⟩
 |z::r=>⟨by rw[aT];unfold A7;exact⟨_,_,rfl,by unfold TkAt;rfl,(La r).1⟩,by rw[aT,Cp,(La (H:=H) r).2];rfl⟩
def bj5(h:H b=some (Eu r)):Ap (a25 r)<=8/\TkAt H (a25 r) (.ref b):=by
 refine⟨?_,?_⟩
 .unfold a25 Ap;rw[(La (H:=H) r).2];decide
 .unfold a25 TkAt;exact⟨b,_,rfl,h,(La r).1⟩
def Et{α:Type}{l:List α}{i:Nat}{x:α}(nd:l.Nodup)(h:l[i]?=some x):¬ x∈l.take i:=by
 intro hm
 obtain⟨j,hj,e⟩:=List.mem_iff_getElem.mp hm
 rw[aM] at hj
 rw[jo] at e
 have hi:=Ak h
 rw[ai hi] at h
 have:=(dA (i:=j) (h₁:=hi) nd).mp (by rw[e];exact(az h).symm)
 omega
def bz6(Z:An K t):OkD K be0 (Av K t) bl (t.f 29) (t.d 29) (as1 K t):=by
 refine A5 (cc9 K t) λvs H Q E h=>?_
 .obtain⟨l,rows,rfl,⟨ds,ed,⟨_,ol⟩,hd⟩,nd,hl,k⟩:=h;refine⟨rfl,?_⟩
  intro n hn
  have ql:=SqL.of (K:=K) ol
  have len:(Ei 0 (ds.map λx=>V.ref x.2)).length=rows.length:=by rw[Bu,<- ed];simp
  refine .inr (.inl ⟨⟨_,(Same.upd hn).seqL ql⟩,?_⟩)
  refine Kw (Gm (ds.map λx=>V.ref x.2)) (λi σ H'=>(∃v2 v3,σ=[some (.ref l),some (.ref n),v2,v3])/\Same H H'/\∃kvs,H' n=some (.dT kvs)/\kvs.length<=i)
   ⟨⟨_,_,rfl⟩,Same.upd hn,_,Aa,ag _⟩ (λi σ H' _ q=>q.2.1.seqL ql) ?_ ?_
  .rintro i x y T σ H1 hxy hT ⟨⟨v2,v3,rfl⟩,S1,kvs,e1,le⟩
   have hi':=Ak hxy
   have hi':=hi'
   rw[Bu,ae] at hi'
   obtain⟨⟨r,b⟩,hi⟩:∃z,ds[i]?=some z:=⟨_,ai hi'⟩
   rw[C4 (k:=0) (xs:=ds.map λx=>V.ref x.2) (i:=i) (x:=.ref b) (by rw[ak,hi];rfl)] at hxy
   obtain⟨rfl,rfl⟩:V.int ((0+i:Nat):Int)=x/\V.ref b=y:=by simpa using hxy
   have ST:=Same.upd (o:=.tup [.int ((0+i:Nat):Int),.ref b]) hT
   refine⟨_,.inl (SqT.of Aa),rfl,?_⟩
   generalize upd H1 T (.tup [.int ((0+i:Nat):Int),.ref b])=H2 at ST ⊢
   have S2:=S1.trans ST
   exact⟨_,DPut.t (ST _ _ e1) (bj5 (S2 _ _ (hd _ (aj hi)).2)) (bb (show kvs.length<=256 by rw[<- ed,ae] at hl;omega) (by decide)),⟨_,_,rfl⟩,S2.set hn,_,Aa,aU (Dg _ _ _) (cD le)⟩
  .rintro σ H1 ⟨⟨v2,v3,rfl⟩,S1,kvs,e1,_⟩
   exact .inl (k H1 n S1 ⟨kvs,hn,e1⟩)
def ca2(ha:H aa=some (Eu a))(hp:H p=some (.tup [.str z]))(hl:a.length<=100)(k:∀q H',Same H H'->H' q=some (Eu (a++[z]))->(H q=none\/q=p)->Q (.ref q) H'):Ba K (.ref aa) (.ref p) H Q:=by
 cases a with
 |nil=>exact .inr (.inr ⟨aa,p,_,rfl,rfl,SqT.of ha,SqT.of hp,k p H (Same.refl _) hp (.inr rfl)⟩)
 |cons y a=>
  refine .inr (.inl ⟨aa,p,_,_,rfl,rfl,SqT.of ha,SqT.of hp,by simp,?_,(λe=>by cases e),λ_ q hq=>?_⟩)
  .rw[ae]
   exact aU (show(y::a).length+1<=101 by omega) (by decide)
  .refine k q _ (Same.upd hq) ?_ (.inl hq)
   rw[Aa,Eu,aq]
   rfl
def Zg{α:Type}{ok:Addr->Prop}{H:Hp}{f:α->HO}{es:List (α×Addr)}{e:α}{a:Addr}(h:∀x∈es,ok x.2/\H x.2=some (f x.1))(h1:ok a)(h2:H a=some (f e)):∀x∈es++[(e,a)],ok x.2/\H x.2=some (f x.1):=by
 intro x hx
 rcases List.mem_append.mp hx with hx|hx
 .exact h x hx
 .have:x=(e,a):=by simpa using hx
  subst this
  exact⟨h1,h2⟩
def a02{α:Type}{ok:Addr->Prop}{H H':Hp}{f:α->HO}{es:List (α×Addr)}(S:Same H H')(h:∀x∈es,ok x.2/\H x.2=some (f x.1)):∀x∈es,ok x.2/\H' x.2=some (f x.1):=λx hx=>⟨(h x hx).1,S _ _ (h x hx).2⟩
def ab6{rows:List (List Str)}{j:Nat}{r:List Str}{x:Str×List Str}(h:rows[j]?=some r):Er (rows.take (j+1)) x=Er (rows.take j) x++x.2.map λz=>r++[z]:=by
 unfold Er
 rw[aJ,h,dZ,List.flatMap_append]
 simp
def Vj{E:EK}{H0 H:Hp}{aa ta:Addr}{a:List Str}{l:List Str}{σ:St}{R:Hp->Addr->Prop}(hσ:∃v,σ=[v,some (.ref aa)])(S0:Same H0 H)(ha:H aa=some (Eu a))(ht:H ta=some (Eu l))(hl:a.length<=100)(hl2:l.length<=8)(k:∀D H',Same H H'->H D=none -> ∀fs:List (List Str×Addr),fs.map (·.1)=l.map (λz=>a++[z])->H' D=some (.lst (fs.map λx=>.ref x.2))->(∀x∈fs,H0 x.2=none/\H' x.2=some (Eu x.1))->R H' D) :
  ∀D,H D=none->Ez (Itt K ta) (gdN 0) Cg (Ah (Ba K) (Ab 1) (Dn (Ac (Ab 0) Ag))) D (λH'=>R H' D) σ (upd H D (.lst [])) E:=by
 intro D hD
 refine Cu (aw8 (l.map V.str)) (λm σ H'=>(∃v,σ=[v,some (.ref aa)])/\Same H H'/\∃fs:List (List Str×Addr),fs.map (·.1)=(l.take m).map (λz=>a++[z])/\H' D=some (.lst (fs.map λx=>.ref x.2))/\∀x∈fs,H0 x.2=none/\H' x.2=some (Eu x.1))
  ⟨hσ,Same.upd hD,[],rfl,Aa,λx hx=>by cases hx⟩ (λm σ H' _ q=>q.2.1.seqT (SqT.of ht)) ?_ ?_
 .rintro m x σ H1 hx ⟨⟨v,rfl⟩,S1,fs,ef,eD,hf⟩
  obtain⟨z,hz,rfl⟩:=Am hx
  refine⟨(show 1<=sizeLine by decide),λp hp=>?_⟩
  have Sp:=Same.upd (o:=.tup [.str z]) hp
  have ep:upd H1 p (.tup [.str z]) p=some (.tup [.str z]):=Aa
  generalize upd H1 p (.tup [.str z])=H2 at Sp ep ⊢
  refine ca2 (Sp _ _ (S1 _ _ ha)) ep hl λq H3 S3 eq nq=>?_
  have S03:=S0.trans (S1.trans (Sp.trans S3))
  have hq0:H0 q=none:=by
   rcases nq with nq|rfl
   .exact (S0.trans (S1.trans Sp)).free nq
   .exact (S0.trans S1).free hp
  have qD:q≠D:=by
   rcases nq with nq|rfl
   .exact (Ai (Sp _ _ eD) nq).symm
   .exact (Ai eD hp).symm
  have eD3:=S3 _ _ (Sp _ _ eD)
  refine⟨_,eD3,?_,⟨_,rfl⟩,(S1.trans (Sp.trans S3)).set hD,fs++[(a++[z],q)],?_,?_,?_⟩
  .rw[ae]
   have:=congrArg cE ef
   rw[ae,ae,aM] at this
   exact bb (show fs.length<=8 by omega) (by decide)
  .rw[aq,ef,B0 hz];rfl
  .rw[Aa,aq];rfl
  .have hf3:=Zg (ok:=λa=>H0 a=none) (a02 (ok:=λa=>H0 a=none) (Sp.trans S3) hf) hq0 eq
   intro x hx
   refine⟨(hf3 x hx).1,?_⟩
   rw[Ad (λe=>by have:=(hf3 x hx).2;rw[e,eD3] at this;cases this)]
   exact(hf3 x hx).2
 .rintro σ H1 ⟨_,S1,fs,ef,eD,hf⟩
  rw[ae,aA] at ef
  exact k D H1 S1 hD fs ef eD hf
def bz7(Z:An K t):OkD K be1 (Av K t) bl (t.f 28) (t.d 28) (as5 K t):=by
 refine A5 (cd0 K t) λvs H Q E h=>?_
 .obtain⟨d,sw,rfl,⟨ds,ed,⟨_,od⟩,hd⟩,hw,k⟩:=h;refine⟨rfl,?_⟩
  refine⟨(show 0<=sizeLine by decide),λt0 h0=>⟨(show 1<=sizeLine by decide),λl0 hl0=>?_⟩⟩
  have St:=Same.upd (o:=.tup []) h0
  have Sl:=Same.upd (o:=.lst [.ref t0]) hl0
  have ft:=h0
  have fl:=St.free hl0
  have et:=Sl _ _ Aa
  have el:upd (upd H t0 (.tup [])) l0 (.lst [.ref t0]) l0=some (.lst [.ref t0]):=Aa
  have S0:=St.trans Sl
  generalize upd (upd H t0 (.tup [])) l0 (.lst [.ref t0])=H0 at S0 et el ⊢
  have od0:=S0 _ _ od
  refine .inr (.inr (.inl (.inl ⟨_,od0,λo=>?_⟩)))
  have len:ds.length=sw.length:=by rw[<- ed];simp
  have kf:Kp (fresh H) H0 (fresh H) (upd H0 d (.frz o (.dK (ds.map kR)))):=Kp.off (Gi od)
  have ef:upd H0 d (.frz o (.dK (ds.map kR))) d=some (.frz o (.dK (ds.map kR))):=Aa
  have ht0:∀x∈ds,upd H0 d (.frz o (.dK (ds.map kR))) x.2=some (Eu x.1.2):=λx hx=>by
   rw[Ad (λe=>by have:=(hd x hx).2;rw[e,od] at this;cases this)]
   exact S0 _ _ (hd x hx).2
  have T0:TupsAt (fresh H) (upd H0 d (.frz o (.dK (ds.map kR)))) l0 (Aj (sw.take 0)):=⟨[([],t0)],rfl,kf _ _ ⟨fl,el⟩,λx hx=>by
   have:x=([],t0):=by simpa using hx
   subst this
   exact kf _ _ ⟨ft,et⟩⟩
  have frees:∀{H':Hp}{b:Addr},Same (upd H0 d (.frz o (.dK (ds.map kR)))) H'->H' b=none->H b=none:=λ{H' b} S e=>by
   have e1:=S.free e
   have nb:b≠d:=λz=>by rw[z,ef] at e1;cases e1
   rw[Ad nb] at e1
   exact S0.free e1
  generalize hHf:upd H0 d (.frz o (.dK (ds.map kR)))=Hf at kf ef ht0 T0 frees ⊢
  refine A3 (Dc (ds.map kR)) (λi σ H'=>(∃l v2 v3 v4,σ=[some (.ref d),some (.ref l),v2,v3,v4]/\TupsAt (fresh H) H' l (Aj (sw.take i)))/\Same Hf H') ⟨⟨_,_,_,_,rfl,T0⟩,Same.refl _⟩ (λi σ H' _ q=>q.2 _ _ ef) ?_ ?_
  .rintro i x σ H1 hx ⟨⟨l,v2,v3,v4,rfl,⟨es,ee,⟨fl1,el1⟩,he⟩⟩,S1⟩
   obtain⟨kv,hi0,rfl⟩:=Am hx
   obtain⟨⟨e,ta⟩,hi,rfl⟩:=Am hi0
   have hi2:sw[i]?=some e:=by rw[<- ed,ak,hi];rfl
   have hta:=ht0 _ (aj hi)
   have hoke:=hw.sets e (aj hi2)
   have hv:=Bm (E2 ed hw.2.2.1) hi0
   refine⟨by decide,λl2 hl2=>.inl ⟨⟨_,(Same.upd hl2).seqL (SqL.of el1)⟩,?_⟩⟩
   have f2:=frees S1 hl2
   have Sl2:=Same.upd (o:=.lst []) hl2
   have rl:∀r∈Aj (sw.take i),r.length<=100:=λr hr=>by
    have h1:=(Ih (sw:=sw.take i) (λx hx=>hw.sets x (eG hx))).2.1 r hr
    rw[h1,aM]
    have:=hw.2.1
    omega
   have lenr:es.length=(Aj (sw.take i)).length:=by rw[<- ee];simp
   have few:(Aj (sw.take i)).length<=256:=by rw[Ie];exact aU (aa1 hw i) hw.2.2.2.2
   refine A3 (Ay (es.map λx=>V.ref x.2)) (λj σ H'=>(∃v4,σ=[some (.ref d),some (.ref l),some (.str e.1),some (.ref l2),v4])/\Same H1 H'/\∃fs:List (List Str×Addr),fs.map (·.1)=Er ((Aj (sw.take i)).take j) e /\
     H' l2=some (.lst (fs.map λx=>.ref x.2))/\∀x∈fs,H x.2=none/\H' x.2=some (Eu x.1))
    ⟨⟨_,rfl⟩,Sl2,[],rfl,Aa,λx hx=>by cases hx⟩ (λj σ H' _ q=>q.2.1.seqL (SqL.of el1)) ?_ ?_
   .rintro j y σ H2 hy ⟨⟨v4,rfl⟩,S2,fs,efs,e2l,hf⟩
    obtain⟨⟨r,ra⟩,hj,rfl⟩:=Am hy
    have hj2:(Aj (sw.take i))[j]?=some r:=by rw[<- ee,ak,hj];rfl
    obtain⟨_,hra⟩:=he _ (aj hj)
    have S12:=S1.trans S2
    refine⟨.inl ⟨rfl,_,SqL.of e2l⟩,.ref ta,.inl ⟨_,.inr e.1,.inr ⟨o,S12 _ _ ef⟩,rfl,hv.symm⟩,.inr (.inl ⟨⟨_,SqT.of (S12 _ _ hta)⟩,?_⟩)⟩
    refine Vj (H0:=H1) ⟨_,rfl⟩ S2 (S2 _ _ hra) (S12 _ _ hta) (rl r (aj hj2)) (aU hoke.2.2 (by decide)) λD H3 S3 hD gs eg eD hg=>?_
    have e3l:=S3 _ _ e2l
    have lfs:fs.length<=1024:=by
     have:=congrArg cE efs
     rw[ae,Pb,aM] at this
     have h4:=hoke.2.2
     have:min j (Aj (sw.take i)).length*e.2.length<=256*4:=Nat.mul_le_mul (by omega) h4
     omega
    have lgs:gs.length<=4:=by
     have h1:gs.length=e.2.length:=by simpa using congrArg cE eg
     have h2:e.2.length<=4:=hoke.2.2
     omega
    refine⟨l2,D,_,_,rfl,rfl,e3l,eD,?_,⟨_,rfl⟩,(S2.trans S3).set hl2,fs++gs,?_,?_,?_⟩
    .rw[ae,ae]
     exact aU (show fs.length+gs.length<=1028 by omega) (by decide)
    .rw[aq,efs,eg,ab6 hj2]
    .rw[Aa,aq]
    .have h3:∀x∈fs++gs,H x.2=none/\H3 x.2=some (Eu x.1):=λx hx=>by
      rcases List.mem_append.mp hx with hx|hx
      .exact⟨(hf x hx).1,S3 _ _ (hf x hx).2⟩
      .exact⟨frees S1 (hg x hx).1,(hg x hx).2⟩
     intro x hx
     refine⟨(h3 x hx).1,?_⟩
     rw[Ad (λe=>by have:=(h3 x hx).2;rw[e,e3l] at this;cases this)]
     exact(h3 x hx).2
   .rintro σ H2 ⟨⟨v4,rfl⟩,S2,fs,efs,e2l,hf⟩
    rw[ae,lenr,aA] at efs
    refine .inl ⟨⟨_,_,_,_,rfl,fs,?_,⟨f2,e2l⟩,hf⟩,S1.trans S2⟩
    rw[efs]
    exact(Cn hi2 _ _).symm
  .rintro σ H1 ⟨⟨l,v2,v3,v4,rfl,T1⟩,S1⟩
   rw[ae,ae,len,aA] at T1
   refine .inr ⟨d,o,_,od0,S1 _ _ ef,?_⟩
   exact k _ l (S0.trans (Same.thaw od0 (hHf▸S1))) (T1.mono (Kp.off (Gi od)))
def Off(d:Addr)(H H':Hp):Prop:=∀b u,b≠d->H b=some u->H' b=some u
def Off.up{d:Addr}{H H1 H2:Hp}(h:Off d H H1)(S:Same H1 H2):Off d H H2:=λb u n e=>S _ _ (h b u n e)
def Off.set{d a:Addr}{o:HO}{H H1:Hp}(h:Off d H H1)(e:H a=none):Off d H (upd H1 a o):=λb u n q=>by rw[Ad (Ai q e)];exact h b u n q
def Off.free{d b:Addr}{H H1:Hp}(h:Off d H H1)(n:b≠d)(e:H1 b=none):H b=none:=by
 cases q:H b with
 |none=>rfl
 |some u=>rw[h b u n q] at e;cases e
def Off.thaw{d:Addr}{kvs:List (Key×V)}{H H1:Hp}(h:Off d H H1)(e:H d=some (.dK kvs)):Same H (upd H1 d (.dK kvs)):=λb u q=>by
 by_cases n:b=d
 .subst n;rw[Aa,<- e,q]
 .rw[Ad n];exact h b u n q
theorem Oq(p:Nat)(z:Str):∀a r k,Dz p z k (a++[r])=Dz p z k a++(if r[p]?=some z then [k+a.length] else [])
 | [],r,k=>by
  rw[List.nil_append,Dz,Dz,Dz,List.nil_append]
  rfl
 | b::a,r,k=>by
  rw[gI,Dz,Dz,Oq p z a r (k+1),aK,show k+1+a.length=k+(a.length+1) by omega]
  split <;> simp
theorem P5(p:Nat)(z:Str):∀a k n,n∈Dz p z k a->n<k+a.length
 |[],k,n,h=>by cases h
 | b::a,k,n,h=>by
  rw[Dz] at h
  rw[aK]
  split at h
  .rcases List.mem_cons.mp h with h|h
   .omega
   .have:=P5 p z a (k+1) n h;omega
  .have:=P5 p z a (k+1) n h;omega
theorem Lu(p:Nat)(z:Str):∀a k,(Dz p z k a).length<=a.length
 |[],k=>ag _
 | b::a,k=>by
  rw[Dz,aK]
  split
  .rw[aK];have:=Lu p z a (k+1);omega
  .have:=Lu p z a (k+1);omega
def P0{α:Type}{ds:List (α×Addr)}{i:Nat}{x y:V}(h:(Ei 0 (ds.map λx=>V.ref x.2))[i]?=some (x,y)):∃z,ds[i]?=some z/\x=.int (i:Int)/\y=.ref z.2:=by
 have hi:=Ak h
 rw[Bu,ae] at hi
 refine⟨_,ai hi,?_⟩
 have:=C4 (k:=0) (xs:=ds.map λx=>V.ref x.2) (by rw[ak,ai hi];rfl)
 rw[this,dn] at h
 obtain⟨rfl,rfl⟩:V.int (i:Int)=x/\V.ref ds[i].2=y:=by simpa using h
 exact⟨rfl,rfl⟩
def bh2{E:EK}{H:Hp}{l:Addr}{ds:List (List Str×Addr)}{rows:List (List Str)}{i:Nat}{z:Str}{R:Hp->Addr->Prop}(ed:ds.map (·.1)=rows)(ol:H l=some (.lst (ds.map λx=>.ref x.2)))(hd:∀x∈ds,H x.2=some (Eu x.1))(hr:∀r∈rows,i<r.length)(few:rows.length<=256)(k:∀D H',Same H H'->H D=none->H' D=some (.lst ((Dz i z 0 rows).map λn:Nat=>V.int (n:Int)))->R H' D) :
  ∀D,H D=none->Ez (Ite K l) (gdT K 2 [gdN 0,gdN 1]) (Bb (Ah (Bw K false) (Ah (Aw K) (Ab 1) (Ab 2)) (Ab 3))) (Ab 0) D (λH'=>R H' D) [none,none,some (.int (i:Int)),some (.str z)] (upd H D (.lst [])) E:=by
 intro D hD
 have len:(Ei 0 (ds.map λx=>V.ref x.2)).length=rows.length:=by rw[Bu,<- ed];simp
 refine Pr (Gm (ds.map λx=>V.ref x.2)) (λm σ H'=>(∃v0 v1,σ=[v0,v1,some (.int (i:Int)),some (.str z)])/\Same H H'/\H' D=some (.lst ((Dz i z 0 (rows.take m)).map λn:Nat=>V.int (n:Int))))
  ⟨⟨_,_,rfl⟩,Same.upd hD,Aa⟩ (λm σ H' _ q=>q.2.1.seqL (SqL.of ol)) ?_ ?_
 .rintro m x y T σ H1 hxy hT ⟨⟨v0,v1,rfl⟩,S1,eD⟩
  obtain⟨⟨r,b⟩,hm,rfl,rfl⟩:=P0 hxy
  have hm2:rows[m]?=some r:=by rw[<- ed,ak,hm];rfl
  have hb:=hd _ (aj hm)
  have hi:=hr r (aj hm2)
  have ST:=Same.upd (o:=.tup [.int (m:Int),.ref b]) hT
  refine⟨_,.inl (SqT.of Aa),rfl,?_⟩
  generalize upd H1 T (.tup [.int (m:Int),.ref b])=H2 at ST ⊢
  have S2:=S1.trans ST
  have eD2:=ST _ _ eD
  have mm:=Nat.min_eq_left (fW (Ak hm2))
  have he:Dz i z 0 (rows.take (m+1))=Dz i z 0 (rows.take m)++(if r[i]?=some z then [m] else []):=by
   rw[aJ,hm2,dZ,Oq,aM,mm,dn]
  refine⟨_,_,.inr (SqT.of (S2 _ _ hb)),Cc (by rw[ak,ai hi];rfl),?_⟩
  rw[ai hi] at he
  refine Kf (λe=>?_) (λe=>?_)
  .have e:r[i]=z:=by simpa using e
   rw[if_pos (by rw[e])] at he
   refine⟨_,eD2,?_,⟨_,_,rfl⟩,S2.set hD,?_⟩
   .rw[ae]
    have h1:=Lu i z (rows.take m) 0
    rw[aM] at h1
    exact bb (show(Dz i z 0 (rows.take m)).length<=256 by omega) (by decide)
   .rw[Aa,he,aq];rfl
  .have e:¬ r[i]=z:=by simpa using e
   rw[if_neg (by simpa using e),b7] at he
   exact⟨⟨_,_,rfl⟩,S2,by rw[he];exact eD2⟩
 .rintro σ H1 ⟨_,S1,eD⟩
  rw[len,aA] at eD
  exact k D H1 S1 hD eD
def ab2{rows:List (List Str)}{i m:Nat}{l:List Str}{z:Str}(hz:l[m]?=some z)(nd:l.Nodup) :
  Cj ((l.take m).map λz=>((.inr z:Key),V.int (Em rows i z))) (.inr z) (.int (Em rows i z))=(l.take (m+1)).map λz=>((.inr z:Key),V.int (Em rows i z)):=by
 rw[Fx,B0 hz]
 refine Ce ?_
 rw[aB]
 intro hm
 obtain⟨y,hy,e⟩:=List.mem_map.mp hm
 have e:y=z:=by injection e
 subst e
 exact Et nd hz hy
def b03(Z:An K t):OkD K be3 (Av K t) bl (t.f 31) (t.d 31) (at1 K t):=by
 refine A5 (cd6 K t) λvs H Q E h=>?_
 .obtain⟨d,l,sw,rfl,⟨ds,ed,⟨_,od⟩,hd⟩,⟨ts,et,⟨_,ol⟩,htp⟩,hw,k⟩:=h;refine⟨rfl,?_⟩
  intro s hs
  have nds:=Ai od hs
  have nld:l≠d:=λe=>by rw[e,od] at ol;cases ol
  have od1:upd H s (.dK []) d=some (.dK (ds.map kR)):=by rw[Ad nds];exact od
  refine .inl (.inr (.inl ⟨_,od1,λo=>?_⟩))
  have O0:Off d H (upd (upd H s (.dK [])) d (.frz o (.dK (ds.map kR)))):=λb u n e=>by rw[Ad n,Ad (Ai e hs)];exact e
  have ef:upd (upd H s (.dK [])) d (.frz o (.dK (ds.map kR))) d=some (.frz o (.dK (ds.map kR))):=Aa
  have es0:upd (upd H s (.dK [])) d (.frz o (.dK (ds.map kR))) s=some (.dK []):=by rw[Ad (cg nds),Aa]
  have len:(Ei 0 ((ds.map kR).map λkv=>kV kv.1)).length=sw.length:=by rw[Bu,<- ed];simp
  have few:=hw.len
  have rlen:=(Ih hw.sets).2.1
  generalize upd (upd H s (.dK [])) d (.frz o (.dK (ds.map kR)))=H0 at O0 ef es0 ⊢
  refine Kw (aw6 (ds.map kR)) (λi σ H'=>(∃v3 v4 v5 v6,σ=[some (.ref d),some (.ref l),some (.ref s),v3,v4,v5,v6])/\Off d H H'/\H' d=some (.frz o (.dK (ds.map kR))) /\
    ∃es:List ((Str×List Str)×Addr),es.map (·.1)=sw.take i/\H' s=some (.dK (es.map kR))/\∀j x,es[j]?=some x->H x.2=none/\H' x.2=some (V8 (Aj sw) j x.1.2))
   ⟨⟨_,_,_,_,rfl⟩,O0,ef,[],rfl,es0,λj x hx=>by simp at hx⟩ (λi σ H' _ q=>q.2.2.1) ?_ ?_
  .rintro i x y T σ H1 hxy hT ⟨⟨v3,v4,v5,v6,rfl⟩,O1,f1,es,ee,e1s,he⟩
   have hi':=Ak hxy
   rw[len] at hi'
   have hids:i<ds.length:=by rw[<- ed,ae] at hi';exact hi'
   obtain⟨⟨e,ta⟩,hi⟩:∃z,ds[i]?=some z:=⟨_,ai hids⟩
   have hxy2:=C4 (k:=0) (xs:=(ds.map kR).map λkv=>kV kv.1) (x:=.str e.1) (by rw[ak,ak,hi];rfl)
   rw[hxy2,dn] at hxy
   obtain⟨rfl,rfl⟩:V.int (i:Int)=x/\V.str e.1=y:=by simpa using hxy
   have hi2:sw[i]?=some e:=by rw[<- ed,ak,hi];rfl
   have hta:=(hd _ (aj hi)).2
   have nta:ta≠d:=λz=>by rw[z,od] at hta;cases hta
   have hoke:=hw.sets e (aj hi2)
   have hv:=Bm (E2 ed hw.2.2.1) (by rw[ak,hi];rfl)
   have nk:=Qh ee hi2 hw.2.2.1
   have les:es.length=i:=by
    have:=congrArg cE ee
    rw[ae,aM] at this
    omega
   have ST:=Same.upd (o:=.tup [.int (i:Int),.str e.1]) hT
   refine⟨_,.inl (SqT.of Aa),rfl,?_⟩
   show Ae _ _ _ [some (.ref d),some (.ref l),some (.ref s),some (.int (i:Int)),some (.str e.1),v5,v6] (upd H1 T (.tup [.int (i:Int),.str e.1]))
   generalize upd H1 T (.tup [.int (i:Int),.str e.1])=H2 at ST ⊢
   have O2:=O1.up ST
   have f2:=ST _ _ f1
   have e2s:=ST _ _ e1s
   intro q hq
   have nqd:q≠d:=(Ai f2 hq).symm
   have nqs:q≠s:=(Ai e2s hq).symm
   have fq:H q=none:=O2.free nqd hq
   have Sq:=Same.upd (o:=.dK []) hq
   have eq:upd H2 q (.dK []) q=some (.dK []):=Aa
   refine .inl ?_
   show C1 K (Ab 2) (Ab 4) (.ref q) [some (.ref d),some (.ref l),some (.ref s),some (.int (i:Int)),some (.str e.1),v5,v6] (upd H2 q (.dK [])) _
   generalize upd H2 q (.dK [])=H3 at Sq eq ⊢
   refine⟨_,DPut.k (k:=.inr e.1) (Sq _ _ e2s) ?_,?_⟩
   .rw[ae]
    have:=hw.2.1
    exact bb (show es.length<=5 by omega) (by decide)
   rw[K4 nk]
   have O4:Off d H (upd H3 s (.dK ((es++[(e,q)]).map kR))):=(O2.up Sq).set hs
   have f4:upd H3 s (.dK ((es++[(e,q)]).map kR)) d=some (.frz o (.dK (ds.map kR))):=by rw[Ad nds];exact Sq _ _ f2
   have e4s:upd H3 s (.dK ((es++[(e,q)]).map kR)) s=some (.dK ((es++[(e,q)]).map kR)):=Aa
   have e4q:upd H3 s (.dK ((es++[(e,q)]).map kR)) q=some (V8 (Aj sw) i (e.2.take 0)):=by rw[Ad nqs];exact eq
   have he4:∀j x,es[j]?=some x->H x.2=none/\upd H3 s (.dK ((es++[(e,q)]).map kR)) x.2=some (V8 (Aj sw) j x.1.2)/\x.2≠q/\x.2≠s:=λj x hx=>by
    obtain⟨a1,a2⟩:=he j x hx
    have b1:=Ai (ST _ _ a2) hq
    have b2:x.2≠s:=λz=>by
     rw[z,e1s] at a2
     unfold V8 at a2
     have a3:es.map kR=x.1.2.map λz=>((.inr z:Key),V.int (Em (Aj sw) j z)):=by injection (az a2)
     have m1:kR x∈es.map kR:=bA (aj hx)
     rw[a3] at m1
     obtain⟨y,_,hy⟩:=List.mem_map.mp m1
     injection hy with _ hy
     cases hy
    refine⟨a1,?_,b1,b2⟩
    rw[Ad b2];exact Sq _ _ (ST _ _ a2)
   generalize upd H3 s (.dK ((es++[(e,q)]).map kR))=H4 at O4 f4 e4s e4q he4 ⊢
   have nd4:(((es++[(e,q)]).map kR).map (·.1)).Nodup:=E2 (Hm ee hi2) (by rw[jC];exact hw.2.2.1.sublist (eU _ _))
   have hq4:Bf ((es++[(e,q)]).map kR) (.inr e.1)=some (.ref q):=Bm (i:=es.length) nd4 (by rw[ak,bi (ag _),gQ];rfl)
   refine⟨.ref ta,.inl ⟨_,.inr e.1,.inr ⟨o,f4⟩,rfl,hv.symm⟩,.inr (.inl ⟨⟨_,SqT.of (O4 _ _ nta hta)⟩,?_⟩)⟩
   refine A3 (aw8 (e.2.map V.str)) (λm σ H'=>(∃v5 v6,σ=[some (.ref d),some (.ref l),some (.ref s),some (.int (i:Int)),some (.str e.1),v5,v6])/\Off d H H'/\H' d=some (.frz o (.dK (ds.map kR)))/\H' s=some (.dK ((es++[(e,q)]).map kR)) /\
     H' q=some (V8 (Aj sw) i (e.2.take m))/\∀j x,es[j]?=some x->H' x.2=some (V8 (Aj sw) j x.1.2))
    ⟨⟨_,_,rfl⟩,O4,f4,e4s,e4q,λj x hx=>(he4 j x hx).2.1⟩ (λm σ H' _ q=>SqT.of (q.2.1 _ _ nta hta)) ?_ ?_
   .rintro m x σ H5 hx ⟨⟨v5,v6,rfl⟩,O5,f5,e5s,e5q,he5⟩
    obtain⟨z,hz,rfl⟩:=Am hx
    refine .inl ⟨⟨_,SqL.of (O5 _ _ nld ol)⟩,?_⟩
    refine bh2 et (O5 _ _ nld ol) (λx hx=>O5 _ _ (λe=>by have:=(htp x hx).2;rw[e,od] at this;cases this) (htp x hx).2) (λr hr=>by rw[rlen r hr];exact hi') few λD H6 S6 hD eD=>?_
    refine⟨D,_,rfl,SqL.of eD,(λn hn=>?_),?_⟩
    .have:=P5 i z (Aj sw) 0 n hn
     omega
    show C1 K (Ah (Aw K) (Ab 2) (Ab 4)) (Ab 5) (.int (Em (Aj sw) i z)) [some (.ref d),some (.ref l),some (.ref s),some (.int (i:Int)),some (.str e.1),some (.str z),some (.ref D)] H6 _
    refine⟨.ref q,.inl ⟨_,.inr e.1,.inl (S6 _ _ e5s),rfl,hq4.symm⟩,_,DPut.k (k:=.inr z) (S6 _ _ e5q) ?_,?_⟩
    .rw[ae,aM]
     have:=hoke.2.2
     exact bb (show min m e.2.length<=4 by omega) (by decide)
    rw[ab2 hz hoke.1.2.1]
    refine⟨⟨_,_,rfl⟩,(O5.up S6).set fq,?_,?_,Aa,λj x hx=>?_⟩
    .rw[Ad (cg nqd)];exact S6 _ _ f5
    .rw[Ad (cg nqs)];exact S6 _ _ e5s
    .rw[Ad (he4 j x hx).2.2.1];exact S6 _ _ (he5 j x hx)
   .rintro σ H5 ⟨⟨v5,v6,rfl⟩,O5,f5,e5s,e5q,he5⟩
    rw[ae,aA] at e5q
    refine .inl ⟨⟨_,_,_,_,rfl⟩,O5,f5,es++[(e,q)],Hm ee hi2,e5s,λj x hx=>?_⟩
    by_cases hj:j<es.length
    .rw[bq hj] at hx
     exact⟨(he4 j x hx).1,he5 j x hx⟩
    .have hj2:=Ak hx
     rw[aI] at hj2
     have hj3:j=es.length:=by have:[(e,q)].length=1:=rfl;omega
     subst hj3
     rw[bi (ag _),gQ] at hx
     have:(e,q)=x:=by simpa using hx
     subst this
     rw[les]
     exact⟨fq,e5q⟩
  .rintro σ H1 ⟨⟨v3,v4,v5,v6,rfl⟩,O1,f1,es,ee,e1s,he⟩
   rw[len,aA] at ee
   refine .inr ⟨d,o,_,od1,f1,?_⟩
   refine k _ s (O1.thaw od) ⟨es,ee,⟨hs,?_⟩,λj x hx=>⟨(he j x hx).1,?_⟩⟩
   .rw[Ad (cg nds)];exact e1s
   .rw[Ad (λz=>by have:=(he j x hx).1;rw[z,od] at this;cases this)];exact(he j x hx).2
def Ge(l:List Str):(l.map V.str).all Br=true:=by rw[ip,bj];exact λ_ _=>rfl
def Mi(h:sw[i]?=some x)(nd:(sw.map (·.1)).Nodup):G0 sw x.1=i:=by
 have hi:=Ak h
 have ex:sw[i]=x:=by rw[ai hi] at h;exact az h
 unfold G0
 rw[List.findIdx_eq hi]
 refine⟨by rw[ex];simp,λj hj=>?_⟩
 have hj2:j<sw.length:=by omega
 refine decide_eq_false λe=>?_
 have:=(dA (h₀:=by rw[ae];exact hj2) (h₁:=by rw[ae];exact hi) nd).mp (by rw[cV,cV,e,ex])
 omega
def Uj{rows:List (List Str)}{i:Nat}{l:List Str}{z:Str}(nd:l.Nodup)(h:z∈l):Bf (l.map λz=>((.inr z:Key),V.int (Em rows i z))) (.inr z)=some (.int (Em rows i z)):=by
 obtain⟨j,hj,e⟩:=List.mem_iff_getElem.mp h
 refine Bm (i:=j) ?_ ?_
 .rw[aB];exact Gh nd
 .rw[ak,ai hj,e];rfl
def bk3(Z:An K t):OkD K Xh (Av K t) bl (t.m_zbz 6) (t.e_zbz 6) (Wh K t):=by
 refine A5 (b57 K t) λvs H Q E h=>?_
 .obtain⟨p,a,l,s,wd,ss,sw,rfl,⟨dx,fs,⟨_,hp⟩,hl,hs,hm⟩,⟨ds,ed,⟨_,os⟩,hd⟩,hw,ha,⟨ne,hL,x,hx,ex,hin⟩,k⟩:=h;refine⟨rfl,?_⟩
  have ex:=ex
  have ne:=ne
  have hL:=hL
  have hin:=hin
  subst ex
  obtain⟨i,hi2⟩:=List.mem_iff_getElem?.mp hx
  have hids:i<ds.length:=by have:=Ak hi2;rw[<- ed,ae] at this;exact this
  obtain⟨⟨x',q⟩,hi⟩:∃z,ds[i]?=some z:=⟨_,ai hids⟩
  have:x'=x:=by
   rw[<- ed,ak,hi] at hi2
   exact az hi2
  subst this
  have oq:=(hd i _ hi).2
  have hok:=hw.sets x' hx
  have hv:=Bm (E2 ed hw.2.2.1) (by rw[ak,hi];rfl)
  have pl:=Mi hi2 hw.2.2.1
  have cl:=Z.pf.cl
  have na:NoAttr K t.c_zbz "sets" := Z.pf.na _ (by simp)
  have gq:∀{H'},Same H H'->DGet H' s (.str x'.1) (some (.ref q)):=λS=>.inl ⟨_,.inr x'.1,.inl (S _ _ os),rfl,hv.symm⟩
  refine⟨rfl,?_⟩
  refine fY ⟨_,_,_,_,hp,cl,na,hs,?_⟩
  refine .inr ⟨_,.inl ⟨_,.inr x'.1,.inl os,rfl,hv.symm⟩,?_⟩
  refine⟨a,ss,rfl,SqL.of ha,hL,λH1 S1=>⟨by decide,λe he=>.inl ⟨a,e,_,_,rfl,rfl,(S1.trans (Same.upd he)).seqL (SqL.of ha),SqL.of Aa,Ge ss,rfl,Gs ?_ ?_⟩⟩⟩
  .exact Fm (by rw[ae];intro z;exact ne (List.length_eq_zero_iff.mp z))
  have S2:=S1.trans (Same.upd (o:=.lst []) he)
  generalize upd H1 e (.lst [])=H2 at S2 ⊢
  refine .inl ⟨⟨_,S2.seqL (SqL.of ha)⟩,?_⟩
  refine Rz (σ:=[none,some (.ref p),some (.str x'.1)]) (Ay (ss.map V.str)) (λσ=>∃v,σ=[v,some (.ref p),some (.str x'.1)]) (λH3 S3=>(S2.trans S3).seqL (SqL.of ha)) ?_ ⟨_,rfl⟩ (λσ x ⟨v,e⟩=>⟨some x,by rw[e];rfl⟩) ?_ λD3 H3 S3 q3=>⟨_,q3,?_⟩
  .rw[ae];exact bb hL.2.2 (by decide)
  .rintro y σ H3 Q1 hy ⟨v,rfl⟩ S3 q1
   obtain⟨z,hz,rfl⟩:=List.mem_map.mp hy
   have S:=S2.trans S3
   refine fY ⟨_,_,_,_,(S _ _ hp),cl,na,hs,⟨.ref q,gq S,.inr ⟨_,.inl ⟨_,.inr z,.inl (S _ _ oq),rfl,rfl⟩,?_⟩⟩⟩
   rw[Uj hok.1.2.1 (hin z hz)]
   exact q1 H3 (Same.refl _)
  .rw[Xt]
   have S:=S2.trans S3
   refine .inl ⟨⟨_,S.seqL (SqL.of ha)⟩,λD hD=>?_⟩
   refine Ps (Ay (ss.map V.str)) (λσ=>∃v,σ=[v,some (.ref p),some (.str x'.1)]) (λ_=>true) (λv=>match v with | .str z=>.int (Em (Aj sw) i z)|_=>.non) hD (λH4 S4=>(S.trans S4).seqL (SqL.of ha)) ?_ ⟨_,rfl⟩ ?_ ?_
   .rw[ae];exact bb hL.2.2 (by decide)
   .rintro y σ H4 hy ⟨v,rfl⟩ S4 Fin Skip hF hK
    obtain⟨z,hz,rfl⟩:=List.mem_map.mp hy
    have S5:=S.trans S4
    refine(fY ⟨_,_,_,_,(S5 _ _ hp),cl,na,hs,⟨.ref q,gq S5,.int (Em (Aj sw) i z),.inl ⟨_,.inr z,.inl (S5 _ _ oq),rfl,?_⟩,?_⟩⟩)
    .rw[Uj hok.1.2.1 (hin z hz)]
    .exact hF _ _ _ ⟨_,rfl⟩ (Same.refl _) rfl rfl
   .intro H4 S4 eD
    refine⟨D,ss.map (Em (Aj sw) i),rfl,SqL.of (eD.trans ?_),?_⟩
    .rw[List.filter_eq_self.mpr (λ_ _=>rfl),aB,aB];rfl
    .have:=k H4 (S.trans S4)
     unfold J9 at this
     rw[pl] at this
     exact this
def bl0(Z:An K t):OkD K Xj (Av K t) bl (t.m_zbz 2) (t.e_zbz 2) (Wl K t):=by
 refine A5 (b64 K t) λvs H Q E h=>?_
 .obtain⟨p,r,l,s,sw,rule,rfl,hs,ht,hse,hw,⟨ds,ed,⟨_,od⟩,hd⟩,hr,k⟩:=h;refine⟨rfl,?_⟩
  obtain⟨dx,fs,⟨np,hp⟩,_,_,hm⟩:=id hs
  have len:ds.length=rule.length:=by rw[<- ed];simp
  refine⟨_,true,.of (.dK od),rfl,⟨p,dx,fs,⟨t.c_zbz,bh4 K t⟩,rfl,.head _,hp,hm _ (by decide),⟨aF rfl,aF rfl⟩,p,l,s,sw,rfl,hs.mono Kp.any,ht.mono Kp.any,hw.len,?_⟩⟩
  refine .inr (.inr (.inl (.inl ⟨_,od,λo=>?_⟩)))
  have kf:Kp (· ≠ r) H (· ≠ r) (upd H r (.frz o (.dK (ds.map kR)))):=Kp.off (λe=>e rfl)
  have ef:upd H r (.frz o (.dK (ds.map kR))) r=some (.frz o (.dK (ds.map kR))):=Aa
  have hd2:∀x∈ds,upd H r (.frz o (.dK (ds.map kR))) x.2=some (Bd x.1.2):=λx hx=>by
   rw[Ad (λe=>by have:=(hd x hx).2;rw[e,od] at this;cases this)]
   exact(hd x hx).2
  generalize hHf:upd H r (.frz o (.dK (ds.map kR)))=Hf at kf ef hd2 ⊢
  refine A3 (Dc (ds.map kR)) (λi σ H'=>(∃v3,σ=[some (.ref p),some (.ref r),some (.int ((rule.take i).foldl (λc e=>cA c (J9 sw e)) (Rv sw))),v3])/\Same Hf H') ⟨⟨_,rfl⟩,Same.refl _⟩ (λi σ H' _ q=>q.2 _ _ ef) ?_ ?_
  .rintro i x σ H1 hx ⟨⟨v3,rfl⟩,S1⟩
   obtain⟨kv,hi0,rfl⟩:=Am hx
   obtain⟨⟨e,la⟩,hi,rfl⟩:=Am hi0
   have hi2:rule[i]?=some e:=by rw[<- ed,ak,hi];rfl
   have hv:=Bm (E2 ed hr.1) hi0
   have kn:=(kf.trans (Kp.same S1)).trans Kp.any
   refine⟨p,dx,fs,⟨t.c_zbz,ba6 K t⟩,rfl,.head _,(kn _ _ ⟨np,hp⟩).2,hm _ (by decide),⟨aF rfl,aF rfl⟩,.ref la,.inl ⟨_,.inr e.1,.inr ⟨o,S1 _ _ ef⟩,rfl,hv.symm⟩,?_⟩
   exact⟨p,la,l,s,e.1,e.2,sw,rfl,hs.mono kn,hse.mono kn,hw,S1 _ _ (hd2 _ (aj hi)),hr.2 e (aj hi2),λH2 S2=>⟨⟨_,congrArg (λz=>[some (V.ref p),some (V.ref r),some (V.int z),some (V.str e.1)]) (Cn hi2 (λc e=>cA c (J9 sw e)) (Rv sw)).symm⟩,S1.trans S2⟩⟩
  .rintro σ H1 ⟨⟨v3,rfl⟩,S1⟩
   rw[ae,ae,len,aA]
   exact .inr ⟨r,o,_,od,S1 _ _ ef,k _ (Same.thaw od (hHf▸S1))⟩
def b04(Z:An K t):OkD K ax4 (Av K t) bl (t.m_zbz 4) (t.e_zbz 4) (at3 K t):=by
 refine A5 (cd7 K t) λvs H Q E h=>?_
 .obtain⟨p,r,l,s,sw,rule,rfl,hs,ht,hse,hw,hrl,hr,k⟩:=h;refine⟨rfl,?_⟩
  obtain⟨ds,ed,⟨_,od⟩,hd⟩:=id hrl
  obtain⟨dx,fs,⟨np,hp⟩,_,_,hm⟩:=id hs
  have len:ds.length=rule.length:=by rw[<- ed];simp
  have pos:=List.length_pos_iff.mpr hr.1
  refine⟨_,true,.of (.dK od),rfl,(.inr ⟨_,.inl od,Gs ?_ ?_⟩)⟩
  .refine decide_eq_false λe=>?_
   rw[ae] at e
   omega
  exact⟨p,dx,fs,⟨t.c_zbz,ak3 K t⟩,rfl,.head _,hp,hm _ (by decide),⟨aF rfl,aF rfl⟩,p,r,l,s,sw,rule,rfl,hs,ht,hse,hw,hrl,⟨hr.2.2.1,hr.2.2.2⟩,λH1 S1=>⟨r,rule,rfl,hrl.mono (Kp.same S1),hr.2.2.1,hr.2.1,λH2 c S2 R2=>k H2 c (S1.trans S2) (R2.mono (Kp.fresh S1))⟩⟩
def bz9(Z:An K t):OkD K ax1 (Av K t) bl (t.m_zbz 5) (t.e_zbz 5) (as7 K t):=by
 refine A5 (cd2 K t) λvs H Q E h=>?_
 .obtain⟨p,l,s,ok,v,sw,ζ,rfl,hs,ht,hse,hw,hv,hr,h8,k⟩:=h;refine⟨rfl,?_⟩
  rcases hv with⟨rfl,rfl⟩|⟨kk,rfl,ds,ed,⟨nk,ok1⟩,hd⟩
  .refine⟨by decide,λq hq=>k _ q (Same.upd hq) ⟨[],rfl,⟨hq,Aa⟩,λx hx=>by cases hx⟩⟩
  .obtain⟨dx,fs,⟨op,hp⟩,_,_,hm⟩:=id hs
   have len:(ds.map λx=>V.ref x.2).length=ζ.length:=by rw[<- ed];simp
   refine⟨_,true,.sqL rfl (SqL.of ok1) rfl,rfl,(.inl ⟨_,.inl (SqL.of ok1),Gs ?_ ?_⟩)⟩
   .refine decide_eq_false λe=>?_
    rw[len] at e
    omega
   refine .inl ⟨⟨_,SqL.of ok1⟩,λD hD=>?_⟩
   refine Cu (Ay (ds.map λx=>V.ref x.2)) (λm σ H'=>(∃v,σ=[v,some (.ref p)])/\Same H H'/\∃fs:List (Sw×Addr),fs.map (·.1)=ζ.take m/\H' D=some (.lst (fs.map λx=>.ref x.2))/\∀x∈fs,RuleAt (λa=>H a=none/\a≠D) H' x.2 x.1)
    ⟨⟨_,rfl⟩,Same.upd hD,[],rfl,Aa,λx hx=>by cases hx⟩ (λm σ H' _ q=>q.2.1.seqL (SqL.of ok1)) ?_ ?_
   .rintro m x σ H1 hx ⟨⟨v,rfl⟩,S1,gs,eg,eD,hg⟩
    obtain⟨⟨rule,r⟩,hm2,rfl⟩:=Am hx
    have hm3:ζ[m]?=some rule:=by rw[<- ed,ak,hm2];rfl
    have hrl:=hd _ (aj hm2)
    have nr:¬ ok r:=by obtain⟨_,_,o,_⟩:=hrl;exact o.1
    have kw:Kp ok H (· ≠ r) H1:=(Kp.same S1).trans (Kp.weak λa h e=>nr (e▸h))
    refine⟨p,dx,fs,⟨t.c_zbz,bx5 K t⟩,rfl,.head _,S1 _ _ hp,hm _ (by decide),⟨aF rfl,aF rfl⟩,p,r,l,s,sw,rule,rfl,hs.mono kw,ht.mono kw,hse.mono kw,hw,hrl.mono ((Kp.same S1).trans Kp.any),hr rule (aj hm3),λH2 c S2 R2=>?_⟩
    have eD2:=S2 _ _ eD
    refine⟨_,eD2,?_,⟨_,rfl⟩,(S1.trans S2).set hD,gs++[(rule,c)],Hm eg hm3,?_,?_⟩
    .rw[ae]
     have:=U7 eg
     exact bb (show gs.length<=8 by omega) (by decide)
    .rw[Aa,aq];rfl
    .have ko:Kp (λa=>H a=none/\a≠D) H2 (λa=>H a=none/\a≠D) (upd H2 D (.lst ((gs.map λx=>V.ref x.2)++[.ref c]))):=Kp.off (λe=>e.2 rfl)
     intro x hx
     rcases List.mem_append.mp hx with hx|hx
     .exact (hg x hx).mono ((Kp.same S2).trans ko)
     .have:x=(rule,c):=by simpa using hx
      subst this
      exact R2.mono ((Kp.weak λa h=>⟨S1.free h,(Ai eD h).symm⟩).trans ko)
   .rintro σ H1 ⟨_,S1,gs,eg,eD,hg⟩
    rw[len,aA] at eg
    exact k H1 D S1 ⟨gs,eg,⟨hD,eD⟩,λx hx=>(hg x hx).mono (Kp.weak λa h=>h.1)⟩
def Gx{f:Str}{p C dx:Addr}{fs fs':List (Str×V)}{y:V}{H:Hp}{N:Hp->Prop}(hp:H p=some (.ins C dx fs))(c:Cls K C)(n:NoAttr K C f)(l:fs.length<1000)(e:E6 f y fs=fs')(k:∀H',(∀b,b≠p->H' b=H b)->H' p=some (.ins C dx fs')->N H'):ar1 K f (.ref p) y H N:=
 .inl ⟨C,dx,fs,hp,c,n,l,k _ (λb hb=>Ad hb) (by rw[Aa,e])⟩
def Kp.but{ok:Addr->Prop}{p:Addr}{H H':Hp}(h:∀b,b≠p->H' b=H b)(n:¬ ok p):Kp ok H ok H':=λa o q=>⟨q.1,by rw[h a (λe=>n (e▸q.1))];exact q.2⟩
def Off.but{p:Addr}{H H1 H2:Hp}(h:Off p H H1)(e:∀b,b≠p->H2 b=H1 b):Off p H H2:=λb u n q=>by rw[e b n];exact h b u n q
def Off.fr{p:Addr}{u:HO}{H H1:Hp}(h:Off p H H1)(e:H1 p=some u):∀b,H1 b=none->H b=none:=λb q=>h.free (λz=>by rw[z,e] at q;cases q) q
structure Pc (ok:Addr->Prop) (H:Hp) (d l n s:Addr) (sw:Sw):Prop where
 sws:SwAt ok H d sw
 tps:TupsAt ok H l (Aj sw)
 nms:NumAt ok H n (Aj sw)
 sts:SetsAt ok H s sw
theorem Pc.mono{ok ok':Addr->Prop}{H H':Hp}{d l n s:Addr}{sw:Sw}(h:Pc ok H d l n s sw)(k:Kp ok H ok' H'):Pc ok' H' d l n s sw:=⟨h.sws.mono k,h.tps.mono k,h.nms.mono k,h.sts.mono k⟩
abbrev fl1(d:Addr):List (Str×V):=[("settings", .ref d)]
abbrev fl2(d l:Addr):List (Str×V):=[("settings", .ref d),("tuples", .ref l)]
abbrev fl3(d l n:Addr):List (Str×V):=[("settings", .ref d),("tuples", .ref l),("numbers", .ref n)]
abbrev fl4(d l n s:Addr):List (Str×V):=[("settings", .ref d),("tuples", .ref l),("numbers", .ref n),("sets", .ref s)]
abbrev fl5(d l n s k:Addr):List (Str×V):=[("settings", .ref d),("tuples", .ref l),("numbers", .ref n),("sets", .ref s),("kept_rules", .ref k)]
abbrev fl6(d l n s k b:Addr):List (Str×V):=[("settings", .ref d),("tuples", .ref l),("numbers", .ref n),("sets", .ref s),("kept_rules", .ref k),("bars", .ref b)]
def Qj{fs:List (Str×V)}(h:fs.lookup ("all_choices" : Str)=none/\fs.lookup ("box" : Str)=none/\fs.lookup ("many" : Str)=none/\fs.lookup ("term" : Str)=none/\fs.lookup ("read_rule" : Str)=none/\fs.lookup ("read_rules" : Str)=none):∀m∈(["all_choices","box","many","term","read_rule","read_rules"]:List Str),fs.lookup m=none:=by
 intro m hm
 simp only[aD,ce,or_false] at hm
 rcases hm with rfl|rfl|rfl|rfl|rfl|rfl
 .exact h.1
 .exact h.2.1
 .exact h.2.2.1
 .exact h.2.2.2.1
 .exact h.2.2.2.2.1
 .exact h.2.2.2.2.2
def bk1(Z:An K t):OkD K D_zaf (Av K t) bl t.f_zaf t.d_zaf (as2 K t):=by
 refine A5 (b55 K t) λvs H Q E h=>?_
 .obtain⟨p,a,dx,v,sw,ζ,rfl,hp,hsw,hw,hrl,hr,h8,hf,k⟩:=h;refine⟨rfl,?_⟩
  have cl:=Z.pf.cl
  have na:=Z.pf.na
  have nf:=(Gi hp)
  refine⟨a,sw,rfl,hsw.mono Kp.any,hw,λH1 d S1 A1=>?_⟩
  refine Gx (S1 _ _ hp) cl (na _ (by simp)) (aF rfl) rfl λH2 b2 p2=>?_
  have O2:Off p H H2:=λb u n e=>by rw[b2 b n];exact S1 _ _ e
  have A2:=A1.mono (Kp.but b2 nf)
  refine fY ⟨_,_,_,_,p2,cl,(na _ (by simp)),rfl,⟨d,sw,rfl,A2.mono Kp.any,hw,λH3 l S3 T3=>?_⟩⟩
  refine Gx (S3 _ _ p2) cl (na _ (by simp)) (aF rfl) rfl λH4 b4 p4=>?_
  have O4:=(O2.up S3).but b4
  have A4:=A2.mono ((Kp.same S3).trans (Kp.but b4 nf))
  have T4:=T3.mono ((Kp.weak (O2.fr p2)).trans (Kp.but b4 nf))
  refine fY ⟨_,_,_,_,p4,cl,(na _ (by simp)),rfl,⟨l,Aj sw,rfl,T4.mono Kp.any,(Ih hw.sets).1,hw.len,λH5 n S5 N5=>?_⟩⟩
  refine Gx (S5 _ _ p4) cl (na _ (by simp)) (aF rfl) rfl λH6 b6 p6=>?_
  have O6:=(O4.up S5).but b6
  have A6:=A4.mono ((Kp.same S5).trans (Kp.but b6 nf))
  have T6:=T4.mono ((Kp.same S5).trans (Kp.but b6 nf))
  have N6:=N5.mono ((Kp.weak (O4.fr p4)).trans (Kp.but b6 nf))
  refine fY ⟨_,_,_,_,p6,cl,(na _ (by simp)),rfl,(fY ⟨_,_,_,_,p6,cl,(na _ (by simp)),rfl,⟨d,l,sw,rfl,A6.mono Kp.any,T6.mono Kp.any,hw,λH7 s S7 E7=>?_⟩⟩)⟩
  refine Gx (S7 _ _ p6) cl (na _ (by simp)) (aF rfl) rfl λH8 b8 p8=>?_
  have O8:=(O6.up S7).but b8
  have k78:=(Kp.same S7).trans (Kp.but b8 nf)
  have P8:Pc (fresh H) H8 d l n s sw:=⟨A6.mono k78,T6.mono k78,N6.mono k78,E7.mono ((Kp.weak (O6.fr p6)).trans (Kp.but b8 nf))⟩
  have P8':Pc (λb=>H b=none/\H8 b≠none) H8 d l n s sw:=P8.mono λb o q=>⟨⟨q.1,by rw[q.2];exact λz=>nomatch z⟩,q.2⟩
  have w8:Kp (fresh H) H8 (λb=>b=p\/H b=none) H8:=Kp.weak λb e=>.inr e
  have RI:Pf (λb=>¬ (b=p\/H b=none)) H8 v ζ:=by
   rcases hrl with h|⟨kk,e,R⟩
   .exact .inl h
   .refine .inr ⟨kk,e,R.mono λb o q=>⟨λz=>?_,O8 _ _ q.1 q.2⟩⟩
    rcases z with z|z
    .exact q.1 z
    .have:=q.2;rw[z] at this;cases this
  refine⟨p,dx,_,⟨t.c_zbz,bx2 K t⟩,rfl,.head _,p8,rfl,⟨aF rfl,aF rfl⟩,p,l,s,(λb=>b=p\/H b=none),v,sw,ζ,rfl,⟨dx,_,⟨.inl rfl,p8⟩,rfl,rfl,Qj ⟨rfl,rfl,rfl,rfl,rfl,rfl⟩⟩,P8.tps.mono w8,P8.sts.mono w8,hw,RI,hr,h8,λH9 kk S9 R9=>?_⟩
  refine Gx (S9 _ _ p8) cl (na _ (by simp)) (aF rfl) rfl λH10 b10 p10=>?_
  have O10:=(O8.up S9).but b10
  have n8:=(Gi p8)
  have R10:=R9.mono (Kp.but b10 n8)
  have P10:=P8'.mono ((Kp.same S9).trans (Kp.but b10 (λe=>nf e.1)))
  obtain⟨rs,er,⟨fk,ok⟩,hrs⟩:=id R10
  have lenr:(rs.map λx=>V.ref x.2).length=ζ.length:=by rw[<- er];simp
  refine fY ⟨_,_,_,_,p10,cl,(na _ (by simp)),rfl,(.inl ⟨⟨_,SqL.of ok⟩,λD hD=>?_⟩)⟩
  have fD:H D=none:=O10.fr p10 D hD
  refine Cu (Ay (rs.map λx=>V.ref x.2)) (λm σ H'=>(∃v,σ=[v,some (.ref p)])/\Same H10 H'/\H' D=some (.lst ((J2 sw (ζ.take m)).map V.int))) ⟨⟨_,rfl⟩,Same.upd hD,Aa⟩ (λm σ H' _ q=>q.2.1.seqL (SqL.of ok)) ?_ ?_
  .rintro m x σ H11 hx ⟨⟨v,rfl⟩,S11,eD⟩
   obtain⟨⟨rule,r⟩,hm2,rfl⟩:=Am hx
   have hm3:ζ[m]?=some rule:=by rw[<- er,ak,hm2];rfl
   have hrl2:=hrs _ (aj hm2)
   have nr:H8 r=none:=by obtain⟨_,_,o,_⟩:=hrl2;exact o.1
   have npr:p≠r:=Ai p8 nr
   have kw:Kp (λb=>H b=none/\H8 b≠none) H10 (· ≠ r) H11:=(Kp.same S11).trans (Kp.weak λb h e=>h.2 (e▸nr))
   refine⟨p,dx,_,⟨t.c_zbz,ak3 K t⟩,rfl,.head _,S11 _ _ p10,rfl,⟨aF rfl,aF rfl⟩,p,r,l,s,sw,rule,rfl,⟨dx,_,⟨npr,S11 _ _ p10⟩,rfl,rfl,Qj ⟨rfl,rfl,rfl,rfl,rfl,rfl⟩⟩,P10.tps.mono kw,P10.sts.mono kw,hw,hrl2.mono ((Kp.same S11).trans Kp.any),(hr rule (aj hm3)).2.2,λH12 S12=>?_⟩
   refine⟨_,S12 _ _ eD,?_,⟨_,rfl⟩,(S11.trans S12).set hD,?_⟩
   .rw[ae]
    unfold J2
    rw[ae,aM]
    exact bb (show min m ζ.length<=8 by omega) (by decide)
   .rw[Aa]
    unfold J2
    rw[B0 hm3,aq]
    rfl
  rintro σ H11 ⟨_,S11,eD⟩
  rw[lenr,aA] at eD
  refine Gx (S11 _ _ p10) cl (na _ (by simp)) (aF rfl) (fs':=fl6 d l n s kk D) rfl λH12 b12 p12=>?_
  have O12:=(O10.up S11).but b12
  have nDp:D≠p:=(Ai p10 hD).symm
  have B12:H12 D=some (.lst ((J2 sw ζ).map V.int)):=by rw[b12 D nDp];exact eD
  have k12:∀{ok},¬ ok p->Kp ok H10 ok H12:=λh=>(Kp.same S11).trans (Kp.but b12 h)
  have P12:=P10.mono (k12 λe=>nf e.1)
  have R12:=R10.mono (k12 n8)
  refine⟨p,dx,_,⟨t.c_zbz,bh4 K t⟩,rfl,.head _,p12,rfl,⟨aF rfl,aF rfl⟩,p,l,s,sw,rfl,⟨dx,_,⟨trivial,p12⟩,rfl,rfl,Qj ⟨rfl,rfl,rfl,rfl,rfl,rfl⟩⟩,P12.tps.mono Kp.any,hw.len,fY ⟨_,_,_,_,p12,cl,(na _ (by simp)),rfl,⟨D,J2 sw ζ,rfl,SqL.of B12,?_⟩⟩⟩
  refine Gx p12 cl (na _ (by simp)) (aF rfl) (fs':=bw8 d l n s kk D (Lq sw ζ)) rfl λH14 b14 p14=>?_
  refine fY ⟨_,_,_,_,p14,cl,(na _ (by simp)),rfl,(Gs (decide_eq_false hf) ?_)⟩
  have kk14:∀{ok},¬ ok p->(∀b,ok b->H b=none)->Kp ok H12 (λb=>b=p\/H b=none) H14:=λh g=>(Kp.but b14 h).trans (Kp.weak λb e=>.inr (g b e))
  have P14:=P12.mono (kk14 (λe=>nf e.1) λb e=>e.1)
  refine k H14 ((O12.but b14)) ⟨dx,d,l,n,s,kk,D,⟨.inl rfl,p14⟩,P14.sws,P14.tps,P14.nms,P14.sts,R12.mono (kk14 n8 (O8.fr p8)),⟨.inr fD,?_⟩⟩
  rw[b14 D nDp];exact B12
end
def ag5{a b:Bool}{A B:Prop}(hB:¬ (a=true/\b=true)->B)(hA:a=true->b=true->A):if a=true then(if b=true then A else B) else B:=by
 cases a with
 |false=>exact hB λz=>by cases z.1
 | true=>cases b with
  |false=>exact hB λz=>by cases z.2
  |true=>exact hA rfl rfl
def ay9{A B:Prop}(hB:¬ (a=true/\b=true/\c=true)->B)(hA:a=true->b=true->c=true->A):if a=true then(if b=true then(if c=true then A else B) else B) else B:=by
 cases a with
 |false=>exact hB λz=>by cases z.1
 |true=>exact Sv (ag5 (λz=>hB λy=>z y.2) (hA rfl))
def NL(H H':Hp):Prop:=∀a o,(∀l,o≠.lst l)->H a=some o->H' a=some o
def NL.same(S:Same H H'):NL H H':=λa o _ e=>S a o e
theorem NL.tup(S:NL H H'):∀b ys,H b=some (.tup ys)->H' b=some (.tup ys):=λb ys=>S b _ λ_ z=>by cases z
theorem NL.upd{H:Hp}{D:Addr}{l m:List V}(h:H D=some (.lst l)):NL H (upd H D (.lst m)):=λa o n e=>by rw[Ad λz=>by rw[z,h] at e;cases e;exact n _ rfl];exact e
def Hi{J:It}{χ:List V}{ok:Hp->Prop}{te:DE}{rest:St}{H:Hp}{R:Hp->Addr->Prop}{E:EK}{P:Nat->V->Hp->Prop}(up:∀i v H1 H2,NL H1 H2->P i v H1->P i v H2)(Y:C3 J χ ok)(hok:∀H1,Same H H1->ok H1)(hn:χ.length<=1000)(he:∀i x H1 Q1,χ[i]?=some x->Same H H1->(∀v H2,Same H1 H2->P i v H2->Q1 v H2)->te (some x::rest) H1 Q1 E)(k:∀D H' vs,Same H H'->H D=none->H' D=some (.lst vs)->vs.length=χ.length->(∀i v,vs[i]?=some v->P i v H')->R H' D) :
  ∀D,H D=none->Ez J (gdN 0) Cg te D (λH'=>R H' D) (none::rest) (upd H D (.lst [])) E:=by
 intro D hD
 refine Cu Y (λi σ H'=>(∃v,σ=v::rest)/\Same H H'/\∃vs,H' D=some (.lst vs)/\vs.length=i/\∀i v,vs[i]?=some v->P i v H') ⟨⟨_,rfl⟩,Same.upd hD,[],Aa,rfl,λi v h=>by simp at h⟩ (λ_ _ H' _ q=>hok H' q.2.1) ?_ ?_
 .rintro i x σ H1 hx ⟨⟨v,rfl⟩,S1,vs,eD,lv,hv⟩
  have hi:=Ak hx
  have big:(1000:Nat)<sizeLine:=by decide
  refine he i x H1 _ hx S1 λv H2 S2 pv=>⟨vs,S2 _ _ eD,by omega,⟨_,rfl⟩,(S1.trans S2).set hD,vs++[v],Aa,by rw[aI,lv];rfl,λj u hj=>?_⟩
  have nl:=NL.upd (m:=vs++[v]) (S2 _ _ eD)
  by_cases hj2:j<vs.length
  .rw[bq hj2] at hj
   exact up _ _ _ _ nl (up _ _ _ _ (NL.same S2) (hv j u hj))
  .have hj3:=Ak hj
   rw[aI] at hj3
   have hj4:j=vs.length:=by have:j<vs.length+1:=hj3;omega
   subst hj4
   rw[bi (ag _),gQ] at hj
   cases hj
   rw[lv]
   exact up _ _ _ _ nl pv
 .rintro σ H1 ⟨_,S1,vs,eD,lv,hv⟩
  exact k D H1 vs S1 hD eD lv hv
def Li{J:It}{χ:List V}{ok:Hp->Prop}{te:DE}{rest:St}{H:Hp}{R:Hp->Addr->Prop}{E:EK}{f:Nat->V}(Y:C3 J χ ok)(hok:∀H1,Same H H1->ok H1)(hn:χ.length<=1000)(he:∀i x H1 Q1,χ[i]?=some x->Same H H1->(∀H2,Same H1 H2->Q1 (f i) H2)->te (some x::rest) H1 Q1 E)(k:∀D H',Same H H'->H D=none->H' D=some (.lst ((aV χ.length).map f))->R H' D) :
  ∀D,H D=none->Ez J (gdN 0) Cg te D (λH'=>R H' D) (none::rest) (upd H D (.lst [])) E:=
 Hi (P:=λi v _=>v=f i) (λ_ _ _ _ _ h=>h) Y hok hn (λi x H1 Q1 hx S q=>he i x H1 Q1 hx S λH2 S2=>q _ H2 S2 rfl) λD H' vs S hD eD lv hv=>k D H' S hD (by
  rw[eD]
  congr 2
  refine jn λi=>?_
  rw[ak]
  by_cases hi:i<χ.length
  .rw[fA hi,ai (by omega)]
   exact congrArg some (hv i _ (ai (by omega)))
  .rw[dm (by omega),dm (by rw[bo];omega)]
   rfl)
section
variable {P:aW}{w:bC}{K:ac}{mg:Str->Option Value}{base:Heap}{t:Adr}
def bm8(Z:An K t):OkD K af1 (Av K t) bl (t.f 0) (t.d 0) (Fa K t):=by
 refine A5 (b81 K t) λvs H Q E h=>?_
 .obtain⟨a,ns,k,rfl,hS,q⟩:=h;refine⟨rfl,?_⟩
  refine .inl ⟨_,.inl hS,?_⟩
  refine Kf (λe=>?_) (λe=>?_)
  .have e:(k:Int)<((ns.map V.int).length:Int):=by simpa using e
   have hk:k<ns.length:=by rw[ae] at e;omega
   have:Ct ns k=ns[k]:=by unfold Ct;rw[au,ai hk];rfl
   rw[this] at q
   exact⟨_,_,.inl hS,Cc (by rw[ak,ai hk];rfl),q⟩
  .have e:¬ (k:Int)<((ns.map V.int).length:Int):=by simpa using e
   have hk:ns.length<=k:=by rw[ae] at e;omega
   have:Ct ns k=0:=by unfold Ct;rw[au,dm hk];rfl
   rw[this] at q
   exact q
def bn4(Z:An K t):OkD K af7 (Av K t) bl (t.f 2) (t.d 2) (Bq K t):=by
 refine A5 (b87 K t) λvs H Q E h=>?_
 .obtain⟨c,k,rfl,hk,q⟩:=h;refine⟨rfl,?_⟩
  unfold B1 at q
  refine⟨.inl ⟨by decide,by decide⟩,by omega,by decide,ay9 (λhn=>?_) (λe1 e2 e3=>?_)⟩
  .rw[if_neg (λz=>hn ⟨decide_eq_true z.1,by simp[z.2.1],by simp[z.2.2]⟩)] at q
   have b1:0<=(c+7919*k)*48271%2147483647/\(c+7919*k)*48271%2147483647<2147483647:=⟨dj _ (by decide),cF _ (by decide)⟩
   refine⟨.inl ⟨by decide,by decide⟩,.inr ⟨by decide,by decide⟩,by decide,?_⟩
   dsimp only at q
   generalize (c+7919*k)*48271%2147483647=n at b1 q ⊢
   have b2:0<=n*n%2147483629/\n*n%2147483629<2147483629:=⟨dj _ (by decide),cF _ (by decide)⟩
   refine⟨.inl ⟨by omega,by omega⟩,by decide,?_⟩
   generalize n*n%2147483629=m at b2 q ⊢
   exact⟨.inl ⟨by omega,by omega⟩,by decide,⟨by decide,by decide⟩,q⟩
  .rw[if_pos ⟨of_decide_eq_true e1,by simpa using e2,by simpa using e3⟩] at q
   exact q
def E1(l:List Nat):Txt.join (iu "") (l.map λk=>(⟨#[k]⟩:Str))=⟨l.toArray⟩:=by
 show Builtin.Str.glued (iu "") _=_
 rw[StrLaws.glued_eq_join,show iu ""=(⟨#[]⟩:Str) from by decide +kernel]
 exact PyProof.Rows.join_ones l
def F4(l:List Nat):((l.map λk=>(⟨#[k]⟩:Str)).map (·.length)).sum+(l.map λk=>(⟨#[k]⟩:Str)).length*(iu "").length=l.length:=by
 rw[show(iu "").length=0 from by decide +kernel,Nat.mul_zero,Nat.add_zero]
 induction l with
 |nil=>rfl
 |cons a l ih=>rw[aT,aT,lQ,ih,aK,show(⟨#[a]⟩:Str).length=1 from rfl,mj]
def sgC(sg:Str)(x:Int):Nat:=sg.cps.toList.getD (x%(sg.length:Int)).toNat 0
def as0{sg:Str}(x:Int)(h:1<=sg.length):atI sg.cps.toList (x%(sg.length:Int))=some (sgC sg x):=by
 have h0:=dj x (show(sg.length:Int)≠0 by omega)
 have h1:=cF x (show 0<(sg.length:Int) by omega)
 have e:x%(sg.length:Int)=(((x%(sg.length:Int)).toNat:Nat):Int):=by omega
 have hl:(x%(sg.length:Int)).toNat<sg.cps.toList.length:=by rw[Ik];omega
 unfold sgC
 rw[e,aY]
 exact Cc (by rw[au,ai hl];rfl)
def Yv{sg:Str}(x:Int)(h:1<=sg.length):sgC sg x∈sg.cps.toList:=by
 have h1:=cF x (show 0<(sg.length:Int) by omega)
 have hl:(x%(sg.length:Int)).toNat<sg.cps.toList.length:=by
  rw[Ik]
  have h0:=dj x (show(sg.length:Int)≠0 by omega)
  omega
 unfold sgC
 rw[au,ai hl]
 exact cJ hl
def a73{sg:Str}{x:Int}{i j:Nat}(nd:sg.cps.toList.Nodup)(hi:i<sg.length)(hj:j<sg.length)(e:sgC sg (x+i)=sgC sg (x+j)):i=j:=by
 have hp:0<(sg.length:Int):=by omega
 have a0:=dj (x+i) (show(sg.length:Int)≠0 by omega)
 have a1:=cF (x+i) hp
 have b0:=dj (x+j) (show(sg.length:Int)≠0 by omega)
 have b1:=cF (x+j) hp
 unfold sgC at e
 have l1:((x+i)%(sg.length:Int)).toNat<sg.cps.toList.length:=by rw[Ik];omega
 have l2:((x+j)%(sg.length:Int)).toNat<sg.cps.toList.length:=by rw[Ik];omega
 rw[au,au,ai l1,ai l2] at e
 have e2:=(dA nd).mp (e)
 have e3:(x+i)%(sg.length:Int)=(x+j)%(sg.length:Int):=by omega
 have e4:=Int.emod_emod_of_dvd
 have d1:=j5 (x+i) (sg.length:Int)
 have d2:=j5 (x+j) (sg.length:Int)
 rw[e3] at d1
 generalize (x+i)/(sg.length:Int)=q1 at d1
 generalize (x+j)/(sg.length:Int)=q2 at d2
 have d3:(sg.length:Int)*q1-(sg.length:Int)*q2=(i:Int)-j:=by omega
 rw[<- Int.mul_sub] at d3
 have:q1-q2=0:=by
  by_cases z:q1-q2=0
  .exact z
  .exfalso
   have:1<=q1-q2\/q1-q2 <= -1:=by omega
   rcases this with z|z
   .have:=ix z (Int.le_of_lt hp);omega
   .have:=ix z (Int.le_of_lt hp);omega
 rw[this,Int.mul_zero] at d3
 omega
def wA(g:Nat->Nat)(lo k:Nat):Str:=⟨(((aV lo).map g).take (lo-k)).toArray⟩
def wB(g:Nat->Nat)(n:Nat):Str:=⟨((aV n).map g).toArray⟩
def Xc(g:Nat->Nat)(lo k:Nat):(wA g lo k).length=lo-k:=by
 show(((aV lo).map g).take (lo-k)).toArray.size=_
 rw[ax,aM,ae,bo]
 omega
def Rn(g:Nat->Nat)(n:Nat):(wB g n).length=n:=by
 show((aV n).map g).toArray.size=_
 rw[ax,ae,bo]
def Ti{α:Type}{f:Nat->α}{m:Nat}(h:∀i j,i<m->j<m->f i=f j->i=j):((aV m).map f).Nodup:=by
 refine List.pairwise_iff_getElem.mpr λi j hi hj hij=>?_
 rw[ae,bo] at hi hj
 rw[cV,cV,lP,lP]
 intro e
 have:=h i j hi hj e
 omega
def Qv(g:Nat->Nat)(n:Nat):(aV n).map (λj=>V.str ⟨#[g j]⟩)=(((aV n).map g).map λc=>(⟨#[c]⟩:Str)).map V.str:=by rw[aB,aB];rfl
def bm0(Z:An K t):OkD K ae4 (Av K t) bl (t.f 3) (t.d 3) (Mn K t):=by
 refine A5 (b73 K t) λvs H Q E h=>?_
 .obtain⟨c,sg,lo,m,rfl,h1,h12,hm,s1,s100,nd,k⟩:=h;refine⟨rfl,?_⟩
  have big:(1000:Nat)<sizeLine:=by decide
  refine⟨c,1,rfl,by decide,by decide,ag5 (λ_=>?_) (λ_ e2=>?_)⟩
  .have b1:1<=1+B1 c 20%(lo:Int)/\1+B1 c 20%(lo:Int)<=lo:=by
    have:=dj (B1 c 20) (show(lo:Int)≠0 by omega)
    have:=cF (B1 c 20) (show 0<(lo:Int) by omega)
    omega
   refine⟨c,20,rfl,by decide,by omega,c,21,rfl,by decide,by omega,by decide,λD hD=>⟨⟨by omega,by omega⟩,?_⟩⟩
   obtain⟨n,en⟩:∃n:Nat,1+B1 c 20%(lo:Int)=(n:Int):=⟨(1+B1 c 20%(lo:Int)).toNat,by omega⟩
   rw[en] at b1 ⊢
   have b2:0<=B1 c 21%(n:Int)/\B1 c 21%(n:Int)<n:=⟨dj _ (by omega),cF _ (by omega)⟩
   obtain⟨a,ea⟩:∃a:Nat,B1 c 21%(n:Int)=(a:Int):=⟨(B1 c 21%(n:Int)).toNat,by omega⟩
   rw[ea] at b2 ⊢
   let gB:Nat->Nat->Nat:=λi j=>sgC sg (B1 c (22+(j:Int))+(i:Int)*(if decide ((j:Int)=(a:Int))=true then 1 else 0))
   rw[aY]
   refine A3 (Bn 0 m) (λi σ H'=>(∃v5 v9,σ=[some (.int c),some (.str sg),some (.int (lo:Int)),some (.int (m:Int)),none,v5,some (.int (n:Int)),some (.int (a:Int)),some (.ref D),v9])/\Same H H'/\H' D=some (Bd ((aV i).map λi=>wB (gB i) n))) ⟨⟨_,_,rfl⟩,Same.upd hD,Aa⟩ (λ_ _ _ _ _=>aP) ?_ ?_
   .rintro i x σ H2 hx ⟨⟨v5,v9,rfl⟩,S2,eL⟩
    obtain⟨hi,rfl⟩:=C8 hx
    refine⟨⟨by omega,by omega⟩,?_⟩
    rw[aY]
    refine Li (f:=λj=>.int (B1 c (22+(j:Int))+(i:Int)*(if decide ((j:Int)=(a:Int))=true then 1 else 0))) (Bn 0 n) (λ_ _=>aP) (by rw[A0];omega) (λj x H3 Q1 hj _ q=>?_) λD1 H3 S3 hD1 eD1=>?_
    .obtain⟨hj,rfl⟩:=C8 hj
     exact⟨c,22+(j:Int),rfl,by omega,.inl ⟨by omega,by omega⟩,q _ (Same.refl _)⟩
    .rw[A0] at eD1
     refine⟨.inl ⟨rfl,_,SqL.of (S3 _ _ eL)⟩,rfl,.inl ⟨⟨_,SqL.of eD1⟩,?_⟩⟩
     refine Li (f:=λj=>.str ⟨#[gB i j]⟩) (Ay _) (λH4 S4=>S4.seqL (SqL.of eD1)) (by rw[ae,bo];omega) (λj x H4 Q1 hj _ q=>?_) λD2 H4 S4 hD2 eD2=>?_
     .obtain⟨j',hj',rfl⟩:=Am hj
      obtain rfl:j'=j:=by
       have:=Ak hj'
       rw[bo] at this
       rw[fA this] at hj'
       exact(az hj').symm
      exact⟨by omega,by omega,by omega,_,as0 _ s1,q _ (Same.refl _)⟩
     .rw[ae,bo,Qv] at eD2
      have S34:=S3.trans S4
      refine⟨_,D2,_,rfl,rfl,.inl (SqL.of eD2),?_,?_⟩
      .rw[F4,ae,bo];omega
      rw[E1]
      refine⟨D,_,_,rfl,rfl,S34 _ _ eL,?_,⟨_,_,rfl⟩,(S2.trans S34).set hD,?_⟩
      .rw[ae,ae,bo]
       omega
      .rw[Aa,Bd,j9,aq,aq]
       rfl
   .rintro σ H2 ⟨⟨v5,v9,rfl⟩,S2,eL⟩
    rw[A0] at eL
    refine .inl (k H2 D _ S2 hD eL (by simp) ⟨Ti λi j hi hj e=>?_,λz hz=>?_⟩)
    .have h:(aV n).map (gB i)=(aV n).map (gB j):=congrArg (λz:Str=>z.cps.toList) e
     have h2:=congrArg (λl:List Nat=>l[a]?) h
     have ha:a<n:=by omega
     simp only[ak,fA ha,dL,h_] at h2
     have h3:sgC sg (B1 c (22+(a:Int))+(i:Int))=sgC sg (B1 c (22+(a:Int))+(j:Int)):=by
      have e1:∀x:Nat,gB x a=sgC sg (B1 c (22+(a:Int))+(x:Int)):=λx=>by
       show sgC sg (_+(x:Int)*(if decide ((a:Int)=(a:Int))=true then 1 else 0))=_
       rw[decide_eq_true rfl,if_pos rfl,Int.mul_one]
      rw[<- e1,<- e1];exact h2
     exact a73 nd (by omega) (by omega) h3
    .obtain⟨i,_,rfl⟩:=List.mem_map.mp hz
     rw[Rn]
     refine⟨by omega,by omega,λx hx=>?_⟩
     have hx:=hx
     obtain⟨j,_,rfl⟩:=List.mem_map.mp hx
     exact Yv _ s1
  .have e2:m<=lo:=by
    have e2:=of_decide_eq_true e2
    omega
   let gA:Nat->Nat:=λj=>sgC sg (B1 c (2+(j:Int)))
   refine⟨rfl,⟨by omega,by omega⟩,?_⟩
   show ∀D,H D=none->Ez (Itr 0 ((lo:Int)).toNat) _ _ _ D _ _ _ _
   rw[aY]
   refine Li (f:=λj=>.str ⟨#[gA j]⟩) (rest:=[some (.int c),some (.str sg)]) (Bn 0 lo) (λ_ _=>aP) (by rw[A0];omega) (λj x H2 Q1 hj _ q=>?_) λD H2 S2 hD eD=>?_
   .obtain⟨hj,rfl⟩:=C8 hj
    exact⟨c,2+(j:Int),rfl,by omega,by omega,by omega,by omega,_,as0 _ s1,q _ (Same.refl _)⟩
   .rw[A0,Qv] at eD
    refine⟨_,D,_,rfl,rfl,.inl (SqL.of eD),?_,?_⟩
    .rw[F4,ae,bo];omega
    rw[E1]
    refine⟨⟨by omega,by omega⟩,?_⟩
    show ∀D,H2 D=none->Ez (Itr 0 ((m:Int)).toNat) _ _ _ D _ _ _ _
    rw[aY]
    refine Li (f:=λk=>.str (wA gA lo k)) (rest:=[some (.int (lo:Int)),some (.str ⟨((aV lo).map gA).toArray⟩)]) (Bn 0 m) (λ_ _=>aP) (by rw[A0];omega) (λj x H3 Q1 hj _ q=>?_) λD3 H3 S3 hD3 eD3=>?_
    .obtain⟨hj,rfl⟩:=C8 hj
     have es:Txt.slice ⟨((aV lo).map gA).toArray⟩ none (some ((lo:Int)-(j:Int)))=wA gA lo j:=by
      have hl:((⟨((aV lo).map gA).toArray⟩:Str).length:Int)=lo:=by
       have:=Rn gA lo
       unfold wB at this
       rw[this]
      have e:=cz (PyProof.Rows.slice_closes_to (x:=⟨((aV lo).map gA).toArray⟩) (j:=(lo:Int)-(j:Int)) ⟨by omega,by rw[Ik,hl];omega⟩)
      rw[e,Int.sub_zero,show((lo:Int)-(j:Int)).toNat=lo-j by omega]
      unfold wA
      simp
     refine⟨?_,?_⟩
     .have:=Rn gA lo
      unfold wB at this
      rw[this]
      omega
     .rw[es];exact q _ (Same.refl _)
    .rw[A0] at eD3
     refine k H3 D3 ((aV m).map (wA gA lo)) (S2.trans S3) (S2.free hD3) (by rw[eD3,Bd,aB];rfl) (by simp) ⟨Ti λi j hi hj e=>?_,λz hz=>?_⟩
     .have h:=congrArg Str.length e
      rw[Xc,Xc] at h
      omega
     .obtain⟨i,hi,rfl⟩:=List.mem_map.mp hz
      have hi:=List.mem_range.mp hi
      rw[Xc]
      refine⟨by omega,by omega,λx hx=>?_⟩
      have hx:x∈((aV lo).map gA).take (lo-i):=hx
      obtain⟨j,_,rfl⟩:=List.mem_map.mp (eG hx)
      exact Yv _ s1
def bl7(Z:An K t):OkD K ae1 (Av K t) bl (t.f 12) (t.d 12) (Wr K t):=by
 refine A5 (b70 K t) λvs H Q E h=>?_
 .obtain⟨c,m,rfl,hm,k⟩:=h;refine⟨rfl,?_⟩
  have l37:(iu "abcdefghijklmnopqrstuvwxyz0123456789.").length=37:=by decide +kernel
  exact⟨c,_,12,m,rfl,by decide,by decide,by rw[l37];omega,by rw[l37];decide,by rw[l37];decide,by decide +kernel,λH' l ws S _ e hl hw=>k H' l ws S e hl hw.1 λz h=>⟨(hw.2 z h).2.1,λe=>by have:=(hw.2 z h).1;rw[e] at this;exact absurd this (by decide)⟩⟩
def Sj{xs:List V}{i:Nat}{x y:V}(h:(Ei 0 xs)[i]?=some (x,y)):x=.int (i:Int)/\xs[i]?=some y:=by
 have hi:=Ak h
 rw[Bu] at hi
 have:=C4 (k:=0) (ai hi)
 rw[h] at this
 injection this with e
 injection e with e1 e2
 rw[dn] at e1
 exact⟨e1,by rw[e2,ai hi]⟩
structure SwL (H':Hp) (ls:Addr) (ds:List (((Str×List Str)×Addr)×Addr)):Prop where
 at_:H' ls=some (.lst (ds.map λx=>.ref x.2))
 tup:∀x∈ds,H' x.2=some (.tup [.str x.1.1.1,.ref x.1.2])
 lst:∀x∈ds,H' x.1.2=some (Bd x.1.1.2)/\x.1.2≠ls
def SwL.up(h:SwL H1 ls ds)(S:Same H1 H2):SwL H2 ls ds:=⟨S _ _ h.at_,λx hx=>S _ _ (h.tup x hx),λx hx=>⟨S _ _ (h.lst x hx).1,(h.lst x hx).2⟩⟩
def SwL.snoc(h:SwL H1 ls ds)(ht:H1 ta=some (.tup [.str e.1,.ref la]))(hl:H1 la=some (Bd e.2))(nl:la≠ls) :
  SwL (upd H1 ls (.lst ((ds.map λx=>V.ref x.2)++[.ref ta]))) ls (ds++[((e,la),ta)]):=by
 have nt:∀{a} {xs},H1 a=some (.tup xs)->a≠ls:=λq z=>by rw[z,h.at_] at q;cases q
 refine⟨by rw[Aa,aq];rfl,λx hx=>?_,λx hx=>?_⟩
 .rcases List.mem_append.mp hx with hx|hx
  .rw[Ad (nt (h.tup x hx))];exact h.tup x hx
  .obtain rfl:x=((e,la),ta):=by simpa using hx
   rw[Ad (nt ht)];exact ht
 .rcases List.mem_append.mp hx with hx|hx
  .rw[Ad (h.lst x hx).2];exact h.lst x hx
  .obtain rfl:x=((e,la),ta):=by simpa using hx
   rw[Ad nl];exact⟨hl,nl⟩
def Mj(sw:Sw)(e:Str×List Str):Cr (sw++[e])=Cr sw*e.2.length:=by unfold Cr;rw[gd];rfl
abbrev lettersS:Str := "abcdefghijklmnopqrstuvwxyz"
def an6(h:1<=z.length/\z.length<=8/\∀c∈z.cps.toList,c∈lettersS.cps.toList):okW z:=⟨h.1,h.2.1,by
 rw[bj]
 intro c hc
 have:=h.2.2 c hc
 rw[show lettersS.cps.toList=(aV 26).map (97 + ·) by decide +kernel] at this
 obtain⟨i,hi,rfl⟩:=List.mem_map.mp this
 have:=List.mem_range.mp hi
 unfold K7
 simp
 omega⟩
def b17(Z:An K t):OkD K be6 (Av K t) bl (t.f 4) (t.d 4) (au5 K t):=by
 refine A5 (cf0 K t) λvs H Q E h=>?_
 .obtain⟨c,m,rfl,hm,hm2,k⟩:=h;refine⟨rfl,?_⟩
  have l26:lettersS.length=26:=by decide +kernel
  have nd26:lettersS.cps.toList.Nodup:=by decide +kernel
  refine⟨c,lettersS,8,5,rfl,by decide,by decide,by rw[l26];decide,by rw[l26];decide,by rw[l26];decide,nd26,λH1 lw ws S1 _ elw lws okw=>⟨by decide,λls hls=>?_⟩⟩
  have fls:=S1.free hls
  have nwl:=Ai elw hls
  have S2:=S1.trans (Same.upd (o:=.lst []) hls)
  have elw2:upd H1 ls (.lst []) lw=some (Bd ws):=by rw[Ad nwl];exact elw
  have L2:SwL (upd H1 ls (.lst [])) ls []:=⟨Aa,λx hx=>(by cases hx),λx hx=>(by cases hx)⟩
  generalize upd H1 ls (.lst [])=H2 at S2 elw2 L2 ⊢
  refine⟨c,40,rfl,by decide,by decide,⟨by omega,by omega⟩,?_⟩
  have hN:1<=(1+B1 c 40%5).toNat/\(1+B1 c 40%5).toNat<=5:=by omega
  refine A3 (Bn 0 (1+B1 c 40%5).toNat) (λi σ H'=>∃ds,(∃v6 v7,σ=[some (.int c),some (.int (m:Int)),some (.str lettersS),some (.ref lw),some (.ref ls),some (.int (Cr (ds.map (·.1.1)):Nat)),v6,v7])/\Same H H'/\H' lw=some (Bd ws)/\SwL H' ls ds /\
    (ds.map (·.1.1.1)).Sublist (ws.take i)/\(∀x∈ds,Gu x.1.1.2)/\Cr (ds.map (·.1.1))<=m/\(i=0->ds=[])/\(1<=i->ds≠[]))
   ⟨[],⟨_,_,rfl⟩,S2,elw2,L2,eO _,λx hx=>(by cases hx),(show 1<=m by omega),λ_=>rfl,λh=>(by omega)⟩ (λ_ _ _ _ _=>aP) ?_ ?_
  .rintro i x σ H5 hx ⟨ds,⟨v6,v7,rfl⟩,S45,elw5,L5,sub,oks,pm,z0,z1⟩
   obtain⟨hi,rfl⟩:=C8 hx
   have hs:2<=2+B1 c (41+(i:Int))%3/\2+B1 c (41+(i:Int))%3<=4:=by omega
   obtain⟨sz,esz⟩:∃sz:Nat,2+B1 c (41+(i:Int))%3=(sz:Int):=⟨(2+B1 c (41+(i:Int))%3).toNat,by omega⟩
   refine⟨c,41+(i:Int),rfl,by omega,by decide,?_⟩
   refine⟨.inr ⟨by omega,by omega⟩,Kf (λe=>⟨.inr ⟨by omega,by omega⟩,?_⟩) (λe=>?_)⟩
   .have e:=of_decide_eq_true e
    have hiw:i<ws.length:=by omega
    refine⟨.inl ⟨rfl,_,SqL.of L5.at_⟩,_,_,.inl (SqL.of elw5),Cc (by rw[ak,ai hiw];rfl),?_⟩
    refine⟨c+1+(i:Int),lettersS,8,sz,by rw[<- esz];rfl,by decide,by decide,by rw[l26];omega,by rw[l26];decide,by rw[l26];decide,nd26,λH6 la ss S6 fla ela lss okss=>⟨(show 2<=sizeLine by decide),λta hta=>?_⟩⟩
    have nla:=(Ai L5.at_ fla).symm
    have ST:=Same.upd (o:=.tup [.str ws[i],.ref la]) hta
    have et:upd H6 ta (.tup [.str ws[i],.ref la]) ta=some (.tup [.str ws[i],.ref la]):=Aa
    generalize upd H6 ta (.tup [.str ws[i],.ref la])=H7 at ST et ⊢
    have L7:=L5.up (S6.trans ST)
    have lds:ds.length<=5:=by
     have:=sub.length_le
     rw[ae,aM] at this
     omega
    refine⟨ls,_,_,rfl,rfl,L7.at_,?_,?_⟩
    .rw[ae];exact bb lds (by decide)
    have pe:((Cr ((ds++[(((ws[i],ss),la),ta)]).map (·.1.1)):Nat):Int)=(Cr (ds.map (·.1.1)):Nat)*(2+B1 c (41+(i:Int))%3):=by
     rw[aq,show [(((ws[i],ss),la),ta)].map (λx:((Str×List Str)×Addr)×Addr=>x.1.1)=[(ws[i],ss)] from rfl,Mj,j6,lss,esz]
    refine⟨ds++[(((ws[i],ss),la),ta)],⟨_,_,congrArg (λz=>[some (V.int c),some (V.int (m:Int)),some (V.str lettersS),some (V.ref lw),some (V.ref ls),some (V.int z),some (V.int (i:Int)),some (V.int (2+B1 c (41+(i:Int))%3))]) pe.symm⟩,(S45.trans (S6.trans ST)).set fls,?_,L7.snoc et (ST _ _ ela) nla,?_,?_,by omega,λh=>(by omega),λ_ h=>by simp at h⟩
    .rw[Ad nwl];exact(S6.trans ST) _ _ elw5
    .rw[aq,aJ,ai hiw]
     exact sub.append (eO _)
    .intro x hx
     rcases List.mem_append.mp hx with hx|hx
     .exact oks x hx
     .obtain rfl:x=(((ws[i],ss),la),ta):=by simpa using hx
      exact⟨⟨λz hz=>an6 (okss.2 z hz),okss.1,by rw[lss];omega⟩,by rw[lss];omega,by rw[lss];omega⟩
   .have e:¬ ((Cr (ds.map (·.1.1)):Nat):Int)*(2+B1 c (41+(i:Int))%3)<=m:=of_decide_eq_false (by simpa using e)
    have hi0:i≠0:=λz=>e (by
     rw[z0 z]
     show((1:Nat):Int)*_<=_
     omega)
    exact⟨ds,⟨_,_,rfl⟩,S45,elw5,L5,sub.trans (dJ (by omega)),oks,pm,λh=>(by omega),λ_=>z1 (by omega)⟩
  .rintro σ H4 ⟨ds,⟨v5,v6,rfl⟩,S4,elw4,L4,sub,oks,pm,z0,z1⟩
   rw[A0] at sub z0 z1
   have sub2:=sub.trans (eU _ ws)
   have hl:=sub2.length_le
   rw[ae] at hl
   have e1:(ds.map (·.1.1)).map (·.1)=ds.map (·.1.1.1):=by rw[aB];rfl
   refine .inl (k H4 ls (ds.map (·.1.1)) S4 ⟨ds,rfl,⟨trivial,L4.at_⟩,λx hx=>⟨⟨trivial,L4.tup x hx⟩,trivial,(L4.lst x hx).1⟩⟩ ⟨?_,?_,?_,?_,?_⟩)
   .rw[ae]
    exact List.length_pos_iff.mpr (z1 hN.1)
   .rw[ae];omega
   .rw[e1];exact okw.1.sublist sub2
   .intro y hy
    obtain⟨x,hx,rfl⟩:=List.mem_map.mp hy
    exact⟨an6 (okw.2 _ (sub2.subset (List.mem_map.mpr ⟨x,hx,rfl⟩))),oks x hx⟩
   .omega
def bm1(Z:An K t):OkD K ae5 (Av K t) bl (t.f 1) (t.d 1) (Mo K t):=by
 refine A5 (b74 K t) λvs H Q E h=>?_
 .obtain⟨l,sw,rfl,⟨ds,ed,⟨_,ol⟩,hd⟩,hw,k⟩:=h;refine⟨rfl,?_⟩
  have len:ds.length=sw.length:=by rw[<- ed];simp
  refine .inl ⟨⟨_,SqL.of ol⟩,?_⟩
  refine A3 (Ay (ds.map λx=>V.ref x.2)) (λi σ H'=>(∃v2 v3,σ=[some (.ref l),some (.int (Cr (sw.take i):Nat)),v2,v3])/\H'=H) ⟨⟨_,_,rfl⟩,rfl⟩ (λ_ _ H' _ q=>q.2▸SqL.of ol) ?_ ?_
  .rintro i x σ H' hx ⟨⟨v2,v3,rfl⟩,rfl⟩
   obtain⟨⟨⟨x',la⟩,ta⟩,hi,rfl⟩:=Am hx
   have hi2:sw[i]?=some x':=by rw[<- ed,ak,hi];rfl
   obtain⟨⟨_,h1⟩,_,h2⟩:=hd _ (aj hi)
   have h2:H' la=some (Bd x'.2):=h2
   have o4:=(hw.sets x' (aj hi2)).2.2
   refine⟨_,.inl (SqT.of h1),rfl,.inl ⟨_,.inl (SqL.of h2),?_⟩⟩
   have e:((Cr (sw.take (i+1)):Nat):Int)=(Cr (sw.take i):Nat)*((x'.2.map V.str).length:Nat):=by
    rw[aJ,hi2,dZ,Mj,j6,ae]
   exact⟨.inr ⟨by rw[ae];omega,by rw[ae];omega⟩,⟨_,_,congrArg (λz=>[some (V.ref l),some (V.int z),some (V.str x'.1),some (V.ref la)]) e.symm⟩,rfl⟩
  .rintro σ H' ⟨⟨v2,v3,rfl⟩,rfl⟩
   rw[ae,len,aA]
   rw[Ie] at k
   exact .inl k
def aw7(xs:List V):C3 (Rr K a xs.length) xs.reverse (λH=>SqL K H a xs):=by
 refine⟨λi H q h=>⟨by rw[bu] at h;exact h,xs,q,rfl⟩,λH q=>by show xs.length<=xs.reverse.length;rw[bu];exact ag _,λi H x H' q hi h=>?_⟩
 obtain⟨h1,h2⟩:=h
 rw[bu] at hi
 refine⟨h1,?_⟩
 rw[List.getElem?_reverse hi]
 exact h2 xs q
def L9:List Nat->Nat->Nat
 |[],n=>n
 |s::r,n=>L9 r (n/s)
theorem Ow:∀l s n,L9 (l++[s]) n=L9 l n/s
 |[],_,_=>rfl
 |a::l,s,n=>Ow l s (n/a)
theorem Sh:∀l s n,Nf (l++[s]) n=(L9 l n%s)::Nf l n
 |[],_,_=>rfl
 | a::l,s,n=>by
  show Nf (l++[s]) (n/a)++[n%a]=_
  rw[Sh l s (n/a)]
  rfl
def bk8(Z:An K t):OkD K ad6 (Av K t) bl (t.f 6) (t.d 6) (Qx K t):=by
 refine A5 (b62 K t) λvs H Q E h=>?_
 .obtain⟨l,n,sw,rfl,⟨ds,ed,⟨_,ol⟩,hd⟩,hw,k⟩:=h;refine⟨rfl,?_⟩
  refine⟨(show 0<=sizeLine by decide),λD hD=>?_⟩
  have S0:=Same.upd (o:=.lst []) hD
  have e0:upd H D (.lst []) D=some (nO []):=Aa
  generalize upd H D (.lst [])=H0 at S0 e0 ⊢
  refine⟨_,SqL.of (S0 _ _ ol),?_⟩
  have big:(1000:Nat)<sizeLine:=by decide
  have rv:(ds.map λx=>V.ref x.2).reverse=(ds.reverse).map λx=>V.ref x.2:=List.map_reverse.symm
  have es:(ds.reverse.map λx=>x.1.1.2.length)=(sw.map (·.2.length)).reverse:=by rw[<- ed,aB,iy];rfl
  have ld:ds.reverse.length<=5:=by
   have:=hw.2.1
   rw[<- ed,ae] at this
   rw[bu];exact this
  refine A3 (aw7 (ds.map λx=>V.ref x.2)) (λi σ H'=>(∃v3 v4,σ=[some (.ref l),some (.int (L9 ((ds.reverse.take i).map λx=>x.1.1.2.length) n:Nat)),some (.ref D),v3,v4])/\Same H H'/\H' D=some (nO (Nf ((ds.reverse.take i).map λx=>x.1.1.2.length) n)))
   ⟨⟨_,_,rfl⟩,S0,e0⟩ (λ_ _ H' _ q=>q.2.1.seqL (SqL.of ol)) ?_ ?_
  .rintro i x σ H1 hx ⟨⟨v3,v4,rfl⟩,S1,e1⟩
   rw[rv] at hx
   obtain⟨⟨⟨x',la⟩,ta⟩,hi,rfl⟩:=Am hx
   have hm:=List.mem_reverse.mp (aj hi)
   have o2:=(hw.sets x' (by rw[<- ed];exact List.mem_map.mpr ⟨_,hm,rfl⟩)).2
   obtain⟨⟨_,h1⟩,_,h2⟩:=hd _ hm
   have h2:H la=some (Bd x'.2):=h2
   have tk:=B0 hi λx=>x.1.1.2.length
   have li:=Ak hi
   refine⟨_,.inl (SqT.of (S1 _ _ h1)),rfl,.inl ⟨rfl,_,SqL.of e1⟩,.inl ⟨_,.inl (SqL.of (S1 _ _ h2)),?_⟩⟩
   have cl:(((x'.2.map V.str).length:Nat):Int)=(x'.2.length:Int):=by rw[ae]
   have md:∀a:Nat,(a:Int)%(x'.2.length:Int)=((a%x'.2.length:Nat):Int):=λa=>(Int.natCast_emod a _).symm
   have el:((L9 ((ds.reverse.take (i+1)).map λx=>x.1.1.2.length) n:Nat):Int)=(L9 ((ds.reverse.take i).map λx=>x.1.1.2.length) n:Nat)/(((x'.2.map V.str).length:Nat):Int):=by
    rw[tk,Ow,cl];exact Int.natCast_ediv _ _
   refine⟨by omega,D,_,_,0,rfl,rfl,e1,bw _,?_,.inl ⟨_,.inl (SqL.of ((S1.set hD) _ _ h2)),⟨by omega,by omega⟩,⟨_,_,congrArg (λz=>[some (V.ref l),some (V.int z),some (V.ref D),some (V.str x'.1),some (V.ref la)]) el.symm⟩,S1.set hD,?_⟩⟩
   .rw[ae,Eh,ae,aM];omega
   .rw[Aa,nO,tk,Sh,cl,md]
    rfl
  .rintro σ H1 ⟨⟨v3,v4,rfl⟩,S1,e1⟩
   rw[bu,ae,<- bu,aA,es] at e1
   exact .inl (k H1 D S1 e1)
def bg6(hw:okSw sw)(hx:x∈sw)(h:e.1=x.1/\e.2≠[]/\e.2.Sublist x.2):Jn sw e:=by
 have ox:=hw.sets x hx
 refine⟨h.2.1,⟨λz hz=>ox.1.1 z (h.2.2.subset hz),ox.1.2.1.sublist h.2.2,?_⟩,x,hx,h.1.symm,λz hz=>h.2.2.subset hz⟩
 have:=h.2.2.length_le
 have:=ox.2.2
 omega
def bl9(Z:An K t):OkD K ae3 (Av K t) bl (t.f 5) (t.d 5) (Wt K t):=by
 refine A5 (b72 K t) λvs H Q E h=>?_
 .obtain⟨c,l,sw,rfl,⟨ds,ed,⟨_,ol⟩,hd⟩,hw,k⟩:=h;refine⟨rfl,?_⟩
  have len:ds.length=sw.length:=by rw[<- ed];simp
  have l5:=hw.2.1
  have big:(1000:Nat)<sizeLine:=by decide
  refine⟨(show 0<=sizeLine by decide),λkk hkk=>?_⟩
  have S0:=Same.upd (o:=.lst []) hkk
  have ek0:upd H kk (.lst []) kk=some (.lst []):=Aa
  generalize upd H kk (.lst [])=H0 at S0 ek0 ⊢
  refine⟨c,60,rfl,by decide,by decide,⟨by omega,by omega⟩,?_⟩
  refine A3 (Bn 0 (B1 c 60%4).toNat) (λi σ H'=>∃gs:List (Sw×Addr),(∃v3 v4 v5 v6 v7 v8 v9,σ=[some (.int c),some (.ref l),some (.ref kk),v3,v4,v5,v6,v7,v8,v9])/\Same H H'/\H' kk=some (.lst (gs.map λx=>.ref x.2))/\(∀x∈gs,RuleAt (· ≠ kk) H' x.2 x.1)/\(∀r∈gs.map (·.1),E5 sw r)/\gs.length<=i)
   ⟨[],⟨_,_,_,_,_,_,_,rfl⟩,S0,ek0,(λx hx=>by cases hx),(λx hx=>by cases hx),ag _⟩ (λ_ _ _ _ _=>aP) ?_ ?_
  .rintro i x σ H1 hx ⟨gs,⟨v3,v4,v5,v6,v7,v8,v9,rfl⟩,S1,ek,hg,okg,gl⟩
   obtain⟨hi,rfl⟩:=C8 hx
   intro d hd0
   refine .inl (.inl ⟨⟨_,(S1.trans (Same.upd hd0)).seqL (SqL.of ol)⟩,?_⟩)
   have Sd:=Same.upd (o:=.dK []) hd0
   have e0:upd H1 d (.dK []) d=some (.dK (([]:List ((Str×List Str)×Addr)).map kR)):=Aa
   have ndk:=(Ai ek hd0).symm
   generalize upd H1 d (.dK [])=H2 at Sd e0 ⊢
   refine Kw (Gm (ds.map λx=>V.ref x.2)) (λj σ H'=>(∃v5 v6 v7 v8 v9,σ=[some (.int c),some (.ref l),some (.ref kk),some (.int (i:Int)),some (.ref d),v5,v6,v7,v8,v9])/\Same H1 H'/\∃es:List ((Str×List Str)×Addr),H' d=some (.dK (es.map kR))/\(∀e∈es,H1 e.2=none/\e.2≠d/\H' e.2=some (Bd e.1.2))/\((es.map (·.1)).map (·.1)).Sublist ((sw.take j).map (·.1))/\∀e∈es,Jn sw e.1)
    ⟨⟨_,_,_,_,_,rfl⟩,Sd,[],e0,(λe he=>by cases he),eO _,(λe he=>by cases he)⟩ (λ_ _ H' _ q=>(S1.trans q.2.1).seqL (SqL.of ol)) ?_ ?_
   .rintro j x y T σ H3 hx3 hT ⟨⟨v5,v6,v7,v8,v9,rfl⟩,S3,es,ed3,he,sub,oke⟩
    obtain⟨⟨⟨x',la⟩,ta⟩,hj,rfl,rfl⟩:=P0 hx3
    have hj2:sw[j]?=some x':=by rw[<- ed,ak,hj];rfl
    have jl:=Ak hj2
    obtain⟨⟨_,h1⟩,_,h2⟩:=hd _ (aj hj)
    have h2:=h2
    have o4:=(hw.sets x' (aj hj2)).2.2
    have ST:=Same.upd (o:=.tup [.int (j:Int),.ref ta]) hT
    refine⟨_,.inl (SqT.of Aa),rfl,?_⟩
    generalize upd H3 T (.tup [.int (j:Int),.ref ta])=H4 at ST ⊢
    have S14:=S3.trans ST
    have S04:=S1.trans S14
    refine⟨_,.inl (SqT.of (S04 _ _ h1)),rfl,⟨.inl ⟨by decide,by decide⟩,c,61+8*(i:Int)+(j:Int),rfl,by omega,?_⟩⟩
    refine .inl ⟨⟨_,SqL.of (S04 _ _ h2)⟩,λD hD=>?_⟩
    refine Pr (Gm (x'.2.map V.str)) (λm σ H'=>(∃v0 v1,σ=[v0,v1,some (.int (B1 c (61+8*(i:Int)+(j:Int))))])/\Same H4 H'/\∃ss,H' D=some (Bd ss)/\ss.Sublist (x'.2.take m)) ⟨⟨_,_,rfl⟩,Same.upd hD,[],Aa,List.nil_sublist _⟩ (λm σ H' _ q=>(S04.trans q.2.1).seqL (SqL.of h2)) ?_ ?_
    .rintro m u y T2 σ H5 hx5 hT2 ⟨⟨v0,v1,rfl⟩,S5,ss,eD,sb⟩
     obtain⟨rfl,hy⟩:=Sj hx5
     obtain⟨z,hz,rfl⟩:=Am hy
     have ST2:=Same.upd (o:=.tup [.int (m:Int),.str z]) hT2
     refine⟨_,.inl (SqT.of Aa),rfl,by omega,?_⟩
     have pl:ss.length<=4:=by
      have:=sb.length_le
      rw[aM] at this
      omega
     refine Kf (λ_=>?_) (λ_=>?_)
     .refine⟨_,ST2 _ _ eD,by rw[ae];omega,⟨_,_,rfl⟩,(S5.trans ST2).set hD,ss++[z],by rw[Aa,Bd,aq];rfl,?_⟩
      rw[aJ,hz]
      exact sb.append (eO _)
     .exact⟨⟨_,_,rfl⟩,S5.trans ST2,ss,ST2 _ _ eD,sb.trans (dJ (by omega))⟩
    .rintro σ H5 ⟨_,S5,ss,eD,sb⟩
     have sb2:ss.Sublist x'.2:=sb.trans (eU _ _)
     have S15:=S14.trans S5
     refine⟨(show 0<=sizeLine by decide),λq hq=>.inl ⟨D,q,_,_,rfl,rfl,SqL.of ((Same.upd hq) _ _ eD),SqL.of Aa,Ge _,rfl,?_⟩⟩
     have Sq:=Same.upd (o:=.lst []) hq
     generalize upd H5 q (.lst [])=H6 at Sq ⊢
     have S16:=S15.trans Sq
     have stay:(∃v5 v6 v7 v8 v9,[some (V.int c),some (.ref l),some (.ref kk),some (.int (i:Int)),some (.ref d),some (.int (j:Int)),some (.str x'.1),some (.ref la),some (.int (B1 c (61+8*(i:Int)+(j:Int)))),some (.ref D)]=[some (V.int c),some (.ref l),some (.ref kk),some (.int (i:Int)),some (.ref d),v5,v6,v7,v8,v9])/\Same H1 H6/\∃es:List ((Str×List Str)×Addr),H6 d=some (.dK (es.map kR))/\(∀e∈es,H1 e.2=none/\e.2≠d/\H6 e.2=some (Bd e.1.2))/\((es.map (·.1)).map (·.1)).Sublist ((sw.take (j+1)).map (·.1))/\∀e∈es,Jn sw e.1:=
      ⟨⟨_,_,_,_,_,rfl⟩,S16,es,(ST.trans (S5.trans Sq)) _ _ ed3,λe h=>⟨(he e h).1,(he e h).2.1,(ST.trans (S5.trans Sq)) _ _ (he e h).2.2⟩,sub.trans ((dJ (by omega)).map _),oke⟩
     by_cases hp:ss=[]
     .subst hp
      exact stay
     .refine Ht (by rw[Fm (by rw[ae];intro z;exact hp (List.length_eq_zero_iff.mp z))];rfl) ?_
      refine⟨⟨by decide,by decide⟩,by decide,Kf (λ_=>?_) (λ_=>stay)⟩
      have nk:Bf (es.map kR) (.inr x'.1)=none:=by
       refine Ce λq=>?_
       rw[K5] at q
       obtain⟨y,hy,e⟩:=List.mem_map.mp q
       cases e
       have hm:=sub.subset hy
       rw[jC] at hm
       exact Et hw.2.2.1 (show(sw.map (·.1))[j]?=some x'.1 by rw[ak,hj2];rfl) hm
      have el:es.length<=5:=by
       have:=sub.length_le
       rw[ae,ae,ae,aM] at this
       omega
      have e6D:=Sq _ _ eD
      have e6d:=(ST.trans (S5.trans Sq)) _ _ ed3
      have ndD:D≠d:=λz=>by rw[z,e6d] at e6D;cases e6D
      refine⟨_,DPut.k (k:=.inr x'.1) e6d (by rw[ae];omega),?_⟩
      rw[K4 (e:=(x'.1,ss)) nk]
      refine⟨⟨_,_,_,_,_,rfl⟩,S16.set hd0,es++[((x'.1,ss),D)],Aa,λx hx=>?_,?_,λx hx=>?_⟩
      .rcases List.mem_append.mp hx with hx|hx
       .obtain⟨a1,a2,a3⟩:=he x hx
        exact⟨a1,a2,by rw[Ad a2];exact(ST.trans (S5.trans Sq)) _ _ a3⟩
       .obtain rfl:x=((x'.1,ss),D):=by simpa using hx
        exact⟨S14.free hD,ndD,by rw[Ad ndD];exact e6D⟩
      .rw[aq,aq,aJ,hj2,aq]
       exact sub.append (eO _)
      .rcases List.mem_append.mp hx with hx|hx
       .exact oke x hx
       .obtain rfl:x=((x'.1,ss),D):=by simpa using hx
        exact bg6 hw (aj hj2) ⟨rfl,hp,sb2⟩
   .rintro σ H3 ⟨⟨v5,v6,v7,v8,v9,rfl⟩,S3,es,ed3,he,sub,oke⟩
    rw[Bu,ae,len,aA] at sub
    refine .inl ?_
    intro q hq
    refine .inl (.inr (.inr (.inl (.inr (.inl ⟨_,.inl ((Same.upd hq) _ _ ed3),.inl Aa,?_⟩)))))
    have Sq:=Same.upd (o:=.dK []) hq
    generalize upd H3 q (.dK [])=H4 at Sq ⊢
    have S14:=S3.trans Sq
    have ek4:=S14 _ _ ek
    have hg4:∀x∈gs,RuleAt (· ≠ kk) H4 x.2 x.1:=λx hx=>(hg x hx).mono (Kp.same S14)
    cases es with
    |nil=>exact⟨gs,⟨_,_,_,_,_,_,_,rfl⟩,S1.trans S14,ek4,hg4,okg,gh gl⟩
    |cons e0 es0=>
     refine Sv ?_
     refine⟨.inl ⟨rfl,_,SqL.of ek4⟩,kk,_,_,rfl,rfl,ek4,by rw[ae];omega,?_⟩
     refine⟨gs++[((e0::es0).map (·.1),d)],⟨_,_,_,_,_,_,_,rfl⟩,(S1.trans S14).set hkk,by rw[Aa,aq];rfl,λx hx=>?_,λr hr=>?_,by rw[aI];exact cD gl⟩
     .refine RuleAt.mono (H:=H4) (ok:=(· ≠ kk)) ?_ (Kp.off λz=>z rfl)
      rcases List.mem_append.mp hx with hx|hx
      .exact hg4 x hx
      .obtain rfl:x=((e0::es0).map (·.1),d):=by simpa using hx
       exact⟨e0::es0,rfl,⟨ndk,Sq _ _ ed3⟩,λx hx=>⟨(Ai ek (he x hx).1).symm,Sq _ _ (he x hx).2.2⟩⟩
     .rw[aq] at hr
      rcases List.mem_append.mp hr with hr|hr
      .exact okg r hr
      .obtain rfl:r=(e0::es0).map (·.1):=by simpa using hr
       have sl:=sub.length_le
       rw[ae,ae,ae] at sl
       refine⟨by simp,by rw[ae];omega,hw.2.2.1.sublist sub,λe h=>?_⟩
       obtain⟨x,hx,rfl⟩:=List.mem_map.mp h
       exact oke x hx
  .rintro σ H1 ⟨gs,⟨v3,v4,v5,v6,v7,v8,v9,rfl⟩,S1,ek,hg,okg,gl⟩
   rw[A0] at gl
   exact .inl (k H1 kk (gs.map (·.1)) S1 ⟨gs,rfl,⟨trivial,ek⟩,λx hx=>(hg x hx).mono Kp.any⟩ okg (by rw[ae];omega))
def Ss(z:Str)(l:List Str):inV (.str z) (l.map V.str)=decide (z∈l):=by
 unfold inV
 rw[mh,b5,decide_eq_true_iff,fJ]
 constructor
 .rintro⟨y,hy,e⟩
  have e:=e
  rw[<- cz e]
  exact hy
 .intro h
  exact⟨z,h,beq_self_eq_true z⟩
def inE(rule:Sw)(x z:Str):Bool:=rule.all λe=>!decide (e.1=x)||decide (z∈e.2)
def Zo(sw rule:Sw)(r:List Str)(j:Nat):Bool:=inE rule ((sw.map (·.1)).getD j cH) (r.getD j cH)
def Ky{α:Type}{l:List α}{i:Nat}{x d:α}(h:l[i]?=some x):l.getD i d=x:=by rw[au,h];rfl
def bf9{sw rule:Sw}{n:Nat}{r:List Str}(hw:okSw sw)(hb:E5 sw rule)(hn:(Aj sw)[n]?=some r):((aV sw.length).all (Zo sw rule r))=(Gn sw rule).testBit n:=by
 have rl:=(Ih hw.sets).2.1 r (aj hn)
 have nm:∀{j} {x},sw[j]?=some x->(sw.map (·.1)).getD j cH=x.1:=λh=>Ky (by rw[ak,h];rfl)
 have hz:∀{j},j<sw.length->r[j]?=some (r.getD j cH):=λh=>by rw[au,ai (by omega)];rfl
 rw[ah4,decide_eq_true (Ak hn),jz,b5,bj,bj]
 constructor
 .intro h e he
  obtain⟨_,_,x,hx,ex,_⟩:=hb.2.2.2 e he
  obtain⟨j,hj⟩:=List.mem_iff_getElem?.mp hx
  have jl:=Ak hj
  have:=List.all_eq_true.mp (h j (List.mem_range.mpr jl)) e he
  rw[nm hj,ex,decide_eq_true rfl,Bool.not_true,jy,decide_eq_true_iff] at this
  refine List.any_eq_true.mpr ⟨_,this,?_⟩
  unfold Zm
  rw[hn,<- ex,Mi hj hw.2.2.1]
  exact decide_eq_true (hz jl)
 .intro h j hj
  have jl:=List.mem_range.mp hj
  have hx:=ai jl
  refine List.all_eq_true.mpr λe he=>?_
  rw[nm hx]
  by_cases c:e.1=sw[j].1
  .obtain⟨z,hz1,hz2⟩:=List.any_eq_true.mp (h e he)
   have hz2:=of_decide_eq_true hz2
   rw[hn,c,Mi hx hw.2.2.1] at hz2
   have hz2:=hz2
   rw[Ky hz2,decide_eq_true hz1,fQ]
  .rw[decide_eq_false c];rfl
def bf7(f:Nat->Bool)(n:Nat):(((aV n).map f).all λb=>b)=(aV n).all f:=by rw[ip];rfl
def bk7(Z:An K t):OkD K ad5 (Av K t) bl (t.f 7) (t.d 7) (Wk K t):=by
 refine A5 (b61 K t) λvs H Q E h=>?_
 .obtain⟨l,kk,n,sw,ζ,rfl,hsw,hw,⟨gs,eg,⟨_,ok⟩,hg⟩,hr,hn,k⟩:=h;refine⟨rfl,?_⟩
  have big:(1000:Nat)<sizeLine:=by decide
  have l5:=hw.2.1
  refine⟨l,n,sw,rfl,hsw,hw,λH1 r S1 er=>?_⟩
  obtain⟨ds,ed,⟨_,ol⟩,hd⟩:=hsw
  have len:ds.length=sw.length:=by rw[<- ed];simp
  have hrow:=ai hn
  generalize (Aj sw)[n]=row at hrow
  refine .inl ⟨⟨_,SqL.of (S1 _ _ ok)⟩,?_⟩
  refine A3 (Ay (gs.map λx=>V.ref x.2)) (λi σ H'=>(∃v4 v5,σ=[some (.ref l),some (.ref kk),some (.int (n:Int)),some (.ref r),v4,v5])/\Same H1 H'/\∀q∈ζ.take i,(Gn sw q).testBit n=false) ⟨⟨_,_,rfl⟩,Same.refl _,λq hq=>(by cases hq)⟩ (λ_ _ H' _ q=>(S1.trans q.2.1).seqL (SqL.of ok)) ?_ ?_
  .rintro i x σ H2 hx ⟨⟨v4,v5,rfl⟩,S2,pre⟩
   obtain⟨⟨rule,ra⟩,hi,rfl⟩:=Am hx
   have hi2:ζ[i]?=some rule:=by rw[<- eg,ak,hi];rfl
   obtain⟨es,ee,⟨_,oe⟩,he⟩:=hg _ (aj hi)
   have ee:es.map (·.1)=rule:=ee
   have oe:=oe
   have okr:=hr rule (aj hi2)
   have S02:=S1.trans S2
   refine .inl ⟨⟨_,SqL.of (S02 _ _ ol)⟩,λD hD=>?_⟩
   refine Pr (Gm (ds.map λx=>V.ref x.2)) (λm σ H'=>(∃v0 v1 v2,σ=[v0,v1,v2,some (.ref r),some (.ref ra)])/\Same H2 H'/\H' D=some (.lst (((aV m).map (Zo sw rule row)).map V.bl))) ⟨⟨_,_,_,rfl⟩,Same.upd hD,Aa⟩ (λm σ H' _ q=>(S02.trans q.2.1).seqL (SqL.of ol)) ?_ ?_
   .rintro j x y T σ H3 hx3 hT ⟨⟨v0,v1,v2,rfl⟩,S3,eD⟩
    obtain⟨⟨⟨x',la⟩,ta⟩,hj,rfl,rfl⟩:=P0 hx3
    have hj2:sw[j]?=some x':=by rw[<- ed,ak,hj];rfl
    have jl:=Ak hj2
    obtain⟨⟨_,h1⟩,_,h2⟩:=hd _ (aj hj)
    have h2:=h2
    have ST:=Same.upd (o:=.tup [.int (j:Int),.ref ta]) hT
    refine⟨_,.inl (SqT.of Aa),rfl,?_⟩
    generalize upd H3 T (.tup [.int (j:Int),.ref ta])=H4 at ST ⊢
    have S24:=S3.trans ST
    have S04:=S02.trans S24
    obtain⟨dg,hd1,hd2,hd3⟩:=bg4 hw hrow hj2
    have hz:=ai hd2
    rw[hz] at hd3
    generalize x'.2[dg]=z at hz hd3
    refine⟨_,.inl (SqT.of (S04 _ _ h1)),rfl,?_⟩
    refine⟨_,.int (dg:Int),.inl (SqL.of ((S2.trans S24) _ _ er)),Cc (by rw[ak,hd1];rfl),_,.str z,.inl (SqL.of (S04 _ _ h2)),Cc (by rw[ak,hz];rfl),?_⟩
    refine⟨.inr (.inr (.inl ⟨rfl,.inl ⟨_,S04 _ _ oe⟩⟩)),_,DGet.k (k:=.inr x'.1) (S04 _ _ oe),?_⟩
    have fin:∀b,b=Zo sw rule row j -> ∃ys,H4 D=some (.lst ys)/\ys.length<sizeLine/\(∃v0 v1 v2,[some (V.int (j:Int)),some (.str x'.1),some (.ref la),some (.ref r),some (.ref ra)]=[v0,v1,v2,some (.ref r),some (.ref ra)])/\Same H2 (upd H4 D (.lst (ys++[.bl b])))/\upd H4 D (.lst (ys++[.bl b])) D=some (.lst (((aV (j+1)).map (Zo sw rule row)).map V.bl)):=λb hb=>
     ⟨_,ST _ _ eD,by rw[ae,ae,bo];omega,⟨_,_,_,rfl⟩,S24.set hD,by rw[Aa,hb,j9,aq,aq];rfl⟩
    have ins:Zo sw rule row j=inE rule x'.1 z:=by unfold Zo;rw[Ky hd3,Ky (by rw[ak,hj2];rfl)]
    by_cases hin:x'.1∈rule.map (·.1)
    .obtain⟨e,hee,en⟩:=List.mem_map.mp hin
     rw[<- ee] at hee
     obtain⟨⟨e',le⟩,hes,rfl⟩:=List.mem_map.mp hee
     obtain⟨a,ha⟩:=List.mem_iff_getElem?.mp hes
     have hv:Bf (es.map kR) (.inr x'.1)=some (.ref le):=by
      rw[<- en]
      exact Bm (E2 ee okr.2.2.1) (by rw[ak,ha];rfl)
     rw[hv]
     refine .inl ⟨le,_,rfl,.inl (SqL.of (S04 _ _ (he _ hes).2)),rfl,Ge _,fin _ ?_⟩
     show inV (.str z) _=_
     rw[Ss,ins]
     have em:e'∈rule:=by rw[<- ee];exact hee
     unfold inE
     rw[b5,decide_eq_true_iff,bj]
     refine⟨λhz e he2=>?_,λh=>by simpa [show e'.1=x'.1 from en] using h e' em⟩
     by_cases c:e.1=x'.1
     .have:e=e':=by
       obtain⟨a1,q1⟩:=List.mem_iff_getElem?.mp he2
       obtain⟨a2,q2⟩:=List.mem_iff_getElem?.mp em
       have l1:=Ak q1
       have l2:=Ak q2
       rw[ai l1] at q1
       rw[ai l2] at q2
       have:=(dA (i:=a1) (j:=a2) (h₀:=by rw[ae];exact l1) (h₁:=by rw[ae];exact l2) okr.2.2.1).mp (by rw[cV,cV,az q1,az q2,c];exact en.symm)
       subst this
       exact(az q1).symm.trans (az q2)
      rw[this,decide_eq_true hz,fQ]
     .rw[decide_eq_false c];rfl
    .have hv:Bf (es.map kR) (.inr x'.1)=none:=by
      refine Ce λq=>hin ?_
      rw[K5,ee] at q
      obtain⟨y,hy,e⟩:=List.mem_map.mp q
      cases e
      exact hy
     rw[hv]
     refine .inl ⟨la,_,rfl,.inl (SqL.of (S04 _ _ h2)),rfl,Ge _,fin _ ?_⟩
     show inV (.str z) _=_
     rw[Ss,ins,decide_eq_true (aj hz)]
     refine(List.all_eq_true.mpr λe he2=>?_).symm
     rw[decide_eq_false λc=>hin (List.mem_map.mpr ⟨e,he2,c⟩)];rfl
   .rintro σ H3 ⟨_,S3,eD⟩
    rw[Bu,ae,len] at eD
    refine⟨_,SqL.of eD,?_⟩
    rw[bf7,bf9 hw okr hrow]
    cases hc:(Gn sw rule).testBit n with
    |true=>
     have:=k H3 (S02.trans S3)
     have hb:Jb sw ζ n=true:=List.any_eq_true.mpr ⟨rule,aj hi2,hc⟩
     rw[hb] at this
     exact this
    |false=>
     refine⟨⟨_,_,rfl⟩,S2.trans S3,λq hq=>?_⟩
     rw[aJ,hi2] at hq
     rcases List.mem_append.mp hq with hq|hq
     .exact pre q hq
     .obtain rfl:q=rule:=by simpa using hq
      exact hc
  .rintro σ H2 ⟨⟨v4,v5,rfl⟩,S2,pre⟩
   rw[ae,<- ae (f:=mY) (as:=gs),eg,aA] at pre
   have hb:Jb sw ζ n=false:=by
    unfold Jb
    rw[jm]
    exact λq hq z=>by rw[pre q hq] at z;cases z
   have:=k H2 (S1.trans S2)
   rw[hb] at this
   exact .inl this
def Oj(l:List Nat):(l.map λn:Nat=>V.int (n:Int)).all Br=true:=by rw[ip,bj];exact λ_ _=>rfl
def bm3(Z:An K t):OkD K ae7 (Av K t) bl (t.f 8) (t.d 8) (Wv K t):=by
 refine A5 (b76 K t) λvs H Q E h=>?_
 .obtain⟨c,m,rfl,hm,hm2,k⟩:=h;refine⟨rfl,?_⟩
  have big:(1000:Nat)<sizeLine:=by decide
  refine⟨c,m,rfl,hm,hm2,λH1 l sw S1 hsw hw=>⟨c,l,sw,rfl,hsw,hw,λH2 kk ζ S2 hr okr lr=>?_⟩⟩
  have few:=hw.len
  have S02:=S1.trans S2
  have hsw2:=hsw.mono (Kp.same S2)
  refine⟨l,sw,rfl,hsw2,hw,⟨by omega,by omega⟩,λD hD=>?_⟩
  rw[aY]
  refine Cu (Bn 0 (Aj sw).length) (λi σ H'=>(∃v,σ=[v,some (.ref kk),some (.ref l)])/\Same H2 H'/\H' D=some (nO ((aV i).filter λn=>!Jb sw ζ n))) ⟨⟨_,rfl⟩,Same.upd hD,Aa⟩ (λ_ _ _ _ _=>aP) ?_ ?_
  .rintro i x σ H3 hx ⟨⟨v,rfl⟩,S3,eD⟩
   obtain⟨hi,rfl⟩:=C8 hx
   refine⟨l,kk,i,sw,ζ,rfl,hsw2.mono (Kp.same S3),hw,hr.mono (Kp.same S3),okr,hi,λH4 S4=>?_⟩
   have S34:=S3.trans S4
   have fs:(aV (i+1)).filter (λn=>!Jb sw ζ n)=(aV i).filter (λn=>!Jb sw ζ n)++(if(!Jb sw ζ i)=true then [i] else []):=by
    rw[j9,i5,List.filter_cons,List.filter_nil]
   cases hc:Jb sw ζ i with
   |true=>
    rw[hc,if_neg (by decide),b7] at fs
    exact⟨⟨_,rfl⟩,S34,by rw[fs];exact S4 _ _ eD⟩
   |false=>
    rw[hc,if_pos (by decide)] at fs
    refine⟨_,S4 _ _ eD,?_,⟨_,rfl⟩,S34.set hD,?_⟩
    .rw[ae]
     have:=cx (λn=>!Jb sw ζ n) (aV i)
     rw[bo] at this
     omega
    .rw[Aa,fs,nO,aq];rfl
  .rintro σ H3 ⟨_,S3,eD⟩
   rw[A0] at eD
   have eD:H3 D=some (nO (A8 sw ζ)):=eD
   refine⟨(show 0<=sizeLine by decide),λq hq=>.inl ⟨D,q,_,_,rfl,rfl,SqL.of ((Same.upd hq) _ _ eD),SqL.of Aa,Oj _,rfl,?_⟩⟩
   have Sq:=Same.upd (o:=.lst []) hq
   generalize upd H3 q (.lst [])=H4 at Sq ⊢
   have S24:=S3.trans Sq
   have S04:=S02.trans S24
   by_cases hf:A8 sw ζ=[]
   .rw[hf]
    refine Sv ?_
    refine⟨(show 0<=sizeLine by decide),λk2 hk2=>?_⟩
    have S5:=Same.upd (o:=.lst []) hk2
    have e5:upd H4 k2 (.lst []) k2=some (.lst []):=Aa
    generalize upd H4 k2 (.lst [])=H5 at S5 e5 ⊢
    refine⟨l,sw,rfl,hsw2.mono (Kp.same (S24.trans S5)),hw,by omega,by omega,λD2 hD2=>?_⟩
    rw[aY]
    have S6:=Same.upd (o:=nO (aV (Aj sw).length)) hD2
    have e6:upd H5 D2 (nO (aV (Aj sw).length)) D2=some (nO (aV (Aj sw).length)):=Aa
    generalize upd H5 D2 (nO (aV (Aj sw).length))=H6 at S6 e6 ⊢
    refine⟨(show 3<=sizeLine by decide),λW hW=>?_⟩
    have S7:=Same.upd (o:=.lst [.ref l,.ref k2,.ref D2]) hW
    have f0:A8 sw []=aV (Aj sw).length:=List.filter_eq_self.mpr λ_ _=>rfl
    refine k _ W sw [] l k2 D2 (S04.trans (S5.trans (S6.trans S7))) ⟨Aa,hsw2.mono (Kp.same (S24.trans (S5.trans (S6.trans S7)))),hw,⟨[],rfl,⟨trivial,(S6.trans S7) _ _ e5⟩,λx hx=>by cases hx⟩,λr hr=>(by cases hr),bw _,by rw[f0];exact S7 _ _ e6,?_⟩
    rw[f0]
    intro z
    have:=congrArg cE z
    rw[bo,j7] at this
    have:=hw.pos
    omega
   .refine Gs (Fm (by rw[ae];intro z;exact hf (List.length_eq_zero_iff.mp z))) ?_
    refine⟨(show 3<=sizeLine by decide),λW hW=>?_⟩
    have S7:=Same.upd (o:=.lst [.ref l,.ref kk,.ref D]) hW
    exact k _ W sw ζ l kk D (S04.trans S7) ⟨Aa,hsw2.mono (Kp.same (S24.trans S7)),hw,hr.mono (Kp.same (S24.trans S7)),okr,by omega,(Sq.trans S7) _ _ eD,hf⟩
def Hk(x:Int){m:Nat}(h:1<=m):∃v,v<m/\x%(m:Int)=(v:Int):=by
 have h0:=dj x (show(m:Int)≠0 by omega)
 have h1:=cF x (show 0<(m:Int) by omega)
 exact⟨(x%(m:Int)).toNat,by omega,by omega⟩
def bj9(Z:An K t):OkD K ad3 (Av K t) bl (t.f 13) (t.d 13) (We K t):=by
 refine A5 (b53 K t) λvs H Q E h=>?_
 .obtain⟨c,l,sw,n,m,rfl,hsw,hw,hm,k⟩:=h;refine⟨rfl,?_⟩
  obtain⟨ds,ed,⟨_,ol⟩,hd⟩:=id hsw
  have len:ds.length=sw.length:=by rw[<- ed];simp
  have l1:=hw.1
  refine⟨c,70,rfl,by decide,by decide,Kf (λ_=>?_) (λ_=>?_)⟩
  .refine⟨l,n,sw,rfl,hsw,hw,λH1 r S1 er=>⟨c,71,rfl,by decide,.inl ⟨_,.inl (SqL.of (S1 _ _ ol)),?_⟩⟩⟩
   rw[ae,len]
   obtain⟨j,hj,ej⟩:=Hk (B1 c 71) l1
   have hd2:(Se sw n)[j]?=some ((Se sw n)[j]'(by rw[Ll];exact hj)):=ai _
   refine⟨by omega,_,.int ((Se sw n)[j]'(by rw[Ll];exact hj):Nat),.inl (SqL.of er),?_,by omega,?_⟩
   .rw[ej];exact Cc (by rw[ak,hd2];rfl)
   .obtain⟨v,hv,ev⟩:=Hk (((Se sw n)[j]'(by rw[Ll];exact hj):Nat):Int) hm
    rw[ev]
    exact k H1 v S1 hv
  .obtain⟨v,hv,ev⟩:=Hk (B1 c (700+(n:Int))) hm
   refine⟨c,700+(n:Int),rfl,by omega,by omega,?_⟩
   rw[ev]
   exact k H v (Same.refl _) hv
def textS:Str := " !\"#$&'()*+,-./0123456789:;<=>?@ABCDEFGHIJKLMNOPQRSTUVWXYZ[\\]^_`" ++ "abcdefghijklmnopqrstuvwxyz{|}~"
def ca4(x:Int)(h0:0<=x)(h:x<5):∃L:Nat,L<=60/\atI [V.int 0,.int 1,.int 2,.int 5,.int 60] x=some (.int (L:Int)):=by
 have:x=0\/x=1\/x=2\/x=3\/x=4:=by omega
 rcases this with rfl|rfl|rfl|rfl|rfl
 .exact⟨0,by decide,rfl⟩
 .exact⟨1,by decide,rfl⟩
 .exact⟨2,by decide,rfl⟩
 .exact⟨5,by decide,rfl⟩
 .exact⟨60,by decide,rfl⟩
def bn0(Z:An K t):OkD K af3 (Av K t) bl (t.f 9) (t.d 9) (Qy K t):=by
 refine A5 (b83 K t) λvs H Q E h=>?_
 .obtain⟨c,rfl,k⟩:=h;refine⟨rfl,?_⟩
  have ts:1<=textS.length/\textS.length<=1000:=by decide +kernel
  have big:(1000:Nat)<sizeLine:=by decide
  refine⟨by decide +kernel,(show 5<=sizeLine by decide),λq hq=>⟨c,301,rfl,by decide,by decide,?_⟩⟩
  have S1:=Same.upd (o:=.lst [.int 0,.int 1,.int 2,.int 5,.int 60]) hq
  obtain⟨L,hL,eL⟩:=ca4 (B1 c 301%5) (by omega) (by omega)
  refine⟨_,_,.inl (SqL.of Aa),eL,?_⟩
  generalize upd H q (.lst [.int 0,.int 1,.int 2,.int 5,.int 60])=H1 at S1 ⊢
  refine⟨rfl,⟨by omega,by omega⟩,?_⟩
  rw[aY]
  refine Li (f:=λj=>.str ⟨#[sgC textS (B1 c (302+(j:Int)))]⟩) (rest:=[some (.int c),some (.str textS)]) (Bn 0 L) (λ_ _=>aP) (by rw[A0];omega) (λj x H2 Q1 hj _ q=>?_) λD H2 S2 hD eD=>?_
  .obtain⟨hj,rfl⟩:=C8 hj
   exact⟨c,302+(j:Int),rfl,by omega,by omega,by omega,by omega,_,as0 _ ts.1,q _ (Same.refl _)⟩
  .rw[A0,Qv] at eD
   refine⟨_,D,_,rfl,rfl,.inl (SqL.of eD),?_,?_⟩
   .rw[F4,ae,bo];omega
   rw[E1]
   exact k H2 _ (S1.trans S2) (by have:=Rn (λj=>sgC textS (B1 c (302+(j:Int)))) L;unfold wB at this;rw[this];exact hL)
theorem Ug{H:Hp}{x:TK}{v:V}(hx:TkAt H x v):∀{l} {vs},A7 H l vs->A7 H (l++[x]) (vs++[v])
 |[],vs,h=>by unfold A7 at h;subst h;show A7 H [x] [v];unfold A7;exact⟨v,[],rfl,hx,by unfold A7;rfl⟩
 |y::l,vs,h=>by unfold A7 at h;obtain⟨u,r,rfl,h1,h2⟩:=h;show A7 H (y::(l++[x])) _;unfold A7;exact⟨u,_,rfl,h1,Ug hx h2⟩
theorem Rk{H H':Hp}(hs:∀b ys,H b=some (.tup ys)->H' b=some (.tup ys)):∀{l} {vs},A7 H l vs->A7 H' l vs
 |[],vs,h=>by unfold A7 at h ⊢;exact h
 |y::l,vs,h=>by unfold A7 at h ⊢;obtain⟨u,r,e,h1,h2⟩:=h;exact⟨u,r,e,h1.up hs,Rk hs h2⟩
theorem Ub{H:Hp}:∀{vs},(∀v∈vs,∃z,v=.str z) -> ∃l,A7 H l vs/\∀k∈l,Ap k<=0
 |[],_=>⟨[],by unfold A7;rfl,λk hk=>by cases hk⟩
 | v::vs,h=>by
  obtain⟨l,h1,h2⟩:=Ub λu hu=>h u (av _ hu)
  obtain⟨z,rfl⟩:=h v aQ
  refine⟨.at_ (.inr z)::l,by unfold A7;exact⟨_,_,rfl,by unfold TkAt;rfl,h1⟩,λk hk=>?_⟩
  rcases List.mem_cons.mp hk with rfl|hk
  .exact Iz _ _
  .exact h2 k hk
def bj8(Z:An K t):OkD K ad2 (Av K t) bl (t.f 10) (t.d 10) (Wd K t):=by
 refine A5 (b52 K t) λvs H Q E h=>?_
 .obtain⟨kd,c,rfl,k⟩:=h;refine⟨rfl,?_⟩
  have big:(1000:Nat)<sizeLine:=by decide
  refine Kf (λ_=>?_) (λ_=>?_)
  .exact⟨c,rfl,λH' z S hz=>k H' (.at_ (.inr z)) (.str z) S (by unfold TkAt;rfl) (Iz _ _)⟩
  .refine⟨c,310,rfl,by decide,by decide,(show 0<=sizeLine by decide),λR hR=>?_⟩
   have S0:=Same.upd (o:=.lst []) hR
   have e0:upd H R (.lst []) R=some (.lst []):=Aa
   generalize upd H R (.lst [])=H0 at S0 e0 ⊢
   refine⟨c,311,rfl,by decide,by decide,⟨by omega,by omega⟩,?_⟩
   refine A3 (Bn 0 (1+B1 c 311%3).toNat) (λi σ H'=>(∃v4,σ=[some (.str kd),some (.int c),some (.int (1+B1 c 310%3)),some (.ref R),v4])/\Same H H'/\∃ks vs,H' R=some (.lst vs)/\A7 H' ks vs/\(∀k∈ks,Ap k<=1)/\vs.length=i)
    ⟨⟨_,rfl⟩,S0,[],[],e0,(by unfold A7;rfl),(λk hk=>by cases hk),rfl⟩ (λ_ _ _ _ _=>aP) ?_ ?_
   .rintro i x σ H1 hx ⟨⟨v4,rfl⟩,S1,ks,vs,eR,tk,dp,lv⟩
    obtain⟨hi,rfl⟩:=C8 hx
    refine⟨.inl ⟨rfl,_,SqL.of eR⟩,⟨by omega,by omega⟩,?_⟩
    refine Hi (P:=λ_ v _=>∃z,v=.str z) (λ_ _ _ _ _ h=>h) (Bn 0 (1+B1 c 310%3).toNat) (λ_ _=>aP) (by rw[A0];omega) (λj x H2 Q1 hj _ q=>?_) λD H2 us S2 hD eD lu hu=>?_
    .obtain⟨hj,rfl⟩:=C8 hj
     exact⟨.inl ⟨by decide,by decide⟩,.inl ⟨by decide,by decide⟩,_,rfl,λH3 z S3 hz=>⟨by omega,q _ H3 S3 ⟨_,rfl⟩⟩⟩
    .refine⟨_,.inl ⟨SqL.of eD,λT hT=>?_⟩⟩
     have ST:=Same.upd (o:=.tup us) hT
     have eT:upd H2 T (.tup us) T=some (.tup us):=Aa
     generalize upd H2 T (.tup us)=H3 at ST eT ⊢
     have S13:=S2.trans ST
     obtain⟨l,tl,dl⟩:=Ub λv hv=>by
      obtain⟨j,hj⟩:=List.mem_iff_getElem?.mp hv
      exact hu j v hj
     have e3:=S13 _ _ eR
     have nl:=NL.upd (m:=vs++[.ref T]) e3
     refine⟨R,_,_,rfl,rfl,e3,by omega,⟨_,rfl⟩,(S1.trans S13).set hR,ks++[.tup l],_,Aa,?_,λk hk=>?_,by rw[aI,lv];rfl⟩
     .refine Rk nl.tup (Ug ?_ (Rk (NL.same S13).tup tk))
      unfold TkAt
      exact⟨T,us,rfl,eT,tl⟩
     .rcases List.mem_append.mp hk with hk|hk
      .exact dp k hk
      .obtain rfl:k=.tup l:=by simpa using hk
       unfold Ap
       exact cD (Du dl)
   .rintro σ H1 ⟨⟨v4,rfl⟩,S1,ks,vs,eR,tk,dp,lv⟩
    refine .inl ⟨_,.inl ⟨SqL.of eR,λT hT=>?_⟩⟩
    have ST:=Same.upd (o:=.tup vs) hT
    refine k _ (.tup ks) (.ref T) (S1.trans ST) ?_ ?_
    .unfold TkAt
     exact⟨T,vs,rfl,Aa,Rk (NL.same ST).tup tk⟩
    .unfold Ap
     exact cD (Du dp)
def aw0{S:St->Prop}{C:St->Hp->Prop}{H:Hp}{G:Prop}(use:(∀ σ,S σ->C σ H)->G)(h:∀ σ,S σ->C σ H):G:=use h
def Uq{xs:List V}(x:Int){n:Int}(hn:n=xs.length)(h:0<xs.length):∃v∈xs,atI xs (x%n)=some v:=by
 obtain⟨j,hj,e⟩:=Hk x (h)
 subst hn
 rw[e]
 exact⟨xs[j],cJ hj,Cc (ai hj)⟩
def K6(es:List ((Str×Rc)×Addr)):(es.map kT).map (·.1)=(es.map (·.1.1)).map (du:Str->Key):=by simp[aB,Function.comp_def]
def by6{es:List ((Str×Rc)×Addr)}(h:(es.map (·.1.1)).Nodup):((es.map kT).map (·.1)).Nodup:=by rw[K6];exact Gh h
def Lz{es:List ((Str×Rc)×Addr)}(h:(es.map (·.1.1)).Nodup){i:Nat}{e:(Str×Rc)×Addr}(hi:es[i]?=some e):Bf (es.map kT) (.inr e.1.1)=some (.ref e.2):=Bm (by6 h) (by rw[ak,hi];rfl)
def ak7{es:List ((Str×Rc)×Addr)}{n:Str}(h:¬ n∈es.map (·.1.1)):Bf (es.map kT) (.inr n)=none:=by
 refine Ce λq=>h ?_
 rw[K6] at q
 obtain⟨y,hy,e⟩:=List.mem_map.mp q
 cases e
 exact hy
def X7{es:List ((Str×Rc)×Addr)}{e:Str×Rc}{a:Addr}(h:¬ e.1∈es.map (·.1.1)):Cj (es.map kT) (.inr e.1) (.ref a)=(es++[(e,a)]).map kT:=by rw[Fx _ (ak7 h),aq];rfl
def Lm{H:Hp}{d:Addr}{kvs:List (Key×V)}{o:HO}(h:H d=some (.dK kvs) \/ ∃x,H d=some (.frz x (.dK kvs))):∀b ys,H b=some (.tup ys)->upd H d o b=some (.tup ys):=λb ys e=>by
 rw[Ad λz=>?_];exact e
 rcases h with h|⟨x,h⟩ <;> (rw[z,h] at e;cases e)
def kdsL:List Str:=["chapter","para","table","chapter"]
def UpT.nil:UpT []:=λi n x h=>by simp at h
def UpT.push{T:Tr}{n:Str}{x:Rc}(u:UpT T)(ne:n ≠ "")(h:x.p="" \/ x.p∈T.map (·.1)):UpT (T++[(n,x)]):=λi m y hi=>by
 by_cases l:i<T.length
 .rw[bq l] at hi
  obtain⟨a,b⟩:=u i m y hi
  exact⟨a,b.imp id fun⟨j,lj,z,hj⟩=>⟨j,lj,z,by rw[bq (by omega)];exact hj⟩⟩
 .rw[bi (by omega)] at hi
  have e:i-T.length=0:=by have:=Ak hi;simp at this;omega
  rw[e] at hi
  cases hi
  refine⟨ne,h.imp id λq=>?_⟩
  obtain⟨⟨w,z⟩,hz,e2⟩:=List.mem_map.mp q
  obtain⟨j,hj⟩:=List.mem_iff_getElem?.mp hz
  have lj:=Ak hj
  have e2:=e2
  subst e2
  exact⟨j,by omega,z,by rw[bq lj];exact hj⟩
def bn1(Z:An K t):OkD K af4 (Av K t) bl (t.f 11) (t.d 11) (W1 K t):=by
 refine A5 (b84 K t) λvs H Q E h=>?_
 .obtain⟨c,v,l,ws,rfl,hl,nd,few,nz,k⟩:=h;refine⟨rfl,?_⟩
  have big:(1000:Nat)<sizeLine:=by decide
  intro d hd0
  refine .inl (.inl ⟨⟨_,(Same.upd hd0).seqL (SqL.of hl)⟩,?_⟩)
  have Sd:=Same.upd (o:=.dK []) hd0
  have e0:upd H d (.dK []) d=some (.dK (([]:List ((Str×Rc)×Addr)).map kT)):=Aa
  generalize upd H d (.dK [])=H0 at Sd e0 ⊢
  refine Kw (Gm (ws.map V.str)) (λi σ H'=>(∃v4 v5 v6 v7 v8 v9,σ=[some (.int c),some (.int (v:Int)),some (.ref l),some (.ref d),v4,v5,v6,v7,v8,v9])/\Same H H'/\∃es,H' d=some (.dK (es.map kT))/\(∀e∈es,RcAt H' e.2 e.1.2/\Ap e.1.2.c<=2)/\(es.map (·.1.1)).Sublist (ws.take i)/\UpT (es.map (·.1)))
   ⟨⟨_,_,_,_,_,_,rfl⟩,Sd,[],e0,(λe he=>by cases he),List.nil_sublist _,UpT.nil⟩ (λ_ _ H' _ q=>q.2.1.seqL (SqL.of hl)) ?_ ?_
  .rintro i x y T σ H1 hx hT ⟨⟨v4,v5,v6,v7,v8,v9,rfl⟩,S1,es,ed,he,sub,up⟩
   obtain⟨rfl,hy⟩:=Sj hx
   obtain⟨n,hn,rfl⟩:=Am hy
   have il:=Ak hn
   have ST:=Same.upd (o:=.tup [.int (i:Int),.str n]) hT
   refine⟨_,.inl (SqT.of Aa),rfl,?_⟩
   generalize upd H1 T (.tup [.int (i:Int),.str n])=H2 at ST ⊢
   have S2:=S1.trans ST
   have ed2:=ST _ _ ed
   have he2:∀e∈es,RcAt H2 e.2 e.1.2/\Ap e.1.2.c<=2:=λe h=>⟨(he e h).1.up (NL.same ST).tup,(he e h).2⟩
   clear he ed
   have sub1:(es.map (·.1.1)).Sublist (ws.take (i+1)):=sub.trans (dJ (by omega))
   refine⟨c,100+(i:Int),rfl,by omega,?_⟩
   refine' aw0 (S:=λσ=>∃N,σ=[some (.int c),some (.int (v:Int)),some (.ref l),some (.ref d),some (.int (i:Int)),some (.str n),some (.int N),v7,v8,v9]) (λrest=>?u) ?v
   case u=>
    refine Kf (λ_=>?_) (λ_=>Kg (rest _ ⟨_,rfl⟩))
    exact⟨.inl ⟨by decide,by decide⟩,c,130+40*(v:Int)+(i:Int),rfl,by omega,by decide,Kf (λ_=>⟨.inl ⟨by decide,by decide⟩,c,500+40*(v:Int)+(i:Int),rfl,by omega,rest _ ⟨_,rfl⟩⟩) (λ_=>rest _ ⟨_,rfl⟩)⟩
   case v=>
    rintro σ ⟨N,rfl⟩
    refine⟨by decide,Kf (λ_=>?_) (λ_=>⟨⟨_,_,_,_,_,_,rfl⟩,S2,es,ed2,he2,sub1,up⟩)⟩
    refine⟨(show 4<=sizeLine by decide),λq1 hq1=>⟨⟨by decide,by decide⟩,by decide,?_⟩⟩
    have S3:=Same.upd (o:=.lst (kdsL.map V.str)) hq1
    obtain⟨kv,hkv,ekv⟩:=Uq (xs:=kdsL.map V.str) (N/6) (n:=4) rfl (by decide)
    obtain⟨kd,_,rfl⟩:=List.mem_map.mp hkv
    refine⟨_,_,.inl (SqL.of Aa),ekv,?_⟩
    show Ae _ _ _ _ (upd H2 q1 (.lst (kdsL.map V.str)))
    generalize upd H2 q1 (.lst (kdsL.map V.str))=H3 at S3 ⊢
    have ed3:=S3 _ _ ed2
    refine⟨(show 1<=sizeLine by decide),λb1 hb1=>?_⟩
    have S4:=Same.upd (o:=.lst [.str ""]) hb1
    have e4:upd H3 b1 (.lst [.str ""]) b1=some (.lst [.str ""]):=Aa
    generalize upd H3 b1 (.lst [.str ""])=H4 at S4 e4 ⊢
    have ed4:=S4 _ _ ed3
    have he4:∀e∈es,RcAt H4 e.2 e.1.2/\Ap e.1.2.c<=2:=λe h=>⟨(he2 e h).1.up (NL.same (S3.trans S4)).tup,(he2 e h).2⟩
    have nde:(es.map (·.1.1)).Nodup:=nd.sublist (sub.trans (eU _ _))
    refine .inr (.inr (.inl (.inl ⟨_,ed4,λo L hL=>?_⟩)))
    have ef:upd H4 d (.frz o (.dK (es.map kT))) d=some (.frz o (.dK (es.map kT))):=Aa
    have tf:=Lm (o:=.frz o (.dK (es.map kT))) (.inl ed4)
    have e4f:upd H4 d (.frz o (.dK (es.map kT))) b1=some (.lst [.str ""]):=by rw[Ad λz=>by rw[z,ed4] at e4;cases e4];exact e4
    have th:∀H',Same (upd H4 d (.frz o (.dK (es.map kT)))) H'->Same H4 (upd H' d (.dK (es.map kT))):=λH' S=>Same.thaw ed4 S
    generalize upd H4 d (.frz o (.dK (es.map kT)))=Hf at ef tf e4f th hL ⊢
    refine Cu (Dc (es.map kT)) (λi σ' H'=>(∃v,σ'=[v,some (.ref d)])/\Same Hf H'/\∃ps,H' L=some (Bd ps)/\ps.length<=i/\∀z∈ps,z∈es.map (·.1.1)) ⟨⟨_,rfl⟩,Same.upd hL,[],Aa,ag _,λz h=>by cases h⟩ (λ_ _ H' _ q=>q.2.1 _ _ ef) ?_ ?_
    .rintro j x σ' H5 hx ⟨⟨vv,rfl⟩,S5,ps,eL,lp,hps⟩
     rw[aB] at hx
     obtain⟨e,hj,rfl⟩:=Am hx
     obtain⟨cv,er,_⟩:=(he4 e (aj hj)).1
     have jl:=Ak hj
     have sl:=sub.length_le
     rw[ae,aM] at sl
     refine⟨.ref e.2,.inl ⟨_,.inr e.1.1,.inr ⟨o,S5 _ _ ef⟩,rfl,(Lz nde hj).symm⟩,_,_,.inr (SqT.of (S5 _ _ (tf _ _ er))),rfl,Kf (λ_=>?_) (λ_=>?_)⟩
     .exact⟨_,eL,by rw[ae];omega,⟨_,rfl⟩,S5.set hL,ps++[e.1.1],by rw[Aa,Bd,aq];rfl,by rw[aI];exact cD lp,λz hz=>(List.mem_append.mp hz).elim (hps z) λh=>by rw[List.mem_singleton.mp h];exact List.mem_map.mpr ⟨e,aj hj,rfl⟩⟩
     .exact⟨⟨_,rfl⟩,S5,ps,eL,gh lp,hps⟩
    .rintro σ' H5 ⟨_,S5,ps,eL,lp,hps⟩
     rw[ae,ae] at lp
     have sl:=sub.length_le
     rw[ae,aM] at sl
     refine .inl ⟨b1,L,_,_,rfl,rfl,S5 _ _ e4f,eL,by rw[ae,bR];omega,λM hM=>?_⟩
     have S6:=S5.trans (Same.upd (o:=.lst ([.str ""]++ps.map V.str)) hM)
     have eM:upd H5 M (.lst ([.str ""]++ps.map V.str)) M=some (Bd (("" : Str)::ps)):=Aa
     generalize upd H5 M (.lst ([.str ""]++ps.map V.str))=H6 at S6 eM ⊢
     refine .inr ⟨d,o,_,ed3,S6 _ _ ef,?_⟩
     have S7:=S4.trans (th _ S6)
     have eM7:upd H6 d (.dK (es.map kT)) M=some (Bd (("" : Str)::ps)):=by rw[Ad λz=>by rw[z,S6 _ _ ef] at eM;cases eM];exact eM
     generalize upd H6 d (.dK (es.map kT))=H7 at S7 eM7 ⊢
     refine⟨⟨by decide,by decide,by decide⟩,⟨by decide,by decide⟩,by decide,(show 4<=sizeLine by decide),λb2 hb2=>⟨⟨by decide,by decide⟩,by decide,?_⟩⟩
     obtain⟨v2,hv2,ev2⟩:=Uq (xs:=[(0:Int),1,10^mD 9,N/96%1000].map V.int) (N/24) (n:=4) rfl (by simp)
     obtain⟨rk,_,rfl⟩:=List.mem_map.mp hv2
     refine⟨_,_,.inl (SqL.of Aa),ev2,?_⟩
     have S8:=Same.upd (o:=.lst ([(0:Int),1,10^mD 9,N/96%1000].map V.int)) hb2
     show Ae _ _ _ _ (upd H7 b2 (.lst ([(0:Int),1,10^mD 9,N/96%1000].map V.int)))
     generalize upd H7 b2 (.lst ([(0:Int),1,10^mD 9,N/96%1000].map V.int))=H8 at S8 ⊢
     obtain⟨v3,hv3,ev3⟩:=Uq (xs:=(("" : Str)::ps).map V.str) (N/384) rfl (by simp)
     obtain⟨pr,hpr,rfl⟩:=List.mem_map.mp hv3
     have eM8:=S8 _ _ eM7
     refine⟨⟨by decide,by decide⟩,.inl ⟨_,.inl (SqL.of eM8),by rw[ae,aK];omega,_,_,.inl (SqL.of eM8),ev3,?_⟩⟩
     refine⟨⟨by decide,by decide⟩,kd,N/96,rfl,λH9 x vv S9 tk dp=>⟨(show 4<=sizeLine by decide),λT2 hT2=>?_⟩⟩
     have S10:=S9.trans (Same.upd (o:=.tup [.str kd,.str pr,.int rk,vv]) hT2)
     have eT:upd H9 T2 (.tup [.str kd,.str pr,.int rk,vv]) T2=some (.tup [.str kd,.str pr,.int rk,vv]):=Aa
     have tk2:=tk.up (NL.same (Same.upd (o:=.tup [.str kd,.str pr,.int rk,vv]) hT2)).tup
     generalize upd H9 T2 (.tup [.str kd,.str pr,.int rk,vv])=H10 at S10 eT tk2 ⊢
     have S310:=S7.trans (S8.trans S10)
     have ed10:=S310 _ _ ed3
     have nn:¬ n∈es.map (·.1.1):=λz=>Et nd hn (sub.subset z)
     refine⟨_,DPut.k (k:=.inr n) ed10 (by rw[ae];omega),?_⟩
     rw[X7 (e:=(n,⟨kd,pr,rk,x⟩)) nn]
     have tu:=Lm (o:=.dK ((es++[((n,(⟨kd,pr,rk,x⟩:Rc)),T2)]).map kT)) (.inl ed10)
     refine⟨⟨_,_,_,_,_,_,rfl⟩,(S2.trans (S3.trans S310)).set hd0,_,Aa,λe h=>?_,?_,?_⟩
     .rcases List.mem_append.mp h with h|h
      .exact⟨((he2 e h).1.up (NL.same (S3.trans S310)).tup).up tu,(he2 e h).2⟩
      .obtain rfl:e=((n,(⟨kd,pr,rk,x⟩:Rc)),T2):=by simpa using h
       exact⟨RcAt.up (x:=⟨kd,pr,rk,x⟩) tu ⟨vv,eT,tk2⟩,dp⟩
     .rw[aq,aJ,hn]
      exact sub.append (eO _)
     .rw[aq]
      refine up.push (x:=⟨kd,pr,rk,x⟩) (nz n (aj hn)) ((List.mem_cons.mp hpr).imp id λq=>?_)
      rw[aB]
      exact hps pr q
  .rintro σ H1 ⟨⟨v4,v5,v6,v7,v8,v9,rfl⟩,S1,es,ed,he,sub,up⟩
   have sub2:=sub.trans (eU _ ws)
   have e1:(es.map (·.1)).map (·.1)=es.map (·.1.1):=by rw[aB];rfl
   have sl:=sub2.length_le
   rw[ae] at sl
   refine .inl (k H1 d (es.map (·.1)) S1 ⟨es,rfl,⟨trivial,ed⟩,λe h=>(he e h).1⟩ ⟨by rw[e1];exact nd.sublist sub2,by rw[ae];omega,λx hx=>?_,up⟩)
   obtain⟨e,h,rfl⟩:=List.mem_map.mp hx
   exact(he e h).2
def TrAt.nl{H H':Hp}{d:Addr}{T:Tr}(h:TrAt any H d T)(S:NL H H'):TrAt any H' d T:=let⟨es,e,⟨_,o⟩,q⟩:=h;⟨es,e,⟨trivial,S _ _ (λ_ z=>by cases z) o⟩,λx hx=>(q x hx).up S.tup⟩
theorem Ys{α:Type}{P:α->Addr->Prop}:∀{vs:List V},(∀v∈vs,∃d T,v=.ref d/\P T d) -> ∃es:List (α×Addr),vs=es.map (λe=>.ref e.2)/\∀e∈es,P e.1 e.2
 |[],_=>⟨[],rfl,λe h=>by cases h⟩
 | v::vs,h=>by
  obtain⟨es,rfl,q⟩:=Ys λu hu=>h u (av _ hu)
  obtain⟨d,T,rfl,p⟩:=h v aQ
  refine⟨(T,d)::es,rfl,λe he=>?_⟩
  rcases List.mem_cons.mp he with rfl|he
  .exact p
  .exact q e he
def K3(g:Nat->Addr)(ns:List Nat):(ns.map (kF g)).map (·.1)=ns.map λn:Nat=>(.inl (n:Int):Key):=by rw[aB];rfl
def bi1{g:Nat->Addr}{ns:List Nat}{n:Nat}(h:¬ n∈ns):Bf (ns.map (kF g)) (.inl (n:Int))=none:=by
 refine Ce λq=>h ?_
 rw[K3] at q
 obtain⟨m,hm,e⟩:=List.mem_map.mp q
 injection e with e
 have:m=n:=by omega
 exact this▸hm
def ao5(b:Bool)(x y:V):atI [x,y] (if b=true then 1 else 0)=some (if b=true then y else x):=by cases b <;> rfl
def bm9(Z:An K t):OkD K af2 (Av K t) bl (t.f 14) (t.d 14) (W0 K t):=by
 refine A5 (b82 K t) λvs H Q E h=>?_
 .obtain⟨a,ns,b,rfl,hS,k⟩:=h;refine⟨rfl,?_⟩
  have big:(1000:Nat)<sizeLine:=by decide
  refine⟨a,ns,0,rfl,hS,⟨by decide,by decide⟩,(show 2<=sizeLine by decide),λq hq=>⟨_,_,.inl (SqL.of Aa),ao5 b _ _,?_⟩⟩
  have S1:=Same.upd (o:=.lst [.int 24,.int 256]) hq
  generalize upd H q (.lst [.int 24,.int 256])=H1 at S1 ⊢
  refine⟨Ct ns 0/8,if b=true then 256 else 24,by cases b <;> rfl,by cases b <;> decide,by cases b <;> decide,λH2 W sw ζ l kk f S2 hW=>?_⟩
  have S02:=S1.trans S2
  refine⟨a,ns,1,rfl,S02.seqL hS,a,ns,2,rfl,S02.seqL hS,(show 2<=sizeLine by decide),λq2 hq2=>⟨_,_,.inl (SqL.of Aa),ao5 b _ _,?_⟩⟩
  have S3:=Same.upd (o:=.lst [.int 8,.int 3]) hq2
  generalize upd H2 q2 (.lst [.int 8,.int 3])=H3 at S3 ⊢
  obtain⟨m2,lm2,em2⟩:∃m:Nat,(1<=m/\m<=8)/\1+Ct ns 2%(if b=true then 3 else 8)=(m:Int):=by
   cases b
   .exact⟨(1+Ct ns 2%8).toNat,by omega,by show 1+Ct ns 2%8=_;omega⟩
   .exact⟨(1+Ct ns 2%3).toNat,by omega,by show 1+Ct ns 2%3=_;omega⟩
  have ev:(if b=true then V.int 3 else V.int 8)=V.int (if b=true then 3 else 8):=by cases b <;> rfl
  rw[ev]
  refine⟨by cases b <;> decide,Ct ns 1,m2,by rw[<- em2];rfl,lm2.2,λH4 nm ws S4 enm lws ndw z12=>?_⟩
  have S04:=S02.trans (S3.trans S4)
  refine⟨a,ns,2,rfl,S04.seqL hS,⟨by decide,by decide⟩,by decide,⟨by omega,by omega⟩,?_⟩
  obtain⟨m4,l4,em4⟩:∃m:Nat,(1<=m/\m<=4)/\1+Ct ns 2/8%4=(m:Int):=⟨(1+Ct ns 2/8%4).toNat,by omega,by omega⟩
  have em5:(1+Ct ns 2/8%4).toNat=m4:=by omega
  refine Hi (P:=λ_ v H'=>∃d T,v=.ref d/\TrAt any H' d T/\Bl T) (λ_ _ _ _ S ⟨d,T,e,h,o⟩=>⟨d,T,e,h.nl S,o⟩) (Bn 0 (1+Ct ns 2/8%4).toNat) (λ_ _=>aP) (by rw[A0];omega) (λj x H5 Q1 hj S5 q=>?_) λD H5 vs S5 hD eD lv hv=>?_
  .obtain⟨hj,rfl⟩:=C8 hj
   exact⟨a,ns,3,rfl,(S04.trans S5).seqL hS,Ct ns 3,j,nm,ws,rfl,S5 _ _ enm,ndw,by omega,λz hz=>(z12 z hz).2,λH6 d T S6 hT okT=>q _ H6 S6 ⟨d,T,rfl,hT,okT⟩⟩
  rw[A0,em5] at lv
  obtain⟨es,rfl,he⟩:=Ys λv hm=>by
   obtain⟨j,hj⟩:=List.mem_iff_getElem?.mp hm
   exact hv j v hj
  rw[ae] at lv
  have hW5:=hW
  have S25:=S3.trans (S4.trans S5)
  intro F hF
  refine .inl ⟨_,_,.inl (SqL.of ((S25.trans (Same.upd hF)) _ _ hW.at_)),rfl,.inl ⟨⟨_,SqL.of ((S25.trans (Same.upd hF)) _ _ hW.fr)⟩,?_⟩⟩
  have S6:=Same.upd (o:=.dK []) hF
  have e6:upd H5 F (.dK []) F=some (.dK (([]:List Nat).map (kF λ_=>0))):=Aa
  generalize upd H5 F (.dK [])=H6 at S6 e6 ⊢
  have d0:=es[0]'(by omega)
  have asc:=Lr sw ζ
  have ndf:(A8 sw ζ).Nodup:=asc.imp λh=>aN h
  have le256:(A8 sw ζ).length<=256:=by
   have:=cx (λn=>!Jb sw ζ n) (aV (Aj sw).length)
   rw[bo] at this
   exact aU this hW.ok.len
  refine A3 (Ay ((A8 sw ζ).map λn:Nat=>V.int (n:Int))) (λi σ H'=>(∃v7,σ=[some (.ref a),some (.bl b),some (.ref W),some (.ref nm),some (.int (1+Ct ns 2/8%4)),some (.ref D),some (.ref F),v7])/\Same H5 H'/\∃u:Nat->Nat,(∀n∈(A8 sw ζ).take i,u n<es.length)/\H' F=some (.dK (((A8 sw ζ).take i).map (kF λn=>(es.getD (u n) d0).2))))
   ⟨⟨_,rfl⟩,S6,λ_=>0,(λn hn=>by cases hn),e6⟩ (λ_ _ H' _ q=>(S25.trans q.2.1).seqL (SqL.of hW.fr)) ?_ ?_
  .rintro i x σ H7 hx ⟨⟨v7,rfl⟩,S7,u,hu,eF⟩
   obtain⟨n,hn,rfl⟩:=Am hx
   have S27:=S25.trans S7
   have S07:=S04.trans (S5.trans S7)
   refine⟨a,ns,4,rfl,S07.seqL hS,_,_,.inl (SqL.of (S27 _ _ hW.at_)),rfl,Ct ns 4,l,sw,n,m4,by rw[<- em4];rfl,hW.sws.mono (Kp.same S27),hW.ok,l4.1,λH8 v S8 hv2=>?_⟩
   have S78:=S7.trans S8
   have hv3:v<es.length:=by omega
   refine⟨_,_,.inl (SqL.of (S78 _ _ eD)),Cc (j:=v) (by rw[ak,ai hv3];rfl),.inr ⟨_,DPut.k (k:=.inl (n:Int)) (S8 _ _ eF) ?_,?_⟩⟩
   .rw[ae,aM];omega
   have nn:¬ n∈(A8 sw ζ).take i:=Et ndf hn
   rw[Fx _ (bi1 nn)]
   refine⟨⟨_,rfl⟩,S78.set hF,λm=>if m=n then v else u m,λm hm=>?_,?_⟩
   .show (if m=n then v else u m)<_
    rw[aJ,hn] at hm
    rcases List.mem_append.mp hm with hm|hm
    .rw[if_neg (λz:m=n=>nn (z▸hm))];exact hu m hm
    .obtain rfl:m=n:=by simpa using hm
     rw[if_pos rfl];exact hv3
   .rw[Aa,B0 hn]
    congr 3
    .refine bW λm hm=>?_
     show(_,V.ref (es.getD (u m) d0).2)=(_,V.ref (es.getD (if m=n then v else u m) d0).2)
     rw[if_neg (λz:m=n=>nn (z▸hm))]
    .show [((.inl (n:Int):Key),V.ref es[v].2)]=[(_,V.ref (es.getD (if n=n then v else u n) d0).2)]
     rw[if_pos rfl,au,ai hv3];rfl
  .rintro σ H7 ⟨⟨v7,rfl⟩,S7,u,hu,eF⟩
   rw[ae,aA] at hu eF
   refine .inl ⟨(show 3<=sizeLine by decide),λL hL=>?_⟩
   have S8:=Same.upd (o:=.lst [.ref W,.ref nm,.ref F]) hL
   have S28:=S25.trans (S7.trans S8)
   refine k _ L W nm F sw ζ l kk f ws (λn=>(es.getD (u n) d0).2) (λn=>(es.getD (u n) d0).1) (S04.trans (S5.trans (S7.trans S8))) Aa ((S5.trans (S7.trans S8)) _ _ enm) ⟨by omega,by omega,z12⟩ ⟨S28 _ _ hW.at_,hW.sws.mono (Kp.same S28),hW.ok,hW.rl.mono (Kp.same S28),hW.rok,hW.few,S28 _ _ hW.fr,hW.ne⟩ ⟨S8 _ _ eF,λn hn=>?_,es.map (·.1),by rw[ae];omega,λn hn=>?_⟩
   .have hg:es.getD (u n) d0=es[u n]'(hu n hn):=by rw[au,ai (hu n hn)];rfl
    have:=he _ (cJ (hu n hn))
    rw[hg]
    exact⟨this.1.nl (NL.same (S7.trans S8)),this.2⟩
   .have hg:es.getD (u n) d0=es[u n]'(hu n hn):=by rw[au,ai (hu n hn)];rfl
    show(es.getD (u n) d0).1∈_
    rw[hg]
    exact bA (cJ (hu n hn))
def b09(Z:An K t):OkD K ax8 (Av K t) bl (t.m_zbz 1) (t.e_zbz 1) (at8 K t):=by
 refine A5 (ce3 K t) λvs H Q E h=>?_
 .obtain⟨p,sw,ζ,rfl,⟨dx,d,l,n,s,kk,b,hp⟩,k⟩:=h;refine⟨rfl,?_⟩
  exact fY ⟨_,_,_,_,hp.ins.2,Z.pf.cl,(Z.pf.na _ (by simp)),rfl,k⟩
def bk4(Z:An K t):OkD K D_zai (Av K t) bl t.f_zai t.d_zai (as3 K t):=by
 refine A5 (b58 K t) λvs H Q E h=>?_
 .obtain⟨a,dx,rfl,e,k⟩:=h;refine⟨rfl,?_⟩
  intro d hd
  have ne:a≠d:=λz=>by rw[z,hd] at e;cases e
  exact .inl (.inl ⟨t.c_zca,dx,[],by rw[Ad ne];exact e,Z.pc,Z.pr,by decide,k d hd ne.symm⟩)
def bl2(Z:An K t):OkD K Xl (Av K t) bl (t.m_zca 4) (t.e_zca 4) (Wn K t):=by
 refine A5 (b66 K t) λvs H Q E h=>?_
 .obtain⟨p,dx,d,kvs,n,kd,q,r,v,rfl,e,ed,hl,k⟩:=h;refine⟨rfl,?_⟩
  refine⟨(show 4<=sizeLine by decide),λa ha=>?_⟩
  have n1:p≠a:=λz=>by rw[z,ha] at e;cases e
  have n2:d≠a:=λz=>by rw[z,ha] at ed;cases ed
  exact fY ⟨_,_,_,.ref d,(by rw[Ad n1];exact e),Z.pc,Z.pr,rfl,⟨_,DPut.k (k:=.inr n) (by rw[Ad n2];exact ed) (bb hl (by decide)),k a ha⟩⟩
def b20(Z:An K t):OkD K ay4 (Av K t) bl (t.m_zca 5) (t.e_zca 5) (au8 K t):=by
 refine A5 (cf3 K t) λvs H Q E h=>?_
 .obtain⟨p,T,rfl,⟨dx,d,⟨_,e⟩,es,et,⟨_,ed⟩,_⟩,o,k⟩:=h;refine⟨rfl,?_⟩
  have ek:(es.map kT).map (·.1)=(T.map (·.1)).map (du:Str->Key):=by rw[K6,<- et,aB];simp[aB,Function.comp_def]
  have l8:(T.map (·.1)).length<=8:=by rw[ae];exact o.2.1
  have nd:=o.1
  generalize T.map (·.1)=zs at ek k l8 nd
  exact fY ⟨_,_,_,.ref d,e,Z.pc,Z.pr,rfl,.inr ⟨rfl,.inl ⟨d,zs,rfl,.inr ⟨_,.inl ed,ek⟩,nd,by omega,k⟩⟩⟩
theorem TrAt.up(h:TrAt ok H d T)(S:Same H H'):TrAt ok H' d T:=let⟨es,e,⟨q,o⟩,z⟩:=h;⟨es,e,⟨q,S _ _ o⟩,λx hx=>(z x hx).up (NL.same S).tup⟩
theorem PlAt.up(h:PlAt C ok H p T)(S:Same H H'):PlAt C ok H' p T:=let⟨dx,d,⟨q,o⟩,z⟩:=h;⟨dx,d,⟨q,S _ _ o⟩,z.up S⟩
def am9(ha:H a=none)(hdx:H dx=none)(ne:dx≠a)(hd0:upd (upd H dx (.own a)) a (.ins C dx []) d0=none) :
  H d0=none/\Same H (upd (upd (upd (upd H dx (.own a)) a (.ins C dx [])) d0 (.dK [])) a (.ins C dx [("records", .ref d0)]))/\upd (upd (upd (upd H dx (.own a)) a (.ins C dx [])) d0 (.dK [])) a (.ins C dx [("records", .ref d0)]) d0=some (.dK []):=by
 have n1:d0≠a:=λc=>by rw[c,Aa] at hd0;cases hd0
 have n2:d0≠dx:=λc=>by rw[c,Ad ne,Aa] at hd0;cases hd0
 have hd1:H d0=none:=by rw[Ad n1,Ad n2] at hd0;exact hd0
 exact⟨hd1,(((Same.upd hdx).set ha).set hd1).set ha,by rw[Ad n1,Aa]⟩
def b16(Z:An K t):OkD K ay2 (Av K t) bl (t.m_zca 2) (t.e_zca 2) (au4 K t):=by
 refine A5 (ce9 K t) λvs H Q E h=>?_
 .obtain⟨p,T,rfl,hP,k⟩:=h;refine⟨rfl,?_⟩
  intro a dx ha hdx ne
  refine⟨a,dx,rfl,Aa,λd0 hd0 _=>⟨rfl,?_⟩⟩
  obtain⟨_,S1,_⟩:=am9 ha hdx ne hd0
  have ea:upd (upd (upd (upd H dx (.own a)) a (.ins t.c_zca dx [])) d0 (.dK [])) a (.ins t.c_zca dx [("records", .ref d0)]) a=some (.ins t.c_zca dx [("records", .ref d0)]):=Aa
  generalize upd (upd (upd (upd H dx (.own a)) a (.ins t.c_zca dx [])) d0 (.dK [])) a (.ins t.c_zca dx [("records", .ref d0)])=H1 at S1 ea ⊢
  obtain⟨dx1,d,⟨_,e1⟩,es,et,⟨_,ed⟩,he⟩:=hP.up S1
  refine fY ⟨_,_,_,.ref d,e1,Z.pc,Z.pr,rfl,⟨d,_,rfl,.inl ed,λq hq=>?_⟩⟩
  have S2:=Same.upd (o:=.dK (es.map kT)) hq
  have eq:upd H1 q (.dK (es.map kT)) q=some (.dK (es.map kT)):=Aa
  have he2:∀e∈es,RcAt (upd H1 q (.dK (es.map kT))) e.2 e.1.2:=λe h=>(he e h).up (NL.same S2).tup
  generalize upd H1 q (.dK (es.map kT))=H2 at S2 eq he2 ⊢
  have ea2:=S2 _ _ ea
  refine .inl ⟨_,_,_,ea2,Z.pc,Z.pr,(show 1<1000 by decide),k _ a ((S1.trans S2).set ha) ⟨dx,q,⟨trivial,Aa⟩,es,et,⟨trivial,by rw[Ad λz=>by rw[z,ea2] at eq;cases eq];exact eq⟩,λe h=>(he2 e h).up λb ys e=>?_⟩⟩
  rw[Ad λz=>by rw[z,ea2] at e;cases e];exact e
theorem av6:∀{zs:List Str}{vs:List V},vs.length=zs.length->(∀(i:Nat) v z,vs[i]?=some v->zs[i]?=some z->TkAt H (F z) v)->A7 H (zs.map F) vs
 |[],[],_,_=>by rw[fg];unfold A7;rfl
 |[],_::_,h,_=>by cases h
 |_::_,[],h,_=>by cases h
 |z::zs,v::vs,h,g=>by rw[aT];unfold A7;exact⟨v,vs,rfl,g 0 v z rfl rfl,av6 (by simpa using h) λi v z h1 h2=>g (i+1) v z h1 h2⟩
def b06(Z:An K t):OkD K ax6 (Av K t) bl (t.m_zca 10) (t.e_zca 10) (at6 K t):=by
 refine A5 (ce0 K t) λvs H Q E h=>?_
 .obtain⟨p,T,rfl,hP,o,k⟩:=h;refine⟨rfl,?_⟩
  have big:(1000:Nat)<sizeLine:=by decide
  obtain⟨dx,d,⟨_,e⟩,es,et,⟨_,ed⟩,he⟩:=id hP
  have nde:(es.map (·.1.1)).Nodup:=by have:=o.1;rw[<- et,aB] at this;exact this
  refine⟨p,dx,_,⟨t.c_zca,by3 K t⟩,rfl,.head _,e,rfl,⟨ag _,ag _⟩,⟨p,T,rfl,hP,o,λl hl=>?_⟩⟩
  have S1:=Same.upd (o:=Bd (Bx ltS (T.map (·.1)))) hl
  have e1:upd H l (Bd (Bx ltS (T.map (·.1)))) l=some (Bd (Bx ltS (T.map (·.1)))):=Aa
  have pm:=Ar ltS (T.map (·.1))
  have hm:∀n∈Bx ltS (T.map (·.1)),n∈T.map (·.1):=λn hn=>pm.mem_iff.mp hn
  have lm:=pm.length_eq
  have hvk:vkT T=.tup ((Bx ltS (T.map (·.1))).map λn=>.tup [.at_ (.inr n),aa6 T n]):=rfl
  rw[hvk] at k
  rw[ae] at lm
  have l8:=o.2.1
  generalize Bx ltS (T.map (·.1))=zs at S1 e1 hm lm k ⊢
  refine .inl ⟨⟨_,SqL.of e1⟩,?_⟩
  generalize upd H l (Bd zs)=H1 at S1 e1 ⊢
  refine Hi (P:=λi v H'=>∀z,zs[i]?=some z->TkAt H' (.tup [.at_ (.inr z),aa6 T z]) v) (λi v _ _ S q z hz=>(q z hz).up S.tup) (Ay (zs.map V.str)) (λH2 S2=>S2.seqL (SqL.of e1)) (by rw[ae];omega) (λi x H2 Q1 hx S2 q=>?_) λD H2 vs S2 hD eD lv hv=>?_
  .obtain⟨z,hz,rfl⟩:=Am hx
   have S02:=S1.trans S2
   obtain⟨⟨z',x⟩,hx1,hx2⟩:=List.mem_map.mp (hm z (aj hz))
   obtain rfl:z'=z:=hx2
   rw[<- et] at hx1
   obtain⟨e',he',ee⟩:=List.mem_map.mp hx1
   obtain⟨j,hj⟩:=List.mem_iff_getElem?.mp he'
   have hv:=Lz nde hj
   have hr:=he e' he'
   rw[ee] at hv hr
   refine fY ⟨_,_,_,.ref d,S02 _ _ e,Z.pc,Z.pr,rfl,⟨.ref e'.2,.inl ⟨_,.inr z',.inl (S02 _ _ ed),rfl,hv.symm⟩,(show 2<=sizeLine by decide),λB hB=>q _ _ (Same.upd hB) λz2 hz2=>?_⟩⟩
   rw[hz] at hz2
   cases hz2
   have rt:=V3 (Qc o.1 (by rw[<- et];exact hx1))
   rw[rt]
   refine⟨B,_,rfl,Aa,?_⟩
   unfold A7;refine⟨_,_,rfl,by unfold TkAt;rfl,?_⟩
   unfold A7;refine⟨_,_,rfl,hr.tk.up (NL.same (S02.trans (Same.upd hB))).tup,?_⟩
   unfold A7;rfl
  .rw[ae] at lv
   refine⟨_,.inl ⟨SqL.of eD,λB hB=>k _ B (S1.trans (S2.trans (Same.upd hB))) ?_⟩⟩
   unfold TkAt
   exact⟨B,vs,rfl,Aa,av6 lv λi v z h1 h2=>(hv i v h1 z h2).up (NL.same (Same.upd hB)).tup⟩
def bf5(m n:Nat):decide (cA ((m:Int)/2^((n:Int)).toNat) 1=1)=m.testBit n:=by
 rw[aY,Ev,<- Int.natCast_ediv,show(1:Int)=((1:Nat):Int) from rfl,E0,Nat.and_one_is_mod,Nat.testBit_eq_decide_div_mod_eq]
 exact decide_eq_decide.mpr (by omega)
def bn5(Z:An K t):OkD K af8 (Av K t) bl (t.f 15) (t.d 15) (Q0 K t):=by
 refine A5 (b88 K t) λvs H Q E h=>?_
 .obtain⟨c,n,rfl,k⟩:=h;refine⟨rfl,?_⟩
  rw[<- bf5] at k
  exact⟨by omega,k⟩
def bits(c:Nat):Nat:=iK (c:Int)
def az5(c:Nat):c<2^bits c:=by
 have h:=(kW (m:=bits c)).mp (ag _)
 simpa using h
def az4(h:c<2^m):bits c<=m:=(kW).mpr (h)
def b18(Z:An K t):OkD K be7 (Av K t) bl (t.f 16) (t.d 16) (au6 K t):=by
 refine A5 (cf1 K t) λvs H Q E h=>?_
 .obtain⟨c,o,rfl,ho,hc,k⟩:=h;refine⟨rfl,?_⟩
  have hbl:=az4 hc
  refine⟨rfl,_,rfl,rfl,⟨by show -(2^62)<=((bits c:Nat):Int);omega,by show((bits c:Nat):Int)<2^62;omega⟩,?_⟩
  refine A3 (Bn 0 (bits c)) (λm σ H'=>(∃v,σ=[some (.int (c:Int)),v])/\H'=H/\∀n,o=some n->m<=n) ⟨⟨_,rfl⟩,rfl,λ_ _=>bw _⟩ (λ_ _ _ _ _=>aP) ?_ ?_
  .rintro m x σ H1 hx ⟨⟨v,rfl⟩,rfl,no⟩
   obtain⟨hm,rfl⟩:=C8 hx
   refine⟨c,m,rfl,?_⟩
   cases o with
   |none=>
    have ho:=ho
    have hz:c.testBit m=false:=by rw[ho];exact cK m
    rw[hz];exact⟨⟨_,rfl⟩,rfl,λ_ z=>by cases z⟩
   |some n=>
    obtain⟨hb,hn⟩:=ho
    rcases Nat.eq_or_lt_of_le (no n rfl) with rfl|h
    .rw[hb];exact k
    .rw[hn m h];exact⟨⟨_,rfl⟩,rfl,λ_ z=>by cases z;exact h⟩
  .rintro σ H1 ⟨⟨v,rfl⟩,rfl,no⟩
   rw[A0] at no
   cases o with
   |none=>exact .inl k
   |some n=>
    obtain⟨hb,hn⟩:=ho
    rw[Nat.testBit_lt_two_pow (aL (az5 c) (iG (by decide) (no n rfl)))] at hb
    cases hb
def bl8(Z:An K t):OkD K ae2 (Av K t) bl (t.f 32) (t.d 32) (Ws K t):=by
 refine A5 (b71 K t) λvs H Q E h=>?_
 .obtain⟨d0,T,rfl,hT,oT,k⟩:=h;refine⟨rfl,?_⟩
  intro p dx hp0 hdx nep
  refine⟨p,dx,rfl,Aa,λd hd0 npd=>⟨rfl,?_⟩⟩
  obtain⟨hd,S1,e1d⟩:=am9 hp0 hdx nep hd0
  have e1p:upd (upd (upd (upd H dx (.own p)) p (.ins t.c_zca dx [])) d (.dK [])) p (.ins t.c_zca dx [("records", .ref d)]) p=some (.ins t.c_zca dx [("records", .ref d)]):=Aa
  generalize upd (upd (upd (upd H dx (.own p)) p (.ins t.c_zca dx [])) d (.dK [])) p (.ins t.c_zca dx [("records", .ref d)])=H1 at S1 e1d e1p ⊢
  obtain⟨es,et,⟨_,ed⟩,he⟩:=hT.up S1
  have nde:(es.map (·.1.1)).Nodup:=by have:=oT.1;rw[<- et,aB] at this;exact this
  have l8:=oT.2.1
  have le:es.length=T.length:=by rw[<- et,ae]
  have ndd:d≠d0:=λz=>by
   obtain⟨es2,_,⟨_,e2⟩,_⟩:=hT
   rw[<- z,hd] at e2;cases e2
  have npd0:p≠d0:=λz=>by rw[z,ed] at e1p;cases e1p
  refine .inr (.inr (.inl (.inl ⟨_,ed,λo=>?_⟩)))
  have ef:upd H1 d0 (.frz o (.dK (es.map kT))) d0=some (.frz o (.dK (es.map kT))):=Aa
  have tf:=Lm (o:=.frz o (.dK (es.map kT))) (.inl ed)
  have efd:upd H1 d0 (.frz o (.dK (es.map kT))) d=some (.dK []):=by rw[Ad ndd];exact e1d
  have efp:upd H1 d0 (.frz o (.dK (es.map kT))) p=some (.ins t.c_zca dx [("records", .ref d)]):=by rw[Ad npd0];exact e1p
  have of:∀b u,b≠d0->H1 b=some u->upd H1 d0 (.frz o (.dK (es.map kT))) b=some u:=λb u nb e=>by rw[Ad nb];exact e
  generalize upd H1 d0 (.frz o (.dK (es.map kT)))=Hf at ef tf efd efp of ⊢
  refine A3 (Dc (es.map kT)) (λi σ H'=>(∃v2 v3 v4 v5 v6,σ=[some (.ref d0),some (.ref p),v2,v3,v4,v5,v6])/\(∀a u,a≠d->Hf a=some u->H' a=some u)/\∃fs,fs.map (·.1)=T.take i/\H' d=some (.dK (fs.map kT))/\∀e∈fs,RcAt H' e.2 e.1.2)
   ⟨⟨_,_,_,_,_,rfl⟩,(λ_ _ _ e=>e),[],rfl,efd,λe h=>by cases h⟩ (λ_ _ H' _ q=>q.2.1 _ _ ndd.symm ef) ?_ ?_
  .rintro i x σ H2 hx ⟨⟨v2,v3,v4,v5,v6,rfl⟩,B2,fs,ft,e2d,hf⟩
   rw[aB] at hx
   obtain⟨e,hi,rfl⟩:=Am hx
   have tt:∀b ys,H1 b=some (.tup ys)->H2 b=some (.tup ys):=λb ys q=>B2 _ _ (λz=>by rw[z,e1d] at q;cases q) (tf _ _ q)
   obtain⟨v,er,tk⟩:=(he e (aj hi)).up tt
   have hiT:T[i]?=some e.1:=by rw[<- et,ak,hi];rfl
   have nn:¬ e.1.1∈fs.map (·.1.1):=λz=>by
    have:e.1.1∈(T.take i).map (·.1):=by rw[<- ft,aB];exact z
    rw[jC] at this
    exact Et oT.1 (show(T.map (·.1))[i]?=some e.1.1 by rw[ak,hiT];rfl) this
   have lf:fs.length<=8:=by
    have:=congrArg cE ft
    rw[ae,aM] at this
    omega
   refine⟨.ref e.2,.inl ⟨_,.inr e.1.1,.inr ⟨o,B2 _ _ ndd.symm ef⟩,rfl,(Lz nde hi).symm⟩,_,.inl (SqT.of er),rfl,?_⟩
   refine⟨p,dx,_,⟨t.c_zca,ba8 K t⟩,rfl,.head _,B2 _ _ (cg npd) efp,rfl,⟨ag _,ag _⟩,⟨p,dx,d,_,e.1.1,e.1.2.k,e.1.2.p,e.1.2.r,v,rfl,B2 _ _ (cg npd) efp,e2d,by rw[ae];exact lf,λa ha=>?_⟩⟩
   have nda:=Ai e2d ha
   have Sa:=Same.upd (o:=.tup [.str e.1.2.k,.str e.1.2.p,.int e.1.2.r,v]) ha
   have ea:upd H2 a (.tup [.str e.1.2.k,.str e.1.2.p,.int e.1.2.r,v]) a=some (.tup [.str e.1.2.k,.str e.1.2.p,.int e.1.2.r,v]):=Aa
   generalize upd H2 a (.tup [.str e.1.2.k,.str e.1.2.p,.int e.1.2.r,v])=H3 at Sa ea ⊢
   have tu:=Lm (o:=.dK ((fs++[(e.1,a)]).map kT)) (.inl (Sa _ _ e2d))
   rw[X7 nn]
   refine⟨⟨_,_,_,_,_,rfl⟩,λb u nb q=>by rw[Ad nb];exact Sa _ _ (B2 b u nb q),_,?_,Aa,λf hf2=>?_⟩
   .rw[aq,ft,aJ,hiT];rfl
   .rcases List.mem_append.mp hf2 with h|h
    .exact ((hf f h).up (NL.same Sa).tup).up tu
    .obtain rfl:f=(e.1,a):=by simpa using h
     exact RcAt.up tu ⟨v,ea,tk.up (NL.same Sa).tup⟩
  .rintro σ H2 ⟨⟨v2,v3,v4,v5,v6,rfl⟩,B2,fs,ft,e2d,hf⟩
   rw[ae,ae,le,aA] at ft
   have e2f:=B2 _ _ ndd.symm ef
   refine .inr ⟨d0,o,_,ed,e2f,k _ p (λb u q=>?_) ⟨dx,d,⟨trivial,by rw[Ad npd0];exact B2 _ _ (cg npd) efp⟩,fs,ft,⟨trivial,by rw[Ad ndd];exact e2d⟩,λf h=>(hf f h).up (Lm (.inr ⟨o,e2f⟩))⟩⟩
   by_cases hb:b=d0
   .subst hb
    rw[Aa,<- ed,S1 _ _ q]
   .rw[Ad hb]
    exact B2 _ _ (λz=>by rw[z,hd] at q;cases q) (of _ _ hb (S1 _ _ q))
def bm5(Z:An K t):OkD K D_zbd (Av K t) bl (t.f 17) (t.d 17) (Wx K t):=by
 intro P w mg base dV F T
 obtain⟨oc,od,kV,doc,pm,an,θ,ct,osl,ef,lk,hcd⟩:=F.ex
 have hl:(match (t.d 17).code with
  |.ref c=>dR K c 294
  |_=>false)=true:=by
  have:=Z.lam
  unfold L8 at this
  rw[lk] at this
  exact this
 obtain⟨c,hcode,hc⟩:∃c,(t.d 17).code=.ref c/\dR K c 294=true:=by
  cases e:(t.d 17).code with
  |ref c=>rw[e] at hl;exact⟨c,rfl,hl⟩
  |_=>rw[e] at hl;cases hl
 have T5:=T 5 (by decide)
 have T2:=T 2 (by decide)
 obtain⟨hb1,hb2⟩:=T5.1 "__builtins__" (.val (.ref 4) (t.u 0)) (List.mem_filterMap.mpr ⟨⟨0,"__builtins__", .val (.ref 4) (t.u 0)⟩,aH _ (bx _ aQ),rfl⟩)
 have hbm:mg "__builtins__"=some (.ref 4):=by rw[hb1];exact congrArg some hb2
 refine bh1 (m:=40) (n:=40) (N:=D_zbd.N) (N':=["pair"]) (dl:=b78 K t) (da:=Ab 0) F (ScOk.fn (by decide +kernel)) (by decide +kernel) T5 T2 rfl (by decide +kernel) (T5.2 _ (by decide)) rfl hcode hc hbm (λ_=>rfl) (λ_=>rfl) (ScOk.fn (by decide +kernel)) (by decide +kernel) rfl (λ_ _ _ _ _=>rfl) (by kernel_rfl) (by kernel_rfl) (λvs H Q E h=>?_) (λvs H Q E h=>?_)
 .obtain⟨b,es,rfl,_⟩:=h;rfl
 .obtain⟨b,es,rfl,⟨hP,ob,u,hB,b1,b2,b3⟩,eb,l64,asc,one,k⟩:=h
  have e2:(es.map λe=>(((e.1.2.1:Nat):Int),V.ref e.2.2)).map (·.2)=es.map λe=>V.ref e.2.2:=by rw[aB];rfl
  refine⟨.ref b,rfl,b,ob,u,es.map λe=>(((e.1.2.1:Nat):Int),V.ref e.2.2),rfl,by rw[e2];exact SqL.of eb,by rw[ae];exact l64,?_,hP,hB,⟨b1,b2,b3⟩,λd hd H3 O3=>?_,λH' D O _ e=>k H' D O (by rw[e,e2])⟩
  .rw[aB]
   have:=hX (S:=λa b=>a<b) (λn:Nat=>(n:Int)) (λa b h=>by omega) asc
   rw[aB] at this
   exact this
  .obtain⟨e,he,rfl⟩:=List.mem_map.mp hd
   obtain⟨h1,h2,h3,h4⟩:=one e he
   have e3:=O3 _ _ (λz=>by rw[z,hP] at h1;cases h1) h1
   exact⟨_,_,.inr (SqT.of e3),rfl,e.1.2.2,some e.1.2.1,rfl,⟨h2,h3⟩,h4,rfl,Same.refl _⟩
def bg0{p:Addr}{o:Obj}{kvs:List (TK×V)}{g:DG}{tc:DT}{te:DE}{L:Addr}{R:Hp->Prop}{σ:St}{H:Hp}{E:EK}(Pv:Nat->St->Hp->Prop)(h0:Pv 0 σ H)(hok:∀i σ H,Pv i σ H->H p=some (.frz o (.dT kvs)))(hs:∀i k v b σ H,kvs[i]?=some (k,v)->Ap k<=8/\TkAt H k (.ref b)->Pv i σ H->g (.ref b) σ H λσ3 H3=>tc σ3 H3 (λb H4=>if b=true then te σ3 H4 (λv H5=>∃ys,H5 L=some (.lst ys)/\ys.length<sizeLine/\Pv (i+1) σ3 (upd H5 L (.lst (ys++[v])))) E else Pv (i+1) σ3 H4) E)(hd:∀ σ H,Pv kvs.length σ H->R H):Ez (ay7 p o kvs) g tc te L R σ H E:=by
 refine⟨λi m σ H=>m=kvs.length-i/\i<=kvs.length/\Pv i σ H,⟨kvs.length,by simp,bw _,h0⟩,?_⟩
 rintro i m σ H ⟨rfl,hi,q⟩
 by_cases hlt:i<kvs.length
 .refine .inr ⟨⟨hok i σ H q,hlt⟩,Pv (i+1),λσ' H' p'=>⟨kvs.length-(i+1),by omega,rfl,hlt,p'⟩,λx H' y=>?_⟩
  obtain⟨rfl,k,v,h1,h2,h3,b,rfl⟩:=y
  exact hs i k v b σ _ h1 ⟨h2,h3⟩ q
 .have e:i=kvs.length:=by omega
  subst e
  exact .inl ⟨⟨hok _ σ H q,ag _⟩,hd σ H q⟩
abbrev gK(g:Gp):TK×V:=(g.1,.int (g.2.2:Int))
def Kx(gs:List Gp):(gs.map gK).map (·.1)=gs.map (·.1):=by rw[aB];rfl
def any_mem{κ:Type} [DecidableEq κ]{kvs:List (κ×V)}{k:κ}:(kvs.any λkv=>decide (kv.1=k))=true↔k∈kvs.map (·.1):=by
 rw[fJ,ar]
 exact⟨fun⟨x,h,e⟩=>⟨x,h,of_decide_eq_true e⟩,fun⟨x,h,e⟩=>⟨x,h,decide_eq_true e⟩⟩
def O7{κ:Type} [DecidableEq κ](kvs:List (κ×V))(k:κ)(v:V):(Cj kvs k v).map (·.1)=if k∈kvs.map (·.1) then kvs.map (·.1) else kvs.map (·.1)++[k]:=by
 unfold Cj
 by_cases h:k∈kvs.map (·.1)
 .rw[if_pos (any_mem.mpr h),if_pos h,aB]
  exact bW λkv _=>by show(if _ then _ else _:κ×V).1=_;split <;> rfl
 .rw[if_neg (λz=>h (any_mem.mp z)),if_neg h,aq];rfl
def aa2(gs:List Gp)(k:TK)(n:Nat):(Ia gs k n).map (·.1)=if k∈gs.map (·.1) then gs.map (·.1) else gs.map (·.1)++[k]:=by
 unfold Ia
 by_cases h:k∈gs.map (·.1)
 .rw[if_pos h,if_pos h,aB]
  exact bW λg _=>by show(if _ then _ else _:Gp).1=_;split <;> rfl
 .rw[if_neg h,if_neg h,aq];rfl
def ap3{κ:Type} [DecidableEq κ]{kvs:List (κ×V)}{k:κ}{v:V}{x:κ×V}(h:x∈Cj kvs k v):x∈kvs\/(x.1=k/\x.2=v):=by
 unfold Cj at h
 split at h
 .obtain⟨y,hy,rfl⟩:=List.mem_map.mp h
  split
  .exact .inr ⟨‹_›,rfl⟩
  .exact .inl hy
 .rcases List.mem_append.mp h with h|h
  .exact .inl h
  .obtain rfl:x=(k,v):=by simpa using h
   exact .inr ⟨rfl,rfl⟩
def a47{gs:List Gp}{n:Nat}(k:TK)(h:GInv n gs):∃old:Nat,(Bf (gs.map gK) k).getD (.int 0)=.int (old:Int)/\Cj (gs.map gK) k (.int ((old ||| 2^n:Nat):Int))=(Ia gs k n).map gK:=by
 have nd:((gs.map gK).map (·.1)).Nodup:=by rw[Kx];exact h.nd
 by_cases hk:k∈gs.map (·.1)
 .obtain⟨g,hg,rfl⟩:=List.mem_map.mp hk
  obtain⟨j,hj⟩:=List.mem_iff_getElem?.mp hg
  refine⟨g.2.2,by rw[Bm nd (by rw[ak,hj];rfl)];rfl,?_⟩
  unfold Cj Ia
  rw[if_pos (any_mem.mpr (by rw[Kx];exact hk)),if_pos hk,aB,aB]
  refine bW λg' hg'=>?_
  show(if g'.1=g.1 then(g'.1,V.int ((g.2.2 ||| 2^n:Nat):Int)) else gK g')=gK (if g'.1=g.1 then _ else g')
  split
  .rename_i e
   have:g'=g:=by
    obtain⟨i,hi⟩:=List.mem_iff_getElem?.mp hg'
    have l1:=Ak hi
    have l2:=Ak hj
    rw[ai l1] at hi
    rw[ai l2] at hj
    have:=(dA (h₀:=by rw[ae];exact l1) (h₁:=by rw[ae];exact l2) h.nd).mp (by rw[cV,cV,az hi,az hj,e])
    subst this
    exact(az hi).symm.trans (az hj)
   rw[this]
  .rfl
 .have hv:=Ce (by rw[Kx];exact hk)
  refine⟨0,by rw[hv];rfl,?_⟩
  rw[Fx _ hv,a46 hk,aq,Nat.zero_or]
  rfl
def PlAt.keep{C:Addr}{H H':Hp}{p:Addr}{T:Tr}(h:PlAt C any H p T)(n:∀a o,(∀l,o≠.dT l)->H a=some o->H' a=some o):PlAt C any H' p T:=
 let⟨dx,d,⟨_,o⟩,es,e,⟨_,q⟩,z⟩:=h
 ⟨dx,d,⟨trivial,n _ _ (λ_ z=>by cases z) o⟩,es,e,⟨trivial,n _ _ (λ_ z=>by cases z) q⟩,λx hx=>(z x hx).up λb ys=>n b _ λ_ z=>by cases z⟩
def Vq{H:Hp}{a:Addr}{l:List (TK×V)}{o:HO}(h:H a=some (.dT l)):∀b u,(∀l,u≠.dT l)->H b=some u->upd H a o b=some u:=λb u n e=>by rw[Ad λz=>by rw[z,h] at e;cases e;exact n _ rfl];exact e
def az0{A n:Nat}(h:A.testBit n=true):cA ((2^n:Nat):Int) (A:Int)=((2^n:Nat):Int):=by
 rw[E0]
 congr 1
 refine eI λj=>?_
 rw[fX,cN]
 by_cases e:n=j
 .subst e;rw[h,gS]
 .rw[decide_eq_false e];rfl
def NB(H H':Hp):Prop:=∀a o,(∀x,o≠.tbl x)->H a=some o->H' a=some o
def NB.of{P:Addr}{H H':Hp}{x:Array Value}(O:Rs P H H')(h:H P=some (.tbl x)):NB H H':=λa o n e=>O _ _ (λz=>by rw[z,h] at e;cases e;exact n _ rfl) e
def NB.tu{H H':Hp}(n:NB H H'){a:Addr}{xs:List V}(e:H a=some (.tup xs)):H' a=some (.tup xs):=n _ _ (λ_ z=>by cases z) e
def PlAt.nb{C:Addr}{H H':Hp}{p:Addr}{T:Tr}(h:PlAt C any H p T)(n:NB H H'):PlAt C any H' p T:=
 let⟨dx,d,⟨_,o⟩,es,e,⟨_,q⟩,z⟩:=h
 ⟨dx,d,⟨trivial,n _ _ (λ_ z=>by cases z) o⟩,es,e,⟨trivial,n _ _ (λ_ z=>by cases z) q⟩,λx hx=>(z x hx).up λb ys=>n b _ λ_ z=>by cases z⟩
theorem PlAt.nl{C:Addr}{H H':Hp}{p:Addr}{T:Tr}(h:PlAt C any H p T)(n:NL H H'):PlAt C any H' p T:=
 let⟨dx,d,⟨_,o⟩,z⟩:=h
 ⟨dx,d,⟨trivial,n _ _ (λ_ z=>by cases z) o⟩,z.nl n⟩
def bl5(Z:An K t):OkD K ad9 (Av K t) bl (t.f 18) (t.d 18) (Wq K t):=by
 refine A5 (b68 K t) λvs H Q E h=>?_
 .obtain⟨A,l,ns,tr,rs,rfl,hst,hR,hn,asc,few,k⟩:=h;refine⟨rfl,?_⟩
  have big:(1000:Nat)<sizeLine:=by decide
  have f4:=X5 asc few
  intro sx hsx
  refine .inr ?_
  have S1:=Same.upd (o:=.dT []) hsx
  have e1:upd H sx (.dT []) sx=some (.dT []):=Aa
  generalize upd H sx (.dT [])=H1 at S1 e1 ⊢
  intro px hpx
  refine .inr ?_
  have S2:=S1.trans (Same.upd (o:=.dT []) hpx)
  have fpx:=S1.free hpx
  have nsp:=Ai e1 hpx
  have e2s:upd H1 px (.dT []) sx=some (.dT (([]:List Gp).map gK)):=by rw[Ad nsp];exact e1
  have e2p:upd H1 px (.dT []) px=some (.dT []):=Aa
  generalize upd H1 px (.dT [])=H2 at S2 e2s e2p ⊢
  refine .inl ⟨⟨_,SqL.of (S2 _ _ hR.at_)⟩,?_⟩
  refine A3 (Ay (rs.map λr=>V.ref r.2.1)) (λi σ H'=>(∃v4 v5 v6,σ=[some (.int (A:Int)),some (.ref l),some (.ref sx),some (.ref px),v4,v5,v6])/\Same H H'/\H' sx=some (.dT ((Co (λn=>vkT (tr n)) (ns.take i)).map gK))/\∃kp,H' px=some (.dT kp)/\kp.map (·.1)=(Co (λn=>vkT (tr n)) (ns.take i)).map (·.1)/\∀x∈kp,∃p T,x.2=.ref p/\PlAt t.c_zca any H' p T/\Bl T/\vkT T=x.1)
   ⟨⟨_,_,_,rfl⟩,S2,e2s,[],e2p,rfl,λx hx=>by cases hx⟩ (λ_ _ H' _ q=>q.2.1.seqL (SqL.of hR.at_)) ?_ ?_
  .rintro i x σ H3 hx ⟨⟨v4,v5,v6,rfl⟩,S3,e3s,kp,e3p,ek,hk⟩
   obtain⟨⟨n,T,p⟩,hi,rfl⟩:=Am hx
   have hi2:ns[i]?=some n:=by rw[<- hR.nms,ak,hi];rfl
   obtain⟨eT,hP⟩:=hR.one _ (aj hi)
   obtain⟨okT,bt,_⟩:=hn n (aj hi2)
   have gi:=Ho (f:=λn=>vkT (tr n)) asc i n (Lf asc hi2)
   have st:=Fq (f:=λn=>vkT (tr n)) hi2
   have f4i:=f4 i
   generalize hgs:Co (λn=>vkT (tr n)) (ns.take i)=gs at e3s ek gi st f4i
   have ab:=az0 bt
   refine⟨_,.inl (SqT.of (S3 _ _ eT)),rfl,?_⟩
   have pos:=ke n
   refine Ht (by
    show(!decide (cA ((2^n:Nat):Int) (A:Int)=0))=true
    rw[ab,decide_eq_false (by omega)];rfl) ?_
   have hP3:=PlAt.up hP S3
   obtain⟨dx,d,⟨_,ep⟩,_⟩:=id hP3
   refine⟨p,dx,_,⟨t.c_zca,bx8 K t⟩,rfl,.head _,ep,rfl,⟨ag _,ag _⟩,⟨p,tr n,rfl,hP3,okT,λH4 b S4 tk=>?_⟩⟩
   have dk:Ap (vkT (tr n))<=8/\TkAt H4 (vkT (tr n)) (.ref b):=⟨bu7 okT,tk⟩
   obtain⟨old,ho,hp⟩:=a47 (vkT (tr n)) gi
   refine⟨.inr (.inr (.inl ⟨rfl,.inr ⟨_,S4 _ _ e3s⟩⟩)),_,DGet.t (S4 _ _ e3s) dk,?_⟩
   rw[ho]
   show ∃H',DPut H4 sx (.ref b) (.int (cT (old:Int) (cA ((2^n:Nat):Int) (A:Int)))) H'/\_
   rw[ab,Ee]
   refine⟨_,DPut.t (S4 _ _ e3s) dk (by rw[ae];omega),?_⟩
   rw[hp,<- st]
   have nt5:=Vq (o:=.dT ((Co (λn=>vkT (tr n)) (ns.take (i+1))).map gK)) (S4 _ _ e3s)
   have e5s:upd H4 sx (.dT ((Co (λn=>vkT (tr n)) (ns.take (i+1))).map gK)) sx=some (.dT ((Co (λn=>vkT (tr n)) (ns.take (i+1))).map gK)):=Aa
   have e5p:upd H4 sx (.dT ((Co (λn=>vkT (tr n)) (ns.take (i+1))).map gK)) px=some (.dT kp):=by rw[Ad nsp.symm];exact S4 _ _ e3p
   have S5:=(S3.trans S4).set (o:=.dT ((Co (λn=>vkT (tr n)) (ns.take (i+1))).map gK)) hsx
   show Ae _ _ _ _ (upd H4 sx (.dT ((Co (λn=>vkT (tr n)) (ns.take (i+1))).map gK)))
   generalize upd H4 sx (.dT ((Co (λn=>vkT (tr n)) (ns.take (i+1))).map gK))=H5 at nt5 e5s e5p S5 ⊢
   have lk:kp.length<=4:=by
    have:=congrArg cE ek
    rw[ae,ae] at this
    omega
   refine⟨_,DPut.t e5p ⟨dk.1,dk.2.up λb ys=>nt5 b _ λ_ z=>by cases z⟩ (by omega),?_⟩
   have nt6:=Vq (o:=.dT (Cj kp (vkT (tr n)) (.ref p))) e5p
   refine⟨⟨_,_,_,rfl⟩,S5.set fpx,by rw[Ad nsp];exact e5s,_,Aa,?_,λx hx=>?_⟩
   .rw[O7,ek,st,aa2]
   .rcases ap3 hx with hx|hx
    .obtain⟨p',T',e',h',o',v'⟩:=hk x hx
     exact⟨p',T',e',((h'.up S4).keep nt5).keep nt6,o',v'⟩
    .exact⟨p,tr n,hx.2,((hP3.up S4).keep nt5).keep nt6,okT,hx.1.symm⟩
  .rintro σ H3 ⟨⟨v4,v5,v6,rfl⟩,S3,e3s,kp,e3p,ek,hk⟩
   have len:rs.length=ns.length:=by rw[<- hR.nms,ae]
   have ln:(rs.map λr=>V.ref r.2.1).length=ns.length:=by rw[ae,len]
   rw[ln] at e3s ek
   have gi:=Ho (f:=λn=>vkT (tr n)) asc ns.length 256 (λm hm=>(hn m (eG hm)).2.2)
   have f4n:=f4 ns.length
   have hms:Co (λn=>vkT (tr n)) ns=Co (λn=>vkT (tr n)) (ns.take ns.length):=by rw[aA]
   rw[hms] at k
   generalize Co (λn=>vkT (tr n)) (ns.take ns.length)=gs at e3s ek gi f4n k
   refine .inl ?_
   refine .inr (.inr (.inr ⟨_,e3s,λo D hD=>?_⟩))
   have ef:upd H3 sx (.frz o (.dT (gs.map gK))) sx=some (.frz o (.dT (gs.map gK))):=Aa
   have ntf:=Vq (o:=.frz o (.dT (gs.map gK))) e3s
   have efp:upd H3 sx (.frz o (.dT (gs.map gK))) px=some (.dT kp):=by rw[Ad nsp.symm];exact e3p
   have Sf:Same H (upd H3 sx (.frz o (.dT (gs.map gK)))):=S3.set hsx
   generalize upd H3 sx (.frz o (.dT (gs.map gK)))=Hf at ef ntf efp Sf hD ⊢
   have hkf:∀x∈kp,∃p T,x.2=.ref p/\PlAt t.c_zca any Hf p T/\Bl T/\vkT T=x.1:=λx hx=>let⟨p,T,e,h,o⟩:=hk x hx;⟨p,T,e,h.keep ntf,o⟩
   have nd1:((gs.map gK).map (·.1)).Nodup:=by rw[Kx];exact gi.nd
   have nd2:(kp.map (·.1)).Nodup:=by rw[ek];exact gi.nd
   refine bg0 (λi σ H'=>(∃v,σ=[v,some (.ref px),some (.ref sx)])/\Same Hf H'/\∃es:List (Gp×Tr×Addr×Addr),es.map (·.1)=gs.take i/\H' D=some (.lst (es.map λe=>.ref e.2.2.2))/\∀e∈es,H' e.2.2.2=some (.tup [.int (e.1.2.2:Int),.ref e.2.2.1])/\PlAt t.c_zca any H' e.2.2.1 e.2.1/\Bl e.2.1/\vkT e.2.1=e.1.1) ⟨⟨_,rfl⟩,Same.upd hD,[],rfl,Aa,λe h=>by cases h⟩ (λ_ _ _ q=>q.2.1 _ _ ef) ?_ ?_
   .rintro i kk vv b σ H4 hi dk ⟨⟨v,rfl⟩,S4,es,ee,eD,he⟩
    obtain⟨g,hg,eg⟩:=Am hi
    obtain⟨rfl,rfl⟩:kk=g.1/\vv=.int (g.2.2:Int):=by injection eg with a b;exact⟨a,b⟩
    have hj:(kp.map (·.1))[i]?=some g.1:=by rw[ek,ak,hg];rfl
    obtain⟨⟨k2,v2⟩,hj2,e2⟩:=Am hj
    obtain rfl:g.1=k2:=e2
    obtain⟨p,T,ev,hP,oT,vT⟩:=hkf _ (aj hj2)
    obtain rfl:v2=.ref p:=ev
    have hP4:=hP.up S4
    obtain⟨dx,d,⟨_,ep⟩,_⟩:=id hP4
    refine⟨.int (g.2.2:Int),.inr ⟨_,g.1,b,.inr ⟨o,S4 _ _ ef⟩,rfl,dk,(Bm nd1 hi).symm⟩,?_⟩
    refine⟨.ref p,.inr ⟨_,g.1,b,.inl (S4 _ _ efp),rfl,dk,(Bm nd2 hj2).symm⟩,?_⟩
    refine⟨p,dx,_,⟨t.c_zca,by1 K t⟩,rfl,.head _,ep,rfl,⟨ag _,ag _⟩,⟨p,T,rfl,hP4,λH5 q S5 hq5=>⟨(show 2<=sizeLine by decide),λB hB=>?_⟩⟩⟩
    have S6:=S5.trans (Same.upd (o:=.tup [.int (g.2.2:Int),.ref q]) hB)
    have e6:upd H5 B (.tup [.int (g.2.2:Int),.ref q]) B=some (.tup [.int (g.2.2:Int),.ref q]):=Aa
    have hq6:=hq5.up (Same.upd (o:=.tup [.int (g.2.2:Int),.ref q]) hB)
    generalize upd H5 B (.tup [.int (g.2.2:Int),.ref q])=H6 at S6 e6 hq6 ⊢
    have le:es.length<=4:=by
     have:=congrArg cE ee
     rw[ae,aM] at this
     omega
    have nl:=NL.upd (m:=(es.map λe=>V.ref e.2.2.2)++[.ref B]) (S6 _ _ eD)
    refine⟨_,S6 _ _ eD,by rw[ae];omega,⟨_,rfl⟩,(S4.trans S6).set hD,es++[(g,T,q,B)],?_,by rw[Aa,aq];rfl,λe h=>?_⟩
    .rw[aq,ee,aJ,hg];rfl
    .rcases List.mem_append.mp h with h|h
     .exact⟨nl.tup _ _ (S6 _ _ (he e h).1),((he e h).2.1.up S6).nl nl,(he e h).2.2⟩
     .obtain rfl:e=(g,T,q,B):=by simpa using h
      exact⟨nl.tup _ _ e6,hq6.nl nl,oT,vT⟩
   .rintro σ H4 ⟨_,S4,es,ee,eD,he⟩
    rw[ae,aA] at ee
    obtain⟨hP,ob,u,hB,b1,b2,b3⟩:=hst
    have S04:=Sf.trans S4
    have le:es.length=gs.length:=by rw[<- ee,ae]
    have em:(es.map λe=>(e.1,V.ref e.2.2.1,e.2.2.2)).map (λe=>V.ref e.2.2)=es.map λe=>V.ref e.2.2.2:=by rw[aB];rfl
    have e1:(es.map λe=>(e.1,V.ref e.2.2.1,e.2.2.2)).map (λe=>e.1.2.1)=gs.map (·.2.1):=by rw[<- ee,aB,aB];rfl
    refine⟨D,es.map λe=>(e.1,.ref e.2.2.1,e.2.2.2),rfl,⟨S04 _ _ hP,ob,u,S04 _ _ hB,b1,b2,b3⟩,by rw[em];exact eD,by rw[ae];omega,by rw[e1];exact gi.asc,λx hx=>?_,λH5 D5 O5 e5=>k H5 D5 (λb u nb q=>O5 _ _ nb (S04 _ _ q)) ⟨es.map λe=>((e.1,e.2.1),e.2.2.1,e.2.2.2),?_,?_,λx hx=>?_⟩⟩
    .obtain⟨e,h,rfl⟩:=List.mem_map.mp hx
     have:=gi.one e.1 (by rw[<- ee];exact bA h)
     exact⟨(he e h).1,this.2.2.1,this.2.2.2,aL this.2.1 (iG (by decide) (by decide))⟩
    .rw[<- ee,aB];rfl
    .rw[e5,em,aB];rfl
    .obtain⟨e,h,rfl⟩:=List.mem_map.mp hx
     have nb:=NB.of O5 (S04 _ _ hP)
     exact⟨nb.tu (he e h).1,(he e h).2.1.nb nb,(he e h).2.2⟩
def bk9(Z:An K t):OkD K D_zan (Av K t) bl t.f_zan t.d_zan (as4 K t):=by
 refine A5 (b63 K t) λvs H Q E h=>?_
 .obtain⟨b,p,dx,sw,ζ,rfl,eb,hp,k⟩:=h;refine⟨rfl,?_⟩
  refine .inl ⟨_,_,_,eb,Z.bc,Z.bp,(show 0<1000 by decide),?_⟩
  have e1:upd H b (.ins t.c_zcb dx [("panel", .ref p)]) b=some (.ins t.c_zcb dx [("panel", .ref p)]):=Aa
  have O1:∀a o,a≠b->H a=some o->upd H b (.ins t.c_zcb dx [("panel", .ref p)]) a=some o:=λa o n e=>by rw[Ad n];exact e
  have hp1:=hp.mono (Kp.off (o:=.ins t.c_zcb dx [("panel", .ref p)]) λz=>z rfl)
  show Ae _ _ _ _ (upd H b (.ins t.c_zcb dx [("panel", .ref p)]))
  generalize upd H b (.ins t.c_zcb dx [("panel", .ref p)])=H1 at e1 O1 hp1 ⊢
  obtain⟨dxp,d,l,n,s,kk,br,h1⟩:=id hp1
  refine⟨p,dxp,_,⟨t.c_zbz,bh6 K t⟩,rfl,.head _,h1.ins.2,rfl,⟨ag _,ag _⟩,⟨p,sw,ζ,rfl,hp1.mono Kp.any,?_⟩⟩
  intro a dxa ha hdx ne
  refine⟨a,dxa,rfl,Aa,λd0 hd0 _=>⟨rfl,?_⟩⟩
  obtain⟨_,S2,_⟩:=am9 ha hdx ne hd0
  generalize upd (upd (upd (upd H1 dxa (.own a)) a (.ins t.c_zca dxa [])) d0 (.dK [])) a (.ins t.c_zca dxa [("records", .ref d0)])=H2 at S2 ⊢
  refine⟨(show 2<=sizeLine by decide),λT hT=>⟨(show 1<=sizeLine by decide),λL hL=>?_⟩⟩
  rw[Jg] at hL ⊢
  have S3:=Same.upd (o:=.tup [.int ((Ej sw ζ:Nat):Int),.ref a]) hT
  have e3:upd H2 T (.tup [.int ((Ej sw ζ:Nat):Int),.ref a]) T=some (.tup [.int ((Ej sw ζ:Nat):Int),.ref a]):=Aa
  generalize upd H2 T (.tup [.int ((Ej sw ζ:Nat):Int),.ref a])=H3 at S3 e3 hL ⊢
  have S4:=Same.upd (o:=.lst [.ref T]) hL
  have e4:upd H3 L (.lst [.ref T]) L=some (.lst [.ref T]):=Aa
  generalize upd H3 L (.lst [.ref T])=H4 at S4 e4 ⊢
  have S14:=S2.trans (S3.trans S4)
  have eb4:=S14 _ _ e1
  refine .inl ⟨_,_,_,eb4,Z.bc,Z.bk,(show 1<1000 by decide),?_⟩
  exact k _ L (λx o nx e=>by rw[Ad nx];exact S14 _ _ (O1 _ _ nx e)) Aa
def PlAt.ki(h:PlAt C any H p T)(n:∀a o,(∀C d fs,o=.ins C d fs->fs.lookup ("kept" : Str)=none)->H a=some o->H' a=some o):PlAt C any H' p T:=
 let⟨dx,d,⟨_,o⟩,es,e,⟨_,q⟩,z⟩:=h
 ⟨dx,d,⟨trivial,n _ _ (λ_ _ _ z=>by cases z;rfl) o⟩,es,e,⟨trivial,n _ _ (λ_ _ _ z=>by cases z) q⟩,λx hx=>(z x hx).up λb ys=>n b _ λ_ _ _ z=>by cases z⟩
def bm4(Z:An K t):OkD K ae8 (Av K t) bl (t.f 19) (t.d 19) (Ww K t):=by
 refine A5 (b77 K t) λvs H Q E h=>?_
 .obtain⟨p,l,sw,ζ,ns,tr,rs,rfl,hst,hp,hR,hn,asc,few,k⟩:=h;refine⟨rfl,?_⟩
  intro b dx hb hdx ne
  have S1:Same H (upd (upd H dx (.own b)) b (.ins t.c_zcb dx [])):=(Same.upd hdx).set hb
  have e1:upd (upd H dx (.own b)) b (.ins t.c_zcb dx []) b=some (.ins t.c_zcb dx []):=Aa
  have K1:Kp (· ≠ 294) H (· ≠ b) (upd (upd H dx (.own b)) b (.ins t.c_zcb dx [])):=λa o q=>⟨λz=>(by have q2:=q.2;rw[z,hb] at q2;cases q2),S1 _ _ q.2⟩
  generalize upd (upd H dx (.own b)) b (.ins t.c_zcb dx [])=H1 at S1 e1 K1 ⊢
  refine⟨b,p,dx,sw,ζ,rfl,e1,hp.mono K1,λH2 l0 O2 e2=>⟨rfl,?_⟩⟩
  have S2:Same H H2:=λa o q=>O2 _ _ (λz=>by rw[z,hb] at q;cases q) (S1 _ _ q)
  have hp2:=hp.mono (Kp.same S2)
  obtain⟨dxp,d,l1,n,s,kk,br,h1⟩:=id hp2
  obtain⟨hP,ob,u,hB,b1,b2,b3⟩:=hst
  refine⟨p,dxp,_,⟨t.c_zbz,bh6 K t⟩,rfl,.head _,h1.ins.2,rfl,⟨ag _,ag _⟩,⟨p,sw,ζ,rfl,hp2.mono Kp.any,?_⟩⟩
  rw[Jg]
  refine⟨Ej sw ζ,l,ns,tr,rs,rfl,⟨S2 _ _ hP,ob,u,S2 _ _ hB,b1,b2,b3⟩,⟨hR.nms,S2 _ _ hR.at_,λr hr=>⟨S2 _ _ (hR.one r hr).1,(hR.one r hr).2.up S2⟩⟩,hn,asc,few,λH3 D O3 hK=>?_⟩
  have nb:b≠294:=λz=>by rw[<- z,hb] at hP;cases hP
  have e3:=O3 _ _ nb e2
  refine .inl ⟨_,_,_,e3,Z.bc,Z.bk,(show 2<1000 by decide),?_⟩
  obtain⟨es,ee,eD,he⟩:=hK
  have ni:∀a o,(∀C d fs,o=.ins C d fs->fs.lookup ("kept" : Str)=none)->H3 a=some o->upd H3 b (.ins t.c_zcb dx (E6 "kept" (.ref D) [("panel", .ref p),("kept", .ref l0)])) a=some o:=λa o n e=>by rw[Ad λz=>by rw[z,e3] at e;cases e;have:=n _ _ _ rfl;cases this];exact e
  have fin:∀a o,a≠294->H a=some o->upd H3 b (.ins t.c_zcb dx (E6 "kept" (.ref D) [("panel", .ref p),("kept", .ref l0)])) a=some o:=λa o na q=>by rw[Ad λz=>by rw[z,hb] at q;cases q];exact O3 _ _ na (S2 _ _ q)
  exact k _ b fin ⟨dx,p,D,Aa,hp.mono λa o q=>⟨trivial,fin _ _ q.1 q.2⟩,es,ee,ni _ _ (λ_ _ _ z=>by cases z) eD,λe h=>⟨ni _ _ (λ_ _ _ z=>by cases z) (he e h).1,(he e h).2.1.ki ni,(he e h).2.2⟩⟩
def a78{H:Hp}{l:Addr}{sw:Sw}{E:EK}{R:Hp->Addr->Prop}(h:SwIn any H l sw)(l5:sw.length<=5)(k:∀D H',Same H H'->SwIn any H' D sw->R H' D) :
  ∀D,H D=none->Ez (Itl K l) (gdT K 2 [gdN 0,gdN 1]) Cg (Dn (Ac (Ab 0) (Ac (dFn (λvs H Q _=>(Qs K true) vs H Q) (Ac (Ab 1) Ag)) Ag))) D (λH'=>R H' D) [none,none] (upd H D (.lst [])) E:=by
 intro D hD
 obtain⟨ds,ed,⟨_,ol⟩,hd⟩:=h
 have len:ds.length=sw.length:=by rw[<- ed];simp
 have big:(1000:Nat)<sizeLine:=by decide
 refine Cu (Ay (ds.map λx=>V.ref x.2)) (λi σ H'=>(∃v0 v1,σ=[v0,v1])/\Same H H'/\∃fs,fs.map (·.1.1)=sw.take i/\SwL H' D fs) ⟨⟨_,_,rfl⟩,Same.upd hD,[],rfl,Aa,λx hx=>(by cases hx),λx hx=>(by cases hx)⟩ (λ_ _ H' _ q=>q.2.1.seqL (SqL.of ol)) ?_ ?_
 .rintro i x σ H1 hx ⟨⟨v0,v1,rfl⟩,S1,fs,ef,L1⟩
  obtain⟨⟨⟨x',la⟩,ta⟩,hi,rfl⟩:=Am hx
  have hi2:sw[i]?=some x':=by rw[<- ed,ak,hi];rfl
  have il:=Ak hi2
  obtain⟨⟨_,h1⟩,_,h2⟩:=hd _ (aj hi)
  have h2:=h2
  refine⟨_,.inl (SqT.of (S1 _ _ h1)),rfl,.inl ⟨_,.inl (SqL.of (S1 _ _ h2)),λM hM=>⟨(show 2<=sizeLine by decide),λT hT=>?_⟩⟩⟩
  have S2:=Same.upd (o:=Bd x'.2) hM
  have e2:upd H1 M (Bd x'.2) M=some (Bd x'.2):=Aa
  have nM:=(Ai L1.at_ hM).symm
  have L2:=L1.up S2
  have hT:=hT
  generalize upd H1 M (Bd x'.2)=H2 at S2 e2 L2 hT ⊢
  have S3:=Same.upd (o:=.tup [.str x'.1,.ref M]) hT
  have e3:upd H2 T (.tup [.str x'.1,.ref M]) T=some (.tup [.str x'.1,.ref M]):=Aa
  have L3:=L2.up S3
  generalize upd H2 T (.tup [.str x'.1,.ref M])=H3 at S3 e3 L3 ⊢
  have lf:fs.length<=5:=by
   have:=congrArg cE ef
   rw[ae,aM] at this
   omega
  refine⟨_,L3.at_,by rw[ae];omega,⟨_,_,rfl⟩,(S1.trans (S2.trans S3)).set hD,_,?_,L3.snoc e3 (S3 _ _ e2) nM⟩
  rw[aq,ef,aJ,hi2];rfl
 .rintro σ H1 ⟨_,S1,fs,ef,L1⟩
  rw[ae,len,aA] at ef
  exact k D H1 S1 ⟨fs,ef,⟨trivial,L1.at_⟩,λx hx=>⟨⟨trivial,L1.tup x hx⟩,trivial,(L1.lst x hx).1⟩⟩
def ao1{H:Hp}{D k p dx:Addr}{sw:Sw}{ζ:List Sw}{R:Hp->Prop}{E:XK}{x:Array Value}(h6:H 294=some (.tbl x))(hp:H p=none)(hdx:H dx=none)(hs:SwIn any H D sw)(hw:okSw sw)(hr:RulesAt any H k ζ)(okr:∀r∈ζ,E5 sw r)(few:ζ.length<=8)(ne:A8 sw ζ≠[])(q:∀H',Same H H'->PanelAt t.c_zbz (· ≠ 294) H' p sw ζ->R H') :
  (i_zaf K t).sp (.ref p::([.ref D,.ref k]++List.drop 1 (i_zaf K t).dfs)) (upd (upd H dx (.own p)) p (.ins t.c_zbz dx [])) (λv H2=>v=.non/\R H2) E:=by
 have S1:Same H (upd (upd H dx (.own p)) p (.ins t.c_zbz dx [])):=(Same.upd hdx).set hp
 have K1:Kp any H (· ≠ p) (upd (upd H dx (.own p)) p (.ins t.c_zbz dx [])):=λa o q=>⟨λz=>(by have q2:=q.2;rw[z,hp] at q2;cases q2),S1 _ _ q.2⟩
 refine⟨p,D,dx,.ref k,sw,ζ,rfl,Aa,hs.mono K1,hw,.inr ⟨k,rfl,hr.mono K1⟩,okr,few,a06 ne,λH2 O2 hP=>⟨rfl,q H2 (λb u e=>O2 _ _ (λz=>by rw[z,hp] at e;cases e) (S1 _ _ e)) (hP.mono (Kp.weak λa ha=>?_))⟩⟩
 rintro rfl
 rcases ha with z|z
 .rw[<- z,h6] at hp;cases hp
 .rw[S1 _ _ h6] at z;cases z
def Hu{H:Hp}{p:Addr}{n:Nat}{v:V}{Q:VK}(h:DGet H p (.int (n:Int)) (some v))(q:Q v H):Aw K (.ref p) (.int (n:Int)) H Q:=
 ⟨i8 (n+1) v,v,.dk λu e=>by
  rw[Cc (by rw[fB,if_pos (cf n)])] at e
  cases e
  exact h,Cc (by rw[fB,if_pos (cf n)]),q⟩
def P7{g:Nat->Addr}{ns:List Nat}{i n:Nat}(nd:ns.Nodup)(h:ns[i]?=some n):Bf (ns.map (kF g)) (.inl (n:Int))=some (.ref (g n)):=by
 refine Bm ?_ (by rw[ak,h];rfl)
 rw[K3]
 exact hX _ (λa b ne e=>ne (by injection e with e;omega)) nd
def bm7(Z:An K t):OkD K af0 (Av K t) bl (t.f 33) (t.d 33) (Wz K t):=by
 refine A5 (b80 K t) λvs H Q E h=>?_
 .obtain⟨W,F,l,kk,f,sw,ζ,g,tr,rfl,hst,hW,hF,k⟩:=h;refine⟨rfl,?_⟩
  have big:(1000:Nat)<sizeLine:=by decide
  refine⟨_,.inr (SqL.of hW.at_),rfl,?_⟩
  obtain⟨ds,_,⟨_,ol⟩,_⟩:=hW.sws
  refine .inl ⟨⟨_,SqL.of ol⟩,a78 hW.sws hW.ok.2.1 λD H1 S1 hD=>?_⟩
  intro p dx hp hdx nep
  refine ao1 (S1 _ _ hst.1) hp hdx hD hW.ok (hW.rl.mono (Kp.same S1)) hW.rok hW.few hW.ne λH2 S2 hP=>?_
  have S02:=S1.trans S2
  refine⟨(show 0<=sizeLine by decide),λR hR=>?_⟩
  have S3:=Same.upd (o:=.lst []) hR
  have e3:upd H2 R (.lst []) R=some (.lst []):=Aa
  generalize upd H2 R (.lst [])=H3 at S3 e3 ⊢
  have S03:=S02.trans S3
  have fR:=S02.free hR
  have eF:=S03 _ _ hF.at_
  have asc:=Lr sw ζ
  have ndf:=asc.imp λh=>aN h
  refine .inr (.inr (.inl (.inl ⟨_,eF,λo=>?_⟩)))
  have ef:upd H3 F (.frz o (.dK ((A8 sw ζ).map (kF g)))) F=some (.frz o (.dK ((A8 sw ζ).map (kF g)))):=Aa
  have of:∀b u,b≠F->H3 b=some u->upd H3 F (.frz o (.dK ((A8 sw ζ).map (kF g)))) b=some u:=λb u nb e=>by rw[Ad nb];exact e
  generalize upd H3 F (.frz o (.dK ((A8 sw ζ).map (kF g))))=Hf at ef of ⊢
  have nRF:R≠F:=λz=>by rw[z,eF] at e3;cases e3
  refine A3 (Dc ((A8 sw ζ).map (kF g))) (λi σ H'=>(∃v7,σ=[some (.ref W),some (.ref F),some (.ref l),some (.ref kk),some (.ref f),some (.ref p),some (.ref R),v7])/\(∀a u,a≠R->Hf a=some u->H' a=some u)/\∃rs:List (Nat×Addr×Addr),rs.map (·.1)=(A8 sw ζ).take i/\H' R=some (.lst (rs.map λr=>.ref r.2.1))/\∀r∈rs,H' r.2.1=some (.tup [.int ((2^r.1:Nat):Int),.ref r.2.2])/\PlAt t.c_zca any H' r.2.2 (tr r.1))
   ⟨⟨_,rfl⟩,(λ_ _ _ e=>e),[],rfl,of _ _ nRF e3,λr h=>by cases h⟩ (λ_ _ H' _ q=>q.2.1 _ _ nRF.symm ef) ?_ ?_
  .rintro i x σ H4 hx ⟨⟨v7,rfl⟩,O4,rs,er,e4R,h4⟩
   rw[aB] at hx
   obtain⟨n,hn,rfl⟩:=Am hx
   have hm:=aj hn
   obtain⟨nl,bt⟩:=Fp hm
   have l256:=hW.ok.len
   obtain⟨hT,okT⟩:=hF.one n hm
   have hT4:TrAt any H4 (g n) (tr n):=by
    obtain⟨es,ee,⟨_,e⟩,he⟩:=hT
    have ng:g n≠F:=λz=>by
     have e':=hF.at_
     rw[<- z,e] at e'
     injection e' with e'
     injection e' with e'
     have:=congrArg (kJ mY) e'
     rw[K6,K3] at this
     have h0:(.inl (n:Int):Key)∈(A8 sw ζ).map λn:Nat=>(.inl (n:Int):Key):=List.mem_map.mpr ⟨n,hm,rfl⟩
     rw[<- this] at h0
     obtain⟨_,_,z⟩:=List.mem_map.mp h0
     cases z
    have kp:∀a o,a≠F->a≠R->H a=some o->H4 a=some o:=λa o n1 n2 e=>O4 _ _ n2 (of _ _ n1 (S03 _ _ e))
    refine⟨es,ee,⟨trivial,kp _ _ ng (λz=>by rw[z,fR] at e;cases e) e⟩,λx hx=>(he x hx).up λb ys q=>kp _ _ (λz=>by rw[z,hF.at_] at q;cases q) (λz=>by rw[z,fR] at q;cases q) q⟩
   refine⟨.inl ⟨rfl,_,SqL.of e4R⟩,⟨by omega,by omega,by decide⟩,Hu (.inl ⟨_,.inl (n:Int),.inr ⟨o,O4 _ _ nRF.symm ef⟩,rfl,(P7 ndf hn).symm⟩) ⟨g n,tr n,rfl,hT4,okT,λH5 pl S5 hPl=>⟨(show 2<=sizeLine by decide),λT hT=>?_⟩⟩⟩
   have e1:(1*2^((n:Int)).toNat:Int)=((2^n:Nat):Int):=by rw[jB,aY,Ev]
   rw[e1]
   have S6:=S5.trans (Same.upd (o:=.tup [.int ((2^n:Nat):Int),.ref pl]) hT)
   have e6:upd H5 T (.tup [.int ((2^n:Nat):Int),.ref pl]) T=some (.tup [.int ((2^n:Nat):Int),.ref pl]):=Aa
   have hPl6:=hPl.up (Same.upd (o:=.tup [.int ((2^n:Nat):Int),.ref pl]) hT)
   generalize upd H5 T (.tup [.int ((2^n:Nat):Int),.ref pl])=H6 at S6 e6 hPl6 ⊢
   have lr:rs.length<=256:=by
    have:=congrArg cE er
    rw[ae,aM] at this
    have hf:=cx (λn=>!Jb sw ζ n) (aV (Aj sw).length)
    rw[bo] at hf
    have:rs.length<=(A8 sw ζ).length:=by omega
    unfold A8 at this
    omega
   have nl6:=NL.upd (m:=(rs.map λr=>V.ref r.2.1)++[.ref T]) (S6 _ _ e4R)
   refine⟨R,_,_,rfl,rfl,S6 _ _ e4R,by rw[ae];omega,⟨_,rfl⟩,λa u na e=>by rw[Ad na];exact S6 _ _ (O4 _ _ na e),rs++[(n,T,pl)],?_,by rw[Aa,aq];rfl,λr hr=>?_⟩
   .rw[aq,er,aJ,hn];rfl
   .rcases List.mem_append.mp hr with hr|hr
    .exact⟨nl6.tup _ _ (S6 _ _ (h4 r hr).1),((h4 r hr).2.up S6).nl nl6⟩
    .obtain rfl:r=(n,T,pl):=by simpa using hr
     exact⟨nl6.tup _ _ e6,hPl6.nl nl6⟩
  .rintro σ H4 ⟨⟨v7,rfl⟩,O4,rs,er,e4R,h4⟩
   rw[ae,ae,aA] at er
   have e4f:=O4 _ _ nRF.symm ef
   refine .inr ⟨F,o,_,eF,e4f,?_⟩
   have up:∀a u,a≠R->H3 a=some u->upd H4 F (.dK ((A8 sw ζ).map (kF g))) a=some u:=λa u n2 e=>by
    by_cases ha:a=F
    .subst ha;rw[Aa,<- eF,e]
    .rw[Ad ha];exact O4 _ _ n2 (of _ _ ha e)
   have S04:Same H (upd H4 F (.dK ((A8 sw ζ).map (kF g)))):=λa u e=>up _ _ (λz=>by rw[z,fR] at e;cases e) (S03 _ _ e)
   have nt:∀a u,(∀o k,u≠.frz o k)->H4 a=some u->upd H4 F (.dK ((A8 sw ζ).map (kF g))) a=some u:=λa u n e=>by rw[Ad λz=>by rw[z,e4f] at e;cases e;exact n _ _ rfl];exact e
   have S2e:Same H2 (upd H4 F (.dK ((A8 sw ζ).map (kF g)))):=λa u e=>up _ _ (Ai e hR) (S3 _ _ e)
   generalize upd H4 F (.dK ((A8 sw ζ).map (kF g)))=He at up S04 nt S2e ⊢
   obtain⟨hP294,ob,u,hB,b1,b2,b3⟩:=hst
   refine⟨p,R,sw,ζ,A8 sw ζ,tr,rs,rfl,⟨S04 _ _ hP294,ob,u,S04 _ _ hB,b1,b2,b3⟩,hP.mono (Kp.same S2e),⟨er,nt _ _ (λ_ _ z=>by cases z) e4R,λr hr=>⟨nt _ _ (λ_ _ z=>by cases z) (h4 r hr).1,?_⟩⟩,λn hn=>⟨(hF.one n hn).2,(Fp hn).2,aL (Fp hn).1 hW.ok.len⟩,asc,hF.few,λH5 b O5 hB5=>k H5 b (λa u na e=>O5 _ _ na (S04 _ _ e)) hB5⟩
   obtain⟨dx,d,⟨_,o1⟩,es,ee,⟨_,o2⟩,z⟩:=(h4 r hr).2
   exact⟨dx,d,⟨trivial,nt _ _ (λ_ _ z=>by cases z) o1⟩,es,ee,⟨trivial,nt _ _ (λ_ _ z=>by cases z) o2⟩,λx hx=>(z x hx).up λb ys q=>nt _ _ (λ_ _ z=>by cases z) q⟩
end
def N4{T:Tr}(nd:(T.map (·.1)).Nodup){i:Nat}{z:Str}{x:Rc}(h:T[i]?=some (z,x)):T.lookup z=some x:=Qc nd (aj h)
def ag9{T:Tr}{n:Str}(o:Bl T)(ne:n ≠ ""){z:Str}(b:Bel T n z):∀{i:Nat} {x},T[i]?=some (z,x) -> ∃j y,j<i/\T[j]?=some (n,y):=by
 induction b with
 |@one z x h e=>
  intro i y hi
  rw[N4 o.1 hi] at h
  cases h
  obtain⟨_,q|⟨j,lj,y,hj⟩⟩:=o.2.2.2 i z x hi
  .exact absurd (e.symm.trans q) ne
  .exact⟨j,y,lj,by rw[<- e];exact hj⟩
 |@more z x h b ih=>
  intro i y hi
  rw[N4 o.1 hi] at h
  cases h
  obtain⟨_,q|⟨j,lj,y,hj⟩⟩:=o.2.2.2 i z x hi
  .have:∃y,T.lookup x.p=some y:=by cases b with|one h _=>exact⟨_,h⟩|more h _=>exact⟨_,h⟩
   obtain⟨y,hy⟩:=this
   obtain⟨k,hk⟩:=List.mem_iff_getElem?.mp (Cm hy)
   exact absurd q (o.2.2.2 k _ y hk).1
  .obtain⟨k,y',lk,hk⟩:=ih hj
   exact⟨k,y',by omega,hk⟩
def az3{T:Tr}{n:Str}(o:Bl T)(ne:n ≠ ""):¬ Bel T n n:=λb=>by
 have:∃y,T.lookup n=some y:=by cases b with|one h _=>exact⟨_,h⟩|more h _=>exact⟨_,h⟩
 obtain⟨y,hy⟩:=this
 obtain⟨i,hi⟩:=List.mem_iff_getElem?.mp (Cm hy)
 obtain⟨j,y',lj,hj⟩:=ag9 o ne b hi
 have g:∀{m:Nat} {q},T[m]?=some q->(T.map (·.1))[m]?=some q.1:=λh=>by rw[ak,h];rfl
 have:=(List.getElem?_inj (List.getElem?_eq_some_iff.mp (g hi)).1 o.1).mp ((g hi).trans (g hj).symm)
 omega
structure WInv (T:Tr) (n:Str) (F W:List Str):Prop where
 nd:(F++W).Nodup
 bel:∀z∈F++W,Bel T n z
 mem:∀z,z∈F++W↔Ch T n z \/ ∃p∈F,Ch T p z
def WInv.first(nd:W.Nodup)(h:∀z,z∈W↔Ch T n z):WInv T n [] W:=⟨nd,λz hz=>by obtain⟨x,a,b⟩:=(h z).mp hz;exact .one a b,λz=>⟨λq=>.inl ((h z).mp q),λq=>q.elim (h z).mpr fun⟨p,hp,_⟩=>by cases hp⟩⟩
def WInv.step{T:Tr}{n:Str}(o:Bl T)(ne:n ≠ ""){F W C:List Str}{z:Str}(I:WInv T n F (W++[z]))(nd:C.Nodup)(h:∀y,y∈C↔Ch T z y):WInv T n (F++[z]) (W++C):=by
 have pm:(F++[z]++(W++C)).Perm (F++(W++[z])++C):=by
  rw[cY,cY,cY]
  refine List.Perm.append_left F ?_
  rw[<- cY,<- cY]
  exact List.Perm.append_right C List.perm_append_comm
 have zm:z∈F++(W++[z]):=by simp
 have zF:z∉F:=λq=>(List.nodup_append.mp I.nd).2.2 z q z (by simp) rfl
 have me:∀y,y∈F++[z]++(W++C)↔y∈F++(W++[z])\/y∈C:=λy=>by rw[pm.mem_iff,ay]
 have un:∀{p q y},Ch T p y->Ch T q y->p=q:=fun⟨x,a,b⟩ ⟨x',a',b'⟩=>by rw[a] at a';cases a';rw[<- b,<- b']
 refine⟨pm.nodup_iff.mpr (List.nodup_append.mpr ⟨I.nd,nd,λa ha b hb e=>?_⟩),λy hy=>?_,λy=>?_⟩
 .subst e
  have hc:=(h a).mp hb
  rcases(I.mem a).mp ha with q|⟨p,hp,q⟩
  .exact az3 o ne (un q hc▸I.bel z zm)
  .exact zF (un q hc▸hp)
 .rcases (me y).mp hy with q|q
  .exact I.bel y q
  .obtain⟨x,a,b⟩:=(h y).mp q
   exact .more a (b▸I.bel z zm)
 .rw[me,I.mem,h]
  exact⟨λq=>q.elim (λq=>q.imp id fun⟨p,hp,c⟩=>⟨p,bx _ hp,c⟩) λc=>.inr ⟨z,by simp,c⟩,λq=>q.elim (λc=>.inl (.inl c)) fun⟨p,hp,c⟩=>by
   rcases List.mem_append.mp hp with hp|hp
   .exact .inl (.inr ⟨p,hp,c⟩)
   .exact .inr (List.mem_singleton.mp hp▸c)⟩
def WInv.last(I:WInv T n F []):F.Nodup/\∀z,z∈F↔Bel T n z:=by
 have e:=b7 F
 have nd:=I.nd
 have mem:=I.mem
 have bel:=I.bel
 rw[e] at nd mem bel
 refine⟨nd,λz=>⟨bel z,λb=>?_⟩⟩
 induction b with
 |one h e=>exact(mem _).mpr (.inl ⟨_,h,e⟩)
 |more h b ih=>exact(mem _).mpr (.inr ⟨_,ih,_,h,rfl⟩)
def WInv.len(o:Bl T)(I:WInv T n F W):F.length+W.length<=T.length:=by
 have:=Ii (x:=T.map (·.1)) I.nd λz hz=>by
  have:∃y,T.lookup z=some y:=by cases I.bel z hz with|one h _=>exact⟨_,h⟩|more h _=>exact⟨_,h⟩
  obtain⟨y,hy⟩:=this
  exact List.mem_map.mpr ⟨_,Cm hy,rfl⟩
 rwa[aI,ae] at this
section
variable {P:aW}{w:bC}{K:ac}{mg:Str->Option Value}{base:Heap}{t:Adr}
def _root_.Pn.PanAt.self(h:PanAt C ok H p sw ζ dx d l n s k b):SelfAt C ok H p l s:=by
 refine⟨dx,_,h.ins,rfl,rfl,λm hm=>?_⟩
 simp only[aD,ce,or_false] at hm
 rcases hm with rfl|rfl|rfl|rfl|rfl|rfl <;> rfl
theorem BqAt.up(h:BqAt t H b sw gs)(S:Same H H'):BqAt t H' b sw gs:=
 let⟨dx,p,l,e,⟨l1,s1,h1,h2⟩,es,ee,eD,he⟩:=h
 ⟨dx,p,l,S _ _ e,⟨l1,s1,h1.mono (Kp.same S),h2.mono (Kp.same S)⟩,es,ee,S _ _ eD,λe h=>⟨S _ _ (he e h).1,(he e h).2.1.up S,(he e h).2.2⟩⟩
def Ec{es:List ((Str×Rc)×Addr)}{T:Tr}(et:es.map (·.1)=T)(o:Bl T)(n:Str):(Bf (es.map kT) (.inr n)=none/\stT T n=none) \/ ∃e∈es,Bf (es.map kT) (.inr n)=some (.ref e.2)/\stT T n=some (rcT e.1.2):=by
 have nde:(es.map (·.1.1)).Nodup:=by have:=o.1;rw[<- et,aB] at this;exact this
 have en:es.map (·.1.1)=T.map (·.1):=by rw[<- et,aB];rfl
 by_cases h:n∈T.map (·.1)
 .obtain⟨x,ex,hx⟩:=Ji o h
  rw[<- et] at hx
  obtain⟨e,he,ee⟩:=List.mem_map.mp hx
  obtain⟨j,hj⟩:=List.mem_iff_getElem?.mp he
  have hv:=Lz nde hj
  rw[ee] at hv
  exact .inr ⟨e,he,hv,by unfold stT;rw[ex,ee];rfl⟩
 .exact .inl ⟨ak7 (by rw[en];exact h),by unfold stT;rw[K8 h];rfl⟩
def b08(Z:An K t):OkD K D_zn (Av K t) bl t.f_zn t.d_zn (bc9 K t):=by
 refine A5 (ce2 K t) λvs H Q E h=>?_
 .obtain⟨H0,a,x,y,rfl,ha,rfl,k⟩:=h;refine⟨rfl,?_⟩
  refine .inr ⟨_,Z.ec,Z.n1,.inl ⟨Aa,λdx hdx ne=>.inr ⟨_,Z.ec,Z.n2,.inr ⟨dx,[("part", x)],ne,Aa,by rw[Ad ne,Aa],(show 1<1000 by decide),?_⟩⟩⟩⟩
  have hd:H0 dx=none:=by rw[Ad ne] at hdx;exact hdx
  refine k _ dx (λb o h=>?_) ne (by rw[Ad (cg ne),Aa]) Aa
  have b1:b≠dx:=λz=>by rw[z,hd] at h;cases h
  have b2:b≠a:=λz=>by rw[z,ha] at h;cases h
  rw[Ad b1,Ad b2,Ad b1,Ad b2]
  exact h
def bl1(Z:An K t):OkD K Xk (Av K t) bl (t.m_zca 3) (t.e_zca 3) (Wm K t):=by
 refine A5 (b65 K t) λvs H Q E h=>?_
 .obtain⟨p,T,n,rfl,⟨dx,d,⟨_,e⟩,es,et,⟨_,ed⟩,he⟩,o,k⟩:=h;refine⟨rfl,?_⟩
  refine fY ⟨_,_,_,.ref d,e,Z.pc,Z.pr,rfl,.inr ⟨_,.inl ⟨_,.inr n,.inl ed,rfl,rfl⟩,?_⟩⟩
  rcases Ec et o n with⟨a,b⟩|⟨x,_,a,b⟩
  .rw[a];rw[b] at k;exact k
  .rw[a];rw[b] at k;exact k
def b21(Z:An K t):OkD K ay5 (Av K t) bl (t.m_zca 9) (t.e_zca 9) (au9 K t):=by
 refine A5 (cf4 K t) λvs H Q E h=>?_
 .obtain⟨p,T,n,rfl,⟨dx,d,⟨_,e⟩,es,et,⟨_,ed⟩,he⟩,o,c,k⟩:=h;refine⟨rfl,?_⟩
  refine fY ⟨_,_,_,.ref d,e,Z.pc,Z.pr,rfl,.inr ⟨_,.inl ⟨_,.inr n,.inl ed,rfl,rfl⟩,?_⟩⟩
  rcases Ec et o n with⟨a,b⟩|⟨x,hx,a,b⟩
  .rw[b] at c;cases c
  .rw[a]
   rw[b] at k
   exact fY ⟨_,_,_,.ref d,e,Z.pc,Z.pr,rfl,_,.inl ⟨_,.inr n,.inl ed,rfl,a.symm⟩,k _ ⟨⟨_,rfl⟩,(he x hx).tk⟩⟩
theorem StAt.up(h:StAt H s v)(S:Same H H'):StAt H' s v:=by
 cases s with
 |none=>exact h
 |some x=>exact⟨h.1,h.2.up (NL.same S).tup⟩
def av1(o:Bl T)(h:stT T n=some x):Ap x<=3:=by
 obtain⟨r,hr,rfl⟩:=Option.map_eq_some_iff.mp h
 exact Yq (o.2.2.1 _ (Cm hr))
def av0(hx:StAt H s x)(hy:StAt H (some z') y)(d:∀z,s=some z->Ap z<=3)(q:Q (.bl (if neg then !decide (s=some z') else decide (s=some z'))) H):Bw K neg x y H Q:=by
 obtain⟨⟨b,rfl⟩,h2⟩:=hy
 cases s with
 |none=>
  have hx:=hx
  subst hx
  refine⟨.at_ .non,tkD z',by unfold At;exact⟨rfl,rfl⟩,W5 _ h2,by unfold dep;omega,?_⟩
  have:deq (.at_ .non) (tkD z')=false:=by cases z' with|at_ k=>cases k <;> rfl|tup l=>rfl
  rw[this]
  exact q
 |some z=>
  obtain⟨⟨a,rfl⟩,h1⟩:=hx
  have dz:=d z rfl
  refine .inr (.inl ⟨tkD z,tkD z',W5 _ h1,W5 _ h2,by rw[a90];omega,?_⟩)
  rw[bt9]
  have:decide (some z=some z')=decide (z=z'):=decide_eq_decide.mpr ⟨λe=>az e,λe=>by rw[e]⟩
  rw[this] at q
  exact q
def Jf{α:Type}{l:List α}{m:Nat}{x:α}{p:α->Bool}(h:l[m]?=some x):(l.take (m+1)).filter p=(l.take m).filter p++(if p x=true then [x] else []):=by
 rw[aJ,h,dZ,i5]
 congr 1
 cases e:p x <;> simp[e]
def Sn{α:Type}(l:List α)(m:Nat)(p:α->Bool):((l.take m).filter p).length<=l.length:=by
 have:=cx p (l.take m)
 rw[aM] at this
 omega
def Ot(l:List Nat):(l.map λn:Nat=>V.int (n:Int))=(l.map λn:Nat=>(n:Int)).map V.int:=by rw[aB];rfl
def a69{C l:Addr}{H:Hp}{rs:List ((Nat×Tr)×Addr×Addr)}{rest:St}{tc:DT}{E:EK}{R:VK}(p:Tr->Bool)(hR:bf3 C H l rs)(few:rs.length<=4)(ht:∀r∈rs,∀H1 Q,Same H H1->Q (p r.1.2) H1->tc (some (.int (r.1.1:Int))::some (.ref r.2.1)::rest) H1 Q E)(k:∀H',Same H H'->R (.int (Ed ((rs.filter λr=>p r.1.2).map (·.1.1)):Nat)) H') :
  ∀D,H D=none->Ez (Itl K l) (gdT K 2 [gdN 0,gdN 1]) tc (Ab 0) D (λH'=>spE (Ju K t) [] [.ref D] H' R E) (none::none::rest) (upd H D (.lst [])) E:=by
 intro D hD
 have big:(1000:Nat)<sizeLine:=by decide
 refine Cu (Ay (rs.map λr=>V.ref r.2.2)) (λi σ H'=>(∃v0 v1,σ=v0::v1::rest)/\Same H H'/\H' D=some (nO (((rs.take i).filter λr=>p r.1.2).map (·.1.1)))) ⟨⟨_,_,rfl⟩,Same.upd hD,Aa⟩ (λ_ _ H' _ q=>q.2.1.seqL (SqL.of hR.1)) ?_ ?_
 .rintro i x σ H1 hx ⟨⟨v0,v1,rfl⟩,S1,eD⟩
  obtain⟨r,hi,rfl⟩:=Am hx
  have hm:=aj hi
  have fs:=Jf (p:=λr=>p r.1.2) hi
  have fl:=Sn rs i λr=>p r.1.2
  refine⟨_,.inl (SqT.of (S1 _ _ (hR.2 r hm).1)),rfl,ht r hm H1 _ S1 ?_⟩
  cases c:p r.1.2 with
  |true=>
   rw[c,if_pos rfl] at fs
   exact⟨_,eD,by rw[ae,ae];omega,⟨_,_,rfl⟩,S1.set hD,by rw[Aa,fs,nO,aq,aq];rfl⟩
  |false=>
   rw[c,if_neg (by decide),b7] at fs
   exact⟨⟨_,_,rfl⟩,S1,by rw[fs];exact eD⟩
 .rintro σ H1 ⟨_,S1,eD⟩
  rw[ae,aA] at eD
  have:=k H1 S1
  rw[<- G6] at this
  exact⟨D,_,rfl,by rw[<- Ot];exact SqL.of eD,this⟩
def Yp(Z:An K t)(B:NoN t n c H E):mkX t.c_zby (some (i_zn K t)) 1 [.str n,c] H (V1 K λa H'=>E (.ref a) none H') EE:=by
 intro a ha
 exact⟨H,a,.str n,c,rfl,ha,rfl,λH' dx S ne e1 e2=>⟨rfl,t.c_zby,some dx,e1,Z.ec,B _ a (S.set ha) ⟨dx,ne,Aa,by rw[Ad ne];exact e2⟩⟩⟩
def NoN.up(B:NoN t n c H E)(S:Same H H'):NoN t n c H' E:=λH2 a S2 f=>B H2 a (S.trans S2) f
def hsB_iff:hsB n g=true↔aj9 g.1 n:=by unfold hsB;exact @decide_eq_true_iff _ (dB _)
def b07(Z:An K t):OkX K ax7 (Av K t) bl (t.m_zcb 3) (t.e_zcb 3) (at7 K t):=by
 refine a27 (ce1 K t) λvs H Q E h=>?_
 .obtain⟨b,n,sw,gs,rfl,⟨dx,p,l,eb,hp,es,ee,el,he⟩,few,k⟩:=h;refine⟨rfl,?_⟩
  have big:(1000:Nat)<sizeLine:=by decide
  have le:es.length=gs.length:=by rw[<- ee,ae]
  have hk:∀e∈es,hsB n e.1.1=(stT e.1.2 n).isSome:=λe h=>by rw[b5,hsB_iff,<- (he e h).2.2.2];exact Hr (he e h).2.2.1 n
  refine fY ⟨_,_,_,_,eb,Z.bc,Z.bk,rfl,(.inl ⟨⟨_,SqL.of el⟩,λD hD=>?_⟩)⟩
  refine Cu (Ay (es.map λe=>V.ref e.2.2)) (λi σ H'=>(∃v0 v1,σ=[v0,v1,some (.str n)])/\Same H H'/\∃rs,bf3 t.c_zca H' D rs/\rs.length<=i/\rs.map (·.1)=((es.take i).filter λe=>(stT e.1.2 n).isSome).map λe=>(e.1.1.2.2,e.1.2)) ⟨⟨_,_,rfl⟩,Same.upd hD,[],⟨Aa,λr h=>by cases h⟩,ag _,rfl⟩ (λ_ _ H' _ q=>q.2.1.seqL (SqL.of el)) ?_ ?_
  .rintro i x σ H1 hx ⟨⟨v0,v1,rfl⟩,S1,rs,⟨eD,hr⟩,lr,er⟩
   obtain⟨e,hi,rfl⟩:=Am hx
   have hm:=aj hi
   have il:=Ak hi
   obtain⟨e1,hP,o1,_⟩:=he e hm
   have hP1:=hP.up S1
   obtain⟨dx1,d1,⟨_,ep1⟩,_⟩:=id hP1
   have fs:=Jf (p:=λe=>(stT e.1.2 n).isSome) hi
   refine⟨_,.inl (SqT.of (S1 _ _ e1)),rfl,⟨e.2.1,dx1,_,⟨t.c_zca,ak4 K t⟩,rfl,.head _,ep1,rfl,⟨ag _,ag _⟩,⟨e.2.1,e.1.2,n,rfl,hP1,o1,?_⟩⟩⟩
   cases c:(stT e.1.2 n).isSome with
   |false=>
    rw[c,if_neg (by decide),b7] at fs
    exact⟨⟨_,_,rfl⟩,S1,rs,⟨eD,hr⟩,gh lr,by rw[fs];exact er⟩
   |true=>
    rw[c,if_pos rfl] at fs
    refine⟨(show 2<=sizeLine by decide),λT hT=>?_⟩
    have ST:=Same.upd (o:=.tup [.int (e.1.1.2.2:Int),.ref e.2.1]) hT
    have eT:upd H1 T (.tup [.int (e.1.1.2.2:Int),.ref e.2.1]) T=some (.tup [.int (e.1.1.2.2:Int),.ref e.2.1]):=Aa
    generalize upd H1 T (.tup [.int (e.1.1.2.2:Int),.ref e.2.1])=H2 at ST eT ⊢
    have nl:=NL.upd (m:=(rs.map λr=>V.ref r.2.2)++[.ref T]) (ST _ _ eD)
    refine⟨_,ST _ _ eD,by rw[ae];omega,⟨_,_,rfl⟩,(S1.trans ST).set hD,rs++[((e.1.1.2.2,e.1.2),e.2.1,T)],⟨by rw[Aa,aq];rfl,λr h=>?_⟩,by rw[aI];exact cD lr,by rw[fs,aq,aq,er];rfl⟩
    rcases List.mem_append.mp h with h|h
    .exact⟨nl.tup _ _ (ST _ _ (hr r h).1),((hr r h).2.1.up ST).nl nl,(hr r h).2.2⟩
    .obtain rfl:r=((e.1.1.2.2,e.1.2),e.2.1,T):=by simpa using h
     exact⟨nl.tup _ _ eT,(hP.up (S1.trans ST)).nl nl,o1⟩
  .rintro σ H1 ⟨_,S1,rs,hR,lr,er⟩
   rw[ae] at lr er
   rw[aA] at er
   have e2:(rs.map λr=>(vkT r.1.2,r.1.1))=(gs.filter (hsB n)).map λg=>(g.1,g.2.2):=by
    have:=congrArg (kJ λx=>(vkT x.2,x.1)) er
    rw[aB,aB] at this
    rw[<- ee,List.filter_map,aB]
    refine this.trans ?_
    rw[List.filter_congr λe h=>(hk e h).symm]
    exact bW λe h=>by show(vkT e.1.2,_)=_;rw[(he e (List.mem_filter.mp h).1).2.2.2];rfl
   have hs:∀r∈rs,(stT r.1.2 n).isSome=true:=λr hr=>by
    have:r.1∈rs.map (·.1):=bA hr
    rw[er] at this
    obtain⟨e,h,q⟩:=List.mem_map.mp this
    rw[<- q]
    exact(List.mem_filter.mp h).2
   refine⟨(show 0<=sizeLine by decide),λq hq=>?_⟩
   have Sq:=Same.upd (o:=.lst []) hq
   rcases k with⟨ne,k⟩|⟨no,k⟩
   .refine .inr (.inr (.inl (.inr (.inr ⟨_,_,SqL.of (Sq _ _ hR.1),SqL.of Aa,λz=>ne ?_,?_⟩))))
    .rw[ae] at z
     rw[List.length_eq_zero_iff.mp z,fg] at e2
     exact List.map_eq_nil_iff.mp e2.symm
    .exact k _ D rs (S1.trans Sq) ⟨Sq _ _ hR.1,λr h=>⟨Sq _ _ (hR.2 r h).1,(hR.2 r h).2.1.up Sq,(hR.2 r h).2.2⟩⟩ (by omega) hs e2
   .rw[no,fg,iN] at e2
    subst e2
    exact .inl ⟨D,q,[],[],rfl,rfl,SqL.of (Sq _ _ hR.1),SqL.of Aa,rfl,rfl,⟨(show 2<=1000 by decide),Yp Z (NoN.up k (S1.trans Sq))⟩⟩
def bd0(c:(stT T n).isSome=true)(h:StAt H (stT T n) v):∃a x u,v=.ref a/\T.lookup n=some x/\H a=some (.tup [.str x.k,.str x.p,.int x.r,u])/\TkAt H x.c u:=by
 unfold stT at c h
 cases e:T.lookup n with
 |none=>rw[e] at c;cases c
 |some x=>
  rw[e] at h
  obtain⟨⟨a,rfl⟩,h⟩:=h
  obtain⟨b,xs,eb,hb,h⟩:=h
  cases eb
  obtain⟨v1,r1,rfl,h1,h⟩:=h
  obtain⟨v2,r2,rfl,h2,h⟩:=h
  obtain⟨v3,r3,rfl,h3,h⟩:=h
  obtain⟨v4,r4,rfl,h4,h⟩:=h
  subst h h1 h2 h3
  exact⟨a,x,v4,rfl,rfl,hb,h4⟩
def Ya(e:T.lookup n=some x):(stT T n).isSome=true:=by unfold stT;rw[e];rfl
def b05(Z:An K t):OkD K ax5 (Av K t) bl (t.m_zca 7) (t.e_zca 7) (at4 K t):=by
 refine A5 (cd8 K t) λvs H Q E h=>?_
 .obtain⟨p,T,n,x,rfl,hP,o,e,k⟩:=h;refine⟨rfl,?_⟩
  obtain⟨dx,d,⟨_,ep⟩,_⟩:=id hP
  refine⟨p,dx,_,⟨t.c_zca,ak5 K t⟩,rfl,.head _,ep,rfl,⟨ag _,ag _⟩,⟨p,T,n,rfl,hP,o,Ya e,λv hv=>?_⟩⟩
  obtain⟨a,x',u,rfl,e',ea,_⟩:=bd0 (Ya e) hv
  rw[e] at e'
  cases e'
  exact⟨_,_,.inr (SqT.of ea),rfl,k⟩
def b11(Z:An K t):OkD K ay0 (Av K t) bl (t.m_zca 8) (t.e_zca 8) (au0 K t):=by
 refine A5 (ce5 K t) λvs H Q E h=>?_
 .obtain⟨p,T,n,x,rfl,hP,o,e,k⟩:=h;refine⟨rfl,?_⟩
  obtain⟨dx,d,⟨_,ep⟩,_⟩:=id hP
  refine⟨p,dx,_,⟨t.c_zca,ak5 K t⟩,rfl,.head _,ep,rfl,⟨ag _,ag _⟩,⟨p,T,n,rfl,hP,o,Ya e,λv hv=>?_⟩⟩
  obtain⟨a,x',u,rfl,e',ea,_⟩:=bd0 (Ya e) hv
  rw[e] at e'
  cases e'
  exact⟨_,_,.inr (SqT.of ea),rfl,k⟩
def bb3(Z:An K t):OkD K Y3 (Av K t) bl (t.m_zca 12) (t.e_zca 12) (at5 K t):=by
 refine A5 (cd9 K t) λvs H Q E h=>?_
 .obtain⟨p,T,n,x,rfl,hP,o,e,k⟩:=h;refine⟨rfl,?_⟩
  obtain⟨dx,d,⟨_,ep⟩,_⟩:=id hP
  exact⟨p,dx,_,⟨t.c_zca,bx9 K t⟩,rfl,.head _,ep,rfl,⟨ag _,ag _⟩,⟨p,T,n,x,rfl,hP,o,e,(show 2<=sizeLine by decide),k⟩⟩
def b01(Z:An K t):OkD K ax3 (Av K t) bl (t.m_zca 6) (t.e_zca 6) (as9 K t):=by
 refine A5 (cd4 K t) λvs H Q E h=>?_
 .obtain⟨p,T,n,rfl,hP,o,c,k⟩:=h;refine⟨rfl,?_⟩
  obtain⟨dx,d,⟨_,e⟩,es,et,⟨_,ed⟩,he⟩:=hP
  refine Kf (λ_=>?_) (λ_=>Kg k)
  refine fY ⟨_,_,_,.ref d,e,Z.pc,Z.pr,rfl,.inr ⟨_,.inl ⟨_,.inr n,.inl ed,rfl,rfl⟩,?_⟩⟩
  rcases Ec et o n with⟨a,b⟩|⟨x,_,a,b⟩
  .rw[b] at c;cases c
  .rw[a];exact k
end
def Gc(T:Tr)(zs:List Str)(z p:Str):chz T (zs++[z]) p=chz T zs p++(if(pT T z)=p then [z] else []):=by
 unfold chz
 rw[i5]
 congr 1
 by_cases h:(pT T z)=p <;> simp[h]
structure UnI (T:Tr) (N:Addr->Prop) (H:Hp) (u:Addr) (zs:List Str) (kvs:List (Key×V)):Prop where
 at_:H u=some (.dK kvs)
 no:∀p,Bf kvs (.inr p)=none->chz T zs p=[]
 yes:∀p v,Bf kvs (.inr p)=some v -> ∃l,v=.ref l/\H l=some (.lst ((chz T zs p).map V.str))/\N l
 inj:∀p p' v,Bf kvs (.inr p)=some v->Bf kvs (.inr p')=some v->p=p'
 len:kvs.length<=zs.length
section
variable {T:Tr}{N:Addr->Prop}{H:Hp}{u q l:Addr}{zs:List Str}{kvs:List (Key×V)}{z:Str}
def UnI.old(h:UnI T N H u zs kvs)(hq:H q=none)(e:Bf kvs (.inr (pT T z))=some (.ref l)) :
  H l=some (.lst ((chz T zs (pT T z)).map V.str))/\UnI T N (upd (upd H q (.lst [])) l (.lst ((chz T zs (pT T z)).map V.str++[.str z]))) u (zs++[z]) kvs:=by
 obtain⟨l',el,hl,h0⟩:=h.yes _ _ e
 cases el
 have lu:u≠l:=λc=>by rw[<- c,h.at_] at hl;cases hl
 have qu:u≠q:=λc=>by rw[<- c,h.at_] at hq;cases hq
 refine⟨hl,by rw[Ad lu,Ad qu];exact h.at_,λp hp=>?_,λp v hp=>?_,h.inj,by have:=h.len;rw[aI];omega⟩
 .rw[Gc,h.no p hp,if_neg (λc=>by rw[c,hp] at e;cases e)]
  rfl
 .obtain⟨l2,rfl,hl2,h2⟩:=h.yes p v hp
  refine⟨l2,rfl,?_,h2⟩
  by_cases c:(pT T z)=p
  .subst c
   rw[hp] at e
   cases e
   rw[Aa,Gc,if_pos rfl,aq]
   rfl
  .have n1:l2≠l:=λc2=>by
    rw[c2] at hp
    exact c (h.inj _ _ _ e hp)
   have n2:l2≠q:=λc2=>by rw[c2,hq] at hl2;cases hl2
   rw[Ad n1,Ad n2,Gc,if_neg c,b7]
   exact hl2
def UnI.new(h:UnI T N H u zs kvs)(hq:H q=none)(h0q:N q)(e:Bf kvs (.inr (pT T z))=none) :
  UnI T N (upd (upd (upd H q (.lst [])) u (.dK (Cj kvs (.inr (pT T z)) (.ref q)))) q (.lst ([]++[.str z]))) u (zs++[z]) (Cj kvs (.inr (pT T z)) (.ref q)):=by
 have qu:u≠q:=λc=>by have:=h.at_;rw[c,hq] at this;cases this
 have vq:∀p v,Bf kvs (.inr p)=some v->v≠.ref q:=λp v hp c=>by
  obtain⟨l2,rfl,hl2,_⟩:=h.yes p v hp
  cases c
  rw[hq] at hl2
  cases hl2
 refine⟨by rw[Ad qu,Aa],λp hp=>?_,λp v hp=>?_,λp p' v hp hp'=>?_,?_⟩
 .rw[Iw] at hp
  split at hp
  .cases hp
  .rename_i c
   rw[Gc,h.no p hp,if_neg (λc2=>c (by rw[c2]))]
   rfl
 .rw[Iw] at hp
  split at hp
  .rename_i c
   have c:=ie c
   subst c
   cases hp
   refine⟨q,rfl,?_,h0q⟩
   rw[Aa,Gc,h.no _ e,if_pos rfl]
   rfl
  .rename_i c
   obtain⟨l2,rfl,hl2,h2⟩:=h.yes p v hp
   have n2:l2≠q:=λc2=>by rw[c2,hq] at hl2;cases hl2
   have n3:l2≠u:=λc2=>by rw[c2,h.at_] at hl2;cases hl2
   refine⟨l2,rfl,?_,h2⟩
   rw[Ad n2,Ad n3,Ad n2,Gc,if_neg (λc2=>c (by rw[c2])),b7]
   exact hl2
 .rw[Iw] at hp hp'
  split at hp
  .rename_i c
   split at hp'
   .rename_i c'
    exact(ie c).trans (ie c').symm
   .exact absurd (az hp).symm (vq p' v hp')
  .split at hp'
   .exact absurd (az hp').symm (vq p v hp)
   .exact h.inj p p' v hp hp'
 .have:=Dg kvs (.inr (pT T z)) (.ref q)
  have:=h.len
  rw[aI,bR]
  omega
end
section
variable {P:aW}{w:bC}{K:ac}{mg:Str->Option Value}{base:Heap}{t:Adr}
def X9(h:z∈T.map (·.1))(o:Bl T):∃x,T.lookup z=some x/\pT T z=x.p/\rkT T z=x.r:=by
 obtain⟨x,e,_⟩:=Ji o h
 exact⟨x,e,by unfold pT;rw[e];rfl,by unfold rkT;rw[e];rfl⟩
def ord_mem:z∈Fw T↔z∈T.map (·.1):=(Ar _ _).mem_iff
def b00(Z:An K t):OkD K ax2 (Av K t) bl (t.m_zca 0) (t.e_zca 0) (as8 K t):=by
 refine A5 (cd3 K t) λvs H Q E h=>?_
 .obtain⟨p,T,rfl,hP,o,k⟩:=h;refine⟨rfl,?_⟩
  refine λu hu=>.inl ?_
  have S1:=Same.upd (o:=.dK []) hu
  have e1:upd H u (.dK []) u=some (.dK []):=Aa
  generalize upd H u (.dK [])=H1 at S1 e1 ⊢
  have hP1:=hP.up S1
  obtain⟨dx,d,⟨_,e⟩,es,et,⟨_,ed⟩,_⟩:=id hP1
  have l8:(T.map (·.1)).length<=8:=by rw[ae];exact o.2.1
  have ek:(es.map kT).map (·.1)=(T.map (·.1)).map du:=by rw[<- et,aB,aB,aB];rfl
  refine fY ⟨_,_,_,.ref d,e,Z.pc,Z.pr,rfl,⟨d,p,dx,_,⟨t.c_zca,bx7 K t⟩,T.map (·.1),rkT T,rfl,.inr ⟨_,.inl ed,ek⟩,o.1,by omega,rfl,.head _,e,rfl,(λz hz H3 S3=>?_),λH3 D S3 hD eD=>.inl ⟨⟨_,SqL.of eD⟩,?_⟩⟩⟩
  .obtain⟨x,ex,_,er⟩:=X9 hz o
   exact⟨p,T,z,x,rfl,hP1.up S3,o,ex,λq hq=>⟨q,rfl,Same.upd hq,by rw[er];exact Aa⟩⟩
  have hD0:=S1.free hD
  have uD:D≠u:=λc=>by rw[c,e1] at hD;cases hD
  have lo:(Fw T).length=(T.map (·.1)).length:=(Ar _ _).length_eq
  have eD:=eD
  show Um (Itl K D) _ _ _ [some (.ref p),some (.ref u),none] H3
  refine A3 (Ay ((Fw T).map V.str)) (λi σ H'=>(∃v,σ=[some (.ref p),some (.ref u),v])/\Same H H'/\H' D=some (.lst ((Fw T).map V.str))/\∃kvs,UnI T (λl=>H l=none/\l≠D) H' u ((Fw T).take i) kvs)
   ⟨⟨_,rfl⟩,S1.trans S3,eD,[],S3 _ _ e1,(λ_ _=>rfl),(λp v hp=>by cases hp),(λp p' v hp=>by cases hp),bw _⟩ (λi σ' H' _ h=>SqL.of h.2.2.1) ?_ ?_
  .rintro i x σ H4 hx ⟨⟨v,rfl⟩,S4,eD4,kvs,U⟩
   obtain⟨z,hz,rfl⟩:=Am hx
   have hi:=Ak hz
   have hP4:=hP.up S4
   obtain⟨dx4,d4,⟨_,e4⟩,_⟩:=id hP4
   obtain⟨x,ex,ep,_⟩:=X9 (ord_mem.mp (aj hz)) o
   have tk:(Fw T).take (i+1)=(Fw T).take i++[z]:=by rw[aJ,hz];rfl
   have kl:kvs.length<1000:=by have:=U.len;rw[aM] at this;omega
   refine⟨.inr (.inr (.inl ⟨rfl,.inl ⟨kvs,U.at_⟩⟩)),⟨p,dx4,_,⟨t.c_zca,bx6 K t⟩,rfl,.head _,e4,rfl,⟨ag _,ag _⟩,⟨p,T,z,x,rfl,hP4,o,ex,?_⟩⟩⟩
   rw[<- ep]
   refine⟨(show 0<=sizeLine by decide),λq hq=>?_⟩
   have S5:=Same.upd (o:=.lst []) hq
   refine .inr ⟨u,.inr (pT T z),.ref q,kvs,rfl,rfl,S5 _ _ U.at_,Nat.lt_trans kl (by decide),?_⟩
   have hq3:H q=none/\q≠D:=⟨S4.free hq,λc=>by rw[c,eD4] at hq;cases hq⟩
   cases ev:Bf kvs (.inr (pT T z)) with
   |some v=>
    obtain⟨l,rfl,hl,h0⟩:=U.yes _ _ ev
    obtain⟨hl,U2⟩:=U.old (z:=z) hq ev
    refine⟨.inl ⟨rfl,_,SqL.of (S5 _ _ hl)⟩,l,_,_,rfl,rfl,S5 _ _ hl,?_,⟨⟨_,rfl⟩,(S4.trans S5).set h0.1,?_,kvs,by rw[tk];exact U2⟩⟩
    .rw[ae]
     have:(chz T ((Fw T).take i) (pT T z)).length<=((Fw T).take i).length:=cx _ _
     rw[aM] at this
     exact bb (show _<=10 by omega) (by decide)
    .rw[Ad (cg h0.2)]
     exact S5 _ _ eD4
   |none=>
    have U2:=U.new (z:=z) hq hq3 ev
    have qu:q≠u:=λc=>by have:=U.at_;rw[<- c,hq] at this;cases this
    refine⟨.inl ⟨rfl,[],SqL.of ?_⟩,q,[],_,rfl,rfl,?_,by decide,⟨⟨_,rfl⟩,((S4.trans S5).set hu).set hq3.1,?_,_,by rw[tk];exact U2⟩⟩
    .rw[Ad qu,Aa]
    .rw[Ad qu,Aa]
    .rw[Ad (cg hq3.2),Ad uD,Ad (cg hq3.2)]
     exact eD4
  .rintro σ H4 ⟨⟨v,rfl⟩,S4,eD4,kvs,U⟩
   rw[ae,aA] at U
   refine .inl (k H4 u S4 ⟨kvs,U.at_,λp=>?_⟩)
   split
   .rename_i c;exact U.no p c
   .rename_i v' c
    obtain⟨l,e1,e2,_⟩:=U.yes p v' c
    exact⟨l,e1,e2⟩
def UnAt.up(h:UnAt H u T)(S:Same H H'):UnAt H' u T:=by
 obtain⟨kvs,e,g⟩:=h
 refine⟨kvs,S _ _ e,λp=>?_⟩
 have:=g p
 split at this
 .exact this
 .obtain⟨l,e1,e2⟩:=this
  exact⟨l,e1,S _ _ e2⟩
def UnAt.get(h:UnAt H u T)(p:Str)(hq:H q=some (.lst [])):∃o l,DGet H u (.str p) o/\o.getD (.ref q)=.ref l/\H l=some (Bd (chz T (Fw T) p)):=by
 obtain⟨kvs,e,g⟩:=h
 have:=g p
 split at this
 .rename_i ev
  refine⟨none,q,.inl ⟨kvs,.inr p,.inl e,rfl,ev.symm⟩,rfl,?_⟩
  rw[this]
  exact hq
 .rename_i v ev
  obtain⟨l,rfl,hl⟩:=this
  exact⟨some (.ref l),l,.inl ⟨kvs,.inr p,.inl e,rfl,ev.symm⟩,rfl,hl⟩
def a99(o:Bl T)(p:Str):(chz T (Fw T) p).reverse.Nodup/\(∀z,z∈(chz T (Fw T) p).reverse↔Ch T p z)/\(chz T (Fw T) p).length<=8:=by
 have pm:=Ar (ltK (rkT T)) (T.map (·.1))
 refine⟨?_,λz=>?_,?_⟩
 .exact (List.reverse_perm _).nodup_iff.mpr ((pm.nodup_iff.mpr o.1).sublist lE)
 .unfold chz
  rw[iA,bz,decide_eq_true_iff,ord_mem]
  constructor
  .rintro⟨hz,e⟩
   obtain⟨x,ex,ep,_⟩:=X9 hz o
   exact⟨x,ex,ep▸e⟩
  .rintro⟨x,ex,e⟩
   have hz:z∈T.map (·.1):=List.mem_map.mpr ⟨_,Cm ex,rfl⟩
   obtain⟨x',ex',ep,_⟩:=X9 hz o
   rw[ex] at ex'
   cases ex'
   exact⟨hz,ep.trans e⟩
 .have:=cx (λz=>decide (pT T z=p)) (Fw T)
  have l:=pm.length_eq
  have:=o.2.1
  unfold chz
  unfold Fw at *
  rw[ae] at l
  omega
theorem Sy{H:Hp}{c:Int}:∀{zs}{vs:List V},vs.length=zs.length->(∀(i:Nat) v,vs[i]?=some v -> ∀z,zs[i]?=some z -> ∃q,v=.ref q/\H q=some (.tup [.int c,.str z])) -> ∃es:List ((Int×Str)×Addr),es.map (·.1.2)=zs/\vs=es.map (λe=>.ref e.2)/\∀e∈es,H e.2=some (.tup [.int e.1.1,.str e.1.2])
 |[],[],_,_=>⟨[],rfl,rfl,λe h=>by cases h⟩
 |[],_::_,h,_=>by simp at h
 |_::_,[],h,_=>by simp at h
 | z::zs,v::vs,h,g=>by
  obtain⟨q,rfl,hq⟩:=g 0 v rfl z rfl
  obtain⟨es,e1,e2,e3⟩:=Sy (by simpa using h) λi v h1 z h2=>g (i+1) v h1 z h2
  exact⟨((c,z),q)::es,by rw[aT,e1],by rw[aT,<- e2],λe he=>(List.mem_cons.mp he).elim (λc=>by rw[c];exact hq) (e3 e)⟩
def ah8{a:Addr}{zs:List Str}{H:Hp}{c:Int}{te:DE}{rest:St}{R:Hp->Addr->Prop}{E:EK}(ha:H a=some (Bd zs))(hz:zs.length<=8)(he:∀z (H1:Hp) (Q1:VK),Same H H1->(∀q,H1 q=none->Q1 (.ref q) (upd H1 q (.tup [.int c,.str z])))->te (some (.str z)::rest) H1 Q1 E)(k:∀D H' (es:List ((Int×Str)×Addr)),Same H H'->H D=none->H' D=some (.lst (es.map λe=>.ref e.2))->es.map (·.1.2)=zs.reverse->(∀e∈es,H' e.2=some (.tup [.int e.1.1,.str e.1.2]))->R H' D) :
  ∀D,H D=none->Ez (Rr K a (zs.map V.str).length) (gdN 0) Cg te D (λH'=>R H' D) (none::rest) (upd H D (.lst [])) E:=by
 refine Hi (P:=λi v H'=>∀z,zs.reverse[i]?=some z -> ∃q,v=.ref q/\H' q=some (.tup [.int c,.str z])) (λi v _ _ S q z hz=>let⟨b,e,h⟩:=q z hz;⟨b,e,S.tup _ _ h⟩) (aw7 (zs.map V.str)) (λH1 S=>S.seqL (SqL.of ha)) (by rw[bu,ae];omega) (λi x H1 Q1 hx S q=>?_) λD H' vs S hD eD lv hv=>?_
 .rw[<- iy] at hx
  obtain⟨z,hz,rfl⟩:=Am hx
  exact he z H1 Q1 S λb hb=>q _ _ (Same.upd hb) λz' hz'=>by rw[hz] at hz';cases hz';exact⟨b,rfl,Aa⟩
 .obtain⟨es,e1,e2,e3⟩:=Sy (by rw[lv,bu,ae,bu]) hv
  exact k D H' es S hD (by rw[eD,e2]) e1 e3
abbrev Ln:=(Int×Str)×Addr
abbrev lnO(es:List Ln):HO:=.lst (es.map λe=>.ref e.2)
structure WkI (T:Tr) (n:Str) (H1:Hp) (f wt:Addr) (fs ws:List Ln) (H:Hp):Prop where
 sm:Same H1 H
 hf:H f=some (lnO fs)
 hw:H wt=some (lnO ws)
 tu:∀e∈fs++ws,H e.2=some (.tup [.int e.1.1,.str e.1.2])
 wi:WInv T n (fs.map (·.1.2)) (ws.map (·.1.2))
def bk5(Z:An K t):OkD K Xi (Av K t) bl (t.m_zca 11) (t.e_zca 11) (Wi K t):=by
 refine A5 (b59 K t) λvs H Q E h=>?_
 .obtain⟨p,T,n,rfl,hP,o,ne,k⟩:=h;refine⟨rfl,?_⟩
  obtain⟨dx,d,⟨_,e⟩,_⟩:=id hP
  have t8:=o.2.1
  refine⟨p,dx,_,⟨t.c_zca,bx3 K t⟩,rfl,.head _,e,rfl,⟨ag _,ag _⟩,⟨p,T,rfl,hP,o,λH1 u S1 hU=>?_⟩⟩
  refine⟨(show 0<=sizeLine by decide),λf hf=>?_⟩
  have S2:=Same.upd (o:=.lst []) hf
  have ef:upd H1 f (.lst []) f=some (.lst []):=Aa
  generalize upd H1 f (.lst [])=H2 at S2 ef ⊢
  obtain⟨kvs,eu,_⟩:=(hU.up S2)
  refine⟨.inr (.inr (.inl ⟨rfl,.inl ⟨kvs,eu⟩⟩)),⟨(show 0<=sizeLine by decide),λq hq=>?_⟩⟩
  have S3:=Same.upd (o:=.lst []) hq
  have eq:upd H2 q (.lst []) q=some (.lst []):=Aa
  generalize upd H2 q (.lst [])=H3 at S3 eq ⊢
  obtain⟨o1,l,h1,h2,h3⟩:=((hU.up S2).up S3).get n eq
  refine⟨o1,h1,?_⟩
  rw[h2]
  obtain⟨c1,c2,c3⟩:=a99 o n
  refine⟨_,SqL.of h3,?_⟩
  refine ah8 (c:=1) (rest:=[]) h3 c3 (λz H4 Q1 S4 q=>⟨(show 2<=sizeLine by decide),q⟩) λL H4 ws S4 hL eL el ht=>?_
  have fL:f≠L:=λc=>by rw[<- c,S3 _ _ ef] at hL;cases hL
  have hL1:H1 L=none:=(S2.trans S3).free hL
  have I0:WkI T n H1 f L [] ws H4:=⟨(S2.trans S3).trans S4,S4 _ _ (S3 _ _ ef),eL,ht,by rw[el];exact WInv.first c1 c2⟩
  refine⟨λm σ H'=>∃fs ws v,m=8-fs.length/\σ=[some (.ref p),some (.str n),some (.ref u),some (.ref f),some (.ref L),v]/\WkI T n H1 f L fs ws H',⟨_,_,_,_,rfl,rfl,I0⟩,?_⟩
  clear I0 S4 eL ht hL S3 eq h1 h2 h3 S2 ef el c1 c2 c3
  rintro m σ H5 ⟨fs,ws,v,rfl,rfl,I⟩
  have hl:=I.wi.len o
  rw[ae,ae] at hl
  refine⟨(show 0<=sizeLine by decide),λq hq=>?_⟩
  have S6:=Same.upd (o:=.lst []) hq
  have eq:upd H5 q (.lst []) q=some (.lst []):=Aa
  generalize upd H5 q (.lst [])=H6 at S6 eq ⊢
  have I:WkI T n H1 f L fs ws H6:=⟨I.sm.trans S6,S6 _ _ I.hf,S6 _ _ I.hw,λe h=>S6 _ _ (I.tu e h),I.wi⟩
  rcases List.eq_nil_or_concat ws with rfl|⟨ws',x,rfl⟩
  .refine .inl ⟨L,q,[],[],rfl,rfl,SqL.of I.hw,SqL.of eq,rfl,rfl,?_⟩
   have w:=I.wi
   rw[fg] at w
   exact k H6 f (fs.map (·.1.2)) (S1.trans I.sm) ⟨fs,rfl,I.hf,λe h=>I.tu e (bx _ h)⟩ w.last.1 w.last.2 (by rw[ae];omega)
  .rw[List.concat_eq_append] at I hl
   have w:=I.wi
   rw[aq] at w
   obtain⟨c1,c2,c3⟩:=a99 o x.1.2
   rw[aI,bR] at hl
   refine .inr (.inr (.inl (.inr (.inr ⟨_,_,SqL.of I.hw,SqL.of eq,by simp,?_⟩))))
   refine⟨λσ H'=>∃fs2 ws2 v2,fs2.length=fs.length+1/\σ=[some (.ref p),some (.str n),some (.ref u),some (.ref f),some (.ref L),v2]/\WkI T n H1 f L fs2 ws2 H',?_,?_⟩
   .rintro σ' H' ⟨fs2,ws2,v2,e1,e2,e3⟩
    exact⟨8-fs2.length,by omega,fs2,ws2,v2,rfl,e2,e3⟩
   .have hw:H6 L=some (.lst ((ws'.map λe=>V.ref e.2)++[.ref x.2])):=by have:=I.hw;rw[lnO,aq] at this;exact this
    refine⟨.inl ⟨rfl,_,SqL.of hw⟩,.inl ⟨L,_,_,rfl,rfl,hw,by rw[aI,bR,Nat.add_sub_cancel];exact List.getElem?_concat_length,?_⟩⟩
    rw[List.dropLast_concat]
    have k7:=NL.upd (m:=ws'.map λe=>V.ref e.2) hw
    have s7:Same H1 (upd H6 L (lnO ws')):=I.sm.set hL1
    have f7:upd H6 L (lnO ws') f=some (lnO fs):=by rw[Ad fL];exact I.hf
    have e7:upd H6 L (lnO ws') L=some (lnO ws'):=Aa
    generalize upd H6 L (lnO ws')=H7 at k7 s7 f7 e7 ⊢
    refine⟨.inl ⟨rfl,_,SqL.of f7⟩,f,_,_,rfl,rfl,f7,bb (show(fs.map λe=>V.ref e.2).length<=10 by rw[ae];omega) (by decide),?_⟩
    have k8:=NL.upd (m:=(fs.map λe=>V.ref e.2)++[.ref x.2]) f7
    have s8:Same H1 (upd H7 f (.lst ((fs.map λe=>V.ref e.2)++[.ref x.2]))):=s7.set hf
    have f8:upd H7 f (.lst ((fs.map λe=>V.ref e.2)++[.ref x.2])) f=some (lnO (fs++[x])):=by rw[Aa,lnO,aq];rfl
    have e8:upd H7 f (.lst ((fs.map λe=>V.ref e.2)++[.ref x.2])) L=some (lnO ws'):=by rw[Ad (cg fL)];exact e7
    generalize upd H7 f (.lst ((fs.map λe=>V.ref e.2)++[.ref x.2]))=H8 at k8 s8 f8 e8 ⊢
    have t8':∀e∈fs++(ws'++[x]),H8 e.2=some (.tup [.int e.1.1,.str e.1.2]):=λe h=>k8.tup _ _ (k7.tup _ _ (I.tu e h))
    have tx:=t8' x (by simp)
    obtain⟨kvs,eu,_⟩:=id (hU.up s8)
    refine⟨.inl ⟨rfl,_,SqL.of e8⟩,⟨.inr (.inr (.inl ⟨rfl,.inl ⟨kvs,eu⟩⟩)),⟨_,_,.inr (SqT.of tx),rfl,⟨(show 0<=sizeLine by decide),λq2 hq2=>?_⟩⟩⟩⟩
    have S9:=Same.upd (o:=.lst []) hq2
    have e9:upd H8 q2 (.lst []) q2=some (.lst []):=Aa
    generalize upd H8 q2 (.lst [])=H9 at S9 e9 ⊢
    obtain⟨o2,l2,g1,g2,g3⟩:=((hU.up s8).up S9).get x.1.2 e9
    refine⟨o2,g1,?_⟩
    rw[g2]
    refine⟨_,SqL.of g3,?_⟩
    refine ah8 (c:=x.1.1+1) (rest:=[some (.ref x.2)]) g3 c3 (λz H10 Q1 S10 q=>⟨_,_,.inr (SqT.of ((S9.trans S10) _ _ tx)),rfl,(show 2<=sizeLine by decide),q⟩) λL2 H10 vs S10 hL2 eL2 el ht=>?_
    have S10:=S9.trans S10
    have e10:=S10 _ _ e8
    have l3:=congrArg cE el
    rw[ae,bu] at l3
    refine⟨L,L2,_,_,rfl,rfl,e10,eL2,aU (show(ws'.map λe=>V.ref e.2).length+(vs.map λe=>V.ref e.2).length<=20 by rw[ae,ae];omega) (by decide),?_⟩
    have k10:=NL.upd (m:=(ws'.map λe=>V.ref e.2)++vs.map λe=>V.ref e.2) e10
    refine⟨fs++[x],ws'++vs,_,by rw[aI,bR],rfl,(s8.trans S10).set hL1,by rw[Ad fL];exact S10 _ _ f8,by rw[Aa,lnO,aq],λe h=>?_,?_⟩
    .rcases List.mem_append.mp h with h|h
     .refine k10.tup _ _ (S10 _ _ (t8' e ?_))
      rcases List.mem_append.mp h with h|h
      .exact bx _ h
      .exact aH _ (aH _ h)
     .rcases List.mem_append.mp h with h|h
      .exact k10.tup _ _ (S10 _ _ (t8' e (aH _ (bx _ h))))
      .exact k10.tup _ _ (ht e h)
    .rw[aq,aq]
     exact w.step o ne (el▸c1) (el▸c2)
def bb4(Z:An K t):OkD K ax9 (Av K t) bl (t.m_zca 1) (t.e_zca 1) (at9 K t):=by
 refine A5 (ce4 K t) λvs H Q E h=>?_
 .obtain⟨p,T,n,rfl,hP,o,c,k⟩:=h;refine⟨rfl,?_⟩
  have big:(1000:Nat)<sizeLine:=by decide
  obtain⟨dx,d,⟨_,e⟩,_⟩:=id hP
  have ne:n ≠ "" := λz=>by
   obtain⟨x,ex,hx⟩:=Ji o ((a76 o n).mp c)
   obtain⟨i,hi⟩:=List.mem_iff_getElem?.mp hx
   exact(o.2.2.2 i n x hi).1 z
  refine⟨p,dx,_,⟨t.c_zca,bx4 K t⟩,rfl,.head _,e,rfl,⟨ag _,ag _⟩,⟨p,T,n,rfl,hP,o,c,?_⟩⟩
  refine⟨p,dx,_,⟨t.c_zca,ba7 K t⟩,rfl,.head _,e,rfl,⟨ag _,ag _⟩,⟨p,T,n,rfl,hP,o,ne,λH1 l zs S1 ⟨es,ee,el,he⟩ nd hz lz=>?_⟩⟩
  have le:es.length=zs.length:=by rw[<- ee,ae]
  refine .inl ⟨⟨_,SqL.of el⟩,λD hD=>?_⟩
  refine Cu (Ay (es.map λe=>V.ref e.2)) (λi σ H'=>(∃v0 v1,σ=[v0,v1])/\Same H1 H'/\H' D=some (Bd ((es.take i).map (·.1.2)))) ⟨⟨_,_,rfl⟩,Same.upd hD,Aa⟩ (λ_ _ H' _ q=>q.2.1.seqL (SqL.of el)) ?_ ?_
  .rintro i x σ H2 hx ⟨⟨v0,v1,rfl⟩,S2,eD⟩
   obtain⟨e,hi,rfl⟩:=Am hx
   refine⟨_,.inl (SqT.of (S2 _ _ (he e (aj hi)))),rfl,_,eD,by rw[ae,ae,aM];omega,⟨_,_,rfl⟩,S2.set hD,?_⟩
   rw[Aa,B0 hi,Bd,aq];rfl
  .rintro σ H2 ⟨_,S2,eD⟩
   rw[ae,aA,ee] at eD
   exact k H2 D zs (S1.trans S2) eD nd hz lz
def bm6(Z:An K t):OkD K ae9 (Av K t) bl (t.f 35) (t.d 35) (Wy K t):=by
 refine A5 (b79 K t) λvs H Q E h=>?_
 .obtain⟨v,rfl,hf,k⟩:=h;refine⟨rfl,?_⟩
  cases v with
  |int i=>exact⟨rfl,rfl,k⟩
  |bl b=>exact⟨rfl,rfl,k⟩
  |str z=>exact⟨rfl,k⟩
  |non=>exact⟨rfl,k⟩
  |_=>exact(hf).elim
def bm2(Z:An K t):OkD K ae6 (Av K t) bl (t.f 37) (t.d 37) (Wu K t):=by
 refine A5 (b75 K t) λvs H Q E h=>?_
 .obtain⟨i,rfl,k⟩:=h;refine⟨rfl,?_⟩
  exact⟨rfl,rfl,k⟩
def Ja(Z:An K t)(k:NoC t H E):B7 K (dFn (λvs H Q E=>vs.length<=1000/\mkX t.c_zbx none 0 vs H Q E) (Ac (dC (.str z)) Ag)) (X4 Q E) σ H:=
 ⟨(show 1<=1000 by decide),λa ha=>⟨_,none,Aa,Z.en,k _ a (λb o e=>by rw[Ad (Ai e ha),Ad (Ai e ha)];exact e) Aa⟩⟩
def b19(Z:An K t):OkX K ay3 (Av K t) bl (t.m_zcb 2) (t.e_zcb 2) (au7 K t):=by
 refine a27 (cf2 K t) λvs H Q E h=>?_
 .obtain⟨b,v,sw,gs,ns,tr,rfl,hv,hb,S,hn,kY,kN⟩:=h;refine⟨rfl,?_⟩
  obtain⟨dx,p,l,eb,hp,es,ee,el,he⟩:=hb
  obtain⟨l1,s1,h1,h2⟩:=hp
  obtain⟨dxp,fs,ep,_,_,hm⟩:=id h1
  refine⟨v,rfl,hv,?_⟩
  cases v with
  |bl b=>exact Ja Z (kN rfl)
  |str z=>exact Ja Z (kN rfl)
  |non=>exact Ja Z (kN rfl)
  |int i=>
   cases i with
   |negSucc i=>exact Ja Z (kN (by unfold Gz;exact if_neg λc=>by have:=c.1;omega))
   |ofNat n=>
    have hN:n∈ns->Gz ns (.int (.ofNat n))=some n:=λh=>if_pos ⟨i4 n,h⟩
    have hO:n∉ns->Gz ns (.int (.ofNat n))=none:=λh=>if_neg λc=>h c.2
    refine fY ⟨_,_,_,_,eb,Z.bc,Z.bp,rfl,⟨p,dxp,_,⟨t.c_zbz,ak2 K t⟩,rfl,.head _,ep.2,hm _ (by simp),⟨ag _,ag _⟩,⟨p,l1,s1,sw,rfl,h1,h2,?_⟩⟩⟩
    by_cases c1:n<(Aj sw).length
    .refine Ht (decide_eq_true (show(n:Int)<((Aj sw).length:Int) by omega)) ?_
     refine fY ⟨_,_,_,_,eb,Z.bc,Z.bk,rfl,(.inl ⟨⟨_,SqL.of el⟩,?_⟩)⟩
     refine A3 (Ay (es.map λe=>V.ref e.2.2)) (λi σ H'=>(∃v2,σ=[some (.ref b),some (.int (n:Int)),v2])/\H'=H/\∀e∈es.take i,e.1.1.2.2.testBit n=false) ⟨⟨_,rfl⟩,rfl,λe h=>by cases h⟩ (λ_ _ H' _ q=>q.2.1▸SqL.of el) ?_ ?_
     .rintro i x σ H1 hx ⟨⟨v2,rfl⟩,rfl,no⟩
      obtain⟨e,hi,rfl⟩:=Am hx
      have hm:=aj hi
      obtain⟨e1,hP,o1,v1⟩:=he e hm
      refine⟨_,_,.inr (SqT.of e1),rfl,e.1.1.2.2,n,rfl,?_⟩
      cases c:e.1.1.2.2.testBit n with
      |true=>
       obtain⟨hn',ev⟩:=(S.bits (by rw[<- ee];exact List.mem_map.mpr ⟨e,hm,rfl⟩) n).mp c
       exact kY n (hN hn') e.2.2 _ e.2.1 e.1.2 e1 hP o1 (v1.trans ev.symm)
      |false=>
       refine⟨⟨_,rfl⟩,rfl,λx hx=>?_⟩
       rw[aJ,hi] at hx
       rcases List.mem_append.mp hx with hx|hx
       .exact no x hx
       .obtain rfl:x=e:=by simpa using hx
        exact c
     .rintro σ H1 ⟨⟨v2,rfl⟩,rfl,no⟩
      rw[ae,aA] at no
      refine .inl (Ja Z (kN (hO λh=>?_)))
      obtain⟨g,hg,_,b0⟩:=S.get h
      rw[<- ee] at hg
      obtain⟨e,h,rfl⟩:=List.mem_map.mp hg
      rw[no e h] at b0
      cases b0
    .exact Gs (decide_eq_false (show ¬ (n:Int)<((Aj sw).length:Int) by omega)) (Ja Z (kN (hO λh=>c1 (hn n h))))
  |_=>exact(hv).elim
def Th{a b:Nat}(h:∀j,a.testBit j=true↔b.testBit j=true):a=b:=eI λj=>by rw[b5];exact h j
def ar6{n:Str}{gs:List Gp}{rs:List ((Nat×Tr)×Addr×Addr)}(e:(rs.map λr=>(vkT r.1.2,r.1.1))=(gs.filter (hsB n)).map (λg=>(g.1,g.2.2))):(∀r∈rs,∃g∈gs,r.1.1=g.2.2/\vkT r.1.2=g.1)/\∀g∈gs,aj9 g.1 n -> ∃r∈rs,r.1.1=g.2.2/\vkT r.1.2=g.1:=by
 constructor
 .intro r hr
  have:(vkT r.1.2,r.1.1)∈rs.map λr=>(vkT r.1.2,r.1.1):=List.mem_map.mpr ⟨r,hr,rfl⟩
  rw[e] at this
  obtain⟨g,hg,q⟩:=List.mem_map.mp this
  exact⟨g,(List.mem_filter.mp hg).1,(congrArg (·.2) q).symm,(congrArg (·.1) q).symm⟩
 .intro g hg h
  have:(g.1,g.2.2)∈(gs.filter (hsB n)).map λg=>(g.1,g.2.2):=List.mem_map.mpr ⟨g,List.mem_filter.mpr ⟨hg,hsB_iff.mpr h⟩,rfl⟩
  rw[<- e] at this
  obtain⟨r,hr,q⟩:=List.mem_map.mp this
  exact⟨r,hr,congrArg (·.2) q,congrArg (·.1) q⟩
def Bk.some{ns:List Nat}{tr:Nat->Tr}{gs:List Gp}(S:Bk ns tr gs){n:Str}{m:Nat}(h:m∈ns)(c:(stT (tr m) n).isSome=true):gs.filter (hsB n)≠[]:=λz=>by
 obtain⟨g,hg,e,_⟩:=S.get h
 have:g∈gs.filter (hsB n):=List.mem_filter.mpr ⟨hg,hsB_iff.mpr (by rw[e];exact(Hr (S.ok m h).1 n).mpr c)⟩
 rw[z] at this
 cases this
def an4{ns:List Nat}{v:V}{m:Nat}(h:Gz ns v=some m):m∈ns:=by
 unfold Gz at h
 cases v with
 |int i=>
  rw[Option.ite_none_right_eq_some] at h
  exact az h.2▸h.1.2
 |_=>cases h
def bk0(Z:An K t):OkX K Xf (Av K t) bl (t.m_zcb 0) (t.e_zcb 0) (Wf K t):=by
 refine a27 (b54 K t) λvs H Q E h=>?_
 .obtain⟨b,n,v,sw,gs,ns,tr,rfl,hv,hb,hB,hl,kY,kN⟩:=h;refine⟨rfl,?_⟩
  obtain⟨dxb,_,_,eb,_⟩:=id hb
  refine⟨b,dxb,_,⟨t.c_zcb,by2 K t⟩,rfl,.head _,eb,rfl,⟨ag _,ag _⟩,⟨b,v,sw,gs,ns,tr,rfl,hv,hb,hB,hl,λm em a u q T ea hP oT ev=>?_,λh H1 a S e=>⟨a,rfl,kN h H1 a S e⟩⟩⟩
  have kY:=kY m em
  have hm:=an4 em
  have om:=(hB.ok m hm).1
  have sT:=Ua oT om ev n
  obtain⟨dx1,d1,⟨_,ep1⟩,_⟩:=id hP
  refine⟨_,_,.inr (SqT.of ea),rfl,?_⟩
  refine⟨q,dx1,_,⟨t.c_zca,ak4 K t⟩,rfl,.head _,ep1,rfl,⟨ag _,ag _⟩,⟨q,T,n,rfl,hP,oT,?_⟩⟩
  rw[sT]
  by_cases c:(stT (tr m) n).isSome=true
  case neg=>
   rw[if_neg c] at kY
   rw[Bool.not_eq_true] at c
   rw[c]
   exact⟨(show 2<=1000 by decide),Yp Z kY⟩
  rw[if_pos c] at kY
  obtain⟨x,ex⟩:=Option.isSome_iff_exists.mp c
  have eT:=sT.trans ex
  rw[ex]
  refine⟨q,dx1,_,⟨t.c_zca,ak5 K t⟩,rfl,.head _,ep1,rfl,⟨ag _,ag _⟩,⟨q,T,n,rfl,hP,oT,by rw[eT];rfl,λv hv=>?_⟩⟩
  rw[eT] at hv
  refine⟨b,dxb,_,⟨t.c_zcb,bh5 K t⟩,rfl,.head _,eb,rfl,⟨ag _,ag _⟩,⟨b,n,sw,gs,rfl,hb,hB.few,.inl ⟨hB.some hm c,λH1 l rs S1 hR lr hs er=>?_⟩⟩⟩
  obtain⟨r1,r2⟩:=ar6 er
  refine .inl ⟨⟨_,SqL.of hR.1⟩,?_⟩
  refine a69 (λT=>decide (stT T n=some x)) hR lr (λr h H2 Q2 S2 q=>?_) λH2 S2=>?_
  .have hP:=(hR.2 r h).2.1.up S2
   obtain⟨dx2,d2,⟨_,ep2⟩,_⟩:=id hP
   exact⟨r.2.1,dx2,_,⟨t.c_zca,ak5 K t⟩,rfl,.head _,ep2,rfl,⟨ag _,ag _⟩,⟨r.2.1,r.1.2,n,rfl,hP,(hR.2 r h).2.2,hs r h,λv2 hv2=>av0 hv2 (hv.up (S1.trans S2)) (λz e=>av1 (hR.2 r h).2.2 e) q⟩⟩
  .have e:Ed ((rs.filter λr=>decide (stT r.1.2 n=some x)).map (·.1.1))=Gr (alF ns tr n m):=Th λj=>by
    rw[G7,fJ,Fy,decide_eq_true_iff]
    unfold alF
    rw[bz,decide_eq_true_iff,ex]
    constructor
    .rintro⟨y,hy,qb⟩
     obtain⟨r,hr,rfl⟩:=List.mem_map.mp hy
     obtain⟨hr1,hr2⟩:=List.mem_filter.mp hr
     obtain⟨g,hg,a1,a2⟩:=r1 r hr1
     rw[a1] at qb
     obtain⟨hn,en⟩:=(hB.bits hg j).mp qb
     exact⟨hn,by rw[<- Ua (hR.2 r hr1).2.2 (hB.ok j hn).1 (by rw[a2,en])];exact of_decide_eq_true hr2⟩
    .rintro⟨hn,cj⟩
     obtain⟨g,hg,e,bg⟩:=hB.get hn
     obtain⟨r,hr,a1,a2⟩:=r2 g hg (by rw[e];exact(Hr (hB.ok j hn).1 n).mpr (by rw[cj];rfl))
     refine⟨_,List.mem_map.mpr ⟨r,List.mem_filter.mpr ⟨hr,decide_eq_true ?_⟩,rfl⟩,by rw[a1];exact bg⟩
     rw[Ua (hR.2 r hr).2.2 (hB.ok j hn).1 (by rw[a2,e])]
     exact cj
   rw[e]
   exact kY H2 (S1.trans S2)
structure FdI (kvs:List (Key×V)) (zs:List Str) (f:Str->Nat):Prop where
 ks:kvs.map (·.1)=zs.map du
 nd:zs.Nodup
 val:∀z,Bf kvs (.inr z)=if f z=0 then none else some (.int (f z:Int))
def FdI.mem{kvs:List (Key×V)}{zs:List Str}{f:Str->Nat}(h:FdI kvs zs f)(z:Str):z∈zs↔f z≠0:=by
 have e:(du z:Key)∈kvs.map (·.1)↔z∈zs:=by rw[h.ks,ar];exact⟨fun⟨x,a,b⟩=>ie b▸a,λa=>⟨z,a,rfl⟩⟩
 rw[<- e,<- any_mem,Ew,h.val]
 by_cases c:f z=0
 .rw[if_pos c];exact⟨(λq=>by cases q),λq=>absurd c q⟩
 .rw[if_neg c];exact⟨λ_=>c,λ_=>rfl⟩
def FdI.get{kvs:List (Key×V)}{zs:List Str}{f:Str->Nat}(h:FdI kvs zs f)(z:Str):(Bf kvs (.inr z)).getD (.int 0)=.int (f z:Int):=by
 rw[h.val]
 by_cases c:f z=0
 .rw[if_pos c,c];rfl
 .rw[if_neg c];rfl
def FdI.put{kvs:List (Key×V)}{zs:List Str}{f:Str->Nat}(h:FdI kvs zs f)(z:Str){a:Nat}(ha:a≠0):FdI (Cj kvs (.inr z) (.int ((f z ||| a:Nat):Int))) (if z∈zs then zs else zs++[z]) (λy=>if y=z then f z ||| a else f y):=by
 have e:(du z:Key)∈kvs.map (·.1)↔z∈zs:=by rw[h.ks,ar];exact⟨fun⟨x,a,b⟩=>ie b▸a,λa=>⟨z,a,rfl⟩⟩
 refine⟨?_,?_,λy=>?_⟩
 .rw[O7]
  by_cases c:z∈zs
  .rw[if_pos (e.mpr c),if_pos c];exact h.ks
  .rw[if_neg (λq=>c (e.mp q)),if_neg c,h.ks,aq];rfl
 .by_cases c:z∈zs
  .rw[if_pos c];exact h.nd
  .rw[if_neg c]
   exact List.nodup_append.mpr ⟨h.nd,by simp,λx hx y hy q=>c (by rw[List.mem_singleton.mp hy] at q;exact q▸hx)⟩
 .rw[Iw]
  by_cases c:y=z
  .rw[if_pos (by rw[c]),if_pos c,if_neg λq=>ha (by rw[Nat.or_eq_zero_iff] at q;exact q.2)]
  .rw[if_neg λq=>c (ie q),if_neg c];exact h.val y
def a45{zs:List Str}{z:Str}:(if z∈zs then zs else zs++[z]).length<=zs.length+1:=by
 split
 .omega
 .rw[aI];exact ag _
def Yh{f:Str->Nat}{a:Nat}{y z:Str}{j:Nat}:(if y=z then f z ||| a else f y).testBit j=true↔(f y).testBit j=true\/(y=z/\a.testBit j=true):=by
 by_cases c:y=z
 .rw[if_pos c,fM,cS,c]
  exact⟨λq=>q.imp id λq=>⟨rfl,q⟩,λq=>q.imp id λq=>q.2⟩
 .rw[if_neg c]
  exact⟨.inl,λq=>q.elim id λq=>absurd q.1 c⟩
def a98{H:Hp}{D:Addr}{ns:List Nat}{tr:Nat->Tr}{n:Str}{kvs:List (Key×V)}{zs:List Str}{f:Str->Nat}{es:List (Str×Addr)}(h:FdI kvs zs f)(bt:∀z j,(f z).testBit j=true↔j∈ns/\Bel (tr j) n z)(ee:es.map (·.1)=Bx ltS zs)(eD:H D=some (.lst (es.map λe=>.ref e.2)))(he:∀e∈es,H e.2=some (.tup [.str e.1,.int (f e.1:Int)])):BnAt H D ns tr n:=by
 have fs:∀z,f z=Gr (blF ns tr n z):=λz=>Th λj=>by
  rw[bt,Fy,decide_eq_true_iff]
  unfold blF
  rw[bz,@decide_eq_true_iff _ (dB _)]
 refine⟨es,by rw[ee];exact(Ar _ _).nodup_iff.mpr h.nd,λz=>?_,by rw[ee];exact Gk (E3 h.nd),eD,λe hm=>by rw[<- fs];exact he e hm⟩
 rw[ee,(Ar _ _).mem_iff,h.mem,fs]
 constructor
 .intro q c;rw[c] at q;exact q rfl
 .intro q c
  obtain⟨j,hj⟩:=eC _ q
  have:=Fy (blF ns tr n z) j
  rw[c,cK,decide_eq_true hj] at this
  cases this
def NE(H H':Hp):Prop:=∀a o,o≠.dK []->H a=some o->H' a=some o
def NE.plain{C q:Addr}{H H':Hp}{T:Tr}{n:Str}(N:NE H H')(h:PlAt C any H q T)(c:(stT T n).isSome=true):PlAt C any H' q T:=by
 obtain⟨dx,d,⟨a,e⟩,es,ee,⟨b,ed⟩,hr⟩:=h
 refine⟨dx,d,⟨a,N _ _ (by simp) e⟩,es,ee,⟨b,N _ _ (λz=>?_) ed⟩,λx hx=>(hr x hx).up λb ys=>N b _ (by simp)⟩
 injection z with z
 rw[List.map_eq_nil_iff.mp z,fg] at ee
 subst ee
 cases c
def Bk.no{ns:List Nat}{tr:Nat->Tr}{gs:List Gp}(S:Bk ns tr gs){g:Gp}(hg:g∈gs):∃m∈ns,g.1=vkT (tr m)/\g.2.2.testBit m=true:=by
 have h:=hg
 rw[S.ge,<- aA (l:=ns)] at h
 obtain⟨m,hm,e⟩:=Hq _ h
 exact⟨m,hm,e,(S.bits hg m).mpr ⟨hm,e.symm⟩⟩
def ag8{T T':Tr}{n z:Str}(o:Bl T)(o':Bl T')(e:vkT T=vkT T')(b:Bel T n z):Bel T' n z:=by
 have lk:∀{z} {x},T.lookup z=some x -> ∃y,T'.lookup z=some y/\y.p=x.p:=λ{z x} h=>by
  have:=Ua o o' e z
  unfold stT at this
  rw[h] at this
  cases h':T'.lookup z with
  |none=>rw[h'] at this;cases this
  |some y=>
   rw[h'] at this
   have:=az this
   injection this with this
   injection this with _ this
   injection this with this _
   injection this with this
   injection this with this
   exact⟨y,rfl,this.symm⟩
 induction b with
 |one h e=>obtain⟨y,h1,h2⟩:=lk h;exact .one h1 (h2.trans e)
 |more h b ih=>obtain⟨y,h1,h2⟩:=lk h;exact .more h1 (h2▸ih)
def Pk{T:Tr}{n z:Str}(b:Bel T n z):∃x,T.lookup z=some x:=by cases b with|one h _=>exact⟨_,h⟩|more h _=>exact⟨_,h⟩
def an0{T:Tr}(o:Bl T){n:Str}(c:(stT T n).isSome=true):n ≠ "" := by
 unfold stT at c
 cases e:T.lookup n with
 |none=>rw[e] at c;cases c
 |some x=>
  obtain⟨i,hi⟩:=List.mem_iff_getElem?.mp (Cm e)
  exact(o.2.2.2 i n x hi).1
def bb5(Z:An K t):OkX K ay1 (Av K t) bl (t.m_zcb 1) (t.e_zcb 1) (au3 K t):=by
 refine a27 (ce8 K t) λvs H Q E h=>?_
 .obtain⟨b,n,sw,gs,ns,tr,rfl,hb,hB,k⟩:=h;refine⟨rfl,?_⟩
  have big:(1000:Nat)<sizeLine:=by decide
  refine λsx hsx=>.inl ?_
  have S1:=Same.upd (o:=.dK []) hsx
  have e1:upd H sx (.dK []) sx=some (.dK []):=Aa
  generalize upd H sx (.dK [])=H1 at S1 e1 ⊢
  have hb1:=hb.up S1
  obtain⟨dxb,_,_,eb,_⟩:=id hb1
  refine⟨b,dxb,_,⟨t.c_zcb,bh5 K t⟩,rfl,.head _,eb,rfl,⟨ag _,ag _⟩,⟨b,n,sw,gs,rfl,hb1,hB.few,?_⟩⟩
  rcases k with⟨ne,k⟩|⟨no,k⟩
  case inr=>
   refine .inr ⟨List.filter_eq_nil_iff.mpr λg hg c=>?_,λH2 a S e=>⟨a,rfl,k H2 a (S1.trans S) e⟩⟩
   obtain⟨m,hm,e,_⟩:=hB.no hg
   rw[hsB_iff,e,Hr (hB.ok m hm).1] at c
   have:m∈hvL ns tr n:=List.mem_filter.mpr ⟨hm,c⟩
   rw[no] at this
   cases this
  obtain⟨m0,hm0⟩:=eC _ ne
  obtain⟨hm0,c0⟩:=List.mem_filter.mp hm0
  refine .inl ⟨hB.some hm0 c0,λH2 l rs S2 hR lr hs er=>?_⟩
  obtain⟨r1,r2⟩:=ar6 er
  have e2:=S2 _ _ e1
  refine .inl ⟨⟨_,SqL.of hR.1⟩,?_⟩
  refine A3 (Ay (rs.map λr=>V.ref r.2.2)) (λi σ H'=>(∃v3 v4 v5,σ=[some (.ref b),some (.str n),some (.ref sx),v3,v4,v5])/\Same H H'/\NE H2 H'/\∃kvs zs f,H' sx=some (.dK kvs)/\FdI kvs zs f/\zs.length<=8*i/\∀z j,(f z).testBit j=true ↔ ∃r∈rs.take i,Bel r.1.2 n z/\r.1.1.testBit j=true)
   ⟨⟨_,_,_,rfl⟩,S1.trans S2,(λ_ _ _ e=>e),[],[],(λ_=>0),e2,⟨rfl,im,λ_=>rfl⟩,ag _,λz j=>⟨(λq=>by rw[cK] at q;cases q),fun⟨r,h,_⟩=>by cases h⟩⟩ (λ_ _ H' _ q=>SqL.of (q.2.2.1 _ _ (by simp) hR.1)) ?_ ?_
  .rintro i x σ H3 hx ⟨⟨v3,v4,v5,rfl⟩,S3,N3,kvs,zs,f,e3,F,zl,bt⟩
   obtain⟨r,hi,rfl⟩:=Am hx
   have hm:=aj hi
   have il:=Ak hi
   obtain⟨er1,hP,oT⟩:=hR.2 r hm
   have hP3:=N3.plain hP (hs r hm)
   obtain⟨dx3,d3,⟨_,ep3⟩,_⟩:=id hP3
   obtain⟨g,hg,eg,_⟩:=r1 r hm
   have a0:r.1.1≠0:=λz=>by
    obtain⟨m,_,_,q⟩:=hB.no hg
    rw[<- eg,z,cK] at q
    cases q
   refine⟨_,.inl (SqT.of (N3 _ _ (by simp) er1)),rfl,?_⟩
   refine⟨r.2.1,dx3,_,⟨t.c_zca,bh7 K t⟩,rfl,.head _,ep3,rfl,⟨ag _,ag _⟩,⟨r.2.1,r.1.2,n,rfl,hP3,oT,hs r hm,λH4 D ys S4 eD nd mem yl=>.inl ⟨⟨_,SqL.of eD⟩,?_⟩⟩⟩
   have Ds:D≠sx:=λz=>by rw[z,S4 _ _ e3] at eD;cases eD
   refine A3 (Ay (ys.map V.str)) (λk σ H'=>(∃v5,σ=[some (.ref b),some (.str n),some (.ref sx),some (.int (r.1.1:Int)),some (.ref r.2.1),v5])/\Same H H'/\NE H2 H'/\H' D=some (Bd ys)/\∃kvs zs f,H' sx=some (.dK kvs)/\FdI kvs zs f/\zs.length<=8*i+k/\∀z j,(f z).testBit j=true↔(∃r∈rs.take i,Bel r.1.2 n z/\r.1.1.testBit j=true)\/(z∈ys.take k/\r.1.1.testBit j=true))
    ⟨⟨_,rfl⟩,S3.trans S4,(λa o q e=>S4 _ _ (N3 a o q e)),eD,kvs,zs,f,S4 _ _ e3,F,zl,λz j=>by rw[bt];exact⟨.inl,λq=>q.elim id λq=>by cases q.1⟩⟩ (λ_ _ H' _ q=>SqL.of q.2.2.2.1) ?_ ?_
   .rintro k x σ H5 hx ⟨⟨v5,rfl⟩,S5,N5,eD5,kvs,zs,f,e5,F,zl,bt⟩
    obtain⟨z,hz,rfl⟩:=Am hx
    have kl:=Ak hz
    have len:kvs.length=zs.length:=by have:=congrArg cE F.ks;rwa[ae,ae] at this
    refine⟨.inr (.inr (.inl ⟨rfl,.inl ⟨kvs,e5⟩⟩)),_,DGet.k (k:=.inr z) e5,?_⟩
    rw[F.get]
    show ∃H',DPut H5 sx (.str z) (.int (cT (f z:Int) (r.1.1:Int))) H'/\_
    rw[Ee]
    refine⟨_,DPut.k (k:=.inr z) e5 (by omega),⟨_,rfl⟩,S5.set hsx,λa o q e=>?_,by rw[Ad Ds];exact eD5,_,_,_,Aa,F.put z a0,aU a45 (by omega),λy j=>?_⟩
    .rw[Ad λz=>q (by rw[z,e2] at e;exact(az e).symm)]
     exact N5 a o q e
    .rw[Yh,bt,aJ,hz,ay]
     exact⟨λq=>q.elim (λq=>q.imp id λq=>⟨.inl q.1,q.2⟩) λq=>.inr ⟨.inr (by rw[q.1];simp),q.2⟩,λq=>q.elim (λq=>.inl (.inl q)) λq=>q.1.elim (λc=>.inl (.inr ⟨c,q.2⟩)) λc=>.inr ⟨by simpa using c,q.2⟩⟩
   .rintro σ H5 ⟨⟨v5,rfl⟩,S5,N5,eD5,kvs,zs,f,e5,F,zl,bt⟩
    rw[ae] at zl bt
    rw[aA] at bt
    refine .inl ⟨⟨_,_,_,rfl⟩,S5,N5,kvs,zs,f,e5,F,by omega,λz j=>?_⟩
    rw[bt,mem,aJ,hi]
    constructor
    .rintro (⟨r',h,q⟩|⟨q1,q2⟩)
     .exact⟨r',bx _ h,q⟩
     .exact⟨r,aH _ aQ,q1,q2⟩
    .rintro⟨r',h,q⟩
     rcases List.mem_append.mp h with h|h
     .exact .inl ⟨r',h,q⟩
     .obtain rfl:r'=r:=by simpa using h
      exact .inr q
  .rintro σ H3 ⟨⟨v3,v4,v5,rfl⟩,S3,N3,kvs,zs,f,e3,F,zl,bt⟩
   rw[ae] at zl bt
   rw[aA] at bt
   refine .inl ?_
   refine .inr ⟨rfl,.inl ⟨sx,zs,rfl,.inr ⟨kvs,.inl e3,F.ks⟩,F.nd,by omega,λL hL=>.inl ⟨⟨_,SqL.of Aa⟩,λD hD=>?_⟩⟩⟩
   have S4:=S3.trans (Same.upd (o:=.lst ((Bx ltS zs).map V.str)) hL)
   have e4:upd H3 L (.lst ((Bx ltS zs).map V.str)) L=some (.lst ((Bx ltS zs).map V.str)):=Aa
   have e4s:=Same.upd (o:=.lst ((Bx ltS zs).map V.str)) hL _ _ e3
   generalize upd H3 L (.lst ((Bx ltS zs).map V.str))=H4 at S4 e4 e4s hD ⊢
   have ll:(Bx ltS zs).length=zs.length:=(Ar _ _).length_eq
   refine Cu (Ay ((Bx ltS zs).map V.str)) (λi σ H'=>(∃v,σ=[v,some (.ref sx)])/\Same H4 H'/\∃es:List (Str×Addr),es.map (·.1)=(Bx ltS zs).take i/\H' D=some (.lst (es.map λe=>.ref e.2))/\∀e∈es,H' e.2=some (.tup [.str e.1,.int (f e.1:Int)])) ⟨⟨_,rfl⟩,Same.upd hD,[],rfl,Aa,λe h=>by cases h⟩ (λ_ _ H' _ q=>SqL.of (q.2.1 _ _ e4)) ?_ ?_
   .rintro i x σ H5 hx ⟨⟨v,rfl⟩,S5,es,ee,eD,he⟩
    obtain⟨z,hz,rfl⟩:=Am hx
    have il:=Ak hz
    have fz:f z≠0:=(F.mem z).mp ((Ar _ _).mem_iff.mp (aj hz))
    have le:es.length=i:=by have:=congrArg cE ee;rw[ae,aM] at this;omega
    refine⟨_,.inl ⟨kvs,.inr z,.inl (S5 _ _ e4s),rfl,by rw[F.val,if_neg fz]⟩,(show 2<=sizeLine by decide),λT hT=>?_⟩
    have ST:=Same.upd (o:=.tup [.str z,.int (f z:Int)]) hT
    have nT:∀e∈es,e.2≠D:=λe h c=>by have:=he e h;rw[c,eD] at this;cases this
    refine⟨_,ST _ _ eD,by rw[ae];omega,⟨_,rfl⟩,(S5.trans ST).set hD,es++[(z,T)],by rw[aq,ee,aJ,hz];rfl,by rw[Aa,aq];rfl,λe h=>?_⟩
    rcases List.mem_append.mp h with h|h
    .rw[Ad (nT e h)];exact ST _ _ (he e h)
    .obtain rfl:e=(z,T):=by simpa using h
     rw[Ad λc:T=D=>by rw[c,eD] at hT;cases hT];exact Aa
   .rintro σ H5 ⟨_,S5,es,ee,eD,he⟩
    rw[ae,aA] at ee
    refine k H5 D (S4.trans S5) (S4.free hD) (a98 F (λz j=>?_) ee eD he)
    rw[bt]
    constructor
    .rintro⟨r,hr,b1,b2⟩
     obtain⟨g,hg,a1,a2⟩:=r1 r hr
     rw[a1] at b2
     obtain⟨hn,en⟩:=(hB.bits hg j).mp b2
     exact⟨hn,ag8 (hR.2 r hr).2.2 (hB.ok j hn).1 (a2.trans en.symm) b1⟩
    .rintro⟨hn,b1⟩
     obtain⟨g,hg,e,bg⟩:=hB.get hn
     have:aj9 g.1 n:=by
      rw[e]
      refine(Hr (hB.ok j hn).1 n).mpr ?_
      obtain⟨x,hx⟩:=Pk b1
      obtain⟨i,hi⟩:=List.mem_iff_getElem?.mp (Cm hx)
      obtain⟨_,y,_,hy⟩:=ag9 (hB.ok j hn).1 (an0 (hB.ok m0 hm0).1 c0) b1 hi
      unfold stT
      rw[N4 (hB.ok j hn).1.1 hy]
      rfl
     obtain⟨r,hr,a1,a2⟩:=r2 g hg this
     exact⟨r,hr,ag8 (hB.ok j hn).1 (hR.2 r hr).2.2 (e.symm.trans a2.symm) b1,by rw[a1];exact bg⟩
def Cl(T:Tr)(n a:Str):Prop:=a=n\/Bel T n a
def Xz(h:T.lookup z=some x):Bel T n z↔Cl T n x.p:=by
 constructor
 .intro b
  cases b with
  |one h' e=>rw[h] at h';cases h';exact .inl e
  |more h' b=>rw[h] at h';cases h';exact .inr b
 .rintro (e|b)
  .exact .one h e
  .exact .more h b
def Pl(T:Tr)(a:Str)(m:Nat):Prop:=a="" \/ ∃i x,i<m/\T[i]?=some (a,x)
def bb7(o:Bl T)(h:T[i]?=some (z,x)):Pl T x.p i:=by
 obtain⟨_,q|⟨j,lj,y,hj⟩⟩:=o.2.2.2 i z x h
 .exact .inl q
 .exact .inr ⟨j,y,lj,hj⟩
def bc8{H:Hp}{d:Addr}{es:List ((Str×Rc)×Addr)}{T:Tr}(et:es.map (·.1)=T)(o:Bl T)(ed:Rd H d (.dK (es.map kT)))(he:∀e∈es,RcAt H e.2 e.1.2){i:Nat}{z:Str}{x:Rc}(h:T[i]?=some (z,x)):∃q u,DGet H d (.str z) (some (.ref q))/\H q=some (.tup [.str x.k,.str x.p,.int x.r,u]):=by
 rw[<- et] at h
 obtain⟨e,hi,ee⟩:=Am h
 have nd:(es.map (·.1.1)).Nodup:=by have:=o.1;rw[<- et,aB] at this;exact this
 have e1:e.1.1=z:=(congrArg (·.1) ee).symm
 have e2:=(congrArg (·.2) ee).symm
 obtain⟨v,ev,_⟩:=he e (aj hi)
 rw[e2] at ev
 exact⟨_,_,.inl ⟨_,.inr z,ed,rfl,by rw[<- e1];exact(Lz nd hi).symm⟩,ev⟩
def FdI.eq(h:FdI kvs zs f):kvs=zs.map λz=>(.inr z,.int (f z:Int)):=by
 have nd:(kvs.map (·.1)).Nodup:=by rw[h.ks];exact Gh h.nd
 refine jn λi=>?_
 have e:=congrArg (λl=>l[i]?) h.ks
 simp only[ak] at e
 rw[ak]
 cases c:kvs[i]? with
 |none=>
  rw[c] at e
  cases c':zs[i]? with
  |none=>rfl
  |some z=>rw[c'] at e;cases e
 |some kv=>
  rw[c] at e
  cases c':zs[i]? with
  |none=>rw[c'] at e;cases e
  |some z=>
   rw[c'] at e
   have e1:kv.1=du z:=az e
   have:=Bm nd c
   rw[e1,h.val,if_neg ((h.mem z).mp (aj c'))] at this
   exact congrArg some (Prod.ext e1 (az this).symm)
def bf6(h:x≠0):∃j,x.testBit j=true:=eh λq=>h (eI λj=>by rw[cK];cases c:x.testBit j with|false=>rfl|true=>exact absurd ⟨j,c⟩ q)
def aj1{Ts:List Tr}(h:∀T∈Ts,T.length<=8):(Ts.flatMap λT=>T.map (·.1)).length<=8*Ts.length:=by
 induction Ts with
 |nil=>exact ag _
 |cons T Ts ih=>
  rw[hZ,aI,ae,aK]
  have:=ih λx hx=>h x (av _ hx)
  have:=h T aQ
  omega
def ai9{H:Hp}{F:Addr}{ns:List Nat}{g:Nat->Addr}{tr:Nat->Tr}(hF:FoundAt H F ns g tr){n:Str}{kvs:List (Key×V)}{zs:List Str}{f:Str->Nat}(h:FdI kvs zs f)(bt:∀z j,(f z).testBit j=true->j∈ns/\Bel (tr j) n z):zs.length<=32/\kvs.length<=32:=by
 obtain⟨Ts,l4,hT⟩:=hF.few
 have a:=Ii (x:=(Ts.filter λT=>decide (T.length<=8)).flatMap λT=>T.map (·.1)) h.nd λz hz=>by
  obtain⟨j,hj⟩:=bf6 ((h.mem z).mp hz)
  obtain⟨hj,b⟩:=bt z j hj
  obtain⟨x,hx⟩:=Pk b
  exact List.mem_flatMap.mpr ⟨tr j,List.mem_filter.mpr ⟨hT j hj,decide_eq_true (hF.one j hj).2.2.1⟩,List.mem_map.mpr ⟨_,Cm hx,rfl⟩⟩
 have b:=aj1 (Ts:=Ts.filter λT=>decide (T.length<=8)) λT hT=>of_decide_eq_true (List.mem_filter.mp hT).2
 have c:=cx (λT=>decide (T.length<=8)) Ts
 have l:kvs.length=zs.length:=by rw[h.eq,ae]
 exact⟨by omega,by omega⟩
def bb0{es:List ((Str×Rc)×Addr)}{ns:List Nat}{g:Nat->Addr}(h:es.map kT=ns.map (kF g)):ns=[]:=by
 cases ns with
 |nil=>rfl
 |cons m r=>
  cases es with
  |nil=>cases h
  |cons e es=>
   injection h with h _
   cases congrArg mY h
def Sr{H:Hp}{F:Addr}{ns:List Nat}{g:Nat->Addr}{T:Tr}{m:Nat}(e':H F=some (.dK (ns.map (kF g))))(h:TrAt any H (g m) T)(hm:m∈ns):g m≠F:=λz=>by
 obtain⟨es,ee,⟨_,e⟩,_⟩:=h
 rw[<- z,e] at e'
 injection e' with e'
 injection e' with e'
 rw[bb0 e'] at hm
 cases hm
def az1{X R Y:Prop}(h:b1=false\/b2=false)(r:R):if b1=true then(if b2=true then X else R) else(if false=true then Y else R):=by
 rcases h with rfl|rfl
 .exact Kg (Kg r)
 .cases b1
  .exact Kg (Kg r)
  .exact Sv (Kg r)
def bj7(Z:An K t):OkD K ad1 (Av K t) bl (t.f 34) (t.d 34) (Wc K t):=by
 refine A5 (b51 K t) λvs H Q E h=>?_
 .obtain⟨F,n,ns,g,tr,rfl,hF,asc,l256,k⟩:=h;refine⟨rfl,?_⟩
  have big:(1000:Nat)<sizeLine:=by decide
  have ndn:=asc.imp λh=>aN h
  refine λpx hpx=>.inl ?_
  have S1:=Same.upd (o:=.dK []) hpx
  have e1:upd H px (.dK []) px=some (.dK []):=Aa
  generalize upd H px (.dK [])=H1 at S1 e1 ⊢
  have eF:=S1 _ _ hF.at_
  have nF:F≠px:=λz=>by have:=hF.at_;rw[z,hpx] at this;cases this
  refine .inr (.inr (.inl (.inl ⟨_,eF,λo=>?_⟩)))
  have ef:upd H1 F (.frz o (.dK (ns.map (kF g)))) F=some (.frz o (.dK (ns.map (kF g)))):=Aa
  have of:∀b u,b≠F->H1 b=some u->upd H1 F (.frz o (.dK (ns.map (kF g)))) b=some u:=λb u nb e=>by rw[Ad nb];exact e
  generalize upd H1 F (.frz o (.dK (ns.map (kF g))))=Hf at ef of ⊢
  refine A3 (Dc (ns.map (kF g))) (λi σ H'=>(∃v3 v4 v5 v6,σ=[some (.ref F),some (.str n),some (.ref px),v3,v4,v5,v6])/\(∀a u,a≠px->Hf a=some u->H' a=some u)/\∃kvs zs f,H' px=some (.dK kvs)/\FdI kvs zs f/\∀z j,(f z).testBit j=true↔j∈ns.take i/\n ≠ "" /\ Bel (tr j) n z)
   ⟨⟨_,_,_,_,rfl⟩,(λ_ _ _ e=>e),[],[],(λ_=>0),of _ _ nF.symm e1,⟨rfl,im,λ_=>rfl⟩,λz j=>⟨(λq=>by rw[cK] at q;cases q),λq=>by cases q.1⟩⟩ (λ_ _ H' _ q=>q.2.1 _ _ nF ef) ?_ ?_
  .rintro i x σ H4 hx ⟨⟨v3,v4,v5,v6,rfl⟩,B4,kvs,zs,f,e4,FI,bt⟩
   rw[aB] at hx
   obtain⟨m,hn,rfl⟩:=Am hx
   have hm:=aj hn
   have m256:=l256 m hm
   obtain⟨⟨es,et,⟨_,ed⟩,he⟩,okT⟩:=hF.one m hm
   have ng:=Sr hF.at_ (hF.one m hm).1 hm
   have gp:g m≠px:=λz=>by rw[z,hpx] at ed;cases ed
   have kp:∀a u,a≠F->a≠px->H a=some u->H4 a=some u:=λa u n1 n2 e=>B4 _ _ n2 (of _ _ n1 (S1 _ _ e))
   have ed4:=kp _ _ ng gp ed
   have he4:∀e∈es,RcAt H4 e.2 e.1.2:=λx hx=>(he x hx).up λb ys q=>kp _ _ (λz=>by rw[z,hF.at_] at q;cases q) (λz=>by rw[z,hpx] at q;cases q) q
   have nde:(es.map (·.1.1)).Nodup:=by have:=okT.1;rw[<- et,aB] at this;exact this
   refine Hu (.inl ⟨_,.inl (m:Int),.inr ⟨o,B4 _ _ nF ef⟩,rfl,(P7 ndn hn).symm⟩) ?_
   refine .inr (.inr (.inl (.inl ⟨_,ed4,λo2=>?_⟩)))
   have ef2:upd H4 (g m) (.frz o2 (.dK (es.map kT))) (g m)=some (.frz o2 (.dK (es.map kT))):=Aa
   have od:∀b u,b≠g m->H4 b=some u->upd H4 (g m) (.frz o2 (.dK (es.map kT))) b=some u:=λb u nb e=>by rw[Ad nb];exact e
   generalize upd H4 (g m) (.frz o2 (.dK (es.map kT)))=Hd at ef2 od ⊢
   refine A3 (Dc (es.map kT)) (λk σ H'=>(∃v5 v6,σ=[some (.ref F),some (.str n),some (.ref px),some (.int (m:Int)),some (.ref (g m)),v5,v6])/\(∀a u,a≠px->Hd a=some u->H' a=some u)/\∃kvs zs f,H' px=some (.dK kvs)/\FdI kvs zs f/\∀z j,(f z).testBit j=true↔(j∈ns.take i/\n ≠ "" /\ Bel (tr j) n z)\/(j=m/\z∈((tr m).map (·.1)).take k/\n ≠ "" /\ Bel (tr m) n z))
    ⟨⟨_,_,rfl⟩,(λ_ _ _ e=>e),kvs,zs,f,od _ _ gp.symm e4,FI,λz j=>by rw[bt];exact⟨.inl,λq=>q.elim id λq=>by cases q.2.1⟩⟩ (λ_ _ H' _ q=>q.2.1 _ _ gp ef2) ?_ ?_
   .have p4:∀ys,H4 px≠some (.tup ys):=λys q=>by rw[e4] at q;cases q
    clear bt FI e4
    rintro k x σ H5 hx ⟨⟨v5,v6,rfl⟩,B5,kvs,zs,f,e5,FI,bt⟩
    rw[aB] at hx
    obtain⟨⟨⟨z,x⟩,a⟩,hk,rfl⟩:=Am hx
    have hk:(tr m)[k]?=some (z,x):=by rw[<- et,ak,hk];rfl
    have hkz:((tr m).map (·.1))[k]?=some z:=by rw[ak,hk];rfl
    have ed5:Rd H5 (g m) (.dK (es.map kT)):=.inr ⟨o2,B5 _ _ gp ef2⟩
    have he5:∀e∈es,RcAt H5 e.2 e.1.2:=λx hx=>(he4 x hx).up λb ys q=>B5 _ _ (λz=>p4 ys (z▸q)) (od _ _ (λz=>by rw[z,ed4] at q;cases q) q)
    obtain⟨q,u,d1,d2⟩:=bc8 et okT ed5 he5 hk
    refine⟨_,d1,_,_,.inr (SqT.of d2),rfl,?_⟩
    refine⟨λmm σ H'=>∃a,σ=[some (.ref F),some (.str n),some (.ref px),some (.int (m:Int)),some (.ref (g m)),some (.str z),some (.str a)]/\H'=H5/\Pl (tr m) a mm/\(Bel (tr m) n z↔Cl (tr m) n a),⟨k,x.p,rfl,rfl,bb7 okT hk,Xz (N4 okT.1 hk)⟩,?_⟩
    rintro mm σ H6 ⟨a,rfl,rfl,pl,cl⟩
    by_cases ex:a="" \/ a=n
    case neg=>
     refine Ht (by show(!decide (a=""))=true;rw[decide_eq_false λc=>ex (.inl c)];rfl) (Ht (by show(!decide (a=n))=true;rw[decide_eq_false λc=>ex (.inr c)];rfl) ?_)
     obtain q|⟨i',x',li,hi'⟩:=pl
     .exact absurd (.inl q) ex
     obtain⟨q,u,d1,d2⟩:=bc8 et okT ed5 he5 hi'
     refine⟨λσ' H'=>∃m',m'<mm/\∃a,σ'=[some (.ref F),some (.str n),some (.ref px),some (.int (m:Int)),some (.ref (g m)),some (.str z),some (.str a)]/\H'=H6/\Pl (tr m) a m'/\(Bel (tr m) n z↔Cl (tr m) n a),λ_ _ h=>h,⟨_,d1,_,_,.inr (SqT.of d2),rfl,i',li,x'.p,rfl,rfl,bb7 okT hi',?_⟩⟩
     rw[cl,<- Xz (N4 okT.1 hi')]
     exact⟨λq=>q.elim (λq=>absurd (.inr q) ex) id,.inr⟩
    refine az1 (b1:=!decide (a="")) (b2:=!decide (a=n)) (ex.imp (λc=>by rw[decide_eq_true c];rfl) λc=>by rw[decide_eq_true c];rfl) ?_
    have in0:stT (tr m) ""=none:=by
     cases c:stT (tr m) "" with
     |none=>rfl
     |some y=>exact absurd rfl (an0 okT (by rw[c];rfl))
    have lt0:f z<2^m:=i9 _ λj hj=>by
     cases c:(f z).testBit j with
     |false=>rfl
     |true=>
      rcases(bt z j).mp c with q|q
      .have:=Lf asc hn j q.1;omega
      .exact absurd q.2.1 (Et okT.1 hkz)
    by_cases c:n ≠ "" /\ Bel (tr m) n z
    .have an:a=n:=ex.elim (λq=>by
      rw[q] at cl
      rcases cl.mp c.2 with e|b
      .exact absurd e.symm c.1
      .obtain⟨y,hy⟩:=Pk b
       unfold stT at in0
       rw[hy] at in0
       cases in0) id
     subst an
     refine Ht (decide_eq_true rfl) (.inr ⟨_,.inl ⟨_,.inr a,ed5,rfl,rfl⟩,?_⟩)
     rcases Ec et okT a with⟨_,s0⟩|⟨e,_,v1,_⟩
     .obtain q|⟨i',x',_,hi'⟩:=pl
      .exact absurd q c.1
      .unfold stT at s0
       rw[N4 okT.1 hi'] at s0
       cases s0
     rw[v1]
     have len:=ai9 hF FI (n:=a) λy j q=>((bt y j).mp q).elim (λq=>⟨eG q.1,q.2.2⟩) λq=>⟨q.1▸hm,q.1▸q.2.2.2⟩
     refine⟨.inr (.inr (.inl ⟨rfl,.inl ⟨kvs,e5⟩⟩)),_,DGet.k (k:=.inr z) e5,?_⟩
     rw[FI.get]
     refine⟨⟨by omega,by omega,by decide⟩,?_⟩
     show ∃H',DPut H6 px (.str z) (.int ((f z:Int)+1*2^((m:Int)).toNat)) H'/\_
     have e1:((f z:Int)+1*2^((m:Int)).toNat:Int)=((f z ||| 2^m:Nat):Int):=by rw[Vv lt0,jB,aY,Ev,Int.natCast_add]
     rw[e1]
     refine⟨_,DPut.k (k:=.inr z) e5 (by omega),⟨_,_,rfl⟩,λb u nb e=>by rw[Ad nb];exact B5 b u nb e,_,_,_,Aa,FI.put z (Nat.pos_iff_ne_zero.mp (ke m)),λy j=>?_⟩
     rw[Yh,bt,aJ,hkz,ay,cN,decide_eq_true_iff]
     constructor
     .rintro ((q|q)|⟨q1,q2⟩)
      .exact .inl q
      .exact .inr ⟨q.1,.inl q.2.1,q.2.2⟩
      .exact .inr ⟨q2.symm,.inr (by rw[q1];simp),c.1,by rw[q1];exact c.2⟩
     .rintro (q|⟨q1,q2|q2,q3⟩)
      .exact .inl (.inl q)
      .exact .inl (.inr ⟨q1,q2,q3⟩)
      .exact .inr ⟨by simpa using q2,q1.symm⟩
    .have nb:∀y j,(f y).testBit j=true↔(j∈ns.take i/\n ≠ "" /\ Bel (tr j) n y)\/(j=m/\y∈((tr m).map (·.1)).take (k+1)/\n ≠ "" /\ Bel (tr m) n y):=λy j=>by
      rw[bt,aJ,hkz,ay]
      exact⟨λq=>q.imp id λq=>⟨q.1,.inl q.2.1,q.2.2⟩,λq=>q.imp id λq=>⟨q.1,q.2.1.elim id λe=>absurd q.2.2 ((show y=z by simpa using e)▸c),q.2.2⟩⟩
     by_cases an:a=n
     .refine Ht (decide_eq_true an) (.inr ⟨_,.inl ⟨_,.inr a,ed5,rfl,rfl⟩,?_⟩)
      have a0:a="" := eh λq=>c ⟨an▸q,cl.mpr (.inl an)⟩
      rcases Ec et okT a with⟨v0,_⟩|⟨e,_,_,s1⟩
      .rw[v0]
       exact⟨⟨_,_,rfl⟩,B5,kvs,zs,f,e5,FI,nb⟩
      .rw[a0,in0] at s1;cases s1
     .exact Gs (decide_eq_false an) (Kg ⟨⟨_,_,rfl⟩,B5,kvs,zs,f,e5,FI,nb⟩)
   .clear bt FI e4 kvs zs f
    rintro σ H5 ⟨⟨v5,v6,rfl⟩,B5,kvs,zs,f,e5,FI,bt⟩
    have l:(es.map kT).length=((tr m).map (·.1)).length:=by rw[ae,ae,<- et,ae]
    rw[ae,l,aA] at bt
    refine .inr ⟨g m,o2,_,ed4,B5 _ _ gp ef2,⟨_,_,_,_,rfl⟩,λa u na e=>?_,kvs,zs,f,by rw[Ad gp.symm];exact e5,FI,λz j=>?_⟩
    .have e:=B4 a u na e
     by_cases q:a=g m
     .rw[q,Aa,<- ed4,<- q,e]
     .rw[Ad q];exact B5 _ _ na (od _ _ q e)
    .rw[bt,aJ,hn,ay]
     constructor
     .rintro (q|q)
      .exact⟨.inl q.1,q.2⟩
      .exact⟨.inr (by rw[q.1];simp),q.2.2.1,by rw[q.1];exact q.2.2.2⟩
     .rintro⟨q|q,r⟩
      .exact .inl ⟨q,r⟩
      .obtain rfl:j=m:=by simpa using q
       obtain⟨x,hx⟩:=Pk r.2
       exact .inr ⟨rfl,List.mem_map.mpr ⟨_,Cm hx,rfl⟩,r⟩
  .rintro σ H4 ⟨⟨v3,v4,v5,v6,rfl⟩,B4,kvs,zs,f,e4,FI,bt⟩
   rw[ae,ae,aA] at bt
   have e4f:=B4 _ _ nF ef
   refine .inr ⟨F,o,_,eF,e4f,?_⟩
   have S4:Same H (upd H4 F (.dK (ns.map (kF g)))):=λa u e=>by
    by_cases c:a=F
    .rw[c,Aa,<- hF.at_,<- c,e]
    .rw[Ad c];exact B4 _ _ (Ai e hpx) (of _ _ c (S1 _ _ e))
   have len:=ai9 hF FI λz j q=>let⟨a,_,b⟩:=(bt z j).mp q;⟨a,b⟩
   have e5:upd H4 F (.dK (ns.map (kF g))) px=some (.dK kvs):=by rw[Ad nF.symm];exact e4
   rw[FI.eq] at e5
   exact⟨zs,λz=>(f z:Int),.inl e5,FI.nd,by omega,λH5 D es S5 hD ee eD he=>k H5 D (S4.trans S5) (λne=>a98 FI (λz j=>by rw[bt];exact⟨λq=>⟨q.1,q.2.2⟩,λq=>⟨q.1,ne,q.2⟩⟩) ee eD he) ⟨_,eD⟩⟩
def by5{H:Hp}{p:Addr}{n:Nat}{v:V}(h:DGet H p (.int (n:Int)) (some v)):∃xs,SqX K H p (n:Int) xs/\atI xs (n:Int)=some v:=
 have e:=Cc (by rw[fB,if_pos (cf n)])
 ⟨_,.dk λu e2=>by rw[e] at e2;cases e2;exact h,e⟩
def bt6{H:Hp}{es:List ((Str×Rc)×Addr)}{T:Tr}(et:es.map (·.1)=T)(o:Bl T)(n:Str)(he:∀e∈es,RcAt H e.2 e.1.2):StAt H (stT T n) ((Bf (es.map kT) (.inr n)).getD .non):=by
 rcases Ec et o n with⟨a,b⟩|⟨e,h,a,b⟩
 .rw[a,b];rfl
 .rw[a,b];exact⟨⟨_,rfl⟩,(he e h).tk⟩
def Fnd(K:ac)(H:Hp)(F:Addr)(g:Nat->Addr)(tr:Nat->Tr)(j:Nat):Prop:=(∃xs,SqX K H F (j:Int) xs/\atI xs (j:Int)=some (.ref (g j)))/\TrAt any H (g j) (tr j)
def FoundAt.r(h:FoundAt H F ns g tr):FndR H F ns g tr:=⟨.inl h.at_,h.one⟩
def FndR.fnd{H H':Hp}{F:Addr}{ns:List Nat}{g:Nat->Addr}{tr:Nat->Tr}(h:FndR H F ns g tr)(nd:ns.Nodup)(S:Same H H'){j:Nat}(hj:j∈ns):Fnd K H' F g tr j:=by
 obtain⟨i,hi⟩:=List.mem_iff_getElem?.mp hj
 exact⟨by5 (.inl ⟨_,_,h.at_.imp (S _ _) fun⟨o,e⟩=>⟨o,S _ _ e⟩,rfl,(P7 nd hi).symm⟩),(h.one j hj).1.up S⟩
def On(a:H F=some (.dK (ns.map (kF g))))(h:∀n∈ns,TrAt any H (g n) (tr n)/\Bl (tr n))(o:Obj):FndR (upd H F (.frz o (.dK (ns.map (kF g))))) F ns g tr:=
 ⟨.inr ⟨o,Aa⟩,λm hm=>by
  obtain⟨hT,q⟩:=h m hm
  have ne:=Sr a hT hm
  obtain⟨es,et,⟨_,ed⟩,he⟩:=hT
  exact⟨⟨es,et,⟨trivial,by rw[Ad ne];exact ed⟩,λe hm=>(he e hm).up λb ys q=>by rw[Ad λz=>by rw[z,a] at q;cases q];exact q⟩,q⟩⟩
def am8{ns:List Nat}(asc:ns.Pairwise (· < ·))(b256:∀m∈ns,m<256):ns.Nodup/\ns.length<=256:=by
 have nd:=asc.imp λh=>aN h
 have:=Ii nd λz hz=>List.mem_range.mpr (b256 z hz)
 rw[bo] at this
 exact⟨nd,this⟩
def Oo{H:Hp}{F:Addr}{o:Obj}{ns:List Nat}{g:Nat->Addr}{rest:St}{tc:DT}{te:DE}{E:EK}{R:Addr->Hp->Prop}(p:Nat->Bool)(f:Nat->Int)(ef:H F=some (.frz o (.dK (ns.map (kF g)))))(l256:ns.length<=256)(ht:∀j∈ns,∀H1 Q,Same H H1->Q (p j) H1->tc (some (.int (j:Int))::rest) H1 Q E)(hv:∀j∈ns,∀H1 Q,Q (.int (f j)) H1->te (some (.int (j:Int))::rest) H1 Q E)(k:∀H' L,Same H H'->H L=none->H' L=some (.lst (((ns.filter p).map f).map V.int))->R L H') :
  ∀L,H L=none->Ez (Itd F o (ns.map (kF g))) (gdN 0) tc te L (λH'=>R L H') (none::rest) (upd H L (.lst [])) E:=by
 intro L hL
 have big:(1000:Nat)<sizeLine:=by decide
 refine Cu (Dc (ns.map (kF g))) (λi σ' H'=>(∃v0,σ'=v0::rest)/\Same H H'/\H' L=some (.lst ((((ns.take i).filter p).map f).map V.int))) ⟨⟨_,rfl⟩,Same.upd hL,Aa⟩ (λ_ _ H' _ q=>q.2.1 _ _ ef) ?_ ?_
 .rintro i y σ' H5 hy ⟨⟨v0,rfl⟩,S5,e5⟩
  rw[aB] at hy
  obtain⟨j,hj,rfl⟩:=Am hy
  have hjn:=aj hj
  have fs:=Jf (p:=p) hj
  have fl:=Sn ns i p
  refine ht j hjn H5 _ S5 ?_
  cases c:p j with
  |false=>
   rw[c,if_neg (by decide),b7] at fs
   exact⟨⟨_,rfl⟩,S5,by rw[fs];exact e5⟩
  |true=>
   rw[c,if_pos rfl] at fs
   exact hv j hjn H5 _ ⟨_,e5,by rw[ae,ae];omega,⟨_,rfl⟩,S5.set hL,by rw[Aa,fs,aq,aq];rfl⟩
 .rintro σ' H5 ⟨_,S5,e5⟩
  rw[ae,ae,aA] at e5
  exact k _ L S5 hL e5
def Om{H:Hp}{F:Addr}{ns:List Nat}{g:Nat->Addr}{tr:Nat->Tr}{rest:St}{tc:DT}{te:DE}{E:EK}{R:Addr->Hp->Prop}(p:Nat->Bool)(f:Nat->Int)(hF:FndR H F ns g tr)(nd:ns.Nodup)(l256:ns.length<=256)(ht:∀j∈ns,∀H1 Q,(∀i∈ns,Fnd K H1 F g tr i)->Q (p j) H1->tc (some (.int (j:Int))::rest) H1 Q E)(hv:∀j∈ns,∀H1 Q,Q (.int (f j)) H1->te (some (.int (j:Int))::rest) H1 Q E)(k:∀H' L,Same H H'->H' L=some (.lst (((ns.filter p).map f).map V.int))->R L H') :
  onD F H λo kvs H2=>∀L,H2 L=none->Ez (Itd F o kvs) (gdN 0) tc te L (λH'=>Thaw H H' (R L)) (none::rest) (upd H2 L (.lst [])) E:=by
 rcases id hF.at_ with e|⟨o,e⟩
 .refine .inl ⟨_,e,λo=>?_⟩
  have hF2:=On e hF.one o
  refine Oo p f Aa l256 (λj hj H1 Q S1 q=>ht j hj H1 Q (λi hi=>hF2.fnd nd S1 hi) q) hv λH1 L S1 hL eL=>?_
  have nLF:L≠F:=λz=>by rw[z,Aa] at hL;cases hL
  exact .inr ⟨F,o,_,e,S1 _ _ Aa,k _ L (Same.thaw e S1) (by rw[Ad nLF];exact eL)⟩
 .exact .inr ⟨o,_,e,Oo p f e l256 (λj hj H1 Q S1 q=>ht j hj H1 Q (λi hi=>hF.fnd nd S1 hi) q) hv λH1 L S1 _ eL=>.inl (k _ L S1 eL)⟩
def b13(Z:An K t):OkD K be4 (Av K t) bl (t.f 38) (t.d 38) (au1 K t):=by
 refine A5 (ce6 K t) λvs H Q E h=>?_
 .obtain⟨F,n,m,ns,g,tr,rfl,hF,asc,b256,hm,k⟩:=h;refine⟨rfl,?_⟩
  obtain⟨nd,l256⟩:=am8 asc b256
  obtain⟨⟨xs,q1,q2⟩,es,et,⟨_,ed⟩,he⟩:=FndR.fnd hF nd (Same.refl _) hm
  refine⟨xs,_,q1,q2,.inr ⟨_,.inl ⟨_,.inr n,.inl ed,rfl,rfl⟩,?_⟩⟩
  rcases Ec et (hF.one m hm).2 n with⟨a,b⟩|⟨e,h,a,b⟩
  .rw[b] at k
   rw[a]
   exact⟨(show 3<=sizeLine by decide),k⟩
  rw[if_pos (by rw[b];rfl)] at k
  rw[a]
  refine .inr (.inr (.inl ?_))
  refine Om (K:=K) (λj=>decide (stT (tr j) n=stT (tr m) n)) (λj=>1*2^((j:Int)).toNat) hF nd l256 (λj hj H1 Q1 hD q=>?_) (λj hj H1 Q1 q=>⟨⟨by omega,by have:=b256 j hj;omega,by decide⟩,q⟩) λH1 L S1 eL=>?_
  .obtain⟨⟨xs1,p1,p2⟩,es1,et1,⟨_,ed1⟩,he1⟩:=hD j hj
   obtain⟨⟨xs2,r1,r2⟩,es2,et2,⟨_,ed2⟩,he2⟩:=hD m hm
   refine⟨xs1,_,p1,p2,.inr (.inr (.inl ⟨rfl,.inl ⟨_,ed1⟩⟩)),_,.inl ⟨_,.inr n,.inl ed1,rfl,rfl⟩,xs2,_,r1,r2,?_⟩
   rcases Ec et2 (hF.one m hm).2 n with⟨_,c⟩|⟨e2,h2,a2,b2⟩
   .rw[b] at c;cases c
   refine⟨_,.inl ⟨_,.inr n,.inl ed2,rfl,a2.symm⟩,?_⟩
   rw[b2] at q
   exact av0 (bt6 et1 (hF.one j hj).2 n he1) (⟨⟨_,rfl⟩,(he2 e2 h2).tk⟩) (λy e=>av1 (hF.one j hj).2 e) q
  .refine⟨L,_,rfl,SqL.of eL,?_⟩
   rw[Uc,a72 (asc.sublist lE)]
   exact k H1 S1
def FxAt.ex(f:FxAt C H a fs):ExcAt H a C fs:=by
 obtain⟨dx,ne,e1,e2⟩:=f
 exact .inr ⟨dx,ne,.inr (.inl e1),e2⟩
def FxAt.up(f:FxAt C H a fs)(S:Same H H'):FxAt C H' a fs:=by
 obtain⟨dx,ne,e1,e2⟩:=f
 exact⟨dx,ne,S _ _ e1,S _ _ e2⟩
def bl6(Z:An K t):OkD K ae0 (Av K t) bl (t.f 36) (t.d 36) (Mm K t):=by
 refine A5 (b69 K t) λvs H Q E h=>?_
 .obtain⟨b,n,v,dp,sw,gs,ns,tr,rfl,hv,hb,S,hn,k⟩:=h;refine⟨rfl,?_⟩
  obtain⟨dx,_,_,eb,_⟩:=id hb
  cases dp with
  |true=>
   refine⟨b,dx,_,⟨t.c_zcb,by0 K t⟩,rfl,.tail _ (.head _),eb,rfl,⟨ag _,ag _⟩,⟨b,n,sw,gs,ns,tr,rfl,hb,S,?_⟩⟩
   by_cases c:hvL ns tr n=[]
   .refine .inr ⟨c,λH1 a S1 f=>?_⟩
    obtain⟨dx,ne,e1,e2⟩:=id f
    refine⟨a,rfl,t.c_zby,some dx,.inl e1,Z.ec,true,Z.mp,.inl ⟨.ref t.c_zby,false,.exc rfl f.ex Z.ec rfl,Z.k1,.inl ⟨.ref t.c_zby,true,.exc rfl f.ex Z.ec rfl,Z.k2,(show 2<=sizeLine by decide),λT hT=>?_⟩⟩⟩
    have S2:=Same.upd (o:=.tup [.bl false,.bl true]) hT
    have f2:=f.up S2
    exact .inl ⟨.ref t.c_zby,true,.exc rfl f2.ex Z.ec rfl,Z.k2,Or.inr ⟨t.c_zby,_,.str n,f2.ex,Z.ec,Z.n1,rfl,Or.inr ⟨t.c_zby,_,.non,f2.ex,Z.ec,Z.n2,rfl,(show 3<=sizeLine by decide),λT2 hT2=>k.2 c _ _ ((S1.trans S2).trans (Same.upd hT2)) Aa⟩⟩⟩
   .exact .inl ⟨c,λH1 D S1 hD hB=>k.1 c H1 D S1 hD hB⟩
  |false=>
   refine⟨b,dx,_,⟨t.c_zcb,ba5 K t⟩,rfl,.head _,eb,rfl,⟨ag _,ag _⟩,⟨b,n,v,sw,gs,ns,tr,rfl,hv,hb,S,hn,λm em=>?_,λem H1 a S1 ea=>?_⟩⟩
   .have k:=k.1 m em
    by_cases c:(stT (tr m) n).isSome=true
    .rw[if_pos c] at k ⊢
     exact k
    .rw[if_neg c] at k ⊢
     intro H1 a S1 f
     obtain⟨dx,ne,e1,e2⟩:=id f
     refine⟨a,rfl,t.c_zby,some dx,.inl e1,Z.ec,true,Z.mp,.inl ⟨.ref t.c_zby,false,.exc rfl f.ex Z.ec rfl,Z.k1,.inl ⟨.ref t.c_zby,true,.exc rfl f.ex Z.ec rfl,Z.k2,(show 2<=sizeLine by decide),λT hT=>?_⟩⟩⟩
     have S2:=Same.upd (o:=.tup [.bl false,.bl true]) hT
     have f2:=f.up S2
     exact .inl ⟨.ref t.c_zby,true,.exc rfl f2.ex Z.ec rfl,Z.k2,Or.inr ⟨t.c_zby,_,.str n,f2.ex,Z.ec,Z.n1,rfl,Or.inr ⟨t.c_zby,_,v,f2.ex,Z.ec,Z.n2,rfl,(show 3<=sizeLine by decide),λT2 hT2=>k _ _ ((S1.trans S2).trans (Same.upd hT2)) Aa⟩⟩⟩
   .have x:ExcAt H1 a t.c_zbx []:=.inl ⟨rfl,.inr (.inl ea)⟩
    refine⟨a,rfl,t.c_zbx,none,.inl ea,Z.en,true,Z.mc,.inl ⟨.ref t.c_zbx,true,.exc rfl x Z.en rfl,Z.k3,.inl ⟨.ref t.c_zbx,false,.exc rfl x Z.en rfl,Z.k4,(show 2<=sizeLine by decide),λT hT=>?_⟩⟩⟩
    have S2:=Same.upd (o:=.tup [.bl true,.bl false]) hT
    have x2:ExcAt (upd H1 T (.tup [.bl true,.bl false])) a t.c_zbx []:=.inl ⟨rfl,.inr (.inl (S2 _ _ ea))⟩
    exact .inl ⟨.ref t.c_zbx,false,.exc rfl x2 Z.en rfl,Z.k4,k.2 em _ _ (S1.trans S2) Aa⟩
def FoundAt.nb(h:FoundAt H F ns g tr)(n:NB H H'):FoundAt H' F ns g tr:=
 ⟨n _ _ (λ_ z=>by cases z) h.at_,λm hm=>let⟨⟨es,a,⟨_,b⟩,c⟩,o⟩:=h.one m hm;⟨⟨es,a,⟨trivial,n _ _ (λ_ z=>by cases z) b⟩,λx hx=>(c x hx).up λ_ _=>n.tu⟩,o⟩,h.few⟩
theorem FoundAt.up(h:FoundAt H F ns g tr)(S:Same H H'):FoundAt H' F ns g tr:=⟨S _ _ h.at_,λm hm=>⟨(h.one m hm).1.up S,(h.one m hm).2⟩,h.few⟩
theorem FndR.up(h:FndR H F ns g tr)(S:Same H H'):FndR H' F ns g tr:=⟨h.at_.imp (S _ _) fun⟨o,e⟩=>⟨o,S _ _ e⟩,λm hm=>⟨(h.one m hm).1.up S,(h.one m hm).2⟩⟩
theorem BqAt.frz(h:BqAt t H b sw gs)(e:H F=some (.dK (ns.map (kF g))))(ne:ns≠[])(o:Obj):BqAt t (upd H F (.frz o (.dK (ns.map (kF g))))) b sw gs:=by
 have kp:∀a u,u≠.dK (ns.map (kF g))->H a=some u->upd H F (.frz o (.dK (ns.map (kF g)))) a=some u:=λa u q e'=>by
  rw[Ad λz=>q (by rw[z,e] at e';exact(az e').symm)];exact e'
 obtain⟨dx,p,l,eb,⟨l1,s1,⟨dxp,fs,ep,r⟩,ds,e2,el,hd⟩,es,ee,eD,he⟩:=h
 refine⟨dx,p,l,kp _ _ (by simp) eb,⟨l1,s1,⟨dxp,fs,⟨trivial,kp _ _ (by simp) ep.2⟩,r⟩,ds,e2,⟨trivial,kp _ _ (by simp) el.2⟩,λx hx=>⟨trivial,kp _ _ (by simp[Eu]) (hd x hx).2⟩⟩,es,ee,kp _ _ (by simp) eD,λx hx=>⟨kp _ _ (by simp) (he x hx).1,?_,(he x hx).2.2⟩⟩
 obtain⟨dx,d,⟨_,o1⟩,es,ee,⟨_,o2⟩,z⟩:=(he x hx).2.1
 exact⟨dx,d,⟨trivial,kp _ _ (by simp) o1⟩,es,ee,⟨trivial,kp _ _ (λq=>by injection q with q;exact ne (bb0 q)) o2⟩,λx hx=>(z x hx).up λb ys=>kp b _ (by simp)⟩
def BookAt.q(h:BookAt t H b sw ζ gs):BqAt t H b sw gs:=
 let⟨dx,p,l,e,⟨_,_,l1,_,s1,_,_,h1⟩,k⟩:=h
 ⟨dx,p,l,e,⟨l1,s1,h1.self,h1.tps⟩,k⟩
theorem Ey{H:Hp}:∀{vs},(∀v∈vs,Br v=true)->AtL K H (vs.map Dt.at_) vs
 |[],_=>Xu
 |v::vs,h=>R0 (az2 (h v aQ)) (Ey λu hu=>h u (av _ hu))
theorem U0:∀vs:List V,Eg (vs.map Dt.at_)=0
 |[]=>by unfold Eg;rfl
 |v::vs=>by rw[aT];unfold Eg;rw[U0 vs];unfold dep;rfl
def W6(fl:∀v∈vs,Br v=true)(e1:H a=some (.tup vs))(e2:H b=some (.tup vs))(q:Q (.bl false) H):Bw K true (.ref a) (.ref b) H Q:=by
 refine .inr (.inl ⟨_,_,Pj (SqT.of e1) (Ey fl),Pj (SqT.of e2) (Ey fl),by unfold dep;rw[U0];decide,?_⟩)
 rw[Fk (Pj (K:=K) (SqT.of e1) (Ey fl))]
 exact q
def bnD(f:Str->Int)(z:Str):Dt:=.tup (([.str z,.int (f z)]:List V).map Dt.at_)
theorem ah0:∀{es:List (Str×Addr)},(∀e∈es,H e.2=some (.tup [.str e.1,.int (f e.1)]))->AtL K H ((es.map (·.1)).map (bnD f)) (es.map λe=>.ref e.2)
 |[],_=>Xu
 | e::es,h=>R0 (Pj (SqT.of (h e aQ)) (Ey λv hv=>by
   simp only[aD,ce,or_false] at hv
   rcases hv with rfl|rfl <;> rfl)) (ah0 λx hx=>h x (av _ hx))
def bw1(h1:BnAt H a ns tr n)(h2:BnAt H b ns tr n)(q:Q (.bl false) H):Bw K true (.ref a) (.ref b) H Q:=by
 obtain⟨es,n1,m1,p1,e1,t1⟩:=h1
 obtain⟨fs,n2,m2,p2,e2,t2⟩:=h2
 have e:=Gj (E3 n1) ((List.perm_ext_iff_of_nodup n1 n2).mpr λz=>by rw[m1,m2]) p1 p2
 have a1:=ag7 (K:=K) (SqL.of e1) (ah0 (f:=λz=>(Gr (blF ns tr n z):Nat)) t1)
 have a2:=ag7 (K:=K) (SqL.of e2) (ah0 (f:=λz=>(Gr (blF ns tr n z):Nat)) t2)
 rw[<- e] at a2
 refine .inr (.inl ⟨_,_,a1,a2,?_,?_⟩)
 .refine aU (cD (R7 (n:=1) (λz=>?_) _)) (by decide)
  unfold bnD dep
  rw[U0]
  exact ag _
 .rw[Fk a1]
  exact q
def BnAt.up(h:BnAt H a ns tr n)(S:Same H H'):BnAt H' a ns tr n:=
 let⟨es,n1,m1,p1,e1,t1⟩:=h
 ⟨es,n1,m1,p1,S _ _ e1,λe he=>S _ _ (t1 e he)⟩
def Ye(h:flV v):∀u∈([.str "no part", .str n,v]:List V),Br u=true:=λu hu=>by
 simp only[aD,ce,or_false] at hu
 rcases hu with rfl|rfl|rfl
 .rfl
 .rfl
 .cases u with
  |int _=>rfl
  |bl _=>rfl
  |non=>rfl
  |str _=>rfl
  |_=>exact h.elim
def bn7(Z:An K t):OkD K D_zbp (Av K t) bl (t.f 39) (t.d 39) (Q3 K t):=by
 refine A5 (b90 K t) λvs H Q E h=>?_
 .obtain⟨a,ns,rfl,hS,l63,hst,k⟩:=h;refine⟨rfl,?_⟩
  have big:(1000:Nat)<sizeLine:=by decide
  refine⟨a,ns,0,rfl,hS,by decide,a,ns,_,rfl,hS,λH1 LL W nm F sw ζ l kk f ws g tr S1 eL enm ⟨w1,w8,w12⟩ hW hF=>?_⟩
  refine⟨_,.inr (SqL.of eL),rfl,?_⟩
  obtain⟨hP,ob,u,hB,b1,b2,b3⟩:=hst
  refine⟨W,F,l,kk,f,sw,ζ,g,tr,rfl,⟨S1 _ _ hP,ob,u,S1 _ _ hB,b1,b2,b3⟩,hW,hF,λH2 b O2 hB2=>?_⟩
  have nb2:=NB.of O2 (S1 _ _ hP)
  have hw:=hW.ok
  have few:=hw.len
  have asc:=Lr sw ζ
  have hF2:=hF.nb nb2
  have enm2:=nb2 _ _ (λ_ z=>by cases z) enm
  have hne:=hW.ne
  have fl:∀n∈A8 sw ζ,n<(Aj sw).length:=λn hn=>(Fp hn).1
  have bk:Bk (A8 sw ζ) tr (Co (λn=>vkT (tr n)) (A8 sw ζ)):=⟨rfl,asc,λn hn=>⟨(hF.one n hn).2,aL (fl n hn) few⟩,by have:=X5 asc hF.few (A8 sw ζ).length;rwa[aA] at this⟩
  have hB2:=hB2.q
  generalize Co (λn=>vkT (tr n)) (A8 sw ζ)=gs at hB2 bk
  have b256:∀m∈A8 sw ζ,m<256:=λm hm=>(bk.ok m hm).2
  obtain⟨nd,l256⟩:=am8 asc b256
  refine⟨_,_,.inl (SqL.of (nb2 _ _ (λ_ z=>by cases z) hW.at_)),rfl,l,sw,rfl,?_,hw,?_⟩
  .obtain⟨ds,e1,⟨_,o1⟩,h1⟩:=hW.sws
   exact⟨ds,e1,⟨trivial,nb2 _ _ (λ_ z=>by cases z) o1⟩,λx hx=>⟨⟨trivial,nb2.tu (h1 x hx).1.2⟩,trivial,nb2 _ _ (λ_ z=>by cases z) (h1 x hx).2.2⟩⟩
  generalize A8 sw ζ=ns at hne fl bk b256 nd l256 asc hF2
  obtain⟨w0,wr,ew⟩:∃w0 wr,ws=w0::wr:=by
   cases ws with
   |nil=>exact absurd w1 (by decide)
   |cons a b=>exact⟨a,b,rfl⟩
  have l0:=(w12 w0 (by rw[ew];exact aQ)).1
  have at0:atI (ws.map V.str) 0=some (.str w0):=by rw[ew];exact Cc rfl
  refine⟨_,_,.inl (SqL.of enm2),at0,_,_,.inl (SqL.of enm2),at0,by omega,?_⟩
  obtain⟨z,hz,lz⟩:∃z,((if decide ((w0.length:Int)<12) then(1:Int) else 0)=0/\z=cH\/(if decide ((w0.length:Int)<12) then(1:Int) else 0)=1/\z=".")/\z.length<=1:=by
   by_cases c:(w0.length:Int)<12
   .exact⟨".", .inr ⟨by rw[decide_eq_true c];rfl,rfl⟩,by decide +kernel⟩
   .exact⟨cH,.inl ⟨by rw[decide_eq_false c];rfl,rfl⟩,by decide⟩
  refine⟨z,hz,by omega,(show 2<=sizeLine by decide),λq hq=>?_⟩
  have S6:=Same.upd (o:=Bd [w0++z,""]) hq
  have e6:upd H2 q (Bd [w0++z,""]) q=some (Bd [w0++z,""]):=Aa
  have e6n:=S6 _ _ enm2
  show Ba K _ _ (upd H2 q (Bd [w0++z,""])) _
  generalize upd H2 q (Bd [w0++z,""])=H6 at S6 e6 e6n ⊢
  refine .inl ⟨nm,q,_,_,rfl,rfl,e6n,e6,by rw[ae];show ws.length+2<=_;omega,λM hM=>?_⟩
  rw[<- aq]
  have S7:=S6.trans (Same.upd (o:=Bd (ws++[w0++z,("" : Str)])) hM)
  have e7:upd H6 M (Bd (ws++[w0++z,("" : Str)])) M=some (Bd (ws++[w0++z,("" : Str)])):=Aa
  refine .inl ⟨⟨_,SqL.of e7⟩,?_⟩
  generalize upd H6 M (Bd (ws++[w0++z,("" : Str)]))=H7 at S7 e7 ⊢
  have hB7:=hB2.up S7
  have hF7:=hF2.up S7
  refine A3 (Ay ((ws++[w0++z,("" : Str)]).map V.str)) (λi σ H'=>(∃v6 v7 v8 v9 v10,σ=[some (.ref a),some (.ref W),some (.ref M),some (.ref F),some (.ref b),some (.int ((Aj sw).length:Nat)),v6,v7,v8,v9,v10])/\Same H7 H') ⟨⟨_,_,_,_,_,rfl⟩,Same.refl _⟩ (λ_ _ H' _ q=>q.2.seqL (SqL.of e7)) ?_ ?_
  .rintro i x σ H8 hx ⟨⟨v6,v7,v8,v9,v10,rfl⟩,S8⟩
   obtain⟨n,hn,rfl⟩:=Am hx
   have hF8:=hF7.up S8
   have eF:=hF8.at_
   refine .inr (.inr (.inl (.inl ⟨_,eF,λo=>?_⟩)))
   have hBf:=(hB7.up S8).frz eF hne o
   have hFf:=On eF hF8.one o
   have ef:upd H8 F (.frz o (.dK (ns.map (kF g)))) F=some (.frz o (.dK (ns.map (kF g)))):=Aa
   have th:∀H',Same (upd H8 F (.frz o (.dK (ns.map (kF g))))) H'->Same H8 (upd H' F (.dK (ns.map (kF g)))):=λH' S=>Same.thaw eF S
   show Um (Itd F o (ns.map (kF g))) _ _ _ [some (.ref a),some (.ref W),some (.ref M),some (.ref F),some (.ref b),some (.int ((Aj sw).length:Nat)),some (.str n),v7,v8,v9,v10] _
   generalize upd H8 F (.frz o (.dK (ns.map (kF g))))=Hf at hBf hFf ef th ⊢
   refine A3 (Dc (ns.map (kF g))) (λi σ H'=>(∃v7 v8,σ=[some (.ref a),some (.ref W),some (.ref M),some (.ref F),some (.ref b),some (.int ((Aj sw).length:Nat)),some (.str n),v7,v8,v9,v10])/\Same Hf H') ⟨⟨_,_,rfl⟩,Same.refl _⟩ (λ_ _ H' _ q=>q.2 _ _ ef) ?_ ?_
   .rintro i x σ H9 hx ⟨⟨v7,v8,rfl⟩,S9⟩
    rw[aB] at hx
    obtain⟨m,hm,rfl⟩:=Am hx
    have hm:=aj hm
    have em:Gz ns (.int (m:Int))=some m:=if_pos ⟨i4 m,hm⟩
    refine⟨b,n,.int (m:Int),false,sw,gs,ns,tr,rfl,trivial,hBf.up S9,bk,fl,λm' em'=>?_,λq=>by rw[em] at q;cases q⟩
    rw[em] at em'
    cases em'
    have lk:∀{H10},Same Hf H10 -> ∃xs o,SqX K H10 F (m:Int) xs/\atI xs (m:Int)=some (.ref (g m))/\(Xe H10 (g m) (.str n) o\/False)/\o.isSome=(stT (tr m) n).isSome:=λS10=>by
     obtain⟨⟨xs,q1,q2⟩,es,et,⟨_,ed⟩,he⟩:=hFf.fnd (K:=K) nd S10 hm
     refine⟨xs,_,q1,q2,.inl ⟨_,.inr n,.inl ed,rfl,rfl⟩,?_⟩
     rcases Ec et (hF8.one m hm).2 n with⟨a,b⟩|⟨e,_,a,b⟩ <;> rw[a,b] <;> rfl
    by_cases c:(stT (tr m) n).isSome=true
    .rw[if_pos c]
     intro H10 S10
     refine⟨F,n,m,ns,g,tr,rfl,hFf.up (S9.trans S10),asc,b256,hm,?_⟩
     rw[if_pos c]
     intro H11 S11
     obtain⟨xs,o1,q1,q2,q3,q4⟩:=lk (S9.trans (S10.trans S11))
     refine Gs (by show(!decide (_=_))=false;rw[decide_eq_true rfl];rfl) ⟨xs,_,q1,q2,.inr ⟨_,q3,?_⟩⟩
     rw[q4,c]
     exact⟨_,rfl,⟨_,_,rfl⟩,S9.trans (S10.trans S11)⟩
    .rw[if_neg c]
     intro H10 q S10 eq
     refine⟨F,n,m,ns,g,tr,rfl,hFf.up (S9.trans S10),asc,b256,hm,?_⟩
     rw[if_neg c]
     intro q' hq'
     have S11:=S10.trans (Same.upd (o:=.tup [.str "no part", .str n,.int (m:Int)]) hq')
     obtain⟨xs,o1,q1,q2,q3,q4⟩:=lk (S9.trans S11)
     refine W6 (Ye (n:=n) (v:=.int (m:Int)) trivial) ((Same.upd hq') _ _ eq) Aa ⟨xs,_,q1,q2,.inr ⟨_,q3,?_⟩⟩
     rw[Bool.not_eq_true] at c
     rw[q4,c]
     exact⟨⟨_,_,rfl⟩,S9.trans S11⟩
   rintro σ H9 ⟨⟨v7,v8,rfl⟩,S9⟩
   refine .inr ⟨F,o,_,eF,S9 _ _ ef,?_⟩
   have S9:=S8.trans (th _ S9)
   generalize upd H9 F (.dK (ns.map (kF g)))=H10 at S9 ⊢
   clear hFf hBf ef th S8 hF8 eF
   have eF:=hF7.at_
   refine⟨⟨by omega,by omega⟩,λD hD=>?_⟩
   rw[aY]
   refine Cu (Bn 0 (Aj sw).length) (λi σ H'=>(∃v0,σ=[v0,some (.ref F)])/\Same H10 H'/\∃mo,(∀j∈mo,j∉ns)/\mo.length<=i/\H' D=some (nO mo)) ⟨⟨_,rfl⟩,Same.upd hD,[],(λj h=>by cases h),ag _,Aa⟩ (λ_ _ _ _ _=>aP) ?_ ?_
   .rintro j x σ H11 hx ⟨⟨v0,rfl⟩,S11,mo,nm,lm,eD⟩
    obtain⟨hj,rfl⟩:=C8 hx
    refine .inr ⟨_,.inl ⟨_,.inl (j:Int),.inl ((S9.trans S11) _ _ eF),rfl,rfl⟩,?_⟩
    by_cases c:j∈ns
    .obtain⟨i,hi⟩:=List.mem_iff_getElem?.mp c
     rw[P7 nd hi]
     exact⟨⟨_,rfl⟩,S11,mo,nm,gh lm,eD⟩
    .rw[Ce (by rw[K3];exact λq=>by obtain⟨x,hx,e⟩:=List.mem_map.mp q;injection e with e;exact c (by rw[<- Int.ofNat.inj e];exact hx))]
     refine⟨_,eD,by rw[ae];omega,⟨_,rfl⟩,S11.set hD,mo++[j],λy hy=>?_,by rw[aI];exact cD lm,by rw[Aa,nO,aq];rfl⟩
     rcases List.mem_append.mp hy with hy|hy
     .exact nm y hy
     .rw[List.mem_singleton.mp hy];exact c
   rintro σ' H11 ⟨_,S11,mo,nm,lm,eD⟩
   rw[A0] at lm
   refine⟨(show 5<=sizeLine by decide),λq2 hq2=>?_⟩
   have S12:=(S9.trans S11).trans (Same.upd (o:=.lst [.int ((Aj sw).length:Nat),.int (-1),.bl true,.non,.str "0"]) hq2)
   have e12:upd H11 q2 (.lst [.int ((Aj sw).length:Nat),.int (-1),.bl true,.non,.str "0"]) q2=some (.lst [.int ((Aj sw).length:Nat),.int (-1),.bl true,.non,.str "0"]):=Aa
   have eD:=(Same.upd (o:=.lst [.int ((Aj sw).length:Nat),.int (-1),.bl true,.non,.str "0"]) hq2) _ _ eD
   show Ba K _ _ (upd H11 q2 (.lst [.int ((Aj sw).length:Nat),.int (-1),.bl true,.non,.str "0"])) _
   generalize upd H11 q2 (.lst [.int ((Aj sw).length:Nat),.int (-1),.bl true,.non,.str "0"])=H12 at S12 e12 eD ⊢
   refine .inl ⟨D,q2,_,_,rfl,rfl,eD,e12,by rw[ae];show mo.length+5<=_;omega,λM2 hM2=>?_⟩
   have bad:∀v∈(mo.map λn:Nat=>V.int (n:Int))++[.int ((Aj sw).length:Nat),.int (-1),.bl true,.non,.str "0"],flV v/\Gz ns v=none:=λv hv=>by
    have no:∀j:Nat,j∉ns->Gz ns (.int (j:Int))=none:=λj hj=>if_neg λc=>hj c.2
    rcases List.mem_append.mp hv with hv|hv
    .obtain⟨j,hj,rfl⟩:=List.mem_map.mp hv
     exact⟨trivial,no j (nm j hj)⟩
    .simp only[aD,ce,or_false] at hv
     rcases hv with rfl|rfl|rfl|rfl|rfl
     .exact⟨trivial,no _ λq=>gj _ (fl _ q)⟩
     .exact⟨trivial,by unfold Gz;exact if_neg λc=>absurd c.1 (by decide)⟩
     .exact⟨trivial,rfl⟩
     .exact⟨trivial,rfl⟩
     .exact⟨trivial,rfl⟩
   generalize (mo.map λn:Nat=>V.int (n:Int))++[.int ((Aj sw).length:Nat),.int (-1),.bl true,.non,.str "0"]=vs at bad ⊢
   have S13:=S12.trans (Same.upd (o:=.lst vs) hM2)
   have e13:upd H12 M2 (.lst vs) M2=some (.lst vs):=Aa
   refine .inl ⟨⟨_,SqL.of e13⟩,?_⟩
   show Um (Itl K M2) _ _ _ [some (.ref a),some (.ref W),some (.ref M),some (.ref F),some (.ref b),some (.int ((Aj sw).length:Nat)),some (.str n),v7,v8,v9,v10] _
   generalize upd H12 M2 (.lst vs)=H13 at S13 e13 ⊢
   refine A3 (Ay vs) (λi σ H'=>(∃v7,σ=[some (.ref a),some (.ref W),some (.ref M),some (.ref F),some (.ref b),some (.int ((Aj sw).length:Nat)),some (.str n),v7,v8,v9,v10])/\Same H13 H') ⟨⟨_,rfl⟩,Same.refl _⟩ (λ_ _ H' _ q=>q.2.seqL (SqL.of e13)) ?_ ?_
   .rintro i x σ H14 hx ⟨⟨v7,rfl⟩,S14⟩
    obtain⟨fx,nx⟩:=bad x (aj hx)
    refine⟨b,n,x,false,sw,gs,ns,tr,rfl,fx,hB7.up (S13.trans S14),bk,fl,(λm em=>by rw[nx] at em;cases em),λ_ H15 q S15 eq=>⟨(show 2<=sizeLine by decide),λT hT=>?_⟩⟩
    exact W6 (vs:=[.bl true,.bl false]) (λv hv=>by simp only[aD,ce,or_false] at hv;rcases hv with rfl|rfl <;> rfl) ((Same.upd hT) _ _ eq) Aa ⟨⟨_,rfl⟩,S14.trans (S15.trans (Same.upd hT))⟩
   rintro σ H14 ⟨⟨v7,rfl⟩,S14⟩
   have S14:=S13.trans S14
   clear S9 S11 S12 S13
   refine .inl ⟨F,n,ns,g,tr,rfl,hF7.up S14,asc,b256,λH15 D2 S15 hbn ⟨xs,eD2⟩=>?_⟩
   have S15:=S14.trans S15
   refine .inr (.inr (.inl ?_))
   refine Om (K:=K) (λj=>(stT (tr j) n).isSome) (λj=>(j:Int)) (hF7.up S15).r nd l256 (λj hj H1 Q1 hD q=>?_) (λj hj H1 Q1 q=>q) λH16 L S16 eL=>?_
   .obtain⟨⟨xs,p1,p2⟩,es,et,⟨_,ed⟩,he⟩:=hD j hj
    refine⟨xs,_,p1,p2,.inr ⟨_,.inl ⟨_,.inr n,.inl ed,rfl,rfl⟩,?_⟩⟩
    rcases Ec et (hF7.one j hj).2 n with⟨a,b⟩|⟨e,_,a,b⟩
    .rw[a];rw[b] at q;exact q
    .rw[a];rw[b] at q;exact q
   refine⟨(show 0<=sizeLine by decide),λp hp=>.inl ⟨L,p,_,_,rfl,rfl,SqL.of ((Same.upd hp) _ _ eL),SqL.of Aa,by rw[<- Ot];exact Oj _,rfl,?_⟩⟩
   have S17:=S15.trans (S16.trans (Same.upd (o:=.lst []) hp))
   have Sb:=S16.trans (Same.upd (o:=.lst []) hp)
   generalize upd H16 p (.lst [])=H17 at S17 Sb ⊢
   clear S14
   have hvE:(ns.filter λj=>(stT (tr j) n).isSome)=hvL ns tr n:=rfl
   rw[hvE]
   cases hv:hvL ns tr n with
   |nil=>
    refine Sv ⟨(show 3<=sizeLine by decide),λT hT=>⟨⟨by omega,by omega⟩,?_⟩⟩
    have S18:=S17.trans (Same.upd (o:=.tup [.str "no part", .str n,.non]) hT)
    have e18:upd H17 T (.tup [.str "no part", .str n,.non]) T=some (.tup [.str "no part", .str n,.non]):=Aa
    show Um _ _ _ _ [some (.ref a),some (.ref W),some (.ref M),some (.ref F),some (.ref b),some (.int ((Aj sw).length:Nat)),some (.str n),v7,v8,some (.ref T),v10] _
    generalize upd H17 T (.tup [.str "no part", .str n,.non])=H18 at S18 e18 ⊢
    refine A3 (Bn 0 2) (λi σ H'=>(∃v8 v10,σ=[some (.ref a),some (.ref W),some (.ref M),some (.ref F),some (.ref b),some (.int ((Aj sw).length:Nat)),some (.str n),v7,v8,some (.ref T),v10])/\Same H18 H') ⟨⟨_,_,rfl⟩,Same.refl _⟩ (λ_ _ _ _ _=>aP) ?_ ?_
    .rintro i x σ H19 hx ⟨⟨v8,v10,rfl⟩,S19⟩
     refine⟨b,n,.int 0,true,sw,gs,ns,tr,rfl,trivial,hB7.up (S18.trans S19),bk,fl,(λq=>absurd hv q),λ_ H20 q S20 eq=>?_⟩
     have eT:=(S19.trans S20) _ _ e18
     refine⟨_,false,.sqT rfl (SqT.of eq) rfl,rfl,_,false,.sqT rfl (SqT.of eT) rfl,rfl,?_⟩
     refine W6 (Ye (n:=n) (v:=.non) trivial) eq eT ?_
     exact⟨_,false,.sqT rfl (SqT.of eq) rfl,rfl,⟨_,_,rfl⟩,S19.trans S20⟩
    .rintro σ H19 ⟨⟨v8,v10,rfl⟩,S19⟩
     exact .inl ⟨⟨_,_,_,_,_,rfl⟩,S18.trans S19⟩
   |cons x0 r0=>
    have hv0:hvL ns tr n≠[]:=by rw[hv];exact List.cons_ne_nil _ _
    have n0:n ≠ "" := by
     obtain⟨m,hm⟩:=eC _ hv0
     obtain⟨hm,c⟩:=List.mem_filter.mp hm
     exact an0 (hF7.one m hm).2 c
    have hbn:=(hbn n0).up Sb
    refine Kg ⟨⟨by omega,by omega⟩,?_⟩
    refine A3 (Bn 0 2) (λi σ H'=>(∃v8 v10,σ=[some (.ref a),some (.ref W),some (.ref M),some (.ref F),some (.ref b),some (.int ((Aj sw).length:Nat)),some (.str n),v7,v8,some (.ref D2),v10])/\Same H17 H') ⟨⟨_,_,rfl⟩,Same.refl _⟩ (λ_ _ _ _ _=>aP) ?_ ?_
    .rintro i x σ H19 hx ⟨⟨v8,v10,rfl⟩,S19⟩
     refine⟨b,n,.int 0,true,sw,gs,ns,tr,rfl,trivial,hB7.up (S17.trans S19),bk,fl,(λ_ H20 D S20 hD hB=>?_),λq=>absurd q hv0⟩
     have h2:=hbn.up (S19.trans S20)
     obtain⟨es,_,_,_,eD,_⟩:=id hB
     obtain⟨es2,_,_,_,eD2,_⟩:=id h2
     refine⟨_,true,.of (.lst eD),rfl,_,true,.of (.lst eD2),rfl,?_⟩
     refine bw1 hB h2 ?_
     refine⟨_,true,.of (.lst eD),rfl,?_⟩
     exact⟨.inl ⟨rfl,_,SqL.of eD⟩,D,_,rfl,rfl,eD,⟨_,_,rfl⟩,λx o e=>by rw[Ad (Ai (S19 _ _ e) hD)];exact S20 _ _ (S19 _ _ e)⟩
    .rintro σ H19 ⟨⟨v8,v10,rfl⟩,S19⟩
     exact .inl ⟨⟨_,_,_,_,_,rfl⟩,S17.trans S19⟩
  .rintro σ H8 ⟨_,S8⟩
   exact .inl (k H8)
end
end K34
namespace K34
open PySem L2
noncomputable def bu0:List Df:=[af1,ae5,af7,ae4,be6,ae3,ad6,ad5,ae7,af3,ad2,af4,ae1,ad3,af2,af8,be7,D_zbd,ad9,ae8,af5,ad4,ad7,af6,be2,ad0,ad8,be5,be1,be0,af9,be3,ae2,af0,ad1,ae9,ae0,ae6,be4,D_zbp]
def al8:List Df:=[ax2,ax9,ay2,Xk,Xl,ay4,ax3,ax5,ay0,ay5,ax6,Xi,Y3]
def al9:List Df:=[Xf,ay1,ay3,ax7]
def al7:List Df:=[ax0,ax8,Xj,Xg,ax4,ax1,Xh]
structure a93 (K:ac) (mg:Str->Option Value) (t:Adr):Prop where
 g:AllG K mg t.f t.d 0 bu0
 o_zca:Rt K "Plain" t.c_zca t.f_zai
 m_zca:AllM K t.c_zca t.m_zca t.e_zca 0 al8
 o_zcb:Rt K "Book" t.c_zcb t.f_zan
 m_zcb:AllM K t.c_zcb t.m_zcb t.e_zcb 0 al9
 o_zbz:Rt K "Panel" t.c_zbz t.f_zaf
 m_zbz:AllM K t.c_zbz t.m_zbz t.e_zbz 0 al7
 i_zai:Ka K D_zai t.f_zai t.d_zai [] []
 i_zan:Ka K D_zan t.f_zan t.d_zan [] []
 i_zaf:Ka K D_zaf t.f_zaf t.d_zaf [.non] [.none]
 i_zn:Ka K D_zn t.f_zn t.d_zn [.non] [.none]
 a_zbw:bT K mainGlobals "LeafError"=some (some (.ref t.c_zbw))
 kp_zbw:ba K (.ref t.c_zbw)=true
 ec_zbw:ECls K t.c_zbw
 in_zbw:aZ K (.ref t.c_zbw) "__init__"=some (some (.builtin "ValueError.__init__"))
 a_zbx:bT K mainGlobals "NoChoice"=some (some (.ref t.c_zbx))
 kp_zbx:ba K (.ref t.c_zbx)=true
 ec_zbx:ECls K t.c_zbx
 in_zbx:aZ K (.ref t.c_zbx) "__init__"=some (some (.builtin "ValueError.__init__"))
 a_zbv:bT K mainGlobals "EditError"=some (some (.ref t.c_zbv))
 x_zby:be8 K "NoPart" t.c_zby t.f_zn (.ref t.c_zbv::.ref t.c_zbw::valTail)
 c:AllC mg t.u 0 cons
 z:∀x∈bl,mg x=none
 Z:An K t
def bi8{P:aW}{w:bC}{K:ac}{mg:Str->Option Value}{h base:Heap}{t:Adr}(X:K.In h)(G:h.Ns mainGlobals mg)(A:a93 K mg t):FnOk P w K mg base CX0 13 (t.f 39) (t.d 39) D_zbp.ps (Q3 K t):=by
  have Z:=A.Z
  have g:∀(j:Nat) {D:Df},bu0[j]?=some D->DOk K mg D.q D.st (t.f (0+j)) (t.d (0+j)) D.ps:=λj _ e=>(A.g.get j e).1
  have O:ac5 P w K mg base (Av K t) bl t.f t.d 0 (fns K t):=⟨(bm8 Z).g (g 0 rfl),(bm1 Z).g (g 1 rfl),(bn4 Z).g (g 2 rfl),(bm0 Z).g (g 3 rfl),(b17 Z).g (g 4 rfl),(bl9 Z).g (g 5 rfl),(bk8 Z).g (g 6 rfl),(bk7 Z).g (g 7 rfl),(bm3 Z).g (g 8 rfl),(bn0 Z).g (g 9 rfl),(bj8 Z).g (g 10 rfl),(bn1 Z).g (g 11 rfl),(bl7 Z).g (g 12 rfl),(bj9 Z).g (g 13 rfl),(bm9 Z).g (g 14 rfl),(bn5 Z).g (g 15 rfl),(b18 Z).g (g 16 rfl),(bm5 Z).g (g 17 rfl),(bl5 Z).g (g 18 rfl),(bm4 Z).g (g 19 rfl),(bn2 Z).g (g 20 rfl),(bk6 Z).g (g 21 rfl),(bl3 Z).g (g 22 rfl),(bn3 Z).g (g 23 rfl),(b02 Z).g (g 24 rfl),(bj6 Z).g (g 25 rfl),(bl4 Z).g (g 26 rfl),(b15 Z).g (g 27 rfl),(bz7 Z).g (g 28 rfl),(bz6 Z).g (g 29 rfl),(bn6 Z).g (g 30 rfl),(b03 Z).g (g 31 rfl),(bl8 Z).g (g 32 rfl),(bm7 Z).g (g 33 rfl),(bj7 Z).g (g 34 rfl),(bm6 Z).g (g 35 rfl),(bl6 Z).g (g 36 rfl),(bm2 Z).g (g 37 rfl),(b13 Z).g (g 38 rfl),aP⟩
  have E:AllE P w K mg base (Av K t) bl (Av K t):=AllE.app ⟨(Uy X G A.o_zca A.i_zai (bk4 Z)),(Uy X G A.o_zcb A.i_zan (bk9 Z)),(Uy X G A.o_zbz A.i_zaf (bk1 Z)),(λ_=>⟨d7 X G A.a_zbw,A.kp_zbw,A.ec_zbw,A.in_zbw⟩),(λ_=>⟨d7 X G A.a_zbx,A.kp_zbx,A.ec_zbx,A.in_zbx⟩),(λ_=>bu5 X G A.a_zbv),(bg9 X G A.x_zby Z.ec A.i_zn (b08 Z)),(λT mi hm=>by
    simp only[Gy,aD,ce,or_false] at hm
    rcases hm with rfl|rfl
    . exact Qd A.o_zca.cl (A.m_zca.get 1 rfl) (bb4 Z).m (aF rfl) T
    . exact Qd A.o_zcb.cl (A.m_zcb.get 1 rfl) (bb5 Z).m (aF rfl) T
   ),(λT mi hm=>by
    rcases List.mem_singleton.mp hm with rfl
    exact⟨Qd A.o_zca.cl (A.m_zca.get 12 rfl) (bb3 Z).m (aF rfl) T,Z.ks_place_key,Z.kt_place_key,by decide +kernel,aF rfl⟩
   ),aP⟩ (AllE.app (Ru A.c) (AllE.app (Hb A.o_zca.cl A.m_zca ⟨(b00 Z).m,(bb4 Z).m,(b16 Z).m,(bl1 Z).m,(bl2 Z).m,(b20 Z).m,(b01 Z).m,(b05 Z).m,(b11 Z).m,(b21 Z).m,(b06 Z).m,(bk5 Z).m,(bb3 Z).m,aP⟩) (AllE.app (Hb A.o_zcb.cl A.m_zcb ⟨(bk0 Z).m,(bb5 Z).m,(b19 Z).m,(b07 Z).m,aP⟩) (AllE.app (Hb A.o_zbz.cl A.m_zbz ⟨(bz8 Z).m,(b09 Z).m,(bl0 Z).m,(bk2 Z).m,(b04 Z).m,(bz9 Z).m,(bk3 Z).m,aP⟩) (Xq (AllG.pre (b:=[D_zbp]) A.g) O)))))
  exact bn7 Z _ _ _ _ _ (g 39 rfl).F λm _=>a89 A.z E m
def all_mk{l:kj}{w:bC}{K:ac}{h:Heap}{mg:Str->Option Value}{fa c_zca c_zcb c_zbz c_zbw c_zbx c_zbv c_zby f_zai f_zan f_zaf f_zn f_io f_pk:Addr}(X:K.In h)(G:h.Ns mainGlobals mg)(hfa:mg "law"=some (.ref fa))(o_zca:Rt K "Plain" c_zca f_zai)(o_zcb:Rt K "Book" c_zcb f_zan)(o_zbz:Rt K "Panel" c_zbz f_zaf)(a_zbw:bT K mainGlobals "LeafError"=some (some (.ref c_zbw)))(kp_zbw:ba K (.ref c_zbw)=true)(in_zbw:aZ K (.ref c_zbw) "__init__"=some (some (.builtin "ValueError.__init__")))(y_zbw:XC K c_zbw (valTail))(a_zbx:bT K mainGlobals "NoChoice"=some (some (.ref c_zbx)))(kp_zbx:ba K (.ref c_zbx)=true)(in_zbx:aZ K (.ref c_zbx) "__init__"=some (some (.builtin "ValueError.__init__")))(y_zbx:XC K c_zbx (.ref c_zbw::valTail))(a_zbv:bT K mainGlobals "EditError"=some (some (.ref c_zbv)))(y_zbv:XC K c_zbv (.ref c_zbw::valTail))(x_zby:be8 K "NoPart" c_zby f_zn (.ref c_zbv::.ref c_zbw::valTail))(i_zai:∃d,Ka K D_zai f_zai d [] [])(i_zan:∃d,Ka K D_zan f_zan d [] [])(i_zaf:∃d,Ka K D_zaf f_zaf d [.non] [.none])(i_zn:∃d,Ka K D_zn f_zn d [.non] [.none])(nP:AllN K c_zbz ["settings","tuples","numbers","sets","kept_rules","bars","free"])(nL:AllN K c_zca ["records"])(nB:AllN K c_zcb ["panel","kept"])(nN:AllN K c_zby ["part","choice"])(a_io:bT K mainGlobals "in_order"=some (some (.ref f_io)))(mp:gn K c_zby (.ref c_zbw)=some true)(mc:gn K c_zbx (.ref c_zbw)=some true)(a_pk:aZ K (.ref c_zca) "place_key"=some (some (.ref f_pk)))(s_pk:dH K (.ref f_pk) "__get__"=some (some (.builtin "function.__get__")))(t_pk:f6 K (.ref f_pk)=some false)(kx:(aX c_zby::.ref c_zbv::.ref c_zbw::valTail).contains (.ref c_zbx)=false)(ky:(aX c_zbx::.ref c_zbw::valTail).contains (.ref c_zby)=false)(lm_io:L8 K f_io=true)(qT:bd8 K bu0)(qM_zca:Rq K c_zca al8)(qM_zcb:Rq K c_zcb al9)(qM_zbz:Rq K c_zbz al7)(qC:ac7 K cons)(qZ:bd9 K bl)
  : ∃(t:Adr)(fd:bh),(∀(s:aw)(v:Value),lZ s fd ⟨[v],[]⟩ [("_law_script", v)])/\∀base:Heap,K.In base->base.Ns mainGlobals mg->FnOk l.prog w K mg base CX0 13 fa fd ["_law_script"] (Q3 K t):=by
 obtain⟨_,_,d₀,_⟩:=qT.1
 obtain⟨f,d,g⟩:=Xr d₀ X G 0 qT (by(repeat' first|exact aP|refine⟨⟨rfl,λ_ _ _ _ _ _ us hl=>?_⟩,?_⟩|fail) <;> first|exact aP|exact len1 (λ_=>rfl) us hl|exact len2 (λ_ _=>rfl) us hl|exact len3 (λ_ _ _=>rfl) us hl|exact a13 (λ_ _ _ _=>rfl) us hl|exact len5 (λ_ _ _ _ _=>rfl) us hl|exact a14 (λ_ _ _ _ _ _=>rfl) us hl)
 obtain⟨m_zca,e_zca,g_zca⟩:=Ks d₀ 0 qM_zca (by(repeat' first|exact aP|refine⟨λ_ _ _ _ _ _ us hl=>?_,?_⟩|fail) <;> first|exact aP|exact len1 (λ_=>rfl) us hl|exact len2 (λ_ _=>rfl) us hl|exact len3 (λ_ _ _=>rfl) us hl|exact a13 (λ_ _ _ _=>rfl) us hl|exact len5 (λ_ _ _ _ _=>rfl) us hl|exact a14 (λ_ _ _ _ _ _=>rfl) us hl)
 obtain⟨m_zcb,e_zcb,g_zcb⟩:=Ks d₀ 0 qM_zcb (by(repeat' first|exact aP|refine⟨λ_ _ _ _ _ _ us hl=>?_,?_⟩|fail) <;> first|exact aP|exact len1 (λ_=>rfl) us hl|exact len2 (λ_ _=>rfl) us hl|exact len3 (λ_ _ _=>rfl) us hl|exact a13 (λ_ _ _ _=>rfl) us hl|exact len5 (λ_ _ _ _ _=>rfl) us hl|exact a14 (λ_ _ _ _ _ _=>rfl) us hl)
 obtain⟨m_zbz,e_zbz,g_zbz⟩:=Ks d₀ 0 qM_zbz (by(repeat' first|exact aP|refine⟨λ_ _ _ _ _ _ us hl=>?_,?_⟩|fail) <;> first|exact aP|exact len1 (λ_=>rfl) us hl|exact len2 (λ_ _=>rfl) us hl|exact len3 (λ_ _ _=>rfl) us hl|exact a13 (λ_ _ _ _=>rfl) us hl|exact len5 (λ_ _ _ _ _=>rfl) us hl|exact a14 (λ_ _ _ _ _ _=>rfl) us hl)
 obtain⟨u,gc⟩:=Xp X G 0 qC
 obtain⟨d_zai,i_zai⟩:=i_zai
 obtain⟨d_zan,i_zan⟩:=i_zan
 obtain⟨d_zaf,i_zaf⟩:=i_zaf
 obtain⟨d_zn,i_zn⟩:=i_zn
 have tl_1:∀{a:Addr},Bc (.ref a::valTail)=true:=λ{a}=>by show Bc valTail=true;decide +kernel
 have tl_2:∀{a b:Addr},Bc (.ref a::.ref b::valTail)=true:=λ{a b}=>by show Bc valTail=true;decide +kernel
 have AO:a93 K mg ⟨f,d,u,f_zai,d_zai,f_zan,d_zan,f_zaf,d_zaf,f_zn,d_zn,c_zca,m_zca,e_zca,c_zcb,m_zcb,e_zcb,c_zbz,m_zbz,e_zbz,c_zbw,c_zbx,c_zbv,c_zby⟩:=⟨g,o_zca,g_zca,o_zcb,g_zcb,o_zbz,g_zbz,i_zai,i_zan,i_zaf,i_zn,a_zbw,kp_zbw,y_zbw.ecls (by decide +kernel),in_zbw,a_zbx,kp_zbx,y_zbx.ecls tl_1,in_zbx,a_zbv,x_zby,gc,Xs X G qZ,⟨⟨o_zbz.cl,nP.all⟩,o_zca.cl,nL.1,o_zcb.cl,nB.1,nB.2.1,x_zby.x.ecls tl_2,nN.1,nN.2.1,y_zbx.ecls tl_1,mp,mc,x_zby.x.kit y_zbx kx,x_zby.x.kit x_zby.x (by rw[bQ,beq_self_eq_true,ma]),y_zbx.kit y_zbx (by rw[bQ,beq_self_eq_true,ma]),y_zbx.kit x_zby.x ky,(by
  have m:some (some (aX (m_zca (0+12))))=some (some (.ref f_pk)):=(g_zca.get 12 (D:=Y3) rfl).2.at_.symm.trans a_pk
  injection m with m
  injection m with m
  show dH K (.ref (m_zca (0+12))) "__get__"=_
  rw[m]
  exact s_pk),(by
  have m:some (some (aX (m_zca (0+12))))=some (some (.ref f_pk)):=(g_zca.get 12 (D:=Y3) rfl).2.at_.symm.trans a_pk
  injection m with m
  injection m with m
  show f6 K (.ref (m_zca (0+12)))=_
  rw[m]
  exact t_pk),(by
  have m:=(g.get 17 (D:=D_zbd) rfl).1.m
  have m2:=d7 X G a_io
  have m3:some (aX (f (0+17)))=some (.ref f_io):=m.symm.trans m2
  injection m3 with m3
  injection m3 with m3
  show L8 K (f (0+17))=true
  rw[m3]
  exact lm_io)⟩⟩
 have gl:=g.get 39 (D:=D_zbp) rfl
 have e:fa=f (0+39):=by
  have m:=gl.1.m
  rw[hfa] at m
  injection m with m
  injection m
 subst e
 exact⟨_,_,λs v=>gl.2 s [v] rfl,λbase _ _=>bi8 X G AO⟩
def bz0{K:ac}{f:Addr}(h:L8 K f=true):∃c,dR K c 294=true:=by
 unfold L8 at h
 split at h
 .split at h
  .exact⟨_,h⟩
  .cases h
 .cases h
def sp0(K:ac):Sp:=λvs H Q _=>∃(a:Addr)(ns:List Int),vs=[.ref a]/\SqL K H a (ns.map V.int)/\ns.length<=63/\St0 H/\∀H',Q (.bl true) H'
def walk{l:kj}{q:aW}{loose:List Str}{XP:(Str->Option Value)->Heap->Prop}{YP:bC->Heap->Prop}{d:DefRec}{K:Params->ac}{fo:Addr}(hn:l.most=some 63)(hdf:d.params.defaults=[])(hY:∀(w:bC)(h:Heap),YP w h->(K w.params).In h/\h.get? 294=some (jb #[]))(h1:∀w:bC,bT (K w.params) mainGlobals "in_order"=some (some (.ref fo)))(h2:∀w:bC,bT (K w.params) mainGlobals "__builtins__"=some (some (.ref 4)))(h3:∀w:bC,L8 (K w.params) fo=true)(h4:∀w:bC,(K w.params).lookup 294=none)(h5:∀w:bC,(K w.params).lookup 4=none)(h6:∀w:bC,((K w.params).all λp=>!(p.2.cls==jt "list"))=true)(F:∀(w:bC)(mg:Str->Option Value)(fa:Addr)(h:Heap),(K w.params).In h->h.Ns mainGlobals mg->mg d.name=some (.ref fa) ->
   ∃(t:Adr)(fd:bh),(∀(s:aw)(u:Value),lZ s fd ⟨[u],[]⟩ [("_law_script", u)])/\∀base:Heap,(K w.params).In base->base.Ns mainGlobals mg->FnOk l.prog w (K w.params) mg base CX0 13 fa fd ["_law_script"] (Q3 (K w.params) t)) :
  PySem.W.WalkO q loose XP YP l.row.toRowW d [] (λf vs=>PySem.call f vs):=
 L2.walk_ofT (n:=63) (k:=13) (x := "_law_script") (Pt:=294) (bm:=4) (sp:=λw=>sp0 (K w.params)) (λ_ _=>aP) hn (by decide) hdf ⟨rfl,by decide,by decide⟩ hY (λw=>⟨bz0 (h3 w),h4 w,h5 w,h2 w,h6 w⟩) (λw mg fa h a b c=>let⟨t,fd,h1,h2⟩:=F w mg fa h a b c;⟨fd,h1,λbase x y=>(h2 base x y).imp λvs H Q E z=>z⟩) λw H a ns hl hs hS=>⟨a,ns,rfl,hS,hl,hs,λ_=>rfl⟩
end K34
open PySem PySem.W PyProof.Rows
end
set_option maxRecDepth 100000 in
theorem PySem.Challenge.cw_manyleaf_k34_alike_and_beneath_holds : PySem.Challenge.rw_manyleaf_k34_alike_and_beneath.Holds := by
 refine head_k34 ?_
 k_fill
 refine' K34.walk (l:=PySem.Challenge.rw_manyleaf_k34_alike_and_beneath) rfl rfl (λw h Y=>⟨PySem.W.km_in_of Y,PySem.W.km_tabs_of Y 294 (by decide)⟩) ?h1 ?h2 ?h3 ?h4 ?h5 ?h6 ?F
 case h1|h2=>intro w;k_is
 case h3|h4|h5|h6=>intro w;kernel_rfl
 case F=>
  intro w mg fa h KX G hmg
  refine' K34.all_mk KX G hmg ?o_zca ?o_zcb ?o_zbz ?a_zbw ?kp_zbw ?in_zbw ?y_zbw ?a_zbx ?kp_zbx ?in_zbx ?y_zbx ?a_zbv ?y_zbv ?x_zby ?i_zai ?i_zan ?i_zaf ?i_zn ?nP ?nL ?nB ?nN ?a_io ?mp ?mc ?a_pk ?s_pk ?t_pk ?kx ?ky ?lm_io ?qT ?qM_zca ?qM_zcb ?qM_zbz ?qC ?qZ
  case o_zca|o_zcb|o_zbz=>refine' L2.own_mk ?_ ?_ ?_ ?_ ?_ ?_ ?_ ?_ <;> try k_is
  case a_zbw|kp_zbw|in_zbw=>k_is
  case y_zbw=>refine' L2.xc_mk ?_ ?_ ?_ ?_ ?_ ?_ ?_ ?_ <;> try k_is
  case a_zbx|kp_zbx|in_zbx=>k_is
  case y_zbx=>refine' L2.xc_mk ?_ ?_ ?_ ?_ ?_ ?_ ?_ ?_ <;> try k_is
  case a_zbv=>k_is
  case y_zbv=>refine' L2.xc_mk ?_ ?_ ?_ ?_ ?_ ?_ ?_ ?_ <;> try k_is
  case x_zby=>refine' ⟨?_,?_,?_,L2.xc_mk ?_ ?_ ?_ ?_ ?_ ?_ ?_ ?_⟩ <;> try k_is
  case i_zai=>refine' L2.ini0 (λ_ _ _ _ _ _ us hl=>L2.len1 (λ_=>rfl) us hl) ?_ ?_ ?_ ?_ <;> try k_is
  case i_zan=>refine' L2.ini0 (λ_ _ _ _ _ _ us hl=>L2.len2 (λ_ _=>rfl) us hl) ?_ ?_ ?_ ?_ <;> try k_is
  case i_zaf|i_zn=>refine' L2.ini1 (λ_ _ _ _ _ _ _ us hl=>L2.len3 (λ_ _ _=>⟨_,rfl,rfl⟩) us hl) (λ_ _ _ _ _ _ _ us hl=>L2.len2 (λ_ _=>⟨_,rfl,rfl⟩) us (Nat.succ.inj hl)) (by decide) ?_ ?_ ?_ ?_ ?_ <;> try k_is
  case nP|nL|nB|nN=>(repeat' first|exact True.intro|refine' ⟨?_,?_⟩|fail) <;> try k_is
  case a_io|mp|mc|a_pk|s_pk|t_pk=>k_is
  case kx|ky=>decide +kernel
  case lm_io=>kernel_rfl
  case qT=>(repeat' first|exact True.intro|refine' ⟨⟨_,L2.top_mk ?_ ?_ ?_ ?_⟩,?_⟩|fail) <;> try k_is
  case qM_zca|qM_zcb|qM_zbz=>(repeat' first|exact True.intro|refine' ⟨⟨_,?_,L2.met_mk ?_ ?_ ?_ ?_⟩,?_⟩|fail) <;> try k_is
  case qC=>(repeat' first|exact True.intro|refine' ⟨L2.con_mk ?_ ?_,?_⟩|fail) <;> first|k_is|exact⟨_,rfl⟩|exact rfl|skip
  case qZ=>(repeat' first|exact True.intro|refine' ⟨?_,?_⟩|fail) <;> try k_is
#print axioms PySem.Challenge.cw_manyleaf_k34_alike_and_beneath_holds
