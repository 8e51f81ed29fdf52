import PyProof.Rows.All
import Wide.All
import OpenK.AllK
import Wide.FinOn
import PyProof.ToksMono
import Lean
import PyProof.EqAt
import PyProof.EqKinds
import PyProof.TupleCall
import PyProof.NeKinds
import PyProof.ZipIter
import PyProof.StrWalks
import PyProof.ConsumeWalk
import PyProof.ExcArgs
import PyProof.ExcBaseAll.ValueError
import KE.KIsAll
import PyProof.EnumFor
import PyProof.EnumMake
import PyProof.EnumStmt
import PyProof.Rows.EnumRows
import PyProof.DictWalks
import PyProof.Draws
import PyProof.Rows.SetFrom
import PyProof.DictItems
import KE.KDictList
import PyProof.TupleIter
import PyProof.RulesRaise
import PyProof.RulesTry
import PyProof.MeetsIn
import KE.KEqDict
import PyProof.StrOps2
import PyProof.StrCalls6
import PyProof.ListMulRoad
import PyProof.FactsAll.tuple
import KE.KDictOf
import KE.KSortTup
import KE.KSortKey
import KE.KItemsList
import PyProof.MeetsDictList
import PyProof.DictUpdate
import PyProof.Rows.Range3
import PyProof.Rows.ChunkLeaf
import KE.KRevIter
import PyProof.SliceMore
import PyProof.StationsW
import PyProof.PassesOwn
import PyProof.NsDelKeeps
import KE.KItem
import PyProof.RulesAssignMore
import PyProof.PureInt
import KE.KLam
import KE.KNestM
import PySem.Challenge.RW_manyleaf_k31_gathered_and_picked
set_option Elab.async false
set_option linter.all false
set_option compiler.extract_closed false
set_option bootstrap.genMatcherCode false
set_option maxRecDepth 100000
set_option maxHeartbeats 0
section
open PySem PySem.W PyProof.Rows
namespace PySem.W.Fast
def tw10003066721265626919:=()
def tw10117347742481977826:=()
def tw10225010032096413846:=()
def tw10295296231921199391:=()
def tw10328632981914976913:=()
def tw10738184300390466267:=()
def tw10755236912923167856:=()
def tw10884320370699352454:=()
def tw11012918606979019634:=()
def tw11057976328400229241:=()
def tw11269426953755517200:=()
def tw11384356742382368219:=()
def tw11450002063813377538:=()
def tw11519840294495002797:=()
def tw11550918239444336602:=()
def tw11561443768581285610:=()
def tw11927448863818621472:=()
def tw11982047875867748832:=()
def tw12107726362863555242:=()
def tw12192247525176510359:=()
def tw12513434476331379823:=()
def tw12611622943903613899:=()
def tw12774606476076067083:=()
def tw12959477246237617211:=()
def tw13023530654697347075:=()
def tw13175162258893276878:=()
def tw13313885114585757666:=()
def tw1340607299094485149:=()
def tw13553425544272386899:=()
def tw13665916941063453737:=()
def tw13745221154597362354:=()
def tw14029867881836238367:=()
def tw14303239958655818473:=()
def tw14760453079133557227:=()
def tw14781228742355784842:=()
def tw14864241362538516325:=()
def tw14966196447130393654:=()
def tw15047939038936439898:=()
def tw15078023771034004938:=()
def tw15293561582939946750:=()
def tw15427267395051468310:=()
def tw15527724210939283050:=()
def tw15531260891022283820:=()
def tw15588513664304942999:=()
def tw15689015267793092470:=()
def tw15937548415634684432:=()
def tw16368137343261175101:=()
def tw16560390593937733626:=()
def tw16715442347034812733:=()
def tw16784963693877062743:=()
def tw16905767763600235791:=()
def tw16930103452682785291:=()
def tw16993589555433708714:=()
def tw17433982518005790248:=()
def tw17440175456882724018:=()
def tw17444814227652798661:=()
def tw17738203338522667194:=()
def tw17812960643968304466:=()
def tw17994433695293248215:=()
def tw17994843673795957293:=()
def tw18012885856616451851:=()
def tw18294157562700764072:=()
def tw18294405010672832399:=()
def tw1871188023176857116:=()
def tw19943984268533161:=()
def tw2158164843685737636:=()
def tw2512835057037589622:=()
def tw2538611924571519210:=()
def tw2613316243337782761:=()
def tw2687105965768665724:=()
def tw2826523292519133846:=()
def tw3215746473897150521:=()
def tw3220878457321980192:=()
def tw3230439785168960525:=()
def tw3297170270967278333:=()
def tw3542122124427725843:=()
def tw3604603360351811424:=()
def tw3799450434860876131:=()
def tw3932476847781889830:=()
def tw4190780195863481572:=()
def tw4224216792178599201:=()
def tw4292369125187716334:=()
def tw4390509561441492878:=()
def tw4758555448224293361:=()
def tw488590994980698119:=()
def tw5200712867207814016:=()
def tw5243713776919051925:=()
def tw5324887542037549134:=()
def tw5465757438588624951:=()
def tw5562960888434260572:=()
def tw5711609168025620478:=()
def tw5814867414637385322:=()
def tw5884870686097136117:=()
def tw5891138932938853260:=()
def tw5945357908146996047:=()
def tw6190111942608042173:=()
def tw6279052206650537430:=()
def tw6429415030178712104:=()
def tw6881568882255082488:=()
def tw7116641030422937458:=()
def tw7233113095659280511:=()
def tw7306637892602376624:=()
def tw7384088623053303058:=()
def tw7680405600851805298:=()
def tw7937434319114988015:=()
def tw7997253861327546493:=()
def tw8066119389055964549:=()
def tw80696728154191953:=()
def tw8705685706425685226:=()
def tw8962738740583228114:=()
def tw9152435467403247504:=()
def tw9315018704199074965:=()
def tw9383799800360055075:=()
def tw9468070822328041464:=()
def tw9884482810887207746:=()
def tw8544564464851016691:=()
def tw15465353904178366972:=()
def tw17629546671953581096:=()
def tw4450076466422806664:=()
def tw10683733439930306525:=()
def tw13837821966953564241:=()
def tw15919134206806224446:=()
def tw12032930314433804876:=()
def tw11356476722942951769:=()
def tw10318822741113906604:=()
def tw14542664688499583062:=()
def tw10107771869349748036:=()
def tw9152923003071832747:=()
def tw12404954462843254267:=()
def tw17051946686969390137:=()
def tw11090209768781265607:=()
def tw12603860751116585276:=()
def tw1031546749019219572:=()
def tw6004675347838320642:=()
def tw12875997512281985548:=()
def tw11556065781156663637:=()
def tw16029985745951337619:=()
def tw5394934330711609721:=()
def tw4847846296781453731:=()
def tw15171580561658155453:=()
def tw17467019560215059921:=()
def tw5897888692369350333:=()
def tw15818384069410947527:=()
def tw6457776441916412166:=()
def tw14820665465822503434:=()
def tw2905384670927228808:=()
def tw203671316215253720:=()
def tw5913771934744493957:=()
def tw8019665907999639560:=()
def tw1741076532406031190:=()
def tw6739273430405783110:=()
def tw14946252530568425618:=()
def tw16195684417513872072:=()
def tw18021657621068505917:=()
def tw14858854626815267892:=()
def tw2224987792171254030:=()
def tw11205199538196635508:=()
def tw6176182229930783618:=()
def tw5410980565915055052:=()
def tw12416981175458822809:=()
def tw5730750698005856975:=()
def tw5797494414051673672:=()
def tw1641108202421106444:=()
def tw1019478400373816550:=()
def tw14481826883086263947:=()
def tw2345810889718382490:=()
def tw7065169830724569250:=()
def tw3798673670060969116:=()
def tw16539974944054876701:=()
def tw5996485683506093746:=()
def tw8155236311496291457:=()
def tw13682606530405647361:=()
def tw16325021966103585704:=()
def tw11016082232827524172:=()
def tw3308119474317367718:=()
def tw14318257397348100346:=()
def tw11750430889697046772:=()
def tw1522083899369458888:=()
def tw12644779928050060733:=()
def tw3822431322635505565:=()
def tw5977138695495148344:=()
def tw8371840091840305411:=()
def tw16790778660193034621:=()
def tw11690951310205306251:=()
def tw9713905974787730238:=()
def tw12061820480311006793:=()
def tw6071088977884905035:=()
def tw13822133997525980301:=()
def tw840215459118497482:=()
def tw12272998099047975811:=()
def tw7223583373295122102:=()
def tw14672576127422117371:=()
def tw2024139050943165782:=()
def tw15311839690002408608:=()
def tw14037376733590099743:=()
def tw4705117465566385660:=()
def tw2482944896631567597:=()
def tw13321834871900008446:=()
def tw17955039835408268125:=()
def tw2050153449875225255:=()
def tw7738450652981528996:=()
def tw9030223654740613720:=()
def tw9859597686047460743:=()
def tw16693085380801010927:=()
def tw8904049941889195588:=()
def tw1263997164077909280:=()
def tw9250008033281179199:=()
def tw5086252363631966669:=()
def tw9766980065193922632:=()
def tw9695864569202539124:=()
def tw15490130128801906600:=()
def tw10303915099596492193:=()
def tw2735691847653496564:=()
def tw10185918977943759325:=()
def tw12092218365380406642:=()
def tw5955616549949045847:=()
def tw12322048288707379189:=()
def tw7251750318436838790:=()
def tw14684259912174943291:=()
def tw1936274755840322929:=()
def tw13343479837847766555:=()
def tw17674928894449060488:=()
def tw6164595182442409632:=()
def tw2741758169876962990:=()
def tw16439273306228302289:=()
def tw13268047923619037544:=()
def tw4980039123883030881:=()
def tw5700180213517543379:=()
def tw17108463191934849151:=()
def tw1132286061208117896:=()
def tw17980039454580613489:=()
def tw12727847057495667952:=()
def tw8833579099600375287:=()
def tw7725035343795863641:=()
def tw14668452827212590295:=()
def tw3535360222723436855:=()
def tw14607784216012886348:=()
def tw6907637801559034599:=()
def tw4308771441873256384:=()
def tw15985371574042580007:=()
def tw8095714691184487137:=()
def tw2782159113867347826:=()
def tw17566878381876745040:=()
def tw17236608084411047277:=()
def tw16780862252132457555:=()
def tw15217375654008412876:=()
def tw7921885325532594390:=()
def tw15791763469905580225:=()
def tw5003031438383611735:=()
def tw15355601343529713592:=()
def tw12432584353844378535:=()
def tw3355008356668846237:=()
def tw16949079477616439175:=()
def tw3761199538151875803:=()
def tw2093164556345579535:=()
def tw3117180643183536189:=()
def tw12923138155216383527:=()
def tw5545255347617603886:=()
def tw14542026914888809634:=()
def tw14908791974697339044:=()
def tw3968559273194705309:=()
def tw13404884088790796206:=()
def tw5966131711017501909:=()
def tw5361981124164012731:=()
def tw15751599031043174634:=()
def tw7959820912313464849:=()
def tw10899940282396105052:=()
def tw10657543799948611480:=()
def tw18369938423003997281:=()
def tw876450225496489743:=()
def tw17991125745320043166:=()
def tw945350794993791333:=()
def tw7906779626574497839:=()
def tw1995677925748436600:=()
def tw3544044107232946269:=()
def tw17525782500362017740:=()
def tw11545602906385491798:=()
def tw8824297566840923048:=()
def tw12693830518899188403:=()
def tw2797409651616749208:=()
def tw12788132570939159668:=()
def tw446594910374230794:=()
def tw12553097903107694741:=()
def tw12088697985824889428:=()
def tw3017203236108377261:=()
def tw9321924805029126812:=()
def tw16992226657478776317:=()
def tw8266778268259022354:=()
def tw6011197023340686972:=()
def tw11510749077964606289:=()
def tw13223593253252015552:=()
def tw11147552950316883224:=()
def tw1137944697857732130:=()
end PySem.W.Fast
open_top head_k31 for PySem.Challenge.rw_manyleaf_k31_gathered_and_picked
end
noncomputable section
local macro_rules|`(tactic|trivial)=>`(tactic|first|exact Nat.le_refl _|exact Nat.le_add_right _ _|exact .inl rfl|exact .inr rfl|assumption|omega|(dsimp only;omega))
open Array renaming length_toList->bT,getElem?_toList->ck,getElem?_eq_some_iff->dR,getElem?_eq_getElem->eE,getElem?_setIfInBounds_self_of_lt->fT,perm_iff_toList_perm->i7,forIn_toList->jc,map->jr,getElem?_eq_none->j8
open Bool renaming false_ne_true->aA,and_eq_true->aV,eq_iff_iff->cq,or_eq_true->cB,false_eq_true->dn,beq_eq_decide_eq->fU,or_true->fV,not_eq_true'->ib,and_false->ip,and_eq_true_iff->iJ,and_true->iO,true_and->iP,eq_false_iff->js,false_or->jL,false_and->lG
open Classical renaming byContradiction->jd
open False renaming elim->bR
open ForInStep renaming yield->fX
open Function renaming comp_def->ju
open Iff renaming rfl->mN
open Int renaming toNat_natCast->aQ,emod_lt_of_pos->cg,emod_nonneg->cr,natCast_nonneg->gW,mul_le_mul_of_nonneg_left->iE,toNat_of_nonneg->iV,fdiv_eq_ediv_of_nonneg->i9,emod_add_mul_ediv->km,natCast_mul->kq,one_mul->lN
open LawfulBEq renaming eq_of_beq->b9
open List renaming length_map->ae,getElem?_eq_getElem->aj,mem_of_getElem?->ak,getElem?_map->al,mem_map->ar,size_toArray->au,getD_eq_getElem?_getD->av,map_append->aw,mem_append->ax,mem_cons_of_mem->ay,mem_cons->az,length_append->aB,map_map->aC,mem_append_right->aE,length_cons->aI,mem_singleton->aJ,take_length->aK,length_take->aN,mem_cons_self->aP,map_cons->aX,take_add_one->aY,range->aZ,all_eq_true->bg,getElem?_eq_some_iff->bh,length_reverse->bj,mem_append_left->bn,getElem?_append_right->bo,length_range->bx,mem_iff_getElem?->bz,mem_map_of_mem->bE,getElem?_cons_succ->bI,getElem?_append_left->bJ,foldl_cons->bM,nodup_cons->bN,length_singleton->bS,contains_cons->b5,all_cons->b7,mem_range->cf,append_nil->cu,mem_filter->cw,length->cy,getElem?_replicate->cL,isEmpty_iff->cO,not_mem_nil->cP,getElem?_set_self->cS,append_assoc->cT,map_congr_left->cU,pairwise_map->cV,getElem?_eq_none->c_,length_filter_le->df,getElem_inj->du,getElem_mem->dv,mem_reverse->dw,getElem?_set_ne->dA,length_eq_zero_iff->dB,nodup_append->dG,filter_eq_self->dI,take_sublist_take_left->dJ,getElem_map->dU,mem_of_mem_take->eI,take_sublist->eQ,toArray->fh,getElem?_cons_zero->fu,getElem?_range->fv,map_reverse->fM,replicate->fO,pairwise_cons->fS,find?_cons->fY,length_set->fZ,lookup->f6,foldl_append->gh,mem_iff_getElem->gx,any_eq_true->gG,cons_append->gH,filter_sublist->gL,any_cons->gX,filter_append->gY,map_take->gZ,mem_filterMap->g6,flatMap_cons->ie,Sublist->iu,all_map->iw,length_replicate->iy,map_nil->iz,take_append_drop->iA,lookup_cons->iF,mem_flatMap->iG,map_eq_cons_iff->iL,Pairwise->iQ,Perm->iW,filterMap_cons->iX,of_mem_zip->iY,range_succ->iZ,exists_mem_of_ne_nil->jf,nodup_nil->jg,pairwise_iff_getElem->jh,any_eq_false->jv,filter_congr->jw,filter_cons_of_neg->jN,filter_cons_of_pos->jO,pairwise_singleton->jP,length_drop->j1,take_of_length_le->j_,length_nil->ku,mem_of_mem_drop->lh,reverse_reverse->ll,lt_irrefl->lH,length_pos_iff->lO,getElem_range->lX,any_map->mz,map->nA
open List.Perm renaming refl->je
open List.Sublist renaming refl->eO
open Nat renaming le_refl->ag,le_of_ble_eq_true->aF,lt_of_lt_of_le->aL,ne_of_lt->aR,le_trans->aT,lt_of_le_of_lt->a_,zero_le->bu,le_add_right->bv,lt_succ_self->cF,le_succ->cW,zero_add->dm,succ_le_succ->dy,zero_testBit->dz,lt_succ_of_lt->eU,testBit_and->eV,lt_trans->fj,exists_testBit_of_ne_zero->fN,lt_irrefl->gj,pow_lt_pow_right->gy,le_of_lt->gO,ne_of_gt->gQ,sub_self->gR,testBit_eq_decide_div_mod_eq->hV,testBit_or->iq,pow_le_pow_right->iM,add_assoc->iR,lt_pow_two_of_testBit->ji,le_succ_of_le->jx,min_le_left->kx,testBit_xor->ky,eq_of_testBit_eq->ly,testBit_two_pow->lP,add_comm->mC,le_of_eq->mD,min_self->mE
open Ne renaming symm->bY
open Option renaming some->aW,isSome_iff_exists->cj,bind_some->cG,map_some->dL,toList_some->d7,map_eq_some_iff->fP,isSome_map->jz
open Option.some renaming inj->aG,injEq->ig
open Or renaming inl->eW
open PyProof.Rows renaming seqObj->bD,callWith_type1->bZ,get?_update_seq->eY,listUpdate_at->fI,boot_list->hX,callWith_builtin1->iC,seqEpoch_at->i4,tail_of_ItemOn->jn,boot_tuple->jR,keyKind'->jY,subscriptTail_builtinR->kc,AllBare->kg,boot_int->kD,boot_str->kE,listItems_at->kO,callWith_builtin_kwB->lC,envOfC->lJ,size_push'->mq,IntsAre->mO,bubble->nv,SortKind->nE,general'->nJ,IsTup->nR
open PyProof.Rows.F renaming plain_set_update_loop->gU,entry_set_update_loop->jM
open PyProof.Rows.SortSt renaming mk'->ml
open PySem renaming wpAny_bind->af,Shared->am,wpAny_pure->aq,Program->aO,wpAny->aS,Builtin->a9,FuncData->bb,Spec->bi,Around->bq,World->bw,wpAny_holding->bC,wpAny_with_toks->bF,wpAny_mono->bH,wpAny_loadPart_at->bL,sizeLine_eq->bQ,mem_of_lookup->bV,wpAny_typeNameOfWhole_keyiter->b_,bootBuiltins->cz,wpAny_Call_Name_kw->cA,compareOp->cE,wpAny_isSubtype_exc->cH,wpAny_typeNameOf_keyiter->cJ,NameKind->cR,sysModules->cY,starEach->c9,assignEach->dq,wpAny_newObj_type->dH,binaryOp->dQ,wpAny_call->dX,wpAny_call_entry->dY,codeAny_mono->d_,wpAny_standAt->eh,codeAny_call_builtin->eK,rawInt->eZ,wpAny_passesOwn->e_,wpAny_truthy_bool->ff,Within->fm,wpAny_callSpecial?_slot->fJ,excClassObj->gd,foldedSetIterable->gr,wpAny_attempt->gu,wpAny_pyIter_dict->gv,wpAny_setField->gE,codeAny->gM,wpAny_field->gN,call_meetsIn->gT,PassesOwn->g7,behindInMarks->g9,codeAny_builtin->g_,wpAny_newList->hJ,wpAny_dictEntries->im,wpAny_pyIter_enum->io,checkBuiltinCall->iH,Paired->iN,bindArgs->iT,wpAny_dictEpoch->i5,wpAny_execs_nil->i6,wpAny_letOwnedTupleGo_enum->ja,wpAny_newFunctionEnv_cells->jb,codeAny_call_builtin_code->jm,wpAny_check_type_call_sub->jo,wpAny_fieldsOf->jp,wpAny_loadPart->jq,builtinsNs->jG,swapsWith->jH,typeLookup->jI,wpAny_getItem_list_slice->jJ,wpAny_pyIter_list->jK,attributeBase->jW,codeAny_call_builtin_at->jX,keywordEach->jZ,relabel->j0,noFill_tuple_add->j3,pastItsLine_dict->j4,wpAny_isInstance->j5,wpAny_lookBehind->j6,wpAny_madeBy_exc->j7,wpAny_pyNext_dict_item->ke,backTo->kJ,codeAny_of_tree->kK,letOwnedTupleGo->kM,wpAny_isOneOf_keyiter->kQ,wpAny_loadPart'->kU,wpAny_specialOf->kX,GenState->kZ,call_meets->k9,closureFor->k_,intBits_le_iff->lB,wpAny_pyIter_keyiter->lE,wpAny_pyIter_revIter->lF,firstArgMember->lK,wpAny_newTuple->lL,bindSpecial->lV,lastMarks->ma,seq_tuple_add->mf,wpAny_evalAll_cons->mh,BindsTo->mj,getAttr->mn,notedBy->mo,valueAt->mr,concat_meets->mG,wpAny_nsSet1->mH,backToKw->mI,setField->mJ,CmpOp->mK,DictEntry->mL,Keyword->mP,Fin->mQ,Result->mR,callerA->mS,cellsFrom->mT,eqIsQuiet->mV,noteFrame->mW,onTheHeap->mX,pyIter->mY,pyNext->mZ,setAttr->m_,setFlight->ng,wpAny_of_eq->nh,wpAny_throw->nj,assign->nu,Operator->nC,collect->nH,frameOf->nI,unaryOp->nQ,Model->nS,Walks->nU
open PySem.Around renaming under_plainId->iI,under->mw
open PySem.Builtin renaming bitNot->ce,bitAnd->cC,bitOr->c7
open PySem.Builtin.Dict renaming showsAll->kh
open PySem.Builtin.Int renaming intBits->iU
open PySem.Builtin.List renaming listFitsIndex->gw,listTooLong->jt
open PySem.Builtin.SmallTypes renaming nextOf->cZ
open PySem.Builtin.Tuple renaming tupleHashOf->cb
open PySem.Calls renaming spliced_cons->fR,spliced_nil->ge,Name_function_global->i8,callWith_builtin->j9
open PySem.Code renaming quiet_builtin->dZ,isFrame->my
open PySem.EntryCells renaming newEntry->lM
open PySem.F renaming slot_dict_keyiterator_next->bW,plainAttrs_list->dD,excBase_ValueError->dS,slot_dict_get->d8,args_dict_keyiterator_next_1->fg,plainAttrs_dict->fF,entry_dict_keyiterator_next->fK,entry_dict_get->fQ,called_set->fW,args_tuple_add_2->gS,entry_tuple_add->g8,slot_tuple_add->hZ,slot_tuple_hash->ic,slot_dict_setdefault->iS,slot_dict_update->jA,slot_list_insert->jB,args_dict_get_2->jS,args_dict_get_3->jT,slot_enumerate_next->kj,slot_dict_pop->kF
open PySem.Heap renaming get?_push_of_some->ah,get?_push_size->aD,lt_size->aH,SameBut->bO,get?_update_other->bX,size_push->c8,get?_update_self->d6,get?_none_of_le->iK,ExtBut->mM
open PySem.Heap.IsSliceOf renaming new->lW
open PySem.Heap.SameBut renaming update->bU
open PySem.NameKind renaming free->fw
open PySem.Obj renaming mapSeq->bG,mapFields->fE,isFreed_of_fields->iB,data_mapFields->lY
open PySem.Paired renaming length->jQ
open PySem.PassesOwn renaming never->kC
open PySem.Sem renaming wp_bind'->mF
open PySem.SeqAt renaming EqAt->bB,RcNeAt->f_,RcAt->ij
open PySem.SeqAt.EqAt renaming int_str->l7,str_int->l9
open PySem.SeqAt.RcAt renaming tuples->jE
open PySem.SeqAt.RcNeAt renaming lists_lengths->i_
open PySem.Str renaming empty->dP,ofString->iD
open PySem.Value renaming ref->ba,none->bP,builtin->dE,type->jF,isStrOf->jV,isStrOf_shape->lU
open PySem.W renaming Frag->ac,findIn->aU,keepIn->be,nsIn->bK,fnOf->cx,kitOne->cD,specialIn->cI,kia_one->cM,mroIn->cN,isFn->cQ,emptyDict->cX,codeIn->dF,instObj->dM,makesIn->dN,takesIn->dO,codeHdIn->dW,mg_of->d9,looks_findIn->eJ,plainGet_of->fH,kas_ask->f9,InstAt->gC,handedIn->gI,plainGet->gJ,cellsFrom_some->h_,hasDictIn->ii,copiedNames->i0,kas_place->i3,lookIn->jj,tabObj->jk,methodObj->jC,plainOver->jD,KatTups->kG,OpenLaw->kH,takerIn->kI,kas_rev->kL,handedOut_of->lA,kla_fn->lI,codeHd_of_K->lQ,findObj_own->lR,looks_mroIn->lS,looks_find->lZ,kas_desc->l_,clsIn->mU,kas_asc->nK
open Sum renaming inr->cK,inl->lT
open Sum.inr renaming inj->jU
open True renaming intro->aM
namespace L2
open PySem PySem.Spec PyProof.Rows
abbrev Key:=Sum Int Str
def Ot:Key->Value->Bool
 |.inl k,v=>Value.isInt k v
 |.inr x,v=>jV x v
def bx9(w:bw):Key->Int
 |.inl k=>hashInt k
 |.inr x=>hashStr w x
theorem A0:∀{k} {v},Ot k v=true->(∃i t,k=lT i/\v=Value.int i t)\/(∃x t,k=cK x/\v=Value.str x t)
 | .inl i,v,h=>by
  obtain⟨t,e⟩:=Value.isInt_shape h
  exact .inl ⟨i,t,rfl,e⟩
 | .inr x,v,h=>by
  obtain⟨t,e⟩:=lU h
  exact .inr ⟨x,t,rfl,e⟩
def Zw(i:Int)(t:Tok):Ot (.inl i) (.int i t)=true:=by simp[Ot,Value.isInt]
def Zx(x:Str)(t:Tok):Ot (.inr x) (.str x t)=true:=by simp[Ot,jV]
def bh5(a b:Int):decide ((lT a:Key)=lT b)=(a==b):=by
 by_cases e:a=b
 .subst e;simp
 .have h:¬ (lT a:Key)=lT b:=λq=>e (Sum.inl.inj q)
  rw[decide_eq_false h]
  exact(beq_eq_false_iff_ne.mpr e).symm
def bh9(a b:Str):decide ((cK a:Key)=cK b)=decide (a=b):=by
 by_cases e:a=b
 .subst e;simp
 .have h:¬ (cK a:Key)=cK b:=λq=>e (jU q)
  rw[decide_eq_false h,decide_eq_false e]
def bh6(a:Int)(b:Str):decide ((lT a:Key)=cK b)=false:=decide_eq_false (λq=>nomatch q)
def bh8(a:Str)(b:Int):decide ((cK a:Key)=lT b)=false:=decide_eq_false (λq=>nomatch q)
def Bd(prog:aO)(w:bw):PySem.KeyKind prog w Key where
 is:=Ot
 hash:=bx9 w
 inj:=λv a b ha hb=>by
  rcases A0 ha with⟨i,t,rfl,rfl⟩|⟨x,t,rfl,rfl⟩
  .rcases A0 hb with⟨j,u,rfl,e⟩|⟨y,u,rfl,e⟩
   .injection e with e1 _;rw[e1]
   .exact nomatch e
  .rcases A0 hb with⟨j,u,rfl,e⟩|⟨y,u,rfl,e⟩
   .exact nomatch e
   .injection e with e1 _;rw[e1]
 byValue:=λk v h=>by
  rcases A0 h with⟨i,t,rfl,rfl⟩|⟨x,t,rfl,rfl⟩ <;> rfl
 pyHash:=λhv h=>by
  rcases A0 hv with⟨i,t,rfl,rfl⟩|⟨x,t,rfl,rfl⟩
  .exact wpAny_pyHash_int h
  .exact wpAny_pyHash_str h
 eqBool:=λhu hv h=>by
  rcases A0 hu with⟨i,t,rfl,rfl⟩|⟨x,t,rfl,rfl⟩
  .rcases A0 hv with⟨j,u,rfl,rfl⟩|⟨y,u,rfl,rfl⟩
   .rw[bh5] at h;exact wpAny_eqBool_int h
   .rw[bh6] at h;exact l7 i t y u _ _ _ _ h
  .rcases A0 hv with⟨j,u,rfl,rfl⟩|⟨y,u,rfl,rfl⟩
   .rw[bh8] at h;exact l9 x t j u _ _ _ _ h
   .rw[bh9] at h;exact wpAny_eqBool_str h
 «strs»:=λk x t v h=>by
  rcases A0 h with⟨i,u,rfl,e⟩|⟨y,u,rfl,e⟩
  .exact nomatch e
  .injection e with e1 _
   subst e1
   cases v <;> rfl
def Td(prog:aO)(w:bw)(i:Int)(t:Tok):(Bd prog w).is (.inl i) (.int i t)=true:=Zw i t
def Te(prog:aO)(w:bw)(x:Str)(t:Tok):(Bd prog w).is (.inr x) (.str x t)=true:=Zx x t
inductive V where
 |non|bl (b:Bool)|int (i:Int)|str (x:Str)|ref (a:Addr)|ty (n:String)
 deriving DecidableEq
def RelV:V->Value->Prop
 |.non,u=>u=bP
 |.bl b,u=>u=Value.bool b
 |.int i,u=>∃t,u=Value.int i t
 |.str x,u=>∃t,u=Value.str x t
 |.ref a,u=>u=ba a
 |.ty n,u=>u=jF n
def V.pl(_:V):Bool:=true
abbrev Vals:List V->List Value->Prop:=iN RelV
theorem Vals.length{xs:List V}{us:List Value}(r:Vals xs us):xs.length=us.length:=jQ r
theorem Vals.get:∀{xs} {us}{i:Nat}{x:V},Vals xs us->xs[i]?=some x -> ∃u,us[i]?=some u/\RelV x u
 |_,_,_,_,.nil,e=>by simp at e
 |_,_,0,_,.cons r _,e=>by simp at e;subst e;exact⟨_,rfl,r⟩
 | _,_,i+1,x,.cons _ t,e=>by
  obtain⟨u,h1,h2⟩:=Vals.get t (e)
  exact⟨u,by simpa using h1,h2⟩
theorem Vals.append:∀{xs ys} {us ws},Vals xs us->Vals ys ws->Vals (xs++ys) (us++ws)
 |_,_,_,_,.nil,s=>s
 |_,_,_,_,.cons r t,s=>.cons r (Vals.append t s)
theorem Vals.take:∀{xs} {us} n,Vals xs us->Vals (xs.take n) (us.take n)
 |_,_,0,_=>.nil
 |_,_,_+1,.nil=>.nil
 |_,_,n+1,.cons r t=>.cons r (Vals.take n t)
theorem Vals.drop:∀{xs} {us} n,Vals xs us->Vals (xs.drop n) (us.drop n)
 |_,_,0,r=>r
 |_,_,_+1,.nil=>.nil
 |_,_,n+1,.cons _ t=>Vals.drop n t
def RelO:Option V->Option Value->Prop
 |some v,some u=>RelV v u
 |none,none=>True
 |_,_=>False
def KV{κ:Type}:List (κ×V)->List (κ×Value)->Prop:=iN λp q=>p.1=q.1/\RelV p.2 q.2
def kV:Key->V
 |.inl i=>.int i
 |.inr x=>.str x
def B0:V->Bool
 |.non=>true
 |.bl _=>true
 |.int _=>true
 |.str _=>true
 |_=>false
def eqV:V->V->Bool
 |.non,.non=>true
 |.bl a,.bl b=>a==b
 |.bl a,.int b=>(if a then 1 else 0)==b
 |.int a,.bl b=>a==(if b then 1 else 0)
 |.int a,.int b=>a==b
 |.str a,.str b=>a==b
 |_,_=>false
def Px{A:bq}{s:am}{y x:V}{u v:Value}(ry:RelV y u)(rx:RelV x v)(fy:B0 y=true)(fx:B0 x=true):bB A s u v (eqV y x):=by
 cases y with
 |non=>
  cases ry
  cases x with
  |non=>cases rx;exact SeqAt.EqAt.same _
  |bl b=>cases rx;exact SeqAt.EqAt.none_bool b
  |int b=>obtain⟨t,rfl⟩:=rx;exact SeqAt.EqAt.none_int b t
  |str b=>obtain⟨t,rfl⟩:=rx;exact SeqAt.EqAt.none_str b t
  |_=>exact absurd (fx) aA
 |bl a=>
  cases ry
  cases x with
  |non=>cases rx;exact SeqAt.EqAt.bool_none a
  |bl b=>cases rx;exact SeqAt.EqAt.bool_bool a b
  |int b=>obtain⟨t,rfl⟩:=rx;exact SeqAt.EqAt.bool_int a b t
  |str b=>obtain⟨t,rfl⟩:=rx;exact SeqAt.EqAt.bool_str a b t
  |_=>exact absurd (fx) aA
 |int a=>
  obtain⟨t',rfl⟩:=ry
  cases x with
  |non=>cases rx;exact SeqAt.EqAt.int_none a t'
  |bl b=>cases rx;exact SeqAt.EqAt.int_bool a t' b
  |int b=>obtain⟨t,rfl⟩:=rx;exact SeqAt.EqAt.int_int a t' b t
  |str b=>obtain⟨t,rfl⟩:=rx;exact l7 a t' b t
  |_=>exact absurd (fx) aA
 |str a=>
  obtain⟨t',rfl⟩:=ry
  cases x with
  |non=>cases rx;exact SeqAt.EqAt.str_none a t'
  |bl b=>cases rx;exact SeqAt.EqAt.str_bool a t' b
  |int b=>obtain⟨t,rfl⟩:=rx;exact l9 a t' b t
  |str b=>obtain⟨t,rfl⟩:=rx;exact SeqAt.EqAt.str_str a t' b t
  |_=>exact absurd (fx) aA
 |_=>exact absurd (fy) aA
inductive TK where
 |at_ (k:Key)
 |tup (l:List TK)
noncomputable instance:DecidableEq TK:=λ_ _=>Classical.propDecidable _
mutual
def TkIs(P:aO)(w:bw)(h:Heap):TK->Value->Prop
 |.at_ k,v=>(Bd P w).is k v=true
 |.tup l,v=>∃a ψ,v=.ref a/\nR h a ψ/\TksAre P w h l ψ.toList
def TksAre(P:aO)(w:bw)(h:Heap):List TK->List Value->Prop
 |[],vs=>vs=[]
 |k::ks,vs=>∃v r,vs=v::r/\TkIs P w h k v/\TksAre P w h ks r
end
mutual
def F4(w:bw):TK->Int
 |.at_ k=>bx9 w k
 |.tup l=>reduceHash (cb (Bh w l))
def Bh(w:bw):List TK->List Int
 |[]=>[]
 |k::ks=>F4 w k::Bh w ks
end
mutual
def Dq:TK->Nat
 |.at_ _=>1
 |.tup l=>By l+1
def By:List TK->Nat
 |[]=>0
 |k::ks=>Dq k+By ks
end
mutual
def Ax:TK->Nat
 |.at_ _=>0
 |.tup l=>Cm l+1
def Cm:List TK->Nat
 |[]=>0
 |k::ks=>Nat.max (Ax k) (Cm ks)
end
theorem E3:∀{l} {k},k∈l->Ax k<=Cm l
 |[],_,h=>by cases h
 | x::l,k,h=>by
  rcases List.mem_cons.mp h with rfl|h
  .exact Nat.le_max_left _ _
  .exact aT (E3 h) (Nat.le_max_right _ _)
theorem Im(w:bw):∀a b,Bh w (a++b)=Bh w a++Bh w b
 |[],_=>by unfold Bh;rfl
 | x::a,b=>by
  show F4 w x::Bh w (a++b)=F4 w x::(Bh w a++Bh w b)
  rw[Im w a b]
theorem Ik:∀a b,By (a++b)=By a+By b
 |[],_=>by show By _=0+_;rw[dm];rfl
 | x::a,b=>by
  show Dq x+By (a++b)=Dq x+By a+By b
  rw[Ik a b,iR]
section
variable {P:aO}{w:bw}
def ac5(k:TK):∀{A} {E} {s} {v} {Q},A.units+Ax k<cLine->TkIs P w s.heap k v->Q (F4 w k) {s with toks:=s.toks+Dq k}->aS (model P w) A (pyHash v) Q E s:=by
 refine TK.rec (motive_1:=λk=>∀{A} {E} {s} {v} {Q},A.units+Ax k<cLine->TkIs P w s.heap k v->Q (F4 w k) {s with toks:=s.toks+Dq k}->aS (model P w) A (pyHash v) Q E s)
  (motive_2:=λl=>∀k∈l,∀{A} {E} {s} {v} {Q},A.units+Ax k<cLine->TkIs P w s.heap k v->Q (F4 w k) {s with toks:=s.toks+Dq k}->aS (model P w) A (pyHash v) Q E s)
  ?_ ?_ ?_ ?_ k
 .intro k A E s v Q _ hk h
  exact(Bd P w).pyHash hk h
 .intro l ih A E s v Q hu hk h
  obtain⟨a,ψ,rfl,ht,hi⟩:=hk
  have hT:=ht.typeIs
  obtain⟨o,ho,hc,n,hd⟩:=ht
  have hu:A.units+(Cm l+1)<cLine:=hu
  first|unfold pyHashByItsType|skip
  first|refine af (wpAny_cRoomFor_or (.inr (by omega)) ?_)|skip
  refine af (kX hT F.slot_tuple_hash.lookup ?_)
  rw[if_neg (by rw[beq_builtin_none];exact aA)]
  refine af (kX hT F.slot_tuple_hash.lookup ?_)
  refine af (wpAny_callSpecialIfBoundUnlessNone?_slot hT ic (dY ic hT F.entry_tuple_hash ?_ (F.args_tuple_hash_1 _)))
  show aS _ _ (Builtin.Tuple.tupleItemsOf (.ref a) >>= _) _ _ s
  refine af (wpAny_tupleItemsOf ho hd ?_)
  refine af ?_
  rw[<- jc]
  refine wpAny_forIn_list _
   (λrest b s'=>∃done left,l=done++left/\TksAre P w s.heap left rest/\b.toList=Bh w done/\s'={s with toks:=s.toks+By done})
   _ ?_ ?_ _ _ ⟨[],l,rfl,hi,rfl,rfl⟩
  .rintro x rest b s' ⟨done,left,rfl,hl,hb,rfl⟩
   cases left with
   |nil=>unfold TksAre at hl;cases hl
   |cons k ks=>
    obtain⟨v,r,e,h1,hl'⟩:=hl
    cases e
    have hm:k∈done++k::ks:=aE _ aP
    have dk:=E3 hm
    have dr:By (done++[k])=By done+Dq k:=by rw[Ik];show _+(Dq k+0)=_;omega
    have hh:Bh w (done++[k])=Bh w done++[F4 w k]:=by rw[Im];rfl
    refine af (ih k hm (by first|omega|(show A.units+1+Ax k<cLine;omega)) h1 ?_)
    first
     |exact aq ⟨done++[k],ks,by simp,hl',by rw[hh];simp[hb],by rw[dr];simp[iR]⟩
     |exact af (aq (aq ⟨done++[k],ks,by simp,hl',by rw[hh];simp[hb],by rw[dr];simp[iR]⟩))
  .rintro b s' ⟨done,left,rfl,hl,hb,rfl⟩
   cases left with
   |cons k ks=>unfold TksAre at hl;obtain⟨v,r,e,_⟩:=hl;cases e
   |nil=>
    rw[cu] at h
    show aS _ _ (retInt (cb b.toList)) _ _ _
    rw[hb]
    refine wpAny_ret_mkInt ?_
    show aS _ _ (if(decide (-2^63<=cb (Bh w done))&&decide (cb (Bh w done)<2^63))=true then _ else _) Q E _
    have h:Q (reduceHash (cb (Bh w done))) {s with toks:=s.toks+(By done+1)}:=h
    unfold reduceHash at h
    by_cases hr:(decide (-2^63<=cb (Bh w done))&&decide (cb (Bh w done)<2^63))=true
    .rw[if_pos hr]
     rw[if_pos hr] at h
     exact aq (by simpa [iR] using h)
    .rw[if_neg hr]
     rw[if_neg hr] at h
     exact af (wpAny_rule (aq (by simpa [iR] using h)))
 .exact λk h=>by cases h
 .intro k l h1 h2 x hx
  rcases List.mem_cons.mp hx with rfl|hx
  .exact h1
  .exact h2 x hx
theorem TkIs.inj{h:Heap}(x:TK):∀{y} {v},TkIs P w h x v->TkIs P w h y v->x=y:=by
 refine TK.rec (motive_1:=λx=>∀{y} {v},TkIs P w h x v->TkIs P w h y v->x=y) (motive_2:=λl=>∀{l'} {vs},TksAre P w h l vs->TksAre P w h l' vs->l=l') ?_ ?_ ?_ ?_ x
 .intro k y v h1 h2
  cases y with
  |at_ k'=>unfold TkIs at h2;rw[(Bd P w).inj v k k' h1 h2]
  |tup l=>
   obtain⟨a,χ,rfl,_⟩:=h2
   rcases A0 h1 with⟨i,t,_,e⟩|⟨z,t,_,e⟩ <;> cases e
 .intro l ih y v h1 h2
  obtain⟨a,χ,rfl,t1,i1⟩:=h1
  cases y with
  |at_ k'=>
   rcases A0 h2 with⟨i,t,_,e⟩|⟨z,t,_,e⟩ <;> cases e
  |tup l'=>
   obtain⟨b,its',e,t2,i2⟩:=h2
   cases e
   obtain⟨o,ho,_,n,hd⟩:=t1
   obtain⟨o',ho',_,n',hd'⟩:=t2
   rw[ho] at ho'
   cases ho'
   rw[hd] at hd'
   cases hd'
   rw[ih i1 i2]
 .intro l' vs h1 h2
  subst h1
  cases l' with
  |nil=>rfl
  |cons k r=>unfold TksAre at h2;obtain⟨v,r',e,_⟩:=h2;cases e
 .intro k l ih1 ih2 l' vs h1 h2
  obtain⟨v,r,rfl,q1,q2⟩:=h1
  cases l' with
  |nil=>unfold TksAre at h2;cases h2
  |cons k' l'=>
   obtain⟨v',r',e,q3,q4⟩:=h2
   cases e
   rw[ih1 q1 q3,ih2 q2 q4]
def TkIs.up{h h':Heap}(k:∀a χ,nR h a χ->nR h' a χ)(x:TK):∀{v},TkIs P w h x v->TkIs P w h' x v:=by
 refine TK.rec (motive_1:=λx=>∀{v},TkIs P w h x v->TkIs P w h' x v) (motive_2:=λl=>∀{vs},TksAre P w h l vs->TksAre P w h' l vs) ?_ ?_ ?_ ?_ x
 .intro k v q;unfold TkIs at q ⊢;exact q
 .intro l ih v q
  obtain⟨a,χ,e,t,i⟩:=q
  exact⟨a,χ,e,k a χ t,ih i⟩
 .intro vs q;unfold TksAre at q ⊢;exact q
 .intro x l h1 h2 vs q
  obtain⟨v,r,e,q1,q2⟩:=q
  exact⟨v,r,e,h1 q1,h2 q2⟩
theorem TksAre.len{h:Heap}:∀{l} {vs},TksAre P w h l vs->vs.length=l.length
 |[],vs,q=>by unfold TksAre at q;rw[q];rfl
 | k::l,vs,q=>by
  obtain⟨v,r,rfl,_,q2⟩:=q
  rw[aI,aI,TksAre.len q2]
theorem TksAre.get{h:Heap}:∀{l} {vs}{j:Nat}{v:Value},TksAre P w h l vs->vs[j]?=some v -> ∃k,l[j]?=some k/\TkIs P w h k v
 |[],vs,j,v,q,e=>by unfold TksAre at q;rw[q] at e;simp at e
 | k::l,vs,j,v,q,e=>by
  obtain⟨v',r,rfl,q1,q2⟩:=q
  cases j with
  |zero=>
   have:v'=v:=by simpa using e
   exact⟨k,rfl,this▸q1⟩
  |succ j=>
   obtain⟨k',e1,e2⟩:=TksAre.get q2 (show r[j]?=some v by simpa using e)
   exact⟨k',by simpa using e1,e2⟩
def P6{k:Key}{v:Value}(h:(Bd P w).is k v=true):RelV (kV k) v:=by
 rcases A0 h with⟨i,t,rfl,rfl⟩|⟨x,t,rfl,rfl⟩ <;> exact⟨t,rfl⟩
def P5(k:Key):B0 (kV k)=true:=by cases k <;> rfl
def ah0(k k':Key):decide (TK.at_ k=TK.at_ k')=eqV (kV k) (kV k'):=by
 have e:(TK.at_ k=TK.at_ k')↔k=k':=⟨λh=>by injection h,λh=>by rw[h]⟩
 rw[cq,decide_eq_true_iff,e]
 cases k with
 |inl i=>
  cases k' with
  |inl j=>show _↔(i==j)=true;rw[beq_iff_eq];exact⟨λh=>by injection h,λh=>by rw[h]⟩
  |inr y=>exact⟨λh=>(nomatch h),λh=>absurd (h) aA⟩
 |inr x=>
  cases k' with
  |inl j=>exact⟨λh=>(nomatch h),λh=>absurd (h) aA⟩
  |inr y=>show _↔(x==y)=true;rw[beq_iff_eq];exact⟨λh=>by injection h,λh=>by rw[h]⟩
def al0{l l':List TK}(z:TK)(h:l.length=l'.length):decide (l=l')=(aZ l.length).all λj=>decide (l.getD j z=l'.getD j z):=by
 rw[cq,decide_eq_true_iff,bg]
 refine⟨λe j _=>by rw[e];exact decide_eq_true rfl,λq=>List.ext_getElem h λi h1 h2=>?_⟩
 have:=of_decide_eq_true (q i (List.mem_range.mpr h1))
 rwa[av,av,aj h1,aj h2] at this
def b86(x:TK):∀{y} {A} {s} {u v},A.units+Ax x<cLine->TkIs P w s.heap x u->TkIs P w s.heap y v->bB A s u v (decide (x=y)):=by
 refine TK.rec (motive_1:=λx=>∀{y} {A}{s:am}{u v:Value},A.units+Ax x<cLine->TkIs P w s.heap x u->TkIs P w s.heap y v->bB A s u v (decide (x=y)))
  (motive_2:=λl=>∀x∈l,∀{y:TK}{A:bq}{s:am}{u v:Value},A.units+Ax x<cLine->TkIs P w s.heap x u->TkIs P w s.heap y v->bB A s u v (decide (x=y))) ?_ ?_ ?_ ?_ x
 .intro k y A s u v hu h1 h2
  have hu:=hu
  cases y with
  |at_ k'=>unfold TkIs at h2;rw[ah0];exact Px (P6 h1) (P6 h2) (P5 k) (P5 k')
  |tup l=>
   obtain⟨a,χ,rfl,t,_⟩:=h2
   rw[decide_eq_false (λz=>by cases z)]
   rcases A0 h1 with⟨i,t',rfl,rfl⟩|⟨x,t',rfl,rfl⟩
   .exact .int_tuple i t' t (by omega)
   .exact .str_tuple x t' t (by omega)
 .intro l ih y A s u v hu h1 h2
  have hd:A.units+(Cm l+1)<cLine:=hu
  have h0:=h1
  obtain⟨a,χ,rfl,t1,i1⟩:=h1
  cases y with
  |at_ k'=>
   rw[decide_eq_false (λz=>by cases z)]
   rcases A0 h2 with⟨i,t',rfl,rfl⟩|⟨x,t',rfl,rfl⟩
   .exact .tuple_int i t' t1 (by omega)
   .exact .tuple_str x t' t1 (by omega)
  |tup l'=>
   have h3:=h2
   obtain⟨b,its',rfl,t2,i2⟩:=h2
   by_cases e:a=b
   .subst e
    rw[decide_eq_true (TkIs.inj _ h0 h3)]
    exact .same _
   refine .of_refs e ?_
   have e1:=i1.len
   have e2:=i2.len
   have T:=jE (A:=A) (e:=λj=>decide (l.getD j (.tup [])=l'.getD j (.tup []))) t1 t2 (by omega) λj q1 q2=>by
    obtain⟨k1,g1,r1⟩:=i1.get (j:=j) (v:=χ[j]) (by simp[q1])
    obtain⟨k2,g2,r2⟩:=i2.get (j:=j) (v:=its'[j]) (by simp[q2])
    have hm:=ak g1
    have:=E3 hm
    rw[av,av,g1,g2]
    exact ih k1 hm (by show A.units+1+Ax k1<cLine;omega) r1 r2
   have dt:decide (TK.tup l=TK.tup l')=decide (l=l'):=by
    rw[cq,decide_eq_true_iff,decide_eq_true_iff]
    exact⟨λh=>by injection h,λh=>by rw[h]⟩
   rw[dt]
   have s1:χ.size=l.length:=by rw[<- e1];simp
   have s2:its'.size=l'.length:=by rw[<- e2];simp
   rw[s1,s2] at T
   by_cases hl:l.length=l'.length
   .rw[al0 (.tup []) hl]
    rw[hl,mE,beq_self_eq_true,iO] at T
    rw[hl]
    exact T
   .rw[decide_eq_false λz=>hl (by rw[z])]
    rw[beq_eq_false_iff_ne.mpr hl,ip] at T
    exact T
 .exact λk h=>by cases h
 .intro k l h1 h2 x hx
  rcases List.mem_cons.mp hx with rfl|hx
  .exact h1
  .exact h2 x hx
def av6(x:TK):∀{n} {A} {E} {s} {v} {Q},Ax x<=n->TkIs P w s.heap x v->Q true s->aS (model P w) A (mV n v) Q E s:=by
 refine TK.rec (motive_1:=λx=>∀{n} {A} {E}{s:am}{v:Value}{Q:Bool->am->Prop},Ax x<=n->TkIs P w s.heap x v->Q true s->aS (model P w) A (mV n v) Q E s)
  (motive_2:=λl=>∀x∈l,∀{n:Nat}{A:bq}{E:Value->am->Prop}{s:am}{v:Value}{Q:Bool->am->Prop},Ax x<=n->TkIs P w s.heap x v->Q true s->aS (model P w) A (mV n v) Q E s) ?_ ?_ ?_ ?_ x
 .intro k n A E s v Q _ hk h
  rw[eqIsQuiet_byValue _ ((Bd P w).byValue _ _ hk)]
  exact aq h
 .intro l ih n A E s v Q hn hk h
  have hn:Cm l+1<=n:=hn
  obtain⟨m,rfl⟩:∃m,n=m+1:=⟨n-1,by omega⟩
  obtain⟨a,ψ,rfl,ht,hi⟩:=hk
  have hT:=ht.typeIs
  obtain⟨o,ho,hc,n',hd⟩:=ht
  unfold mV
  refine af (kX hT F.slot_tuple_eq.lookup ?_)
  refine af (j5 hT isSubtype_tuple_tuple ?_)
  refine af (wpAny_seqItems ho hd ?_)
  refine af ?_
  rw[<- jc]
  refine wpAny_forIn_list _ (λrest r s'=>r.1=none/\s'=s/\∀v∈rest,∃k∈l,TkIs P w s.heap k v) _ ?_ ?_ _ _ ⟨rfl,rfl,λv hv=>?_⟩
  .rintro v rest r s' ⟨hr,rfl,hall⟩
   obtain⟨k,hk,q⟩:=hall v aP
   have:=E3 hk
   refine af (ih k hk (by omega) q ?_)
   exact aq ⟨rfl,rfl,λu hu'=>hall u (ay _ hu')⟩
  .rintro⟨r1,r2⟩ s' ⟨hr,rfl,_⟩
   subst hr
   exact aq h
  .obtain⟨j,hj⟩:=List.mem_iff_getElem?.mp hv
   obtain⟨k,e,q⟩:=hi.get hj
   exact⟨k,ak e,q⟩
 .exact λk h=>by cases h
 .intro k l h1 h2 x hx
  rcases List.mem_cons.mp hx with rfl|hx
  .exact h1
  .exact h2 x hx
noncomputable def Db(P:aO)(w:bw):HeapKind P w TK where
 is h k a:=Ax k<=8/\TkIs P w h k (.ref a)
 hash:=F4 w
 draws:=Dq
 room A:=A.units+8<cLine
 inj hx hy:=TkIs.inj _ hx.2 hy.2
 keeps x ho hd hs:=⟨x.1,x.2.up (λa χ ⟨o',h1,h2,n,h3⟩=>⟨o',(hs.2 a (by
  rintro rfl
  rw[ho] at h1
  cases h1
  rw[hd] at h3
  cases h3)).trans h1,h2,n,h3⟩) _⟩
 pyHash hu hk h:=ac5 _ (by have:=hk.1;omega) hk.2 h
 eqBool hu hx hy h:=b86 _ (by have:=hx.1;omega) hx.2 hy.2 _ _ _ _ h
 quiet hk h:=av6 _ hk.1 hk.2 h
end
inductive HO where
 |lst (xs:List V)
 |tup (xs:List V)
 |dK (kvs:List (Key×V))|dT (kvs:List (TK×V))
 |ins (C dx:Addr) (fs:List (Str×V))
 |own (x:Addr)
 |frz (o:Obj) (u:HO)
 |tbl (ps:Array Value)
 |ext (φ:Heap->Prop)
abbrev Hp:=Addr->Option HO
def upd(H:Hp)(a:Addr)(o:HO):Hp:=λb=>if b=a then some o else H b
def Ac{H:Hp}{a:Addr}{o:HO}:upd H a o a=some o:=by unfold upd;rw[if_pos rfl]
def Ad{H:Hp}{a b:Addr}{o:HO}(h:b≠a):upd H a o b=H b:=by unfold upd;rw[if_neg h]
def by5{H:Hp}{a b:Addr}{o u:HO}(h:H a=some o)(h':H b=some u)(d:o≠u):a≠b:=by
 intro e;subst e;rw[h] at h';exact d (aG h')
def Ai{H:Hp}{a b:Addr}{o:HO}(h:H a=some o)(h':H b=none):a≠b:=by
 intro e;subst e;rw[h] at h';cases h'
mutual
def TkAt(H:Hp):TK->V->Prop
 |.at_ k,v=>v=kV k
 |.tup l,v=>∃a xs,v=.ref a/\H a=some (.tup xs)/\A9 H l xs
def A9(H:Hp):List TK->List V->Prop
 |[],vs=>vs=[]
 |k::ks,vs=>∃v r,vs=v::r/\TkAt H k v/\A9 H ks r
end
def TkAt.up{H H':Hp}(h:∀b ys,H b=some (.tup ys)->H' b=some (.tup ys))(x:TK):∀{v},TkAt H x v->TkAt H' x v:=by
 refine TK.rec (motive_1:=λx=>∀{v},TkAt H x v->TkAt H' x v) (motive_2:=λl=>∀{vs},A9 H l vs->A9 H' l vs) ?_ ?_ ?_ ?_ x
 .intro k v q;unfold TkAt at q ⊢;exact q
 .intro l ih v q
  obtain⟨a,xs,e,t,i⟩:=q
  exact⟨a,xs,e,h _ _ t,ih i⟩
 .intro vs q;unfold A9 at q ⊢;exact q
 .intro x l h1 h2 vs q
  obtain⟨v,r,e,q1,q2⟩:=q
  exact⟨v,r,e,h1 q1,h2 q2⟩
section
variable (P:aO) (w:bw)
noncomputable def ObjOk(H:Hp)(h:Heap)(a:Addr):HO->Prop
 |.lst xs=>xs.length<=sizeLine/\∃χ n,Vals xs χ/\h.get? a=some {cls:=.type "list", data:=.seq χ.toArray n}
 |.tup xs=>xs.length<=sizeLine/\∃χ,Vals xs χ/\nR h a χ.toArray
 |.dK kvs=>kvs.length<=sizeLine/\(a==cY)=false/\∃vs,KV kvs vs/\h.DictOf (Bd P w) a vs
 | .dT kvs=>kvs.length<=sizeLine/\(a==cY)=false/\∃xs,
   iN (λp q=>p.1=q.1/\(Ax p.1<=8/\TkAt H p.1 (.ref q.2.1))/\RelV p.2 q.2.2) kvs xs /\
   ∃o es ep,h.get? a=some o/\o.ExactDict/\o.data=.dict es ep/\es.toList=xs.map (entryOfKey (Db P w))/\(xs.map (·.1)).Nodup
 | .ins C dx fs=>H dx=some (.own a)/\fs.length<=1000/\dx≠a/\h.get? a=some (dM C dx) /\
   ∃mA,h.Ns1 dx mA/\(∀f,RelO (fs.lookup f) (mA f))/\fm mA (fs.map (·.1))
 |.own _=>∃o,h.get? a=some o
 |.frz o u=>h.get? a=some o/\ObjOk H h a u
 |.tbl ps=>h.get? a=some {cls:=.none,data:=.fields ps}
 |.ext φ=>φ h/\(∃o,h.get? a=some o)/\∀h1 h2,φ h1->(∀o,h1.get? a=some o->h2.get? a=some o)->φ h2
noncomputable def HOk(H:Hp)(h:Heap):Prop:=∀a o,H a=some o->ObjOk P w H h a o
end
section
variable {P:aO}{w:bw}{H H':Hp}{h h':Heap}{a:Addr}{o:HO}
theorem ObjOk.lt(x:ObjOk P w H h a o):a<h.objs.size:=by
 cases o with
 |lst xs=>obtain⟨_,_,_,_,e⟩:=x;exact aH e
 |tup xs=>obtain⟨_,_,_,p⟩:=x;exact p.lt
 |dK kvs=>obtain⟨_,_,_,_,o,_,_,e,_⟩:=x;exact aH e
 |dT kvs=>obtain⟨_,_,_,_,o,_,_,e,_⟩:=x;exact aH e
 |ins C dx fs=>obtain⟨_,_,_,e,_⟩:=x;exact aH e
 |own y=>obtain⟨_,e⟩:=x;exact aH e
 |frz ob u=>obtain⟨e,_⟩:=x;exact aH e
 |tbl ps=>exact aH (x)
 |ext φ=>obtain⟨_,⟨_,e⟩,_⟩:=x;exact aH e
theorem Paired.mapP{α β:Type}{F G:α->β->Prop}:∀{l₁} {l₂},iN F l₁ l₂->(∀a b,F a b->G a b)->iN G l₁ l₂
 |_,_,.nil,_=>.nil
 |_,_,.cons r t,f=>.cons (f _ _ r) (Paired.mapP t f)
def ObjOk.stay(x:ObjOk P w H h a o)(k:∀b u,(b=a\/H b=some (.own a))->h.get? b=some u->h'.get? b=some u)(ho:∀b,H b=some (.own a)->H' b=some (.own a))(ht:∀b xs,H b=some (.tup xs)->H' b=some (.tup xs)):ObjOk P w H' h' a o:=by
 induction o with
 |lst xs=>obtain⟨z,χ,n,r,e⟩:=x;exact⟨z,χ,n,r,k _ _ (.inl rfl) e⟩
 |tup xs=>obtain⟨z,χ,r,ob,e,c⟩:=x;exact⟨z,χ,r,ob,k _ _ (.inl rfl) e,c⟩
 |dK kvs=>obtain⟨z,y,vs,r,ob,es,ep,e,c⟩:=x;exact⟨z,y,vs,r,ob,es,ep,k _ _ (.inl rfl) e,c⟩
 |dT kvs=>
  obtain⟨z,y,xs,r,ob,es,ep,e,c⟩:=x
  exact⟨z,y,xs,Paired.mapP r λp q z=>⟨z.1,⟨z.2.1.1,z.2.1.2.up ht _⟩,z.2.2⟩,ob,es,ep,k _ _ (.inl rfl) e,c⟩
 |ins C dx fs=>
  obtain⟨d,z,ne,e,mA,⟨od,es,ep,e2,c⟩,r⟩:=x
  exact⟨ho _ d,z,ne,k _ _ (.inl rfl) e,mA,⟨od,es,ep,k _ _ (.inr d) e2,c⟩,r⟩
 |own y=>obtain⟨ob,e⟩:=x;exact⟨ob,k _ _ (.inl rfl) e⟩
 |frz ob u ih=>obtain⟨e,q⟩:=x;exact⟨k _ _ (.inl rfl) e,ih q⟩
 |tbl ps=>
  have e:=x
  exact k a _ (.inl rfl) e
 |ext φ=>obtain⟨p,⟨o,e⟩,st⟩:=x;exact⟨st _ _ p λo q=>k _ _ (.inl rfl) q,⟨o,k _ _ (.inl rfl) e⟩,st⟩
theorem HOk.lt(x:HOk P w H h)(e:H a=some o):a<h.objs.size:=(x a o e).lt
def HOk.fresh(x:HOk P w H h)(e:h.objs.size<=a):H a=none:=by
 cases q:H a with
 |none=>rfl
 |some u=>exact absurd (aL (x.lt q) e) (gj _)
def HOk.kept(x:HOk P w H h)(k:∀b u,h.get? b=some u->h'.get? b=some u):HOk P w H h':=λa o e=>
 (x a o e).stay (λb u _ q=>k b u q) (λ_ q=>q) λ_ _ q=>q
def HOk.laid(x:HOk P w H h)(k:∀b u,h.get? b=some u->h'.get? b=some u)(hp:h.objs.size<=a)(new:ObjOk P w (upd H a o) h' a o):HOk P w (upd H a o) h':=λb u e=>by
 have hn:=x.fresh hp
 by_cases hb:b=a
 .subst hb;rw[Ac] at e;cases e;exact new
 .rw[Ad hb] at e
  exact(x b u e).stay (λc v _ q=>k c v q) (λc q=>by rw[Ad (Ai q hn)];exact q) λc xs q=>by rw[Ad (Ai q hn)];exact q
end
def Rd(H:Hp)(a:Addr)(u:HO):Prop:=H a=some u \/ ∃o,H a=some (.frz o u)
def Rd.ok{P:aO}{w:bw}{H:Hp}{h:Heap}{a:Addr}{u:HO}(r:Rd H a u)(x:HOk P w H h):ObjOk P w H h a u:=by
 rcases r with r|⟨o,r⟩
 .exact x a u r
 .obtain⟨_,q⟩:=x a _ r
  exact q
def Mut:Option HO->Prop
 |some (.lst _)=>True
 |some (.dK _)=>True
 |some (.dT _)=>True
 |some (.ins _ _ _)=>True
 |some (.ext _)=>True
 |_=>False
section
variable {P:aO}{w:bw}{H:Hp}{h h':Heap}{x e:Addr}{o':HO}
def HOk.write(ok:HOk P w H h)(mu:Mut (H x))(he:e=x\/H e=some (.own x))(k:∀b u,b≠e->h.get? b=some u->h'.get? b=some u)(heo:∃u,h'.get? e=some u)(new:ObjOk P w (upd H x o') h' x o'):HOk P w (upd H x o') h':=λb u q=>by
 have nown:∀c y,H c=some (.own y)->c≠x:=λc y r z=>by subst z;rw[r] at mu;exact mu
 have ntup:∀c xs,H c=some (.tup xs)->c≠x:=λc xs r z=>by subst z;rw[r] at mu;exact mu
 by_cases hb:b=x
 .subst hb;rw[Ac] at q;cases q;exact new
 .rw[Ad hb] at q
  by_cases hbe:b=e
  .have q':H b=some (.own x):=by
    rcases he with z|z
    .exact absurd (hbe.trans z) hb
    .rw[hbe];exact z
   rw[q] at q';cases q'
   obtain⟨v,hv⟩:=heo
   exact⟨v,by rw[hbe];exact hv⟩
  .refine (ok b u q).stay (λc v hc r=>k c v ?_ r) (λc r=>by rw[Ad (nown c b r)];exact r) λc xs r=>by rw[Ad (ntup c xs r)];exact r
   rcases hc with rfl|hc
   .exact hbe
   .rintro rfl
    rcases he with z|z
    .exact nown c b hc z
    .rw[hc] at z;cases z;exact hb rfl
end
structure Un (fs ex:List Addr) (H H':Hp) (h h':Heap):Prop where
 keep:∀b o,h.get? b=some o->H b=none->b∉fs->b∉ex->h'.get? b=some o
 slot:∀b o,h.get? b=some o->H b=none->b∈fs->b∉ex -> ∃sl,h'.get? b=some {o with slots:=sl}
 free:∀b o,h.get? b=some o->H b=none->b∉ex->H' b=none
 there:∀b o,h.get? b=some o->b∉ex -> ∃o',h'.get? b=some o'
 tups:∀b xs,H b=some (.tup xs)->H' b=some (.tup xs)
 frzs:∀b o u,H b=some (.frz o u)->H' b=some (.frz o u)
 tbls:∀b ps,H b=some (.tbl ps) -> ∃more,H' b=some (.tbl (ps++more))
section
variable {fs fs' ex ex':List Addr}{H H1 H2:Hp}{h h1 h2 h':Heap}{a x e:Addr}{o:HO}
def Un.any(u:Un fs ex H H1 h h1){b:Addr}{ob:Obj}(q:h.get? b=some ob)(n:H b=none)(hx:b∉ex):∃sl,h1.get? b=some {ob with slots:=sl}:=by
 by_cases hb:b∈fs
 .exact u.slot b ob q n hb hx
 .exact⟨ob.slots,u.keep b ob q n hb hx⟩
def Un.kept(k:∀b u,h.get? b=some u->h'.get? b=some u):Un fs ex H H h h':=
 ⟨λb ob q _ _ _=>k b ob q,λb ob q _ _ _=>⟨ob.slots,k b ob q⟩,λ_ _ _ n _=>n,λb ob q _=>⟨ob,k b ob q⟩,λ_ _ q=>q,λ_ _ _ q=>q,λ_ ps q=>⟨#[],by rw[q];simp⟩⟩
def Un.refl:Un fs ex H H h h:=Un.kept λ_ _ q=>q
def Un.laid(k:∀b u,h.get? b=some u->h'.get? b=some u)(hp:h.objs.size<=a)(hn:H a=none):Un fs ex H (upd H a o) h h' where
 keep:=λb u q _ _ _=>k b u q
 slot:=λb u q _ _ _=>⟨u.slots,k b u q⟩
 free:=λb u q n _=>by rw[Ad (aR (aL (aH q) hp))];exact n
 there:=λb u q _=>⟨u,k b u q⟩
 tups:=λb xs q=>by rw[Ad (Ai q hn)];exact q
 frzs:=λb u xs q=>by rw[Ad (Ai q hn)];exact q
 tbls:=λb ps q=>⟨#[],by rw[Ad (Ai q hn),q];simp⟩
def Un.write(mu:Mut (H x))(he:e=x\/H e=some (.own x))(k:∀b u,b≠e->h.get? b=some u->h'.get? b=some u)(heo:∃u,h'.get? e=some u):Un fs ex H (upd H x o) h h':=by
 have hx:∀b,H b=none->b≠x:=λb n z=>by subst z;rw[n] at mu;exact mu
 have hb:∀b,H b=none->b≠e:=λb n z=>by
  subst z
  rcases he with r|r
  .exact hx b n r
  .rw[n] at r;cases r
 have hm:∀b u,H b=some u -> ¬ Mut (some u)->b≠x:=λb u q nm z=>by subst z;rw[q] at mu;exact nm mu
 refine⟨λb u q n _ _=>k b u (hb b n) q,λb u q n _ _=>⟨u.slots,k b u (hb b n) q⟩,λb u q n _=>by rw[Ad (hx b n)];exact n,λb u q _=>?_,
  λb xs q=>by rw[Ad (hm b _ q λz=>z)];exact q,λb u xs q=>by rw[Ad (hm b _ q λz=>z)];exact q,λb ps q=>⟨#[],by rw[Ad (hm b _ q λz=>z),q];simp⟩⟩
 by_cases hbe:b=e
 .subst hbe;exact heo
 .exact⟨u,k b u hbe q⟩
end
def trk(h:Heap)(H:Hp):List Addr:=(aZ h.objs.size).filter λa=>(H a).isSome
def P4(h:Heap)(H:Hp):Heap:=PySem.W.hideAll h (trk h H)
def Zp(h:Heap)(H:Hp):(P4 h H).objs.size=h.objs.size:=PySem.W.hideAll_size _ _
def aj8{h:Heap}{H:Hp}{b:Addr}{o:Obj}(e:h.get? b=some o)(n:H b=none):(P4 h H).get? b=some o:=
 PySem.W.hideAll_get _ e λhm=>by
  have q:=(List.mem_filter.mp hm).2
  rw[n] at q;simp at q
def a26{h:Heap}{H:Hp}{b:Addr}{o:Obj}(e:(P4 h H).get? b=some o):h.get? b=some o/\H b=none:=by
 have e':=PySem.W.of_hideAll (trk h H) e
 refine⟨e',?_⟩
 cases q:H b with
 |none=>rfl
 |some x=>
  have hm:b∈trk h H:=List.mem_filter.mpr ⟨List.mem_range.mpr (aH e'),by simp[q]⟩
  have z:(P4 h H).get? b=none:=PySem.W.hideAll_none (trk h H) hm
  rw[z] at e;cases e
structure Mod (K:ac) (mg:Str->Option Value) (base:Heap):Prop where
 kin:K.In base
 glob:base.Ns mainGlobals mg
 blt:∃mb,base.Ns jG mb/\∀x:Str,x ≠ "__name__" -> mb x=cz x
 nolimit:base.NoLimit
structure Cx where
 prog:aO
 w:bw
 K:ac
 mg:Str->Option Value
 base:Heap
 A:bq
 N:List Str
 s₀:am
 H₀:Hp
 env:Env
 outer:List Env
 stack:List Env
 ex:List Addr
 fn:Str->Bool
 calm:Bool
 pn:List (Addr×Obj)
 xe:Value->am->Prop
def frs(l:List Env):List Addr:=l.filterMap (·.frame)
abbrev Cx.fs(X:Cx):List Addr:=frs X.outer
def Vis(sc:Scope)(x:Str):Prop:=sc.names.lookup x=some .local\/sc.names.lookup x=some .cell\/sc.names.lookup x=some .free
def Loc(sc:Scope)(x:Str):Prop:=sc.names.lookup x=some .local\/sc.names.lookup x=some .cell
def b94(env:Env)(h:Heap)(m:Str->Option Value)(x:Str)(u:Value):Prop:=
 (env.kindOf x=some .local/\m x=some u)\/((env.kindOf x=some .cell\/env.kindOf x=some .free)/\∃c,env.cells.lookup x=some c/\h.IsCell c (some u))
def Xj(_:ac)(_:Nat):Prop:=True
structure Cx.Ok (X:Cx):Prop where
 mod:Mod X.K X.mg X.base
 kind:X.env.scope.kind=.function
 glob:X.env.globals=mainGlobals
 blt:X.env.builtins=jG
 above:X.s₀.heap.objs.size<=X.env.locals
 inj:∀x y c,X.env.cells.lookup x=some c->X.env.cells.lookup y=some c->x=y
 has:∀x,(X.env.kindOf x=some .cell\/X.env.kindOf x=some .free) -> ∃c,X.env.cells.lookup x=some c
 cab:∀x c,X.fn x=true->X.env.cells.lookup x=some c->X.s₀.heap.objs.size<=c
 hd:X.calm=true->X.A.handled=none
 frames:X.A.frames=some X.stack
 stk:X.stack=X.outer\/(X.stack=X.env::X.outer/\X.env.frame=some X.env.locals)
 exf:∀b∈X.ex,b≠X.env.locals/\∀x c,X.env.cells.lookup x=some c->c≠b
 bs:∀b o,X.base.get? b=some o->X.s₀.heap.get? b=some o/\X.H₀ b=none
 bsz:X.base.objs.size<=X.s₀.heap.objs.size
 noex:∀b o,X.base.get? b=some o->b∉X.ex
 exfs:∀b∈X.ex,b∉X.fs
 funs:X.s₀.heap.FunFrames X.base X.outer
 frf:∀b∈X.fs,X.H₀ b=none
 tk:Xj X.K X.s₀.toks
structure Inv (X:Cx) (ξ:List (Addr×Obj)) (σ:List (Option V)) (H:Hp) (s:am):Prop where
 ok:X.Ok
 os:s.os=X.s₀.os/\X.s₀.toks<=s.toks
 bare:kg s.gens
 base:Un X.fs X.ex X.H₀ H X.s₀.heap s.heap
 loc:∃m,s.heap.Ns X.env.locals m/\∀(i:Nat)(x:Str)(v:V),X.N[i]?=some x->σ[i]?=some (some v)->Vis X.env.scope x -> ∃u,RelV v u/\b94 X.env s.heap m x u
 cell:∀x c,X.env.cells.lookup x=some c -> ∃v,s.heap.IsCell c v
 free:H X.env.locals=none
 freeC:∀x c,X.env.cells.lookup x=some c->H c=none
 pin:∀p∈X.pn++ξ,s.heap.get? p.1=some p.2/\H p.1=none/\p.1≠X.env.locals/\p.1∉X.fs/\∀v,p.2.data≠.cell v
 hok:HOk X.prog X.w H s.heap
 len:σ.length=X.N.length
section
variable {X:Cx}{ξ:List (Addr×Obj)}{σ:List (Option V)}{H H':Hp}{s:am}{h':Heap}
def Cx.Ok.nofr(ok:X.Ok){b:Addr}{o:Obj}(e:X.base.get? b=some o):b∉X.fs:=λhb=>by
 have:=(ok.funs.mem hb).1
 rw[e] at this;cases this
theorem Inv.bs(I:Inv X ξ σ H s):∀b o,X.base.get? b=some o->s.heap.get? b=some o/\H b=none:=λb o e=>
 ⟨I.base.keep b o (I.ok.bs b o e).1 (I.ok.bs b o e).2 (I.ok.nofr e) (I.ok.noex b o e),I.base.free b o (I.ok.bs b o e).1 (I.ok.bs b o e).2 (I.ok.noex b o e)⟩
def Inv.bk(I:Inv X ξ σ H s):∀b o,X.base.get? b=some o->s.heap.get? b=some o:=λb o e=>(I.bs b o e).1
theorem Inv.mod(I:Inv X ξ σ H s):Mod X.K X.mg X.base:=I.ok.mod
def Inv.kIn(I:Inv X ξ σ H s):X.K.In s.heap:=I.ok.mod.kin.keeps I.bk
theorem Inv.lt(I:Inv X ξ σ H s):X.env.locals<s.heap.objs.size:=let⟨_,hn,_⟩:=I.loc;hn.lt
def Inv.sz(I:Inv X ξ σ H s):X.s₀.heap.objs.size<=s.heap.objs.size:=aT I.ok.above (gO I.lt)
def Inv.nofs(I:Inv X ξ σ H s){a:Addr}(h:s.heap.objs.size<=a):a∉X.fs:=λhb=>by
 obtain⟨_,o,ho,_⟩:=I.ok.funs.mem hb
 exact absurd (aL (aH ho) (aT I.sz h)) (gj _)
def Inv.cne(I:Inv X ξ σ H s):∀x c,X.env.cells.lookup x=some c->c≠X.env.locals:=λx c e z=>by
 obtain⟨v,o,ho,hd⟩:=I.cell x c e
 obtain⟨m,⟨o',es,ep,ho',hd',_⟩,_⟩:=I.loc
 rw[z,ho'] at ho;cases ho;rw[hd'] at hd;cases hd
theorem Inv.funs(I:Inv X ξ σ H s):s.heap.FunFrames X.base X.outer:=by
 have all:∀l,(∀b∈frs l,b∈X.fs)->X.s₀.heap.FunFrames X.base l->s.heap.FunFrames X.base l:=by
  intro l
  induction l with
  |nil=>intro _ _;trivial
  |cons env r ih=>
   intro hs hl
   obtain⟨hk,⟨L,o,hf,hn,ho,hd⟩,hr⟩:=hl
   have hL:=hs L (by unfold frs;rw[iX,hf];exact aP)
   obtain⟨sl,e⟩:=I.base.slot L o ho (I.ok.frf L hL) hL λz=>I.ok.exfs L z hL
   exact⟨hk,⟨L,_,hf,hn,e,hd⟩,ih (λb hb=>hs b (by unfold frs;rw[iX,hf];exact ay _ hb)) hr⟩
 exact all X.outer (λ_ hb=>hb) I.ok.funs
theorem Inv.stack(I:Inv X ξ σ H s):s.heap.FunFrames X.base X.stack:=by
 rcases I.ok.stk with e|⟨e,hf⟩
 .rw[e];exact I.funs
 .rw[e]
  obtain⟨m,hn,_⟩:=I.loc
  exact .cons (by rw[I.ok.kind];decide) hf hn (iK (aT I.ok.bsz I.ok.above)) I.funs
def Inv.stkSub(I:Inv X ξ σ H s):∀b∈frs X.stack,b∈X.env.locals::X.fs:=λb hb=>by
 rcases I.ok.stk with e|⟨e,hf⟩
 .rw[e] at hb;exact ay _ hb
 .rw[e] at hb
  unfold frs at hb
  rw[iX,hf] at hb
  exact hb
def Inv.stkFree(I:Inv X ξ σ H s):∀b∈frs X.stack,H b=none:=λb hb=>by
 rcases List.mem_cons.mp (I.stkSub b hb) with e|hb
 .rw[e];exact I.free
 .obtain⟨_,o,ho,_⟩:=I.ok.funs.mem hb
  exact I.base.free b o ho (I.ok.frf b hb) λz=>I.ok.exfs b z hb
def Inv.step{g':Array kZ}{t':Nat}{d':Drawn}{ch:List Addr}(I:Inv X ξ σ H s)(hch:∀b∈ch,(b∈X.ex\/X.s₀.heap.objs.size<=b)/\b≠X.env.locals/\(∀x c,X.env.cells.lookup x=some c->c≠b)/\∀p∈X.pn++ξ,p.1≠b)(keep:∀b o,b≠X.env.locals->b∉X.fs->b∉ch->s.heap.get? b=some o->H b=none->h'.get? b=some o)(slot:∀b o,b≠X.env.locals->b∈X.fs->b∉ch->s.heap.get? b=some o->H b=none -> ∃sl,h'.get? b=some {o with slots:=sl})(free:∀b o,b∉ch->s.heap.get? b=some o->H b=none->H' b=none)(there:∀b o,b∉ch->s.heap.get? b=some o -> ∃o',h'.get? b=some o')(tups:∀b xs,H b=some (.tup xs)->H' b=some (.tup xs))(frzs:∀b o u,H b=some (.frz o u)->H' b=some (.frz o u))(tbls:∀b ps,H b=some (.tbl ps) -> ∃more,H' b=some (.tbl (ps++more)))(ns:∀m,s.heap.Ns X.env.locals m->h'.Ns X.env.locals m)(hok:HOk X.prog X.w H' h')(hg:kg g')(ht:s.toks<=t':=by trivial) :
  Inv X ξ σ H' {s with heap:=h',gens:=g',drawn:=d',toks:=t'}:=by
 have neL:∀b o,X.s₀.heap.get? b=some o->b≠X.env.locals:=λb o e=>aR (aL (aH e) I.ok.above)
 have neC:∀b o,X.s₀.heap.get? b=some o->b∉X.ex->b∉ch:=λb o e hx hb=>by
  rcases(hch b hb).1 with z|z
  .exact hx z
  .exact absurd (aL (aH e) z) (gj _)
 have cellK:∀x c,X.env.cells.lookup x=some c -> ∀v,s.heap.IsCell c v->h'.IsCell c v:=λx c e v ⟨o,ho,hd⟩=>by
  have nch:c∉ch:=λz=>(hch c z).2.2.1 x c e rfl
  by_cases hc:c∈X.fs
  .obtain⟨sl,q⟩:=slot c o (I.cne x c e) hc nch ho (I.freeC x c e)
   exact⟨_,q,hd⟩
  .exact⟨o,keep c o (I.cne x c e) hc nch ho (I.freeC x c e),hd⟩
 refine⟨I.ok,⟨I.os.1,aT I.os.2 ht⟩,hg,⟨λb o e n hb hx=>?_,λb o e n hb hx=>?_,λb o e n hx=>?_,λb o e hx=>?_,λb xs e=>tups b xs (I.base.tups b xs e),λb o xs e=>frzs b o xs (I.base.frzs b o xs e),λb ps e=>?_⟩,?_,λx c e=>?_,?_,λx c e=>?_,λp hp=>?_,hok,I.len⟩
 .exact keep b o (neL b o e) hb (neC b o e hx) (I.base.keep b o e n hb hx) (I.base.free b o e n hx)
 .obtain⟨sl,e1⟩:=I.base.slot b o e n hb hx
  obtain⟨sl',e2⟩:=slot b _ (neL b o e) hb (neC b o e hx) e1 (I.base.free b o e n hx)
  exact⟨sl',e2⟩
 .obtain⟨o',e1⟩:=I.base.there b o e hx
  exact free b o' (neC b o e hx) e1 (I.base.free b o e n hx)
 .obtain⟨o',e1⟩:=I.base.there b o e hx
  exact there b o' (neC b o e hx) e1
 .obtain⟨m1,e1⟩:=I.base.tbls b ps e
  obtain⟨m2,e2⟩:=tbls b _ e1
  exact⟨m1++m2,by rw[e2,Array.append_assoc]⟩
 .obtain⟨m,hn,hl⟩:=I.loc
  refine⟨m,ns m hn,λi x v e1 e2 e3=>?_⟩
  obtain⟨u,r,l⟩:=hl i x v e1 e2 e3
  refine⟨u,r,?_⟩
  rcases l with l|⟨k,c,e,z⟩
  .exact .inl l
  .exact .inr ⟨k,c,e,cellK x c e _ z⟩
 .obtain⟨v,z⟩:=I.cell x c e
  exact⟨v,cellK x c e v z⟩
 .obtain⟨m,⟨o,_,_,ho,_⟩,_⟩:=I.loc
  exact free _ o (λz=>(hch _ z).2.1 rfl) ho I.free
 .obtain⟨v,o,ho,hd⟩:=I.cell x c e
  exact free c o (λz=>(hch c z).2.2.1 x c e rfl) ho (I.freeC x c e)
 .obtain⟨e,n,ne,nf,d⟩:=I.pin p hp
  have nch:p.1∉ch:=λz=>(hch p.1 z).2.2.2 p hp rfl
  exact⟨keep p.1 p.2 ne nf nch e n,free p.1 p.2 nch e n,ne,nf,d⟩
def Inv.un{t':Nat}(I:Inv X ξ σ H s)(u:Un X.fs [] H H' s.heap h')(hok:HOk X.prog X.w H' h')(ht:s.toks<=t':=by trivial):Inv X ξ σ H' {s with heap:=h',toks:=t'}:=by
 obtain⟨m,⟨o,es,ep,ho,r⟩,_⟩:=I.loc
 obtain⟨sl,hL⟩:=u.any ho I.free (by simp)
 exact I.step (ch:=[]) (λ_ z=>nomatch z) (λb o _ hb _ e n=>u.keep b o e n hb (by simp)) (λb o _ hb _ e n=>u.slot b o e n hb (by simp)) (λb o _ e n=>u.free b o e n (by simp)) (λb o _ e=>u.there b o e (by simp)) u.tups u.frzs u.tbls (λm' hm=>by
  obtain⟨o',es',ep',ho',r'⟩:=hm
  rw[ho] at ho';cases ho'
  exact⟨_,es',ep',hL,r'⟩) hok I.bare
def Inv.call{g':Array kZ}{t':Nat}{d':Drawn}{ch:List Addr}(I:Inv X ξ σ H s)(u:Un (frs X.stack) ch H H' s.heap h')(hok:HOk X.prog X.w H' h')(hg:kg g')(hch:∀b∈ch,(b∈X.ex\/X.s₀.heap.objs.size<=b)/\b≠X.env.locals/\(∀x c,X.env.cells.lookup x=some c->c≠b)/\∀p∈X.pn++ξ,p.1≠b)(ht:s.toks<=t':=by trivial) :
  Inv X ξ σ H' {s with heap:=h',gens:=g',drawn:=d',toks:=t'}:=by
 obtain⟨m,⟨o,es,ep,ho,r⟩,_⟩:=I.loc
 obtain⟨sl,hL⟩:=u.any ho I.free λz=>(hch _ z).2.1 rfl
 exact I.step hch (λb o hL hb hc e n=>u.keep b o e n (λz=>(List.mem_cons.mp (I.stkSub b z)).elim hL hb) hc) (λb o _ _ hc e n=>u.any e n hc) (λb o hc e n=>u.free b o e n hc) (λb o hc e=>u.there b o e hc) u.tups u.frzs u.tbls (λm' hm=>by
  obtain⟨o',es',ep',ho',r'⟩:=hm
  rw[ho] at ho';cases ho'
  exact⟨_,es',ep',hL,r'⟩) hok hg
def Inv.turned{t':Nat}{it:Addr}(I:Inv X ξ σ H s)(k:∀b o,b≠it->s.heap.get? b=some o->h'.get? b=some o)(hn:H it=none)(hL:it≠X.env.locals)(h1:it∈X.ex\/X.s₀.heap.objs.size<=it)(h2:∀x c,X.env.cells.lookup x=some c->c≠it)(h3:∀p∈X.pn++ξ,p.1≠it)(ht:s.toks<=t':=by trivial):Inv X ξ σ H {s with heap:=h',toks:=t'}:=by
 have nit:∀b u,H b=some u->b≠it:=λb u e z=>by rw[z,hn] at e;cases e
 refine I.step (ch:=[it]) (λb hb=>?_) (λb o _ _ hc e _=>k b o (λz=>hc (by simp[z])) e) (λb o _ _ hc e _=>⟨o.slots,k b o (λz=>hc (by simp[z])) e⟩) (λ_ _ _ _ n=>n)
  (λb o hc e=>⟨o,k b o (λz=>hc (by simp[z])) e⟩) (λ_ _ e=>e) (λ_ _ _ e=>e) (λb ps e=>⟨#[],by rw[e];simp⟩) (λm hm=>?_) (λb u e=>?_) I.bare
 .have e:b=it:=by simpa using hb
  subst e
  exact⟨h1,hL,h2,h3⟩
 .obtain⟨o,es,ep,ho,r⟩:=hm
  exact⟨o,es,ep,k _ o (bY hL) ho,r⟩
 .refine (I.hok b u e).stay (λc v hc q=>k c v ?_ q) (λ_ q=>q) λ_ _ q=>q
  rcases hc with z|z
  .rw[z];exact nit b u e
  .exact nit c _ z
def Inv.tok(I:Inv X ξ σ H s)(t:Nat)(ht:s.toks<=t:=by trivial):Inv X ξ σ H {s with toks:=t}:=I.un Un.refl I.hok ht
theorem Inv.kept{t':Nat}(I:Inv X ξ σ H s)(k:∀b u,s.heap.get? b=some u->h'.get? b=some u)(ht:s.toks<=t':=by trivial):Inv X ξ σ H {s with heap:=h',toks:=t'}:=I.un (Un.kept k) (I.hok.kept k) ht
theorem Inv.laid{a:Addr}{o:HO}{t':Nat}(I:Inv X ξ σ H s)(k:∀b u,s.heap.get? b=some u->h'.get? b=some u)(hp:s.heap.objs.size<=a)(new:ObjOk X.prog X.w (upd H a o) h' a o)(ht:s.toks<=t':=by trivial) :
  Inv X ξ σ (upd H a o) {s with heap:=h',toks:=t'}:=I.un (Un.laid k hp (I.hok.fresh hp)) (I.hok.laid k hp new) ht
theorem Inv.write{x e:Addr}{o:HO}{t':Nat}(I:Inv X ξ σ H s)(mu:Mut (H x))(he:e=x\/H e=some (.own x))(k:∀b u,b≠e->s.heap.get? b=some u->h'.get? b=some u)(heo:∃u,h'.get? e=some u)(new:ObjOk X.prog X.w (upd H x o) h' x o)(ht:s.toks<=t':=by trivial):Inv X ξ σ (upd H x o) {s with heap:=h',toks:=t'}:=I.un (Un.write mu he k heo) (I.hok.write mu he k heo new) ht
def Inv.pins_of{pins':List (Addr×Obj)}(I:Inv X ξ σ H s)(h:∀p∈pins',s.heap.get? p.1=some p.2/\H p.1=none/\p.1≠X.env.locals/\p.1∉X.fs/\∀v,p.2.data≠.cell v):Inv X pins' σ H s:=
 ⟨I.ok,I.os,I.bare,I.base,I.loc,I.cell,I.free,I.freeC,λp hp=>(List.mem_append.mp hp).elim (λz=>I.pin p (bn _ z)) (h p),I.hok,I.len⟩
def Ly{N:List Str}(hN:N.Nodup){i j:Nat}{x:Str}(a:N[i]?=some x)(b:N[j]?=some x):i=j:=by
 obtain⟨h1,e1⟩:=List.getElem?_eq_some_iff.mp a
 obtain⟨h2,e2⟩:=List.getElem?_eq_some_iff.mp b
 exact(du hN).mp (e1.trans e2.symm)
def ac2{M:nS}{A:bq}{E:Value->am->Prop}{i:Nat}{x:Str}{v:V}{u:Value}{Q:Unit->am->Prop}(I:Inv X ξ σ H s)(hN:X.N.Nodup)(hi:X.N[i]?=some x)(hx:Loc X.env.scope x)(r:RelV v u)(h:∀s',Inv X ξ (σ.set i (some v)) H s'->(∃a,bO a s.heap s'.heap/\(a=X.env.locals\/X.env.cells.lookup x=some a))->Q () s')(hf:X.fn x=true\/X.env.scope.names.lookup x=some .local:=by trivial):aS M A (storeName X.env x u) Q E s:=by
 obtain⟨m,hn,hl⟩:=I.loc
 have hcls:(X.env.scope.kind==.class||(X.env.scope.kind==.module&&X.env.locals != X.env.globals))=false:=by rw[I.ok.kind];rfl
 have hiσ:i<σ.length:=by rw[I.len];exact(List.getElem?_eq_some_iff.mp hi).1
 have cne:=I.cne
 have tracked:∀{a} {h'},(∃o,s.heap.get? a=some o/\H a=none)->bO a s.heap h'->HOk X.prog X.w H h':=λ{a h'} ha hs b ob e=>by
  obtain⟨_,_,hfree⟩:=ha
  refine(I.hok b ob e).stay (λc w' hc q=>(hs.2 c ?_).trans q) (λ_ q=>q) λ_ _ q=>q
  rintro rfl
  rcases hc with rfl|hc
  .rw[hfree] at e;cases e
  .rw[hfree] at hc;cases hc
 rcases hx with hk|hk
 .refine wpAny_storeName_local hk hn (λh' hn' hs=>?_) hcls
  obtain⟨oL,_,_,hoL,_⟩:=hn
  refine h _ ⟨I.ok,⟨I.os.1,aT I.os.2 (by first|exact ag _|exact bv _ _)⟩,I.bare,⟨λb o e n hb hx=>?_,λb o e n hb hx=>?_,I.base.free,λb o e hx=>?_,I.base.tups,I.base.frzs,I.base.tbls⟩,⟨_,hn',λj y v' e1 e2 e3=>?_⟩,λy c e=>?_,I.free,I.freeC,λp hp=>?_,tracked ⟨oL,hoL,I.free⟩ hs,by simpa using I.len⟩ ⟨_,hs,.inl rfl⟩
  .exact (hs.2 b (aR (aL (aH e) I.ok.above))).trans (I.base.keep b o e n hb hx)
  .obtain⟨sl,e1⟩:=I.base.slot b o e n hb hx
   exact⟨sl,(hs.2 b (aR (aL (aH e) I.ok.above))).trans e1⟩
  .obtain⟨o',e1⟩:=I.base.there b o e hx
   exact⟨o',(hs.2 b (aR (aL (aH e) I.ok.above))).trans e1⟩
  .by_cases hj:j=i
   .subst hj
    rw[hi] at e1;cases e1
    rw[cS hiσ] at e2
    cases e2
    exact⟨u,r,.inl ⟨hk,by simp⟩⟩
   .rw[dA (bY hj)] at e2
    obtain⟨u',r',q⟩:=hl j y v' e1 e2 e3
    refine⟨u',r',?_⟩
    rcases q with⟨k,e⟩|⟨k,c,e,z⟩
    .refine .inl ⟨k,?_⟩
     have:y≠x:=λe=>hj (Ly hN e1 (e▸hi))
     simp[this,e]
    .exact .inr ⟨k,c,e,z.sameBut hs (cne y c e)⟩
  .obtain⟨w',z⟩:=I.cell y c e
   exact⟨w',z.sameBut hs (cne y c e)⟩
  .obtain⟨e,n,ne,nf,d⟩:=I.pin p hp
   exact⟨(hs.2 p.1 ne).trans e,n,ne,nf,d⟩
 .have hfn:X.fn x=true:=by
   rcases hf with z|z
   .exact z
   .rw[z] at hk;cases hk
  obtain⟨c,hc⟩:=I.ok.has x (.inl hk)
  obtain⟨w',z⟩:=I.cell x c hc
  refine wpAny_storeName_cell I.ok.kind hk hc z (λh' hc' hs=>?_)
  obtain⟨oc,hoc,hocd⟩:=z
  refine h {s with heap:=h'} ⟨I.ok,I.os,I.bare,⟨λb o e n hb hx=>?_,λb o e n hb hx=>?_,I.base.free,λb o e hx=>?_,I.base.tups,I.base.frzs,I.base.tbls⟩,⟨m,hn.sameBut hs (bY (cne x c hc)),λj y v' e1 e2 e3=>?_⟩,λy c' e=>?_,I.free,I.freeC,λp hp=>?_,tracked ⟨oc,hoc,I.freeC x c hc⟩ hs,by simpa using I.len⟩ ⟨c,hs,.inr hc⟩
  .exact (hs.2 b (aR (aL (aH e) (I.ok.cab x c hfn hc)))).trans (I.base.keep b o e n hb hx)
  .obtain⟨sl,e1⟩:=I.base.slot b o e n hb hx
   exact⟨sl,(hs.2 b (aR (aL (aH e) (I.ok.cab x c hfn hc)))).trans e1⟩
  .obtain⟨o',e1⟩:=I.base.there b o e hx
   exact⟨o',(hs.2 b (aR (aL (aH e) (I.ok.cab x c hfn hc)))).trans e1⟩
  .by_cases hj:j=i
   .subst hj
    rw[hi] at e1;cases e1
    rw[cS hiσ] at e2
    cases e2
    exact⟨u,r,.inr ⟨.inl hk,c,hc,hc'⟩⟩
   .rw[dA (bY hj)] at e2
    obtain⟨u',r',q⟩:=hl j y v' e1 e2 e3
    refine⟨u',r',?_⟩
    rcases q with q|⟨k,c',e,z'⟩
    .exact .inl q
    .refine .inr ⟨k,c',e,z'.sameBut hs ?_⟩
     rintro rfl
     exact hj (Ly hN e1 (I.ok.inj _ _ _ e hc▸hi))
  .by_cases hcc:c'=c
   .subst hcc;exact⟨_,hc'⟩
   .obtain⟨w2,z2⟩:=I.cell y c' e
    exact⟨w2,z2.sameBut hs hcc⟩
  .obtain⟨e,n,ne,nf,d⟩:=I.pin p hp
   refine⟨(hs.2 p.1 ?_).trans e,n,ne,nf,d⟩
   intro q
   rw[q,hoc] at e
   have q':=aG e
   exact d w' (by rw[<- q'];exact hocd)
def Ie{M:nS}{A:bq}{E:Value->am->Prop}{i:Nat}{x:Str}{v:V}{u:Value}{Q:Unit->am->Prop}(I:Inv X ξ σ H s)(hN:X.N.Nodup)(hi:X.N[i]?=some x)(hx:Loc X.env.scope x)(r:RelV v u)(h:∀s',Inv X ξ (σ.set i (some v)) H s'->Q () s')(hf:X.fn x=true\/X.env.scope.names.lookup x=some .local:=by trivial):aS M A (storeName X.env x u) Q E s:=
 ac2 I hN hi hx r (λs' I' _=>h s' I') hf
def Inv.call'{s':am}{ch:List Addr}(I:Inv X ξ σ H s)(ho:s'.os=s.os/\s.toks<=s'.toks)(u:Un (frs X.stack) ch H H' s.heap s'.heap)(hok:HOk X.prog X.w H' s'.heap)(hg:kg s'.gens)(hch:∀b∈ch,(b∈X.ex\/X.s₀.heap.objs.size<=b)/\b≠X.env.locals/\(∀x c,X.env.cells.lookup x=some c->c≠b)/\∀p∈X.pn++ξ,p.1≠b):Inv X ξ σ H' s':=by
 obtain⟨h',g',d',t',o'⟩:=s'
 have e:=ho.1
 subst e
 exact I.call u hok hg hch ho.2
end
abbrev XK:=Value->Option Addr->Hp->Prop
abbrev St:=List (Option V)
abbrev VK:=V->Hp->Prop
abbrev TE:=St->Hp->VK->Prop
abbrev TT:=St->Hp->(Bool->Hp->Prop)->Prop
abbrev TA:=St->Hp->(List V->Hp->Prop)->Prop
structure M6 where
 nx:St->Hp->Prop
 rt:VK
 bk:St->Hp->Prop:=λ_ _=>False
 ct:St->Hp->Prop:=λ_ _=>False
abbrev TS:=M6->St->Hp->Prop
def EP(X:Cx)(ξ:List (Addr×Obj))(σ:St)(Q:VK)(u:Value)(s':am):Prop:=∃v H',Inv X ξ σ H' s'/\RelV v u/\Q v H'
def TP(X:Cx)(ξ:List (Addr×Obj))(σ:St)(Q:Bool->Hp->Prop)(b:Bool)(s':am):Prop:=∃H',Inv X ξ σ H' s'/\Q b H'
def AP(X:Cx)(ξ:List (Addr×Obj))(σ:St)(Q:List V->Hp->Prop)(us:List Value)(s':am):Prop:=∃vs H',Inv X ξ σ H' s'/\Vals vs us/\Q vs H'
def SP(X:Cx)(ξ:List (Addr×Obj))(D:M6)(f:Flow)(s':am):Prop:=
 match f with
 |.next=>∃ σ' H',Inv X ξ σ' H' s'/\D.nx σ' H'
 |.brk=>∃ σ' H',Inv X ξ σ' H' s'/\D.bk σ' H'
 |.cont=>∃ σ' H',Inv X ξ σ' H' s'/\D.ct σ' H'
 |.ret u=>∃v σ' H',Inv X ξ σ' H' s'/\RelV v u/\D.rt v H'
def PE(X:Cx)(e:Expr)(t:TE):Prop:=
 ∀ξ s (σ:St) (H:Hp) (Q:VK),Inv X ξ σ H s->t σ H Q->aS (model X.prog X.w) X.A (eval e X.env) (EP X ξ σ Q) X.xe s
def PT(X:Cx)(e:Expr)(t:TT):Prop:=
 ∀ξ s (σ:St) (H:Hp) (Q:Bool->Hp->Prop),Inv X ξ σ H s->t σ H Q->aS (model X.prog X.w) X.A (isTrue e X.env (eval e X.env)) (TP X ξ σ Q) X.xe s
def PW(X:Cx)(e:Expr)(t:TT):Prop:=
 ∀whole ξ s (σ:St) (H:Hp) (Q:Bool->Hp->Prop),Inv X ξ σ H s->t σ H Q->aS (model X.prog X.w) X.A (isTrue e X.env whole) (TP X ξ σ Q) X.xe s
def PW.pt{X:Cx}{e:Expr}{t:TT}(h:PW X e t):PT X e t:=h _
def PA(X:Cx)(es:List Expr)(t:TA):Prop:=
 ∀pos ξ s (σ:St) (H:Hp) (Q:List V->Hp->Prop),Inv X ξ σ H s->t σ H Q->aS (model X.prog X.w) X.A (spliced (kJ pos (c9 es X.env))) (AP X ξ σ Q) X.xe s
def PS(X:Cx)(st:Stmt)(t:TS):Prop:=
 ∀ξ s (σ:St) (H:Hp) (D:M6),Inv X ξ σ H s->t D σ H->aS (model X.prog X.w) X.A (exec st X.env) (SP X ξ D) X.xe s
def PSs(X:Cx)(st:List Stmt)(t:TS):Prop:=
 ∀ξ s (σ:St) (H:Hp) (D:M6),Inv X ξ σ H s->t D σ H->aS (model X.prog X.w) X.A (execs st X.env) (SP X ξ D) X.xe s
def thn{α:Type}{t:Sem α}{Q Q':α->am->Prop}{M:nS}{A:bq}{E:Value->am->Prop}{s:am}(h:aS M A t Q E s)(hQ:∀a s,Q a s->Q' a s):aS M A t Q' E s:=bH h hQ λ_ _ x=>x
section
variable {X:Cx}
def cc3(i:Nat):TE:=λσ H Q=>∃v,σ[i]?=some (some v)/\Q v H
def tC(v:V):TE:=λ_ H Q=>Q v H
def bp3{i:Nat}{x:Str}{pos:Pos}(hN:X.N[i]?=some x)(hv:Vis X.env.scope x)(hd:(x==("__debug__" : Str))=false:=by decide)(hcd:(x==("__classdict__" : Str))=false:=by decide):PE X (.Name x pos) (cc3 i):=by
 intro ξ s σ H Q I h
 obtain⟨v,e,h⟩:=h
 obtain⟨m,hn,hl⟩:=I.loc
 obtain⟨u,r,l⟩:=hl i x v hN e hv
 have fin:EP X ξ σ Q u s:=⟨v,H,I,r,h⟩
 rcases l with⟨hk,hm⟩|⟨hk,c,hc,hcell⟩
 .exact wpAny_Name (wpAny_loadName_local I.ok.kind hk hn hm fin) hd
 .rcases hk with hk|hk
  .exact wpAny_Name (wpAny_loadName_cell I.ok.kind hk hc hcell fin) hd
  .exact wpAny_Name (wpAny_loadName_free I.ok.kind hk hc hcell fin hcd) hd
def bo7{i j pos}:PE X (.Constant (.int i) j pos) (tC (.int i)):=λ_ _ _ H _ I h=>wpAny_Constant_int ⟨.int i,H,I.tok _,⟨_,rfl⟩,h⟩
def b20{b j pos}:PE X (.Constant (.bool b) j pos) (tC (.bl b)):=λ_ _ _ H _ I h=>Constant_bool ⟨.bl b,H,I,rfl,h⟩
def bo9{j pos}:PE X (.Constant .none j pos) (tC .non):=λ_ _ _ H _ I h=>Constant_none ⟨.non,H,I,rfl,h⟩
def bp1{x j pos}:PE X (.Constant (.str x) j pos) (tC (.str x)):=λ_ _ _ H _ I h=>Calls.Constant_str ⟨.str x,H,I.tok _,⟨_,rfl⟩,h⟩
def Gl(X:Cx)(x:Str):Prop:=X.env.kindOf x=some .globalImplicit
def P7{E:Value->am->Prop}{ξ:List (Addr×Obj)}{s:am}{σ:St}{H:Hp}{x:Str}{u:Value}{pos:Pos}{Q:Value->am->Prop}(I:Inv X ξ σ H s)(hg:Gl X x)(hm:X.mg x=some u)(h:Q u s)(hd:(x==("__debug__" : Str))=false:=by decide):aS (model X.prog X.w) X.A (eval (.Name x pos) X.env) Q E s:=
 i8 I.ok.kind hg (Calls.loadGlobal_global (by rw[I.ok.glob];exact I.mod.glob.keeps I.bk) hm h) hd
def Dg{E:Value->am->Prop}{ξ:List (Addr×Obj)}{s:am}{σ:St}{H:Hp}{x:Str}{u:Value}{pos:Pos}{Q:Value->am->Prop}(I:Inv X ξ σ H s)(hg:Gl X x)(hm:X.mg x=none)(hv:cz x=some u)(h:Q u s)(hn:x ≠ "__name__" := by decide)(hd:(x==("__debug__" : Str))=false:=by decide):aS (model X.prog X.w) X.A (eval (.Name x pos) X.env) Q E s:=by
 obtain⟨mb,h1,h2⟩:=I.mod.blt
 exact i8 I.ok.kind hg (Calls.loadGlobal_builtin (by rw[I.ok.glob];exact I.mod.glob.keeps I.bk) hm (by rw[I.ok.blt];exact h1.keeps I.bk) ((h2 x hn).trans hv) h) hd
def Kx{x:Str}{v:V}{u:Value}{pos:Pos}(hg:Gl X x)(hm:X.mg x=some u)(r:RelV v u)(hd:(x==("__debug__" : Str))=false:=by decide):PE X (.Name x pos) (tC v):=
 λ_ _ _ H _ I h=>P7 I hg hm ⟨v,H,I,r,h⟩ hd
def a36{x:Str}{v:V}{u:Value}{pos:Pos}(hg:Gl X x)(hm:X.mg x=none)(hv:cz x=some u)(r:RelV v u)(hn:x ≠ "__name__" := by decide)(hd:(x==("__debug__" : Str))=false:=by decide):PE X (.Name x pos) (tC v):=
 λ_ _ _ H _ I h=>Dg I hg hm hv ⟨v,H,I,r,h⟩ hn hd
variable {a b:Expr}{ta tb:TE}{pos:Pos}
variable {tA tB':TT}{rest:List Expr}
def cb4(t u:TT):TT:=λσ H Q=>t σ H λc H1=>if c=true then u σ H1 Q else Q false H1
def tOr(t u:TT):TT:=λσ H Q=>t σ H λc H1=>if c=true then Q true H1 else u σ H1 Q
def cb9(t:TT):TT:=λσ H Q=>t σ H λc H1=>Q (!c) H1
def a47(ha:PT X a tA):PW X (.BoolOp .And [a] pos) tA:=by
 intro wh ξ s σ H Q I h
 refine isTrue_and (thn (ha ξ s σ H Q I h) λc s1 e=>?_)
 cases c with
 |true=>exact isTrue_and_nil e
 |false=>exact e
def bq1(ha:PT X a tA):PW X (.BoolOp .Or [a] pos) tA:=by
 intro wh ξ s σ H Q I h
 refine isTrue_or (thn (ha ξ s σ H Q I h) λc s1 e=>?_)
 cases c with
 |false=>exact isTrue_or_nil e
 |true=>exact e
def bq0(ha:PT X a tA)(hb:PW X (.BoolOp .And (b::rest) pos) tB'):PW X (.BoolOp .And (a::b::rest) pos) (cb4 tA tB'):=by
 intro wh ξ s σ H Q I h
 refine isTrue_and (thn (ha ξ s σ H _ I h) λc s1 ⟨H1,I1,q1⟩=>?_)
 cases c with
 |true=>exact hb wh ξ s1 σ H1 Q I1 q1
 |false=>exact⟨H1,I1,q1⟩
def b26(ha:PT X a tA)(hb:PW X (.BoolOp .Or (b::rest) pos) tB'):PW X (.BoolOp .Or (a::b::rest) pos) (tOr tA tB'):=by
 intro wh ξ s σ H Q I h
 refine isTrue_or (thn (ha ξ s σ H _ I h) λc s1 ⟨H1,I1,q1⟩=>?_)
 cases c with
 |true=>exact⟨H1,I1,q1⟩
 |false=>exact hb wh ξ s1 σ H1 Q I1 q1
def bp9(ha:PT X a tA):PT X (.UnaryOp .Not a pos) (cb9 tA):=by
 intro ξ s σ H Q I h
 exact isTrue_not (ha ξ s σ H (λc H1=>Q (!c) H1) I h)
def bp0{op}{t:TE}(h:PE X a t):PE X (.BoolOp op [a] pos) t:=λξ s σ H Q I hw=>BoolOp_one (h ξ s σ H Q I hw)
end
def SqL(K:ac)(H:Hp)(a:Addr)(xs:List V):Prop:=
 Rd H a (.lst xs) \/
  ∃o χ n,K.lookup a=some o/\o.cls=.type "list" /\ o.dict=none/\o.data=.seq χ n/\χ.size<=sizeLine/\xs.all V.pl=true/\Vals xs χ.toList
def SqT(K:ac)(H:Hp)(a:Addr)(xs:List V):Prop:=
 Rd H a (.tup xs) \/
  ∃o χ n,K.lookup a=some o/\o.cls=.type "tuple" /\ o.data=.seq χ n/\χ.size<=sizeLine/\xs.all V.pl=true/\Vals xs χ.toList
def b96:Value->Option V
 |.none=>some .non
 |.bool b=>some (.bl b)
 |.int i _=>some (.int i)
 |.str x _=>some (.str x)
 |.ref a=>some (.ref a)
 |.type n=>some (.ty n)
 |_=>none
def RelV.abs{x:V}{u:Value}(r:RelV x u)(p:x.pl=true):b96 u=some x:=by
 cases x <;> first|(cases r;rfl)|(obtain⟨t,rfl⟩:=r;rfl)
def RelV.inj{x y:V}{u:Value}(r:RelV x u)(q:RelV y u)(p:x.pl=true)(p':y.pl=true):x=y:=aG ((r.abs p).symm.trans (q.abs p'))
theorem Vals.inj:∀{xs ys} {us},Vals xs us->Vals ys us->xs.all V.pl=true->ys.all V.pl=true->xs=ys
 |_,_,_,.nil,.nil,_,_=>rfl
 | _,_,_,.cons r t,.cons r' t',p,q=>by
  simp only[b7,aV] at p q
  rw[r.inj r' p.1 q.1,Vals.inj t t' p.2 q.2]
section
variable {X:Cx}{ξ:List (Addr×Obj)}{σ:St}{H:Hp}{s:am}{a:Addr}{xs ys:List V}
def SqL.of{K:ac}(h:H a=some (.lst xs)):SqL K H a xs:=.inl (.inl h)
def SqT.of{K:ac}(h:H a=some (.tup xs)):SqT K H a xs:=.inl (.inl h)
def Inv.list(I:Inv X ξ σ H s)(h:SqL X.K H a xs):∃χ,Vals xs χ/\PlainL s.heap a χ.toArray/\xs.length<=sizeLine:=by
 rcases h with h|⟨o,χ,n,hk,hc,hd,hs,hz,_,r⟩
 .obtain⟨z,χ,n,r,e⟩:=h.ok I.hok
  exact⟨χ,r,⟨_,n,e,rfl,rfl,rfl⟩,z⟩
 .refine⟨χ.toList,r,⟨o,n,I.kIn a o hk,hc,hd,by simpa using hs⟩,?_⟩
  have e:=r.length
  simp only[bT] at e
  omega
def Inv.tuple(I:Inv X ξ σ H s)(h:SqT X.K H a xs):∃χ,Vals xs χ/\nR s.heap a χ.toArray/\xs.length<=sizeLine:=by
 rcases h with h|⟨o,χ,n,hk,hc,hs,hz,_,r⟩
 .obtain⟨z,χ,r,p⟩:=h.ok I.hok
  exact⟨χ,r,p,z⟩
 .refine⟨χ.toList,r,⟨o,I.kIn a o hk,hc,n,by simpa using hs⟩,?_⟩
  have e:=r.length
  simp only[bT] at e
  omega
def Inv.notK(I:Inv X ξ σ H s){o:HO}{ob:Obj}(h:Rd H a o)(e:X.K.lookup a=some ob):False:=by
 have n:=(I.bs a ob (I.mod.kin a ob e)).2
 rcases h with h|⟨u,h⟩
 .rw[n] at h;cases h
 .rw[n] at h;cases h
def Inv.list_inj(I:Inv X ξ σ H s)(h:SqL X.K H a xs)(h':SqL X.K H a ys):xs=ys:=by
 rcases h with h|⟨o,χ,n,hk,hc,hd,hs,hz,p,r⟩
 .rcases h' with h'|⟨o',its',n',hk',hc',hd',hs',hz',p',r'⟩
  .rcases h with h|⟨u,h⟩ <;> rcases h' with h'|⟨u',h'⟩ <;> (rw[h] at h';first|(cases h';rfl)|cases h')
  .exact (I.notK h hk').elim
 .rcases h' with h'|⟨o',its',n',hk',hc',hd',hs',hz',p',r'⟩
  .exact (I.notK h' hk).elim
  .rw[hk] at hk';cases hk'
   rw[hs] at hs';cases hs'
   exact r.inj r' p p'
def Inv.tuple_inj(I:Inv X ξ σ H s)(h:SqT X.K H a xs)(h':SqT X.K H a ys):xs=ys:=by
 rcases h with h|⟨o,χ,n,hk,hc,hs,hz,p,r⟩
 .rcases h' with h'|⟨o',its',n',hk',hc',hs',hz',p',r'⟩
  .rcases h with h|⟨u,h⟩ <;> rcases h' with h'|⟨u',h'⟩ <;> (rw[h] at h';first|(cases h';rfl)|cases h')
  .exact (I.notK h hk').elim
 .rcases h' with h'|⟨o',its',n',hk',hc',hs',hz',p',r'⟩
  .exact (I.notK h' hk).elim
  .rw[hk] at hk';cases hk'
   rw[hs] at hs';cases hs'
   exact r.inj r' p p'
end
abbrev Cx.wish(X:Cx)(E:Value->am->Prop):Cx:={X with xe:=E}
abbrev Cx.nox(X:Cx):Cx:=X.wish λ_ _=>False
theorem Cx.Ok.wish{X:Cx}(ok:X.Ok)(E:Value->am->Prop):(X.wish E).Ok:=
 ⟨ok.mod,ok.kind,ok.glob,ok.blt,ok.above,ok.inj,ok.has,ok.cab,ok.hd,ok.frames,ok.stk,ok.exf,ok.bs,ok.bsz,ok.noex,ok.exfs,ok.funs,ok.frf,ok.tk⟩
def Cx.Ok.unwish{X:Cx}{E:Value->am->Prop}(ok:(X.wish E).Ok):X.Ok:=
 ⟨ok.mod,ok.kind,ok.glob,ok.blt,ok.above,ok.inj,ok.has,ok.cab,ok.hd,ok.frames,ok.stk,ok.exf,ok.bs,ok.bsz,ok.noex,ok.exfs,ok.funs,ok.frf,ok.tk⟩
section
variable {X:Cx}{ξ:List (Addr×Obj)}{σ:St}{H:Hp}{s:am}{E:Value->am->Prop}
theorem Inv.wish(I:Inv X ξ σ H s)(E:Value->am->Prop):Inv (X.wish E) ξ σ H s:=⟨I.ok.wish E,I.os,I.bare,I.base,I.loc,I.cell,I.free,I.freeC,I.pin,I.hok,I.len⟩
theorem Inv.unwish(I:Inv (X.wish E) ξ σ H s):Inv X ξ σ H s:=⟨I.ok.unwish,I.os,I.bare,I.base,I.loc,I.cell,I.free,I.freeC,I.pin,I.hok,I.len⟩
theorem SP.unwish{D:M6}{f:Flow}{s':am}(h:SP (X.wish E) ξ D f s'):SP X ξ D f s':=by
 cases f with
 |next=>obtain⟨σ',H',I,q⟩:=h;exact⟨σ',H',I.unwish,q⟩
 |brk=>obtain⟨σ',H',I,q⟩:=h;exact⟨σ',H',I.unwish,q⟩
 |cont=>obtain⟨σ',H',I,q⟩:=h;exact⟨σ',H',I.unwish,q⟩
 |ret u=>obtain⟨v,σ',H',I,r,q⟩:=h;exact⟨v,σ',H',I.unwish,r,q⟩
theorem PE.nox{e:Expr}{t:TE}(h:PE X.nox e t):PE X e t:=λξ s σ H Q I hw=>
 bH (h ξ s σ H Q (I.wish _) hw) (λ_ _ ⟨v,H',I',r,q⟩=>⟨v,H',I'.unwish,r,q⟩) λ_ _ z=>bR z
theorem PSs.nox{st:List Stmt}{t:TS}(h:PSs X.nox st t):PSs X st t:=λξ s σ H D I hw=>
 bH (h ξ s σ H D (I.wish _) hw) (λ_ _ q=>q.unwish) λ_ _ z=>bR z
end
section
variable {X:Cx}{st:Stmt}{rest:List Stmt}{t u:TS}{e:Expr}{te:TE}{pos:Pos}
def bc4:TS:=λD σ H=>D.nx σ H
def cc1(t u:TS):TS:=λD σ H=>t {D with nx:=u D} σ H
def a44:PSs X [] bc4:=λ_ _ σ H _ I h=>i6 ⟨σ,H,I,h⟩
def ao8(h1:PS X st t)(h2:PSs X rest u):PSs X (st::rest) (cc1 t u):=by
 intro ξ s σ H D I h
 refine wpAny_execs_cons (thn (h1 ξ s σ H {D with nx:=u D} I h) λf s1 q=>?_)
 cases f with
 |next=>
  obtain⟨σ',H',I',q⟩:=q
  exact h2 ξ s1 σ' H' D I' q
 |ret v=>exact q
 |brk=>exact q
 |cont=>exact q
def a42:PS X (.Pass pos) bc4:=λ_ _ σ H _ I h=>wpAny_Pass ⟨σ,H,I,h⟩
def Inv.quiet{ξ:List (Addr×Obj)}{σ:St}{H:Hp}{s:am}(I:Inv X ξ σ H s):interactive X.env=false:=by simp[interactive,I.ok.kind]
def b41(te:TE):TS:=λD σ H=>te σ H λ_ H1=>D.nx σ H1
def a41(he:PE X e te)(hs:jH e none pos.line X.env=pure false:=by rfl):PS X (.Expr e pos) (b41 te):=by
 intro ξ s σ H D I h
 exact wpAny_Expr_any (thn (he ξ s σ H _ I h) λv s1 ⟨x,H1,I1,r1,q1⟩=>⟨σ,H1,I1,q1⟩) I.quiet hs
def cc0(te:TE):TS:=λD σ H=>te σ H D.rt
def bp7(he:PE X e te):PS X (.Return (some e) pos) (cc0 te):=by
 intro ξ s σ H D I h
 exact wpAny_Return_some (thn (he ξ s σ H _ I h) λv s1 ⟨x,H1,I1,r1,q1⟩=>⟨x,σ,H1,I1,r1,q1⟩)
def b42:TS:=λD _ H=>D.rt .non H
def a43:PS X (.Return none pos) b42:=λ_ _ σ H _ I h=>wpAny_Return_none ⟨.non,σ,H,I,rfl,h⟩
def cb6(c:TT)(t u:TS):TS:=λD σ H=>c σ H λb H1=>if b=true then t D σ H1 else u D σ H1
def b25{c:Expr}{a b:List Stmt}{tc:TT}(hc:PT X c tc)(ha:PSs X a t)(hb:PSs X b u):PS X (.If c a b pos) (cb6 tc t u):=by
 intro ξ s σ H D I h
 refine wpAny_If (thn (hc ξ s σ H _ I h) λd s1 ⟨H1,I1,q1⟩=>?_)
 cases d with
 |true=>exact ha ξ s1 σ H1 D I1 q1
 |false=>exact hb ξ s1 σ H1 D I1 q1
end
abbrev TG:=V->St->Hp->(St->Hp->Prop)->Prop
abbrev TGs:=List V->St->Hp->(St->Hp->Prop)->Prop
def PG(X:Cx)(target:Expr)(t:TG):Prop:=
 ∀ξ s (σ:St) (H:Hp) (v:V) (u:Value) (Q:St->Hp->Prop),Inv X ξ σ H s->RelV v u->t v σ H Q ->
  aS (model X.prog X.w) X.A (nu target X.env u) (λ_ s'=>∃ σ' H',Inv X ξ σ' H' s'/\Q σ' H') X.xe s
def PGs(X:Cx)(ts:List Expr)(t:TGs):Prop:=
 ∀ξ s (σ:St) (H:Hp) (vs:List V) (us:List Value) (Q:St->Hp->Prop),Inv X ξ σ H s->Vals vs us->t vs σ H Q ->
  aS (model X.prog X.w) X.A (assignInOrder ((dq ts X.env).map (·.2)) us) (λ_ s'=>∃ σ' H',Inv X ξ σ' H' s'/\Q σ' H') X.xe s
abbrev be7:=V->V->V->Hp->(Hp->Prop)->Prop
def bu6(X:Cx)(t:be7):Prop:=
 ∀ξ s (σ:St) (H:Hp) (o i v:V) (ov iv u:Value) (Q:Hp->Prop),Inv X ξ σ H s->RelV o ov->RelV i iv->RelV v u->t o i v H Q ->
  aS (model X.prog X.w) X.A (setItem ov iv u) (λ_ s'=>∃H',Inv X ξ σ H' s'/\Q H') X.xe s
section
variable {X:Cx}{pos:Pos}
def aj4(i:Nat):TG:=λv σ H Q=>Q (σ.set i (some v)) H
def a38{i:Nat}{x:Str}(hN:X.N.Nodup)(hi:X.N[i]?=some x)(hx:Loc X.env.scope x)(hf:X.fn x=true\/X.env.scope.names.lookup x=some .local:=by trivial):PG X (.Name x pos) (aj4 i):=by
 intro ξ s σ H v u Q I r h
 exact wpAny_assign_Name (Ie I hN hi hx r (λs' I'=>⟨_,H,I',h⟩) hf)
def ca0:TGs:=λvs σ H Q=>vs=[]/\Q σ H
def bw3(t:TG)(u:TGs):TGs:=λvs σ H Q=>∃v r,vs=v::r/\t v σ H λσ' H'=>u r σ' H' Q
def a39:PGs X [] ca0:=by
 intro ξ s σ H vs us Q I r h
 obtain⟨e,h⟩:=h
 subst e
 cases r
 exact assignInOrder_nil ⟨σ,H,I,h⟩
def ao0{e:Expr}{es:List Expr}{t:TG}{u:TGs}(h1:PG X e t)(h2:PGs X es u)(hs:(dq (e::es) X.env).map (·.2)=nu e X.env::(dq es X.env).map (·.2):=by rfl):PGs X (e::es) (bw3 t u):=by
 intro ξ s σ H vs us Q I r h
 obtain⟨v,vr,e1,h⟩:=h
 subst e1
 cases r with
 |cons r rr=>
  rw[hs]
  exact assignInOrder_cons (thn (h1 ξ s σ H _ _ _ I r h) λ_ s1 ⟨σ1,H1,I1,q1⟩=>(h2 ξ s1 σ1 H1 _ _ Q I1 rr q1))
def ca2(K:ac)(n:Nat)(t:TGs):TG:=λv σ H Q=>∃a xs,v=.ref a/\SqT K H a xs/\xs.length=n/\t xs σ H Q
def bp5{es:List Expr}{k:Nat}{t:TGs}{n:Nat}(hc:X.calm=true)(h:PGs X es t)(hn:(dq es X.env).length=n:=by rfl)(hst:(dq es X.env).findIdx? (·.1)=none:=by rfl):PG X (.Tuple es k pos) (ca2 X.K n t):=by
 intro ξ s σ H v u Q I r hw
 obtain⟨a,xs,e1,hq,hl,hw⟩:=hw
 subst e1
 cases r
 obtain⟨χ,rv,ht,hz⟩:=I.tuple hq
 refine assign_Tuple_tuple (I.ok.hd hc) ht (by simp[hn,<- hl,rv.length]) hst λh' hx=>?_
 have I1:=I.kept λb o e=>hx b o (aR (aH e)) e
 exact h ξ _ σ H xs _ Q I1 (rv) hw
def ca1(to ti:TE)(t:be7):TG:=λv σ H Q=>to σ H λo H1=>ti σ H1 λi H2=>t o i v H2 λH3=>Q σ H3
def bp4{o i:Expr}{to ti:TE}{t:be7}(ho:PE X o to)(hi:PE X i ti)(hs:bu6 X t)(ha:∀v,nu (.Subscript o i pos) X.env v=(do
   let ov <- holding [v] (eval o X.env)
   let iv <- holding [v,ov] (eval i X.env)
   standAt pos
   holding [v,ov,iv] (setItem ov iv v)
   release [v,ov,iv] []):=by intro _;rfl):PG X (.Subscript o i pos) (ca1 to ti t):=by
 intro ξ s σ H v u Q I r h
 rw[ha]
 refine af (bC (thn (ho ξ s σ H _ I h) λov s1 ⟨x,H1,I1,r1,q1⟩=>?_))
 refine af (bC (thn (hi ξ s1 σ H1 _ I1 q1) λiv s2 ⟨y,H2,I2,r2,q2⟩=>?_))
 exact af (eh (af (bC (thn (hs ξ s2 σ H2 x y v ov iv u _ I2 r1 r2 r q2) λ_ s3 ⟨H3,I3,q3⟩=>(wpAny_release ⟨σ,H3,I3,q3⟩)))))
def bt1(te:TE)(g:TG):TS:=λD σ H=>te σ H λx H1=>g x σ H1 D.nx
def ao5{tg e:Expr}{te:TE}{g:TG}(he:PE X e te)(hg:PG X tg g)(hs:swapsWithSole [tg] e pos.line X.env=pure false:=by rfl)(hw:swappedStores [tg] e X.env=pure none:=by rfl)(h1:(dq [tg] X.env).map (·.2)=[nu tg X.env]:=by rfl):PS X (.Assign [tg] e pos) (bt1 te g):=by
 intro ξ s σ H D I h
 refine wpAny_Assign_stores (thn (he ξ s σ H _ I h) λv s1 ⟨x,H1,I1,r1,q1⟩=>?_) hs hw
 rw[h1]
 exact thn (hg ξ s1 σ H1 x v _ I1 r1 q1) λ_ s2 q=>q
def bp8{i:Nat}{x:Str}{e:Expr}{te:TE}{pos':Pos}(hN:X.N.Nodup)(hi:X.N[i]?=some x)(hx:Loc X.env.scope x)(he:PE X e te)(hs:jH e (some (.Name x pos')) pos.line X.env=pure false:=by rfl)(hf:X.fn x=true\/X.env.scope.names.lookup x=some .local:=by trivial) :
  PS X (.Assign [.Name x pos'] e pos) (bt1 te (aj4 i)):=by
 intro ξ s σ H D I h
 exact wpAny_Assign_Name (thn (he ξ s σ H _ I h) λv s1 ⟨y,H1,I1,r1,q1⟩=>(Ie I1 hN hi hx r1 (λs2 I2=>⟨_,H1,I2,q1⟩) hf)) hs
def bt2(c:TT)(tb:TS):TS:=λD σ H=>∃W:Nat->St->Hp->Prop,(∃m,W m σ H)/\∀m σ H,W m σ H ->
 c σ H λb H1=>if b=true then ∃N,(∀ σ' H',N σ' H' -> ∃m',m'<m/\W m' σ' H')/\tb {D with nx:=N,ct:=N,bk:=D.nx} σ H1 else D.nx σ H1
def ao7{c:Expr}{body:List Stmt}{tc:TT}{tb:TS}(hp:g7 (model X.prog X.w) X.A X.env X.xe)(hc:PT X c tc)(hb:PSs X body tb):PS X (.While c body [] pos) (bt2 tc tb):=by
 intro ξ s σ H D I h
 obtain⟨W,⟨m0,w0⟩,turn⟩:=h
 refine wpAny_While (codeAny_whileLoop (λn s'=>∃ σ' H',Inv X ξ σ' H' s'/\W n σ' H') ?_ m0 ⟨σ,H,I,w0⟩)
 rintro n s1 ⟨σ1,H1,I1,w1⟩
 refine e_ hp (thn (hc ξ s1 σ1 H1 _ I1 (turn n σ1 H1 w1)) λb s2 ⟨H2,I2,q2⟩=>?_)
 cases b with
 |true=>
  obtain⟨N,hN,q2⟩:=q2
  rw[if_pos rfl]
  refine e_ hp (thn (hb ξ s2 σ1 H2 _ I2 q2) λf s3 q3=>?_)
  cases f with
  |next=>
   obtain⟨σ3,H3,I3,n3⟩:=q3
   obtain⟨m',hm,w3⟩:=hN σ3 H3 n3
   exact⟨m',hm,σ3,H3,I3,w3⟩
  |cont=>
   obtain⟨σ3,H3,I3,n3⟩:=q3
   obtain⟨m',hm,w3⟩:=hN σ3 H3 n3
   exact⟨m',hm,σ3,H3,I3,w3⟩
  |brk=>exact q3
  |ret v=>exact q3
 |false=>
  rw[if_neg aA]
  exact i6 ⟨σ1,H2,I2,q2⟩
end
structure It where
 go:Nat->Hp->Prop
 yld:Nat->Hp->V->Hp->Prop
 stop:Nat->Hp->Prop
def Cy(X:Cx)(ξ:List (Addr×Obj))(H:Hp)(b:Addr):Prop:=
 H b=none/\b≠X.env.locals/\b∉X.fs/\(b∈X.ex\/X.s₀.heap.objs.size<=b)/\(∀x c,X.env.cells.lookup x=some c->c≠b)/\∀p∈X.pn++ξ,p.1≠b
def Inv.fpOk{X:Cx}{ξ:List (Addr×Obj)}{σ:St}{H H':Hp}{s:am}{b:Addr}(I:Inv X ξ σ H s)(hb:s.heap.objs.size<=b)(hn:H' b=none):Cy X ξ H' b:=by
 refine⟨hn,gQ (aL I.lt hb),I.nofs hb,.inr (aT I.sz hb),λx c e z=>?_,λp hp z=>?_⟩
 .obtain⟨v,q⟩:=I.cell x c e
  exact absurd (aL q.lt (by rw[z];exact hb)) (gj _)
 .exact absurd (aL (aH (I.pin p hp).1) (by rw[z];exact hb)) (gj _)
structure M8 (P:aO) (w:bw) (K:ac) (tg:Expr) (J:It) (fp:List Addr) (it:Addr) (tn:Nat->Heap->Prop):Prop where
 mem:it∈fp
 obj:∀i h,tn i h -> ∀b∈fp,∃o,h.get? b=some o/\∀v,o.data≠.cell v
 keep:∀i h h',tn i h->(∀b∈fp,∀o,h.get? b=some o->h'.get? b=some o)->tn i h'
 item:∀(X:Cx),X.prog=P->X.w=w->X.K=K->X.calm=true -> ∀(i:Nat)(ξ:List (Addr×Obj))(s:am)(σ:St)(H:Hp)(E:Value->am->Prop),Inv X ξ σ H s->(∀b∈fp,Cy X ξ H b)->tn i s.heap->J.go i H ->
  aS (model P w) X.A (mZ (.ref it)) (λr s1=>∃u,r=some u /\
   aS (model P w) X.A (kM tg (.ref it) u) (λ_ s2=>∃x H',Inv X ξ σ H' s2/\RelV x u/\J.yld i H x H'/\tn (i+1) s2.heap/\∀b∈fp,H' b=none) E s1) E s
 done:∀(X:Cx),X.prog=P->X.w=w->X.K=K->X.calm=true -> ∀(i:Nat)(ξ:List (Addr×Obj))(s:am)(σ:St)(H:Hp)(E:Value->am->Prop),Inv X ξ σ H s->(∀b∈fp,Cy X ξ H b)->tn i s.heap->J.stop i H ->
  aS (model P w) X.A (mZ (.ref it)) (λr s1=>r=none/\Inv X ξ σ H s1) E s
 self:∀(A:bq)(i:Nat)(s:am)(Q:Value->am->Prop)(E:Value->am->Prop),tn i s.heap->Q (.ref it) s->aS (model P w) A (mY (.ref it)) Q E s
abbrev TI:=St->Hp->(It->Hp->Prop)->Prop
def PIE(X:Cx)(ξ:List (Addr×Obj))(σ:St)(tg:Expr)(R:It->Hp->Prop)(itv:Value)(s2:am):Prop:=
 ∃it fp tn J H',itv=.ref it/\Inv X ξ σ H' s2/\M8 X.prog X.w X.K tg J fp it tn/\tn 0 s2.heap/\(∀b∈fp,Cy X ξ H' b)/\R J H'
def PI(X:Cx)(tg iter:Expr)(wi:TI):Prop:=
 ∀ξ s (σ:St) (H:Hp) (R:It->Hp->Prop),Inv X ξ σ H s->wi σ H R ->
  aS (model X.prog X.w) X.A (eval iter X.env) (λv s1=>aS (model X.prog X.w) X.A (mY v) (PIE X ξ σ tg R) X.xe s1) X.xe s
def Lf{M:nS}{A:bq}{E:Value->am->Prop}{s:am}{tg:Expr}{it:Addr}{u:Value}{o:Obj}{n:String}{vs:Array Value}{Q:Unit->am->Prop}(ho:s.heap.get? it=some o)(hc:o.cls=.type n)(hd:o.data=.fields vs)(hn:["enumerate","zip","dict_itemiterator","dict_reverseitemiterator","odict_iterator","itertools.zip_longest","itertools.pairwise"].contains n=false)(hQ:Q () s):aS M A (kM tg (.ref it) u) Q E s:=by
  cases tg <;> first
    |exact aq hQ
    | (cases u <;> first
        |exact aq hQ
        | (refine af (wpAny_load ho ?_)
           rw[hc,hd]
           show aS M A (if(["enumerate","zip","dict_itemiterator","dict_reverseitemiterator","odict_iterator","itertools.zip_longest","itertools.pairwise"].contains n&&vs[0]? == some (eZ _))=true then _ else _) Q E s
           rw[if_neg (by intro h;rw[hn,lG] at h;cases h)]
           exact aq hQ))
def Itl(K:ac)(a:Addr):It:=
 ⟨λi H=>∃xs x,SqL K H a xs/\xs[i]?=some x,λi H x H'=>H'=H/\∀xs,SqL K H a xs->xs[i]?=some x,λi H=>∃xs,SqL K H a xs/\xs.length<=i⟩
def Itt(K:ac)(a:Addr):It:=
 ⟨λi H=>∃xs x,SqT K H a xs/\xs[i]?=some x,λi H x H'=>H'=H/\∀xs,SqT K H a xs->xs[i]?=some x,λi H=>∃xs,SqT K H a xs/\xs.length<=i⟩
def Itr(lo:Int)(n:Nat):It:=⟨λi _=>i<n,λi H x H'=>H'=H/\x=.int (lo+i),λi _=>n<=i⟩
def ac9{P:aO}{w:bw}{K:ac}{tg:Expr}(a it:Addr):M8 P w K tg (Itl K a) [it] it (λi h=>h.IsListIter it a i) where
 mem:=by simp
 obj:=λi h st b hb=>by
  have e:b=it:=by simpa using hb
  subst e
  obtain⟨o,e,c,d⟩:=st
  exact⟨o,e,λv z=>by rw[d] at z;cases z⟩
 keep:=λi h h' st k=>st.at λo e=>k it (by simp) o e
 item:=by
  intro X hP hw hK hc i ξ s σ H E I hf st hg
  subst hP hw hK
  obtain⟨xs,x,hq,hx⟩:=hg
  obtain⟨χ,rv,p,hz⟩:=I.list hq
  obtain⟨u,hu,ru⟩:=rv.get hx
  obtain⟨f0,f1,f2,f3,f4,f5⟩:=hf it (by simp)
  refine wpAny_pyNext_list_item st p.isList (by simpa using hu) λh' st' sb=>?_
  have I1:=I.turned (λb o hb e=>(sb.2 b hb).trans e) f0 f1 f3 f4 f5
  obtain⟨o,e,c,d⟩:=id st'
  exact⟨u,rfl,Lf e c d (by decide) ⟨x,H,I1,ru,⟨rfl,λys hy=>by rw[I.list_inj hy hq];exact hx⟩,st',λb hb=>(hf b hb).1⟩⟩
 done:=by
  intro X hP hw hK hc i ξ s σ H E I hf st hg
  subst hP hw hK
  obtain⟨xs,hq,hx⟩:=hg
  obtain⟨χ,rv,p,hz⟩:=I.list hq
  obtain⟨f0,f1,f2,f3,f4,f5⟩:=hf it (by simp)
  have hl:=rv.length
  exact wpAny_pyNext_list_end (I.ok.hd hc) st p.isList (by simp;omega) λh' eb=>⟨rfl,I.turned (eb) f0 f1 f3 f4 f5⟩
 self:=λ_ _ _ _ _ st h=>wpAny_pyIter_listiter st h
def W2{P:aO}{w:bw}{K:ac}{tg:Expr}(a it:Addr):M8 P w K tg (Itt K a) [it] it (λi h=>h.IsTupleIter it a i) where
 mem:=by simp
 obj:=λi h st b hb=>by
  have e:b=it:=by simpa using hb
  subst e
  obtain⟨o,e,c,d⟩:=st
  exact⟨o,e,λv z=>by rw[d] at z;cases z⟩
 keep:=λi h h' st k=>st.at λo e=>k it (by simp) o e
 item:=by
  intro X hP hw hK hc i ξ s σ H E I hf st hg
  subst hP hw hK
  obtain⟨xs,x,hq,hx⟩:=hg
  obtain⟨χ,rv,p,hz⟩:=I.tuple hq
  obtain⟨u,hu,ru⟩:=rv.get hx
  obtain⟨f0,f1,f2,f3,f4,f5⟩:=hf it (by simp)
  refine wpAny_pyNext_tuple_item st (p) (by simpa using hu) λh' st' sb=>?_
  have I1:=I.turned (λb o hb e=>(sb.2 b hb).trans e) f0 f1 f3 f4 f5
  obtain⟨o,e,c,d⟩:=id st'
  exact⟨u,rfl,Lf e c d (by decide) ⟨x,H,I1,ru,⟨rfl,λys hy=>by rw[I.tuple_inj hy hq];exact hx⟩,st',λb hb=>(hf b hb).1⟩⟩
 done:=by
  intro X hP hw hK hc i ξ s σ H E I hf st hg
  subst hP hw hK
  obtain⟨xs,hq,hx⟩:=hg
  obtain⟨χ,rv,p,hz⟩:=I.tuple hq
  obtain⟨f0,f1,f2,f3,f4,f5⟩:=hf it (by simp)
  have hl:=rv.length
  exact wpAny_pyNext_tuple_end (I.ok.hd hc) st (p) (by simp;omega) λh' eb=>⟨rfl,I.turned (eb) f0 f1 f3 f4 f5⟩
 self:=λ_ _ _ _ _ st h=>wpAny_pyIter_tupleiter st h
def W1{P:aO}{w:bw}{K:ac}{tg:Expr}(it:Addr)(lo:Int)(n:Nat):M8 P w K tg (Itr lo n) [it] it (λi h=>IsRangeIter h it (lo+(i:Nat)*1) ((n:Int)-(i:Nat)) 1) where
 mem:=by simp
 obj:=λi h st b hb=>by
  have e:b=it:=by simpa using hb
  subst e
  exact⟨_,st,λv z=>by
   have z':=z
   cases z'⟩
 keep:=λi h h' st k=>k it (by simp) _ st
 item:=by
  intro X hP hw hK hc i ξ s σ H E I hf st hg
  subst hP hw hK
  obtain⟨f0,f1,f2,f3,f4,f5⟩:=hf it (by simp)
  have W:=Walks.range (prog:=X.prog) (w:=X.w) (I.ok.hd hc) it lo 1 n
  refine bF (ag _) (W.item i s _ _ hg st λv h' tk hv st' kk htk=>?_)
  obtain⟨t,rfl⟩:=hv
  have I1:Inv X ξ σ H {s with heap:=h',toks:=tk}:=I.turned (λb o hb e=>kk b o (by simpa using hb) e) f0 f1 f3 f4 f5
  refine⟨_,rfl,Lf st' rfl rfl (by decide) ⟨.int (lo+i),H,I1,⟨t,?_⟩,⟨rfl,rfl⟩,st',λb hb=>(hf b hb).1⟩⟩
  rw[Int.mul_one]
 done:=by
  intro X hP hw hK hc i ξ s σ H E I hf st hg
  subst hP hw hK
  obtain⟨f0,f1,f2,f3,f4,f5⟩:=hf it (by simp)
  exact wpAny_pyNext_range_end (I.ok.hd hc) st (by have:n<=i:=hg;omega) λh' eb=>⟨rfl,I.turned (eb) f0 f1 f3 f4 f5⟩
 self:=λ_ _ _ _ _ st h=>wpAny_pyIter_rangeiter st h
section
variable {X:Cx}{tg:Expr}
def Tt{ξ:List (Addr×Obj)}{σ:St}{H:Hp}{s:am}{R:It->Hp->Prop}{E:Value->am->Prop}{lo hi:Int}{t u v:Tok}{tk:Nat}(I:Inv X ξ σ H s)(htk:s.toks<=tk)(h1:-(2^62)<=lo)(h2:lo<2^62)(h3:-(2^62)<=hi)(h4:hi<2^62)(q:R (Itr lo (hi-lo).toNat) H):aS (model X.prog X.w) X.A (mY (.ref s.heap.objs.size)) (PIE X ξ σ tg R) E {s with heap:=s.heap.push {cls:=.type "range", data:=.fields #[.int lo t,.int hi u,.int 1 v]},toks:=tk}:=by
 refine wpAny_pyIter_range (IsRange.new ..) (small_one h1 h2 h3 h4) ?_
 have I1:Inv X ξ σ H {s with heap:=s.heap.push {cls:=.type "range", data:=.fields #[.int lo t,.int hi u,.int 1 v]},toks:=tk}:=I.kept λb o e=>ah _ e
 refine⟨(s.heap.push {cls:=.type "range", data:=.fields #[.int lo t,.int hi u,.int 1 v]}).objs.size,[(s.heap.push {cls:=.type "range", data:=.fields #[.int lo t,.int hi u,.int 1 v]}).objs.size],_,_,H,rfl,
  I1.kept λb o e=>ah _ e,W1 _ lo (hi-lo).toNat,?_,λb hb=>?_,q⟩
 .have e1:lo+((0:Nat):Int)*1=lo:=by simp
  have e2:(((hi-lo).toNat:Nat):Int)-((0:Nat):Int)=Builtin.Range.rangeSize lo hi 1:=by rw[rangeSize_one];split <;> omega
  rw[e1,e2]
  exact aD _ rfl
 .have e:b=(s.heap.push {cls:=.type "range", data:=.fields #[.int lo t,.int hi u,.int 1 v]}).objs.size:=by simpa using hb
  subst e
  exact I1.fpOk (ag _) (I1.hok.fresh (ag _))
def cb5(wi:TI)(g:TG)(tb:TS):TS:=λD σ H=>wi σ H λJ H1=>∃W:Nat->Nat->St->Hp->Prop,(∃m,W 0 m σ H1)/\∀i m σ H,W i m σ H ->
 (J.stop i H/\D.nx σ H)\/(J.go i H/\∃N,(∀ σ' H',N σ' H' -> ∃m',m'<m/\W (i+1) m' σ' H')/\∀x H',J.yld i H x H'->g x σ H' λσ2 H2=>tb {D with nx:=N,ct:=N,bk:=D.nx} σ2 H2)
def Jk(fp:List Addr)(h:Heap):List (Addr×Obj):=fp.filterMap λb=>(h.get? b).map λo=>(b,o)
def E0{fp:List Addr}{h:Heap}{b:Addr}{o:Obj}(hb:b∈fp)(e:h.get? b=some o):(b,o)∈Jk fp h:=List.mem_filterMap.mpr ⟨b,hb,by rw[e];rfl⟩
def aa1{fp:List Addr}{h:Heap}{p:Addr×Obj}(hp:p∈Jk fp h):p.1∈fp/\h.get? p.1=some p.2:=by
 obtain⟨b,hb,e⟩:=List.mem_filterMap.mp hp
 cases q:h.get? b with
 |none=>rw[q] at e;cases e
 |some o=>
  rw[q] at e
  have e':=aG e
  subst e'
  exact⟨hb,q⟩
def Inv.pinned{ξ:List (Addr×Obj)}{σ:St}{H:Hp}{s:am}{fp:List Addr}(I:Inv X ξ σ H s)(hf:∀b∈fp,Cy X ξ H b)(ho:∀b∈fp,∃o,s.heap.get? b=some o/\∀v,o.data≠.cell v):Inv X (ξ++Jk fp s.heap) σ H s:=
 I.pins_of λp hp=>(List.mem_append.mp hp).elim (λz=>I.pin p (aE _ z)) λz=>by
  obtain⟨hb,e⟩:=aa1 z
  obtain⟨f0,f1,f2,_⟩:=hf p.1 hb
  obtain⟨o,e',d⟩:=ho p.1 hb
  rw[e] at e';cases e'
  exact⟨e,f0,f1,f2,d⟩
def Inv.unpinned{ξ pl:List (Addr×Obj)}{σ:St}{H:Hp}{s:am}(I:Inv X (ξ++pl) σ H s):Inv X ξ σ H s:=I.pins_of λp hp=>I.pin p (aE _ (bn _ hp))
def bp6{iter:Expr}{body:List Stmt}{wi:TI}{g:TG}{tb:TS}{pos:Pos}(hp:g7 (model X.prog X.w) X.A X.env X.xe)(hc:X.calm=true)(hi:PI X tg iter wi)(hg:PG X tg g)(hb:PSs X body tb)(hs:∀x,gr iter X.env x=pure x:=by intro _;rfl):PS X (.For tg iter body [] pos) (cb5 wi g tb):=by
 intro ξ s σ H D I h
 refine wpAny_For (thn (hi ξ s σ H _ I h) λv s1 h1=>thn h1 λitv s2 h2=>?_) hs
 obtain⟨it,fp,tn,J,H2,e,I2,T,st2,f2,W,⟨m0,w0⟩,turn⟩:=h2
 subst e
 have stat:∀{H':Hp},(∀b∈fp,H' b=none) -> ∀b∈fp,Cy X ξ H' b:=λhn b hb=>⟨hn b hb,(f2 b hb).2⟩
 refine codeAny_forLoop_any (λn s'=>∃i σ' H',Inv X ξ σ' H' s'/\tn i s'.heap/\(∀b∈fp,H' b=none)/\W i n σ' H') ?_ m0 ⟨0,σ,H2,I2,st2,λb hb=>(f2 b hb).1,w0⟩
 rintro n s3 ⟨i,σ3,H3,I3,st3,fr3,w3⟩
 rcases turn i n σ3 H3 w3 with⟨stop,qn⟩|⟨go,N,hN,step⟩
 .refine e_ hp (thn (T.done X rfl rfl rfl hc i ξ s3 σ3 H3 X.xe I3 (stat fr3) st3 stop) λr s4 ⟨hr,I4⟩=>?_)
  subst hr
  exact i6 ⟨σ3,H3,I4,qn⟩
 .refine e_ hp (thn (T.item X rfl rfl rfl hc i ξ s3 σ3 H3 X.xe I3 (stat fr3) st3 go) λr s4 ⟨u,hr,h4⟩=>?_)
  subst hr
  refine e_ hp (thn h4 λ_ s5 ⟨x,H5,I5,r5,y5,st5,fr5⟩=>?_)
  have I5':=I5.pinned (stat fr5) (T.obj _ _ st5)
  refine e_ hp (thn (hg _ s5 σ3 H5 x u _ I5' r5 (step x H5 y5)) λ_ s6 ⟨σ6,H6,I6,q6⟩=>?_)
  refine e_ hp (thn (hb _ s6 σ6 H6 _ I6 q6) λf s7 q7=>?_)
  have again:∀{σ7:St}{H7:Hp},Inv X (ξ++Jk fp s5.heap) σ7 H7 s7->N σ7 H7 -> ∃m,m<n/\∃i σ' H',Inv X ξ σ' H' s7/\tn i s7.heap/\(∀b∈fp,H' b=none)/\W i m σ' H':=λ{σ7 H7} I7 n7=>by
   obtain⟨m',hm,w7⟩:=hN σ7 H7 n7
   refine⟨m',hm,i+1,σ7,H7,I7.unpinned,T.keep _ _ _ st5 λb hb o e=>(I7.pin (b,o) (aE _ (aE _ (E0 hb e)))).1,λb hb=>?_,w7⟩
   obtain⟨o,e,d⟩:=T.obj _ _ st5 b hb
   exact(I7.pin (b,o) (aE _ (aE _ (E0 hb e)))).2.1
  cases f with
  |next=>obtain⟨σ7,H7,I7,n7⟩:=q7;exact again I7 n7
  |cont=>obtain⟨σ7,H7,I7,n7⟩:=q7;exact again I7 n7
  |brk=>obtain⟨σ7,H7,I7,q7⟩:=q7;exact⟨σ7,H7,I7.unpinned,q7⟩
  |ret v=>obtain⟨x7,σ7,H7,I7,r7,q7⟩:=q7;exact⟨x7,σ7,H7,I7.unpinned,r7,q7⟩
end
abbrev R2:=V->V->Hp->VK->Prop
def OpR(X:Cx)(f:Value->Value->Sem Value)(r:R2):Prop:=
 ∀ξ s (σ:St) (H:Hp) (x y:V) (v u:Value) (Q:VK),Inv X ξ σ H s->RelV x v->RelV y u->r x y H Q ->
  aS (model X.prog X.w) X.A (f v u) (EP X ξ σ Q) X.xe s
def UnR(X:Cx)(f:Value->Sem Value)(r:V->Hp->VK->Prop):Prop:=
 ∀ξ s (σ:St) (H:Hp) (x:V) (v:Value) (Q:VK),Inv X ξ σ H s->RelV x v->r x H Q ->
  aS (model X.prog X.w) X.A (f v) (EP X ξ σ Q) X.xe s
def Cj(X:Cx)(f:Value)(r:List V->Hp->VK->Prop):Prop:=
 ∀ξ s (σ:St) (H:Hp) (xs:List V) (us:List Value) (Q:VK),Inv X ξ σ H s->Vals xs us->r xs H Q ->
  aS (model X.prog X.w) X.A (call f us) (EP X ξ σ Q) X.xe s
def bv2(X:Cx)(r:V->Hp->(Bool->Hp->Prop)->Prop):Prop:=
 ∀ξ s (σ:St) (H:Hp) (x:V) (v:Value) (Q:Bool->Hp->Prop),Inv X ξ σ H s->RelV x v->r x H Q ->
  aS (model X.prog X.w) X.A (truthy v) (TP X ξ σ Q) X.xe s
def tOp(r:R2)(ta tb:TE):TE:=λσ H Q=>ta σ H λx H1=>tb σ H1 λy H2=>r x y H2 Q
def tUn(r:V->Hp->VK->Prop)(ta:TE):TE:=λσ H Q=>ta σ H λx H1=>r x H1 Q
def rI(C:Int->Int->Prop)(g:Int->Int->V):R2:=λx y H Q=>∃i j,x=.int i/\y=.int j/\C i j/\Q (g i j) H
def rI0(g:Int->Int->V):R2:=λx y H Q=>∃i j,x=.int i/\y=.int j/\Q (g i j) H
def rU(g:Int->V):V->Hp->VK->Prop:=λx H Q=>∃i,x=.int i/\Q (g i) H
section
variable {X:Cx}{a b c:Expr}{ta tb tc:TE}{pos:Pos}
def be9(ha:PE X a ta)(hb:PE X b tb){ξ:List (Addr×Obj)}{s:am}{σ:St}{H:Hp}{R:V->V->Hp->Prop}(I:Inv X ξ σ H s)(h:ta σ H λx H1=>tb σ H1 λy H2=>R x y H2){Q:Value->am->Prop}{f:Value->Value->Sem Value}(hf:∀v u s2 x y H2,Inv X ξ σ H2 s2->RelV x v->RelV y u->R x y H2->aS (model X.prog X.w) X.A (f v u) Q X.xe s2) :
  aS (model X.prog X.w) X.A (eval a X.env) (λv s₁=>aS (model X.prog X.w) X.A (eval b X.env) (λu s₂=>aS (model X.prog X.w) X.A (f v u) Q X.xe s₂) X.xe s₁) X.xe s:=by
 refine thn (ha ξ s σ H _ I h) λv s1 ⟨x,H1,I1,r1,q1⟩=>?_
 exact thn (hb ξ s1 σ H1 _ I1 q1) λu s2 ⟨y,H2,I2,r2,q2⟩=>(hf v u s2 x y H2 I2 r1 r2 q2)
def b22{op:nC}{r:R2}(ho:OpR X (dQ op) r)(ha:PE X a ta)(hb:PE X b tb):PE X (.BinOp a op b pos) (tOp r ta tb):=by
 intro ξ s σ H Q I h
 exact wpAny_BinOp (be9 ha hb I h λv u s2 x y H2 I2 rx ry q=>ho ξ s2 σ H2 x y v u Q I2 rx ry q)
def bb4{op:UnaryOp}{r:V->Hp->VK->Prop}(ho:UnR X (nQ op) r)(ha:PE X a ta):PE X (.UnaryOp op a pos) (tUn r ta):=by
 intro ξ s σ H Q I h
 exact UnaryOp_ (thn (ha ξ s σ H _ I h) λv s1 ⟨x,H1,I1,r1,q1⟩=>ho ξ s1 σ H1 x v Q I1 r1 q1)
def opI{f:Value->Value->Sem Value}{C:Int->Int->Prop}{g:Int->Int->Int}(rule:∀i j t u s Q E,C i j->Q (.int (g i j) s.toks) {s with toks:=s.toks+1}->aS (model X.prog X.w) X.A (f (.int i t) (.int j u)) Q E s) :
  OpR X f (rI C λi j=>.int (g i j)):=by
 intro ξ s σ H x y v u Q I rx ry h
 obtain⟨i,j,rfl,rfl,hc,q⟩:=h
 obtain⟨t,rfl⟩:=rx
 obtain⟨t',rfl⟩:=ry
 exact rule i j t t' s _ _ hc ⟨.int (g i j),H,I.tok _,⟨_,rfl⟩,q⟩
def an5{f:Value->Value->Sem Value}{g:Int->Int->Int}(rule:∀i j t u s Q E,Q (.int (g i j) s.toks) {s with toks:=s.toks+1}->aS (model X.prog X.w) X.A (f (.int i t) (.int j u)) Q E s) :
  OpR X f (rI0 λi j=>.int (g i j)):=by
 intro ξ s σ H x y v u Q I rx ry h
 obtain⟨i,j,rfl,rfl,q⟩:=h
 obtain⟨t,rfl⟩:=rx
 obtain⟨t',rfl⟩:=ry
 exact rule i j t t' s _ _ ⟨.int (g i j),H,I.tok _,⟨_,rfl⟩,q⟩
def a29{f:Value->Value->Sem Value}{g:Int->Int->Bool}(rule:∀i j t u s Q E,Q (.bool (g i j)) s->aS (model X.prog X.w) X.A (f (.int i t) (.int j u)) Q E s) :
  OpR X f (rI0 λi j=>.bl (g i j)):=by
 intro ξ s σ H x y v u Q I rx ry h
 obtain⟨i,j,rfl,rfl,q⟩:=h
 obtain⟨t,rfl⟩:=rx
 obtain⟨t',rfl⟩:=ry
 exact rule i j t t' s _ _ ⟨.bl (g i j),H,I,rfl,q⟩
def bu2(i j:Int):Prop:=0<j/\j<1073741824
def ax1(i j:Int):Prop:=0<=j/\j<=1000000/\i.natAbs<2^64
def CMul(i j:Int):Prop:=(-(2^64)<i/\i<2^64)\/(-(2^64)<j/\j<2^64)
def CMul.ok{i j:Int}(h:CMul i j):IntMulOk i j:=by
 rcases h with⟨h1,h2⟩|⟨h1,h2⟩
 .exact .of_left (intBits_le_64 h1 h2)
 .exact .of_right (intBits_le_64 h1 h2)
def W3(k:Nat):(0:Int)<=2^k:=by
 rw[two_pow_cast]
 exact gW _
def bn2:OpR X (dQ .Add) (rI0 λi j=>.int (i+j)):=an5 λ_ _ _ _ _ _ _ q=>add_int q
def bo4:OpR X (dQ .Sub) (rI0 λi j=>.int (i-j)):=an5 λ_ _ _ _ _ _ _ q=>sub_int q
def bn8:OpR X (dQ .Mult) (rI CMul λi j=>.int (i*j)):=opI λ_ _ _ _ _ _ _ hc q=>mul_int q hc.ok
def a31:OpR X (dQ .FloorDiv) (rI bu2 λi j=>.int (i/j)):=opI λi j _ _ _ _ _ hc q=>by
 have h1:=hc.1
 have h2:=hc.2
 exact floordiv_int (by omega) (by rw[i9 i (by omega)];exact q) (.inl (PyProof.noPylong_small (by omega)))
def bn7:OpR X (dQ .Mod) (rI (λ_ j=>0<j) λi j=>.int (i%j)):=opI λi j _ _ _ _ _ hc q=>by
 have h1:=hc
 exact mod_int' (by omega) (by rw[Int.fmod_eq_emod_of_nonneg i (by omega)];exact q)
def bo1:OpR X (dQ .Pow) (rI ax1 λi j=>.int (i^j.toNat)):=opI λ_ _ _ _ _ _ _ hc q=>pow_int_small hc.1 hc.2.1 hc.2.2 q
def bo2:OpR X (dQ .LShift) (rI ax1 λi j=>.int (i*2^j.toNat)):=opI λ_ _ _ _ _ _ _ hc q=>lshift_int_small hc.1 hc.2.1 hc.2.2 q
def bo3:OpR X (dQ .RShift) (rI (λ_ j=>0<=j) λi j=>.int (i/2^j.toNat)):=opI λi j _ _ _ _ _ hc q=>
 rshift_int hc (by rw[i9 i (W3 _)];exact q)
def bn3:OpR X (dQ .BitAnd) (rI0 λi j=>.int (cC i j)):=an5 λ_ _ _ _ _ _ _ q=>and_int q
def b19:OpR X (dQ .BitOr) (rI0 λi j=>.int (c7 i j)):=an5 λ_ _ _ _ _ _ _ q=>or_int q
def bo5:OpR X (dQ .BitXor) (rI0 λi j=>.int (Builtin.bitXor i j)):=an5 λ_ _ _ _ _ _ _ q=>xor_int q
def unI{f:Value->Sem Value}{g:Int->Int}(rule:∀i t s Q E,Q (.int (g i) s.toks) {s with toks:=s.toks+1}->aS (model X.prog X.w) X.A (f (.int i t)) Q E s) :
  UnR X f (rU λi=>.int (g i)):=by
 intro ξ s σ H x v Q I rx h
 obtain⟨i,rfl,q⟩:=h
 obtain⟨t,rfl⟩:=rx
 exact rule i t s _ _ ⟨.int (g i),H,I.tok _,⟨_,rfl⟩,q⟩
def bt7:UnR X (nQ .USub) (rU λi=>.int (-i)):=unI λ_ _ _ _ _ q=>neg_int q
def bt6:UnR X (nQ .Invert) (rU λi=>.int (ce i)):=unI λ_ _ _ _ _ q=>invert_int q
end
def bt0:V->V->Bool
 |.non,.non=>true | .non,.int _=>true | .int _,.non=>true | .non,.bl _=>true | .bl _,.non=>true | .non,.str _=>true | .str _,.non=>true
 |.int _,.int _=>true | .bl _,.bl _=>true | .str _,.str _=>true
 |.int _,.str _=>true | .str _,.int _=>true | .bl _,.str _=>true | .str _,.bl _=>true
 |_,_=>false
def rEq:R2:=λx y H Q=>bt0 x y=true/\Q (.bl (decide (x=y))) H
def rNe:R2:=λx y H Q=>bt0 x y=true/\Q (.bl (!decide (x=y))) H
def Kj{i j:Int}:decide (V.int i=V.int j)=(i==j):=by
 rw[cq]
 simp
def Ps{i j:Bool}:decide (V.bl i=V.bl j)=(i==j):=by
 rw[cq]
 simp
def Kk{i j:Str}:decide (V.str i=V.str j)=(i==j):=by
 rw[cq]
 simp
section
variable {X:Cx}{a b c:Expr}{ta tb tc:TE}{pos:Pos}
def Ld{ξ:List (Addr×Obj)}{σ:St}{H:Hp}{s:am}{Q:VK}{k k':Bool}(I:Inv X ξ σ H s)(q:Q (.bl k) H)(e:k=k'):EP X ξ σ Q (.bool k') s:=by
 subst e
 exact⟨.bl k,H,I,rfl,q⟩
def Yd:OpR X (cE .Eq) rEq:=by
 intro ξ s σ H x y v u Q I rx ry h
 obtain⟨hs,q⟩:=h
 cases x <;> cases y <;> first|cases(hs)|skip
 all_goals first|obtain⟨_,rfl⟩:=rx|cases rx
 all_goals first|obtain⟨_,rfl⟩:=ry|cases ry
 all_goals with_reducible first|refine eq_bool ?_|refine eq_int ?_|refine eq_str ?_|refine PySem.EqNone.eq_none_none ?_|refine PySem.EqNone.eq_none_bool ?_|refine PySem.EqNone.eq_none_int ?_|refine PySem.EqNone.eq_none_str ?_|refine PySem.EqNone.eq_bool_none ?_|refine PySem.EqNone.eq_int_none ?_|refine PySem.EqNone.eq_str_none ?_|refine PySem.EqMixed.eq_bool_str ?_|refine PySem.EqMixed.eq_int_str ?_|refine PySem.EqMixed.eq_str_bool ?_|refine PySem.EqMixed.eq_str_int ?_
 all_goals exact Ld I q (by first|exact Ps|exact Kj|exact Kk|simp)
def Ye:OpR X (cE .NotEq) rNe:=by
 intro ξ s σ H x y v u Q I rx ry h
 obtain⟨hs,q⟩:=h
 cases x <;> cases y <;> first|cases(hs)|skip
 all_goals first|obtain⟨_,rfl⟩:=rx|cases rx
 all_goals first|obtain⟨_,rfl⟩:=ry|cases ry
 all_goals with_reducible first|refine ne_bool ?_|refine ne_int ?_|refine ne_str ?_|refine PySem.EqNone.ne_none_none ?_|refine PySem.EqNone.ne_none_bool ?_|refine PySem.EqNone.ne_none_int ?_|refine PySem.EqNone.ne_none_str ?_|refine PySem.EqNone.ne_bool_none ?_|refine PySem.EqNone.ne_int_none ?_|refine PySem.EqNone.ne_str_none ?_|refine PySem.EqMixed.ne_bool_str ?_|refine PySem.EqMixed.ne_int_str ?_|refine PySem.EqMixed.ne_str_bool ?_|refine PySem.EqMixed.ne_str_int ?_
 all_goals exact Ld I q (by first|exact(congrArg not Ps)|exact(congrArg not Kj)|exact(congrArg not Kk)|simp)
def b18:OpR X (cE .Lt) (rI0 λi j=>.bl (decide (i<j))):=a29 λ_ _ _ _ _ _ _ q=>lt_int q
def b17:OpR X (cE .LtE) (rI0 λi j=>.bl (decide (i<=j))):=a29 λ_ _ _ _ _ _ _ q=>le_int q
def b16:OpR X (cE .Gt) (rI0 λi j=>.bl (decide (j<i))):=a29 λ_ _ _ _ _ _ _ q=>gt_int q
def b15:OpR X (cE .GtE) (rI0 λi j=>.bl (decide (j<=i))):=a29 λ_ _ _ _ _ _ _ q=>ge_int q
def aa4:OpR X (cE .Lt) (λx y H Q=>∃i j,x=.str i/\y=.str j/\Q (.bl (decide (i.cps.toList<j.cps.toList))) H):=by
 intro ξ s σ H x y v u Q I rx ry h
 obtain⟨i,j,rfl,rfl,q⟩:=h
 obtain⟨t,rfl⟩:=rx
 obtain⟨t',rfl⟩:=ry
 exact lt_str (Ld I q rfl)
def bn6:OpR X (cE .Is) (λx y H Q=>y=.non/\Q (.bl (decide (x=.non))) H):=by
 intro ξ s σ H x y v u Q I rx ry h
 obtain⟨rfl,q⟩:=h
 cases ry
 refine is_none_gen (Ld I q ?_)
 cases x <;> first
  |(cases rx;rfl)
  |(obtain⟨t,rfl⟩:=rx;rfl)
  |(obtain⟨t,rfl,_⟩:=rx;rfl)
def a33:OpR X (cE .IsNot) (λx y H Q=>y=.non/\Q (.bl (!decide (x=.non))) H):=by
 intro ξ s σ H x y v u Q I rx ry h
 obtain⟨rfl,q⟩:=h
 cases ry
 refine isnot_none_gen (Ld I q ?_)
 cases x <;> first
  |(cases rx;rfl)
  |(obtain⟨t,rfl⟩:=rx;rfl)
  |(obtain⟨t,rfl,_⟩:=rx;rfl)
def OpR.or{f:Value->Value->Sem Value}{r r':R2}(h:OpR X f r)(h':OpR X f r'):OpR X f (λx y H Q=>r x y H Q\/r' x y H Q):=by
 intro ξ s σ H x y v u Q I rx ry q
 rcases q with q|q
 .exact h ξ s σ H x y v u Q I rx ry q
 .exact h' ξ s σ H x y v u Q I rx ry q
def a37{op:mK}{r:R2}(ho:OpR X (cE op) r)(ha:PE X a ta)(hb:PE X b tb)(hm:g9 op b=false):PE X (.Compare a [op] [b] pos) (tOp r ta tb):=by
 intro ξ s σ H Q I h
 exact wpAny_Compare1 (be9 ha hb I h λv u s2 x y H2 I2 rx ry q=>ho ξ s2 σ H2 x y v u Q I2 rx ry q) hm
def bv3(K:ac)(x:V)(H:Hp)(k:Bool):Prop:=
 match x with
 |.non=>k=false
 |.bl b=>k=b
 |.int i=>k=(i != 0)
 |.str y=>y.length<=sizeLine/\k=((y.length:Int) != 0)
 |.ref p=>(∃xs,SqL K H p xs/\k = !xs.isEmpty)\/(∃xs,SqT K H p xs/\k = !xs.isEmpty) \/ ∃kvs,H p=some (.dK kvs)/\k = !kvs.isEmpty
 |_=>False
def U9{κ:Type}{kvs:List (κ×V)}{vs:List (κ×Value)}(r:KV kvs vs):(!vs.isEmpty) = !kvs.isEmpty:=by
 cases r <;> rfl
def Li{xs:List V}{χ:List Value}(r:Vals xs χ):(!χ.toArray.isEmpty) = !xs.isEmpty:=by
 cases r <;> simp
def Jd:(sizeLine:Nat)<2^63:=by rw[bQ];decide
def Mx:bv2 X (λx H Q=>∃k,bv3 X.K x H k/\Q k H):=by
 intro ξ s σ H x v Q I rx h
 obtain⟨k,e,q⟩:=h
 have hs:=bQ
 cases x with
 |non=>
  cases rx
  have e':=e
  subst e'
  exact truthy_none ⟨H,I,q⟩
 |bl b=>
  cases rx
  have e':=e
  subst e'
  exact ff ⟨H,I,q⟩
 |int i=>
  obtain⟨t,rfl⟩:=rx
  have e':=e
  subst e'
  exact PySem.P.truthy_int ⟨H,I,q⟩
 |str y=>
  obtain⟨t,rfl⟩:=rx
  obtain⟨hy,e'⟩:y.length<=sizeLine/\k=((y.length:Int) != 0):=e
  subst e'
  exact PySem.P.truthy_str (by omega) ⟨H,I.tok _,q⟩
 |ref p=>
  cases rx
  have e':=e
  rcases e' with⟨xs,hx,e'⟩|⟨xs,hx,e'⟩|⟨kvs,hx,e'⟩
  .subst e'
   obtain⟨χ,r,pl,hz⟩:=I.list hx
   have hlen:=r.length
   exact wpAny_truthy_list pl.isList (by simp only[au];omega) ⟨H,I.tok _,by rw[Li r];exact q⟩
  .subst e'
   obtain⟨χ,r,pl,hz⟩:=I.tuple hx
   have hlen:=r.length
   exact truthy_tuple pl (by simp only[au];omega) ⟨H,I.tok _,by rw[Li r];exact q⟩
  .subst e'
   obtain⟨hz,hS,vs,r,m⟩:kvs.length<=sizeLine/\(p==cY)=false/\∃vs,KV kvs vs/\s.heap.DictOf (Bd X.prog X.w) p vs:=I.hok p _ hx
   have hlen:=jQ r
   exact wpAny_truthy_dict hS m (by omega) ⟨H,I.tok _,by rw[U9 r];exact q⟩
 |_=>exact(e).elim
def Vo:OpR X (dQ .Add) (λx y H Q=>∃i j,x=.str i/\y=.str j/\i.length+j.length<=sizeLine/\Q (.str (i++j)) H):=by
 intro ξ s σ H x y v u Q I rx ry h
 obtain⟨i,j,rfl,rfl,hz,q⟩:=h
 obtain⟨t,rfl⟩:=rx
 obtain⟨t',rfl⟩:=ry
 exact bF (ag _) (add_str (λt' tk htk=>⟨.str (i++j),H,I.tok _ htk,⟨_,rfl⟩,q⟩) hz)
def Dc{x:V}{us:List Value}(r:Vals [x] us):∃u,us=[u]/\RelV x u:=by
 cases r with
 |cons r1 r2=>cases r2;exact⟨_,rfl,r1⟩
def b90{x y:V}{us:List Value}(r:Vals [x,y] us):∃u w',us=[u,w']/\RelV x u/\RelV y w':=by
 cases r with
 |cons r1 r2=>
  cases r2 with
  |cons r3 r4=>cases r4;exact⟨_,_,rfl,r1,r3⟩
def Of:Cj X (.type "int") (λxs H Q=>(∃i,xs=[.int i]/\Q (.int i) H) \/ ∃k,xs=[.bl k]/\Q (.int (if k then 1 else 0)) H):=by
 intro ξ s σ H xs us Q I r h
 rcases h with⟨i,rfl,q⟩|⟨k,rfl,q⟩
 .obtain⟨u,rfl,t,rfl⟩:=Dc r
  exact call_int_int ⟨.int i,H,I,⟨_,rfl⟩,q⟩
 .obtain⟨u,rfl,r1⟩:=Dc r
  cases r1
  exact call_int_bool ⟨.int (if k then 1 else 0),H,I.tok _,⟨_,rfl⟩,q⟩
end
structure ObjM (h:Heap) (x dx C:Addr) (mA:Str->Option Value):Prop where
 obj:h.get? x=some (dM C dx)
 ns:h.Ns1 dx mA
 ne:dx≠x
def Je{h:Heap}{dx:Addr}{mA:Str->Option Value}(n:h.Ns1 dx mA):∃od,h.get? dx=some od/\∀name,jj name od=some (mA name):=by
 obtain⟨o,es,ep,ho,hd,hk,_,hm⟩:=n
 refine⟨o,ho,λname=>?_⟩
 have e:=hm name
 unfold nsFind findBy at e
 rw[<- Array.find?_toList] at e
 unfold jj
 rw[hd]
 dsimp only
 split
 .rename_i y q
  rw[q] at e
  exact congrArg some e
 .rename_i q
  rw[q] at e
  have a:es.toList.any (·.refKey)=false:=by
   rw[jv]
   intro y hy
   obtain⟨z,t,hkey⟩:=hk y (Array.mem_toList_iff.mp hy)
   simp[DictEntry.refKey,hkey]
  have a':¬ es.toList.any (·.refKey)=true:=by rw[a];exact aA
  rw[if_neg a']
  exact congrArg some e
def ObjM.look{h:Heap}{x dx C:Addr}{mA:Str->Option Value}(I:ObjM h x dx C mA):∃od,gC h x (dM C dx) C (some od)/\∀name,jj name od=some (mA name):=
 let⟨od,ho,hl⟩:=Je I.ns
 ⟨od,⟨I.obj,rfl,rfl,ho⟩,hl⟩
section
variable {prog:aO}{w:bw}{A:bq}{E:Value->am->Prop}{s:am}{K:ac}{x dx C f:Addr}{mA:Str->Option Value}{name:Str}{v:Value}
def Am{expr:Bool}{Q:Value->am->Prop}(X:K.In s.heap)(I:ObjM s.heap x dx C mA)(hg:gJ K C name=true)(hh:ii K C=true)(ha:aU K (.ref C) name=some none)(hv:mA name=some v)(hv':gI v=true)(h:Q v {s with toks:=s.toks+1}) :
  aS (model prog w) A (mn (.ref x) name expr) Q E s:=by
 obtain⟨od,J,hl⟩:=I.look
 exact PySem.W.get_value X J (fH hg).1 (lR hh ha rfl (by rw[hl,hv])) hv' h
def aj6{pl:Sem Bool}{Q:Value×List Value->am->Prop}(X:K.In s.heap)(I:ObjM s.heap x dx C mA)(hg:gJ K C name=true)(hf:aU K (.ref C) name=some (some (.ref f)))(ht:cQ K (.ref f)=true)(hv:mA name=none)(h:Q (.ref f,[.ref x]) s) :
  aS (model prog w) A (getMethod (.ref x) name pl) Q E s:=by
 obtain⟨od,J,hl⟩:=I.look
 exact PySem.W.method_fn X J (fH hg).1 (fH hg).2 hf (beq_iff_eq.mp ht) (by show(jj name od).map (·.isSome)=some false;rw[hl,hv];rfl) h
def a72{ns:List Str}{Q:Unit->am->Prop}(X:K.In s.heap)(I:ObjM s.heap x dx C mA)(hs:aU K (.ref C) "__setattr__"=some (some (.builtin "object.__setattr__")))(hp:jD K C=true)(ht:kI K C name=some none)(hh:ii K C=true)(hw:fm mA ns)(hsz:ns.length<=sizeLine)(h:∀h',ObjM h' x dx C (λy=>if y=name then some v else mA y)->bO dx s.heap h'->Q () {s with heap:=h',toks:=s.toks+2}) :
  aS (model prog w) A (m_ (.ref x) name v) Q E s:=by
 obtain⟨od,J,hl⟩:=I.look
 refine PySem.W.set_plain X J hs (PySem.W.osa_open X J hp ht λb=>?_)
 obtain⟨cd,hc,hd'⟩:=PySem.W.any_some hh
 have hx:=I.obj
 refine af (aq (af (af (jq hx (af (PySem.W.Looks.here (PySem.W.looks_clsIn X hc) ?_))))))
 rw[hd']
 refine aq (af (aq (af ?_)))
 refine mH I.ns λh' hn2 hs2=>?_
 obtain⟨oD,esD,epD,hoD,hdD,hcD⟩:=hn2.count (PySem.Within.cons name v hw)
 exact af (j6 hoD (by rw[hdD];exact j4 (aT hcD (by rw[aI];omega))) (aq (h _ ⟨(hs2.2 _ (bY I.ne)).trans I.obj,hn2,I.ne⟩ hs2)))
def al4{R:mR->am->Prop}{vs:List Value}{kw:List (Str×Value)}(X:K.In s.heap)(hm:dN K C=true)(hi:aU K (.ref C) "__init__"=some (some (.ref f)))(hf:PySem.W.typeIn K (.ref f)=some (.type "function"))(h:gM (model prog w) (A.under (.builtin "type.__call__" ⟨.ref C::vs,kw⟩)) (.call (.ref f) ⟨.ref (s.heap.objs.size+1)::vs,kw⟩) (PySem.W.InitBack (s.heap.objs.size+1) R)
   {s with heap:=(s.heap.push cX).push (dM C s.heap.objs.size)}) :
  gM (model prog w) A (.call (.ref C) ⟨vs,kw⟩) R s:=by
 obtain⟨hh,g,d,t,os⟩:=s
 exact PySem.W.make_core (PySem.W.makes_of X hm) (eJ X hi) (λself=>PySem.W.bind_fn X self hf) (.inl rfl) h
end
def Eo(f:Str)(v:V):List (Str×V)->List (Str×V)
 |[]=>[(f,v)]
 |(g,x)::r=>if g=f then(g,v)::r else(g,x)::Eo f v r
theorem Fp(f g:Str)(v:V):∀fs,(Eo f v fs).lookup g=if g=f then some v else fs.lookup g
 | []=>by
  show f6 g [(f,v)]=_
  by_cases h:g=f
  .have hb:=beq_iff_eq.mpr h
   simp only[f6,hb,if_pos h]
  .have hb:=beq_eq_false_iff_ne.mpr h
   simp only[f6,hb,if_neg h]
 | (k,x)::r=>by
  have ih:=Fp f g v r
  rw[show Eo f v ((k,x)::r)=(if k=f then(k,v)::r else(k,x)::Eo f v r) from rfl]
  by_cases hk:k=f
  .rw[if_pos hk]
   by_cases h:g=k
   .have hb:=beq_iff_eq.mpr h
    simp only[f6,hb,if_pos (h.trans hk)]
   .have hb:=beq_eq_false_iff_ne.mpr h
    simp only[f6,hb,if_neg (λe:g=f=>h (e.trans hk.symm))]
  .rw[if_neg hk]
   by_cases h:g=k
   .have hb:=beq_iff_eq.mpr h
    simp only[f6,hb,if_neg (λe:g=f=>hk (h.symm.trans e))]
   .have hb:=beq_eq_false_iff_ne.mpr h
    simp only[f6,hb]
    exact ih
theorem El(f:Str)(v:V):∀fs,f∈(Eo f v fs).map (·.1)/\∀g,g∈fs.map (·.1)->g∈(Eo f v fs).map (·.1)
 |[]=>⟨by simp[Eo],λg h=>by simp at h⟩
 | (k,x)::r=>by
  obtain⟨i1,i2⟩:=El f v r
  rw[show Eo f v ((k,x)::r)=(if k=f then(k,v)::r else(k,x)::Eo f v r) from rfl]
  by_cases hk:k=f
  .rw[if_pos hk]
   subst hk
   exact⟨by simp,λg h=>by simpa using h⟩
  .rw[if_neg hk]
   refine⟨?_,λg h=>?_⟩
   .rw[aX]
    exact ay _ i1
   .rw[aX] at h ⊢
    rcases List.mem_cons.mp h with e|e
    .exact List.mem_cons.mpr (.inl e)
    .exact ay _ (i2 g e)
theorem Fo(f:Str)(v:V):∀fs,(Eo f v fs).length<=fs.length+1
 |[]=>by simp[Eo]
 | (k,x)::r=>by
  have ih:=Fo f v r
  rw[show Eo f v ((k,x)::r)=(if k=f then(k,v)::r else(k,x)::Eo f v r) from rfl]
  by_cases hk:k=f
  .rw[if_pos hk,aI,aI];omega
  .rw[if_neg hk,aI,aI];omega
def RelO.some_of{v:V}{o:Option Value}(r:RelO (some v) o):∃u,o=some u/\RelV v u:=by
 cases o with
 |none=>exact(r).elim
 |some u=>exact⟨u,rfl,r⟩
def RelO.none_of{o:Option Value}(r:RelO none o):o=none:=by
 cases o with
 |none=>rfl
 |some u=>exact(r).elim
def Oo{v:V}{u:Value}(r:RelV v u):gI u=true:=by
 cases v <;> first|(cases r;rfl)|(obtain⟨t,rfl⟩:=r;rfl)
section
variable {P:aO}{w:bw}{H H':Hp}{h h':Heap}{a C dx:Addr}{fs fs':List (Str×V)}
def Hq(hok:HOk P w H h)(e:H a=some (.ins C dx fs)):∃mA,ObjM h a dx C mA/\(∀f,RelO (fs.lookup f) (mA f))/\fm mA (fs.map (·.1))/\fs.length<=1000/\H dx=some (.own a):=by
 obtain⟨d,z,ne,ob,mA,n,r,q⟩:=(hok a _ e)
 exact⟨mA,⟨ob,n,ne⟩,r,q,z,d⟩
end
structure Cls (K:ac) (C:Addr):Prop where
 pg:gJ K C dP=true
 hd:ii K C=true
 po:jD K C=true
 sa:aU K (.ref C) "__setattr__"=some (some (.builtin "object.__setattr__"))
def Cls.get{K:ac}{C:Addr}(c:Cls K C)(f:Str):gJ K C f=true:=c.pg
def NoAttr(K:ac)(C:Addr)(f:Str):Prop:=aU K (.ref C) f=some none
def NoAttr.taker{K:ac}{C:Addr}{f:Str}(n:NoAttr K C f):kI K C f=some none:=by
 unfold kI
 rw[n]
 rfl
structure M7 (K:ac) (C:Addr) (m:Str) (f:Addr):Prop where
 at_:aU K (.ref C) m=some (some (.ref f))
 fn:cQ K (.ref f)=true
 kp:be K (.ref f)=true
section
variable {X:Cx}{ξ:List (Addr×Obj)}{σ:St}{H:Hp}{s:am}{a C dx:Addr}{fs:List (Str×V)}{f:Str}{v:V}{A:bq}{E:Value->am->Prop}
def U5{b:Bool}{Q:Value->am->Prop}(I:Inv X ξ σ H s)(e:H a=some (.ins C dx fs))(c:Cls X.K C)(n:NoAttr X.K C f)(l:fs.lookup f=some v)(h:∀u s',Inv X ξ σ H s'->RelV v u->Q u s'):aS (model X.prog X.w) A (mn (.ref a) f b) Q E s:=by
 obtain⟨mA,O,r,_,_,_⟩:=Hq I.hok e
 obtain⟨u,hu,ru⟩:=RelO.some_of (by rw[<- l];exact r f)
 exact Am I.kIn O (c.get f) c.hd n hu (Oo ru) (h u _ (I.tok _) ru)
def U6{m:Str}{g:Addr}{pl:Sem Bool}{Q:Value×List Value->am->Prop}(I:Inv X ξ σ H s)(e:H a=some (.ins C dx fs))(c:Cls X.K C)(k:M7 X.K C m g)(l:fs.lookup m=none)(h:Q (.ref g,[.ref a]) s):aS (model X.prog X.w) A (getMethod (.ref a) m pl) Q E s:=by
 obtain⟨mA,O,r,_,_,_⟩:=Hq I.hok e
 have hn:=RelO.none_of (by rw[<- l];exact r m)
 exact aj6 I.kIn O (c.get m) k.at_ k.fn hn h
def V2{y:V}{u:Value}{Q:Unit->am->Prop}(I:Inv X ξ σ H s)(e:H a=some (.ins C dx fs))(c:Cls X.K C)(n:NoAttr X.K C f)(hl:fs.length<1000)(ry:RelV y u)(h:∀s',Inv X ξ σ (upd H a (.ins C dx (Eo f y fs))) s'->Q () s'):aS (model X.prog X.w) A (m_ (.ref a) f u) Q E s:=by
 obtain⟨mA,O,r,wi,_,ho⟩:=Hq I.hok e
 have hz:(fs.map (·.1)).length<=sizeLine:=by rw[ae,bQ];omega
 refine a72 I.kIn O c.sa c.po n.taker c.hd wi hz λh' O' sb=>h _ ?_
 have hd:∃o,h'.get? dx=some o:=let⟨o,_,_,e',_⟩:=O'.ns;⟨o,e'⟩
 refine I.write (by rw[e];exact aM) (.inr ho) (λb q hb z=>(sb.2 b hb).trans z) hd ?_
 refine⟨by rw[Ad O.ne];exact ho,?_,O.ne,O'.obj,_,O'.ns,λg=>?_,λg hg=>?_⟩
 .have:=Fo f y fs;omega
 .rw[Fp]
  by_cases q:g=f
  .rw[if_pos q,if_pos q];exact ry
  .rw[if_neg q,if_neg q];exact r g
 .by_cases q:g=f
  .rw[q];exact(El f y fs).1
  .refine (El f y fs).2 g (wi g λz=>hg ?_)
   show(if g=f then some u else mA g)=none
   rw[if_neg q];exact z
def Inv.made(I:Inv X ξ σ H s):Inv X ξ σ (upd (upd H s.heap.objs.size (.own (s.heap.objs.size+1))) (s.heap.objs.size+1) (.ins C s.heap.objs.size []))
  {s with heap:=(s.heap.push cX).push (dM C s.heap.objs.size)}:=by
 have e1:(s.heap.push cX).get? s.heap.objs.size=some cX:=aD s.heap rfl
 have e2:((s.heap.push cX).push (dM C s.heap.objs.size)).get? (s.heap.objs.size+1)=some (dM C s.heap.objs.size):=by
  have:=aD (s.heap.push cX) (o:=dM C s.heap.objs.size) rfl
  rwa[c8] at this
 have e3:(s.heap.push cX).Ns s.heap.objs.size (λ_=>none):=⟨cX,#[],_,e1,rfl,(λe he=>absurd he (by simp)),λ_=>rfl⟩
 have I1:=I.laid (o:=.own (s.heap.objs.size+1)) (λb u q=>ah _ q) (ag _) ⟨_,e1⟩
 refine I1.laid (λb u q=>ah _ q) (mD (c8 _ _)) ?_
 have ne:s.heap.objs.size≠s.heap.objs.size+1:=aR (cF _)
 refine⟨by rw[Ad ne,Ac],bu _,ne,e2,λ_=>none,(Heap.Ns1.of_empty e3).at λo q=>ah _ q,λ_=>aM,λy hy=>absurd rfl hy⟩
def Xq{prog:aO}{w:bw}{env:Env}{e:Expr}{f:Str}{pos:Pos}{s:am}{Q:Value->am->Prop}(hb:jW e f env (eval e env)=eval e env)(h:aS (model prog w) A (eval e env) (λo s₁=>aS (model prog w) A (mn o f true) Q E s₁) E s):aS (model prog w) A (eval (.Attribute e f pos) env) Q E s:=
 Attribute_any_ h (by rw[arm_eval_Attribute,hb])
end
section
variable {X:Cx}{ξ:List (Addr×Obj)}{σ:St}{H:Hp}{s:am}{A:bq}{E:Value->am->Prop}{Q:Value->am->Prop}{c:Value}{b:Bool}
inductive TyOf (K:ac) (H:Hp):V->Value->Prop where
 |non:TyOf K H .non (.type "NoneType")
 |bl (x:Bool):TyOf K H (.bl x) (.type "bool")
 |int (i:Int):TyOf K H (.int i) (.type "int")
 |str (x:Str):TyOf K H (.str x) (.type "str")
 |lst {a:Addr}{xs:List V} (e:H a=some (.lst xs)):TyOf K H (.ref a) (.type "list")
 |dK {a:Addr}{kvs:List (Key×V)} (e:H a=some (.dK kvs)):TyOf K H (.ref a) (.type "dict")
def Zu{x:V}{u t:Value}(I:Inv X ξ σ H s)(rx:RelV x u)(ty:TyOf X.K H x t)(e:cD X.K t c=some b)(h:∀tk,Q (.bool b) {s with toks:=tk}) :
  aS (model X.prog X.w) A (call (.builtin "isinstance") [u,c]) Q E s:=by
 cases ty with
 |non=>cases(rx);exact cM PySem.W.kitx_none I.kIn aM e (λz=>nomatch z) h
 |bl y=>cases(rx);exact cM PySem.W.kitx_bool I.kIn aM e (λz=>nomatch z) h
 |int i=>obtain⟨t,q⟩:=(rx);cases q;exact cM PySem.W.kitx_int I.kIn aM e (λz=>nomatch z) h
 |str y=>obtain⟨t,q⟩:=(rx);cases q;exact cM PySem.W.kitx_str I.kIn aM e (λz=>nomatch z) h
 |@lst a xs ea=>
  cases(rx)
  obtain⟨_,_,n,_,h1⟩:=(I.hok a _ ea)
  exact cM PySem.W.kitx_list I.kIn ⟨_,h1,rfl⟩ e (λz=>nomatch z) h
 |@dK a kvs ea=>
  cases(rx)
  obtain⟨_,_,vs,_,p⟩:=(I.hok a _ ea)
  obtain⟨o,es,ep,h1,h2,_⟩:=p
  exact cM PySem.W.kitx_dict I.kIn ⟨o,h1,h2.1⟩ e (λz=>nomatch z) h
end
structure Room (k:Nat) (A:bq):Prop where
 hd:A.handled=none
 dp:A.depth+3*k+5<recursionLimit
 un:A.units+16*k+200<cLine
def Room.mono{j k:Nat}{A:bq}(r:Room k A)(h:j<=k):Room j A:=⟨r.hd,by have:=r.dp;omega,by have:=r.un;omega⟩
theorem Room.deeper{k:Nat}{A:bq}(r:Room (k+1) A)(env:Env):Room k (A.deeper env):=
 ⟨r.hd,by have:=r.dp;show A.depth+1+3*k+5<_;omega,by have:=r.un;show A.units+3+16*k+200<_;omega⟩
theorem Room.in1{k:Nat}{A:bq}(r:Room (k+1) A):Room k A.in1:=
 ⟨r.hd,by have:=r.dp;show A.depth+3*k+5<_;omega,by have:=r.un;show A.units+1+16*k+200<_;omega⟩
def Vf{A:bq}{C:Addr}{us:List Value}{kw:List (Str×Value)}:(A.under (.builtin "type.__call__" ⟨.ref C::us,kw⟩)).depth=A.depth+1:=by
 first|rfl|simp[mw,Code.weight,Code.isCreation,Code.isGuard,Code.isCaller,Code.frames,my,guardIds]
def Vg{A:bq}{C:Addr}{us:List Value}{kw:List (Str×Value)}:(A.under (.builtin "type.__call__" ⟨.ref C::us,kw⟩)).units=A.units+1:=by
 first|rfl|simp[mw,Code.cUnits,Code.frames,my]
def Room.make{k:Nat}{A:bq}(r:Room (k+1) A)(C:Addr)(us:List Value)(kw:List (Str×Value)):Room k (A.under (.builtin "type.__call__" ⟨.ref C::us,kw⟩)):=
 ⟨r.hd,by have:=r.dp;rw[Vf];omega,by have:=r.un;rw[Vg];omega⟩
theorem Room.depth{k:Nat}{A:bq}(r:Room k A):A.depth<recursionLimit:=by have:=r.dp;omega
theorem Room.units{k:Nat}{A:bq}(r:Room k A):A.units+64<cLine:=by have:=r.un;omega
def cb8:TA:=λ_ H Q=>Q [] H
def b40(ta:TE)(tr:TA):TA:=λσ H Q=>ta σ H λx H1=>tr σ H1 λxs H2=>Q (x::xs) H2
section
variable {X:Cx}{e:Expr}{es:List Expr}{te:TE}{t:TA}{pos:Pos}
def bo6:PA X [] cb8:=λ_ _ _ _ H Q I h=>ge ⟨[],H,I,.nil,h⟩
def a35(ha:PE X e te)(hr:PA X es t)(hs:c9 (e::es) X.env=(false,eval e X.env)::c9 es X.env:=by rfl):PA X (e::es) (b40 te t):=by
 intro pos ξ s σ H Q I h
 rw[hs]
 exact fR (thn (ha ξ s σ H _ I h) λu s1 ⟨x,H1,I1,r1,q1⟩=>(thn (hr pos ξ s1 σ H1 _ I1 q1) λus s2 ⟨xs,H2,I2,r2,q2⟩=>⟨x::xs,H2,I2,.cons r1 r2,q2⟩))
def cc2(t:TA):TE:=λσ H Q=>t σ H λxs H1=>xs.length<=sizeLine/\∀p,H1 p=none->Q (.ref p) (upd H1 p (.tup xs))
def cb7(t:TA):TE:=λσ H Q=>t σ H λxs H1=>xs.length<=sizeLine/\∀p,H1 p=none->Q (.ref p) (upd H1 p (.lst xs))
def bp2{x1}(h:PA X es t):PE X (.Tuple es x1 pos) (cc2 t):=by
 intro ξ s σ H Q I hq
 refine wpAny_Tuple_spliced (thn (h pos ξ s σ H _ I hq) λus s1 ⟨xs,H1,I1,r,z,q⟩=>⟨by rw[<- r.length];exact z,?_⟩)
 have hf:=I1.hok.fresh (ag _)
 refine⟨.ref s1.heap.objs.size,upd H1 s1.heap.objs.size (.tup xs),I1.laid (λb u e=>ah _ e) (ag _) ?_,rfl,q _ hf⟩
 exact⟨z,us,r,⟨_,aD _ rfl,rfl,_,rfl⟩⟩
def bo8(h:PA X es t):PE X (.List es pos) (cb7 t):=by
 intro ξ s σ H Q I hq
 refine wpAny_List_spliced (thn (h pos ξ s σ H _ I hq) λus s1 ⟨xs,H1,I1,r,z,q⟩=>⟨by rw[<- r.length];exact z,?_⟩)
 have hf:=I1.hok.fresh (ag _)
 refine⟨.ref s1.heap.objs.size,upd H1 s1.heap.objs.size (.lst xs),I1.laid (λb u e=>ah _ e) (ag _) ?_,rfl,q _ hf⟩
 exact⟨z,us,0,r,aD _ rfl⟩
end
abbrev Sp:=List V->Hp->VK->XK->Prop
abbrev CXT:=List Env->Hp->am->XK->Value->am->Prop
structure Env0 (P:aO) (w:bw) (K:ac) (mg:Str->Option Value) (base:Heap) (A:bq) (outer:List Env) (s:am) (H:Hp):Prop where
 frames:A.frames=some outer
 mod:Mod K mg base
 bs:∀b o,base.get? b=some o->s.heap.get? b=some o/\H b=none
 bsz:base.objs.size<=s.heap.objs.size
 funs:s.heap.FunFrames base outer
 frf:∀b∈frs outer,H b=none
 hok:HOk P w H s.heap
 bare:kg s.gens
 tk:Xj K s.toks
noncomputable def CE(outer:List Env)(P:aO)(w:bw)(H:Hp)(s:am)(Q:VK)(u:Value)(s':am):Prop:=
 ∃v H',(s'.os=s.os/\s.toks<=s'.toks)/\kg s'.gens/\Un (frs outer) [] H H' s.heap s'.heap/\HOk P w H' s'.heap/\RelV v u/\Q v H'
noncomputable def CR(CX:CXT)(outer:List Env)(P:aO)(w:bw)(H:Hp)(s:am)(Q:VK)(E:XK)(r:mR)(s':am):Prop:=
 match r with
 |.ok (.ret u)=>CE outer P w H s Q u s'
 |.ok _=>False
 |.error e=>CX outer H s E e s'
structure FnOk (P:aO) (w:bw) (K:ac) (mg:Str->Option Value) (base:Heap) (CX:CXT) (k:Nat) (f:Addr) (fd:bb) (ps:List Str) (sp:Sp):Prop where
 len:∀vs H Q E,sp vs H Q E->vs.length=ps.length
 run:∀(A:bq)(outer:List Env)(s:am)(H:Hp)(args:Args)(us:List Value)(vs:List V)(Q:VK)(E:XK),Room k A->Env0 P w K mg base A outer s H->mj s fd args (ps.zip us)->Vals vs us->sp vs H Q E ->
  gM (model P w) A (.call (.ref f) args) (CR CX outer P w H s Q E) s
def FnOk.imp{P:aO}{w:bw}{K:ac}{mg:Str->Option Value}{base:Heap}{CX:CXT}{k:Nat}{f:Addr}{fd:bb}{ps:List Str}{sp sp':Sp}(F:FnOk P w K mg base CX k f fd ps sp)(h:∀vs H Q E,sp' vs H Q E->sp vs H Q E):FnOk P w K mg base CX k f fd ps sp':=
 ⟨λvs H Q E q=>F.len vs H Q E (h _ _ _ _ q),λA outer s H args us vs Q E hr he hb hv hs=>F.run A outer s H args us vs Q E hr he hb hv (h _ _ _ _ hs)⟩
def Env0.make{P:aO}{w:bw}{K:ac}{mg:Str->Option Value}{base:Heap}{A:bq}{outer:List Env}{s:am}{H:Hp}(e:Env0 P w K mg base A outer s H)(C:Addr)(us:List Value)(kw:List (Str×Value)) :
  Env0 P w K mg base (A.under (.builtin "type.__call__" ⟨.ref C::us,kw⟩)) outer s H:=⟨by first|exact e.frames|(simpa [mw,Code.envs,my,pushEnvs] using e.frames),e.mod,e.bs,e.bsz,e.funs,e.frf,e.hok,e.bare,e.tk⟩
theorem Env0.in1{P:aO}{w:bw}{K:ac}{mg:Str->Option Value}{base:Heap}{A:bq}{outer:List Env}{s:am}{H:Hp}(e:Env0 P w K mg base A outer s H) :
  Env0 P w K mg base A.in1 outer s H:=⟨e.frames,e.mod,e.bs,e.bsz,e.funs,e.frf,e.hok,e.bare,e.tk⟩
section
variable {X:Cx}{ξ:List (Addr×Obj)}{σ:St}{H:Hp}{s s':am}
def Inv.env0(I:Inv X ξ σ H s):Env0 X.prog X.w X.K X.mg X.base X.A X.stack s H:=
 ⟨I.ok.frames,I.ok.mod,I.bs,aT I.ok.bsz I.sz,I.stack,I.stkFree,I.hok,I.bare,aM⟩
def Inv.after{Q:VK}{u:Value}(I:Inv X ξ σ H s)(h:CE X.stack X.prog X.w H s Q u s'):EP X ξ σ Q u s':=by
 obtain⟨v,H',os,bare,un,hok,r,q⟩:=h
 obtain⟨hh,g,d,t,os'⟩:=s'
 obtain rfl:os'=s.os:=os.1
 exact⟨v,H',I.call un hok bare (λb z=>absurd z (by simp)) os.2,r,q⟩
end
def Binds(K:ac)(fd:bb)(ps:List Str)(ds:List Value):Prop:=
 ∀s us,K.In s.heap->(us++ds).length=ps.length->mj s fd ⟨us,[]⟩ (ps.zip (us++ds))
def Binds.all{K:ac}{fd:bb}{ps:List Str}(h:∀us,us.length=ps.length->iT fd ⟨us,[]⟩=pure (ps.zip us)):Binds K fd ps []:=λs us _ hl=>by
 rw[cu] at hl ⊢
 exact .of_eq (h us hl)
section
variable {X:Cx}{CX:CXT}{k:Nat}{f C:Addr}{fd:bb}{ps:List Str}{sp:Sp}{dvs:List V}{ds:List Value}{E:XK}{x m:Str}{p pos apos:Pos}{e o:Expr}{es:List Expr}{ta:TE}{t:TA}
structure Mk (K:ac) (C f:Addr):Prop where
 makes:dN K C=true
 init:aU K (.ref C) "__init__"=some (some (.ref f))
 fn:cQ K (.ref f)=true
 kp:be K (.ref C)=true
end
structure Cr (N P:List Str) (sc:Scope):Prop where
 kind:sc.kind=.function
 co:sc.isCoroutine=false
 gen:sc.isGenerator=false
 nd:N.Nodup
 pre:N.take P.length=P
 par:∀x∈P,sc.names.lookup x=some .local\/sc.names.lookup x=some .cell
 nofree:∀y∈sc.names,y.2≠.free
theorem Oe{kindOf:Str->Option cR}{x:Str}:∀{binds} {m},(∀v,(x,v)∉binds)->bindL kindOf binds m x=m x
 |[],_,_=>rfl
 | (n,v)::r,m,h=>by
  unfold bindL
  rw[Oe λw hw=>h w (ay _ hw)]
  split
  .have:x≠n:=by rintro rfl;exact h v aP
   simp[this]
  .rfl
theorem Oc{kindOf:Str->Option cR}{x:Str}:∀{binds} {m},(∀v,(x,v)∉binds)->bindC kindOf binds m x=m x
 |[],_,_=>rfl
 | (n,v)::r,m,h=>by
  unfold bindC
  rw[Oc λw hw=>h w (ay _ hw)]
  split
  .rfl
  .have:x≠n:=by rintro rfl;exact h v aP
   simp[this]
theorem Od{kindOf:Str->Option cR}{x:Str}{v:Value}:∀{P:List Str}{vs:List Value}{i:Nat}{m:Str->Option Value},P.Nodup->P[i]?=some x->vs[i]?=some v->kindOf x=some .local ->
  bindL kindOf (P.zip vs) m x=some v
 |[],_,_,_,_,h,_,_=>by simp at h
 |_::_,[],_,_,_,_,h,_=>by simp at h
 | p::P,w::vs,0,m,nd,h1,h2,hk=>by
  simp at h1 h2;subst h1;subst h2
  show bindL kindOf ((p,w)::P.zip vs) m p=_
  unfold bindL
  rw[Oe λv hv=>(List.nodup_cons.mp nd).1 (iY hv).1,if_pos hk]
  simp
 | p::P,w::vs,i+1,m,nd,h1,h2,hk=>by
  unfold bindL
  exact Od (List.nodup_cons.mp nd).2 (h1) (h2) hk
theorem N9{kindOf:Str->Option cR}{x:Str}{v:Value}:∀{P:List Str}{vs:List Value}{i:Nat}{m:Str->Option Value},P.Nodup->P[i]?=some x->vs[i]?=some v->kindOf x≠some .local ->
  bindC kindOf (P.zip vs) m x=some v
 |[],_,_,_,_,h,_,_=>by simp at h
 |_::_,[],_,_,_,_,h,_=>by simp at h
 | p::P,w::vs,0,m,nd,h1,h2,hk=>by
  simp at h1 h2;subst h1;subst h2
  show bindC kindOf ((p,w)::P.zip vs) m p=_
  unfold bindC
  rw[Oc λv hv=>(List.nodup_cons.mp nd).1 (iY hv).1,if_neg hk]
  simp
 | p::P,w::vs,i+1,m,nd,h1,h2,hk=>by
  unfold bindC
  exact N9 (List.nodup_cons.mp nd).2 (h1) (h2) hk
def Cw(N:List Str)(vs:List V):St:=vs.map some++fO (N.length-vs.length) none
def Hg(CX:CXT)(P:aO)(w:bw)(K:ac)(mg:Str->Option Value)(base:Heap)(N:List Str)(qual:Str)(scope:Scope)(f:Addr)(cd:Value)(A:bq)(outer:List Env)(s:am)(H:Hp)(E:XK):Cx where
 prog:=P
 w:=w
 K:=K
 mg:=mg
 base:=base
 A:=A.deeper (lJ qual scope s.heap.objs.size f cd)
 N:=N
 s₀:=s
 H₀:=H
 env:=lJ qual scope s.heap.objs.size f cd
 outer:=outer
 stack:=lJ qual scope s.heap.objs.size f cd::outer
 ex:=[]
 calm:=true
 fn:=λ_=>true
 pn:=[]
 xe:=λe s'=>aS (model P w) (A.deeper (lJ qual scope s.heap.objs.size f cd)) (leaving (lJ qual scope s.heap.objs.size f cd) e) (λ_ s''=>CX outer H s E e s'') (λe' s''=>CX outer H s E e' s'') s'
def Ff{sc:Scope}{n:Nat}{x:Str}(h:sc.names.lookup x=some .cell):∃c,(mT n sc.names []).lookup x=some c:=by
 have q:=h_ sc.names n [] (.inl h)
 exact Option.isSome_iff_exists.mp q
def Os{CX:CXT}{P:aO}{w:bw}{K:ac}{mg:Str->Option Value}{base:Heap}{N ps:List Str}{qual:Str}{scope:Scope}{f:Addr}{cd:Value}{A:bq}{outer:List Env}{s s1:am}{H:Hp}{E:XK}{us:List Value}{vs:List V}(S:Cr N ps scope)(hd:A.handled=none)(e0:Env0 P w K mg base A outer s H)(htk:s.toks<=s1.toks)(hl:vs.length=ps.length)(r:Vals vs us)(x:InCallC s s.heap.objs.size (bindL (lJ qual scope s.heap.objs.size f cd).kindOf (ps.zip us) λ_=>none) (mT (s.heap.objs.size+1) scope.names []) (bindC (lJ qual scope s.heap.objs.size f cd).kindOf (ps.zip us) λ_=>none) s1) :
  Inv (Hg CX P w K mg base N qual scope f cd A outer s H E) [] (Cw N vs) H s1:=by
 have hpl:ps.length<=N.length:=by have:=congrArg cy S.pre;rw[aN] at this;omega
 obtain⟨h1,tk,rfl,hk⟩:=x.done
 have noA:∀b:Addr,b∉(Hg CX P w K mg base N qual scope f cd A outer s H E).ex:=λb z=>absurd (show b∈([]:List Addr) from z) (by simp)
 refine⟨⟨e0.mod,S.kind,rfl,rfl,ag _,λy z c h1 h2=>?_,λy hy=>?_,λy c _ h=>?_,λ_=>hd,Around.frames_deeper e0.frames,.inr ⟨rfl,rfl⟩,λb z=>absurd z (noA b),e0.bs,e0.bsz,λb _ _=>noA b,λb z=>absurd z (noA b),e0.funs,e0.frf,e0.tk⟩,
  ⟨rfl,htk⟩,e0.bare,Un.kept hk,⟨_,x.toInCall.ns,λi y v h1 h2 h3=>?_⟩,λy c h=>⟨_,x.cell y c h⟩,e0.hok.fresh (ag _),λy c h=>?_,λp hp=>absurd (show p∈([]:List (Addr×Obj)) from hp) (by simp),e0.hok.kept hk,?_⟩
 .exact name_of_addr x.apart (bV h1) (bV h2)
 .have hy:=hy
  rcases hy with hy|hy
  .exact Ff hy
  .exact absurd rfl (S.nofree _ (bV hy))
 .exact gO (x.above y c (bV h))
 .have hi:i<vs.length:=by
   unfold Cw at h2
   by_cases hi:i<vs.length
   .exact hi
   .rw[bo (by simpa using hi)] at h2
    rw[cL] at h2
    split at h2 <;> cases h2
  have ha:vs[i]?=some v:=by
   unfold Cw at h2
   rw[bJ (by simpa using hi),al] at h2
   cases e:vs[i]? with
   |none=>rw[e] at h2;cases h2
   |some a=>rw[e] at h2;cases h2;rfl
  obtain⟨u,hu,rv⟩:=r.get ha
  have hp:ps[i]?=some y:=by
   rw[<- S.pre,List.getElem?_take_of_lt (by omega)];exact h1
  have ndP:ps.Nodup:=by rw[<- S.pre];exact S.nd.sublist (eQ _ _)
  refine⟨u,rv,?_⟩
  rcases S.par y (ak hp) with k|k
  .exact .inl ⟨k,Od ndP hp hu k⟩
  .obtain⟨c,e⟩:=Ff k
   refine .inr ⟨.inl k,c,e,?_⟩
   have q:=x.cell y c e
   rw[N9 ndP hp hu (by show scope.names.lookup y≠_;rw[k];decide)] at q
   exact q
 .exact e0.hok.fresh (gO (x.above y c (bV h)))
 .unfold Cw
  show _=N.length
  rw[aB,ae,iy]
  omega
def aj2{CX:CXT}{P:aO}{w:bw}{K:ac}{mg:Str->Option Value}{base:Heap}{k:Nat}{f:Addr}{name qual:Str}{params:Arguments}{body:List Stmt}{scope:Scope}{dV kV doc pm θ ct oc:Value}{an od:Option Addr}{osl:Array (Option Value)}{N ps:List Str}{sp:Sp}(lk:K.lookup f=some ⟨oc,od,.func (cx name qual params body scope dV kV doc pm an θ ct),osl⟩)(hcd:dF K θ qual=true)(S:Cr N ps scope)(len:∀vs H Q E,sp vs H Q E->vs.length=ps.length)(hbody:∀A outer s H vs Q E,Room k (A.deeper (lJ qual scope s.heap.objs.size f θ))->sp vs H Q E ->
   ∃t,PSs (Hg CX P w K mg base N qual scope f θ A outer s H E) body t/\t {nx:=λ_ H'=>Q .non H',rt:=Q} (Cw N vs) H) :
  FnOk P w K mg base CX (k+1) f (cx name qual params body scope dV kV doc pm an θ ct) ps sp:=by
 refine⟨len,λA outer s H args us vs Q E hr e0 hb r hsp=>?_⟩
 have hl:=len _ _ _ _ hsp
 have KX:=e0.mod.kin.keeps λb o e=>(e0.bs b o e).1
 have lim:=e0.mod.nolimit.keeps λb o e=>(e0.bs b o e).1
 have hkind:∀y∈ps.zip us,scope.names.lookup y.1=some .local\/(scope.names.lookup y.1=some .cell/\((mT (s.heap.objs.size+1) scope.names []).lookup y.1).isSome=true):=fun⟨n,v⟩ hy=>by
  rcases S.par n (iY hy).1 with q|q
  .exact .inl q
  .exact .inr ⟨q,h_ _ _ _ (.inl q)⟩
 refine codeAny_call_function hr.depth (KX _ _ lk) rfl S.co S.gen rfl (PySem.W.codeRec_of KX hcd) (hb _ _ _ _ ?_)
 refine bF (ag _) (jb S.kind hkind λenv he s1 x htk=>?_)
 subst he
 refine⟨lim.keeps x.toInCall.keep,codeAny_func ?_⟩
 obtain⟨t,ht,hq⟩:=hbody A outer s H vs Q E (hr.deeper _) hsp
 have I:Inv (Hg CX P w K mg base N qual scope f θ A outer s H E) [] (Cw N vs) H s1:=Os S hr.hd e0 htk hl r x
 refine bH (ht [] s1 (Cw N vs) H _ I hq) (λfl s' hs=>?_) λe s' hs=>hs
 have fin:∀{σ':St}{H':Hp}{v:V}{u:Value},Inv (Hg CX P w K mg base N qual scope f θ A outer s H E) [] σ' H' s'->RelV v u->Q v H'->CE outer P w H s Q u s':=
  λ{σ' H' v u} J rv q=>⟨v,H',J.os,J.bare,J.base,J.hok,rv,q⟩
 cases fl with
 |ret u=>
  obtain⟨v,σ',H',J,rv,q⟩:=hs
  exact fin J rv q
 |next=>
  obtain⟨σ',H',J,q⟩:=hs
  exact fin (v:=V.non) J rfl q
 |brk=>
  obtain⟨_,_,_,q⟩:=hs
  exact bR q
 |cont=>
  obtain⟨_,_,_,q⟩:=hs
  exact bR q
section
variable {X:Cx}{x:Str}{p pos:Pos}{e:Expr}{es:List Expr}{t:TA}{id T:String}{r:List V->Hp->VK->Prop}
def tCB(r:List V->Hp->VK->Prop)(t:TA):TE:=λσ H Q=>t σ H λvs H1=>r vs H1 Q
def an9(hc:Cj X (.builtin id) r)(hg:Gl X x)(hm:X.mg x=none)(hv:cz x=some (.builtin id))(ha:PA X (e::es) t)(hn:x ≠ "__name__" := by decide)(hdb:(x==("__debug__" : Str))=false:=by decide)(he:c9 (e::es) X.env=(false,eval e X.env)::c9 es X.env:=by rfl)(hpl:(kJ pos (c9 es X.env)).any (·.1)=false:=by rfl):PE X (.Call (.Name x p) (e::es) [] pos) (tCB r t):=by
 intro ξ s σ H Q I h
 exact cA (Dg I hg hm hv (iC (thn (ha pos ξ s σ H _ I h) λus s1 ⟨vs,H1,I1,r1,q1⟩=>hc ξ s1 σ H1 vs us Q I1 r1 q1) he hpl) hn hdb)
def aa5(hc:Cj X (.type T) r)(hg:Gl X x)(hm:X.mg x=none)(hv:cz x=some (.type T))(ha:PA X (e::es) t)(hn:x ≠ "__name__" := by decide)(hdb:(x==("__debug__" : Str))=false:=by decide)(he:c9 (e::es) X.env=(false,eval e X.env)::c9 es X.env:=by rfl)(hpl:(kJ pos (c9 es X.env)).any (·.1)=false:=by rfl):PE X (.Call (.Name x p) (e::es) [] pos) (tCB r t):=by
 intro ξ s σ H Q I h
 exact cA (Dg I hg hm hv (bZ (thn (ha pos ξ s σ H _ I h) λus s1 ⟨vs,H1,I1,r1,q1⟩=>hc ξ s1 σ H1 vs us Q I1 r1 q1) he hpl) hn hdb)
end
end L2
namespace HT
open PySem PyProof.Rows
section
variable {prog:aO}{w:bw}{A:bq}{E:Value->am->Prop}{s:am}
def cat_tup{t b:Addr}{vs ws:List Value}{Q:Value->am->Prop}(ht:nR s.heap t vs.toArray)(hb:nR s.heap b ws.toArray)(hv:vs≠[])(h1:ws=[]->Q (.ref t) s)(h2:ws≠[]->Q (.ref s.heap.objs.size) {s with heap:=s.heap.push {cls:=.type "tuple", data:=.seq (vs++ws).toArray}})(hsz:vs.length+ws.length<=sizeLine):aS (model prog w) A (dQ .Add (.ref t) (.ref b)) Q E s:=by
 obtain⟨⟨cls,dd,data,sl⟩,ho,hc,n,hd⟩:=ht
 obtain⟨⟨cls2,dd2,data2,sl2⟩,ho2,hc2,n2,hd2⟩:=hb
 subst hc hd hc2 hd2
 have e:vs.toArray++ws.toArray=(vs++ws).toArray:=by simp
 by_cases hw:ws=[]
 .exact mG ⟨_,ho,rfl⟩ ⟨_,ho2,rfl⟩ j3 mf hZ g8 (gS _ _)
   (tuple_addW1 t b vs.toArray ws.toArray n n2 dd dd2 sl sl2 (by simpa using hv) (by simp[hw])) ⟨ho,ho2,h1 hw⟩
 .refine mG ⟨_,ho,rfl⟩ ⟨_,ho2,rfl⟩ j3 mf hZ g8 (gS _ _)
   (tuple_addW2 t b vs.toArray ws.toArray n n2 dd dd2 sl sl2 (by simpa using hv) (by simpa using hw) (by rw[au,au];exact hsz)) ⟨ho,ho2,?_⟩
  rw[e]
  exact h2 hw
end
end HT
namespace L2
open PySem PySem.Spec PyProof.Rows
abbrev TO:=St->Hp->(Option Int->Hp->Prop)->Prop
def PO(X:Cx)(e:Option Expr)(t:TO):Prop:=
 ∀ξ s (σ:St) (H:Hp) (Q:Option Int->Hp->Prop),Inv X ξ σ H s->t σ H Q ->
  aS (model X.prog X.w) X.A (evalPart e X.env) (λu s'=>∃o H',Inv X ξ σ H' s'/\IsPart u o/\Q o H') X.xe s
def a78:TO:=λ_ H Q=>Q none H
def Lh{ns:List Int}:∀{us},Vals (ns.map V.int) us->mO us ns:=by
 induction ns with
 |nil=>intro us r;rw[iz] at r;cases r;exact .nil
 |cons n ns ih=>
  intro us r
  rw[aX] at r
  cases r with
  |cons r1 r2=>
   obtain⟨t,e⟩:=r1
   subst e
   exact .cons n t (ih r2)
section
variable {X:Cx}{e:Expr}{te:TE}{lo hi:Option Expr}{tl th:TO}{pos p2:Pos}
def a40:PO X none a78:=by
 intro ξ s σ H Q I h
 rw[evalPart_none]
 exact aq ⟨none,H,I,.none,h⟩
def bb9(K:ac):R2:=λx y H Q=>∃a b xs ys,x=.ref a/\y=.ref b/\SqT K H a xs/\SqT K H b ys/\xs≠[]/\xs.length+ys.length<=sizeLine /\
 (ys=[]->Q (.ref a) H)/\(ys≠[] -> ∀p,H p=none->Q (.ref p) (upd H p (.tup (xs++ys))))
def Vals.nil_iff{xs:List V}{us:List Value}(r:Vals xs us):us=[]↔xs=[]:=by
 cases r with
 |nil=>simp
 |cons _ _=>simp
def op_catT:OpR X (dQ .Add) (bb9 X.K):=by
 intro ξ s σ H x y v u Q I rx ry h
 obtain⟨a,b,xs,ys,rfl,rfl,ha,hb,hx,hz,q1,q2⟩:=h
 cases rx
 cases ry
 obtain⟨χ,r1,p1,_⟩:=I.tuple ha
 obtain⟨its2,r2,p2,_⟩:=I.tuple hb
 refine HT.cat_tup p1 p2 (λz=>hx (r1.nil_iff.mp z)) (λz=>⟨.ref a,H,I,rfl,q1 (r2.nil_iff.mp z)⟩) (λz=>?_) (by rw[<- r1.length,<- r2.length];exact hz)
 refine⟨.ref s.heap.objs.size,_,I.laid (λb ob q=>ah _ q) (ag _) ?_,rfl,q2 (λw=>z (r2.nil_iff.mpr w)) _ (I.hok.fresh (ag _))⟩
 exact⟨by rw[aB];exact hz,_,r1.append r2,IsTup.new _ _⟩
end
def ixN(n:Nat)(i:Int):Option Nat:=if 0<=i then(if i<n then some i.toNat else none) else if -(n:Int)<=i then some (i+n).toNat else none
def atI{α:Type}(xs:List α)(i:Int):Option α:=(ixN xs.length i).bind λj=>xs[j]?
def a07{n:Nat}{i:Int}{j:Nat}(h:ixN n i=some j):seqIndex? i n=some j/\j<n /\ -(n:Int)<=i/\i<n:=by
 unfold ixN at h
 by_cases h0:0<=i
 .rw[if_pos h0] at h
  by_cases h1:i<n
  .rw[if_pos h1] at h
   have e:=aG h
   exact⟨by rw[seqIndex_of h0 h1,e],by omega,by omega,h1⟩
  .rw[if_neg h1] at h;cases h
 .rw[if_neg h0] at h
  by_cases h1:-n<=i
  .rw[if_pos h1] at h
   have e:=aG h
   exact⟨by rw[seqIndex_neg (by omega) h1,e],by omega,h1,by omega⟩
  .rw[if_neg h1] at h;cases h
def Ph{α:Type}{xs:List α}{i:Int}{v:α}(h:atI xs i=some v):∃j,seqIndex? i xs.length=some j/\xs[j]?=some v/\j<xs.length /\ -(xs.length:Int)<=i/\i<xs.length:=by
 unfold atI at h
 cases e:ixN xs.length i with
 |none=>rw[e] at h;cases h
 |some j=>
  rw[e] at h
  obtain⟨h1,h2,h3,h4⟩:=a07 e
  exact⟨j,h1,h,h2,h3,h4⟩
def Bq{α:Type}{xs:List α}{j:Nat}{v:α}(h:xs[j]?=some v):atI xs (j:Int)=some v:=by
 have hj:=(List.getElem?_eq_some_iff.mp h).1
 have e:ixN xs.length j=some j:=by
  unfold ixN
  rw[if_pos (by omega),if_pos (by omega)];simp
 unfold atI;rw[e];exact h
def Xi(b:Expr):Prop:=∀o i,subscripted b false o i=operate [o,i] (getItem o i)
def IxR(X:Cx)(r:R2):Prop:=
 ∀value slice ξ s (σ:St) (H:Hp) (x y:V) (v u:Value) (Q:VK),Inv X ξ σ H s->RelV x v->RelV y u->r x y H Q ->
  subscripted slice false v u=operate [v,u] (getItem v u)->aS (model X.prog X.w) X.A (subscriptTail value slice v u) (EP X ξ σ Q) X.xe s
def MtR(X:Cx)(id:String)(r:V->List V->Hp->VK->Prop):Prop:=
 ∀ξ s (σ:St) (H:Hp) (x:V) (xs:List V) (v:Value) (us:List Value) (Q:VK),Inv X ξ σ H s->RelV x v->Vals xs us->r x xs H Q ->
  aS (model X.prog X.w) X.A (call (.builtin id) (v::us)) (EP X ξ σ Q) X.xe s
section
variable {X:Cx}{a b:Expr}{ta tb:TE}{pos:Pos}
def b21{r:R2}(hr:IxR X r)(ha:PE X a ta)(hb:PE X b tb)(hs:Xi b):PE X (.Subscript a b pos) (tOp r ta tb):=by
 intro ξ s σ H Q I h
 exact Subscript_ (be9 ha hb I h λv u s2 x y H2 I2 rx ry q=>hr a b ξ s2 σ H2 x y v u Q I2 rx ry q (hs _ _))
def ca9(K:ac):R2:=λx y H Q=>∃p xs i v,x=.ref p/\y=.int i/\SqL K H p xs/\atI xs i=some v/\Q v H
def cb1(K:ac):R2:=λx y H Q=>∃p xs i v,x=.ref p/\y=.int i/\SqT K H p xs/\atI xs i=some v/\Q v H
def cb0:R2:=λx y H Q=>∃z i c,x=.str z/\y=.int i/\z.length<=sizeLine/\atI z.cps.toList i=some c/\Q (.str ⟨#[c]⟩) H
def a08:IxR X (ca9 X.K):=by
 intro value slice ξ s σ H x y v u Q I rx ry h hs
 obtain⟨p,xs,i,z,rfl,rfl,hq,he,q⟩:=h
 cases rx
 obtain⟨t,rfl⟩:=ry
 obtain⟨χ,r,pl,hz⟩:=I.list hq
 obtain⟨j,h1,h2,h3,h4,h5⟩:=Ph he
 obtain⟨w,ew,rw'⟩:=r.get h2
 have hl:=r.length
 have hn:=Jd
 have fin:EP X ξ σ Q w s:=⟨z,H,I,rw',q⟩
 by_cases h0:0<=i
 .have hj:i.toNat=j:=by
   rw[seqIndex_of h0 h5] at h1
   exact aG h1
  exact item_listR pl.isList h0 (by omega) (by rw[hj];simpa using ew) fin hs
 .have hj:(i+χ.toArray.size).toNat=j:=by
   rw[seqIndex_neg (by omega) h4] at h1
   rw[au,<- hl]
   exact aG h1
  exact kc pl.isList.typeIs slot_list_getitem.lookup
   (wpAny_getItem_list_neg pl.isList (by omega) (by rw[au] <;> omega) (by omega) (by rw[hj];simpa using ew) ⟨rfl,fin⟩) hs
def bh3:IxR X (cb1 X.K):=by
 intro value slice ξ s σ H x y v u Q I rx ry h hs
 obtain⟨p,xs,i,z,rfl,rfl,hq,he,q⟩:=h
 cases rx
 obtain⟨t,rfl⟩:=ry
 obtain⟨χ,r,pl,hz⟩:=I.tuple hq
 obtain⟨j,h1,h2,h3,h4,h5⟩:=Ph he
 obtain⟨w,ew,rw'⟩:=r.get h2
 have hl:=r.length
 have hn:=Jd
 have fin:EP X ξ σ Q w s:=⟨z,H,I,rw',q⟩
 exact kc pl.typeIs slot_tuple_getitem.lookup
  (getItem_tuple pl (by omega) (by omega) (by rw[au,<- hl];exact h1) (by simpa using ew) ⟨rfl,fin⟩) hs
def bh2:IxR X cb0:=by
 intro value slice ξ s σ H x y v u Q I rx ry h hs
 obtain⟨z,i,c,rfl,rfl,hz,he,q⟩:=h
 obtain⟨t,rfl⟩:=rx
 obtain⟨t',rfl⟩:=ry
 obtain⟨j,h1,h2,h3,h4,h5⟩:=Ph he
 have hl:z.cps.toList.length=z.length:=by simp[Str.length]
 rw[hl] at h1 h4 h5
 have hn:=Jd
 exact tail_any (typeIs_str s z t) slot_str_getitem.lookup (getItem_str (by
  have e1:decide (i < -(2^63))=false:=decide_eq_false (by omega)
  have e2:decide (i ≥ 2^63)=false:=decide_eq_false (by omega)
  rw[e1,e2,Bool.or_false]) (by rw[h1];simpa using h2) ⟨.str ⟨#[c]⟩,H,I.tok _,⟨_,rfl⟩,q⟩) hs
def eqU(x:V)(u:Value):Bool:=match u with
 |.none=>eqV .non x
 |.bool b=>eqV (.bl b) x
 |.int i _=>eqV (.int i) x
 |.str z _=>eqV (.str z) x
 |_=>false
def ai7{x y:V}{u:Value}(r:RelV y u)(f:B0 y=true):eqU x u=eqV y x:=by
 cases y with
 |non=>cases r;rfl
 |bl b=>cases r;rfl
 |int i=>obtain⟨t,rfl⟩:=r;rfl
 |str z=>obtain⟨t,rfl⟩:=r;rfl
 |_=>exact absurd (f) aA
theorem G9{x:V}:∀{xs} {us},Vals xs us->xs.all B0=true->us.any (eqU x)=xs.any λy=>eqV y x
 |_,_,.nil,_=>rfl
 | y::xs,u::us,.cons r t,f=>by
  rw[b7,aV] at f
  rw[gX,gX,ai7 r f.1,G9 t f.2]
theorem Fq{A:bq}{s:am}{x:V}{v:Value}(rx:RelV x v)(fx:B0 x=true):∀{xs} {us},Vals xs us->xs.all B0=true -> ∀u∈us,bB A s u v (eqU x u)
 |_,_,.nil,_=>λu hu=>by cases hu
 | y::xs,u::us,.cons r t,f=>λu' hu=>by
  rw[b7,aV] at f
  rcases List.mem_cons.mp hu with rfl|hu
  .rw[ai7 r f.1];exact Px r rx f.1 fx
  .exact Fq rx fx t f.2 u' hu
def inV(x:V)(xs:List V):Bool:=xs.any λy=>eqV y x
def rIn(K:ac)(neg:Bool):R2:=λx y H Q=>∃p xs,y=.ref p/\(SqL K H p xs\/SqT K H p xs)/\B0 x=true/\xs.all B0=true/\Q (.bl (if neg then !inV x xs else inV x xs)) H
def aa2:OpR X (cE .In) (rIn X.K false):=by
 intro ξ s σ H x y v u Q I rx ry h
 obtain⟨p,xs,rfl,hq,fx,fs,q⟩:=h
 cases ry
 rcases hq with hq|hq
 .obtain⟨χ,r,pl,hz⟩:=I.list hq
  refine SeqAt.in_listAt (eqU x) pl.isList (λw hw=>Fq rx fx r fs w (by simpa using hw)) ⟨.bl _,H,I,rfl,?_⟩
  rw[show χ.toArray.any (eqU x)=χ.any (eqU x) by simp,G9 r fs]
  exact q
 .obtain⟨χ,r,pl,hz⟩:=I.tuple hq
  refine SeqAt.in_tupleAt (eqU x) pl (λw hw=>Fq rx fx r fs w (by simpa using hw)) ⟨.bl _,H,I,rfl,?_⟩
  rw[show χ.toArray.any (eqU x)=χ.any (eqU x) by simp,G9 r fs]
  exact q
def Qk:OpR X (cE .NotIn) (rIn X.K true):=by
 intro ξ s σ H x y v u Q I rx ry h
 obtain⟨p,xs,rfl,hq,fx,fs,q⟩:=h
 cases ry
 rcases hq with hq|hq
 .obtain⟨χ,r,pl,hz⟩:=I.list hq
  refine SeqAt.notIn_listAt (eqU x) pl.isList (λw hw=>Fq rx fx r fs w (by simpa using hw)) ⟨.bl _,H,I,rfl,?_⟩
  rw[show χ.toArray.any (eqU x)=χ.any (eqU x) by simp,G9 r fs]
  exact q
 .obtain⟨χ,r,pl,hz⟩:=I.tuple hq
  refine SeqAt.notIn_tupleAt (eqU x) pl (λw hw=>Fq rx fx r fs w (by simpa using hw)) ⟨.bl _,H,I,rfl,?_⟩
  rw[show χ.toArray.any (eqU x)=χ.any (eqU x) by simp,G9 r fs]
  exact q
def Pk:Cj X (.builtin "len") (λxs H Q=>∃p ys,xs=[.ref p]/\(SqL X.K H p ys\/SqT X.K H p ys)/\Q (.int ys.length) H):=by
 intro ξ s σ H xs us Q I r h
 obtain⟨p,ys,rfl,hq,q⟩:=h
 obtain⟨u,rfl,rx⟩:=Dc r
 cases rx
 have hn:=Jd
 rcases hq with hq|hq
 .obtain⟨χ,r',pl,hz⟩:=I.list hq
  have hlen:=r'.length
  exact Calls.call_len_list pl.isList (by simp only[au] <;> omega) ⟨.int ys.length,H,I.tok _,⟨s.toks+1,by rw[au,hlen]⟩,q⟩
 .obtain⟨χ,r',pl,hz⟩:=I.tuple hq
  have hlen:=r'.length
  exact len_tuple pl (by simp only[au] <;> omega) ⟨.int ys.length,H,I.tok _,⟨s.toks+1,by rw[au,hlen]⟩,q⟩
def Pl:Cj X (.builtin "len") (λxs H Q=>∃z,xs=[.str z]/\z.length<=sizeLine/\Q (.int z.length) H):=by
 intro ξ s σ H xs us Q I r h
 obtain⟨z,rfl,hz,q⟩:=h
 obtain⟨u,rfl,t,rfl⟩:=Dc r
 have hn:=Jd
 exact len_str (by omega) ⟨.int z.length,H,I.tok _,⟨_,rfl⟩,q⟩
def Pm:Cj X (.type "list") (λxs H Q=>∃p ys,xs=[.ref p]/\(SqL X.K H p ys\/SqT X.K H p ys)/\∀l,H l=none->Q (.ref l) (upd H l (.lst ys))):=by
 intro ξ s σ H xs us Q I r h
 obtain⟨p,ys,rfl,hq,q⟩:=h
 obtain⟨u,rfl,rx⟩:=Dc r
 cases rx
 have fin:∀χ,Vals ys χ->ys.length<=sizeLine -> ∀h' c',(∀b o',s.heap.get? b=some o'->h'.get? b=some o') ->
   h'.get? s.heap.objs.size=some {cls:=.type "list", dict:=none,data:=.seq χ.toArray c',slots:=#[]}->EP X ξ σ Q (.ref s.heap.objs.size) {s with heap:=h'}:=λχ r' hz h' c' kp e=>
  ⟨.ref s.heap.objs.size,_,I.laid kp (ag _) (show ObjOk X.prog X.w _ h' _ (.lst ys) from⟨hz,χ,c',r',e⟩),rfl,q _ (I.hok.fresh (ag _))⟩
 rcases hq with hq|hq
 .obtain⟨χ,r',pl,hz⟩:=I.list hq
  have hlen:=r'.length
  obtain⟨o,ho,hc,n,hd⟩:=pl.isList
  exact call_list_seq p (.inl rfl) ho hc hd (λh' c' kp e=>fin χ r' hz h' c' kp e) (by simp only[au] <;> omega)
 .obtain⟨χ,r',pl,hz⟩:=I.tuple hq
  have hlen:=r'.length
  obtain⟨o,ho,hc,n,hd⟩:=pl
  exact call_list_seq p (.inr rfl) ho hc hd (λh' c' kp e=>fin χ r' hz h' c' kp e) (by simp only[au] <;> omega)
def M9:Cj X (.type "tuple") (λxs H Q=>∃p ys,xs=[.ref p]/\((SqL X.K H p ys/\∀l,H l=none->Q (.ref l) (upd H l (.tup ys)))\/(SqT X.K H p ys/\Q (.ref p) H))):=by
 intro ξ s σ H xs us Q I r h
 obtain⟨p,ys,rfl,h⟩:=h
 obtain⟨u,rfl,rx⟩:=Dc r
 cases rx
 rcases h with⟨hq,q⟩|⟨hq,q⟩
 .obtain⟨χ,r',pl,hz⟩:=I.list hq
  have hlen:=r'.length
  refine call_tuple_list pl.isList (λh' kp=>?_) (by simp only[au] <;> omega)
  have I1:=I.kept kp
  have I2:Inv X ξ σ (upd H h'.objs.size (.tup ys)) {s with heap:=h'.push {cls:=.type "tuple", data:=.seq χ.toArray}}:=
   I1.laid (λb o e=>ah _ e) (ag _) (⟨hz,χ,r',IsTup.new _ _⟩)
  exact⟨.ref h'.objs.size,_,I2,rfl,q _ (I1.hok.fresh (ag _))⟩
 .obtain⟨χ,r',pl,hz⟩:=I.tuple hq
  exact call_tuple_same pl ⟨.ref p,H,I,rfl,q⟩
def tyV(K:ac)(T:String)(x:V)(H:Hp):Prop:=match x with
 |.str _=>T="str"
 |.int _=>T="int"
 |.ref p=>(T="list" /\ ∃xs,SqL K H p xs)\/False\/(T="dict" /\ ((∃kvs,H p=some (.dK kvs)) \/ ∃kvs,H p=some (.dT kvs)))\/False
 |_=>False
def aw1{ξ:List (Addr×Obj)}{σ:St}{H:Hp}{s:am}{T:String}{x:V}{v:Value}(I:Inv X ξ σ H s)(r:RelV x v)(ty:tyV X.K T x H) :
  s.TypeIs v T/\∀a,v=.ref a -> ∃ob,s.heap.get? a=some ob/\ob.dict=none:=by
 cases x with
 |str z=>
  obtain⟨t,rfl⟩:=r
  cases(ty)
  exact⟨typeIs_str s z t,λ_ e=>nomatch e⟩
 |int i=>
  obtain⟨t,rfl⟩:=r
  cases(ty)
  exact⟨typeIs_int s i t,λ_ e=>nomatch e⟩
 |ref p=>
  cases r
  rcases ty with⟨rfl,xs,hq⟩|z|⟨rfl,hk⟩|z
  .obtain⟨χ,_,pl,_⟩:=I.list hq
   refine⟨pl.isList.typeIs,λa e=>?_⟩
   cases e
   obtain⟨o,n,e,c,hd,_⟩:=pl
   exact⟨o,e,hd⟩
  .exact z.elim
  .obtain⟨o,e,ex⟩:∃o,s.heap.get? p=some o/\o.ExactDict:=by
    rcases hk with⟨kvs,hk⟩|⟨kvs,hk⟩ <;> (obtain⟨_,_,_,_,o,_,_,e,ex,_⟩:=I.hok p _ hk;exact⟨o,e,ex⟩)
   refine⟨⟨o,e,ex.1⟩,λa e2=>?_⟩
   cases e2
   exact⟨o,e,ex.2.1⟩
  .exact z.elim
 |_=>exact bR ty
variable {o e:Expr}{es:List Expr}{to:TE}{t:TA}{name:Str}{apos cpos:Pos}{T id:String}{r:V->List V->Hp->VK->Prop}
end
def MtM(X:Cx)(id:String)(r:V->List V->Hp->VK->Prop):Prop:=
 ∀ξ s (σ:St) (H:Hp) (x:V) (xs:List V) (v:Value) (us:List Value) (Q:VK),Inv X ξ σ H s->RelV x v->Vals xs us->r x xs H Q ->
  aS (model X.prog X.w) X.A (call (.builtin id) (v::us)) (EP X ξ σ Q) X.xe s
theorem Vals.one:∀{x} {us},Vals [x] us -> ∃u,us=[u]/\RelV x u
 |_,_,.cons r .nil=>⟨_,rfl,r⟩
theorem Vals.two:∀{x y} {us},Vals [x,y] us -> ∃u v,us=[u,v]/\RelV x u/\RelV y v
 |_,_,_,.cons r (.cons q .nil)=>⟨_,_,rfl,r,q⟩
theorem Vals.zero:∀{us},Vals [] us->us=[]
 |_,.nil=>rfl
theorem Vals.dropLast{xs:List V}{us:List Value}(h:Vals xs us):Vals xs.dropLast us.dropLast:=by
 induction h with
 |nil=>exact .nil
 |cons r t ih=>
  cases t with
  |nil=>exact .nil
  |cons q t'=>exact .cons r ih
def U0{α:Type}(l:List α):l.eraseIdx (l.length-1)=l.dropLast:=by
 induction l with
 |nil=>rfl
 |cons a r ih=>
  cases r with
  |nil=>rfl
  |cons b r=>
   have e:(a::b::r).length-1=((b::r).length-1)+1:=by
    have h1:(a::b::r).length=r.length+2:=rfl
    have h2:(b::r).length=r.length+1:=rfl
    omega
   rw[e,List.eraseIdx_cons_succ,ih]
   all_goals rfl
section
variable {X:Cx}{ξ:List (Addr×Obj)}{σ:St}{H:Hp}{s:am}{l b:Addr}{xs ys zs:List V}
def Inv.lset{χ its':List Value}{n:Nat}{f:Array Value->Array Value}{t':Nat}(I:Inv X ξ σ H s)(hH:H l=some (.lst xs))(e:s.heap.get? l=some {cls:=.type "list", data:=.seq χ.toArray n})(hf:f χ.toArray=its'.toArray)(hv:Vals ys its')(hz:ys.length<=sizeLine)(ht:s.toks<=t':=by trivial) :
  Inv X ξ σ (upd H l (.lst ys)) {s with heap:=s.heap.update l (bG f),toks:=t'}:=by
 have q:=PySem.IsL.update e f
 rw[hf] at q
 refine I.write (by rw[hH];exact trivial) (.inl rfl) (λb' u hb hu=>(bX s.heap (bG f) (bY hb)).trans hu) ⟨_,q⟩ ?_
 exact⟨hz,its',_,hv,q⟩
def Inv.lnew{χ:List Value}{t':Nat}(I:Inv X ξ σ H s)(hv:Vals ys χ)(hz:ys.length<=sizeLine)(ht:s.toks<=t':=by trivial) :
  Inv X ξ σ (upd H s.heap.objs.size (.lst ys)) {s with heap:=s.heap.push {cls:=.type "list", data:=.seq χ.toArray},toks:=t'}:=
 I.laid (λ_ _ q=>ah _ q) (ag _) ⟨hz,χ,0,hv,aD _ rfl⟩ ht
theorem Inv.fresh(I:Inv X ξ σ H s):H s.heap.objs.size=none:=I.hok.fresh (ag _)
def Inv.lstM(I:Inv X ξ σ H s)(hH:H l=some (.lst xs)):xs.length<=sizeLine/\∃χ n,Vals xs χ/\xs.length=χ.length/\s.heap.get? l=some {cls:=.type "list", data:=.seq χ.toArray n}:=by
 obtain⟨z,χ,n,r,e⟩:=I.hok l _ hH
 exact⟨z,χ,n,r,r.length,e⟩
def am9{n:Nat}(h:n<=sizeLine):jt n=false:=by
 exact decide_eq_false (by omega)
end
section
variable {X:Cx}
def Dn:V->List V->Hp->VK->Prop:=λx vs H Q=>∃l xs y,x=.ref l/\vs=[y]/\H l=some (.lst xs)/\xs.length<sizeLine/\Q .non (upd H l (.lst (xs++[y])))
def Ow:MtM X "list.append" Dn:=by
 intro ξ s σ H x vs v us Q I rx rv h
 obtain⟨l,xs,y,rfl,rfl,hH,hz,q⟩:=h
 cases rx
 obtain⟨u,rfl,ru⟩:=rv.one
 obtain⟨z,χ,n,r,hl,e⟩:=I.lstM hH
 refine k9 F.slot_list_append ⟨_,e,rfl⟩ F.entry_list_append (F.args_list_append_2 _ _) (PySem.list_append l χ.toArray n u (by rw[au];omega)) ⟨e,?_⟩
 refine⟨.non,_,I.lset hH e (by simp) (r.append (.cons ru .nil)) ?_,rfl,q⟩
 rw[aB,bS]
 omega
def Kz:V->List V->Hp->VK->Prop:=λx vs H Q=>∃l b xs zs,x=.ref l/\vs=[.ref b]/\H l=some (.lst xs)/\H b=some (.lst zs)/\xs.length+zs.length<=sizeLine/\Q .non (upd H l (.lst (xs++zs)))
def Z6:MtM X "list.extend" Kz:=by
 intro ξ s σ H x vs v us Q I rx rv h
 obtain⟨l,b,xs,zs,rfl,rfl,hH,hB,hz,q⟩:=h
 cases rx
 obtain⟨u,rfl,ru⟩:=rv.one
 cases ru
 obtain⟨z,χ,n,r,hl,e⟩:=I.lstM hH
 obtain⟨z2,its2,n2,r2,hl2,e2⟩:=I.lstM hB
 have hsz:χ.toArray.size+its2.toArray.size<=sizeLine:=by rw[au,au];omega
 have hlong:¬ (!χ.toArray.isEmpty&&jt (χ.toArray.size+its2.toArray.size))=true:=by
  rw[am9 hsz,ip]
  exact aA
 refine k9 F.slot_list_extend ⟨_,e,rfl⟩ F.entry_list_extend (F.args_list_extend_2 _ _)
  (AutoSeq1.list_extend_list_list_0 l χ.toArray n b its2.toArray n2 hlong (by rw[au];omega) (by omega)) ⟨e,e2,?_⟩
 refine⟨.non,_,I.lset hH e (by simp) (r.append r2) ?_,rfl,q⟩
 rw[aB]
 omega
def b35:V->List V->Hp->VK->Prop:=λx vs H Q=>∃l xs y,x=.ref l/\vs=[]/\H l=some (.lst xs)/\xs[xs.length-1]?=some y/\Q y (upd H l (.lst xs.dropLast))
def bi6:MtM X "list.pop" b35:=by
 intro ξ s σ H x vs v us Q I rx rv h
 obtain⟨l,xs,y,rfl,rfl,hH,hy,q⟩:=h
 cases rx
 have hus:=rv.zero
 subst hus
 obtain⟨z,χ,n,r,hl,e⟩:=I.lstM hH
 obtain⟨u,hu,ru⟩:=r.get hy
 have hy':χ.toArray[χ.toArray.size-1]?=some u:=by
  show χ.toArray[χ.length-1]?=some u
  rw[<- ck,<- hl]
  exact hu
 refine k9 F.slot_list_pop ⟨_,e,rfl⟩ F.entry_list_pop (F.args_list_pop_1 _) (MeetsSeq.list_pop_last l χ.toArray n u hy' (by rw[au];omega)) ⟨e,?_⟩
 refine⟨y,_,I.lset hH e ?_ r.dropLast ?_,ru,q⟩
 .rw[au,List.eraseIdxIfInBounds_toArray,U0]
 .rw[List.length_dropLast]
  omega
def Vu:V->List V->Hp->VK->Prop:=λx vs H Q=>∃l xs,x=.ref l/\vs=[]/\H l=some (.lst xs)/\Q .non (upd H l (.lst []))
def am3:MtM X "list.clear" Vu:=by
 intro ξ s σ H x vs v us Q I rx rv h
 obtain⟨l,xs,rfl,rfl,hH,q⟩:=h
 cases rx
 have hus:=rv.zero
 subst hus
 obtain⟨z,χ,n,r,hl,e⟩:=I.lstM hH
 exact k9 F.slot_list_clear ⟨_,e,rfl⟩ F.entry_list_clear (F.args_list_clear_1 _) (AutoSeq1.list_clear_list_0 l χ.toArray n (by rw[au];omega)) ⟨e,⟨.non,_,I.lset (its':=[]) (ys:=[]) hH e rfl .nil (bu _),rfl,q⟩⟩
def b34:R2:=λx y H Q=>∃l b xs zs,x=.ref l/\y=.ref b/\H l=some (.lst xs)/\H b=some (.lst zs)/\xs.length+zs.length<=sizeLine/\∀p,H p=none->Q (.ref p) (upd H p (.lst (xs++zs)))
def op_cat:OpR X (dQ .Add) b34:=by
 intro ξ s σ H x y v u Q I rx ry h
 obtain⟨l,b,xs,zs,rfl,rfl,hH,hB,hz,q⟩:=h
 cases rx
 cases ry
 obtain⟨z,χ,n,r,hl,e⟩:=I.lstM hH
 obtain⟨z2,its2,n2,r2,hl2,e2⟩:=I.lstM hB
 refine PySem.P.add_list e e2 ?_ (by rw[au,au];omega)
 have ea:χ.toArray++its2.toArray=(χ++its2).toArray:=by simp
 rw[ea]
 exact⟨.ref _,_,I.lnew (r.append r2) (by rw[aB];omega),rfl,q _ I.fresh⟩
end
end L2
namespace Att
open PySem PySem.W PySem.Calls PyProof.Rows
def J6{P:Params}{h:Heap}:∀ns vs,WellAll P h vs (ns.map WData.int)->mO vs ns:=by
 intro ns
 induction ns with
 |nil=>
  intro vs w
  rw[iz] at w
  cases w
  exact .nil
 |cons n ns ih=>
  intro vs w
  rw[aX] at w
  cases w with
  |cons a b=>
   cases a
   exact .cons _ _ (ih _ b)
def ab6{l:OpenLaw}{n:Nat}(hn:l.most=some n){P:Params}{h:Heap}{args:List WData}{vals:List Value}(hpre:l.row.toRowW.claim.pre args=true)(hwl:WellAll P h vals args) :
  ∃a vs ns,vals=[ba a]/\args=[WData.list (ns.map WData.int)]/\h.get? a=some {cls:=.type "list", data:=.seq vs.toArray}/\mO vs ns/\ns.length<=n:=by
 have hsh:=(pre_splitW hpre).1
 have hc:=(pre_splitW hpre).2
 obtain⟨d,r,rfl,h1,h2⟩:=hasAllW_cons hsh
 obtain rfl:=hasAllW_nil h2
 obtain⟨xs,rfl,h3⟩:=hasW_list h1
 obtain⟨ns,rfl⟩:=items_int h3
 have hlen:ns.length<=n:=by
  have h4:(WTm.not (.lt (.lit (.int n)) (.len (.arg 0)))).holds [] {args:=[.list (ns.map .int)]}=true:=by
   have h4:=(holds_andW hc).1
   rw[hn] at h4
   exact h4
  have h5:=condW_of h4 (w_not (w_lt w_lit (w_len_list (w_arg rfl))))
  rw[ae] at h5
  refine Nat.le_of_not_lt λq=>?_
  have q':n<(ns.length:Int):=by omega
  first
   |(rw[decide_eq_true q'] at h5;exact absurd h5 (by decide))
   |(simp at h5;omega)
 cases hwl with
 |cons w1 w2=>
  cases w2
  cases w1 with
  |list ho hall=>exact⟨_,_,ns,rfl,rfl,ho,J6 ns _ hall,hlen⟩
def aa7(l:OpenLaw)(args:List WData):l.row.toRowW.claim.post args (.bool true) args=true:=
 postW_of
  (show WShape.has [] (.bool true) .bool=true by first|rfl|decide|simp[WShape.has,WShape.arms,WShape.armsAll])
  (w_eq_bool (w_res rfl) w_lit) rfl
def attach_call{l:OpenLaw}{n:Nat}{q:aO}{loose:List Str}{XP:(Str->Option Value)->Heap->Prop}{YP:bw->Heap->Prop}{d:DefRec}(hn:l.most=some n)(hdf:d.params.defaults=[])(call:∀w s₀ s₁ mg mb fa o pm cd doc a vs ns,
   Ground q loose [] XP w s₀ mg mb s₁.heap->YP w s₁.heap ->
   s₁.heap.get? fa=some o->o.data=.func (docDef d.name d.params d.body d.scope pm cd doc)->s₁.heap.CodeRec cd d.name->mg d.name=some (.ref fa) ->
   s₁.heap.get? a=some {cls:=.type "list", data:=.seq vs.toArray}->mO vs ns->ns.length<=n->s₁.gens = #[] ->
   gM (model l.prog w) mS (.call (.ref fa) ⟨[.ref a],[]⟩) (λr s'=>r=.ok (.ret (.bool true))/\OldK s₁.heap s'.heap/\s'.os=s₁.os/\kg s'.gens) s₁) :
  WalkO q loose XP YP l.row.toRowW d [] (λf vs=>PySem.call f vs):=by
 intro w s₀ s₁ mg mb G Y fa o pm cd doc dV kV ho hd hcd hD hmg hg args vals as hpre hlay hrd hwl hlo
 obtain rfl:dV=.none:=Dflts.none hD hdf
 obtain rfl:kV=.none:=Dflts.noKw hD
 obtain⟨a,vs,ns,rfl,rfl,hobj,hints,hlen⟩:=ab6 hn hpre hwl
 refine enter_call (d_ (call w s₀ s₁ mg mb fa o pm cd doc a vs ns G Y ho (fd_plain hd) hcd hmg hobj hints hlen hg) λr s' hq=>?_)
 obtain⟨rfl,h2,h3,h4⟩:=hq
 exact⟨.inl ⟨.bool true,.bool true,[],rfl,λ_=>rfl,.bool true,aa7 l _,λ_=>⟨List.Pairwise.nil,λ_ hm=>(nomatch hm)⟩⟩,h2,h3,h4⟩
end Att
namespace L2
open PySem PySem.Spec PyProof.Rows
theorem Pf:∀{vs} {ns},mO vs ns->Vals (ns.map V.int) vs
 |_,_,.nil=>.nil
 |_,_,.cons n t h=>.cons ⟨t,rfl⟩ (Pf h)
def Ar(s:Stmt)(j:Nat):Stmt:=match s with
 |.ClassDef _ _ _ body _ _ _ _ _ _ _=>body.getD j (.Pass ⟨0,0,0,0⟩)
 |_=>.Pass ⟨0,0,0,0⟩
def B7(s:Stmt):Arguments:=match s with
 |.FunctionDef _ a _ _ _ _ _ _ _ _=>a
 |_=>{posonlyargs:=[],args:=[],vararg:=none,kwonlyargs:=[],kw_defaults:=[],kwarg:=none,defaults:=[]}
def Ba(s:Stmt):List Stmt:=match s with
 |.FunctionDef _ _ b _ _ _ _ _ _ _=>b
 |_=>[]
def Ak(s:Stmt):Scope:=match s with
 |.FunctionDef _ _ _ _ _ _ sc _ _ _=>sc
 |_=>{kind:=.function,names:=[],isGenerator:=false,isCoroutine:=false}
abbrev CX0:CXT:=λ_ _ _ _ _ _=>False
structure Fun (K:ac) (x qual:Str) (st:Stmt) (f:Addr) (fd:bb):Prop where
 ex:∃(oc:Value)(od:Option Addr)(kV doc pm:Value)(an:Option Addr)(θ ct:Value)(osl:Array (Option Value)),
  fd=cx x qual (B7 st) (Ba st) (Ak st) .none kV doc pm an θ ct/\K.lookup f=some ⟨oc,od,.func fd,osl⟩/\dF K θ qual=true
 kp:be K (.ref f)=true
section
variable {P:aO}{w:bw}{K:ac}{mg:Str->Option Value}{base:Heap}
def Fun.binds{x qual:Str}{st:Stmt}{f:Addr}{fd:bb}{ps:List Str}(F:Fun K x qual st f fd)(h:∀kV doc pm an θ ct us,us.length=ps.length->iT (cx x qual (B7 st) (Ba st) (Ak st) .none kV doc pm an θ ct) ⟨us,[]⟩=pure (ps.zip us)):Binds K fd ps []:=by
 obtain⟨oc,od,kV,doc,pm,an,θ,ct,osl,rfl,lk,hcd⟩:=F.ex
 exact .all (h kV doc pm an θ ct)
def P1{x qual:Str}{st:Stmt}{f:Addr}{oc:Value}{od an:Option Addr}{osl:Array (Option Value)}{kV doc pm θ ct:Value}(l:K.lookup f=some ⟨oc,od,.func (cx x qual (B7 st) (Ba st) (Ak st) .none kV doc pm an θ ct),osl⟩)(c:dF K θ qual=true)(k:be K (.ref f)=true):Fun K x qual st f (cx x qual (B7 st) (Ba st) (Ak st) .none kV doc pm an θ ct):=⟨⟨oc,od,kV,doc,pm,an,θ,ct,osl,rfl,l,c⟩,k⟩
end
def ak4{A B:Prop}(h:B):if false=true then A else B:=by
 rw[if_neg aA]
 exact h
def Zv{A B:Prop}(h:A):if true=true then A else B:=by
 rw[if_pos rfl]
 exact h
def Jb{c A B:Prop} [Decidable c](h1:c->A)(h2:¬ c->B):if c then A else B:=by
 by_cases h:c
 .rw[if_pos h]
  exact h1 h
 .rw[if_neg h]
  exact h2 h
def Same(H H':Hp):Prop:=∀b o,H b=some o->H' b=some o
def Same.refl(H:Hp):Same H H:=λ_ _ h=>h
def Same.trans{H H1 H2:Hp}(a:Same H H1)(b:Same H1 H2):Same H H2:=λc o h=>b c o (a c o h)
def Same.free{H H':Hp}(e:Same H H'){l:Addr}(h:H' l=Option.none):H l=Option.none:=by
 cases q:H l with
 |none=>rfl
 |some o=>
  rw[e l o q] at h
  cases h
def Cx.comp(X:Cx)(N':List Str)(scope:Scope)(cl:List (Str×Addr))(fp:List Addr)(C:Addr)(s:am)(H:Hp)(xe:Value->am->Prop):Cx:=
 {prog:=X.prog,w:=X.w,K:=X.K,mg:=X.mg,base:=X.base,A:=X.A,N:=N',s₀:=s,H₀:=H,env:=compEnvC scope cl C X.env,outer:=X.stack,stack:=X.stack,
  ex:=fp,fn:=λx=>(cl.lookup x).isNone,calm:=X.calm,pn:=[],xe:=xe}
def Ut(srcs:List (Option Nat))(σ:St):St:=srcs.map λo=>o.bind λj=>(σ[j]?).join
structure K2 (X:Cx) (N':List Str) (srcs:List (Option Nat)) (scope:Scope) (cl:List (Str×Addr)):Prop where
 clos:k_ scope X.env=pure cl
 nocell:∀y∈scope.names,y.2≠.cell
 kind:scope.kind=.function
 names:∀y∈scope.names,y.2=.local->scope.names.lookup y.1=some .local
 sub:∀x c,cl.lookup x=some c->X.env.cells.lookup x=some c
 has:∀x,((j0 scope X.env).names.lookup x=some .cell\/(j0 scope X.env).names.lookup x=some .free) -> ∃c,cl.lookup x=some c
 len:srcs.length=N'.length
 src:∀(k j:Nat)(x:Str),N'[k]?=some x->srcs[k]?=some (some j)->X.N[j]?=some x/\(X.env.scope.names.lookup x=some .cell\/X.env.scope.names.lookup x=some .free) /\
  ((j0 scope X.env).names.lookup x=some .cell\/(j0 scope X.env).names.lookup x=some .free)
def Y5(X:Cx)(ifs:List Expr)(t:TT):Prop:=
 ∀ξ s (σ:St) (H:Hp) (Q:Bool->Hp->Prop),Inv X ξ σ H s->t σ H Q ->
  aS (model X.prog X.w) X.A (forIn ifs true λc r=>if r=true then do let ok <- isTrue c X.env (eval c X.env);pure (fX ok) else pure (fX r)) (TP X ξ σ Q) X.xe s
def cc4:TT:=λ_ H Q=>Q true H
def ao2{X:Cx}:Y5 X [] cc4:=λ_ _ _ H _ I h=>wpAny_tests_nil ⟨H,I,h⟩
def ao3{X:Cx}{c:Expr}{t:TT}(h:PT X c t):Y5 X [c] t:=λξ s σ H Q I q=>wpAny_tests_one (h ξ s σ H Q I q)
def av1(srcs:List (Option Nat))(wi:TI)(g:TG)(tc:TT)(te:TE):TE:=λσ H Q=>wi σ H λJ H1=>∀D,H1 D=none ->
 ∃W:Nat->Nat->St->Hp->Prop,(∃m,W 0 m (Ut srcs σ) (upd H1 D (.lst [])))/\∀i m σ' H',W i m σ' H' ->
  (J.stop i H'/\Q (.ref D) H')\/(J.go i H'/\∃N:St->Hp->Prop,(∀ σ2 H2,N σ2 H2 -> ∃m',m'<m/\W (i+1) m' σ2 H2)/\∀x H2,J.yld i H' x H2->g x σ' H2 λσ3 H3=>tc σ3 H3 λb H4=>if b=true then
    te σ3 H4 λv H5=>∃ys,H5 D=some (.lst ys)/\ys.length<sizeLine/\N σ3 (upd H5 D (.lst (ys++[v])))
   else N σ3 H4)
section
variable {prog:aO}{w:bw}{A:bq}{E:Value->am->Prop}{R:mR->am->Prop}{s:am}
def Pq{elt target iter:Expr}{ifs:List Expr}{scope:Scope}{pos:Pos}{it acc:Value}{env:Env}(I:Nat->am->Prop)(turn:∀n s,I n s->aS (model prog w) A (mZ it) (λr s₁=>match r with
   |none=>R (.ok .next) s₁
   |some v=>aS (model prog w) A (kM target it v) (λ_ s₀=>aS (model prog w) A (nu target env v) (λ_ s₂=>
     aS (model prog w) A (forIn ifs true λc r=>if r=true then do let ok <- isTrue c env (eval c env);pure (fX ok) else pure (fX r)) (λok s₃=>
      if ok=true then aS (model prog w) A (eval elt env) (λx s₄=>
       aS (model prog w) A (call (.builtin "list.append") [acc,x]) (λ_ s₅=>∃m,m<n/\I m s₅) (mo (model prog w) A env λe s'=>R (.error e) s') s₄) (mo (model prog w) A env λe s'=>R (.error e) s') s₃
      else ∃m,m<n/\I m s₃) (mo (model prog w) A env λe s'=>R (.error e) s') s₂) (mo (model prog w) A env λe s'=>R (.error e) s') s₀) (mo (model prog w) A env λe s'=>R (.error e) s') s₁) (mo (model prog w) A env λe s'=>R (.error e) s') s)(n:Nat)(h:I n s) :
  gM (model prog w) A (.compLoop (.ListComp elt [⟨target,iter,ifs,0⟩] scope pos) 0 it acc env) R s:=by
 refine codeAny_loop rfl I (λn s hI=>?_) n h
 refine wpAny_noted ?_
 rw[compTurn_list]
 refine af (eh (af (bH (turn n s hI) (λr s₁ h₁=>?_) λ_ _ h'=>h')))
 cases r with
 |none=>exact aq h₁
 |some v=>
  refine af (bH h₁ (λ_ s₀ h₀=>?_) λ_ _ h'=>h')
  refine af (bH h₀ (λ_ s₂ h₂=>af (bH h₂ (λok s₃ h₃=>?_) λ_ _ h'=>h')) λ_ _ h'=>h')
  cases ok with
  |false=>exact aq ⟨rfl,h₃⟩
  |true=>
   exact af (af (bH h₃ (λx s₄ h₄=>af (bH h₄ (λ_ s₅ h₅=>aq (aq ⟨rfl,h₅⟩)) λ_ _ h'=>h')) λ_ _ h'=>h'))
end
section
variable {X:Cx}{elt tg iter:Expr}{ifs:List Expr}{scope:Scope}{pos:Pos}{N':List Str}{srcs:List (Option Nat)}{cl:List (Str×Addr)}{wi:TI}{g:TG}{tc:TT}{te:TE}
def Uv{xe:Value->am->Prop}{ξ:List (Addr×Obj)}{σ:St}{H:Hp}{s:am}{fp:List Addr}{C D:Addr}{h₁:Heap}{tk:Nat}(S:K2 X N' srcs scope cl)(I:Inv X ξ σ H s)(f:∀b∈fp,Cy X ξ H b)(fo:∀b∈fp,b<s.heap.objs.size)(hD:s.heap.objs.size<=D)(hC:s.heap.objs.size<=C)(hDC:C≠D)(hns:∃m,h₁.Ns C m)(old:∀b o,s.heap.get? b=some o->h₁.get? b=some o)(hacc:∃n,h₁.get? D=some {cls:=.type "list", data:=.seq ([]:List Value).toArray n})(ht:s.toks<=tk:=by trivial) :
  Inv (X.comp N' scope cl fp C s H xe) [] (Ut srcs σ) (upd H D (.lst [])) {s with heap:=h₁,toks:=tk}:=by
 have hfD:=I.hok.fresh hD
 have ok:(X.comp N' scope cl fp C s H xe).Ok:=by
  refine⟨I.ok.mod,S.kind,I.ok.glob,I.ok.blt,hC,λx y c a b=>I.ok.inj x y c (S.sub x c a) (S.sub y c b),S.has,λx c hf hl=>?_,I.ok.hd,I.ok.frames,.inl rfl,λb hb=>⟨?_,λx c hl=>?_⟩,I.bs,aT I.ok.bsz I.sz,λb o e hb=>?_,λb hb hfs=>?_,I.stack,I.stkFree,aM⟩
  .have hl':cl.lookup x=some c:=hl
   have hf':(cl.lookup x).isNone=true:=hf
   rw[hl'] at hf'
   cases hf'
  .exact aR (aL (fo b hb) hC)
  .exact (f b hb).2.2.2.2.1 x c (S.sub x c hl)
  .rcases (f b hb).2.2.2.1 with z|z
   .exact I.ok.noex b o e z
   .exact absurd (aL (aH e) (aT I.ok.bsz z)) (gj _)
  .rcases List.mem_cons.mp (I.stkSub b hfs) with z|z
   .exact (f b hb).2.1 z
   .exact (f b hb).2.2.1 z
 obtain⟨m0,hns⟩:=hns
 obtain⟨nn,hacc⟩:=hacc
 refine⟨ok,⟨rfl,ht⟩,I.bare,Un.laid old hD hfD,⟨m0,hns,λk x v e1 e2 e3=>?_⟩,λx c hl=>?_,?_,λx c hl=>?_,λp hp=>absurd (show p∈([]:List (Addr×Obj)) from hp) (by simp),I.hok.laid old hD ⟨bu _,[],nn,.nil,hacc⟩,?_⟩
 ·-- the captured names
  have e1:=e1
  have e2:(srcs.map λo=>o.bind λj=>(σ[j]?).join)[k]?=some (some v):=e2
  rw[al] at e2
  cases hk:srcs[k]? with
  |none=>rw[hk] at e2;cases e2
  |some o=>
   rw[hk] at e2
   cases o with
   |none=>cases e2
   |some j=>
    have e2':(σ[j]?).join=some v:=aG e2
    have e3':σ[j]?=some (some v):=by
     cases hj:σ[j]? with
     |none=>rw[hj] at e2';cases e2'
     |some y=>rw[hj] at e2';exact congrArg some e2'
    obtain⟨a1,a2,a3⟩:=S.src k j x e1 hk
    obtain⟨m,hn,hl⟩:=I.loc
    obtain⟨u,r,l⟩:=hl j x v a1 e3' (a2.elim (λz=>.inr (.inl z)) λz=>.inr (.inr z))
    refine⟨u,r,.inr ⟨a3,?_⟩⟩
    obtain⟨c,hc⟩:=S.has x a3
    refine⟨c,hc,?_⟩
    rcases l with⟨z,_⟩|⟨_,c',hc',o,ho,hd⟩
    .have z':X.env.scope.names.lookup x=some .local:=z
     rcases a2 with q|q <;> rw[q] at z' <;> cases z'
    .have e:=S.sub x c hc
     rw[hc'] at e
     cases e
     exact⟨o,old _ o ho,hd⟩
 .obtain⟨v,o,ho,hd⟩:=I.cell x c (S.sub x c hl)
  exact⟨v,o,old _ o ho,hd⟩
 .show upd H D (.lst []) C=none
  rw[Ad hDC]
  exact I.hok.fresh hC
 .have hx:=S.sub x c hl
  obtain⟨v,o,ho,hd⟩:=I.cell x c hx
  rw[Ad (aR (aL (aH ho) hD))]
  exact I.freeC x c hx
 .show (Ut srcs σ).length=N'.length
  unfold Ut
  rw[ae,S.len]
def Bv(X:Cx)(scope:Scope)(cl:List (Str×Addr))(use:Option (Value->Sem Unit))(Q2:Value->am->Prop)(D C:Addr):Value->am->Prop:=
 mo (model X.prog X.w) X.A (compEnvC scope cl C X.env) λe s'=>compPost (model X.prog X.w) X.A X.xe use Q2 (.ref D) C (.error e) s'
def Oj{ξ:List (Addr×Obj)}{s:am}{σ:St}{H:Hp}{Q:VK}{use:Option (Value->Sem Unit)}{Q2:Value->am->Prop}(hc:X.calm=true)(S:K2 X N' srcs scope cl)(hi:PI X tg iter wi)(hb:∀fp C D s2 H2,Inv X ξ σ H2 s2->(∀b∈fp,Cy X ξ H2 b)->s2.heap.objs.size<=C->PG (X.comp N' scope cl fp C s2 H2 (Bv X scope cl use Q2 D C)) tg g/\Y5 (X.comp N' scope cl fp C s2 H2 (Bv X scope cl use Q2 D C)) ifs tc/\PE (X.comp N' scope cl fp C s2 H2 (Bv X scope cl use Q2 D C)) elt te)(I:Inv X ξ σ H s)(h:av1 srcs wi g tc te σ H Q)(fin:∀(D C:Addr)(H':Hp)(s':am),Inv X ξ σ H' s'->(∃m,s'.heap.Ns C m)->Cy X ξ H' C->Q (.ref D) H'->compPost (model X.prog X.w) X.A X.xe use Q2 (.ref D) C (.ok .next) s')(hs:∀x,gr iter X.env x=pure x) :
  aS (model X.prog X.w) X.A (comprehension (.ListComp elt [⟨tg,iter,ifs,0⟩] scope pos) scope X.env (firstIterPos [⟨tg,iter,ifs,0⟩] pos) (newList []) false (eval iter X.env) use) Q2 X.xe s:=by
 refine wpAny_comprehension_free rfl hs S.clos S.kind S.names (thn (hi ξ s σ H _ I h) λv s1 h1=>thn h1 λitv s2 h2=>?_)
 obtain⟨it,fp,tn,J,H2,e,I2,T,st2,f2,q2⟩:=h2
 subst e
 refine dH (wpAny_newFunctionEnv S.nocell (by intro y hy;simp at hy) (λh₁ hns₁ hsb₁=>?_) S.kind)
 generalize hH2:s2.heap.push {cls:=.type "list", dict:=none,data:=.seq ([]:List Value).toArray}=G2 at hns₁ hsb₁ ⊢
 have hCe:G2.objs.size=s2.heap.objs.size+1:=by rw[<- hH2,c8]
 have hDC:G2.objs.size≠s2.heap.objs.size:=by rw[hCe];exact gQ (cF _)
 have hCle:s2.heap.objs.size<=G2.objs.size:=by rw[hCe];exact cW _
 have old:∀b o,s2.heap.get? b=some o->h₁.get? b=some o:=λb o e=>
  hsb₁.extBut b o (aR (aL (aH e) hCle)) (ah _ (hH2▸ah _ e))
 have hacc:∃n,h₁.get? s2.heap.objs.size=some {cls:=.type "list", data:=.seq ([]:List Value).toArray n}:=⟨_,hsb₁.extBut _ _ (bY hDC) (ah _ (hH2▸aD _ rfl))⟩
 have fo:∀b∈fp,b<s2.heap.objs.size:=λb hb=>by
  obtain⟨o,ho,_⟩:=T.obj _ _ st2 b hb
  exact aH ho
 have st3:=T.keep _ _ _ st2 λb _ o e=>old b o e
 obtain⟨hg,ht,he⟩:=hb fp G2.objs.size s2.heap.objs.size s2 H2 I2 f2 hCle
 obtain⟨W,⟨m0,w0⟩,turn⟩:=q2 s2.heap.objs.size (I2.hok.fresh (ag _))
 have loop:∀s3:am,s3={s2 with heap:=h₁,toks:=s2.toks+([]:List (Str×Value)).length} ->
   gM (model X.prog X.w) X.A (.compLoop (.ListComp elt [⟨tg,iter,ifs,0⟩] scope pos) 0 (.ref it) (.ref s2.heap.objs.size) (compEnvC scope cl G2.objs.size X.env))
    (compPost (model X.prog X.w) X.A X.xe use Q2 (.ref s2.heap.objs.size) G2.objs.size) s3:=by
  rintro s3 rfl
  have I3:Inv (X.comp N' scope cl fp G2.objs.size s2 H2 (Bv X scope cl use Q2 s2.heap.objs.size G2.objs.size)) [] (Ut srcs σ) (upd H2 s2.heap.objs.size (.lst [])) {s2 with heap:=h₁,toks:=s2.toks+([]:List (Str×Value)).length}:=
   Uv S I2 f2 fo (ag _) hCle hDC ⟨_,hns₁⟩ old hacc
  have stat:∀{H':Hp},(∀b∈fp,H' b=none) -> ∀b∈fp,Cy (X.comp N' scope cl fp G2.objs.size s2 H2 (Bv X scope cl use Q2 s2.heap.objs.size G2.objs.size)) [] H' b:=λhn b hb=>
   ⟨hn b hb,aR (aL (fo b hb) hCle),(λz=>(List.mem_cons.mp (I2.stkSub b z)).elim (f2 b hb).2.1 (f2 b hb).2.2.1),.inl hb,λx c hl=>(f2 b hb).2.2.2.2.1 x c (S.sub x c hl),λp hp=>absurd (show p∈([]:List (Addr×Obj)) from hp) (by simp)⟩
  refine Pq (λn s'=>∃i σ' H',Inv (X.comp N' scope cl fp G2.objs.size s2 H2 (Bv X scope cl use Q2 s2.heap.objs.size G2.objs.size)) [] σ' H' s'/\tn i s'.heap/\(∀b∈fp,H' b=none)/\W i n σ' H') ?_ m0
   ⟨0,_,_,I3,st3,λb hb=>by rw[Ad (aR (fo b hb))];exact(f2 b hb).1,w0⟩
  rintro n s4 ⟨i,σ4,H4,I4,st4,fr4,w4⟩
  rcases turn i n σ4 H4 w4 with⟨stop,qn⟩|⟨go,NN,hNN,step⟩
  .refine thn (T.done (X.comp N' scope cl fp G2.objs.size s2 H2 (Bv X scope cl use Q2 s2.heap.objs.size G2.objs.size)) rfl rfl rfl hc i [] s4 σ4 H4 _ I4 (stat fr4) st4 stop) λr s5 ⟨hr,I5⟩=>?_
   subst hr
   obtain⟨m5,hn5,_⟩:=I5.loc
   have I6:=I2.call' I5.os I5.base I5.hok I5.bare λb hb=>⟨(f2 b hb).2.2.2.1,(f2 b hb).2.1,(f2 b hb).2.2.2.2.1,(f2 b hb).2.2.2.2.2⟩
   exact fin _ _ H4 s5 I6 ⟨m5,hn5⟩ (I2.fpOk hCle I5.free) qn
  .refine thn (T.item (X.comp N' scope cl fp G2.objs.size s2 H2 (Bv X scope cl use Q2 s2.heap.objs.size G2.objs.size)) rfl rfl rfl hc i [] s4 σ4 H4 _ I4 (stat fr4) st4 go) λr s5 ⟨u,hr,h5⟩=>?_
   subst hr
   refine thn h5 λ_ s6 ⟨x,H6,I6,r6,y6,st6,fr6⟩=>?_
   have I6':=I6.pinned (stat fr6) (T.obj _ _ st6)
   refine thn (hg _ s6 σ4 H6 x u _ I6' r6 (step x H6 y6)) λ_ s7 ⟨σ7,H7,I7,q7⟩=>?_
   have again:∀{s9:am}{H9:Hp},Inv (X.comp N' scope cl fp G2.objs.size s2 H2 (Bv X scope cl use Q2 s2.heap.objs.size G2.objs.size)) ([]++Jk fp s6.heap) σ7 H9 s9->NN σ7 H9 ->
     ∃m,m<n/\∃i σ' H',Inv (X.comp N' scope cl fp G2.objs.size s2 H2 (Bv X scope cl use Q2 s2.heap.objs.size G2.objs.size)) [] σ' H' s9/\tn i s9.heap/\(∀b∈fp,H' b=none)/\W i m σ' H':=λ{s9 H9} I9 n9=>by
    obtain⟨m',hm,w9⟩:=hNN σ7 H9 n9
    refine⟨m',hm,i+1,σ7,H9,I9.unpinned,T.keep _ _ _ st6 λb hb o e=>(I9.pin (b,o) (aE _ (aE _ (E0 hb e)))).1,λb hb=>?_,w9⟩
    obtain⟨o,e,d⟩:=T.obj _ _ st6 b hb
    exact(I9.pin (b,o) (aE _ (aE _ (E0 hb e)))).2.1
   refine thn (ht _ s7 σ7 H7 _ I7 q7) λb s8 ⟨H8,I8,q8⟩=>?_
   cases b with
   |false=>
    rw[if_neg aA] at q8
    exact again I8 q8
   |true=>
    rw[if_pos rfl] at q8
    refine thn (he _ s8 σ7 H8 _ I8 q8) λy s9 ⟨v9,H9,I9,r9,ys,hD,hlen,w9⟩=>?_
    refine thn (Ow ([]++Jk fp s6.heap) s9 σ7 H9 (.ref s2.heap.objs.size) [v9] (.ref s2.heap.objs.size) [y] (λ_ H'=>H'=upd H9 s2.heap.objs.size (.lst (ys++[v9]))) I9 rfl (.cons r9 .nil)
     ⟨_,ys,v9,rfl,rfl,hD,hlen,rfl⟩) λ_ s10 ⟨_,H10,I10,_,e10⟩=>?_
    subst e10
    exact again I10 w9
 exact codeAny_compStart_list (loop _ rfl) (T.self X.A 0 _ _ _ st3 (loop _ rfl))
def ai1{ξ:List (Addr×Obj)}{s:am}{σ:St}{H:Hp}{Q:VK}(hc:X.calm=true)(S:K2 X N' srcs scope cl)(hi:PI X tg iter wi)(hb:∀Q2 fp C D s2 H2,Inv X ξ σ H2 s2->(∀b∈fp,Cy X ξ H2 b)->s2.heap.objs.size<=C->PG (X.comp N' scope cl fp C s2 H2 (Bv X scope cl none Q2 D C)) tg g/\Y5 (X.comp N' scope cl fp C s2 H2 (Bv X scope cl none Q2 D C)) ifs tc/\PE (X.comp N' scope cl fp C s2 H2 (Bv X scope cl none Q2 D C)) elt te)(I:Inv X ξ σ H s)(h:av1 srcs wi g tc te σ H Q)(hs:∀x,gr iter X.env x=pure x) :
  aS (model X.prog X.w) X.A (eval (.ListComp elt [⟨tg,iter,ifs,0⟩] scope pos) X.env) (EP X ξ σ Q) X.xe s:=by
 rw[eval_ListComp]
 refine Oj hc S hi (λfp C D s2 H2=>hb _ fp C D s2 H2) I h (λD C H' s' I' ns fo q=>?_) hs
 obtain⟨m,hn⟩:=ns
 obtain⟨f0,f1,f2,f3,f4,f5⟩:=fo
 exact⟨m,hn,λh' sb=>⟨.ref D,H',I'.turned (λb o hb e=>(sb.2 b hb).trans e) f0 f1 f3 f4 f5,rfl,q⟩⟩
def ai0{i:Nat}{x:Str}{pos' spos:Pos}{ξ:List (Addr×Obj)}{s:am}{σ:St}{H:Hp}{D:M6}(hc:X.calm=true)(hN:X.N.Nodup)(hx:X.N[i]?=some x)(hl:X.env.scope.names.lookup x=some .local)(S:K2 X N' srcs scope cl)(hi:PI X tg iter wi)(hb:∀us Q2 fp C D s2 H2,Inv X ξ σ H2 s2->(∀b∈fp,Cy X ξ H2 b)->s2.heap.objs.size<=C->PG (X.comp N' scope cl fp C s2 H2 (Bv X scope cl us Q2 D C)) tg g/\Y5 (X.comp N' scope cl fp C s2 H2 (Bv X scope cl us Q2 D C)) ifs tc/\PE (X.comp N' scope cl fp C s2 H2 (Bv X scope cl us Q2 D C)) elt te)(I:Inv X ξ σ H s)(h:bt1 (av1 srcs wi g tc te) (aj4 i) D σ H)(hsw:jH (.ListComp elt [⟨tg,iter,ifs,0⟩] scope pos) (some (.Name x pos')) spos.line X.env=pure true)(hs:∀x,gr iter X.env x=pure x) :
  aS (model X.prog X.w) X.A (exec (.Assign [.Name x pos'] (.ListComp elt [⟨tg,iter,ifs,0⟩] scope pos) spos) X.env) (SP X ξ D) X.xe s:=by
 rw[exec_Assign_Name_used _ _ _ _ hsw]
 refine af (eh (af ?_))
 refine af (thn (Oj (Q2:=λ_ s'=>SP X ξ D .next s') hc S hi (λfp C D s2 H2=>hb _ _ fp C D s2 H2) I h (λL C H' s' I' ns fo q=>?_) hs) λ_ s' hq=>aq (aq hq))
 obtain⟨m,hn⟩:=ns
 obtain⟨f0,f1,f2,f3,f4,f5⟩:=fo
 obtain⟨oC,es,ep,hoC,hd,hr⟩:=hn
 have I2:Inv X (ξ++[(C,oC)]) σ H' s':=I'.pins_of λp hp=>(List.mem_append.mp hp).elim (λz=>I'.pin p (aE _ z)) λz=>by
  have z':p=(C,oC):=by simpa using z
  subst z'
  exact⟨hoC,f0,f1,f2,λv e=>by rw[hd] at e;cases e⟩
 refine wpAny_assign_Name (Ie (v:=.ref L) I2 hN hx (.inl hl) rfl (λs2 I3=>?_) (.inr hl))
 have hoC':=(I3.pin (C,oC) (aE _ (aE _ (by simp)))).1
 exact⟨m,⟨oC,es,ep,hoC',hd,hr⟩,λh' sb=>⟨_,H',(I3.unpinned).turned (t':=s2.toks) (λb o hb e=>(sb.2 b hb).trans e) f0 f1 f3 f4 f5,q⟩⟩
end
def Its(x:Str):It:=⟨λi _=>i<x.cps.size,λi H v H'=>H'=H/\∃c,x.cps[i]?=some c/\v=.str ⟨#[c]⟩,λi _=>i=x.cps.size⟩
def av9{P:aO}{w:bw}{K:ac}{tg:Expr}(it:Addr)(x:Str)(t:Tok)(ty:String)(hty:ty="str_ascii_iterator" \/ ty="str_iterator") :
  M8 P w K tg (Its x) [it] it (λi h=>h.IsStrIter it ty x t i) where
 mem:=by simp
 obj:=λi h st b hb=>by
  have e:b=it:=by simpa using hb
  subst e
  obtain⟨o,e,c,d⟩:=st
  exact⟨o,e,λv z=>by rw[d] at z;cases z⟩
 keep:=λi h h' st k=>by
  obtain⟨o,e,r⟩:=st
  exact⟨o,k it (by simp) o e,r⟩
 item:=by
  intro X hP hw hK hc i ξ s σ H E I hf st hg
  subst hP hw hK
  obtain⟨f0,f1,f2,f3,f4,f5⟩:=hf it (by simp)
  have W:nU X.prog X.w X.A it [it] [it] x.cps.size (SignAt x) (λi h=>h.IsStrIter it ty x t i):=by
   rcases hty with rfl|rfl
   .exact Walks.strAscii (I.ok.hd hc) it x t
   .exact Walks.strWide (I.ok.hd hc) it x t
  refine bF (ag _) (W.item i s _ _ hg st λv h' tk hv st' kk htk=>?_)
  obtain⟨c,u,hcp,rfl⟩:=hv
  have I1:Inv X ξ σ H {s with heap:=h',toks:=tk}:=I.turned (λb o hb e=>kk b o (by simpa using hb) e) f0 f1 f3 f4 f5
  obtain⟨o,e,cc,d⟩:=id st'
  exact⟨_,rfl,Lf e cc d (by rcases hty with rfl|rfl <;> decide) ⟨.str ⟨#[c]⟩,H,I1,⟨_,rfl⟩,⟨rfl,c,hcp,rfl⟩,st',λb hb=>(hf b hb).1⟩⟩
 done:=by
  intro X hP hw hK hc i ξ s σ H E I hf st hg
  subst hP hw hK
  obtain⟨f0,f1,f2,f3,f4,f5⟩:=hf it (by simp)
  have hg:=hg
  subst hg
  have W:nU X.prog X.w X.A it [it] [it] x.cps.size (SignAt x) (λi h=>h.IsStrIter it ty x t i):=by
   rcases hty with rfl|rfl
   .exact Walks.strAscii (I.ok.hd hc) it x t
   .exact Walks.strWide (I.ok.hd hc) it x t
  exact bF (ag _) (W.done s _ _ st λh' tk kk htk=>⟨rfl,I.turned (λb o hb e=>kk b o (by simpa using hb) e) f0 f1 f3 f4 f5⟩)
 self:=by
  intro A i s Q E st h
  rcases hty with rfl|rfl
  .exact wpAny_pyIter_striter_ascii st h
  .exact wpAny_pyIter_striter_wide st h
section
variable {X:Cx}{ξ:List (Addr×Obj)}{σ:St}{H:Hp}{s:am}{h':Heap}{ch:List Addr}{t':Nat}
def Inv.turnedL(I:Inv X ξ σ H s)(hf:∀b∈ch,Cy X ξ H b)(k:∀b o,b∉ch->s.heap.get? b=some o->h'.get? b=some o)(ht:s.toks<=t':=by trivial):Inv X ξ σ H {s with heap:=h',toks:=t'}:=by
 have tr:∀b ob,H b=some ob->b∉ch:=λb ob e hb=>by rw[(hf b hb).1] at e;cases e
 refine I.step (λb hb=>⟨(hf b hb).2.2.2.1,(hf b hb).2.1,(hf b hb).2.2.2.2.1,(hf b hb).2.2.2.2.2⟩) (λb o _ _ hb e _=>k b o hb e) (λb o _ _ hb e _=>⟨o.slots,k b o hb e⟩) (λ_ _ _ _ n=>n) (λb o hb e=>⟨o,k b o hb e⟩)
  (λ_ _ e=>e) (λ_ _ _ e=>e) (λb ps e=>⟨#[],by rw[e];simp⟩) (λm hm=>?_) (λb ob e=>?_) I.bare
 .obtain⟨o,es,ep,ho,r⟩:=hm
  exact⟨o,es,ep,k _ o (λz=>(hf _ z).2.1 rfl) ho,r⟩
 .refine (I.hok b ob e).stay (λb' w' hc' q=>k b' w' ?_ q) (λ_ q=>q) λ_ _ q=>q
  rcases hc' with rfl|hc'
  .exact tr _ _ e
  .exact tr _ _ hc'
def Inv.turnedN{T:Addr}{o:HO}(I:Inv X ξ σ H s)(hf:∀b∈ch,Cy X ξ H b)(k:∀b o,b∉ch->s.heap.get? b=some o->h'.get? b=some o)(hT:s.heap.objs.size<=T)(new:ObjOk X.prog X.w (upd H T o) h' T o)(ht:s.toks<=t':=by trivial) :
  Inv X ξ σ (upd H T o) {s with heap:=h',toks:=t'}:=by
 have tr:∀b ob,H b=some ob->b∉ch:=λb ob e hb=>by rw[(hf b hb).1] at e;cases e
 have hn:=I.hok.fresh hT
 have nT:∀{b o},s.heap.get? b=some o->b≠T:=λe=>aR (aL (aH e) hT)
 refine I.step (λb hb=>⟨(hf b hb).2.2.2.1,(hf b hb).2.1,(hf b hb).2.2.2.2.1,(hf b hb).2.2.2.2.2⟩) (λb o _ _ hb e _=>k b o hb e) (λb o _ _ hb e _=>⟨o.slots,k b o hb e⟩) (λb o _ e n=>by rw[Ad (nT e)];exact n) (λb o hb e=>⟨o,k b o hb e⟩)
  (λb zs e=>by rw[Ad (Ai e hn)];exact e) (λb o zs e=>by rw[Ad (Ai e hn)];exact e) (λb ps e=>⟨#[],by rw[Ad (Ai e hn),e];simp⟩) (λm hm=>?_) (λb ob e=>?_) I.bare
 .obtain⟨o,es,ep,ho,r⟩:=hm
  exact⟨o,es,ep,k _ o (λz=>(hf _ z).2.1 rfl) ho,r⟩
 .by_cases hb:b=T
  .subst hb
   rw[Ac] at e
   cases e
   exact new
  .rw[Ad hb] at e
   refine(I.hok b ob e).stay (λb' w' hc' q=>k b' w' ?_ q) (λb' q=>by rw[Ad (Ai q hn)];exact q) λb' zs q=>by rw[Ad (Ai q hn)];exact q
   rcases hc' with rfl|hc'
   .exact tr _ _ e
   .exact tr _ _ hc'
end
def ab2{bs:List Bool}:(aZ bs.length).all (λi=>bs.getD i true)=bs.all λb=>b:=by
 rw[cq,bg,bg]
 constructor
 .intro h b hb
  obtain⟨i,hi,e⟩:=List.mem_iff_getElem.mp hb
  have q:=h i (List.mem_range.mpr hi)
  rw[av,aj hi,e] at q
  exact q
 .intro h i hi
  have hi:=List.mem_range.mp hi
  rw[av,aj hi]
  exact h _ (dv hi)
section
variable {X:Cx}
def ah5(hc:X.calm=true):Cj X (.builtin "all") (λxs H Q=>∃(p:Addr)(bs:List Bool),xs=[.ref p]/\SqL X.K H p (bs.map V.bl)/\Q (.bl (bs.all λb=>b)) H):=by
 intro ξ s σ H xs us Q I r h
 obtain⟨p,bs,rfl,hq,q⟩:=h
 obtain⟨u,rfl,ru⟩:=r.one
 cases ru
 obtain⟨χ,rv,pl,hz⟩:=I.list hq
 have hlen:=rv.length
 rw[ae] at hlen
 obtain⟨o,n,e,c,hd,ds⟩:=id pl
 have plt:=aH e
 refine bF (ag _) (call_all_walk (jK pl.isList ?_))
 refine⟨s.heap.objs.size,_,_,_,_,_,(λi=>bs.getD i true),rfl,Walks.list (show X.A.in1.handled=none from I.ok.hd hc) s.heap.objs.size p (aR plt) χ.toArray,⟨⟨_,aD _ rfl,rfl,rfl⟩,pl.isList.push _⟩,?_,λh' tk kk htk=>?_⟩
 .intro i v s' Q' E' hv hq'
  have hv:χ[i]?=some v:=by simpa using hv
  have hi:i<bs.length:=by rw[hlen];exact(List.getElem?_eq_some_iff.mp hv).1
  have e1:(bs.map V.bl)[i]?=some (.bl bs[i]):=by simp[hi]
  obtain⟨u',hu',ru'⟩:=rv.get e1
  rw[hv] at hu'
  cases hu'
  cases ru'
  have e2:bs.getD i true=bs[i]:=by simp[av,hi]
  have hq':Q' (bs.getD i true) s':=hq'
  rw[e2] at hq'
  exact ff hq'
 .have e3:(aZ χ.toArray.size).all (λi=>bs.getD i true)=bs.all λb=>b:=by
   rw[au,<- hlen]
   exact ab2
  rw[e3]
  refine⟨.bl _,H,I.kept λb o' eb=>kk b o' ?_ (ah _ eb),rfl,q⟩
  have hb:=aR (aH eb)
  simpa using hb
def aa3:OpR X (cE .LtE) (λx y H Q=>∃i j,x=.str i/\y=.str j/\Q (.bl (!decide (j.cps.toList<i.cps.toList))) H):=by
 intro ξ s σ H x y v u Q I rx ry h
 obtain⟨i,j,rfl,rfl,q⟩:=h
 obtain⟨t,rfl⟩:=rx
 obtain⟨t',rfl⟩:=ry
 exact PySem.P.le_str ⟨.bl _,H,I,rfl,q⟩
def a18:MtR X "int.bit_length" (λx xs H Q=>∃i,x=.int i/\xs=[]/\Q (.int (iU i:Nat)) H):=by
 intro ξ s σ H x xs v us Q I rx rs h
 obtain⟨i,rfl,rfl,q⟩:=h
 obtain⟨t,rfl⟩:=rx
 cases rs
 exact call_gives F.slot_int_bit_length (typeIs_int s i t) F.entry_int_bit_length (F.args_int_bit_length_1 _) (AutoIntG2.int_bit_length_int_0 i t) ⟨.int _,H,I.tok _,⟨_,rfl⟩,q⟩
end
def Nd(xs ys:List V):Bool:=decide (xs.length=ys.length)&&(aZ xs.length).all λj=>eqV (xs.getD j .non) (ys.getD j .non)
def Fi{xs ys:List V}(h:xs.length≠ys.length):Nd xs ys=false:=by
 unfold Nd
 rw[decide_eq_false h]
 rfl
def bs7(K:ac)(neg:Bool):R2:=λx y H Q=>∃a b xs ys,x=.ref a/\y=.ref b/\SqL K H a xs/\SqL K H b ys/\xs.all B0=true/\ys.all B0=true/\Q (.bl (if neg then !Nd xs ys else Nd xs ys)) H
section
variable {X:Cx}
def Ll{A:bq}{s:am}{xs ys:List V}{us ws:List Value}(rx:Vals xs us)(ry:Vals ys ws)(fx:xs.all B0=true)(fy:ys.all B0=true)(j:Nat)(h1:j<us.toArray.size)(h2:j<ws.toArray.size) :
  bB A s us.toArray[j] ws.toArray[j] (eqV (xs.getD j .non) (ys.getD j .non)):=by
 have e1:=rx.length
 have e2:=ry.length
 have h1':j<us.length:=by simpa using h1
 have h2':j<ws.length:=by simpa using h2
 have a1:xs[j]?=some (xs[j]'(by omega)):=by simp
 have a2:ys[j]?=some (ys[j]'(by omega)):=by simp
 obtain⟨u,hu,ru⟩:=rx.get a1
 obtain⟨v,hv,rv⟩:=ry.get a2
 have b1:us.toArray[j]=u:=by
  have:us[j]?=some us[j]:=by simp
  rw[this] at hu
  simpa using aG hu
 have b2:ws.toArray[j]=v:=by
  have:ws[j]?=some ws[j]:=by simp
  rw[this] at hv
  simpa using aG hv
 have c1:xs.getD j .non=xs[j]'(by omega):=by rw[av,a1];rfl
 have c2:ys.getD j .non=ys[j]'(by omega):=by rw[av,a2];rfl
 rw[b1,b2,c1,c2]
 exact Px ru rv (List.all_eq_true.mp fx _ (dv _)) (List.all_eq_true.mp fy _ (dv _))
def bn5(hu:X.A.units<cLine):OpR X (cE .Eq) (bs7 X.K false):=by
 intro ξ s σ H x y v u Q I rx ry h
 obtain⟨a,b,xs,ys,rfl,rfl,qa,qb,fx,fy,q⟩:=h
 cases rx
 cases ry
 obtain⟨χ,r,pl,hz⟩:=I.list qa
 obtain⟨its2,r2,pl2,hz2⟩:=I.list qb
 have e1:=r.length
 have e2:=r2.length
 by_cases hl:xs.length=ys.length
 .refine SeqAt.eq_listAt pl.isList pl2.isList (by simp;omega) hu (λj h1 h2=>Ll r r2 fx fy j h1 h2) ⟨.bl _,H,I,rfl,?_⟩
  have e:Nd xs ys=(aZ χ.toArray.size).all λj=>eqV (xs.getD j .non) (ys.getD j .non):=by
   unfold Nd
   rw[decide_eq_true hl,au,<- e1]
   rfl
  rw[<- e]
  exact q
 .refine SeqAt.eq_list_lengthsAt pl.isList pl2.isList (by simp;omega) hu ⟨.bl _,H,I,rfl,?_⟩
  rw[Fi hl] at q
  exact q
def bo0(hu:X.A.units<cLine):OpR X (cE .NotEq) (bs7 X.K true):=by
 intro ξ s σ H x y v u Q I rx ry h
 obtain⟨a,b,xs,ys,rfl,rfl,qa,qb,fx,fy,q⟩:=h
 cases rx
 cases ry
 obtain⟨χ,r,pl,hz⟩:=I.list qa
 obtain⟨its2,r2,pl2,hz2⟩:=I.list qb
 have e1:=r.length
 have e2:=r2.length
 by_cases hl:xs.length=ys.length
 .refine SeqAt.RcNeAt.lists pl.isList pl2.isList (by simp;omega) hu (λj h1 h2=>Ll r r2 fx fy j h1 h2) _ _ _ _ ⟨.bl _,H,I,rfl,?_⟩
  have e:Nd xs ys=(aZ χ.toArray.size).all λj=>eqV (xs.getD j .non) (ys.getD j .non):=by
   unfold Nd
   rw[decide_eq_true hl,au,<- e1]
   rfl
  rw[<- e]
  exact q
 .refine i_ pl.isList pl2.isList (by simp;omega) hu _ _ _ _ ⟨.bl _,H,I,rfl,?_⟩
  rw[Fi hl] at q
  exact q
end
def al5{cl:List (Str×Addr)}{x:Str}(h:x∈cl.map (·.1)):∃c,cl.lookup x=some c:=by
 induction cl with
 |nil=>simp at h
 |cons p r ih=>
  obtain⟨n,a⟩:=p
  rw[iF]
  cases e:x==n with
  |true=>exact⟨a,rfl⟩
  |false=>
   refine ih ?_
   rcases List.mem_cons.mp h with q|q
   .rw[q] at e;simp at e
   .exact q
section
variable {X:Cx}{e:Expr}{te:TE}{lo hi:Option Expr}{tl th:TO}{pos p2:Pos}
def Wy{ys:List Str}:∀{us},Vals (ys.map V.str) us->StrsAre us ys:=by
 induction ys with
 |nil=>intro us r;rw[iz] at r;cases r;exact .nil
 |cons y ys ih=>
  intro us r
  rw[aX] at r
  cases r with
  |cons r1 r2=>
   obtain⟨t,e⟩:=r1
   subst e
   exact .cons y t (ih r2)
def a22:MtR X "str.join" (λx xs H Q=>∃z p ys,x=.str z/\xs=[.ref p]/\SqL X.K H p (ys.map V.str)/\(ys.map (·.length)).sum+ys.length*z.length<=16777216/\Q (.str (Txt.join z ys)) H):=by
 intro ξ s σ H x xs v us Q I rx rs h
 obtain⟨z,p,ys,rfl,rfl,hq,hz,q⟩:=h
 obtain⟨t,rfl⟩:=rx
 obtain⟨u,rfl,ru⟩:=rs.one
 cases ru
 obtain⟨χ,rv,pl,_⟩:=I.list hq
 exact bF (ag _) (PyProof.Rows.join_list pl.isList (Wy rv) hz λt' k htk=>⟨.str _,H,I.tok k htk,⟨_,rfl⟩,q⟩)
end
section
variable {κ:Type} [DecidableEq κ]
def Be(kvs:List (κ×V))(k:κ):Option V:=(kvs.find? λkv=>decide (kv.1=k)).map (·.2)
def Ce(kvs:List (κ×V))(k:κ)(v:V):List (κ×V):=
 if(kvs.any λkv=>decide (kv.1=k))=true then kvs.map (λkv=>if kv.1=k then(kv.1,v) else kv) else kvs++[(k,v)]
def B5{p:κ×V}{r:List (κ×V)}{k:κ}(e:p.1=k):Be (p::r) k=some p.2:=by simp[Be,fY,e]
def Bz{p:κ×V}{r:List (κ×V)}{k:κ}(e:¬ p.1=k):Be (p::r) k=Be r k:=by simp[Be,fY,e]
theorem Ev(k:κ):∀kvs,(kvs.any λkv=>decide (kv.1=k))=(Be kvs k).isSome
 |[]=>rfl
 | p::r=>by
  rw[gX]
  by_cases e:p.1=k
  .simp only[B5 e,decide_eq_true e,Bool.true_or,Option.isSome_some]
  .rw[Bz e,decide_eq_false e,jL];exact Ev k r
theorem Ud(k j:κ)(y:V):∀kvs,Be (kvs.map λkv=>if kv.1=k then(kv.1,y) else kv) j=(Be kvs j).map λx=>if j=k then y else x
 |[]=>rfl
 | p::r=>by
  have ih:=Ud k j y r
  rw[aX]
  by_cases h:p.1=k
  .rw[if_pos h]
   by_cases e:p.1=j
   .rw[B5 (p:=(p.1,y)) e,B5 e,dL,if_pos (e.symm.trans h)]
   .rw[Bz (p:=(p.1,y)) e,Bz e,ih]
  .rw[if_neg h]
   by_cases e:p.1=j
   .rw[B5 e,B5 e,dL,if_neg (λz=>h (e.trans z))]
   .rw[Bz e,Bz e,ih]
theorem Pe(k j:κ)(y:V):∀kvs,Be kvs k=none->Be (kvs++[(k,y)]) j=if j=k then some y else Be kvs j
 | [],_=>by
  by_cases e:k=j
  .rw[if_pos e.symm];exact B5 e
  .rw[if_neg (λz=>e z.symm)];exact Bz e
 | p::r,hn=>by
  rw[gH]
  have hk:¬ p.1=k:=λz=>by rw[B5 z] at hn;cases hn
  rw[Bz hk] at hn
  have ih:=Pe k j y r hn
  by_cases e:p.1=j
  .rw[B5 e,B5 e,if_neg (λz=>hk (e.trans z))]
  .rw[Bz e,Bz e,ih]
def M4(kvs:List (κ×V))(k j:κ)(y:V):Be (Ce kvs k y) j=if j=k then some y else Be kvs j:=by
 unfold Ce
 by_cases a:(kvs.any λkv=>decide (kv.1=k))=true
 .rw[if_pos a,Ud]
  rw[Ev] at a
  by_cases e:j=k
  .obtain⟨x,hx⟩:=Option.isSome_iff_exists.mp a
   rw[if_pos e,e,hx,dL,if_pos rfl]
  .rw[if_neg e]
   cases Be kvs j with
   |none=>rfl
   |some x=>rw[dL,if_neg e]
 .rw[if_neg a]
  refine Pe k j y kvs ?_
  rw[Ev] at a
  cases q:Be kvs k with
  |none=>rfl
  |some x=>rw[q] at a;exact(a rfl).elim
def Co(kvs:List (κ×V))(k:κ)(v:V):(Ce kvs k v).length<=kvs.length+1:=by
 unfold Ce
 split
 .rw[ae];omega
 .rw[aB,aI,ku];omega
def Ft{kvs:List (κ×V)}{k:κ}(v:V)(h:Be kvs k=none):Ce kvs k v=kvs++[(k,v)]:=by
 unfold Ce
 rw[Ev,h]
 exact if_neg (by decide)
def RelO.isSome_eq{o:Option V}{u:Option Value}(r:RelO o u):o.isSome=u.isSome:=by
 cases o with
 | none=>cases u with
  |none=>rfl
  |some _=>exact(r).elim
 | some _=>cases u with
  |none=>exact(r).elim
  |some _=>rfl
theorem RelO.getD{o:Option V}{u:Option Value}{d:V}{d':Value}(r:RelO o u)(rd:RelV d d'):RelV (o.getD d) (u.getD d'):=by
 cases o with
 | none=>cases u with
  |none=>exact rd
  |some _=>exact(r).elim
 | some _=>cases u with
  |none=>exact(r).elim
  |some _=>exact r
def KV.val{kvs:List (κ×V)}{vs:List (κ×Value)}(r:KV kvs vs)(k:κ):RelO (Be kvs k) (mr vs k):=by
 induction r with
 |nil=>exact aM
 |@cons p q ps qs h t ih=>
  obtain⟨h1,h2⟩:=h
  by_cases e:p.1=k
  .have e':=h1.symm.trans e
   have b:mr (q::qs) k=some q.2:=by simp[mr,fY,e']
   rw[B5 e,b];exact h2
  .have e':¬ q.1=k:=λz=>e (h1.trans z)
   have b:mr (q::qs) k=mr qs k:=by simp[mr,fY,e']
   rw[Bz e,b];exact ih
theorem KV.any{kvs:List (κ×V)}{vs:List (κ×Value)}(r:KV kvs vs)(k:κ):(kvs.any λkv=>decide (kv.1=k))=vs.any λkv=>decide (kv.1=k):=by
 induction r with
 |nil=>rfl
 |cons h t ih=>rw[gX,gX,ih,h.1]
def KV.repl{kvs:List (κ×V)}{vs:List (κ×Value)}(r:KV kvs vs)(k:κ){y:V}{u:Value}(ry:RelV y u) :
  KV (kvs.map λkv=>if kv.1=k then(kv.1,y) else kv) (vs.map λkv=>if kv.1=k then(kv.1,u) else kv):=by
 induction r with
 |nil=>exact .nil
 |@cons p q ps qs h t ih=>
  rw[aX,aX]
  refine .cons ?_ ih
  obtain⟨h1,h2⟩:=h
  by_cases e:p.1=k
  .rw[if_pos e,if_pos (h1.symm.trans e)];exact⟨h1,ry⟩
  .rw[if_neg e,if_neg (λz=>e (h1.trans z))];exact⟨h1,h2⟩
def KV.put{kvs:List (κ×V)}{vs:List (κ×Value)}(r:KV kvs vs)(k:κ){y:V}{u:Value}(ry:RelV y u):KV (Ce kvs k y) (stored vs k u):=by
 unfold Ce stored
 rw[r.any k]
 by_cases e:(vs.any λkv=>decide (kv.1=k))=true
 .rw[if_pos e,if_pos e];exact r.repl k ry
 .rw[if_neg e,if_neg e];exact Paired.snoc r ⟨rfl,ry⟩
def KV.keys{kvs:List (κ×V)}{vs:List (κ×Value)}(r:KV kvs vs):kvs.map (·.1)=vs.map (·.1):=by
 induction r with
 |nil=>rfl
 |cons h t ih=>rw[aX,aX,ih,h.1]
theorem KV.length{kvs:List (κ×V)}{vs:List (κ×Value)}(r:KV kvs vs):kvs.length=vs.length:=jQ r
end
def Hs{P:aO}{w:bw}{k:Key}{u:Value}(r:RelV (kV k) u):(Bd P w).is k u=true:=by
 cases k with
 |inl i=>obtain⟨t,e⟩:=(r);subst e;exact Td P w i t
 |inr x=>obtain⟨t,e⟩:=(r);subst e;exact Te P w x t
abbrev KT(H:Hp):List (TK×V)->List (TK×Addr×Value)->Prop:=iN λp q=>p.1=q.1/\(Ax p.1<=8/\TkAt H p.1 (.ref q.2.1))/\RelV p.2 q.2.2
def KT.val{H:Hp}{kvs:List (TK×V)}{xs:List (TK×Addr×Value)}(r:KT H kvs xs)(k:TK):RelO (Be kvs k) ((atKey xs k).map (·.2)):=by
 induction r with
 |nil=>exact aM
 |@cons p q ps qs h t ih=>
  obtain⟨h1,_,h2⟩:=h
  by_cases e:p.1=k
  .have e':=h1.symm.trans e
   have b:atKey (q::qs) k=some q.2:=by simp[atKey,fY,e']
   rw[B5 e,b];exact h2
  .have e':¬ q.1=k:=λz=>e (h1.trans z)
   have b:atKey (q::qs) k=atKey qs k:=by simp[atKey,fY,e']
   rw[Bz e,b];exact ih
def KT.repl{H:Hp}{kvs:List (TK×V)}{xs:List (TK×Addr×Value)}(r:KT H kvs xs)(k:TK){y:V}{u:Value}(ry:RelV y u) :
  KT H (kvs.map λkv=>if kv.1=k then(kv.1,y) else kv) (xs.map (putAt k u)):=by
 induction r with
 |nil=>exact .nil
 |@cons p q ps qs h t ih=>
  rw[aX,aX]
  refine .cons ?_ ih
  obtain⟨h1,h2,h3⟩:=h
  unfold putAt
  by_cases e:p.1=k
  .rw[if_pos e,if_pos (h1.symm.trans e)];exact⟨h1,h2,ry⟩
  .rw[if_neg e,if_neg (λz=>e (h1.trans z))];exact⟨h1,h2,h3⟩
def KT.put{H:Hp}{kvs:List (TK×V)}{xs:List (TK×Addr×Value)}(r:KT H kvs xs)(k:TK){b:Addr}{y:V}{u:Value}(hb:(Ax k<=8/\TkAt H k (.ref b)))(ry:RelV y u) :
  KT H (Ce kvs k y) (storedH xs k b u):=by
 have e:(kvs.any λkv=>decide (kv.1=k))=(atKey xs k).isSome:=by
  rw[Ev,(r.val k).isSome_eq,jz]
 unfold Ce storedH
 rw[e]
 by_cases q:(atKey xs k).isSome=true
 .rw[if_pos q,if_pos q];exact r.repl k ry
 .rw[if_neg q,if_neg q];exact Paired.snoc r ⟨rfl,hb,ry⟩
def KT.keeps{H H':Hp}{kvs:List (TK×V)}{xs:List (TK×Addr×Value)}(r:KT H kvs xs)(ht:∀b ys,H b=some (.tup ys)->H' b=some (.tup ys)):KT H' kvs xs:=
 Paired.mapP r λ_ _ z=>⟨z.1,⟨z.2.1.1,z.2.1.2.up ht _⟩,z.2.2⟩
section
variable {P:aO}{w:bw}{H:Hp}{h:Heap}{a:Addr}
def bc1{u:HO}(ok:HOk P w H h)(e:Rd H a u):ObjOk P w H h a u:=e.ok ok
def Dy{kvs:List (Key×V)}(ok:HOk P w H h)(e:Rd H a (.dK kvs)):kvs.length<=sizeLine/\(a==cY)=false/\∃vs,KV kvs vs/\h.DictOf (Bd P w) a vs:=
 bc1 ok e
def X0{kvs:List (Key×V)}(ok:HOk P w H h)(e:H a=some (.dK kvs)):kvs.length<=sizeLine/\(a==cY)=false/\∃vs,KV kvs vs/\h.DictOf (Bd P w) a vs:=Dy ok (.inl e)
def b87(ok:HOk P w H h)(x:TK):∀{v} {u},TkAt H x v->RelV v u->TkIs P w h x u:=by
 refine TK.rec (motive_1:=λx=>∀{v} {u},TkAt H x v->RelV v u->TkIs P w h x u) (motive_2:=λl=>∀{vs} {us},A9 H l vs->Vals vs us->TksAre P w h l us) ?_ ?_ ?_ ?_ x
 .intro k v u q r
  subst q
  exact Hs r
 .intro l ih v u q r
  obtain⟨a,xs,rfl,e,i⟩:=q
  cases r
  obtain⟨_,χ,r,t⟩:=(ok a _ e)
  exact⟨a,χ.toArray,rfl,t,by simpa using ih i r⟩
 .intro vs us q r
  subst q
  cases r
  rfl
 .intro x l h1 h2 vs us q r
  obtain⟨v,r',rfl,q1,q2⟩:=q
  cases r with
  |cons r1 r2=>exact⟨_,_,rfl,h1 q1 r1,h2 q2 r2⟩
def Lo{k:TK}(ok:HOk P w H h)(e:Ax k<=8/\TkAt H k (.ref a)):(Db P w).is h k a:=⟨e.1,b87 ok k e.2 rfl⟩
def Se{kvs:List (TK×V)}(ok:HOk P w H h)(e:Rd H a (.dT kvs)):kvs.length<=sizeLine/\(a==cY)=false /\
  ∃xs,KT H kvs xs/\h.DictOfH (Db P w) a xs:=by
 obtain⟨z,y,xs,r,o,es,ep,h1,h2,h3,h4,h5⟩:=(bc1 ok e)
 refine⟨z,y,xs,r,o,es,ep,h1,h2,h3,h4,λx hx=>?_,h5⟩
 have all:∀{l} {m},KT H l m -> ∀x∈m,(Db P w).is h x.1 x.2.1:=by
  intro l m q
  induction q with
  |nil=>intro x hx;exact nomatch hx
  |@cons p q ps qs hq t ih=>
   intro x hx
   rcases List.mem_cons.mp hx with e|hx
   .subst e
    exact Lo ok (by rw[<- hq.1];exact hq.2.1)
   .exact ih x hx
 exact all r x hx
def bw0{kvs:List (TK×V)}(ok:HOk P w H h)(e:H a=some (.dT kvs)):kvs.length<=sizeLine/\(a==cY)=false /\
  ∃xs,KT H kvs xs/\h.DictOfH (Db P w) a xs:=Se ok (.inl e)
end
def ad6(H:Hp)(a:Addr)(y:V)(r:Option V):Prop:=∃kvs k,Rd H a (.dK kvs)/\y=kV k/\r=Be kvs k
def DGet(H:Hp)(a:Addr)(y:V)(r:Option V):Prop:=
 (∃kvs k,Rd H a (.dK kvs)/\y=kV k/\r=Be kvs k) \/ ∃kvs k b,Rd H a (.dT kvs)/\y=.ref b/\(Ax k<=8/\TkAt H k (.ref b))/\r=Be kvs k
def DPut(H:Hp)(a:Addr)(y v:V)(H':Hp):Prop:=
 (∃kvs k,H a=some (.dK kvs)/\y=kV k/\kvs.length<sizeLine/\H'=upd H a (.dK (Ce kvs k v))) \/
 ∃kvs k b,H a=some (.dT kvs)/\y=.ref b/\(Ax k<=8/\TkAt H k (.ref b))/\kvs.length<sizeLine/\H'=upd H a (.dT (Ce kvs k v))
theorem DGet.k{H:Hp}{a:Addr}{kvs:List (Key×V)}{k:Key}(e:H a=some (.dK kvs)):DGet H a (kV k) (Be kvs k):=.inl ⟨kvs,k,.inl e,rfl,rfl⟩
def DGet.t{H:Hp}{a b:Addr}{kvs:List (TK×V)}{k:TK}(e:H a=some (.dT kvs))(eb:(Ax k<=8/\TkAt H k (.ref b))):DGet H a (.ref b) (Be kvs k):=.inr ⟨kvs,k,b,.inl e,rfl,eb,rfl⟩
theorem DPut.k{H:Hp}{a:Addr}{kvs:List (Key×V)}{k:Key}{v:V}(e:H a=some (.dK kvs))(hl:kvs.length<sizeLine):DPut H a (kV k) v (upd H a (.dK (Ce kvs k v))):=.inl ⟨kvs,k,e,rfl,hl,rfl⟩
def DPut.t{H:Hp}{a b:Addr}{kvs:List (TK×V)}{k:TK}{v:V}(e:H a=some (.dT kvs))(eb:(Ax k<=8/\TkAt H k (.ref b)))(hl:kvs.length<sizeLine) :
  DPut H a (.ref b) v (upd H a (.dT (Ce kvs k v))):=.inr ⟨kvs,k,b,e,rfl,eb,hl,rfl⟩
section
variable {X:Cx}{ξ:List (Addr×Obj)}{σ:St}{H:Hp}{s:am}{a:Addr}{y v:V}{u r:Value}{o:Option V}{A:bq}{E:Value->am->Prop}
def Inv.big(I:Inv X ξ σ H s):cY<s.heap.objs.size:=by
 have h:=(I.mod.glob.keeps I.bk).lt
 exact fj (by decide) h
def Zf{Q:Value->am->Prop}(hu:A.units+9<cLine)(I:Inv X ξ σ H s)(g:DGet H a y (some v))(ry:RelV y u)(h:∀w' s',Inv X ξ σ H s'->RelV v w'->Q w' s') :
  aS (model X.prog X.w) A (getItem (.ref a) u) Q E s:=by
 rcases g with⟨kvs,k,e,ey,l⟩|⟨kvs,k,b,e,ey,eb,l⟩
 .subst ey
  obtain⟨z,hd,vs,rel,dd⟩:=Dy I.hok e
  obtain⟨w',hw,rw'⟩:=RelO.some_of (by rw[l];exact rel.val k)
  exact wpAny_getItem_of (Hs ry) dd.mapOf hw (h w' _ (I.tok _) rw')
 .subst ey
  cases(ry)
  obtain⟨z,hd,xs,rel,dd⟩:=Se I.hok e
  obtain⟨w',hw,rw'⟩:=RelO.some_of (by rw[l];exact rel.val k)
  obtain⟨p,hp,hp2⟩:=Option.map_eq_some_iff.mp hw
  refine wpAny_getItem_heap (show A.units+1+8<cLine by omega) (Lo I.hok eb) dd hp ?_
  rw[hp2]
  exact h w' _ (I.tok _) rw'
def b98{Q:Value->am->Prop}(I:Inv X ξ σ H s)(g:ad6 H a y o)(ry:RelV y u)(h:∀s',Inv X ξ σ H s'->Q (.bool o.isSome) s') :
  aS (model X.prog X.w) A (cE .In u (.ref a)) Q E s:=by
 obtain⟨kvs,k,e,ey,l⟩:=g
 subst ey
 obtain⟨z,hd,vs,rel,dd⟩:=Dy I.hok e
 refine wpAny_in_of (Hs ry) hd dd.mapOf ?_
 rw[<- (rel.val k).isSome_eq,<- l]
 exact h _ (I.tok _)
def az7{Q:Value->am->Prop}(I:Inv X ξ σ H s)(g:ad6 H a y o)(ry:RelV y u)(h:∀s',Inv X ξ σ H s'->Q (.bool (!o.isSome)) s') :
  aS (model X.prog X.w) A (cE .NotIn u (.ref a)) Q E s:=by
 obtain⟨kvs,k,e,ey,l⟩:=g
 subst ey
 obtain⟨z,hd,vs,rel,dd⟩:=Dy I.hok e
 refine wpAny_notIn_of (Hs ry) hd dd.mapOf ?_
 rw[<- (rel.val k).isSome_eq,<- l]
 exact h _ (I.tok _)
def Hi{h':Heap}{t':Nat}{ob:HO}(I:Inv X ξ σ H s)(mu:Mut (H a))(hs:bO a s.heap h')(he:∃q,h'.get? a=some q)(new:ObjOk X.prog X.w (upd H a ob) h' a ob)(ht:s.toks<=t':=by trivial) :
  Inv X ξ σ (upd H a ob) {s with heap:=h',toks:=t'}:=
 I.write mu (.inl rfl) (λb q hb z=>(hs.2 b hb).trans z) he new
def La{P:aO}{w:bw}{H':Hp}{h':Heap}{kvs:List (Key×V)}{vs:List (Key×Value)}(z:kvs.length<=sizeLine)(hd:(a==cY)=false)(rel:KV kvs vs)(dd:h'.DictOf (Bd P w) a vs) :
  ObjOk P w H' h' a (.dK kvs):=⟨z,hd,vs,rel,dd⟩
def Zg{H':Hp}{Q:Unit->am->Prop}(hu:A.units+9<cLine)(I:Inv X ξ σ H s)(g:DPut H a y v H')(ry:RelV y u)(rv:RelV v r)(h:∀s',Inv X ξ σ H' s'->Q () s') :
  aS (model X.prog X.w) A (setItem (.ref a) u r) Q E s:=by
 rcases g with⟨kvs,k,e,ey,l,eH⟩|⟨kvs,k,b,e,ey,eb,l,eH⟩
 .subst ey eH
  obtain⟨z,hd,vs,rel,dd⟩:=X0 I.hok e
  have hz:vs.length<=sizeLine:=by rw[<- rel.length];exact z
  have hl:(Ce kvs k v).length<=sizeLine:=by have:=Co kvs k v;omega
  refine wpAny_setItem_pairs (Hs ry) dd λh' dd' hs=>h _ ?_
  have he:∃q,h'.get? a=some q:=let⟨q,_,_,hq,_⟩:=dd';⟨q,hq⟩
  exact Hi I (by rw[e];exact aM) hs he (La hl hd (rel.put k rv) dd')
 .subst ey eH
  cases(ry)
  obtain⟨z,hd,xs,rel,dd⟩:=bw0 I.hok e
  have hz:xs.length<=sizeLine:=by rw[<- jQ rel];exact z
  have hl:(Ce kvs k v).length<=sizeLine:=by have:=Co kvs k v;omega
  refine wpAny_setItem_heap (show A.units+1+8<cLine by omega) (Lo I.hok eb) dd λh' dd' hs=>h _ ?_
  obtain⟨q,es,ep,hq,h2,h3,h4,_,h5⟩:=dd'
  refine Hi I (by rw[e];exact aM) hs ⟨q,hq⟩ ⟨hl,hd,_,(rel.put k eb rv).keeps λc ys ec=>?_,q,es,ep,hq,h2,h3,h4,h5⟩
  rw[Ad (by5 ec e (λz=>nomatch z))]
  exact ec
end
section
variable {X:Cx}{ξ:List (Addr×Obj)}{σ:St}{H:Hp}{s:am}{a:Addr}{kvs:List (Key×V)}{k:Key}{u:Value}{A:bq}{E:Value->am->Prop}
def bv8{Q:Value->am->Prop}(I:Inv X ξ σ H s)(e:Rd H a (.dK kvs))(h:∀t s',Inv X ξ σ H s'->Q (.int kvs.length t) s'):aS (model X.prog X.w) A (call (.builtin "len") [.ref a]) Q E s:=by
 obtain⟨z,hd,vs,rel,dd⟩:=Dy I.hok e
 refine call_len_dict hd dd (by rw[<- rel.length];rw[bQ] at z;omega) ?_
 rw[<- rel.length]
 exact h _ _ (I.tok _)
end
def R7{X:Cx}{ξ:List (Addr×Obj)}{σ:St}{H:Hp}{s:am}{a:Addr}{y:V}{o:Option V}(I:Inv X ξ σ H s)(g:DGet H a y o):s.TypeIs (.ref a) "dict" := by
 rcases g with⟨kvs,k,e,_,_⟩|⟨kvs,k,b,e,_,_,_⟩
 .obtain⟨_,_,vs,_,dd⟩:=Dy I.hok e
  exact dd.typeIs
 .obtain⟨_,_,xs,_,dd⟩:=Se I.hok e
  exact dd.typeIs
def ai4{P:aO}{w:bw}{H:Hp}(h:Heap)(hb:cY<h.objs.size):ObjOk P w H (h.push {cls:=.type "dict", data:=.dict #[]}) h.objs.size (.dK []):=
 ⟨bu _,beq_eq_false_iff_ne.mpr (bY (aR hb)),[],.nil,Heap.DictOf.new h⟩
def ai5{P:aO}{w:bw}{H:Hp}(h:Heap)(hb:cY<h.objs.size):ObjOk P w H (h.push {cls:=.type "dict", data:=.dict #[]}) h.objs.size (.dT []):=
 ⟨bu _,beq_eq_false_iff_ne.mpr (bY (aR hb)),[],.nil,_,#[],0,aD _ rfl,⟨rfl,rfl,rfl⟩,rfl,rfl,jg⟩
section
variable {X:Cx}{ξ:List (Addr×Obj)}{σ:St}{H:Hp}{s:am}{a:Addr}{y d:V}{u r:Value}{o:Option V}{A:bq}{E:Value->am->Prop}
def bf7{Q:Value->am->Prop}(hu:A.units+9<cLine)(I:Inv X ξ σ H s)(g:DGet H a y o)(ry:RelV y u)(h:∀w' s',Inv X ξ σ H s'->RelV (o.getD .non) w'->Q w' s') :
  aS (model X.prog X.w) A (call (.builtin "dict.get") [.ref a,u]) Q E s:=by
 rcases g with⟨kvs,k,e,ey,l⟩|⟨kvs,k,b,e,ey,eb,l⟩
 .subst ey
  obtain⟨z,hd,vs,rel,dd⟩:=Dy I.hok e
  refine gT d8 dd.typeIs fQ (jS _ _) (meets_dict_get (Bd X.prog X.w) a (Hs ry) hd) ⟨_,dd.mapOf,h _ _ (I.tok _) ?_⟩
  rw[l]
  exact(rel.val k).getD rfl
 .subst ey
  cases(ry)
  obtain⟨z,hd,xs,rel,dd⟩:=Se I.hok e
  refine gT d8 dd.typeIs fQ (jS _ _) (meetsH_dict_get (Db X.prog X.w) a b hd) ⟨show A.units+1+8<cLine by omega,k,xs,Lo I.hok eb,dd,h _ _ (I.tok _) ?_⟩
  rw[l]
  exact(rel.val k).getD rfl
def bf8{Q:Value->am->Prop}(hu:A.units+9<cLine)(I:Inv X ξ σ H s)(g:DGet H a y o)(ry:RelV y u)(rd:RelV d r)(h:∀w' s',Inv X ξ σ H s'->RelV (o.getD d) w'->Q w' s') :
  aS (model X.prog X.w) A (call (.builtin "dict.get") [.ref a,u,r]) Q E s:=by
 rcases g with⟨kvs,k,e,ey,l⟩|⟨kvs,k,b,e,ey,eb,l⟩
 .subst ey
  obtain⟨z,hd,vs,rel,dd⟩:=Dy I.hok e
  refine gT d8 dd.typeIs fQ (jT _ _ _) (meets_dict_get_default (Bd X.prog X.w) a (Hs ry) hd r) ⟨_,dd.mapOf,h _ _ (I.tok _) ?_⟩
  rw[l]
  exact(rel.val k).getD rd
 .subst ey
  cases(ry)
  obtain⟨z,hd,xs,rel,dd⟩:=Se I.hok e
  refine gT d8 dd.typeIs fQ (jT _ _ _) (meetsH_dict_get_default (Db X.prog X.w) a b hd r) ⟨show A.units+1+8<cLine by omega,k,xs,Lo I.hok eb,dd,h _ _ (I.tok _) ?_⟩
  rw[l]
  exact(rel.val k).getD rd
end
abbrev EK:=Addr->Hp->Prop
abbrev DE:=St->Hp->VK->EK->Prop
abbrev DT:=St->Hp->(Bool->Hp->Prop)->EK->Prop
abbrev DA:=St->Hp->(List V->Hp->Prop)->EK->Prop
structure Outs where
 nx:St->Hp->Prop
 rt:VK
 bk:St->Hp->Prop
 ct:St->Hp->Prop
 ex:St->EK
abbrev DS:=Outs->St->Hp->Prop
abbrev Aw(C:Addr)(dx:Option Addr)(vs:Array Value):Obj:={cls:=.ref C,dict:=dx,data:=.fields vs}
def Fj(a C:Addr)(dx:Option Addr):HO:=.ext λh=>∃vs,h.get? a=some (Aw C dx vs)/\vs.size=6/\vs[1]?=some .none/\vs[2]?=some .none
def flO(a C:Addr)(dx:Option Addr):HO:=.ext λh=>∃vs,h.get? a=some (Aw C dx vs)/\vs.size=6/\vs[2]?=some .none
def fcO(a C:Addr)(dx:Option Addr):HO:=.ext λh=>∃vs,h.get? a=some (Aw C dx vs)/\vs.size=6
def FlO(H:Hp)(a C:Addr)(dx:Option Addr):Prop:=H a=some (flO a C dx)\/H a=some (fcO a C dx)
def xdO(dx:Addr)(fs:List (Str×V)):HO:=.ext λh=>fs.length<=1000/\∃mA,h.Ns1 dx mA/\(∀f,RelO (fs.lookup f) (mA f))/\fm mA (fs.map (·.1))
def G6(X:Cx)(ξ:List (Addr×Obj))(H:Hp)(a:Addr)(s:am):Prop:=
 ∃C dx vs,FlO H a C dx/\s.heap.get? a=some (Aw C dx vs)/\vs.size=6 /\
  (vs[1]?=some .none \/ ∃T oT ts,vs[1]?=some (.ref T)/\T≠a/\s.heap.get? T=some oT/\oT.data=.fields ts/\(∃z,ts[3]?=some z)/\Cy X ξ H T)
def Meets(X:Cx)(Ex:St->EK):Prop:=
 ∀ξ (σ:St) (H:Hp) (s:am) (a:Addr),Inv X ξ σ H s->G6 X ξ H a s->Ex σ a H->X.xe (.ref a) s
def QE(X:Cx)(e:Expr)(t:DE):Prop:=∀Ex,Meets X Ex->PE X e (λσ H Q=>t σ H Q (Ex σ))
def QT(X:Cx)(e:Expr)(t:DT):Prop:=∀Ex,Meets X Ex->PT X e (λσ H Q=>t σ H Q (Ex σ))
def QW(X:Cx)(e:Expr)(t:DT):Prop:=∀Ex,Meets X Ex->PW X e (λσ H Q=>t σ H Q (Ex σ))
def QA(X:Cx)(es:List Expr)(t:DA):Prop:=∀Ex,Meets X Ex->PA X es (λσ H Q=>t σ H Q (Ex σ))
def a34(Ex:St->EK)(D:M6):Outs:=⟨D.nx,D.rt,D.bk,D.ct,Ex⟩
def QS(X:Cx)(st:Stmt)(t:DS):Prop:=∀Ex,Meets X Ex->PS X st (λD σ H=>t (a34 Ex D) σ H)
def QSs(X:Cx)(st:List Stmt)(t:DS):Prop:=∀Ex,Meets X Ex->PSs X st (λD σ H=>t (a34 Ex D) σ H)
noncomputable def dNo:DE:=λ_ _ _ _=>False
noncomputable def Aa(i:Nat):DE:=λσ H Q _=>match σ[i]? with
 |some (some v)=>Q v H
 |_=>False
noncomputable def dC(v:V):DE:=λ_ H Q _=>Q v H
noncomputable def Ah(r:R2)(a b:DE):DE:=λσ H Q E=>a σ H (λx H1=>b σ H1 (λy H2=>r x y H2 Q) E) E
noncomputable def dUn(r:V->Hp->VK->Prop)(a:DE):DE:=λσ H Q E=>a σ H (λx H1=>r x H1 Q) E
noncomputable def Dw(r r':R2)(a b c:DE):DE:=λσ H Q E=>a σ H (λx H1=>b σ H1 (λy H2=>r x y H2 λz H3=>match z with
 |.bl k=>if k=true then c σ H3 (λw H4=>r' y w H4 Q) E else Q (.bl false) H3
 |_=>False) E) E
noncomputable def Nb(a b:DT):DT:=λσ H Q E=>a σ H (λk H1=>if k=true then b σ H1 Q E else Q false H1) E
noncomputable def dOr(a b:DT):DT:=λσ H Q E=>a σ H (λk H1=>if k=true then Q true H1 else b σ H1 Q E) E
noncomputable def C5(a:DT):DT:=λσ H Q E=>a σ H (λk H1=>Q (!k) H1) E
def ac6(K:ac)(x:V)(H:Hp)(Q:Bool->Hp->Prop):Prop:=match x with
 |.bl k=>Q k H
 |.non=>Q false H
 |.int i=>Q (i != 0) H
 |.str y=>y.length<=sizeLine/\Q ((y.length:Int) != 0) H
 |.ref p=>∃k,bv3 K (.ref p) H k/\Q k H
 |_=>False
noncomputable def Hh(K:ac)(a b:DE):DE:=λσ H Q E=>a σ H (λx H1=>ac6 K x H1 λk H2=>if k=true then b σ H2 Q E else Q x H2) E
noncomputable def bv7(K:ac)(a b:DE):DE:=λσ H Q E=>a σ H (λx H1=>ac6 K x H1 λk H2=>if k=true then Q x H2 else b σ H2 Q E) E
noncomputable def Xz(K:ac)(a:DE):DE:=λσ H Q E=>a σ H (λx H1=>ac6 K x H1 λk H2=>Q (.bl (!k)) H2) E
noncomputable def B9(K:ac)(a:DE):DT:=λσ H Q E=>a σ H (λx H1=>ac6 K x H1 Q) E
noncomputable def Bl(a:DE):DT:=λσ H Q E=>a σ H (λx H1=>match x with
 |.bl k=>Q k H1
 |_=>False) E
noncomputable def Ag:DA:=λ_ H Q _=>Q [] H
noncomputable def Ab(a:DE)(r:DA):DA:=λσ H Q E=>a σ H (λx H1=>r σ H1 (λxs H2=>Q (x::xs) H2) E) E
noncomputable def Eh(t:DA):DE:=λσ H Q E=>t σ H (λxs H1=>xs.length<=sizeLine/\∀p,H1 p=none->Q (.ref p) (upd H1 p (.tup xs))) E
noncomputable def Cf(t:DA):DE:=λσ H Q E=>t σ H (λxs H1=>xs.length<=sizeLine/\∀p,H1 p=none->Q (.ref p) (upd H1 p (.lst xs))) E
noncomputable def dFn(r:List V->Hp->VK->EK->Prop)(t:DA):DE:=λσ H Q E=>t σ H (λvs H1=>r vs H1 Q E) E
noncomputable def dMt(r:V->Hp->(Hp->(List V->Hp->Prop)->Prop)->VK->Prop)(o:DE)(t:DA):DE:=λσ H Q E=>o σ H (λx H1=>r x H1 (λH2 R=>t σ H2 R E) Q) E
noncomputable def Af:DS:=λD σ H=>D.nx σ H
noncomputable def Bn:DS:=λ_ _ _=>False
def Outs.thn(D:Outs)(f:St->Hp->Prop):Outs:={D with nx:=f}
def Outs.lp(D:Outs)(P:St->Hp->Prop):Outs:={D with nx:=P,ct:=P,bk:=D.nx}
noncomputable def Ae(t u:DS):DS:=λD σ H=>t (D.thn (u D)) σ H
noncomputable def Aq(e:DE):DS:=λD σ H=>e σ H D.rt (D.ex σ)
noncomputable def a99:DS:=λD _ H=>D.rt .non H
noncomputable def B1(e:DE):DS:=λD σ H=>e σ H (λ_ H1=>D.nx σ H1) (D.ex σ)
noncomputable def dIf(c:DT)(t u:DS):DS:=λD σ H=>c σ H (λb H1=>if b=true then t D σ H1 else u D σ H1) (D.ex σ)
noncomputable def Ao(i:Nat)(e:DE):DS:=λD σ H=>e σ H (λv H1=>D.nx (σ.set i (some v)) H1) (D.ex σ)
abbrev DG:=TG
noncomputable def Ew(e:DE)(g:DG):DS:=λD σ H=>e σ H (λv H1=>g v σ H1 D.nx) (D.ex σ)
abbrev DI:=St->Hp->(It->Hp->Prop)->EK->Prop
noncomputable def Uw(c:DT)(tb:DS):DS:=λD σ H=>∃W:Nat->St->Hp->Prop,(∃m,W m σ H)/\∀m σ H,W m σ H ->
 c σ H (λb H1=>if b=true then ∃N,(∀ σ' H',N σ' H' -> ∃m',m'<m/\W m' σ' H')/\tb (D.lp N) σ H1 else D.nx σ H1) (D.ex σ)
def ag6(J:It)(g:DG)(tb:DS)(D:Outs)(σ:St)(H:Hp):Prop:=∃W:Nat->Nat->St->Hp->Prop,(∃m,W 0 m σ H)/\∀i m σ H,W i m σ H ->
 (J.stop i H/\D.nx σ H)\/(J.go i H/\∃N,(∀ σ' H',N σ' H' -> ∃m',m'<m/\W (i+1) m' σ' H')/\∀x H',J.yld i H x H'->g x σ H' (λσ2 H2=>tb (D.lp N) σ2 H2))
def Thaw(H0 H:Hp)(P:Hp->Prop):Prop:=P H \/ ∃p o kvs,H0 p=some (.dK kvs)/\H p=some (.frz o (.dK kvs))/\P (upd H p (.dK kvs))
def Outs.thw(D:Outs)(H:Hp):Outs:={D with nx:=λσ' H'=>Thaw H H' (D.nx σ')}
noncomputable def Bu(wi:DI)(g:DG)(tb:DS):DS:=λD σ H=>wi σ H (λJ H1=>ag6 J g tb (D.thw H) σ H1) (D.ex σ)
def Gk(J:It)(g:DG)(tc:DT)(te:DE)(D:Addr)(R:Hp->Prop)(σ:St)(H:Hp)(E:EK):Prop:=
 ∃W:Nat->Nat->St->Hp->Prop,(∃m,W 0 m σ H)/\∀i m σ' H',W i m σ' H' ->
  (J.stop i H'/\R H')\/(J.go i H'/\∃N:St->Hp->Prop,(∀ σ2 H2,N σ2 H2 -> ∃m',m'<m/\W (i+1) m' σ2 H2)/\∀x H2,J.yld i H' x H2->g x σ' H2 (λσ3 H3=>tc σ3 H3 (λb H4=>if b=true then
    te σ3 H4 (λv H5=>∃ys,H5 D=some (.lst ys)/\ys.length<sizeLine/\N σ3 (upd H5 D (.lst (ys++[v])))) E
   else N σ3 H4) E))
noncomputable def Bj(srcs:List (Option Nat))(wi:DI)(g:DG)(tc:DT)(te:DE):DE:=λσ H Q E=>wi σ H (λJ H1=>∀D,H1 D=none->Gk J g tc te D (λH'=>Q (.ref D) H') (Ut srcs σ) (upd H1 D (.lst [])) E) E
noncomputable def Cc:DT:=λ_ H Q _=>Q true H
noncomputable def gdN(i:Nat):DG:=λv σ H Q=>Q (σ.set i (some v)) H
open PySem.W
section
variable {prog:aO}{w:bw}{A:bq}{E:Value->am->Prop}{s:am}{K:ac}{x C:Addr}{ox:Obj}{od:Option Obj}{name:Str}{expr:Bool}{Q:Value->am->Prop}
def Rz(self:Value):lV (.builtin "BaseException.__getattribute__") self=pure (.builtin "BaseException.__getattribute__", [self]):=by
 have hop:withoutEnding? "BaseException.__getattribute__" "#opaque"=none:=by decide +kernel
 have hdat:withoutEnding? "BaseException.__getattribute__" "#data"=none:=by decide +kernel
 have hk:builtinKind "BaseException.__getattribute__"=some .slot:=by decide +kernel
 simp only[lV,typeOf,builtinType,hop,hdat,hk];rfl
def a05{v:Value}(X:K.In s.heap)(I:gC s.heap x ox C od)(hga:aU K (.ref C) "__getattribute__"=some (some (.builtin "BaseException.__getattribute__")))(hgt:aU K (.ref C) "__getattr__"=some none)(hB:cN K C (.type "BaseException")=some true)(hf:PySem.W.findObj K C od name=some (.value v))(hh:gI v=true)(h:Q v {s with toks:=s.toks+1}) :
  aS (model prog w) A (mn (.ref x) name expr) Q E s:=by
 obtain⟨hp,g,d,t,os⟩:=s
 have L0:=I.type (M:=model prog w)
 have L1:=eJ (M:=model prog w) X hga
 have L2:=eJ (M:=model prog w) X hgt
 have L3:=lZ (M:=model prog w) X I hf
 have L4:=lS (M:=model prog w) X hB
 refine af (wpAny_mkText (bC (af (L0.at (af (L1.at ?_))))))
 have hx2:(dE "BaseException.__getattribute__" == dE "object.__getattribute__")=false:=by decide +kernel
 have hx1:(mX (ba C)&&dE "BaseException.__getattribute__" == dE "object.__getattribute__")=false:=by rw[hx2];rfl
 dsimp only
 rw[hx1,if_neg aA]
 refine af (show aS _ _ (jI (.ref C) "__getattr__") _ _ _ from L2.at ?_)
 refine af (gu (bC ?_))
 have hx0:(expr&&mX (dE "BaseException.__getattribute__"))=false:=by cases expr <;> rfl
 unfold callGetattribute
 rw[hx0,if_neg aA]
 unfold boundAndCalled
 rw[Rz]
 refine af (aq ?_)
 refine dX (eK (by decide +kernel) F.entry_bexc_ga (check_slot (i := "BaseException.__getattribute__") (owner := "BaseException") (n := "__getattribute__") (by decide +kernel) (by decide +kernel) (L0.andThen L4) (F.args_bexc_ga _ _) ?_))
 unfold a9.«object.__getattribute__»
 refine af (aq (af (aq (af (L0.at (af (L3.at ?_)))))))
 refine aq ?_
 show aS _ _ (handedOut v) _ _ _
 rw[lA hh]
 exact aq h
end
open Builtin Builtin.ObjectAttr
def Bc:List Value->Bool
 |[.type a,.type b,.type c,.type d]=>a == "ValueError" && b == "Exception" && c == "BaseException" && d == "object"
 |.ref _::r=>Bc r
 |_=>false
def valTail:List Value:=[.type "ValueError", .type "Exception", .type "BaseException", .type "object"]
def Vy(self:Value):refuseLoop self "__setattr__" valTail=pure ():=by kernel_rfl
theorem Dz:∀{l},Bc l=true -> ∃rs:List Addr,l=rs.map ba++valTail
 | [.type a,.type b,.type c,.type d],e=>by
  have e:(a == "ValueError" && b == "Exception" && c == "BaseException" && d == "object")=true:=e
  simp only[aV,beq_iff_eq] at e
  obtain⟨⟨⟨rfl,rfl⟩,rfl⟩,rfl⟩:=e
  exact⟨[],rfl⟩
 | .ref a::r,e=>by
  have e:Bc r=true:=by cases r <;> first|exact e|cases e
  obtain⟨rs,h⟩:=Dz e
  exact⟨a::rs,by rw[h];rfl⟩
def Vx(self:Value)(rs:List Addr):refuseLoop self "__setattr__" (rs.map ba++valTail)=pure ():=by
 induction rs with
 |nil=>exact Vy self
 |cons a r ih=>rw[aX,gH,refuseLoop_ref];exact ih
def Ub(rs:List Addr){T:String}(h:valTail.contains (.type T)=true):(rs.map ba++valTail).contains (.type T)=true:=by
 induction rs with
 |nil=>exact h
 |cons a r ih=>rw[aX,gH,b5,ih,fV]
section
variable {prog:aO}{w:bw}{A:bq}{s:am}{K:ac}{x C:Addr}{R:mR->am->Prop}
def Oy{ox:Obj}{od:Option Obj}{name:Str}{tk:Tok}{v:Value}{cd:ClassData}(X:K.In s.heap)(I:gC s.heap x ox C od)(hc:mU K C=some cd)(hp:Bc cd.mro=true)(ht:findIn K (.ref C) name=some none)(h:aS (model prog w) A.in1 (storeInOwnDict (.ref x) (.ref C) (.str name tk) name v false)
   (λfin s'=>match fin with | .done f=>R (.ok f) s' | .again c'=>c'.quiet=true/\gM (model prog w) A c' R s') (λe s'=>R (.error e) s') s) :
  gM (model prog w) A (.call (.builtin "object.__setattr__") ⟨[.ref x,.str name tk,v],[]⟩) R s:=by
 have SF:=PySem.F.store_object
 obtain⟨rs,hm⟩:=Dz hp
 have ne:cd.mro.isEmpty=false:=by rw[hm];cases rs <;> rfl
 have sub:Looks (model prog w) s.heap (isInstance (.ref x) (.type "object")) true:=I.type.andThen (looks_mroIn X (by unfold mroIn;rw[hc,cG,if_neg (by rw[ne];decide),hm,Ub rs (by decide +kernel)]))
 refine eK SF.slot.plain SF.entry (@check_slot (model prog w) _ _ s "object.__setattr__" "object" "__setattr__" (.ref x) [.str name tk,v] [] _ SF.kind SF.split sub (SF.args (.ref x) (.str name tk) v) ?_)
 have hmr:Looks (model prog w) s.heap (mroOf (.ref C)) cd.mro:=(looks_clsIn X hc).andThen .now
 rw[osa_eq,refuse_eq]
 refine af (af (I.type.here (af (hmr.here ?_))))
 rw[hm,Vx]
 exact aq (af (I.type.here (af ((looks_findIn X ht).here (af (aq h))))))
end
section
variable {prog:aO}{w:bw}{A:bq}{E:Value->am->Prop}{s:am}{K:ac}{x dx C f:Addr}{mA:Str->Option Value}{name:Str}{v:Value}{vs:Array Value}
def a71{ns:List Str}{Q:Unit->am->Prop}{cd:ClassData}(X:K.In s.heap)(hx:s.heap.get? x=some (Aw C (some dx) vs))(hn:s.heap.Ns1 dx mA)(hne:dx≠x)(hs:findIn K (.ref C) "__setattr__"=some (some (.builtin "object.__setattr__")))(hc:mU K C=some cd)(hp:Bc cd.mro=true)(hd':cd.hasDict=true)(ht:findIn K (.ref C) name=some none)(hw:fm mA ns)(hsz:ns.length<=sizeLine)(h:∀h',h'.get? x=some (Aw C (some dx) vs)->h'.Ns1 dx (λy=>if y=name then some v else mA y)->bO dx s.heap h'->Q () {s with heap:=h',toks:=s.toks+2}) :
  aS (model prog w) A (m_ (.ref x) name v) Q E s:=by
 obtain⟨od,ho,hl⟩:=Je hn
 have J:gC s.heap x (Aw C (some dx) vs) C (some od):=⟨hx,rfl,rfl,ho⟩
 refine set_plain X J hs (Oy X J hc hp ht ?_)
 refine af (aq (af (af (jq hx (af (Looks.here (looks_clsIn X hc) ?_))))))
 rw[hd']
 refine aq (af (aq (af ?_)))
 refine mH hn λh' hn2 hs2=>?_
 obtain⟨oD,esD,epD,hoD,hdD,hcD⟩:=hn2.count (PySem.Within.cons name v hw)
 exact af (j6 hoD (by rw[hdD];exact j4 (aT hcD (by rw[aI];omega))) (aq (h _ ((hs2.2 _ (bY hne)).trans hx) hn2 hs2)))
def ar7{Q:Unit->am->Prop}{cd:ClassData}(X:K.In s.heap)(hx:s.heap.get? x=some (Aw C none vs))(hs:findIn K (.ref C) "__setattr__"=some (some (.builtin "object.__setattr__")))(hc:mU K C=some cd)(hp:Bc cd.mro=true)(hd':cd.hasDict=true)(ht:findIn K (.ref C) name=some none)(h:∀h',h'.get? x=some (Aw C (some s.heap.objs.size) vs)->h'.Ns1 s.heap.objs.size (λy=>if y=name then some v else none)->(∀b o,b≠x->s.heap.get? b=some o->h'.get? b=some o)->Q () {s with heap:=h',toks:=s.toks+2}) :
  aS (model prog w) A (m_ (.ref x) name v) Q E s:=by
 have J:gC s.heap x (Aw C none vs) C none:=⟨hx,rfl,rfl,aM⟩
 refine set_plain X J hs (Oy X J hc hp ht ?_)
 refine af (aq (af (af (jq hx (af (Looks.here (looks_clsIn X hc) ?_))))))
 rw[hd',if_neg (by decide)]
 refine af (wpAny_alloc (af (wpAny_update (ah _ hx) ?_)))
 refine aq (af (aq (af ?_)))
 have e1:(s.heap.push emptyDict).get? s.heap.objs.size=some emptyDict:=aD s.heap rfl
 have hne:=aR (aH hx)
 have e2:((s.heap.push emptyDict).update x λo=>{o with dict:=some s.heap.objs.size}).get? s.heap.objs.size=some emptyDict:=by rw[bX _ _ hne];exact e1
 have e3:((s.heap.push emptyDict).update x λo=>{o with dict:=some s.heap.objs.size}).get? x=some (Aw C (some s.heap.objs.size) vs):=d6 _ (ah _ hx) rfl
 have n0:((s.heap.push emptyDict).update x λo=>{o with dict:=some s.heap.objs.size}).Ns s.heap.objs.size (λ_=>none):=⟨emptyDict,#[],_,e2,rfl,(λe he=>absurd he (by simp)),λ_=>rfl⟩
 refine mH (Heap.Ns1.of_empty n0) λh' hn2 hs2=>?_
 obtain⟨oD,esD,epD,hoD,hdD,hcD⟩:=hn2.count (ns:=[name]) (λy hy=>by
  by_cases e:y=name
  .rw[e];simp
  .exact absurd (by rw[if_neg e]) hy)
 refine af (j6 hoD (by rw[hdD];exact j4 (aT hcD (by show 1<=sizeLine+1;decide))) ?_)
 refine aq (h _ ((hs2.2 _ hne).trans e3) hn2 λb o hb e=>?_)
 have hbs:=aR (aH e)
 refine(hs2.2 b hbs).trans ?_
 rw[bX _ _ (bY hb)]
 exact ah _ e
end
end L2
namespace L2
open PySem PySem.Spec PySem.W Builtin Builtin.ObjectAttr
open Sem (wp)
structure ECls (K:ac) (C:Addr):Prop where
 obj:∃nm q N bs bm hdct sn sub ab col dd k0 k1 k2 k3 k5,K.lookup C=some (gd nm q C N bs bm hdct sn sub ab col dd k0 k1 k2 k3 k5 "ValueError.__new__")/\Bc bm=true/\hdct=true
 sa:findIn K (.ref C) "__setattr__"=some (some (.builtin "object.__setattr__"))
 ga:findIn K (.ref C) "__getattribute__"=some (some (.builtin "BaseException.__getattribute__"))
 gt:findIn K (.ref C) "__getattr__"=some none
 ca:findIn K (.ref C) "__class__"=some (some (.builtin "object.__class__"))
 hn:specialIn K (.builtin "object.__class__") "__get__"=some (some (.builtin "getset_descriptor.__get__"))
 htk:takesIn K (.builtin "object.__class__")=some true
def Cd{bm:List Value}(h:Bc bm=true){T:String}{b:Bool}(hb:valTail.contains (.type T)=b):bm.contains (.type T)=b:=by
 obtain⟨rs,rfl⟩:=Dz h
 induction rs with
 |nil=>exact hb
 |cons a r ih=>
  have h':Bc (r.map ba++valTail)=true:=by
   cases r <;> exact h
  rw[aX,gH,b5,ih h']
  rfl
section
variable {M:nS}{A:bq}{E:Value->am->Prop}{h:Heap}{g:Array kZ}{d:Drawn}{t:Nat}{os:OsState}
variable {nm q:Str}{C N:Addr}{bs bm:List Value}{hdct:Bool}{sn:List Str}{sub:List Value}{ab:Bool}{col:Option Bool}{dd:Option Addr}{k0 k1 k2 k3 k5:Option Value}
def Ed(T:Bc bm=true){rest:List Value}{Q:Unit->am->Prop}(hC:h.get? C=some (gd nm q C N bs bm hdct sn sub ab col dd k0 k1 k2 k3 k5 "ValueError.__new__"))(hq:Q () ⟨h,g,d,t,os⟩):aS M A (iH "ValueError.__new__" ⟨.ref C::rest,[]⟩) Q E ⟨h,g,d,t,os⟩:=by
 have F:=dS
 have hcont:(ba C::bm).contains (.type "ValueError")=true:=by rw[b5,Cd T (show valTail.contains (.type "ValueError")=true by decide +kernel),fV]
 have hstar:=F.noStar
 simp only[iH,F.newKind,F.newSplit,F.newRow]
 repeat (first|refine bL hC ?_|(refine cH hC ?_;rw[hcont])|refine wpAny_staticBase_exc hC ?_|refine j7 hC ?_|simp only[bne_self_eq_false,dn,if_false] | wp_step)
 exact hq
end
section
variable {prog:aO}{w:bw}{A:bq}{R:mR->am->Prop}{h:Heap}{g:Array kZ}{d:Drawn}{t:Nat}{os:OsState}
variable {nm q:Str}{C N:Addr}{bs bm:List Value}{hdct:Bool}{sn:List Str}{sub:List Value}{ab:Bool}{col:Option Bool}{dd:Option Addr}{k0 k1 k2 k3 k5:Option Value}
def D8(T:Bc bm=true){rest:List Value}(hC:h.get? C=some (gd nm q C N bs bm hdct sn sub ab col dd k0 k1 k2 k3 k5 "ValueError.__new__"))(hq:R (.ok (.ret (.ref (h.objs.size+1)))) ⟨(h.push {cls:=.type "tuple", data:=.seq rest.toArray}).push
   {cls:=.ref C,data:=.fields #[.ref h.objs.size,.none,.none,.none,.bool false,.none]},g,d,t,os⟩)(hrest:rest.length<=sizeLine) :
  gM (model prog w) A (.builtin "ValueError.__new__" ⟨.ref C::rest,[]⟩) R ⟨h,g,d,t,os⟩:=by
 have F:=dS
 have hends:=F.ends
 have hcB:(ba C::bm).contains (.type "ValueError")=true:=by rw[b5,Cd T (show valTail.contains (.type "ValueError")=true by decide +kernel),fV]
 have hcA:(ba C::bm).contains (.type "AttributeError")=false:=by rw[b5,Cd T (show valTail.contains (.type "AttributeError")=false by decide +kernel)];rfl
 have hcN:(ba C::bm).contains (.type "NameError")=false:=by rw[b5,Cd T (show valTail.contains (.type "NameError")=false by decide +kernel)];rfl
 refine codeAny_builtinAt F.entry ?_
 refine wpAt_bind ?_
 refine wpAt_bind (wpAt_stack λp below=>wpAt_of_wpAny ?_)
 wp_walk
 refine wpAt_of_wpAny ?_
 rw[F.owner]
 repeat (first|with_reducible refine wpAny_madeHere_exc F.canon hC ?_|with_reducible refine bL hC ?_|(with_reducible refine cH hC ?_;first|rw[hcB] | rw[hcA] | rw[hcN])|wp_step)
 rw[c8]
 exact hq
end
end L2
namespace L2
open PySem PySem.Spec PySem.W Builtin Builtin.ObjectAttr
open Sem (wp)
section
variable {prog:aO}{w:bw}{A:bq}{E:Value->am->Prop}{h:Heap}{g:Array kZ}{d:Drawn}{t:Nat}{os:OsState}
variable {nm q:Str}{C N f:Addr}{bs bm:List Value}{hdct:Bool}{sn:List Str}{sub:List Value}{ab:Bool}{col:Option Bool}{dd:Option Addr}{k0 k1 k2 k3 k5:Option Value}
abbrev Cs(h:Heap)(C:Addr)(rest:List Value):Heap:=(h.push {cls:=.type "tuple", data:=.seq rest.toArray}).push {cls:=.ref C,data:=.fields #[.ref h.objs.size,.none,.none,.none,.bool false,.none]}
def Io(T:Bc bm=true){rest:List Value}{Q:Fin->am->Prop}(hC:h.get? C=some (gd nm q C N bs bm hdct sn sub ab col dd k0 k1 k2 k3 k5 "ValueError.__new__"))(hi:Looks (model prog w) h (jI (.ref C) "__init__") (some (.ref f)))(hb:∀self,Looks (model prog w) h (lV (.ref f) self) (.ref f,[self]))(hq:aS (model prog w) A (call (.ref f) (.ref (h.objs.size+1)::rest)) (λv s'=>v=.none/\Q (.done (.ret (.ref (h.objs.size+1)))) s') E ⟨Cs h C rest,g,d,t,os⟩)(hrest:rest.length<=sizeLine) :
  aS (model prog w) A (a9.«type.__call__» ⟨.ref C::rest,[]⟩) Q E ⟨h,g,d,t,os⟩:=by
 have F:=dS
 repeat (first|with_reducible refine bL hC ?_|with_reducible refine j7 hC ?_|wp_step)
 refine jm (dZ _ F.quiet) (Ed T hC ?_)
 refine D8 T hC ?_ hrest
 have kp:∀b o,h.get? b=some o->(Cs h C rest).get? b=some o:=λb o e=>ah _ (ah _ e)
 have hC₁:=kp _ _ hC
 have hget:(Cs h C rest).get? (h.objs.size+1)=some {cls:=.ref C,data:=.fields #[.ref h.objs.size,.none,.none,.none,.bool false,.none]}:=by heap_get
 have hcC:(ba C::bm).contains (.ref C)=true:=by simp
 repeat (first|with_reducible refine bL hget ?_|(with_reducible refine cH hC₁ ?_;rw[hcC])|wp_step)
 refine(hi.keeps kp).at ?_
 refine bC (af (((hb _).keeps kp).at ?_))
 refine af (bH hq (λv s' z=>?_) λ_ _ z=>z)
 obtain⟨rfl,z⟩:=z
 exact aq (aq z)
def al3(T:Bc bm=true){rest:List Value}{R:mR->am->Prop}(hC:h.get? C=some (gd nm q C N bs bm hdct sn sub ab col dd k0 k1 k2 k3 k5 "ValueError.__new__"))(hi:Looks (model prog w) h (jI (.ref C) "__init__") (some (.ref f)))(hb:∀self,Looks (model prog w) h (lV (.ref f) self) (.ref f,[self]))(hq:gM (model prog w) (A.under (.builtin "type.__call__" ⟨.ref C::rest,[]⟩)) (.call (.ref f) ⟨.ref (h.objs.size+1)::rest,[]⟩) (InitBack (h.objs.size+1) R) ⟨Cs h C rest,g,d,t,os⟩)(hrest:rest.length<=sizeLine) :
  gM (model prog w) A (.call (.ref C) ⟨rest,[]⟩) R ⟨h,g,d,t,os⟩:=by
 have f1:=tc_lookup
 have f2:=tc_bind (.ref C)
 have hT:(⟨h,g,d,t,os⟩:am).TypeIs (.ref C) "type" := ⟨_,hC,rfl⟩
 refine kK ?_
 repeat (any_goals (first|assumption|with_reducible refine bL hC ?_|wp_step))
 refine⟨rfl,?_⟩
 refine jX (dZ _ (by decide +kernel)) entry_typeCall (jo hC (Io T hC hi hb (dX (d_ hq λr s' z=>?_)) hrest))
 rcases r with e|(v|_|_|_) <;> first|exact z|exact z.elim
def G5(T:Bc bm=true){rest:List Value}{Q:Fin->am->Prop}(hC:h.get? C=some (gd nm q C N bs bm hdct sn sub ab col dd k0 k1 k2 k3 k5 "ValueError.__new__"))(hi:Looks (model prog w) h (jI (.ref C) "__init__") (some (.builtin "ValueError.__init__")))(hq:∀h' e,Heap.MadeExcOf h h' e (.ref C) rest->e=h.objs.size+1->Q (.done (.ret (.ref e))) ⟨h',g,d,t,os⟩)(hrest:rest.length<=sizeLine) :
  aS (model prog w) A (a9.«type.__call__» ⟨.ref C::rest,[]⟩) Q E ⟨h,g,d,t,os⟩:=by
 have F:=dS
 repeat (first|with_reducible refine bL hC ?_|with_reducible refine j7 hC ?_|wp_step)
 refine jm (dZ _ F.quiet) (Ed T hC ?_)
 refine D8 T hC ?_ hrest
 have kp:∀b o,h.get? b=some o->(Cs h C rest).get? b=some o:=λb o e=>ah _ (ah _ e)
 have hC₁:=kp _ _ hC
 have hget:(Cs h C rest).get? (h.objs.size+1)=some {cls:=.ref C,data:=.fields #[.ref h.objs.size,.none,.none,.none,.bool false,.none]}:=by heap_get
 have hcC:(ba C::bm).contains (.ref C)=true:=by simp
 have hcB:(ba C::bm).contains (.type "ValueError")=true:=by rw[b5,Cd T (show valTail.contains (.type "ValueError")=true by decide +kernel),fV]
 repeat (first|with_reducible refine bL hget ?_|(with_reducible refine cH hC₁ ?_;rw[hcC])|wp_step)
 refine(hi.keeps kp).at ?_
 refine bC (af (nh (F.init.bind _) ?_))
 have chk:∀{Q'} {E'} {A'},Q' () ⟨Cs h C rest,g,d,t,os⟩->aS (model prog w) A' (iH "ValueError.__init__" ⟨.ref (h.objs.size+1)::rest,[]⟩) Q' E' ⟨Cs h C rest,g,d,t,os⟩:=λ{Q' E' A'} hq'=>by
  have hshort:=F.noStar
  simp only[iH,F.initKind,F.initSplit,F.initRow]
  repeat (first|with_reducible refine bL hget ?_|with_reducible refine bL hC₁ ?_|(with_reducible refine cH hC₁ ?_;rw[hcB])|wp_step)
  refine wpAny_onRaise ?_
  rw[show ∀a b n,Bind.check ⟨.positional,"*","ValueError", .self,[⟨"args", .varPos,false⟩]⟩ a b n (nA (λx=>x.fst) ({pos:=ba (h.objs.size+1)::rest}:Args).kw)=pure () from
   λa b n=>check_star_args _ _ _ _ _ _]
  exact aq hq'
 refine af (dX (eK F.init.plain F.initEntry (chk ?_)))
 wp_walk
 refine hq _ _ ⟨λb o hb=>?_,iK (cW _),h.objs.size+2,?_,iK (by omega),?_⟩ rfl
 .rw[bX _ _ (gQ (eU (aH hb)))]
  exact ah _ (ah _ (ah _ hb))
 .rw[d6 _ (ah _ hget) rfl]
  simp only[c8]
  rfl
 .rw[bX _ _ (show h.objs.size+1≠h.objs.size+2 by omega)]
  exact Heap.get?_push_at (by simp only[c8]) rfl
def Z0(T:Bc bm=true){rest:List Value}{R:mR->am->Prop}(hC:h.get? C=some (gd nm q C N bs bm hdct sn sub ab col dd k0 k1 k2 k3 k5 "ValueError.__new__"))(hi:Looks (model prog w) h (jI (.ref C) "__init__") (some (.builtin "ValueError.__init__")))(hq:∀h' e,Heap.MadeExcOf h h' e (.ref C) rest->e=h.objs.size+1->R (.ok (.ret (.ref e))) ⟨h',g,d,t,os⟩)(hrest:rest.length<=sizeLine) :
  gM (model prog w) A (.call (.ref C) ⟨rest,[]⟩) R ⟨h,g,d,t,os⟩:=by
 have f1:=tc_lookup
 have f2:=tc_bind (.ref C)
 have hT:(⟨h,g,d,t,os⟩:am).TypeIs (.ref C) "type" := ⟨_,hC,rfl⟩
 refine kK ?_
 repeat (any_goals (first|assumption|with_reducible refine bL hC ?_|wp_step))
 exact⟨rfl,(jX (dZ _ (by decide +kernel)) entry_typeCall (jo hC (G5 T hC hi hq hrest)))⟩
end
end L2
namespace L2
open PySem PySem.Spec PySem.W PyProof.Rows
def ECls.cls{K:ac}{C:Addr}(c:ECls K C):∃cd,mU K C=some cd/\Bc cd.mro=true/\cd.hasDict=true:=by
 obtain⟨nm,q,N,bs,bm,hdct,sn,sub,ab,col,dd,k0,k1,k2,k3,k5,hl,ht,hd⟩:=c.obj
 refine⟨_,by unfold mU;rw[hl],?_,hd⟩
 obtain⟨rs,e⟩:=Dz ht
 rw[e]
 clear e
 have:∀l,Bc (nA ba l++valTail)=true:=λl=>by
  induction l with
  |nil=>decide +kernel
  |cons a r ih=>cases r <;> exact ih
 exact this _
def ECls.sub{K:ac}{C:Addr}(c:ECls K C){T:String}(h:valTail.contains (.type T)=true):mroIn K C (.type T)=some true:=by
 obtain⟨cd,h1,h2,_⟩:=c.cls
 obtain⟨rs,e⟩:=Dz h2
 unfold mroIn
 rw[h1,cG,e,Ub rs h,if_neg]
 cases rs <;> exact aA
section
variable {prog:aO}{w:bw}{A:bq}{E:Value->am->Prop}{s:am}{K:ac}{x C:Addr}{ox:Obj}{od:Option Obj}{name:Str}
def aj5{g a v:Value}{Q:Option Value->am->Prop}(X:K.In s.heap)(I:gC s.heap x ox C od)(hga:aU K (.ref C) "__getattribute__"=some (some (.builtin "BaseException.__getattribute__")))(hgt:aU K (.ref C) "__getattr__"=some none)(hB:cN K C (.type "BaseException")=some true)(hf:PySem.W.findObj K C od name=some (.bind g a))(hh:gI v=true)(h:∀{A'} {R},R (.ok (.ret v)) {s with toks:=s.toks+1}->gM (model prog w) A' (.call g ⟨[a,.ref x,.ref C],[]⟩) R {s with toks:=s.toks+1})(hq:Q (some v) {s with toks:=s.toks+1}) :
  aS (model prog w) A (getAttr? (.ref x) name) Q E s:=by
 obtain⟨hp,gg,d,t,os⟩:=s
 have L0:=I.type (M:=model prog w)
 have L1:=eJ (M:=model prog w) X hga
 have L2:=eJ (M:=model prog w) X hgt
 have L3:=lZ (M:=model prog w) X I hf
 have L4:=lS (M:=model prog w) X hB
 refine af (wpAny_mkText (af (gu (bC (af (L0.at (af (L1.at ?_))))))))
 have hx2:(dE "BaseException.__getattribute__" == dE "object.__getattribute__")=false:=by decide +kernel
 have hx1:(mX (ba C)&&dE "BaseException.__getattribute__" == dE "object.__getattribute__")=false:=by rw[hx2];rfl
 dsimp only
 rw[hx1,if_neg aA]
 refine af (show aS _ _ (jI (.ref C) "__getattr__") _ _ _ from L2.at ?_)
 refine af (gu (bC ?_))
 have hx0:(false&&mX (dE "BaseException.__getattribute__"))=false:=rfl
 unfold callGetattribute
 rw[hx0,if_neg aA]
 unfold boundAndCalled
 rw[Rz]
 refine af (aq ?_)
 refine dX (eK (by decide +kernel) F.entry_bexc_ga (check_slot (i := "BaseException.__getattribute__") (owner := "BaseException") (n := "__getattribute__") (by decide +kernel) (by decide +kernel) (L0.andThen L4) (F.args_bexc_ga _ _) ?_))
 unfold a9.«object.__getattribute__»
 refine af (aq (af (aq (af (L0.at (af (L3.at ?_)))))))
 refine af (bC (dX (h ?_)))
 refine aq ?_
 show aS _ _ (handedOut v) _ _ _
 rw[lA hh]
 exact aq (aq hq)
def Nf{a g:Value}(hc:(mU K C).isSome=true)(ha:findIn K (.ref C) name=some (some a))(hg:specialIn K a "__get__"=some (some g))(ht:takesIn K a=some true):findObj K C od name=some (.bind g a):=by
 obtain⟨cd,hc⟩:=Option.isSome_iff_exists.mp hc
 unfold findObj
 rw[hc,cG,ha,cG]
 simp[hg,ht]
def Zi{Q:Option Value->am->Prop}(c:ECls K C)(X:K.In s.heap)(I:InstAt s.heap x ox C od)(h:Q (some (.ref C)) {s with toks:=s.toks+1}):aS (model prog w) A (getAttr? (.ref x) "__class__") Q E s:=by
 have hf:findObj K C od "__class__"=some (.bind (.builtin "getset_descriptor.__get__") (.builtin "object.__class__")):=Nf (by obtain⟨cd,hc,_⟩:=c.cls;rw[hc];rfl) c.ca c.hn c.htk
 exact aj5 X I c.ga c.gt (c.sub (by decide +kernel)) hf rfl (λq=>class_get X I (c.sub (by decide +kernel)) q) h
end
def ak8{K:ac}{x D:Addr}(c:ECls K D):KitX K (.ref x) (.ref D) (λh=>∃ox od,InstAt h x ox D od) where
 ty:=λ_ _ _ ⟨_,_,I⟩=>I.type
 it:=λ_ _ X _=>by
  obtain⟨cdD,hcD,_⟩:=c.cls
  unfold mU at hcD
  split at hcD
  .rename_i c' d' cd' sl' ho
   intro A' Q' E' s' k q
   exact af (jq (k _ _ (X _ _ ho)) (aq q))
  .cases hcD
 ne:=λh tp dd χ n sl X htp=>by
  obtain⟨cdD,hcD,_⟩:=c.cls
  refine Bool.eq_false_iff.mpr λq=>?_
  have e:=Value.ref.inj (beq_iff_eq.mp q)
  subst e
  unfold mU at hcD
  split at hcD
  .rename_i c' d' cd' sl' ho
   have z:=(X _ _ ho).symm.trans htp
   cases z
  .cases hcD
 ca:=λX ⟨_,_,I⟩ k=>Zi c X I k
def ExcAt(H:Hp)(a C:Addr)(fs:List (Str×V)):Prop:=(fs=[]/\(H a=some (Fj a C none)\/FlO H a C none)) \/ ∃dx,dx≠a/\(H a=some (Fj a C (some dx))\/FlO H a C (some dx))/\H dx=some (xdO dx fs)
inductive TyX (K:ac) (H:Hp) (x:V) (t:Value):Prop where
 |of (h:TyOf K H x t)
 |exc {a C:Addr}{fs:List (Str×V)} (ex:x=.ref a) (e:ExcAt H a C fs) (c:ECls K C) (et:t=.ref C)
 |sqT {a:Addr}{xs:List V} (ex:x=.ref a) (e:SqT K H a xs) (et:t=.type "tuple")
 |sqL {a:Addr}{xs:List V} (ex:x=.ref a) (e:SqL K H a xs) (et:t=.type "list")
 |ins {a C dx:Addr}{fs:List (Str×V)} (ex:x=.ref a) (e:H a=some (.ins C dx fs)) (cl:Cls K C) (ha:aU K (.ref C) "__class__"=some (some (.builtin "object.__class__"))) (hn:cI K (.builtin "object.__class__") "__get__"=some (some (.builtin "getset_descriptor.__get__"))) (htk:dO K (.builtin "object.__class__")=some true) (hm:cN K C (.type "object")=some true) (et:t=.ref C)
section
variable {X:Cx}{ξ:List (Addr×Obj)}{σ:St}{H:Hp}{s:am}{A:bq}{E:Value->am->Prop}{a C:Addr}{fs:List (Str×V)}
def Pz{dx:Option Addr}(I:Inv X ξ σ H s)(e:H a=some (Fj a C dx)):∃vs,s.heap.get? a=some (Aw C dx vs)/\vs.size=6/\vs[1]?=some .none/\vs[2]?=some .none:=(I.hok a _ e).1
def ba1{dx:Option Addr}(I:Inv X ξ σ H s)(e:H a=some (flO a C dx)):∃vs,s.heap.get? a=some (Aw C dx vs)/\vs.size=6/\vs[2]?=some .none:=(I.hok a _ e).1
def ai9{dx:Option Addr}(I:Inv X ξ σ H s)(e:H a=some (Fj a C dx)\/FlO H a C dx):∃vs,s.heap.get? a=some (Aw C dx vs)/\vs.size=6:=by
 rcases e with e|e|e
 .obtain⟨vs,h1,h2,_⟩:=Pz I e;exact⟨vs,h1,h2⟩
 .obtain⟨vs,h1,h2,_⟩:=ba1 I e;exact⟨vs,h1,h2⟩
 .exact (I.hok a _ e).1
def bd0{dx:Addr}(I:Inv X ξ σ H s)(e:H dx=some (xdO dx fs)):fs.length<=1000/\∃mA,s.heap.Ns1 dx mA/\(∀f,RelO (fs.lookup f) (mA f))/\fm mA (fs.map (·.1)):=(I.hok dx _ e).1
def ExcAt.inst(I:Inv X ξ σ H s)(e:ExcAt H a C fs):∃vs dx od,InstAt s.heap a (Aw C dx vs) C od/\(∀o,od=some o -> ∀name,∃v,lookIn name o=some v/\RelO (fs.lookup name) v)/\(od=none->fs=[]):=by
 rcases e with⟨rfl,e⟩|⟨dx,ne,e,ed⟩
 .obtain⟨vs,h1,_⟩:=ai9 I e
  exact⟨vs,none,none,⟨h1,rfl,rfl,aM⟩,λo z=>(nomatch z),λ_=>rfl⟩
 .obtain⟨vs,h1,_⟩:=ai9 I e
  obtain⟨_,mA,hn,hr,_⟩:=bd0 I ed
  obtain⟨od,ho,hl⟩:=Je hn
  refine⟨vs,some dx,some od,⟨h1,rfl,rfl,ho⟩,λo z name=>?_,λz=>nomatch z⟩
  cases z
  exact⟨_,hl name,hr name⟩
def Vb{Q:Value->am->Prop}{c:Value}{b:Bool}{x:V}{u t:Value}(I:Inv X ξ σ H s)(rx:RelV x u)(ty:TyX X.K H x t)(e:cD X.K t c=some b)(h:∀tk,Q (.bool b) {s with toks:=tk}) :
  aS (model X.prog X.w) A (call (.builtin "isinstance") [u,c]) Q E s:=by
 cases ty with
 |of ty=>exact Zu I rx ty e h
 |@exc a C fs ex ea cl et=>
  subst ex et
  cases(rx)
  obtain⟨vs,dx,od,J,_⟩:=ea.inst I
  exact cM (ak8 cl) I.kIn ⟨_,_,J⟩ e (λz=>nomatch z) h
 |@sqT a xs ex q et=>
  subst ex et
  cases(rx)
  obtain⟨_,_,⟨o,h1,h2,_⟩,_⟩:=I.tuple q
  exact cM PySem.W.kitx_tuple I.kIn ⟨o,h1,h2⟩ e (λz=>nomatch z) h
 |@sqL a xs ex q et=>
  subst ex et
  cases(rx)
  obtain⟨_,_,⟨o,_,h1,h2,_⟩,_⟩:=I.list q
  exact cM PySem.W.kitx_list I.kIn ⟨o,h1,h2⟩ e (λz=>nomatch z) h
 |@ins a C dx fs ex ea cl ha hn htk hm et=>
  subst ex et
  cases(show u=ba a from rx)
  obtain⟨mA,O,_⟩:=Hq I.hok ea
  obtain⟨od,J,_⟩:=O.look
  exact cM (PySem.W.kitx_own (cl.get _) cl.hd ha hn htk hm) I.kIn J e (λz=>nomatch z) h
def Zm{b:Bool}{f:Str}{v:V}{Q:Value->am->Prop}(I:Inv X ξ σ H s)(e:ExcAt H a C fs)(c:ECls X.K C)(n:NoAttr X.K C f)(l:fs.lookup f=some v)(h:∀u s',Inv X ξ σ H s'->RelV v u->Q u s'):aS (model X.prog X.w) A (mn (.ref a) f b) Q E s:=by
 obtain⟨vs,dx,od,J,hl,hn⟩:=e.inst I
 obtain⟨cd,hc,_,hd⟩:=c.cls
 cases od with
 |none=>rw[hn rfl] at l;cases l
 |some o=>
  obtain⟨u?,h1,h2⟩:=hl o rfl f
  rw[l] at h2
  obtain⟨u,hu,ru⟩:=RelO.some_of h2
  subst hu
  refine a05 I.kIn J c.ga c.gt (c.sub (by decide +kernel)) (lR (by unfold hasDictIn;rw[hc];exact hd) n rfl h1) (Oo ru) (h u _ (I.tok _) ru)
def bu8(H:Hp)(a C:Addr)(f:Str)(y:V)(N:Hp->Prop):Prop:=
 (H a=some (Fj a C none)/\∀dx,H dx=none->dx≠a->N (upd (upd H dx (xdO dx [(f,y)])) a (Fj a C (some dx)))) \/
 ∃dx fs,dx≠a/\H a=some (Fj a C (some dx))/\H dx=some (xdO dx fs)/\fs.length<1000/\N (upd H dx (xdO dx (Eo f y fs)))
def Py{P:aO}{w:bw}{H:Hp}{h:Heap}{dx:Option Addr}{vs:Array Value}(h1:h.get? a=some (Aw C dx vs))(h2:vs.size=6)(h3:vs[1]?=some .none)(h4:vs[2]?=some .none):ObjOk P w H h a (Fj a C dx):=
 ⟨⟨vs,h1,h2,h3,h4⟩,⟨_,h1⟩,λ_ _ ⟨vs',q1,q2⟩ k=>⟨vs',k _ q1,q2⟩⟩
def aj0{P:aO}{w:bw}{H:Hp}{h:Heap}{dx:Option Addr}{vs:Array Value}(h1:h.get? a=some (Aw C dx vs))(h2:vs.size=6)(h4:vs[2]?=some .none):ObjOk P w H h a (flO a C dx):=
 ⟨⟨vs,h1,h2,h4⟩,⟨_,h1⟩,λ_ _ ⟨vs',q1,q2⟩ k=>⟨vs',k _ q1,q2⟩⟩
def bg5{P:aO}{w:bw}{H:Hp}{h:Heap}{dx:Option Addr}{vs:Array Value}(h1:h.get? a=some (Aw C dx vs))(h2:vs.size=6):ObjOk P w H h a (fcO a C dx):=
 ⟨⟨vs,h1,h2⟩,⟨_,h1⟩,λ_ _ ⟨vs',q1,q2⟩ k=>⟨vs',k _ q1,q2⟩⟩
def aw7{P:aO}{w:bw}{H:Hp}{h:Heap}{dx:Addr}{mA:Str->Option Value}(z:fs.length<=1000)(h1:h.Ns1 dx mA)(h2:∀f,RelO (fs.lookup f) (mA f))(h3:fm mA (fs.map (·.1))):ObjOk P w H h dx (xdO dx fs):=
 ⟨⟨z,mA,h1,h2,h3⟩,(let⟨o,_,_,e,_⟩:=h1;⟨o,e⟩),λ_ _ ⟨z',mB,q1,q2,q3⟩ k=>⟨z',mB,q1.at k,q2,q3⟩⟩
def ab9{f:Str}{y:V}{u:Value}{Q:Unit->am->Prop}{N:Hp->Prop}(I:Inv X ξ σ H s)(c:ECls X.K C)(n:NoAttr X.K C f)(ry:RelV y u)(h0:bu8 H a C f y N)(h:∀H' s',Inv X ξ σ H' s'->N H'->Q () s'):aS (model X.prog X.w) A (m_ (.ref a) f u) Q E s:=by
 obtain⟨cd,hc,hp,hd⟩:=c.cls
 rcases h0 with⟨e,hN⟩|⟨dx,fs,ne,e,ed,hz,hN⟩
 .obtain⟨vs,h1,h2,h3,h4⟩:=Pz I e
  refine ar7 I.kIn h1 c.sa hc hp hd n λh' q1 q2 q3=>?_
  have fr:=I.hok.fresh (ag _)
  have ane:s.heap.objs.size≠a:=λz=>by rw[z,e] at fr;cases fr
  refine h _ _ ?_ (hN _ fr ane)
  obtain⟨o,es,ep,eo,hrest⟩:=id q2
  have eo1:=aD s.heap (Heap.get?_some_iff.mp eo).2
  have I1:=I.laid (o:=xdO s.heap.objs.size [(f,y)]) (λb u e=>ah _ e) (ag _)
   (aw7 (by simp) (q2.at λo' e'=>by rw[eo] at e';cases e';exact eo1) (λg=>by
    by_cases q:g=f
    .rw[if_pos q,q];simp only[f6,beq_self_eq_true];exact ry
    .rw[if_neg q];simp only[f6,beq_eq_false_iff_ne.mpr q];exact aM) (λg hg=>by
    by_cases q:g=f
    .rw[q];simp
    .exact absurd (by show(if g=f then some u else none)=none;rw[if_neg q]) hg))
  exact I1.write (by rw[Ad (bY ane),e];exact aM) (.inl rfl) (λb u hb eb=>by
   by_cases hs:b=s.heap.objs.size
   .rw[hs] at eb ⊢
    rw[eo1] at eb
    cases eb
    exact eo
   .refine q3 b u hb ?_
    rcases Heap.get?_push_cases eb with z|z
    .exact absurd z.1 hs
    .exact z) ⟨_,q1⟩ (Py q1 h2 h3 h4)
 .obtain⟨vs,h1,h2,h3⟩:=Pz I e
  obtain⟨z,mA,hn,hr,wi⟩:=bd0 I ed
  refine a71 I.kIn h1 hn ne c.sa hc hp hd n wi (by rw[ae,bQ];omega) λh' q1 q2 q3=>?_
  refine h _ _ ?_ hN
  refine I.write (by rw[ed];exact aM) (.inl rfl) (λb q hb z=>(q3.2 b hb).trans z) (let⟨o,_,_,e',_⟩:=q2;⟨o,e'⟩) ?_
  refine aw7 ?_ q2 (λg=>?_) (λg hg=>?_)
  .have:=Fo f y fs;omega
  .rw[Fp]
   by_cases q:g=f
   .rw[if_pos q,if_pos q];exact ry
   .rw[if_neg q,if_neg q];exact hr g
  .by_cases q:g=f
   .rw[q];exact(El f y fs).1
   .refine (El f y fs).2 g (wi g λz=>hg ?_)
    rw[if_neg q];exact z
def Inv.madeX(I:Inv X ξ σ H s)(C:Addr)(rest:List Value):Inv X ξ σ (upd H (s.heap.objs.size+1) (Fj (s.heap.objs.size+1) C none)) {s with heap:=Cs s.heap C rest}:=by
 have hget:(Cs s.heap C rest).get? (s.heap.objs.size+1)=some (Aw C none #[.ref s.heap.objs.size,.none,.none,.none,.bool false,.none]):=by heap_get
 exact I.laid (λb u e=>ah _ (ah _ e)) (cW _) (Py hget rfl rfl rfl)
variable {CX:CXT}{k:Nat}{f:Addr}{fd:bb}{ps:List Str}{sp:Sp}{dvs:List V}{ds us:List Value}{vs:List V}{Q:VK}
def V0(c:ECls X.K C)(hi:findIn X.K (.ref C) "__init__"=some (some (.builtin "ValueError.__init__")))(I:Inv X ξ σ H s)(r:Vals vs us)(hl:vs.length<=1000)(h:∀a,H a=none->Q (.ref a) (upd H a (Fj a C none))) :
  aS (model X.prog X.w) X.A (call (.ref C) us) (EP X ξ σ Q) X.xe s:=by
 obtain⟨nm,q,N,bs,bm,hdct,sn,sub,ab,col,dd,k0,k1,k2,k3,k5,hC,ht,_⟩:=c.obj
 obtain⟨hh,g,d,t,os⟩:=s
 refine dX (Z0 ht (I.kIn _ _ hC) (looks_findIn I.kIn hi) (λh' e M ee=>?_) (by rw[<- r.length,bQ];omega))
 subst ee
 obtain⟨kp,_,t0,q1,_,_⟩:=M
 exact⟨.ref (hh.objs.size+1),upd H (hh.objs.size+1) (Fj (hh.objs.size+1) C none),(I.laid (t':=t) kp (cW _) (Py q1 rfl rfl rfl)),rfl,h _ (I.hok.fresh (cW _))⟩
def ab5(c:ECls X.K C)(hi:findIn X.K (.ref C) "__init__"=some (some (.ref f)))(hf:isFn X.K (.ref f)=true)(F:FnOk X.prog X.w X.K X.mg X.base CX k f fd ps sp)(hr:Room (k+1) X.A)(hb:Binds X.K fd ps ds)(hd:Vals dvs ds)(I:Inv X ξ σ H s)(r:Vals vs us)(hl:vs.length<=1000){EX:XK}(hx:∀e s1 s' H1,Inv X ξ σ H1 s1->CX X.stack H1 s1 EX e s'->X.xe e s')(h:∀a,H a=none->sp (.ref a::(vs++dvs)) (upd H a (Fj a C none)) (λv H2=>v=.non/\Q (.ref a) H2) EX) :
  aS (model X.prog X.w) X.A (call (.ref C) us) (EP X ξ σ Q) X.xe s:=by
 obtain⟨nm,q,N,bs,bm,hdct,sn,sub,ab,col,dd,k0,k1,k2,k3,k5,hC,ht,_⟩:=c.obj
 have hq:=h (s.heap.objs.size+1) (I.hok.fresh (cW _))
 have I2:=I.madeX C us
 have r2:Vals (V.ref (s.heap.objs.size+1)::(vs++dvs)) (ba (s.heap.objs.size+1)::(us++ds)):=.cons rfl (r.append hd)
 have hlen:(ba (s.heap.objs.size+1)::us++ds).length=ps.length:=by
  have e:=r2.length
  rw[F.len _ _ _ _ hq] at e
  exact e.symm
 refine dX (al3 ht (I.kIn _ _ hC) (looks_findIn I.kIn hi) (λself=>PySem.W.bind_fn I.kIn self (beq_iff_eq.mp hf)) (d_ (F.run _ X.stack {s with heap:=Cs s.heap C us} _ ⟨ba (s.heap.objs.size+1)::us,[]⟩ (ba (s.heap.objs.size+1)::(us++ds)) _ _ EX (hr.make C us [])
  (I2.env0.make C us []) (hb _ (ba (s.heap.objs.size+1)::us) I2.kIn hlen) r2 hq) λr s' hq'=>?_) (by rw[<- r.length,bQ];omega))
 cases r with
 |error e=>exact hx e _ s' _ I2 hq'
 |ok fl=>
  cases fl with
  |ret u=>
   obtain⟨v,H',I3,rv,ev,q3⟩:=I2.after hq'
   subst ev
   exact⟨rv,⟨V.ref (s.heap.objs.size+1),H',I3,rfl,q3⟩⟩
  |next=>exact bR hq'
  |brk=>exact bR hq'
  |cont=>exact bR hq'
end
end L2
namespace L2
open PySem PySem.Spec PyProof.Rows
def Ite(K:ac)(l:Addr):It:=
  ⟨λi H=>∃xs x,SqL K H l xs/\xs[i]?=some x,
   λi H v H'=>∃T x,H T=none/\v=.ref T/\(∀xs,SqL K H l xs->xs[i]?=some x)/\H'=upd H T (.tup [.int i,x]),
   λi H=>∃xs,SqL K H l xs/\xs.length<=i⟩
def ac8{P:aO}{w:bw}{K:ac}{elts:List Expr}{kt:Nat}{pt:Pos}{e it l:Addr}(ne:e≠it) :
  M8 P w K (.Tuple elts kt pt) (Ite K l) [e,it] e (λi h=>(∃old,IsEnum h e it (i:Int) old)/\h.IsListIter it l i) where
 mem:=by simp
 obj:=λi h st b hb=>by
  obtain⟨⟨old,he⟩,⟨o1,e1,c1,d1⟩⟩:=st
  have hb:b=e\/b=it:=by simpa using hb
  rcases hb with rfl|rfl
  .exact⟨_,he,λv q=>nomatch q⟩
  .exact⟨o1,e1,λv q=>by rw[d1] at q;cases q⟩
 keep:=λi h h' st k=>by
  obtain⟨⟨old,he⟩,h1⟩:=st
  exact⟨⟨old,k e (by simp) _ he⟩,h1.at λo q=>k it (by simp) o q⟩
 item:=by
  intro X hP hw hK hc i ξ s σ H E I hf st hg
  subst hP hw hK
  obtain⟨xs,x,q1,hx⟩:=hg
  obtain⟨its1,r1,p1,z1⟩:=I.list q1
  obtain⟨u,hu,ru⟩:=r1.get hx
  obtain⟨⟨old,he⟩,h1⟩:=st
  refine wpAny_pyNext_enum_item he h1 p1.isList (by simpa using hu) ne λh' a1 a2 a3 a4 hk=>?_
  refine⟨_,rfl,ja a1 λh'' hz' hs'=>?_⟩
  have hT:=I.hok.fresh (ag s.heap.objs.size)
  have up':∀b o,b∉[e,it]->s.heap.get? b=some o->h''.get? b=some o:=λb o hb q=>by
   have b1:b≠e:=by rintro rfl;exact hb (by simp)
   have b2:b≠it:=by rintro rfl;exact hb (by simp)
   exact hs'.extBut b o b1 (hk b o b1 b2 q)
  have nT:∀{b o},s.heap.get? b=some o->b≠s.heap.objs.size:=λq=>aR (aH q)
  have Tnew:=hs'.extBut _ _ (bY (nT he)) a3
  have I1:Inv X ξ σ (upd H s.heap.objs.size (.tup [.int i,x])) {s with heap:=h'',toks:=s.toks+1}:=
   I.turnedN (hf) up' (ag _) ⟨by show 2<=sizeLine;decide,[.int i s.toks,u],.cons ⟨_,rfl⟩ (.cons ru .nil),⟨_,Tnew,rfl,_,rfl⟩⟩
  refine⟨.ref s.heap.objs.size,_,I1,rfl,⟨s.heap.objs.size,x,hT,rfl,λxs' h'=>by rw[I.list_inj h' q1];exact hx,rfl⟩,⟨⟨_,hz'⟩,a2.at λo q=>hs'.extBut _ o (bY ne) q⟩,λb hb=>?_⟩
  have q:=(hf b hb).1
  rw[Ad ?_]
  .exact q
  .have hb:b=e\/b=it:=by simpa using hb
   rcases hb with rfl|rfl
   .exact nT he
   .obtain⟨_,q,_⟩:=h1;exact nT q
 done:=by
  intro X hP hw hK hc i ξ s σ H E I hf st hg
  subst hP hw hK
  obtain⟨xs,q1,hx⟩:=hg
  obtain⟨its1,r1,p1,z1⟩:=I.list q1
  have e1:=r1.length
  obtain⟨⟨old,he⟩,h1⟩:=st
  refine wpAny_pyNext_enum_end (I.ok.hd hc) he h1 p1.isList (by simp;omega) λh' hk=>⟨rfl,?_⟩
  refine I.turnedL (hf) λb o hb q=>?_
  have b2:b≠it:=by rintro rfl;exact hb (by simp)
  exact hk b o b2 q
 self:=λA i s Q E st h=>let⟨_,he⟩:=st.1;io he h
section
variable {X:Cx}{ξ:List (Addr×Obj)}{σ σ0:St}{H H0:Hp}{s s0:am}{p:Addr}{kvs:List (Key×V)}{o:Obj}
def Y3(o:Obj)(ep:Nat):Prop:=∃es,o.data=.dict es ep
def Inv.froze(I:Inv X ξ σ H s)(h:H p=some (.dK kvs)):∃ob ep,s.heap.get? p=some ob/\Y3 ob ep/\Inv X ξ σ (upd H p (.frz ob (.dK kvs))) s:=by
 have K:=I.hok p _ h
 obtain⟨z,y,vs,r,ob,es,ep,e,c,d,q⟩:=id K
 exact⟨ob,ep,e,⟨es,d⟩,(I.write (x:=p) (e:=p) (t':=s.toks) (h':=s.heap) (by rw[h];trivial) (.inl rfl) (λb u _ q=>q) ⟨ob,e⟩ ⟨e,K⟩)⟩
def Inv.thaw(I0:Inv X ξ σ0 H0 s0)(h0:H0 p=some (.dK kvs))(I:Inv X ξ σ H s)(h:H p=some (.frz o (.dK kvs))):Inv X ξ σ (upd H p (.dK kvs)) s:=by
 have ne:∀b,H b=none->b≠p:=λb e z=>by rw[z,h] at e;cases e
 have ntup:∀b xs,H b=some (.tup xs)->b≠p:=λb xs e z=>by rw[z,h] at e;cases e
 have nown:∀b c,H b=some (.own c)->b≠p:=λb c e z=>by rw[z,h] at e;cases e
 refine⟨I.ok,I.os,I.bare,⟨I.base.keep,I.base.slot,λb ob e n hx=>?_,I.base.there,λb xs e=>?_,λb ob u e=>?_,λb ps e=>?_⟩,I.loc,I.cell,?_,λx c e=>?_,λq hq=>?_,λb u e=>?_,I.len⟩
 .have q:=I.base.free b ob e n hx
  rw[Ad (ne b q)];exact q
 .have q:=I.base.tups b xs e
  rw[Ad (ntup b xs q)];exact q
 .have q:=I.base.frzs b ob u e
  have n:b≠p:=λz=>by
   have q0:=I0.base.frzs b ob u e
   rw[z,h0] at q0;cases q0
  rw[Ad n];exact q
 .obtain⟨more,q⟩:=I.base.tbls b ps e
  have n:b≠p:=λz=>by rw[z,h] at q;cases q
  exact⟨more,by rw[Ad n];exact q⟩
 .rw[Ad (ne _ I.free)];exact I.free
 .have q:=I.freeC x c e
  rw[Ad (ne _ q)];exact q
 .obtain⟨a,b,c⟩:=I.pin q hq
  exact⟨a,by rw[Ad (ne _ b)];exact b,c⟩
 .by_cases z:b=p
  .subst z
   rw[Ac] at e
   cases e
   exact(I.hok b _ h).2
  .rw[Ad z] at e
   exact(I.hok b u e).stay (λ_ _ _ q=>q) (λc q=>by rw[Ad (nown c b q)];exact q) λc xs q=>by rw[Ad (ntup c xs q)];exact q
def Thaw.inv{P:Hp->Prop}(I0:Inv X ξ σ0 H0 s0)(I:Inv X ξ σ H s)(t:Thaw H0 H P):∃H',Inv X ξ σ H' s/\P H':=by
 rcases t with t|⟨p,o,kvs,h0,h,t⟩
 .exact⟨H,I,t⟩
 .exact⟨_,I0.thaw h0 I h,t⟩
def Inv.kdict(I:Inv X ξ σ H s)(h:H p=some (.frz o (.dK kvs))){ep:Nat}(he:Y3 o ep):∃vs,KV kvs vs/\s.heap.DictAt (Bd X.prog X.w) p vs ep/\(p==cY)=false:=by
 obtain⟨e1,z,y,vs,r,ob,es,ep',e,c,d,q⟩:=I.hok p _ h
 obtain⟨es',d'⟩:=he
 rw[e1] at e
 cases e
 have d2:=d
 rw[d'] at d2
 cases d2
 exact⟨vs,r,⟨o,_,e1,c,d,q⟩,y⟩
end
def Itd(p:Addr)(o:Obj)(kvs:List (Key×V)):It:=
 ⟨λi H=>H p=some (.frz o (.dK kvs))/\i<kvs.length,λi H x H'=>H'=H/\∃k v,kvs[i]?=some (k,v)/\x=kV k,λi H=>H p=some (.frz o (.dK kvs))/\kvs.length<=i⟩
theorem ak9:∀{kvs} {vs}{i:Nat}{k:Key}{v:V},KV kvs vs->kvs[i]?=some (k,v) -> ∃u,vs[i]?=some (k,u)/\RelV v u
 | _,_,0,k,v,.cons (b:=q) r _,e=>by
  simp only[fu,ig] at e
  subst e
  exact⟨q.2,congrArg some (Prod.ext r.1.symm rfl),r.2⟩
 | _,_,i+1,k,v,.cons r t,e=>by
  simp only[bI] at e ⊢
  exact ak9 t e
def ba9{P:aO}{w:bw}{k:Key}{u:Value}(h:(Bd P w).is k u=true):RelV (kV k) u:=by
 cases k with
 |inl i=>obtain⟨t,rfl⟩:=Value.isInt_shape (h);exact⟨t,rfl⟩
 |inr z=>obtain⟨t,rfl⟩:=lU (h);exact⟨t,rfl⟩
def ac7{P:aO}{w:bw}{K:ac}{tg:Expr}(p it:Addr)(o:Obj)(kvs:List (Key×V)){ep:Nat}(he:Y3 o ep):M8 P w K tg (Itd p o kvs) [it] it (λi h=>h.IsKeyIter it p i kvs.length ep) where
 mem:=by simp
 obj:=λi h st b hb=>by
  have e:b=it:=by simpa using hb
  subst e
  obtain⟨o,e,c,d⟩:=st
  exact⟨o,e,λv z=>by rw[d] at z;cases z⟩
 keep:=λi h h' st k=>st.at λo e=>k it (by simp) o e
 item:=by
  intro X hP hw hK hc i ξ s σ H E I hf st hg
  subst hP hw hK
  obtain⟨hH,hi⟩:=hg
  obtain⟨vs,rel,hd,hm⟩:=I.kdict hH he
  obtain⟨f0,f1,f2,f3,f4,f5⟩:=hf it (by simp)
  obtain⟨⟨k,v⟩,hx⟩:∃q,kvs[i]?=some q:=⟨kvs[i],by simp[hi]⟩
  obtain⟨u,hu,_⟩:=ak9 rel hx
  have hl:=rel.length
  rw[hl] at st
  refine ke st hd hu λkey h' hk st' sb=>?_
  have I1:=I.turned (sb.extBut) f0 f1 f3 f4 f5
  obtain⟨o1,e,c,d⟩:=id st'
  exact⟨key,rfl,Lf e c d (by decide) ⟨kV k,H,I1,ba9 hk,⟨rfl,k,v,hx,rfl⟩,by rw[hl];exact st',λb hb=>(hf b hb).1⟩⟩
 done:=by
  intro X hP hw hK hc i ξ s σ H E I hf st hg
  subst hP hw hK
  obtain⟨hH,hi⟩:=hg
  obtain⟨vs,rel,hd,hm⟩:=I.kdict hH he
  obtain⟨f0,f1,f2,f3,f4,f5⟩:=hf it (by simp)
  have hl:=rel.length
  rw[hl] at st
  exact wpAny_pyNext_dict_end (I.ok.hd hc) st hd (by simp;omega) λh' eb=>⟨rfl,I.turned (eb) f0 f1 f3 f4 f5⟩
 self:=λ_ _ _ _ _ st h=>lE st h
def az9{X:Cx}{tg:Expr}{ξ:List (Addr×Obj)}{σ:St}{H:Hp}{s:am}{R:It->Hp->Prop}{E:Value->am->Prop}{p:Addr}{o:Obj}{kvs:List (Key×V)}(I:Inv X ξ σ H s)(h:H p=some (.frz o (.dK kvs)))(q:R (Itd p o kvs) H):aS (model X.prog X.w) X.A (mY (.ref p)) (PIE X ξ σ tg R) E s:=by
 have he:∃ep,Y3 o ep:=by
  obtain⟨e1,z,y,vs,r,ob,es,ep,e,c,d,_⟩:=I.hok p _ h
  rw[e1] at e;cases e
  exact⟨ep,es,d⟩
 obtain⟨ep,he⟩:=he
 obtain⟨vs,rel,hd,hm⟩:=I.kdict h he
 refine gv hm hd ?_
 refine⟨s.heap.objs.size,[s.heap.objs.size],_,_,H,rfl,I.kept λb o e=>ah _ e,ac7 p _ o kvs he,⟨_,aD _ rfl,rfl,by rw[rel.length];rfl⟩,λb hb=>?_,q⟩
 have e:b=s.heap.objs.size:=by simpa using hb
 subst e
 exact I.fpOk (ag _) (I.hok.fresh (ag _))
section
variable {prog:aO}{w:bw}{A:bq}{E:Value->am->Prop}{s:am}{d it:Addr}{ob:Obj}{es:Array mL}{ep i:Nat}
def a02{Q:Value->am->Prop}(nm:(d==cY)=false)(g:s.heap.get? d=some ob)(c:ob.ExactDict)(e:ob.data=.dict es ep)(q:Q (.ref s.heap.objs.size) {s with heap:=s.heap.push {cls:=.type "dict_keyiterator", data:=.fields #[.ref d,.int 0 0,.int es.size 0,.int ep 0]}}):aS (model prog w) A (mY (.ref d)) Q E s:=by
 have T:s.TypeIs (.ref d) "dict" := ⟨ob,g,c.1⟩
 refine wpAny_pyIter_slot T F.slot_dict_iter (dY F.slot_dict_iter T F.entry_dict_iter ?_ (F.args_dict_iter_1 _))
 refine af ?_
 refine af (wpAny_notOrdered_dict T (aq ?_))
 show aS _ _ (kh d >>= _) _ _ s
 unfold kh
 rw[if_neg (by rw[nm];exact aA)]
 refine af (aq (af (im g e (af (i5 g e ?_)))))
 refine af (dH (aq ⟨_,rfl,"dict_keyiterator", _,⟨_,aD _ rfl,rfl⟩,F.slot_dict_keyiterator_next.lookup,?_⟩))
 simpa [eZ] using q
def a01{Q:Option Value->am->Prop}(t:s.heap.IsKeyIter it d i es.size ep)(g:s.heap.get? d=some ob)(e:ob.data=.dict es ep)(hi:i<es.size)(q:∀h',h'.IsKeyIter it d (i+1) es.size ep->bO it s.heap h'->Q (some es[i].key) {s with heap:=h'}):aS (model prog w) A (mZ (.ref it)) Q E s:=by
 obtain⟨o,ho,hc,hd⟩:=id t
 refine af (gu (fJ t.typeIs bW (dY bW t.typeIs fK ?_ (fg _))))
 refine af (aq (af (af ?_)))
 first|refine af (b_ t.typeIs (aq ?_))|refine af (cJ t.typeIs (aq ?_))
 refine af (jp ho hd ?_)
 show aS _ _ (if(ba d==bP)=true then _ else _) _ _ s
 rw[if_neg (show ¬ ((ba d==bP)=true) from aA)]
 refine af (aq (af (im g e ?_)))
 rw[if_neg (by simp)]
 refine af (aq (af (i5 g e ?_)))
 rw[if_neg (by simp)]
 refine aq ?_
 simp only[show ¬ (i<0) from by omega,if_false,aQ,eE hi]
 refine af ?_
 first|refine af (b_ t.typeIs (aq ?_))|refine af (cJ t.typeIs (aq ?_))
 refine af (kQ t.typeIs ?_)
 show aS _ _ (mJ (.ref it) 1 (eZ (i+1)) >>= _) _ _ s
 refine af (gE ho hd (by simp) ?_)
 have t':(s.heap.update it (fE (·.setIfInBounds 1 (eZ (i+1))))).IsKeyIter it d (i+1) es.size ep:=
  ⟨_,d6 _ ho (iB (lY hd _)),(Obj.cls_mapFields ..).trans hc,by rw[lY hd];simp[eZ]⟩
 refine af (bC (af (kQ (s:={s with heap:=s.heap.update it (fE (·.setIfInBounds 1 (eZ (i+1))))}) t'.typeIs ?_)))
 show aS _ _ (pure es[i].key) _ _ _
 exact aq (aq ⟨_,rfl,aq (q _ t' (bU ..))⟩)
def bg3{Q:Option Value->am->Prop}(hh:A.handled=none)(t:s.heap.IsKeyIter it d i es.size ep)(g:s.heap.get? d=some ob)(e:ob.data=.dict es ep)(hi:es.size<=i)(q:∀h',mM it s.heap h'->Q none {s with heap:=h'}):aS (model prog w) A (mZ (.ref it)) Q E s:=by
 obtain⟨o,ho,hc,hd⟩:=id t
 refine af (gu (fJ t.typeIs bW (dY bW t.typeIs fK ?_ (fg _))))
 refine af (aq (af (af ?_)))
 first|refine af (b_ t.typeIs (aq ?_))|refine af (cJ t.typeIs (aq ?_))
 refine af (jp ho hd ?_)
 show aS _ _ (if(ba d==bP)=true then _ else _) _ _ s
 rw[if_neg (show ¬ ((ba d==bP)=true) from aA)]
 refine af (aq (af (im g e ?_)))
 rw[if_neg (by simp)]
 refine af (aq (af (i5 g e ?_)))
 rw[if_neg (by simp)]
 refine aq ?_
 simp only[by omega,if_false,aQ,j8 hi]
 refine af ?_
 first|refine af (b_ t.typeIs (aq ?_))|refine af (cJ t.typeIs (aq ?_))
 show aS _ _ (mJ (.ref it) 0 .none >>= _) _ _ s
 refine af (gE ho hd (by simp) ?_)
 show aS _ _ (newExc (.type "StopIteration") [] >>= _) _ _ _
 refine af ?_
 simp only[newExc,newTuple]
 refine af (dH ?_ (by size_fits))
 refine af (m:=lK _ _) (nh (a:=bP) (by first|rfl|(simp only[lK];rfl)) ?_)
 refine dH ?_ (by size_fits)
 simp only[raiseNew]
 refine af (wpAny_handled ?_)
 rw[show A.in1.handled=none from hh]
 refine af (aq (nj ?_))
 refine af (j5 (T := "StopIteration") (b:=true) ⟨_,aD _ rfl,rfl⟩ isSubtype_stop ?_)
 exact aq (q _ (((bU ..).extBut.push _).push _))
end
section
variable {X:Cx}{ξ:List (Addr×Obj)}{σ:St}{H:Hp}{s:am}{p:Addr}{kvs:List (TK×V)}{o:Obj}
def Inv.frozeT(I:Inv X ξ σ H s)(h:H p=some (.dT kvs)):∃ob,Inv X ξ σ (upd H p (.frz ob (.dT kvs))) s:=by
 have K:=I.hok p _ h
 obtain⟨z,y,vs,r,ob,es,ep,e,c,d,q⟩:=id K
 exact⟨ob,I.write (by rw[h];trivial) (.inl rfl) (λb u _ q=>q) ⟨ob,e⟩ ⟨e,K.stay (λ_ _ _ q=>q) (λc q=>by rw[Ad λz=>by rw[z,h] at q;cases q];exact q) λc xs q=>by rw[Ad λz=>by rw[z,h] at q;cases q];exact q⟩⟩
def Inv.tdict(I:Inv X ξ σ H s)(h:H p=some (.frz o (.dT kvs))):∃es ep,s.heap.get? p=some o/\o.ExactDict/\o.data=.dict es ep/\(p==cY)=false/\es.size=kvs.length/\∀(i:Nat)(hi:i<es.size),∃k v b,kvs[i]?=some (k,v)/\es[i].key=.ref b/\Ax k<=8/\TkAt H k (.ref b):=by
 obtain⟨e1,z,y,xs,r,ob,es,ep,e,c,d,q,_⟩:=I.hok p _ h
 rw[e1] at e
 cases e
 have hl:es.size=kvs.length:=by
  have:=congrArg cy q
  rw[ae] at this
  rw[r.length,<- this,bT]
 refine⟨es,ep,e1,c,d,y,hl,λi hi=>?_⟩
 have all:∀{l:List (TK×V)}{m:List (TK×Addr×Value)}{j:Nat}{x:TK×Addr×Value},iN (λp q=>p.1=q.1/\(Ax p.1<=8/\TkAt H p.1 (.ref q.2.1))/\RelV p.2 q.2.2) l m->m[j]?=some x -> ∃k v,l[j]?=some (k,v)/\Ax k<=8/\TkAt H k (.ref x.2.1):=by
  intro l m j x q
  induction q generalizing j with
  |nil=>intro e;simp at e
  |@cons a b _ _ hq t ih=>
   intro e
   cases j with
   |zero=>cases e;exact⟨a.1,a.2,rfl,hq.2.1⟩
   |succ j=>exact ih (e)
 have hx:i<xs.length:=by
  have:=congrArg cy q
  rw[ae,bT] at this
  omega
 obtain⟨k,v,e2,e3⟩:=all r (aj hx)
 refine⟨k,v,(xs[i]).2.1,e2,?_,e3⟩
 have:es.toList[i]?=some (entryOfKey (Db X.prog X.w) xs[i]):=by rw[q,al,aj hx];rfl
 rw[ck,eE hi] at this
 rw[aG this]
 rfl
end
def ay8(p:Addr)(o:Obj)(kvs:List (TK×V)):It:=
 ⟨λi H=>H p=some (.frz o (.dT kvs))/\i<kvs.length,λi H x H'=>H'=H/\∃k v,kvs[i]?=some (k,v)/\Ax k<=8/\TkAt H k x/\∃b,x=.ref b,λi H=>H p=some (.frz o (.dT kvs))/\kvs.length<=i⟩
def a90{P:aO}{w:bw}{K:ac}{tg:Expr}(p it:Addr)(o:Obj)(kvs:List (TK×V)){es:Array mL}{ep:Nat}(he:o.data=.dict es ep):M8 P w K tg (ay8 p o kvs) [it] it (λi h=>h.IsKeyIter it p i es.size ep) where
 mem:=by simp
 obj:=λi h st b hb=>by
  have e:b=it:=by simpa using hb
  subst e
  obtain⟨o,e,c,d⟩:=st
  exact⟨o,e,λv z=>by rw[d] at z;cases z⟩
 keep:=λi h h' st k=>st.at λo e=>k it (by simp) o e
 item:=by
  intro X hP hw hK hc i ξ s σ H E I hf st hg
  subst hP hw hK
  obtain⟨hH,hi⟩:=hg
  obtain⟨es',ep',g,c,d,_,hl,hk⟩:=I.tdict hH
  rw[he] at d
  cases d
  obtain⟨f0,f1,f2,f3,f4,f5⟩:=hf it (by simp)
  have hi':i<es.size:=by omega
  obtain⟨k,v,b,e1,e2,e3,e4⟩:=hk i hi'
  refine a01 st g he hi' λh' st' sb=>?_
  have I1:=I.turned (sb.extBut) f0 f1 f3 f4 f5
  obtain⟨o1,e,c,d⟩:=id st'
  exact⟨_,rfl,Lf e c d (by decide) ⟨.ref b,H,I1,e2,⟨rfl,k,v,e1,e3,e4,b,rfl⟩,st',λb hb=>(hf b hb).1⟩⟩
 done:=by
  intro X hP hw hK hc i ξ s σ H E I hf st hg
  subst hP hw hK
  obtain⟨hH,hi⟩:=hg
  obtain⟨es',ep',g,c,d,_,hl,hk⟩:=I.tdict hH
  rw[he] at d
  cases d
  obtain⟨f0,f1,f2,f3,f4,f5⟩:=hf it (by simp)
  exact bg3 (I.ok.hd hc) st g he (by omega) λh' eb=>⟨rfl,I.turned (eb) f0 f1 f3 f4 f5⟩
 self:=λ_ _ _ _ _ st h=>lE st h
def bv9{X:Cx}{tg:Expr}{ξ:List (Addr×Obj)}{σ:St}{H:Hp}{s:am}{R:It->Hp->Prop}{E:Value->am->Prop}{p:Addr}{kvs:List (TK×V)}(I:Inv X ξ σ H s)(h:H p=some (.dT kvs))(q:∀o,R (ay8 p o kvs) (upd H p (.frz o (.dT kvs)))):aS (model X.prog X.w) X.A (mY (.ref p)) (PIE X ξ σ tg R) E s:=by
 obtain⟨o,I1⟩:=I.frozeT h
 obtain⟨es,ep,g,c,d,nm,hl,_⟩:=I1.tdict Ac
 refine a02 nm g c d ?_
 refine⟨s.heap.objs.size,[s.heap.objs.size],_,_,_,rfl,I1.kept λb o e=>ah _ e,a90 p _ o kvs d,⟨_,aD _ rfl,rfl,rfl⟩,λb hb=>?_,q o⟩
 have e:b=s.heap.objs.size:=by simpa using hb
 subst e
 exact I1.fpOk (ag _) (I1.hok.fresh (ag _))
end L2
namespace PySem
def Sem.wp_never{α:Type}(M:nS)(Γ:Ctx):∀(t:Sem α) p s,Sem.wp M Γ t (λ_ _ _=>False) (λ_ _ _=>False) p s->False:=by
 intro t
 induction t with
 |pure a=>intro p s h;exact h
 |raise e=>intro p s h;exact h
 |unsupported w=>intro p s h;exact h
 |finish e=>intro p s h;exact h
 |rule tag k ih=>intro p s h;exact ih () p s h
 |«at» q k ih=>intro p s h;exact ih () q s h
 |load a part k ih=>intro p s h;obtain⟨o,_,h⟩:=h;exact ih o p s h
 |update a part f k ih=>intro p s h;exact ih () p _ h.2
 |alloc o k ih=>intro p s h;exact ih _ p _ h
 |loadIfAlive a k ih=>intro p s h;exact ih _ p s h
 |point l k ih=>intro p s h;exact ih () p s h
 |register a k ih=>intro p s h;exact h
 |fresh k ih=>intro p s h;exact ih _ p _ h
 |ask k ih=>intro p s h;exact ih _ p s h
 |choose src n k ih=>intro p s h;exact ih _ p _ h.2
 |os q l k ih=>intro p s h;exact ih _ p _ h
 |call c hd g l k ih=>intro p s h;obtain⟨r,s',_,h⟩:=h;exact ih r p s' h
 |handled own k ih=>intro p s h;exact ih _ p s h
 |newGen c k ih=>intro p s h;exact ih _ p _ h
 |genState g k ih=>intro p s h;obtain⟨st,_,h⟩:=h;exact ih _ p s h
 |resume g r l k ih=>intro p s h;obtain⟨res,s',_,h⟩:=h;exact ih res p s' h
 |yield v g l k ih=>intro p s h;exact h
 |stack k ih=>intro p s h;exact ih _ p s h
 |fork c k ih=>intro p s h;exact h
 |thread k ih=>intro p s h;first|exact ih _ p s h|exact h
 |await a tk d l k ih=>intro p s h;first|exact h|exact ih _ p s h
section
variable {prog:aO}{w:bw}{A:bq}{E:Value->am->Prop}{s:am}
def aa0{v:Value}{P:Value->am->Prop}(h:aS (model prog w) A (mZ v) (λr s'=>∃u,r=some u/\P u s') (λ_ _=>False) s):aS (model prog w) A (cZ v) P E s:=by
 intro Γ p hΓ
 have h:=h Γ p hΓ
 unfold mZ Sem.attempt at h
 unfold cZ
 rw[mF,Sem.wp_tryCatch,Sem.wp_bind] at h
 rw[mF]
 refine Sem.wp_mono _ _ _ (λo p' s' q=>?_) (λe p' s' q=>?_) p s h
 .cases o with
  |none=>exact(q).elim
  |some u=>
   obtain⟨u',e,q⟩:=q
   cases e
   exact q
 .refine (Sem.wp_never (model prog w) Γ (isInstance e (.type "StopIteration")) p' s' ?_).elim
  have q:Sem.wp (model prog w) Γ (isInstance e (.type "StopIteration") >>= λb=>if b=true then pure none else throw e) (λr _ s'=>∃u,r=some u/\P u s') (λ_ _ _=>False) p' s':=q
  rw[mF] at q
  refine Sem.wp_mono _ _ _ (λb p2 s2 q=>?_) (λ_ _ _ z=>z) p' s' q
  cases b with
  |true=>obtain⟨u,z,_⟩:=q;cases z
  |false=>exact q
variable {κ:Type} [DecidableEq κ] {knd:KeyKind prog w κ}{d it:Addr}{ep i:Nat}{kvs:List (κ×Value)}
def E9{Q:Value->am->Prop}(hh:A.handled=none)(hit:s.heap.IsKeyIter it d i kvs.length ep)(hm:s.heap.DictAt knd d kvs ep)(hx:kvs[i]?=none)(hE:∀h' x,mM it s.heap h'->(∃o,h'.get? x=some o/\o.cls=.type "StopIteration")->E (.ref x) {s with heap:=h'}):aS (model prog w) A (cZ (.ref it)) Q E s:=by
 have ⟨oi,ei,ci,di⟩:=hit
 have ⟨od,es,ed,_,dd,_,pr,_⟩:=hm
 have size:es.size=kvs.length:=pr.length▸(by simp)
 have past:es.size<=i:=by rw[size];simpa using hx
 have own:Builtin.Dict_items.ownsTuple "dict_keyiterator"=false:=by decide
 have nx:¬ (i<0):=by omega
 have noNone:¬ ((ba d==bP)=true):=aA
 refine af (fJ hit.typeIs bW (dY bW hit.typeIs fK ?_ (fg _)))
 refine af (aq (af (af ?_)))
 first|refine af (b_ hit.typeIs (aq (af (jp ei di ?_))))|refine af (cJ hit.typeIs (aq (af (jp ei di ?_))))
 show aS _ _ (if(ba d==bP)=true then _ else _) _ _ s
 rw[if_neg noNone]
 refine af (aq (af (im ed dd ?_)))
 rw[if_neg (show ¬ _ by rw[size];simp)]
 refine af (aq (af (i5 ed dd ?_)))
 rw[if_neg (show ¬ _ by simp)]
 refine aq ?_
 simp only[nx,if_false,aQ,j8 past]
 refine af ?_
 first|refine af (b_ hit.typeIs (aq ?_))|refine af (cJ hit.typeIs (aq ?_))
 show aS _ _ (mJ (.ref it) 0 .none >>= λ_=>newExc (.type "StopIteration") [] >>= _) _ _ s
 refine af (gE ei di (by simp) (af ?_))
 refine af (dH (af (nh (by first|rfl|(simp only[lK];rfl)) (dH ?_ (by size_fits)))) (by size_fits))
 refine af (wpAny_handled ?_)
 rw[hh]
 exact af (aq (nj (hE _ _ (((bU ..).extBut.push _).push _) ⟨_,aD _ rfl,rfl⟩)))
def Jf{k:κ}{v:Value}{Q:Value->am->Prop}(hit:s.heap.IsKeyIter it d i kvs.length ep)(hm:s.heap.DictAt knd d kvs ep)(hx:kvs[i]?=some (k,v))(hQ:∀key h',knd.is k key=true->h'.IsKeyIter it d (i+1) kvs.length ep->bO it s.heap h'->Q key {s with heap:=h'}):aS (model prog w) A (cZ (.ref it)) Q E s:=
 aa0 (ke hit hm hx λkey h' a b c=>⟨key,rfl,hQ key h' a b c⟩)
def bg0(hh:A.handled=none)(ne:d≠it):Draws prog w A it [it,d] kvs.length (λi v=>∃k x,kvs[i]?=some (k,x)/\knd.is k v=true) (λi h=>h.IsKeyIter it d i kvs.length ep/\h.DictAt knd d kvs ep) where
 live:=λ_ _ h=>let⟨o,e,_⟩:=h.1;⟨o,e⟩
 frame:=λ_ _ _ h k=>⟨h.1.at λo q=>k it (by simp) o q,h.2.at' λo q=>k d (by simp) o q⟩
 item:=λi s Q E hi h hQ=>Jf h.1 h.2 (aj hi) λkey h' a b c=>hQ key h' s.toks ⟨_,_,aj hi,a⟩ ⟨b,h.2.at' λo q=>c.extBut d o ne q⟩ c
 done:=λs Q E h hE=>E9 hh h.1 h.2 (c_ (ag _)) hE
def Jn{e:Addr}{old:Value}{Q:Option Value->am->Prop}(hh:A.handled=none)(he:IsEnum s.heap e it i old)(hit:s.heap.IsKeyIter it d i kvs.length ep)(hm:s.heap.DictAt knd d kvs ep)(hx:kvs[i]?=none)(hQ:∀h',mM it s.heap h'->Q none {s with heap:=h'}):aS (model prog w) A (mZ (.ref e)) Q E s:=by
 have ty:s.TypeIs (.ref e) "enumerate" := ⟨_,he,rfl⟩
 refine af (gu (fJ ty kj (dY kj ty F.entry_enumerate_next ?_ (F.args_enumerate_next_1 _))))
 show aS _ _ (field (.ref e) 2 >>= λz=>cZ z >>= _) _ _ _
 exact af (gN he rfl (x:=.ref it) rfl (af (E9 hh hit hm hx λh' x hk ⟨o,ho,hc⟩=>(af (j5 (T := "StopIteration") (b:=true) ⟨o,ho,hc⟩ isSubtype_stop (aq (hQ _ hk)))))))
def Uq{Q:Value->am->Prop}(hd:(d==cY)=false)(hm:s.heap.DictAt knd d kvs ep)(h:∀h',IsEnum h' (s.heap.objs.size+1) s.heap.objs.size 0 .none->h'.IsKeyIter s.heap.objs.size d 0 kvs.length ep->(∀b o,s.heap.get? b=some o->h'.get? b=some o)->Q (.ref (s.heap.objs.size+1)) {s with heap:=h'}) :
  aS (model prog w) A (call (.type "enumerate") [.ref d]) Q E s:=by
 have g:MeetsIn prog w (a9.«enumerate.__new__» ⟨[.type "enumerate", .ref d],[]⟩) (λ_ R s=>s.heap.DictAt knd d kvs ep /\
   R (.ok (.ret (.ref (s.heap.objs.size+1)))) {s with heap:=(s.heap.push {cls:=.type "dict_keyiterator", data:=.fields #[.ref d,.int 0 0,.int kvs.length 0,.int ep 0]}).push {cls:=.type "enumerate", data:=.fields #[.none,.bool false,.ref s.heap.objs.size,eZ 0,.none,.none]}}):=by
  refine .of_wp λA R s h=>?_
  obtain⟨hp,g,d',tk,os⟩:=s
  obtain⟨hm,h⟩:=h
  have hsub:=sub_enumerate
  obtain⟨o,es,ho,hcl,hdat,q⟩:=id hm
  have hz:(hp.push {cls:=.type "dict_keyiterator", data:=.fields #[.ref d,.int 0 0,.int kvs.length 0,.int ep 0]}).objs.size=hp.objs.size+1:=c8 ..
  wp_walk using gv hd hm
  refine wpAny_stack_any λst=>aq ?_
  have h2:R (.ok (.ret (.ref (hp.push {cls:=.type "dict_keyiterator", data:=.fields #[.ref d,.int 0 0,.int kvs.length 0,.int ep 0]}).objs.size))) ⟨(hp.push {cls:=.type "dict_keyiterator", data:=.fields #[.ref d,.int 0 0,.int kvs.length 0,.int ep 0]}).push {cls:=.type "enumerate", data:=.fields #[.none,.bool false,.ref hp.objs.size,eZ 0,.none,.none]},g,d',tk,os⟩:=by rw[hz];exact h
  split
  .rename_i c _ _ _ _ _
   cases(c==jF "enumerate")
   .wp_walk using gv hd hm
    exact⟨_,rfl,h2⟩
   .wp_walk using gv hd hm
    exact⟨_,rfl,h2⟩
  .wp_walk using gv hd hm
   exact⟨_,rfl,h2⟩
 refine callType_newIn F.called_enumerate (by decide) (F.typeCall_enumerate_1 _) (F.newCall_enumerate_1 _) (λobj=>F.args_object_init_2 obj _) F.entry_enumerate_new g ⟨hm,?_⟩
 have hz:(s.heap.push {cls:=.type "dict_keyiterator", data:=.fields #[.ref d,.int 0 0,.int kvs.length 0,.int ep 0]}).objs.size=s.heap.objs.size+1:=c8 ..
 have he:IsEnum ((s.heap.push {cls:=.type "dict_keyiterator", data:=.fields #[.ref d,.int 0 0,.int kvs.length 0,.int ep 0]}).push {cls:=.type "enumerate", data:=.fields #[.none,.bool false,.ref s.heap.objs.size,eZ 0,.none,.none]}) (s.heap.objs.size+1) s.heap.objs.size 0 .none:=hz▸aD _ rfl
 exact⟨⟨_,he,rfl⟩,h _ he ⟨_,ah _ (aD _ rfl),rfl,rfl⟩ λb o x=>ah _ (ah _ x)⟩
end
end PySem
namespace L2
open PySem PySem.Spec PyProof.Rows
def ay7(p:Addr)(o:Obj)(kvs:List (Key×V)):It:=
  ⟨λi H=>H p=some (.frz o (.dK kvs))/\i<kvs.length,
   λi H x H'=>∃T k v,H T=none/\x=.ref T/\kvs[i]?=some (k,v)/\H'=upd H T (.tup [.int i,kV k]),
   λi H=>H p=some (.frz o (.dK kvs))/\kvs.length<=i⟩
def W0{P:aO}{w:bw}{K:ac}{elts:List Expr}{kt:Nat}{pt:Pos}{e it p:Addr}{o:Obj}{kvs:List (Key×V)}{ep:Nat}(ne:e≠it)(he:Y3 o ep) :
  M8 P w K (.Tuple elts kt pt) (ay7 p o kvs) [e,it] e (λi h=>(∃old,IsEnum h e it (i:Int) old)/\h.IsKeyIter it p i kvs.length ep) where
 mem:=by simp
 obj:=λi h st b hb=>by
  obtain⟨⟨old,he⟩,⟨o1,e1,c1,d1⟩⟩:=st
  rcases List.mem_cons.mp hb with rfl|hb
  .exact⟨_,he,λv q=>nomatch q⟩
  .rw[List.mem_singleton.mp hb];exact⟨o1,e1,λv q=>by rw[d1] at q;cases q⟩
 keep:=λi h h' st k=>let⟨⟨old,he⟩,h1⟩:=st;⟨⟨old,k e (by simp) _ he⟩,h1.at λo q=>k it (by simp) o q⟩
 item:=by
  intro X hP hw hK hc i ξ s σ H E I hf st hg
  subst hP hw hK
  obtain⟨hH,hi⟩:=hg
  obtain⟨vs,rel,hd,hm⟩:=I.kdict hH he
  obtain⟨⟨k,v⟩,hx⟩:∃q,kvs[i]?=some q:=⟨kvs[i],by simp[hi]⟩
  obtain⟨u,hu,_⟩:=ak9 rel hx
  have hl:=rel.length
  obtain⟨⟨old,en⟩,h1⟩:=st
  rw[hl] at h1
  have np:=Ai hH (hf e (by simp)).1
  have ni:=Ai hH (hf it (by simp)).1
  refine bF (ag _) (wpAny_pyNext_enum_itemD (bg0 (by simp[I.ok.hd hc]) ni) en ⟨h1,hd⟩ (by omega) ne (by simp[ne,np.symm]) λkey h' tk ⟨k',x',hx',hk⟩ a1 ⟨a2,_⟩ a3 _ hk' htk=>?_)
  rw[hu] at hx'
  cases hx'
  refine⟨_,rfl,ja a1 λh'' hz' hs'=>?_⟩
  have hT:=I.hok.fresh (ag s.heap.objs.size)
  have nT:∀{b ob},s.heap.get? b=some ob->b≠s.heap.objs.size:=λq=>aR (aH q)
  have up:∀b ob,b∉[e,it]->s.heap.get? b=some ob->h''.get? b=some ob:=λb ob hb q=>by
   have b1:b≠e:=by rintro rfl;exact hb (by simp)
   have b2:b≠it:=by rintro rfl;exact hb (by simp)
   exact hs'.extBut b ob b1 (hk' b ob b1 b2 q)
  have Tnew:=hs'.extBut _ _ (bY (nT en)) a3
  have I1:Inv X ξ σ (upd H s.heap.objs.size (.tup [.int i,kV k])) {s with heap:=h'',toks:=tk+1}:=
   I.turnedN (hf) up (ag _) ⟨by show 2<=sizeLine;decide,[.int i tk,key],.cons ⟨_,rfl⟩ (.cons (ba9 hk) .nil),⟨_,Tnew,rfl,_,rfl⟩⟩
  refine⟨.ref s.heap.objs.size,_,I1,rfl,⟨s.heap.objs.size,k,v,hT,rfl,hx,rfl⟩,⟨⟨_,hz'⟩,by rw[hl];exact a2.at λo q=>hs'.extBut _ o (bY ne) q⟩,λb hb=>?_⟩
  have q:=(hf b hb).1
  rw[Ad ?_]
  .exact q
  .rcases List.mem_cons.mp hb with rfl|hb
   .exact nT en
   .rw[List.mem_singleton.mp hb];obtain⟨_,q,_⟩:=h1;exact nT q
 done:=by
  intro X hP hw hK hc i ξ s σ H E I hf st hg
  subst hP hw hK
  obtain⟨hH,hi⟩:=hg
  obtain⟨vs,rel,hd,hm⟩:=I.kdict hH he
  have hl:=rel.length
  obtain⟨⟨old,en⟩,h1⟩:=st
  rw[hl] at h1
  refine Jn (I.ok.hd hc) en h1 hd (by simp;omega) λh' hk=>⟨rfl,?_⟩
  refine I.turnedL (hf) λb o hb q=>hk b o (by rintro rfl;exact hb (by simp)) q
 self:=λA i s Q E st h=>let⟨_,he⟩:=st.1;io he h
def ai6{X:Cx}{elts:List Expr}{kt:Nat}{pt:Pos}{ξ:List (Addr×Obj)}{σ:St}{H:Hp}{s:am}{R:It->Hp->Prop}{E:Value->am->Prop}{p:Addr}{o:Obj}{kvs:List (Key×V)}(I:Inv X ξ σ H s)(h:H p=some (.frz o (.dK kvs)))(q:R (ay7 p o kvs) H):aS (model X.prog X.w) X.A (call (.type "enumerate") [.ref p]) (λv s1=>aS (model X.prog X.w) X.A (mY v) (PIE X ξ σ (.Tuple elts kt pt) R) E s1) E s:=by
 have he:∃ep,Y3 o ep:=by
  obtain⟨e1,z,y,vs,r,ob,es,ep,e,c,d,_⟩:=I.hok p _ h
  rw[e1] at e;cases e
  exact⟨ep,es,d⟩
 obtain⟨ep,he⟩:=he
 obtain⟨vs,rel,hd,hm⟩:=I.kdict h he
 refine Uq hm hd λh' en hit hk=>io en ?_
 refine⟨_,_,_,_,H,rfl,I.kept hk,W0 (Nat.succ_ne_self _) he,⟨⟨_,en⟩,by rw[rel.length];exact hit⟩,λb hb=>?_,q⟩
 have hb:b=s.heap.objs.size+1\/b=s.heap.objs.size:=by simpa using hb
 have le:=hb.elim (λe=>e▸bv _ 1) λe=>e▸ag _
 exact I.fpOk le (I.hok.fresh le)
end L2
namespace PySem
open PyProof.Rows
section
variable {κ:Type} [DecidableEq κ]
def Fd(xs:List κ):List κ:=xs.foldl (λσ k=>if σ.any (λj=>decide (j=k)) then σ else σ++[k]) []
def Ov(xs:List κ)(k:κ):Fd (xs++[k])=if(Fd xs).any (λj=>decide (j=k)) then Fd xs else Fd xs++[k]:=by
 unfold Fd
 rw[gh]
 rfl
def al7(xs:List κ)(k j:κ):(Fd (xs++[k])).any (λi=>decide (i=j))=((Fd xs).any (λi=>decide (i=j))||decide (j=k)):=by
 rw[Ov]
 by_cases h:(Fd xs).any (λi=>decide (i=k))=true
 .rw[if_pos h]
  by_cases e:j=k
  .subst e;rw[h];rfl
  .simp[e]
 .rw[if_neg h,List.any_append]
  congr 1
  simp[eq_comm]
def Tc(xs:List κ):(Fd xs).length<=xs.length:=by
 have:∀(ys acc:List κ),(ys.foldl (λσ k=>if σ.any (λj=>decide (j=k)) then σ else σ++[k]) acc).length<=acc.length+ys.length:=by
  intro ys
  induction ys with
  |nil=>intro acc;exact ag _
  |cons y ys ih=>
   intro acc
   refine aT (ih _) ?_
   rw[aI]
   dsimp only
   split
   .omega
   .rw[aB,bS];omega
 exact aT (this xs []) (by simp)
end
section
variable {prog:aO}{w:bw}{A:bq}{R:mR->am->Prop}{I:Addr}{fp wr:List Addr}{G:Array kZ->Array kZ->Prop}{P:Nat->Value->Prop}{St:Nat->am->Prop}{κ:Type} [DecidableEq κ] {knd:KeyKind prog w κ}{ks:List κ}
abbrev Gr(knd:KeyKind prog w κ)(h:Heap)(S:Addr)(ks:List κ):Prop:=h.SetOf knd S (λk=>(Fd ks).any (λj=>decide (j=k))) (Fd ks).length
def Ol{h h':Heap}{S:Addr}(x:Gr knd h S ks)(k:∀o,h.get? S=some o->h'.get? S=some o):Gr knd h' S ks:=
 let⟨o,es,ep,t,ho,r⟩:=x;⟨o,es,ep,t,k o ho,r⟩
def Tx(W:WalksS prog w A.in1 I fp wr G ks.length P St)(S:Addr)(out:S∉fp)(hv:∀i v,P i v -> ∃k,ks[i]?=some k/\knd.is k v=true/\v.scannable=true)(few:ks.length+1<scanBound)(left:Nat) :
  ∀i s,i+left=ks.length->St i s->Gr knd s.heap S (ks.take i)->(∀s',Moved (S::wr) G s s'->Gr knd s'.heap S ks->R (.ok (.ret .none)) s') ->
   gM (model prog w) A (.builtin "set.update.loop" ⟨[.ref S,.ref I],[]⟩) R s:=by
 have outw:S∉wr:=λz=>out (W.sub _ z)
 have into:∀b∈wr,b∈S::wr:=λb z=>.tail _ z
 induction left with
 |zero=>
  intro i s hi st fl hR
  have ei:=hi
  subst ei
  rw[aK] at fl
  refine g_ jM (iI gU _ ▸ ?_)
  exact af (W.done s _ _ st λs' mv=>aq (hR s' (mv.mono into) (Ol fl λo e=>mv.heap S o outw e)))
 |succ left ih=>
  intro i s hi st fl hR
  have lt:i<ks.length:=by omega
  refine g_ jM (iI gU _ ▸ ?_)
  refine af (W.item i s _ _ lt st λv s1 pv st1 mv=>?_)
  obtain⟨k,ek,ik,sk⟩:=hv i v pv
  have fl1:=Ol fl λo e=>mv.heap S o outw e
  have tk:ks.take (i+1)=ks.take i++[k]:=by rw[List.take_succ,ek];rfl
  refine af (bC ?_)
  refine bC (af (knd.pyHash ik ?_))
  have room:(Fd (ks.take i)).length+1<scanBound:=by
   have:=Tc (ks.take i)
   rw[aN] at this
   omega
  refine wpAny_setAddHashed_of ik sk fl1 room λh' sb fl2=>?_
  have fl3:Gr knd h' S (ks.take (i+1)):=by
   have eS:=funext λj=>(al7 (ks.take i) k j).symm
   have en:(if(Fd (ks.take i)).any (λm=>decide (m=k))=true then(Fd (ks.take i)).length else(Fd (ks.take i)).length+1)=(Fd (ks.take i++[k])).length:=by
    rw[Ov];split <;> simp
   rw[tk]
   show h'.SetOf knd S _ _
   rw[<- eS,<- en]
   exact fl2
  refine aq ⟨plainId_quiet gU _,ih (i+1) _ (by omega) (W.frame _ s1 _ _ st1 (cW _) λb hb o e=>?_) fl3 λs2 mv2 fl4=>?_⟩
  .exact (sb.2 b λz=>out (z▸hb)).trans e
  .exact hR s2 (Moved.trans W.gtrans ((mv.mono into).then_heap (cW _) λb o hb e=>(sb.2 b λz=>hb (z▸aP)).trans e) mv2) fl4
end
section
variable {prog:aO}{w:bw}{A:bq}{E:Value->am->Prop}{s:am}{κ:Type} [DecidableEq κ] {knd:KeyKind prog w κ}{ks:List κ}
abbrev C8(led:Bool):Obj:={cls:=.type "set", dict:=none,data:=.set #[] 0 (.fresh 0 0 led)}
def Ty{l:Addr}{ψ:Array Value}{Q:Value->am->Prop}(hh:A.handled=none)(hl:s.heap.IsList l ψ)(hv:∀(i:Nat)(v:Value),ψ[i]?=some v -> ∃k,ks[i]?=some k/\knd.is k v=true/\v.scannable=true)(hs:ψ.size=ks.length)(few:ks.length+1<scanBound)(h:∀(h':Heap)(tk:Nat),Gr knd h' s.heap.objs.size ks->(∀b o,b<s.heap.objs.size->s.heap.get? b=some o->h'.get? b=some o)->Q (.ref s.heap.objs.size) {s with heap:=h',toks:=tk}) :
  aS (model prog w) A (call (.type "set") [.ref l]) Q E s:=by
 obtain⟨c,tl,hmro⟩:=F.called_set.mro
 have m1:=F.called_set.made
 have m2:=F.called_set.sub
 have m3:=F.called_set.notType
 have m4:=F.called_set.canCreate
 have m5:=F.typeCall_set_1 (.ref l)
 refine dX (kK (aq ⟨dZ _ (by decide +kernel),g_ F.entry_type_call ?_⟩))
 rw[Around.under_plain (weight_type_call_type "set" [.ref l] []) rfl]
 repeat (any_goals (first|assumption|wp_step))
 refine d_ (code_set_new_1 (.ref l) (E:=E) (Q₁:=λobj s₁=>∃led:Bool,obj=.ref s.heap.objs.size/\s₁={s with heap:=s.heap.push (C8 led)}) λled=>⟨led,rfl,rfl⟩) λr s₁ hr=>?_
 cases r with
 |error e=>exact hr
 |ok fl=>
  cases fl with
  |ret obj=>
   obtain⟨led,rfl,rfl⟩:=hr
   have new:(s.heap.push (C8 led)).get? s.heap.objs.size=some (C8 led):=aD _ rfl
   have ty:Shared.TypeIs {s with heap:=s.heap.push (C8 led)} (.ref s.heap.objs.size) "set" := ⟨_,new,rfl⟩
   have m6:=F.called_set.init.lookup
   have m7:=F.called_set.init.bind (.ref s.heap.objs.size)
   repeat (any_goals (first|assumption|wp_step))
   refine d_ (eK (R:=wants (λr s₂=>r=.none/\∃h' tk,s₂={s with heap:=h',toks:=tk}/\Gr knd h' s.heap.objs.size ks/\(∀b o,b<s.heap.objs.size->s.heap.get? b=some o->h'.get? b=some o)) E) F.called_set.init.plain F.entry_set_init (check_set_init_1 ty ?_)) λr2 s2 hr2=>?_
   .obtain⟨⟨oc,odict,od,osl⟩,ol,hc,n,hd⟩:=hl
    subst hc;subst hd
    have lt:=aH ol
    have ol2:(s.heap.push (C8 led)).get? l=some {cls:=.type "list", dict:=odict,data:=.seq ψ n,slots:=osl}:=ah _ ol
    have m8:=F.sub_list_set
    have m9:=F.sub_list_frozenset
    have m10:(jF "list" == jF "dict")=false:=by decide
    have isl:(s.heap.push (C8 led)).IsList l ψ:=⟨_,ol2,rfl,n,rfl⟩
    have size:(s.heap.push (C8 led)).objs.size=s.heap.objs.size+1:=c8 ..
    unfold a9.«set.__init__» noKeywords Builtin.Frozenset.updateFrom
    generalize hPI:mY=PI
    wp_walk
    subst hPI
    refine jK isl (af (wpAny_runValue ?_))
    have quiet:A.in1.in1.in1.handled=none:=by simp[hh]
    have ne1:l≠(s.heap.push (C8 led)).objs.size:=size▸aR (eU lt)
    have out:s.heap.objs.size∉[(s.heap.push (C8 led)).objs.size,l]:=by
     simp only[size,az,cP,or_false,not_or]
     exact⟨aR (cF _),gQ lt⟩
    have W:=(Walks.list (prog:=prog) (w:=w) quiet (s.heap.push (C8 led)).objs.size l ne1 ψ).toS
    rw[hs] at W
    refine Tx (ks:=ks) W s.heap.objs.size out hv few ks.length 0 _ (dm _) ⟨⟨_,aD _ rfl,rfl,rfl⟩,isl.push _⟩ ?_ λs' mv fl=>?_
    .exact (setObjOf_fresh (knd:=knd) led).setOf (ah _ new) (by unfold scanBound;omega)
    .obtain⟨h',g',d',tk',os'⟩:=s'
     have e1:g'=s.gens:=mv.gens
     have e2:d'=s.drawn:=mv.drawn
     have e3:os'=s.os:=mv.os
     subst e1;subst e2;subst e3
     refine(show aS _ _ _ _ _ _ from aq (show aS _ _ (ret bP) _ _ _ from aq ⟨rfl,h',tk',rfl,fl,λb o hb e=>?_⟩))
     refine mv.heap b o ?_ (ah _ (ah _ e))
     simp only[size,az,cP,or_false,not_or]
     exact⟨aR hb,aR (eU hb)⟩
   .cases r2 with
    |error e=>exact hr2
    |ok f2=>
     cases f2 with
     |ret r=>
      obtain⟨rfl,h',tk,rfl,fl,kept⟩:=hr2
      repeat (any_goals (first|assumption|wp_step))
      exact h _ _ fl kept
     |_=>exact hr2.elim
  |_=>exact hr.elim
end
end PySem
namespace L2
open PySem PySem.Spec PyProof.Rows
section
variable {X:Cx}{e:Expr}{de:DE}{p p2 pos pos2:Pos}
def K0(K:ac):V->Hp->VK->Prop:=λx H Q=>match x with
 |.ref l=>∃ys,SqL K H l (ys.map V.str)/\ys.length<30/\Q (.int (Fd ys).length) H
 |_=>False
theorem Yz:∀{ys:List Str}{us:List Value}{i:Nat}{v:Value},Vals (ys.map V.str) us->us[i]?=some v -> ∃k t,ys[i]?=some k/\v=.str k t
 |[],_,i,v,r,e=>by rw[iz] at r;cases r;simp at e
 | y::ys,_,i,v,r,e=>by
  rw[aX] at r
  cases r with
  |cons r1 r2=>
   obtain⟨t,rfl⟩:=r1
   cases i with
   |zero=>simp only[fu,ig] at e;exact⟨y,t,rfl,e.symm⟩
   |succ i=>simp only[bI] at e ⊢;exact Yz r2 e
def a14{ξ:List (Addr×Obj)}{σ:St}{H:Hp}{s:am}{x:V}{u:Value}{Q:VK}(hc:X.calm=true)(I:Inv X ξ σ H s)(rx:RelV x u)(h:K0 X.K x H Q) :
  aS (model X.prog X.w) X.A (call (.type "set") [u]) (λv s1=>aS (model X.prog X.w) X.A (call (.builtin "len") [v]) (EP X ξ σ Q) X.xe s1) X.xe s:=by
 cases x with
 |ref l=>
  cases rx
  obtain⟨ys,hq,few,q⟩:=h
  obtain⟨χ,rv,pl,hz⟩:=I.list hq
  have hl:χ.length=ys.length:=by rw[<- rv.length,ae]
  refine bF (ag _) (Ty (knd:=PySem.strKind X.prog X.w) (I.ok.hd hc) pl.isList (λi v e=>?_) (hl) (by unfold scanBound;omega) λh' tk fl kept htk=>?_)
  .obtain⟨k,t,ek,rfl⟩:=Yz rv (by simpa using e)
   exact⟨k,ek,by show jV k (.str k t)=true;simp[jV],rfl⟩
  .have I1:=I.kept (t':=tk) λb o e=>kept b o (aH e) e
   obtain⟨o,es,ep,t,ho,hex,hd,hel,hmem,hb,hf,hn⟩:=fl
   refine call_len_set ho hex hd hf ?_ ?_
   .have:=Tc ys
    rw[hn];omega
   .rw[hn]
    exact⟨.int _,H,I1.tok _,⟨_,rfl⟩,q⟩
 |_=>exact(h).elim
end
section
variable {X:Cx}
def bb8(K:ac):R2:=λx y H Q=>∃a b ys,x=.ref a/\y=.ref b/\SqT K H a []/\SqT K H b ys/\Q (.ref b) H
def a30:OpR X (dQ .Add) (bb8 X.K):=by
 intro ξ s σ H x y v u Q I rx ry h
 obtain⟨a,b,ys,rfl,rfl,ha,hb,q⟩:=h
 cases rx
 cases ry
 obtain⟨χ,r1,p1,_⟩:=I.tuple ha
 obtain⟨its2,r2,p2,_⟩:=I.tuple hb
 cases r1
 obtain⟨⟨c1,d1,da1,s1⟩,ho,hc,n,hd⟩:=p1
 obtain⟨⟨c2,d2,da2,s2⟩,ho2,hc2,n2,hd2⟩:=p2
 subst hc hd hc2 hd2
 exact mG ⟨_,ho,rfl⟩ ⟨_,ho2,rfl⟩ j3 mf hZ g8 (gS _ _)
   (tuple_addW0 a b _ _ n n2 d1 d2 s1 s2 rfl) ⟨ho,ho2,⟨.ref b,H,I,rfl,q⟩⟩
def Ko(hu:X.A.units+64<cLine):IxR X (λx y H Q=>∃a v,x=.ref a/\DGet H a y (some v)/\Q v H):=by
 intro value slice ξ s σ H x y v u Q I rx ry h hs
 obtain⟨a,w',rfl,g,q⟩:=h
 cases rx
 exact tail_any (R7 I g) PySem.F.slot_dict_getitem.lookup (Zf (by omega) I g ry λw1 s' I' r'=>⟨w',H,I',r',q⟩) hs
end
section
variable {X:Cx}{ξ:List (Addr×Obj)}{σ:St}{H:Hp}{s:am}{Q:VK}
theorem Y1:∀{ys}{us:List Value},ys.length=us.length->(∀(i:Nat) y u,ys[i]?=some y->us[i]?=some u->RelV y u)->Vals ys us
 |[],[],_,_=>.nil
 |y::ys,u::us,hl,h=>.cons (h 0 y u rfl rfl) (Y1 (by simpa using hl) λi y u e1 e2=>h (i+1) y u (by rw[bI];exact e1) (by rw[bI];exact e2))
 |[],_::_,hl,_=>by simp at hl
 |_::_,[],hl,_=>by simp at hl
def Mb:V->Hp->VK->Prop:=λx H Q=>match x with
 |.int n=>n<=1000 /\ -(2^62)<=n/\∀D,H D=none->Q (.ref D) (upd H D (.lst ((aZ n.toNat).map λi:Nat=>V.int (i:Int))))
 |_=>False
def al1{n:Int}{t:Tok}(hc:X.calm=true)(I:Inv X ξ σ H s)(hn:n<=1000)(h0:-(2^62)<=n)(q:∀D,H D=none->Q (.ref D) (upd H D (.lst ((aZ n.toNat).map λi:Nat=>V.int (i:Int))))) :
  aS (model X.prog X.w) X.A (call (.type "range") [.int n t]) (λv s1=>aS (model X.prog X.w) X.A (call (.type "list") [v]) (EP X ξ σ Q) X.xe s1) X.xe s:=by
 refine call_range_1 ?_
 have zv:(s.heap.push {cls:=.type "range", data:=.fields #[.int 0 s.toks,.int n t,.int 1 (s.toks+1)]}).objs.size=s.heap.objs.size+1:=c8 ..
 have hr:IsRange (s.heap.push {cls:=.type "range", data:=.fields #[.int 0 s.toks,.int n t,.int 1 (s.toks+1)]}) s.heap.objs.size 0 n 1 s.toks t (s.toks+1):=IsRange.new ..
 have on1:∀b o,s.heap.get? b=some o->(s.heap.push {cls:=.type "range", data:=.fields #[.int 0 s.toks,.int n t,.int 1 (s.toks+1)]}).get? b=some o:=λb o q=>ah _ q
 generalize s.heap.push {cls:=.type "range", data:=.fields #[.int 0 s.toks,.int n t,.int 1 (s.toks+1)]}=h1 at zv hr on1 ⊢
 refine bF (show s.toks<=s.toks+1+1 by omega) (call_list_range (I.ok.hd hc) hr (small_one (by omega) (by omega) (by omega) (by omega)) (rangeSize_nat _ _) (by omega) λh' tk acc c k e it htk=>?_)
 rw[zv] at e ⊢
 rw[Int.sub_zero] at it
 refine⟨.ref (s.heap.objs.size+1),_,I.laid (λb o q=>k b o (on1 b o q)) (cW _) (show ObjOk X.prog X.w _ h' _ (.lst ((aZ n.toNat).map λi:Nat=>V.int i)) from⟨?_,acc.toList,c,Y1 ?_ λi y u e1 e2=>?_,by simpa using e⟩),rfl,q _ (I.hok.fresh (cW _))⟩
 .rw[ae,bx]
  exact aT (show n.toNat<=1000 by omega) (by decide)
 .rw[ae,bx,bT,it.1]
 .rw[ck] at e2
  obtain⟨tt,ev⟩:=it.2 i u e2
  have hi:i<n.toNat:=by
   have:=(Array.getElem?_eq_some_iff.mp e2).1
   rw[it.1] at this
   exact this
  rw[al,fv hi] at e1
  cases e1
  exact⟨tt,by rw[ev];congr 1;omega⟩
end
open Sem (wp)
section
variable {X:Cx}{e:Expr}{te:TE}{pos:Pos}
def Vv(K:ac)(R:EK):VK:=λx H=>match x with
 |.ref a=>∃C dx,H a=some (Fj a C dx)/\ECls K C/\R a (upd H a (flO a C dx))
 |_=>False
def ao6{Ex:St->EK}(m:Meets X Ex)(hh:X.A.handled=none)(he:PE X e te):PS X (.Raise (some e) none pos) (λ_ σ H=>te σ H (Vv X.K (Ex σ))):=by
 intro ξ s σ H D I h
 rw[arm_exec_Raise]
 refine af (eh ?_)
 refine af (af (thn (he ξ s σ H _ I h) λv s1 ⟨x,H1,I1,r1,q1⟩=>af (eh (aq ?_))))
 cases x with
 |ref a=>
  cases r1
  obtain⟨C,dx,ea,c,q⟩:=q1
  obtain⟨vs,g1,g2,g3,g4⟩:=Pz I1 ea
  obtain⟨nm,qn,N,bs,bm,hdct,sn,sub,ab,col,dd,k0,k1,k2,k3,k5,hl,ht,hd⟩:=c.obj
  have hC:=I1.kIn _ _ hl
  have hb:bm.contains (.type "BaseException")=true:=Cd ht (by decide +kernel)
  have I2:Inv X ξ σ (upd H1 a (flO a C dx)) s1:=by
   have:=I1.write (by rw[ea];exact aM) (.inl rfl) (λb u _ z=>z) ⟨_,g1⟩ (aj0 g1 g2 g4)
   exact this
  have hx:=m ξ σ _ s1 a I2 ⟨C,dx,vs,.inl Ac,g1,g2,.inl g3⟩ q
  have hcB:(ba C::bm).contains (.type "BaseException")=true:=by rw[b5,hb,fV]
  obtain⟨hp,g,d,tk,os⟩:=s1
  repeat (first|with_reducible refine gN g1 rfl g3 ?_|with_reducible refine bL g1 ?_|with_reducible refine bL hC ?_|(with_reducible refine cH hC ?_;rw[hcB])|wp_step)
  exact wpAny_raiseNew_none hh hx
 |_=>exact(q1).elim
end
end L2
namespace L2
open PySem PySem.Spec PyProof.Rows
inductive Dt where
 |at_ (v:V)
 |lst (l:List Dt)
 |tup (l:List Dt)
mutual
def deq:Dt->Dt->Bool
 |.at_ v,.at_ w=>eqV v w
 |.lst xs,.lst ys=>Fc xs ys
 |.tup xs,.tup ys=>Fc xs ys
 |_,_=>false
def Fc:List Dt->List Dt->Bool
 |[],[]=>true
 |x::xs,y::ys=>deq x y&&Fc xs ys
 |_,_=>false
end
mutual
def dep:Dt->Nat
 |.at_ _=>0
 |.lst l=>Fb l+1
 |.tup l=>Fb l+1
def Fb:List Dt->Nat
 |[]=>0
 |x::xs=>Nat.max (dep x) (Fb xs)
end
mutual
def At(K:ac)(H:Hp):Dt->V->Prop
 |.at_ v,x=>x=v/\B0 v=true
 |.lst ds,x=>∃a xs,x=.ref a/\SqL K H a xs/\AtL K H ds xs
 |.tup ds,x=>∃a xs,x=.ref a/\SqT K H a xs/\AtL K H ds xs
def AtL(K:ac)(H:Hp):List Dt->List V->Prop
 |[],xs=>xs=[]
 |d::ds,xs=>∃y ys,xs=y::ys/\At K H d y/\AtL K H ds ys
end
theorem AtL.length{K:ac}{H:Hp}:∀{ds:List Dt}{xs:List V},AtL K H ds xs->xs.length=ds.length
 |[],xs,h=>by unfold AtL at h;subst h;rfl
 | d::ds,xs,h=>by
  unfold AtL at h
  obtain⟨y,ys,rfl,_,h2⟩:=h
  rw[aI,aI,AtL.length h2]
def ai8{v:V}(h:B0 v=true):eqV v v=true:=by
 cases v <;> first|rfl|(exact beq_self_eq_true _)|exact absurd (show false=true from h) aA
mutual
theorem Hj{K:ac}{H:Hp}:∀{d:Dt}{x:V},At K H d x->deq d d=true
 |.at_ v,x,h=>by unfold At at h;unfold deq;exact ai8 h.2
 |.lst l,x,h=>by unfold At at h;obtain⟨a,xs,_,_,h⟩:=h;unfold deq;exact Ix h
 |.tup l,x,h=>by unfold At at h;obtain⟨a,xs,_,_,h⟩:=h;unfold deq;exact Ix h
theorem Ix{K:ac}{H:Hp}:∀{ds:List Dt}{xs:List V},AtL K H ds xs->Fc ds ds=true
 |[],xs,h=>by unfold Fc;rfl
 | d::ds,xs,h=>by
  unfold AtL at h
  obtain⟨y,ys,rfl,h1,h2⟩:=h
  unfold Fc
  rw[Hj h1,Ix h2]
  rfl
end
theorem Fh:∀{xs ys:List Dt},xs.length≠ys.length->Fc xs ys=false
 |[],[],h=>absurd rfl h
 |[],_::_,_=>by unfold Fc;rfl
 |_::_,[],_=>by unfold Fc;rfl
 | x::xs,y::ys,h=>by
  unfold Fc
  rw[Fh (xs:=xs) (ys:=ys) (λe=>h (by rw[aI,aI,e])),ip]
theorem Dx(z:Dt):∀{xs ys:List Dt},xs.length=ys.length->Fc xs ys=(aZ xs.length).all λj=>deq (xs.getD j z) (ys.getD j z)
 |[],[],_=>by unfold Fc;rfl
 |[],_::_,h=>by simp at h
 |_::_,[],h=>by simp at h
 | x::xs,y::ys,h=>by
  unfold Fc
  rw[aI,List.range_succ_eq_map,b7,iw,Dx z (xs:=xs) (ys:=ys) (by simpa using h)]
  rfl
section
variable {X:Cx}{ξ:List (Addr×Obj)}{σ:St}{H:Hp}{s:am}
def Th{a:Addr}{xs ys:List V}(I:Inv X ξ σ H s)(h:SqL X.K H a xs)(h':SqT X.K H a ys):False:=by
 obtain⟨χ,r,⟨o,n,e,c,_,d⟩,_⟩:=I.list h
 obtain⟨its',r',⟨o',e',c',n',d'⟩,_⟩:=I.tuple h'
 rw[e] at e';cases e'
 rw[c] at c'
 injection c' with c'
 exact absurd c' (by decide)
mutual
theorem Uj(I:Inv X ξ σ H s):∀{d d':Dt}{x:V},At X.K H d x->At X.K H d' x->d=d'
 |.at_ v,.at_ w,x,h,h'=>by unfold At at h h';rw[<- h.1,<- h'.1]
 | .at_ v,.lst l,x,h,h'=>by
  unfold At at h h'
  obtain⟨a,xs,rfl,_⟩:=h'
  rw[<- h.1] at h
  exact absurd (show false=true from h.2) aA
 | .at_ v,.tup l,x,h,h'=>by
  unfold At at h h'
  obtain⟨a,xs,rfl,_⟩:=h'
  rw[<- h.1] at h
  exact absurd (show false=true from h.2) aA
 | .lst l,.at_ v,x,h,h'=>by
  unfold At at h h'
  obtain⟨a,xs,rfl,_⟩:=h
  rw[<- h'.1] at h'
  exact absurd (show false=true from h'.2) aA
 | .tup l,.at_ v,x,h,h'=>by
  unfold At at h h'
  obtain⟨a,xs,rfl,_⟩:=h
  rw[<- h'.1] at h'
  exact absurd (show false=true from h'.2) aA
 | .lst l,.lst l',x,h,h'=>by
  unfold At at h h'
  obtain⟨a,xs,rfl,q,h⟩:=h
  obtain⟨a',xs',e,q',h'⟩:=h'
  cases e
  rw[I.list_inj q q'] at h
  rw[Pi I h h']
 | .tup l,.tup l',x,h,h'=>by
  unfold At at h h'
  obtain⟨a,xs,rfl,q,h⟩:=h
  obtain⟨a',xs',e,q',h'⟩:=h'
  cases e
  rw[I.tuple_inj q q'] at h
  rw[Pi I h h']
 | .lst l,.tup l',x,h,h'=>by
  unfold At at h h'
  obtain⟨a,xs,rfl,q,h⟩:=h
  obtain⟨a',xs',e,q',h'⟩:=h'
  cases e
  exact(Th I q q').elim
 | .tup l,.lst l',x,h,h'=>by
  unfold At at h h'
  obtain⟨a,xs,rfl,q,h⟩:=h
  obtain⟨a',xs',e,q',h'⟩:=h'
  cases e
  exact(Th I q' q).elim
theorem Pi(I:Inv X ξ σ H s):∀{ds ds':List Dt}{xs:List V},AtL X.K H ds xs->AtL X.K H ds' xs->ds=ds'
 |[],[],_,_,_=>rfl
 |[],_::_,_,h,h'=>by unfold AtL at h h';obtain⟨y,ys,e,_⟩:=h';rw[h] at e;cases e
 |_::_,[],_,h,h'=>by unfold AtL at h h';obtain⟨y,ys,e,_⟩:=h;rw[h'] at e;cases e
 | d::ds,d'::ds',xs,h,h'=>by
  unfold AtL at h h'
  obtain⟨y,ys,rfl,h1,h2⟩:=h
  obtain⟨y',ys',e,h1',h2'⟩:=h'
  cases e
  rw[Uj I h1 h1',Pi I h2 h2']
end
def Om{A:bq}{v:V}{u:Value}{a:Addr}{χ:Array Value}(f:B0 v=true)(r:RelV v u)(hl:s.heap.IsList a χ)(hu:A.units<cLine):bB A s u (.ref a) false/\bB A s (.ref a) u false:=by
 cases v with
 |non=>cases r;exact⟨.none_list hl hu,.list_none hl hu⟩
 |bl b=>cases r;exact⟨.bool_list b hl hu,.list_bool b hl hu⟩
 |int i=>obtain⟨t,rfl⟩:=r;exact⟨.int_list i t hl hu,.list_int i t hl hu⟩
 |str i=>obtain⟨t,rfl⟩:=r;exact⟨.str_list i t hl hu,.list_str i t hl hu⟩
 |_=>exact absurd (show false=true from f) aA
def Le{A:bq}{v:V}{u:Value}{a:Addr}{χ:Array Value}(f:B0 v=true)(r:RelV v u)(hl:s.heap.IsTuple a χ)(hu:A.units<cLine):bB A s u (.ref a) false/\bB A s (.ref a) u false:=by
 cases v with
 |non=>cases r;exact⟨.none_tuple hl hu,.tuple_none hl hu⟩
 |bl b=>cases r;exact⟨.bool_tuple b hl hu,.tuple_bool b hl hu⟩
 |int i=>obtain⟨t,rfl⟩:=r;exact⟨.int_tuple i t hl hu,.tuple_int i t hl hu⟩
 |str i=>obtain⟨t,rfl⟩:=r;exact⟨.str_tuple i t hl hu,.tuple_str i t hl hu⟩
 |_=>exact absurd (show false=true from f) aA
mutual
theorem bg2(I:Inv X ξ σ H s):∀(d d':Dt)(A:bq)(x y:V)(u v:Value),At X.K H d x->At X.K H d' y->RelV x u->RelV y v->A.units+dep d<cLine->bB A s u v (deq d d')
 | .at_ p,.at_ q,A,x,y,u,v,h,h',r,r',hu=>by
  unfold At at h h';unfold deq
  obtain⟨rfl,f⟩:=h
  obtain⟨rfl,f'⟩:=h'
  exact Px r r' f f'
 | .at_ p,.lst l,A,x,y,u,v,h,h',r,r',hu=>by
  unfold At at h h';unfold deq
  obtain⟨rfl,f⟩:=h
  obtain⟨a,xs,rfl,q,_⟩:=h'
  obtain⟨χ,_,pl,_⟩:=I.list q
  cases r'
  exact(Om f r pl.isList (by omega)).1
 | .at_ p,.tup l,A,x,y,u,v,h,h',r,r',hu=>by
  unfold At at h h';unfold deq
  obtain⟨rfl,f⟩:=h
  obtain⟨a,xs,rfl,q,_⟩:=h'
  obtain⟨χ,_,pl,_⟩:=I.tuple q
  cases r'
  exact(Le f r pl (by omega)).1
 | .lst l,.at_ p,A,x,y,u,v,h,h',r,r',hu=>by
  unfold At at h h';unfold deq
  obtain⟨rfl,f⟩:=h'
  obtain⟨a,xs,rfl,q,_⟩:=h
  obtain⟨χ,_,pl,_⟩:=I.list q
  cases r
  exact(Om f r' pl.isList (by omega)).2
 | .tup l,.at_ p,A,x,y,u,v,h,h',r,r',hu=>by
  unfold At at h h';unfold deq
  obtain⟨rfl,f⟩:=h'
  obtain⟨a,xs,rfl,q,_⟩:=h
  obtain⟨χ,_,pl,_⟩:=I.tuple q
  cases r
  exact(Le f r' pl (by omega)).2
 | .lst l,.tup l',A,x,y,u,v,h,h',r,r',hu=>by
  unfold At at h h';unfold deq
  obtain⟨a,xs,rfl,q,_⟩:=h
  obtain⟨b,ys,rfl,q',_⟩:=h'
  obtain⟨χ,_,pl,_⟩:=I.list q
  obtain⟨its',_,pl',_⟩:=I.tuple q'
  cases r;cases r'
  exact .list_tuple pl.isList pl' (by omega)
 | .tup l,.lst l',A,x,y,u,v,h,h',r,r',hu=>by
  unfold At at h h';unfold deq
  obtain⟨a,xs,rfl,q,_⟩:=h
  obtain⟨b,ys,rfl,q',_⟩:=h'
  obtain⟨χ,_,pl,_⟩:=I.tuple q
  obtain⟨its',_,pl',_⟩:=I.list q'
  cases r;cases r'
  exact .tuple_list pl pl'.isList (by omega)
 | .lst l,.lst l',A,x,y,u,v,h,h',r,r',hu=>by
  by_cases e:x=y
  .subst e
   have:=Uj I h h'
   rw[<- this,Hj h]
   have hx:∃a,x=.ref a:=by unfold At at h;obtain⟨a,_,e,_⟩:=h;exact⟨a,e⟩
   obtain⟨a,rfl⟩:=hx
   cases r;cases r'
   exact .same _
  .unfold At at h h';unfold deq
   unfold dep at hu
   obtain⟨a,xs,rfl,q,h⟩:=h
   obtain⟨b,ys,rfl,q',h'⟩:=h'
   obtain⟨χ,ri,pl,_⟩:=I.list q
   obtain⟨its',ri',pl',_⟩:=I.list q'
   cases r;cases r'
   have ne:a≠b:=λz=>e (by rw[z])
   have e1:=h.length
   have e2:=h'.length
   have e3:=ri.length
   have e4:=ri'.length
   refine .of_refs ne ?_
   by_cases hl:l.length=l'.length
   .rw[Dx (.lst []) hl]
    have hsz:χ.toArray.size=l.length:=by simp;omega
    rw[<- hsz]
    exact .lists pl.isList pl'.isList (by simp;omega) (by omega) λj h1 h2=>by
     have:=Hl I l l' A.in1 xs ys χ its' h h' ri ri' (by show A.units+1+Fb l<cLine;omega) j (by simpa using h1) (by simpa using h2)
     simpa using this
   .rw[Fh hl]
    exact .lists_lengths pl.isList pl'.isList (by simp;omega) (by omega)
 | .tup l,.tup l',A,x,y,u,v,h,h',r,r',hu=>by
  by_cases e:x=y
  .subst e
   have:=Uj I h h'
   rw[<- this,Hj h]
   have hx:∃a,x=.ref a:=by unfold At at h;obtain⟨a,_,e,_⟩:=h;exact⟨a,e⟩
   obtain⟨a,rfl⟩:=hx
   cases r;cases r'
   exact .same _
  .unfold At at h h';unfold deq
   unfold dep at hu
   obtain⟨a,xs,rfl,q,h⟩:=h
   obtain⟨b,ys,rfl,q',h'⟩:=h'
   obtain⟨χ,ri,pl,_⟩:=I.tuple q
   obtain⟨its',ri',pl',_⟩:=I.tuple q'
   cases r;cases r'
   have ne:a≠b:=λz=>e (by rw[z])
   have e1:=h.length
   have e2:=h'.length
   have e3:=ri.length
   have e4:=ri'.length
   refine .of_refs ne ?_
   have T:=jE (A:=A) (s:=s) (e:=λj=>deq (l.getD j (.lst [])) (l'.getD j (.lst []))) pl pl' (by omega) λj h1 h2=>by
     have:=Hl I l l' A.in1 xs ys χ its' h h' ri ri' (by show A.units+1+Fb l<cLine;omega) j (by simpa using h1) (by simpa using h2)
     simpa using this
   by_cases hl:l.length=l'.length
   .rw[Dx (.lst []) hl]
    have hsz:χ.toArray.size=l.length:=by simp;omega
    have hsz':its'.toArray.size=l.length:=by simp;omega
    rw[hsz,hsz',mE,beq_self_eq_true,iO] at T
    exact T
   .rw[Fh hl]
    have hne:(χ.toArray.size==its'.toArray.size)=false:=by
     rw[beq_eq_false_iff_ne];simp;omega
    rw[hne,ip] at T
    exact T
theorem Hl(I:Inv X ξ σ H s):∀(ds ds':List Dt)(A:bq)(xs ys:List V)(us vs:List Value),AtL X.K H ds xs->AtL X.K H ds' ys->Vals xs us->Vals ys vs->A.units+Fb ds<cLine ->
  ∀(j:Nat)(h1:j<us.length)(h2:j<vs.length),bB A s us[j] vs[j] (deq (ds.getD j (.lst [])) (ds'.getD j (.lst [])))
 | [],_,A,xs,ys,us,vs,h,h',r,r',hu=>λj h1 h2=>by
  unfold AtL at h
  subst h
  cases r
  cases h1
 | _::_,[],A,xs,ys,us,vs,h,h',r,r',hu=>λj h1 h2=>by
  unfold AtL at h'
  subst h'
  cases r'
  cases h2
 | d::ds,d'::ds',A,xs,ys,us,vs,h,h',r,r',hu=>λj h1 h2=>by
  unfold AtL at h h'
  obtain⟨y,ys,rfl,q1,q2⟩:=h
  obtain⟨z,zs,rfl,q1',q2'⟩:=h'
  cases r with
  |cons r1 r2=>
   cases r' with
   |cons r1' r2'=>
    unfold Fb at hu
    have m1:dep d<=Nat.max (dep d) (Fb ds):=Nat.le_max_left _ _
    have m2:Fb ds<=Nat.max (dep d) (Fb ds):=Nat.le_max_right _ _
    cases j with
    |zero=>exact bg2 I d d' A _ _ _ _ q1 q1' r1 r1' (by omega)
    |succ j=>exact Hl I ds ds' A _ _ _ _ q2 q2' r2 r2' (by omega) j (by simpa using h1) (by simpa using h2)
end
def Gf{K:ac}{d:Dt}{a:Addr}(h:At K H d (.ref a)):(∃l xs,d=.lst l/\SqL K H a xs/\AtL K H l xs)\/(∃l xs,d=.tup l/\SqT K H a xs/\AtL K H l xs):=by
 cases d with
 |at_ v=>
  unfold At at h
  rw[<- h.1] at h
  exact absurd (show false=true from h.2) aA
 |lst l=>unfold At at h;obtain⟨b,xs,e,q,h⟩:=h;cases e;exact .inl ⟨l,xs,rfl,q,h⟩
 |tup l=>unfold At at h;obtain⟨b,xs,e,q,h⟩:=h;cases e;exact .inr ⟨l,xs,rfl,q,h⟩
def Tg{K:ac}{d:Dt}{x:V}(h:At K H d x)(f:∀a,x≠.ref a):d=.at_ x/\B0 x=true:=by
 cases d with
 |at_ v=>unfold At at h;rw[h.1];exact⟨rfl,h.2⟩
 |lst l=>unfold At at h;obtain⟨b,xs,e,_⟩:=h;exact absurd e (f b)
 |tup l=>unfold At at h;obtain⟨b,xs,e,_⟩:=h;exact absurd e (f b)
def cb3(I:Inv X ξ σ H s){A:bq}{d d':Dt}{a b:Addr}(h:At X.K H d (.ref a))(h':At X.K H d' (.ref b))(hu:A.units+dep d<cLine):ij A s (.ref a) (.ref b) (deq d d')/\f_ A s (.ref a) (.ref b) (!deq d d'):=by
 rcases Gf h with⟨l,xs,rfl,q,h⟩|⟨l,xs,rfl,q,h⟩
 .rcases Gf h' with⟨l',ys,rfl,q',h'⟩|⟨l',ys,rfl,q',h'⟩
  .unfold deq
   unfold dep at hu
   obtain⟨χ,ri,pl,_⟩:=I.list q
   obtain⟨its',ri',pl',_⟩:=I.list q'
   have e1:=h.length
   have e2:=h'.length
   have e3:=ri.length
   have e4:=ri'.length
   have it:∀j h1 (h2:j<its'.toArray.size),bB A.in1 s χ.toArray[j] its'.toArray[j] (deq (l.getD j (.lst [])) (l'.getD j (.lst []))):=λj h1 h2=>by
    have:=Hl I l l' A.in1 xs ys χ its' h h' ri ri' (by show A.units+1+Fb l<cLine;omega) j (by simpa using h1) (by simpa using h2)
    simpa using this
   by_cases hl:l.length=l'.length
   .rw[Dx (.lst []) hl]
    have hsz:χ.toArray.size=l.length:=by simp;omega
    rw[<- hsz]
    exact⟨.lists pl.isList pl'.isList (by simp;omega) (by omega) it,.lists pl.isList pl'.isList (by simp;omega) (by omega) it⟩
   .rw[Fh hl]
    exact⟨.lists_lengths pl.isList pl'.isList (by simp;omega) (by omega),.lists_lengths pl.isList pl'.isList (by simp;omega) (by omega)⟩
  .unfold deq
   obtain⟨χ,ri,pl,_⟩:=I.list q
   obtain⟨its',ri',pl',_⟩:=I.tuple q'
   exact⟨.list_tuple pl.isList pl' (by omega),.list_tuple pl.isList pl' (by omega)⟩
 .rcases Gf h' with⟨l',ys,rfl,q',h'⟩|⟨l',ys,rfl,q',h'⟩
  .unfold deq
   obtain⟨χ,ri,pl,_⟩:=I.tuple q
   obtain⟨its',ri',pl',_⟩:=I.list q'
   exact⟨.tuple_list pl pl'.isList (by omega),.tuple_list pl pl'.isList (by omega)⟩
  .unfold deq
   unfold dep at hu
   obtain⟨χ,ri,pl,_⟩:=I.tuple q
   obtain⟨its',ri',pl',_⟩:=I.tuple q'
   have e1:=h.length
   have e2:=h'.length
   have e3:=ri.length
   have e4:=ri'.length
   have it:∀j h1 (h2:j<its'.toArray.size),bB A.in1 s χ.toArray[j] its'.toArray[j] (deq (l.getD j (.lst [])) (l'.getD j (.lst []))):=λj h1 h2=>by
    have:=Hl I l l' A.in1 xs ys χ its' h h' ri ri' (by show A.units+1+Fb l<cLine;omega) j (by simpa using h1) (by simpa using h2)
    simpa using this
   have T:=jE pl pl' (by omega) it
   have T':=SeqAt.RcNeAt.tuples pl pl' (by omega) it
   by_cases hl:l.length=l'.length
   .rw[Dx (.lst []) hl]
    have hsz:χ.toArray.size=l.length:=by simp;omega
    have hsz':its'.toArray.size=l.length:=by simp;omega
    rw[hsz,hsz',mE,beq_self_eq_true,iO] at T T'
    exact⟨T,T'⟩
   .rw[Fh hl]
    have hne:(χ.toArray.size==its'.toArray.size)=false:=by
     rw[beq_eq_false_iff_ne];simp;omega
    rw[hne,ip] at T T'
    exact⟨T,T'⟩
def Yo(I:Inv X ξ σ H s){A:bq}{d:Dt}{a:Addr}{v:V}{u:Value}(h:At X.K H d (.ref a))(f:B0 v=true)(r:RelV v u)(hu:A.units<cLine) :
  ij A s (.ref a) u false/\f_ A s (.ref a) u true/\ij A s u (.ref a) false/\f_ A s u (.ref a) true:=by
 rcases Gf h with⟨l,xs,rfl,q,h⟩|⟨l,xs,rfl,q,h⟩
 .obtain⟨χ,ri,pl,_⟩:=I.list q
  cases v with
  |non=>cases r;exact⟨.list_none pl.isList hu,.list_none pl.isList hu,.none_list pl.isList hu,.none_list pl.isList hu⟩
  |bl b=>cases r;exact⟨.list_bool b pl.isList hu,.list_bool b pl.isList hu,.bool_list b pl.isList hu,.bool_list b pl.isList hu⟩
  |int b=>obtain⟨t,rfl⟩:=r;exact⟨.list_int b t pl.isList hu,.list_int b t pl.isList hu,.int_list b t pl.isList hu,.int_list b t pl.isList hu⟩
  |str b=>obtain⟨t,rfl⟩:=r;exact⟨.list_str b t pl.isList hu,.list_str b t pl.isList hu,.str_list b t pl.isList hu,.str_list b t pl.isList hu⟩
  |_=>exact absurd (show false=true from f) aA
 .obtain⟨χ,ri,pl,_⟩:=I.tuple q
  cases v with
  |non=>cases r;exact⟨.tuple_none pl hu,.tuple_none pl hu,.none_tuple pl hu,.none_tuple pl hu⟩
  |bl b=>cases r;exact⟨.tuple_bool b pl hu,.tuple_bool b pl hu,.bool_tuple b pl hu,.bool_tuple b pl hu⟩
  |int b=>obtain⟨t,rfl⟩:=r;exact⟨.tuple_int b t pl hu,.tuple_int b t pl hu,.int_tuple b t pl hu,.int_tuple b t pl hu⟩
  |str b=>obtain⟨t,rfl⟩:=r;exact⟨.tuple_str b t pl hu,.tuple_str b t pl hu,.str_tuple b t pl hu,.str_tuple b t pl hu⟩
  |_=>exact absurd (show false=true from f) aA
def aq5(K:ac)(neg:Bool):R2:=λx y H Q=>∃d d',At K H d x/\At K H d' y/\dep d<=40/\Q (.bl (if neg then !deq d d' else deq d d')) H
def ar3(I:Inv X ξ σ H s){A:bq}{d d':Dt}{x y:V}{u v:Value}(h:At X.K H d x)(h':At X.K H d' y)(r:RelV x u)(r':RelV y v)(hr:(∃a,x=.ref a) \/ ∃b,y=.ref b)(hu:A.units+dep d<cLine) :
  ij A s u v (deq d d')/\f_ A s u v (!deq d d'):=by
 by_cases hx:∃a,x=.ref a
 .obtain⟨a,rfl⟩:=hx
  cases r
  by_cases hy:∃b,y=.ref b
  .obtain⟨b,rfl⟩:=hy
   cases r'
   exact cb3 I h h' hu
  .obtain⟨rfl,f⟩:=Tg h' (λb e=>hy ⟨b,e⟩)
   obtain⟨q1,q2,_⟩:=Yo I h f r' (show A.units<cLine by omega)
   have e:deq d (.at_ y)=false:=by
    rcases Gf h with⟨l,xs,rfl,_⟩|⟨l,xs,rfl,_⟩ <;> (unfold deq;rfl)
   rw[e]
   exact⟨q1,q2⟩
 .have hy:∃b,y=.ref b:=hr.resolve_left hx
  obtain⟨b,rfl⟩:=hy
  cases r'
  obtain⟨rfl,f⟩:=Tg h (λb e=>hx ⟨b,e⟩)
  obtain⟨_,_,q1,q2⟩:=Yo I h' f r (show A.units<cLine by omega)
  have e:deq (.at_ x) d'=false:=by
   rcases Gf h' with⟨l,xs,rfl,_⟩|⟨l,xs,rfl,_⟩ <;> (unfold deq;rfl)
  rw[e]
  exact⟨q1,q2⟩
def Vp(hu:X.A.units+64<cLine){x y:V}{u v:Value}{Q:VK}(I:Inv X ξ σ H s)(rx:RelV x u)(ry:RelV y v)(hr:(∃a,x=.ref a) \/ ∃b,y=.ref b)(h:aq5 X.K false x y H Q):aS (model X.prog X.w) X.A (cE .Eq u v) (EP X ξ σ Q) X.xe s:=by
 obtain⟨d,d',h1,h2,hd,q⟩:=h
 exact(ar3 I h1 h2 rx ry hr (A:=X.A) (by omega)).1 _ _ _ _ ⟨.bl _,H,I,rfl,q⟩
def Vq(hu:X.A.units+64<cLine){x y:V}{u v:Value}{Q:VK}(I:Inv X ξ σ H s)(rx:RelV x u)(ry:RelV y v)(hr:(∃a,x=.ref a) \/ ∃b,y=.ref b)(h:aq5 X.K true x y H Q):aS (model X.prog X.w) X.A (cE .NotEq u v) (EP X ξ σ Q) X.xe s:=by
 obtain⟨d,d',h1,h2,hd,q⟩:=h
 exact(ar3 I h1 h2 rx ry hr (A:=X.A) (by omega)).2 _ _ _ _ ⟨.bl _,H,I,rfl,q⟩
end
open AutoSeq1 (wpAny_loadPart')
open MeetsSeq MeetsSeq2 MeetsSeq3 SeqRoads2
def bs6(K:ac)(neg:Bool):R2:=λx y H Q=>match x,y with
 |.ref a,.ref b=>False\/(∃kvs,Rd H a (.dK kvs)/\Rd H b (.dK [])/\Q (.bl (if neg then !kvs.isEmpty else kvs.isEmpty)) H)\/(∃xs ys,SqL K H a xs/\SqL K H b ys/\xs.length≠ys.length/\Q (.bl neg) H)
 |_,_=>False
section
variable {X:Cx}{ξ:List (Addr×Obj)}{σ:St}{H:Hp}{s:am}
def bn4(hu:X.A.units+64<cLine){x y:V}{u v:Value}{Q:VK}(I:Inv X ξ σ H s)(rx:RelV x u)(ry:RelV y v)(h:bs6 X.K false x y H Q):aS (model X.prog X.w) X.A (cE .Eq u v) (EP X ξ σ Q) X.xe s:=by
 cases x <;> cases y <;> first|exact(h).elim|skip
 cases rx;cases ry
 rcases h with h|⟨kvs,h1,h2,q⟩|⟨xs,ys,h1,h2,len,q⟩
 .exact h.elim
 .obtain⟨_,z1,ka,r1,d1⟩:=Dy I.hok h1
  obtain⟨_,z2,kb,r2,d2⟩:=Dy I.hok h2
  cases r2
  refine PySem.W.keq_eq (r:=true) z1 z2 d1 d2 (by omega) (λe=>?_) ?_
  .rw[List.length_eq_zero_iff.mp e];exact .nil
  .have e:(ka.length==([]:List (Key×Value)).length&&true)=kvs.isEmpty:=by
    rw[iO,<- r1.length]
    cases kvs <;> rfl
   rw[e]
   exact⟨.bl _,H,I,rfl,q⟩
 .obtain⟨χ,ri,pl,_⟩:=I.list h1
  obtain⟨its',ri',pl',_⟩:=I.list h2
  have e3:=ri.length
  have e4:=ri'.length
  exact SeqAt.RcAt.lists_lengths pl.isList pl'.isList (by simp;omega) (by omega) _ _ _ _ ⟨.bl _,H,I,rfl,q⟩
def bn9(hu:X.A.units+64<cLine){x y:V}{u v:Value}{Q:VK}(I:Inv X ξ σ H s)(rx:RelV x u)(ry:RelV y v)(h:bs6 X.K true x y H Q):aS (model X.prog X.w) X.A (cE .NotEq u v) (EP X ξ σ Q) X.xe s:=by
 cases x <;> cases y <;> first|exact(h).elim|skip
 cases rx;cases ry
 rcases h with h|⟨kvs,h1,h2,q⟩|⟨xs,ys,h1,h2,len,q⟩
 .exact h.elim
 .obtain⟨_,z1,ka,r1,d1⟩:=Dy I.hok h1
  obtain⟨_,z2,kb,r2,d2⟩:=Dy I.hok h2
  cases r2
  refine PySem.W.keq_ne (r:=true) z1 z2 d1 d2 (by omega) (λe=>?_) ?_
  .rw[List.length_eq_zero_iff.mp e];exact .nil
  .have e:(!(ka.length==([]:List (Key×Value)).length&&true)) = !kvs.isEmpty:=by
    rw[iO,<- r1.length]
    cases kvs <;> rfl
   rw[e]
   exact⟨.bl _,H,I,rfl,q⟩
 .obtain⟨χ,ri,pl,_⟩:=I.list h1
  obtain⟨its',ri',pl',_⟩:=I.list h2
  have e3:=ri.length
  have e4:=ri'.length
  exact i_ pl.isList pl'.isList (by simp;omega) (by omega) _ _ _ _ ⟨.bl _,H,I,rfl,q⟩
end
end L2
namespace L2
open PySem PySem.Spec PyProof.Rows
section
variable {X:Cx}{ξ:List (Addr×Obj)}{σ:St}{H:Hp}{s:am}
def aq6:R2:=λx y H Q=>match x,y with
 |.str a,.int k=>∃z,(k=0/\z=dP\/k=1/\z=a)/\Q (.str z) H
 |_,_=>False
def a32:OpR X (dQ .Mult) aq6:=by
 intro ξ s σ H x y v u Q I rx ry h
 unfold aq6 at h
 split at h
 .rename_i a k
  obtain⟨t,rfl⟩:=rx
  obtain⟨t',rfl⟩:=ry
  obtain⟨z,⟨rfl,rfl⟩|⟨rfl,rfl⟩,q⟩:=h
  .refine PySem.P.mul_str rfl (λz _=>absurd (by decide) z) (λz _=>absurd (by decide) z) ?_
   rw[if_pos (by decide)]
   exact⟨by decide,.str _,H,I.tok _,⟨_,rfl⟩,q⟩
  .refine PySem.P.mul_str rfl (λ_ z=>by cases z) (λ_ z=>by cases z) ?_
   rw[if_neg (by decide)]
   exact⟨.str _,H,I,⟨_,rfl⟩,q⟩
 .exact h.elim
end
section
variable {X:Cx}{ξ:List (Addr×Obj)}{σ:St}{H:Hp}{s:am}
def Qp:List V->Hp->VK->Prop:=λxs H Q=>∃p kvs,xs=[.ref p]/\Rd H p (.dK kvs)/\∀q,H q=none->Q (.ref q) (upd H q (.dK kvs))
def Uo:Cj X (.type "dict") Qp:=by
 intro ξ s σ H xs us Q I r h
 obtain⟨p,kvs,rfl,e,q⟩:=h
 obtain⟨u,rfl,rx⟩:=Dc r
 cases rx
 obtain⟨z,hd,vs,rel,dd⟩:=Dy I.hok e
 refine kt_call_dict hd dd (by rw[<- rel.length];exact z) λh' hm hs=>?_
 have kp:∀b o',s.heap.get? b=some o'->h'.get? b=some o':=λb o' hb=>by
  have hlt:=aH hb
  rw[hs.2 b (aR hlt)]
  exact ah _ hb
 exact⟨.ref s.heap.objs.size,_,I.laid kp (ag _) (La z (by rw[beq_eq_false_iff_ne];exact bY (aR I.big)) rel hm),rfl,q _ (I.hok.fresh (ag _))⟩
def boot_dict:cz "dict"=some (.type "dict"):=by decide +kernel
end
def rNo:R2:=λ_ _ _ _=>False
def A8(K:ac):R2:=λx y H Q=>match x,y with
 |.int i,.int j=>Q (.int (i+j)) H
 |.str a,.str b=>a.length+b.length<=sizeLine/\Q (.str (a++b)) H
 |.ref a,.ref b=>b34 (.ref a) (.ref b) H Q\/bb9 K (.ref a) (.ref b) H Q\/bb8 K (.ref a) (.ref b) H Q
 |_,_=>False
def ar2:R2:=λx y H Q=>match x,y with
 |.int i,.int j=>Q (.int (i-j)) H
 |_,_=>False
def Dk(K:ac):R2:=λx y H Q=>match x,y with
 |.int i,.int j=>CMul i j/\Q (.int (i*j)) H
 |.str a,.int k=>aq6 (.str a) (.int k) H Q
 |_,_=>False
def Dh:R2:=λx y H Q=>match x,y with
 |.int i,.int j=>bu2 i j/\Q (.int (i/j)) H
 |_,_=>False
def Bb:R2:=λx y H Q=>match x,y with
 |.int i,.int j=>0<j/\Q (.int (i%j)) H
 |_,_=>False
def aq8:R2:=λx y H Q=>match x,y with
 |.int i,.int j=>ax1 i j/\Q (.int (i^j.toNat)) H
 |_,_=>False
def Pa:R2:=λx y H Q=>match x,y with
 |.int i,.int j=>ax1 i j/\Q (.int (i*2^j.toNat)) H
 |_,_=>False
def Ym:R2:=λx y H Q=>match x,y with
 |.int i,.int j=>0<=j/\Q (.int (i/2^j.toNat)) H
 |_,_=>False
def J1:R2:=λx y H Q=>match x,y with
 |.int i,.int j=>Q (.int (cC i j)) H
 |_,_=>False
def a62:R2:=λx y H Q=>match x,y with
 |.int i,.int j=>Q (.int (c7 i j)) H
 |_,_=>False
def b36:R2:=λx y H Q=>match x,y with
 |.int i,.int j=>Q (.int (Builtin.bitXor i j)) H
 |_,_=>False
def rOp(K:ac):nC->R2
 |.Add=>A8 K
 |.Sub=>ar2
 |.Mult=>Dk K
 |.FloorDiv=>Dh
 |.Mod=>Bb
 |.Pow=>aq8
 |.LShift=>Pa
 |.RShift=>Ym
 |.BitAnd=>J1
 |.BitOr=>a62
 |.BitXor=>b36
 |_=>rNo
section
variable {X:Cx}
def ca5(op:nC):OpR X (dQ op) (rOp X.K op):=by
 intro ξ s σ H x y v u Q I rx ry h
 cases op with
 |Add=>
  cases x <;> cases y <;> first
   |exact(h).elim
   |exact bn2 ξ s σ H _ _ v u Q I rx ry ⟨_,_,rfl,rfl,h⟩
   |exact Vo ξ s σ H _ _ v u Q I rx ry ⟨_,_,rfl,rfl,h⟩
   |exact(op_cat.or (op_catT.or a30)) ξ s σ H _ _ v u Q I rx ry h
 |Sub=>cases x <;> cases y <;> first|exact(h).elim|exact bo4 ξ s σ H _ _ v u Q I rx ry ⟨_,_,rfl,rfl,h⟩
 |Mult=>cases x <;> cases y <;> first|exact(h).elim|exact bn8 ξ s σ H _ _ v u Q I rx ry ⟨_,_,rfl,rfl,h⟩|exact a32 ξ s σ H _ _ v u Q I rx ry h
 |FloorDiv=>cases x <;> cases y <;> first|exact(h).elim|exact a31 ξ s σ H _ _ v u Q I rx ry ⟨_,_,rfl,rfl,h⟩
 |Mod=>cases x <;> cases y <;> first|exact(h).elim|exact bn7 ξ s σ H _ _ v u Q I rx ry ⟨_,_,rfl,rfl,h⟩
 |Pow=>cases x <;> cases y <;> first|exact(h).elim|exact bo1 ξ s σ H _ _ v u Q I rx ry ⟨_,_,rfl,rfl,h⟩
 |LShift=>cases x <;> cases y <;> first|exact(h).elim|exact bo2 ξ s σ H _ _ v u Q I rx ry ⟨_,_,rfl,rfl,h⟩
 |RShift=>cases x <;> cases y <;> first|exact(h).elim|exact bo3 ξ s σ H _ _ v u Q I rx ry ⟨_,_,rfl,rfl,h⟩
 |BitAnd=>cases x <;> cases y <;> first|exact(h).elim|exact bn3 ξ s σ H _ _ v u Q I rx ry ⟨_,_,rfl,rfl,h⟩
 |BitOr=>cases x <;> cases y <;> first|exact(h).elim|exact b19 ξ s σ H _ _ v u Q I rx ry ⟨_,_,rfl,rfl,h⟩
 |BitXor=>cases x <;> cases y <;> first|exact(h).elim|exact bo5 ξ s σ H _ _ v u Q I rx ry ⟨_,_,rfl,rfl,h⟩
 |_=>exact(h).elim
end
def Ca(K:ac)(neg:Bool):R2:=λx y H Q=>match x,y with
 |.ref a,.ref b=>bs7 K neg (.ref a) (.ref b) H Q\/aq5 K neg (.ref a) (.ref b) H Q\/bs6 K neg (.ref a) (.ref b) H Q\/False\/False
 |.ref a,y=>aq5 K neg (.ref a) y H Q\/False
 |x,.ref b=>aq5 K neg x (.ref b) H Q
 |.int i,.int j=>Q (.bl (if neg then !decide (i=j) else decide (i=j))) H
 |.str i,.str j=>Q (.bl (if neg then !decide (i=j) else decide (i=j))) H
 |.bl i,.bl j=>Q (.bl (if neg then !(i==j) else(i==j))) H
 |x,y=>bt0 x y=true/\Q (.bl (if neg then !decide (x=y) else decide (x=y))) H
def bs8:R2:=λx y H Q=>match x,y with
 |.int i,.int j=>Q (.bl (decide (i<j))) H
 |.str i,.str j=>Q (.bl (decide (i.cps.toList<j.cps.toList))) H
 |_,_=>False
def Hz:R2:=λx y H Q=>match x,y with
 |.int i,.int j=>Q (.bl (decide (i<=j))) H
 |.str i,.str j=>Q (.bl (!decide (j.cps.toList<i.cps.toList))) H
 |_,_=>False
def ab0:R2:=λx y H Q=>match x,y with
 |.int i,.int j=>Q (.bl (decide (j<i))) H
 |_,_=>False
def ca8:R2:=λx y H Q=>match x,y with
 |.int i,.int j=>Q (.bl (decide (j<=i))) H
 |_,_=>False
def J7(K:ac)(neg:Bool):R2:=λx y H Q=>match x,y with
 |.non,_=>False
 |x,.ref p=>rIn K neg x (.ref p) H Q \/ ∃o,(ad6 H p x o\/False)/\Q (.bl (if neg then !o.isSome else o.isSome)) H
 |_,_=>False
def a61(neg:Bool):R2:=λx y H Q=>match y with
 |.non=>Q (.bl (if neg then !decide (x=.non) else decide (x=.non))) H
 | .bl d=>(match x with
  |.bl c=>Q (.bl (if neg then !(c==d) else(c==d))) H
  |_=>False)
 |_=>False
def Jp(K:ac):mK->R2
 |.Eq=>Ca K false
 |.NotEq=>Ca K true
 |.Lt=>bs8
 |.LtE=>Hz
 |.Gt=>ab0
 |.GtE=>ca8
 |.In=>J7 K false
 |.NotIn=>J7 K true
 |.Is=>a61 false
 |.IsNot=>a61 true
section
variable {X:Cx}
def Oi(hu:X.A.units+64<cLine)(op:mK):OpR X (cE op) (Jp X.K op):=by
  intro ξ s σ H x y v u Q I rx ry h
  cases op with
  |Eq=>
    cases x <;> cases y <;> first
      | (rcases h with h|h|h|h|h
         . exact bn5 (by omega) ξ s σ H _ _ v u Q I rx ry h
         . exact Vp hu I rx ry (.inl ⟨_,rfl⟩) h
         . exact bn4 hu I rx ry h
         . exact h.elim
         . exact h.elim)
      | (rcases h with h|h
         . exact Vp hu I rx ry (.inl ⟨_,rfl⟩) h
         . exact h.elim)
      |exact Vp hu I rx ry (.inr ⟨_,rfl⟩) h
      |exact Yd ξ s σ H _ _ v u Q I rx ry h
      |exact Yd ξ s σ H _ _ v u Q I rx ry ⟨rfl,by rw[Kj,fU];exact h⟩
      |exact Yd ξ s σ H _ _ v u Q I rx ry ⟨rfl,by rw[Kk,fU];exact h⟩
      |exact Yd ξ s σ H _ _ v u Q I rx ry ⟨rfl,by rw[Ps];exact h⟩
  |NotEq=>
    cases x <;> cases y <;> first
      | (rcases h with h|h|h|h|h
         . exact bo0 (by omega) ξ s σ H _ _ v u Q I rx ry h
         . exact Vq hu I rx ry (.inl ⟨_,rfl⟩) h
         . exact bn9 hu I rx ry h
         . exact h.elim
         . exact h.elim)
      | (rcases h with h|h
         . exact Vq hu I rx ry (.inl ⟨_,rfl⟩) h
         . exact h.elim)
      |exact Vq hu I rx ry (.inr ⟨_,rfl⟩) h
      |exact Ye ξ s σ H _ _ v u Q I rx ry h
      |exact Ye ξ s σ H _ _ v u Q I rx ry ⟨rfl,by rw[Kj,fU];exact h⟩
      |exact Ye ξ s σ H _ _ v u Q I rx ry ⟨rfl,by rw[Kk,fU];exact h⟩
      |exact Ye ξ s σ H _ _ v u Q I rx ry ⟨rfl,by rw[Ps];exact h⟩
  |Lt=>cases x <;> cases y <;> first|exact(h).elim|exact b18 ξ s σ H _ _ v u Q I rx ry ⟨_,_,rfl,rfl,h⟩|exact aa4 ξ s σ H _ _ v u Q I rx ry ⟨_,_,rfl,rfl,h⟩
  |LtE=>cases x <;> cases y <;> first|exact(h).elim|exact b17 ξ s σ H _ _ v u Q I rx ry ⟨_,_,rfl,rfl,h⟩|exact aa3 ξ s σ H _ _ v u Q I rx ry ⟨_,_,rfl,rfl,h⟩
  |Gt=>cases x <;> cases y <;> first|exact(h).elim|exact b16 ξ s σ H _ _ v u Q I rx ry ⟨_,_,rfl,rfl,h⟩
  |GtE=>cases x <;> cases y <;> first|exact(h).elim|exact b15 ξ s σ H _ _ v u Q I rx ry ⟨_,_,rfl,rfl,h⟩
  |In=>cases x <;> cases y <;> first|exact(h).elim|exact h.elim (aa2 ξ s σ H _ _ v u Q I rx ry) (fun⟨o,g,q⟩=>by cases ry;exact b98 I (g.resolve_right id) rx λs' I'=>⟨.bl _,H,I',rfl,q⟩)
  |NotIn=>cases x <;> cases y <;> first|exact(h).elim|exact h.elim (Qk ξ s σ H _ _ v u Q I rx ry) (fun⟨o,g,q⟩=>by cases ry;exact az7 I (g.resolve_right id) rx λs' I'=>⟨.bl _,H,I',rfl,q⟩)
  |Is=>cases y <;> first|exact(h).elim|exact bn6 ξ s σ H _ _ v u Q I rx ry ⟨rfl,h⟩|(cases x <;> first|exact(h).elim|(cases rx;cases ry;exact is_bool ⟨.bl _,H,I,rfl,h⟩))
  |IsNot=>cases y <;> first|exact(h).elim|exact a33 ξ s σ H _ _ v u Q I rx ry ⟨rfl,h⟩|(cases x <;> first|exact(h).elim|(cases rx;cases ry;exact isnot_bool ⟨.bl _,H,I,rfl,h⟩))
end
def Tq:V->Hp->VK->Prop:=λx H Q=>match x with
 |.int i=>Q (.int (-i)) H
 |_=>False
def cf1{X:Cx}:UnR X (nQ .USub) Tq:=by
 intro ξ s σ H x v Q I rx h
 cases x <;> first|exact(h).elim|exact bt7 ξ s σ H _ v Q I rx ⟨_,rfl,h⟩
def Yl:V->Hp->VK->Prop:=λx H Q=>match x with
 |.int i=>Q (.int (ce i)) H
 |_=>False
def bx6{X:Cx}:UnR X (nQ .Invert) Yl:=by
 intro ξ s σ H x v Q I rx h
 cases x <;> first|exact(h).elim|exact bt6 ξ s σ H _ v Q I rx ⟨_,rfl,h⟩
def Y0{X:Cx}:bv2 X (ac6 X.K):=by
 intro ξ s σ H x v Q I rx h
 cases x with
 |non=>exact Mx ξ s σ H _ v Q I rx ⟨_,rfl,h⟩
 |bl b=>exact Mx ξ s σ H _ v Q I rx ⟨_,rfl,h⟩
 |int i=>exact Mx ξ s σ H _ v Q I rx ⟨_,rfl,h⟩
 |str y=>exact Mx ξ s σ H _ v Q I rx ⟨_,⟨h.1,rfl⟩,h.2⟩
 |ref p=>exact Mx ξ s σ H _ v Q I rx h
 |_=>exact(h).elim
inductive SqX (K:ac) (H:Hp) (p:Addr) (i:Int) (xs:List V):Prop where
 |inl (h:SqL K H p xs)
 |inr (h:SqT K H p xs)
 |dk (h:∀v,atI xs i=some v->DGet H p (.int i) (some v))
def A7(K:ac):R2:=λx y H Q=>match x,y with
 |.str z,.int i=>z.length<=sizeLine/\∃c,atI z.cps.toList i=some c/\Q (.str ⟨#[c]⟩) H
 |.ref p,.int i=>∃xs v,SqX K H p i xs/\atI xs i=some v/\Q v H
 |.ref p,.str k=>∃v,DGet H p (.str k) (some v)/\Q v H
 |.ref p,.ref b=>∃v,DGet H p (.ref b) (some v)/\Q v H
 |_,_=>False
def ca3{X:Cx}(hu:X.A.units+64<cLine):IxR X (A7 X.K):=by
  intro value slice ξ s σ H x y v u Q I rx ry h hs
  cases x <;> cases y <;> first
    |exact(h).elim
    |(obtain⟨h1,c,h2,h3⟩:=h;exact bh2 value slice ξ s σ H _ _ v u Q I rx ry ⟨_,_,c,rfl,rfl,h1,h2,h3⟩ hs)
    | (obtain⟨xs,w,h1|h1|h1,h2,h3⟩:=h
       . exact a08 value slice ξ s σ H _ _ v u Q I rx ry ⟨_,_,_,_,rfl,rfl,h1,h2,h3⟩ hs
       . exact bh3 value slice ξ s σ H _ _ v u Q I rx ry ⟨_,_,_,_,rfl,rfl,h1,h2,h3⟩ hs
       . exact Ko hu value slice ξ s σ H _ _ v u Q I rx ry ⟨_,w,rfl,h1 w h2,h3⟩ hs)
    |(obtain⟨w,h1,h2⟩:=h;exact Ko hu value slice ξ s σ H _ _ v u Q I rx ry ⟨_,w,rfl,h1,h2⟩ hs)
def bc0:V->V->V->Hp->(Hp->Prop)->Prop:=λo i v H N=>match o,i with
 |.ref p,.int k=>False \/ ∃H',DPut H p (.int k) v H'/\N H'
 |.ref p,i=>∃H',DPut H p i v H'/\N H'
 |_,_=>False
def b39{X:Cx}(hu:X.A.units+64<cLine):bu6 X bc0:=by
 intro ξ s σ H o i v ov iv u Q I ro ri rv h
 cases o with
 |ref p=>
  have dp:∀{H'},DPut H p i v H'->Q H'->aS (model X.prog X.w) X.A (setItem ov iv u) (λ_ s'=>∃H',Inv X ξ σ H' s'/\Q H') X.xe s:=λ{H'} g q=>by
   cases ro
   exact Zg (by omega) I g ri rv λs' I'=>⟨H',I',q⟩
  cases i with
  |int k=>
   obtain⟨H',g,q⟩:=h.resolve_left id
   exact dp g q
  |_=>obtain⟨H',g,q⟩:=h;exact dp g q
 |_=>exact(h).elim
def Bm(K:ac)(f:Str):V->Hp->VK->Prop:=λx H Q=>match x with
 |.ref a=>(∃C dx fs v,H a=some (.ins C dx fs)/\Cls K C/\NoAttr K C f/\fs.lookup f=some v/\Q v H)\/(∃C fs v,ExcAt H a C fs/\ECls K C/\NoAttr K C f/\fs.lookup f=some v/\Q v H)
 |_=>False
def aq9(K:ac)(f:Str):V->V->Hp->(Hp->Prop)->Prop:=λx y H N=>match x with
 |.ref a=>(∃C dx fs,H a=some (.ins C dx fs)/\Cls K C/\NoAttr K C f/\fs.length<1000/\N (upd H a (.ins C dx (Eo f y fs))))\/(∃C,ECls K C/\NoAttr K C f/\bu8 H a C f y N)
 |_=>False
section
variable {X:Cx}{ξ:List (Addr×Obj)}{σ:St}{H:Hp}{s:am}{A:bq}{E:Value->am->Prop}
def bw4{f:Str}{x:V}{u:Value}{b:Bool}{Q:VK}(I:Inv X ξ σ H s)(rx:RelV x u)(h:Bm X.K f x H Q):aS (model X.prog X.w) A (mn u f b) (EP X ξ σ Q) E s:=by
 cases x with
 |ref a=>
  cases rx
  rcases h with⟨C,dx,fs,v,ea,c,n,l,q⟩|⟨C,fs,v,ea,c,n,l,q⟩
  .exact U5 I ea c n l λu' s2 I2 ru=>⟨v,H,I2,ru,q⟩
  .exact Zm I ea c n l λu' s2 I2 ru=>⟨v,H,I2,ru,q⟩
 |_=>exact(h).elim
def b38{f:Str}{x y:V}{u v:Value}{N:Hp->Prop}{Q:Unit->am->Prop}(I:Inv X ξ σ H s)(rx:RelV x u)(ry:RelV y v)(h:aq9 X.K f x y H N)(hQ:∀H' s',Inv X ξ σ H' s'->N H'->Q () s') :
  aS (model X.prog X.w) A (m_ u f v) Q E s:=by
 cases x with
 |ref a=>
  cases rx
  rcases h with⟨C,dx,fs,ea,c,n,l,q⟩|⟨C,c,n,q⟩
  .exact V2 I ea c n l ry λs3 I3=>hQ _ _ I3 q
  .exact ab9 I c n ry q hQ
 |_=>exact(h).elim
end
structure FI where
 f:Addr
 fd:bb
 ps:List Str
 k:Nat
 sp:Sp
 dfs:List V
 ds:List Value
structure MI where
 C:Addr
 i:FI
inductive GB where
 |fn (i:FI)
 |cls (C:Addr) (i:Option FI)
 |met (m:Str) (l:List MI)
 |val (v:V) (u:Value)
 |exc (C:Addr) (i:Option FI)
 |ini (C:Addr) (i:FI)
 |dic (a:Addr) (kvs:List (Key×V))
 |key (m:Str) (l:List MI)
def B8:List (Str×GB)->Str->Option (List MI)
 |[],_=>none
 |(_,.met m l)::r,x=>if m=x then some l else B8 r x
 |_::r,x=>B8 r x
theorem Br:∀{gb} {x} {l},B8 gb x=some l -> ∃k,(k,GB.met x l)∈gb
 | (k,.met m l')::r,x,l,h=>by
  unfold B8 at h
  by_cases e:m=x
  .rw[if_pos e] at h;cases h;subst e;exact⟨k,by simp⟩
  .rw[if_neg e] at h;obtain⟨k,q⟩:=Br h;exact⟨k,ay _ q⟩
 |(_,.fn _)::r,x,l,h=>by unfold B8 at h;obtain⟨k,q⟩:=Br h;exact⟨k,ay _ q⟩
 |(_,.cls _ _)::r,x,l,h=>by unfold B8 at h;obtain⟨k,q⟩:=Br h;exact⟨k,ay _ q⟩
 |(_,.val _ _)::r,x,l,h=>by unfold B8 at h;obtain⟨k,q⟩:=Br h;exact⟨k,ay _ q⟩
 |(_,.dic _ _)::r,x,l,h=>by unfold B8 at h;obtain⟨k,q⟩:=Br h;exact⟨k,ay _ q⟩
 |(_,.key _ _)::r,x,l,h=>by unfold B8 at h;obtain⟨k,q⟩:=Br h;exact⟨k,ay _ q⟩
 |(_,.ini _ _)::r,x,l,h=>by unfold B8 at h;obtain⟨k,q⟩:=Br h;exact⟨k,ay _ q⟩
 |(_,.exc _ _)::r,x,l,h=>by unfold B8 at h;obtain⟨k,q⟩:=Br h;exact⟨k,ay _ q⟩
def Hn:List (Str×GB)->Str->Option (List MI)
 |[],_=>none
 | (_,g)::r,x=>match g with
  |.key m l=>if m=x then some l else Hn r x
  |_=>Hn r x
theorem Fl:∀{gb} {x} {l},Hn gb x=some l -> ∃k,(k,GB.key x l)∈gb
 |[],_,_,h=>by cases h
 | (k,g)::r,x,l,h=>by
  unfold Hn at h
  split at h
  .split at h
   .rename_i e
    cases h
    subst e
    exact⟨k,aP⟩
   .obtain⟨k,q⟩:=Fl h;exact⟨k,ay _ q⟩
  .obtain⟨k,q⟩:=Fl h;exact⟨k,ay _ q⟩
structure Sg where
 K:ac
 N:List Str
 sc:List (Str×cR)
 gb:List (Str×GB)
 bl:List Str
 top:Bool
 calm:Bool
def C2:List Str->Str->Nat->Option Nat
 |[],_,_=>none
 |y::r,x,i=>if y=x then some i else C2 r x (i+1)
theorem Pb:∀{N} {x} {i j},C2 N x j=some i->j<=i/\N[i-j]?=some x
 |[],_,_,_,h=>by cases h
 | y::r,x,i,j,h=>by
  unfold C2 at h
  by_cases e:y=x
  .rw[if_pos e] at h
   cases h
   refine⟨ag _,?_⟩
   rw[gR,e]
   rfl
  .rw[if_neg e] at h
   obtain⟨h1,h2⟩:=Pb h
   refine⟨by omega,?_⟩
   have:i-j=(i-(j+1))+1:=by omega
   rw[this,bI]
   exact h2
def Er{N:List Str}{x:Str}{i:Nat}(h:C2 N x 0=some i):N[i]?=some x:=(Pb h).2
def En(x:Str):Bool:=!(x==("__debug__" : Str)) && !(x==("__classdict__" : Str)) && !(x==("__name__" : Str))
def Lj(G:Sg)(x:Str):Bool:=(G.sc.lookup x==some .globalImplicit)&&En x
def W4(x:Str):Option String:=
 if x="int" then some "int" else if x="bool" then some "bool" else if x="str" then some "str" else if x="list" then some "list" else if x="tuple" then some "tuple" else if x="dict" then some "dict" else if x="ValueError" then some "ValueError" else none
def az5:cz "ValueError"=some (.type "ValueError"):=by decide +kernel
def ad0{x:Str}{T:String}(h:W4 x=some T):cz x=some (.type T):=by
 unfold W4 at h
 by_cases e1:x="int"
 .rw[if_pos e1] at h;cases h;rw[e1];exact kD
 rw[if_neg e1] at h
 by_cases e2:x="bool"
 .rw[if_pos e2] at h;cases h;rw[e2];exact PyProof.Rows.boot_bool
 rw[if_neg e2] at h
 by_cases e3:x="str"
 .rw[if_pos e3] at h;cases h;rw[e3];exact kE
 rw[if_neg e3] at h
 by_cases e4:x="list"
 .rw[if_pos e4] at h;cases h;rw[e4];exact hX
 rw[if_neg e4] at h
 by_cases e5:x="tuple"
 .rw[if_pos e5] at h;cases h;rw[e5];exact jR
 rw[if_neg e5] at h
 by_cases e6:x="dict"
 .rw[if_pos e6] at h;cases h;rw[e6];exact PyProof.Rows.boot_dict
 rw[if_neg e6] at h
 by_cases e7:x="ValueError"
 .rw[if_pos e7] at h;cases h;rw[e7];exact az5
 rw[if_neg e7] at h
 cases h
def Jw(CX:CXT)(X:Cx):Prop:=∀Ex,Meets X Ex -> ∀ξ (σ:St) (H:Hp) (s:am) (e:Value) (s':am),Inv X ξ σ H s->CX X.stack H s (λv _ H'=>∃a,v=.ref a/\Ex σ a H') e s'->X.xe e s'
structure Ip (X:Cx) (i:FI):Prop where
 kp:be X.K (.ref i.f)=true
 ok:∃CX,(∀X':Cx,X'.prog=X.prog->X'.w=X.w->Jw CX X')/\FnOk X.prog X.w X.K X.mg X.base CX i.k i.f i.fd i.ps i.sp
 room:Room i.k X.A
 binds:∀j,j<=i.dfs.length->Binds X.K i.fd i.ps (i.ds.drop j)
 vals:Vals i.dfs i.ds
def Ui(X:Cx)(C:Addr):Option FI->Prop
 |none=>aU X.K (.ref C) "__init__"=some (some (.builtin "ValueError.__init__"))
 |some i=>aU X.K (.ref C) "__init__"=some (some (.ref i.f))/\cQ X.K (.ref i.f)=true/\Ip X i/\Room (i.k+1) X.A
def be5(X:Cx)(C:Addr):Option FI->Prop
 |none=>dN X.K C=true/\aU X.K (.ref C) "__init__"=some (some (.builtin "object.__init__"))
 |some i=>dN X.K C=true/\aU X.K (.ref C) "__init__"=some (some (.ref i.f))/\cQ X.K (.ref i.f)=true/\Ip X i/\Room (i.k+1) X.A
structure a97 (K:ac) (C f:Addr):Prop where
 ga:cI K (.ref C) "__getattribute__"=some (some (.builtin "type.__getattribute__"))
 rd:PySem.W.readsIn K C (.type "type")=true
 fc:PySem.W.findCls K (.ref C) (.type "type") "__init__"=some (.val (.ref f))
 hh:gI (.ref f)=true
def bu5(P:aO)(w:bw)(K:ac)(a:Addr)(kvs:List (Key×V)):Prop:=(a==cY)=false/\∃vs,KV kvs vs/\∀h,K.In h->h.DictOf (Bd P w) a vs
structure be4 (X:Cx) (m:Str) (mi:MI):Prop where
 c:Cls X.K mi.C
 k:M7 X.K mi.C m mi.i.f
 sg:cI X.K (.ref mi.i.f) "__get__"=some (some (.builtin "function.__get__"))
 tk:dO X.K (.ref mi.i.f)=some false
 cn:PySem.W.copiedNames.contains m=false
 fi:Ip X mi.i
 room:Room (mi.i.k+2) X.A
def GBOk(X:Cx)(x:Str):GB->Prop
 |.dic a kvs=>X.mg x=some (.ref a)/\bu5 X.prog X.w X.K a kvs
 |.fn i=>X.mg x=some (.ref i.f)/\Ip X i
 |.val v u=>X.mg x=some u/\RelV v u
 |.exc C oi=>X.mg x=some (.ref C)/\be X.K (.ref C)=true/\ECls X.K C/\Ui X C oi
 |.cls C oi=>X.mg x=some (.ref C)/\be X.K (.ref C)=true/\be5 X C oi
 |.met m l=>∀mi∈l,Cls X.K mi.C/\M7 X.K mi.C m mi.i.f/\Ip X mi.i
 |.ini C i=>X.mg x=some (.ref C)/\a97 X.K C i.f/\Ip X i
 |.key m l=>∀mi∈l,be4 X m mi
def GBOk.to{X X':Cx}(hm:X'.mg=X.mg)(hK:X'.K=X.K)(hP:X'.prog=X.prog)(hw:X'.w=X.w)(hA:∀k,Room k X.A->Room k X'.A)(hf:∀i,Ip X i->Ip X' i){x:Str}{g:GB}(h:GBOk X x g):GBOk X' x g:=by
 cases g with
 |fn i=>exact⟨hm▸h.1,hf i h.2⟩
 |val v u=>exact⟨hm▸h.1,h.2⟩
 |exc C oi=>
  obtain⟨a,b,c,d⟩:=h
  refine⟨hm▸a,hK▸b,hK▸c,?_⟩
  cases oi with
  |none=>unfold Ui at d ⊢;rw[hK];exact d
  |some i=>obtain⟨d1,d2,d3,d4⟩:=d;exact⟨hK▸d1,hK▸d2,hf i d3,hA _ d4⟩
 |cls C oi=>
  obtain⟨a,b,d⟩:=h
  refine⟨hm▸a,hK▸b,?_⟩
  cases oi with
  |none=>unfold be5 at d ⊢;rw[hK];exact d
  |some i=>obtain⟨d1,d2,d3,d4,d5⟩:=d;exact⟨hK▸d1,hK▸d2,hK▸d3,hf i d4,hA _ d5⟩
 |met m l=>exact λmi hi=>⟨hK▸(h mi hi).1,hK▸(h mi hi).2.1,hf _ (h mi hi).2.2⟩
 |ini C i=>exact⟨hm▸h.1,hK▸h.2.1,hf i h.2.2⟩
 |dic a kvs=>exact⟨hm▸h.1,by rw[hP,hw,hK];exact h.2⟩
 |key m l=>exact λmi hi=>let q:=h mi hi;⟨hK▸q.c,hK▸q.k,hK▸q.sg,hK▸q.tk,q.cn,hf _ q.fi,hA _ q.room⟩
def FrH(X:Cx):Prop:=∃e0 o0 L,X.stack=e0::o0/\e0.frame=some L/\X.env.frame=some L
structure GOk (X:Cx) (G:Sg):Prop where
 K:X.K=G.K
 kind:X.env.scope.kind=.function
 own:G.top=true->g7 (model X.prog X.w) X.A X.env X.xe
 N:X.N=G.N
 nd:G.N.Nodup
 sc:∀x,X.env.scope.names.lookup x=G.sc.lookup x
 vis:∀x∈G.N,Vis X.env.scope x
 top:G.top=true -> ∀x,X.fn x=true
 calm:G.calm=X.calm
 hd:X.calm=true->X.A.handled=none
 units:X.A.units+64<cLine
 cel:∀x,(X.env.scope.names.lookup x=some .cell\/X.env.scope.names.lookup x=some .free) -> ∃c,X.env.cells.lookup x=some c
 gb:∀x g,(x,g)∈G.gb->GBOk X x g
 bl:∀x,G.bl.contains x=true->X.mg x=none
 frm:G.top=true->X.stack=X.env::X.outer/\X.env.frame=some X.env.locals
 fr:FrH X
section
variable {X:Cx}{G:Sg}
def GOk.at_(O:GOk X G)(x:Str)(g:GB)(e:G.gb.lookup x=some g):GBOk X x g:=O.gb x g (bV e)
def GOk.met(O:GOk X G)(m:Str)(l:List MI)(e:B8 G.gb m=some l):∀mi∈l,Cls X.K mi.C/\M7 X.K mi.C m mi.i.f/\Ip X mi.i:=by
 obtain⟨x,hx⟩:=Br e
 exact O.gb x _ hx
def GOk.gl(O:GOk X G){x:Str}(h:Lj G x=true):Gl X x:=by
 unfold Lj at h
 rw[aV] at h
 have:=b9 h.1
 show X.env.scope.names.lookup x=_
 rw[O.sc x]
 exact this
def Ql{x:Str}(h:En x=true):(x==("__debug__" : Str))=false/\(x==("__classdict__" : Str))=false/\x ≠ "__name__" := by
 unfold En at h
 simp only[aV,ib] at h
 exact⟨h.1.1,h.1.2,λe=>by rw[e] at h;simp at h⟩
def Va{x:Str}(h:Lj G x=true):(x==("__debug__" : Str))=false/\(x==("__classdict__" : Str))=false/\x ≠ "__name__" := by
 unfold Lj at h
 rw[aV] at h
 exact Ql h.2
noncomputable def aw5(G:Sg)(x:Str):DE:=
 match C2 G.N x 0 with
 |some i=>if En x=true then Aa i else dNo
 | none=>if Lj G x=true then(match G.gb.lookup x with
   |some (.val v _)=>dC v
   |some (.exc C _)=>dC (.ref C)
   |some (.cls C _)=>dC (.ref C)
   |some (.ini C _)=>dC (.ref C)
   |some _=>dNo
   | none=>if G.bl.contains x=true then(match W4 x with
    |some T=>dC (.ty T)
    |none=>dNo) else dNo) else dNo
def Bx{e:Expr}:QE X e dNo:=λ_ _ _ _ _ _ _ _ h=>h.elim
def br4{i:Nat}{x:Str}{pos:Pos}(hN:X.N[i]?=some x)(hv:Vis X.env.scope x)(hp:En x=true):QE X (.Name x pos) (Aa i):=by
 intro Ex _ ξ s σ H Q I h
 unfold Aa at h
 split at h
 .rename_i v e
  exact bp3 hN hv (Ql hp).1 (Ql hp).2.1 ξ s σ H Q I ⟨v,e,h⟩
 .exact h.elim
def a52(O:GOk X G)(x:Str)(pos:Pos):QE X (.Name x pos) (aw5 G x):=by
 unfold aw5
 split
 .rename_i i e
  split
  .rename_i hp
   have hi:=Er e
   exact br4 (by rw[O.N];exact hi) (O.vis x (ak hi)) hp
  .exact Bx
 .split
  .rename_i hg
   have dd:=Va hg
   split
   .rename_i v u e
    obtain⟨h1,h2⟩:=O.at_ x _ e
    exact λ_ _=>Kx (O.gl hg) h1 h2 dd.1
   .rename_i C oi e
    exact λ_ _=>Kx (O.gl hg) (O.at_ x _ e).1 rfl dd.1
   .rename_i C oi e
    exact λ_ _=>Kx (O.gl hg) (O.at_ x _ e).1 rfl dd.1
   .rename_i C i e
    exact λ_ _=>Kx (O.gl hg) (O.at_ x _ e).1 rfl dd.1
   .exact Bx
   .split
    .rename_i hb
     split
     .rename_i T e
      exact λ_ _=>a36 (O.gl hg) (O.bl x hb) (ad0 e) rfl dd.2.2 dd.1
     .exact Bx
    .exact Bx
  .exact Bx
noncomputable def aw4:Const->DE
 |.int i=>dC (.int i)
 |.bool b=>dC (.bl b)
 |.none=>dC .non
 |.str x=>dC (.str x)
 |_=>dNo
def ap3(c:Const)(j:Nat)(pos:Pos):QE X (.Constant c j pos) (aw4 c):=by
 cases c with
 |int i=>exact λ_ _=>bo7
 |bool b=>exact λ_ _=>b20
 |none=>exact λ_ _=>bo9
 |str x=>exact λ_ _=>bp1
 |_=>exact Bx
variable {a b c:Expr}{da db dc:DE}{ta tb:DT}{es:List Expr}{r:DA}{pos:Pos}
def bq3(op:nC)(ha:QE X a da)(hb:QE X b db):QE X (.BinOp a op b pos) (Ah (rOp X.K op) da db):=λEx m=>b22 (ca5 op) (ha Ex m) (hb Ex m)
def bq9(ha:QE X a da):QE X (.UnaryOp .USub a pos) (dUn Tq da):=λEx m=>bb4 cf1 (ha Ex m)
def bq6(ha:QE X a da):QE X (.UnaryOp .Invert a pos) (dUn Yl da):=λEx m=>bb4 bx6 (ha Ex m)
def bq5(hu:X.A.units+64<cLine)(op:mK)(ha:QE X a da)(hb:QE X b db)(hm:g9 op b=false):QE X (.Compare a [op] [b] pos) (Ah (Jp X.K op) da db):=λEx m=>a37 (Oi hu op) (ha Ex m) (hb Ex m) hm
def bs2(hu:X.A.units+64<cLine)(op:mK)(ha:QE X a da)(hb:QE X b db)(hm:g9 op b=false):QT X (.Compare a [op] [b] pos) (Bl (Ah (Jp X.K op) da db)):=by
 intro Ex m ξ s σ H Q I h
 refine wpAny_isTrue_Compare1 (thn (ha Ex m ξ s σ H _ I h) λv s1 ⟨x,H1,I1,r1,q1⟩=>thn (hb Ex m ξ s1 σ H1 _ I1 q1) λu s2 ⟨y,H2,I2,r2,q2⟩=>
  thn (Oi hu op ξ s2 σ H2 x y v u _ I2 r1 r2 q2) λc s3 ⟨z,H3,I3,r3,q3⟩=>?_) hm
 cases z with
 |bl k=>cases r3;exact ff ⟨H3,I3,q3⟩
 |_=>exact(q3).elim
def ap2(hu:X.A.units+64<cLine)(op op':mK)(ha:QE X a da)(hb:QE X b db)(hc:QE X c dc)(hm:ma [op,op'] [b,c]=false) :
  QE X (.Compare a [op,op'] [b,c] pos) (Dw (Jp X.K op) (Jp X.K op') da db dc):=by
 intro Ex m ξ s σ H Q I h
 refine Compare_chain (thn (ha Ex m ξ s σ H _ I h) λv s1 ⟨x,H1,I1,r1,q1⟩=>chain_link (thn (hb Ex m ξ s1 σ H1 _ I1 q1) λu s2 ⟨y,H2,I2,r2,q2⟩=>
  thn (Oi hu op ξ s2 σ H2 x y v u _ I2 r1 r2 q2) λd s3 ⟨z,H3,I3,r3,q3⟩=>?_)) hm
 cases z with
 |bl k=>
  cases r3
  refine ff ?_
  cases k with
  |false=>exact ite_ff ⟨.bl false,H3,I3,rfl,q3⟩
  |true=>exact ite_tt (chain_last (thn (hc Ex m ξ s3 σ H3 _ I3 q3) λw' s4 ⟨z',H4,I4,r4,q4⟩=>Oi hu op' ξ s4 σ H4 y z' u w' Q I4 r2 r4 q4))
 |_=>exact(q3).elim
def aq2(hu:X.A.units+64<cLine)(op op':mK)(ha:QE X a da)(hb:QE X b db)(hc:QE X c dc)(hm:ma [op,op'] [b,c]=false) :
  QT X (.Compare a [op,op'] [b,c] pos) (Bl (Dw (Jp X.K op) (Jp X.K op') da db dc)):=by
 intro Ex m ξ s σ H Q I h
 refine isTrue_chain (thn (ha Ex m ξ s σ H _ I h) λv s1 ⟨x,H1,I1,r1,q1⟩=>test_link (thn (hb Ex m ξ s1 σ H1 _ I1 q1) λu s2 ⟨y,H2,I2,r2,q2⟩=>
  thn (Oi hu op ξ s2 σ H2 x y v u _ I2 r1 r2 q2) λd s3 ⟨z,H3,I3,r3,q3⟩=>?_)) hm
 cases z with
 |bl k=>
  cases r3
  refine ff ?_
  cases k with
  |false=>exact ite_ff ⟨H3,I3,q3⟩
  |true=>
   refine ite_tt (test_last (thn (hc Ex m ξ s3 σ H3 _ I3 q3) λw' s4 ⟨z',H4,I4,r4,q4⟩=>thn (Oi hu op' ξ s4 σ H4 y z' u w' _ I4 r2 r4 q4) λd' s5 ⟨z2,H5,I5,r5,q5⟩=>?_))
   cases z2 with
   |bl k2=>cases r5;exact ff ⟨H5,I5,q5⟩
   |_=>exact(q5).elim
 |_=>exact(q3).elim
def ao4:Expr->Bool
 |.UnaryOp .Not _ _=>false
 |.BoolOp _ _ _=>false
 |.IfExp _ _ _ _=>false
 |.Compare _ _ _ _=>false
 |_=>true
def aa6{e:Expr}(h:ao4 e=true)(whole:Sem Value):isTrue e X.env whole=(do let v <- whole;standAt e.pos;holding [v] (truthy v)):=by
 cases e with
 |UnaryOp op _ _=>cases op <;> first|rfl|cases h
 |BoolOp _ _ _=>cases h
 |IfExp _ _ _ _=>cases h
 |Compare _ _ _ _=>cases h
 |_=>rfl
def aq3(ha:QE X a da)(h:ao4 a=true):QT X a (B9 X.K da):=by
 intro Ex m ξ s σ H Q I hw
 exact isTrue_plain (thn (ha Ex m ξ s σ H _ I hw) λv s1 ⟨x,H1,I1,r1,q1⟩=>Y0 ξ s1 σ H1 x v Q I1 r1 q1) (aa6 h _)
def bs3(ha:QT X a ta):QT X (.UnaryOp .Not a pos) (C5 ta):=λEx m=>bp9 (ha Ex m)
def a60(ha:QT X a ta):QW X (.BoolOp .And [a] pos) ta:=λEx m=>a47 (ha Ex m)
def bs5(ha:QT X a ta):QW X (.BoolOp .Or [a] pos) ta:=λEx m=>bq1 (ha Ex m)
def bs4(ha:QT X a ta)(hb:QW X (.BoolOp .And (b::es) pos) tb):QW X (.BoolOp .And (a::b::es) pos) (Nb ta tb):=λEx m=>bq0 (ha Ex m) (hb Ex m)
def b33(ha:QT X a ta)(hb:QW X (.BoolOp .Or (b::es) pos) tb):QW X (.BoolOp .Or (a::b::es) pos) (dOr ta tb):=λEx m=>b26 (ha Ex m) (hb Ex m)
def br1{op:BoolOp}(ha:QE X a da):QE X (.BoolOp op [a] pos) da:=λEx m=>bp0 (ha Ex m)
def bq2(ha:QE X a da)(hb:QE X (.BoolOp .And (b::es) pos) db):QE X (.BoolOp .And (a::b::es) pos) (Hh X.K da db):=by
 intro Ex m ξ s σ H Q I h
 refine BoolOp_and (thn (ha Ex m ξ s σ H _ I h) λv s1 ⟨x,H1,I1,r1,q1⟩=>thn (Y0 ξ s1 σ H1 x v _ I1 r1 q1) λk s2 ⟨H2,I2,q2⟩=>?_)
 cases k with
 |true=>exact hb Ex m ξ s2 σ H2 Q I2 q2
 |false=>exact⟨x,H2,I2,r1,q2⟩
def b31(ha:QE X a da)(hb:QE X (.BoolOp .Or (b::es) pos) db):QE X (.BoolOp .Or (a::b::es) pos) (bv7 X.K da db):=by
 intro Ex m ξ s σ H Q I h
 refine BoolOp_or (thn (ha Ex m ξ s σ H _ I h) λv s1 ⟨x,H1,I1,r1,q1⟩=>thn (Y0 ξ s1 σ H1 x v _ I1 r1 q1) λk s2 ⟨H2,I2,q2⟩=>?_)
 cases k with
 |false=>exact hb Ex m ξ s2 σ H2 Q I2 q2
 |true=>exact⟨x,H2,I2,r1,q2⟩
def br0(ha:QE X a da):QE X (.UnaryOp .Not a pos) (Xz X.K da):=by
 intro Ex m ξ s σ H Q I h
 exact UnaryOp_ (thn (ha Ex m ξ s σ H _ I h) λv s1 ⟨x,H1,I1,r1,q1⟩=>not_of (thn (Y0 ξ s1 σ H1 x v _ I1 r1 q1) λk s2 ⟨H2,I2,q2⟩=>⟨.bl (!k),H2,I2,rfl,q2⟩))
def noStar:Expr->Bool
 |.Starred _ _=>false
 |_=>true
def A3{e:Expr}(h:noStar e=true)(es:List Expr)(env:Env):c9 (e::es) env=(false,eval e env)::c9 es env:=by
 cases e with
 |Starred _ _=>cases h
 |_=>rfl
def Cp{es:List Expr}(h:es.all noStar=true)(env:Env)(pos:Pos):(kJ pos (c9 es env)).any (·.1)=false:=by
 induction es with
 |nil=>rfl
 |cons e es ih=>
  rw[b7,aV] at h
  rw[A3 h.1]
  show(false||(kJ pos (c9 es env)).any (·.1))=false
  rw[ih h.2]
  rfl
def J0{es:List Expr}(h:es.all noStar=true)(env:Env)(pos:Pos):(kJ pos (c9 es env)).all (λx=>!x.1)=true:=by
 induction es with
 |nil=>rfl
 |cons e es ih=>
  rw[b7,aV] at h
  rw[A3 h.1]
  show(true&&(kJ pos (c9 es env)).all (λx=>!x.1))=true
  rw[ih h.2]
  rfl
def Qm:QA X [] Ag:=λ_ _=>bo6
def Ky(ha:QE X a da)(hr:QA X es r)(hs:noStar a=true):QA X (a::es) (Ab da r):=λEx m=>a35 (ha Ex m) (hr Ex m) (A3 hs es X.env)
def br3{k:Nat}(h:QA X es r):QE X (.Tuple es k pos) (Eh r):=λEx m=>bp2 (h Ex m)
def bq7(h:QA X es r):QE X (.List es pos) (Cf r):=λEx m=>bo8 (h Ex m)
def Gh:Expr->Bool
 |.Slice _ _ _ _=>false
 |_=>true
def Vl{e:Expr}(h:Gh e=true):Xi e:=by
 intro o i
 cases e with
 |Slice _ _ _ _=>cases h
 |_=>rfl
def b27(hu:X.A.units+64<cLine)(ha:QE X a da)(hb:QE X b db)(h:Gh b=true):QE X (.Subscript a b pos) (Ah (A7 X.K) da db):=λEx m=>b21 (ca3 hu) (ha Ex m) (hb Ex m) (Vl h)
def a48{f:Str}(ha:QE X a da)(h:jW a f X.env (eval a X.env)=eval a X.env):QE X (.Attribute a f pos) (dUn (Bm X.K f) da):=by
 intro Ex m ξ s σ H Q I hw
 exact Xq h (thn (ha Ex m ξ s σ H _ I hw) λu s1 ⟨x,H1,I1,rx,q⟩=>bw4 I1 rx q)
end
end L2
namespace PySem.SeqAt
open AutoSeq1 (wpAny_loadPart')
open MeetsSeq MeetsSeq2 MeetsSeq3
end PySem.SeqAt
namespace PySem.W
open PySem PySem.Calls PyProof.Rows
def kRun{α:Type}(n:Nat)(lt:Nat->Nat->Bool):KasT α->Option α
 |.ret a=>some a
 |.ask i j k=>if i<n/\j<n then kRun n lt (k (lt i j)) else none
theorem kRun_wp{α:Type}{n:Nat}{lt:Nat->Nat->Bool}{cmp:Nat->Nat->(Bool->am->Prop)->am->Prop}{G:α->am->Prop}{s:am}(h:∀i j C,i<n->j<n->C (lt i j) s->cmp i j C s) :
  ∀{t} {a},kRun n lt t=some a->G a s->t.kasWp cmp G s
 | .ret b,a,e,g=>by
  have:b=a:=aG e
  subst this
  exact g
 | .ask i j k,a,e,g=>by
  unfold kRun at e
  split at e
  .rename_i hij
   exact h i j _ hij.1 hij.2 (kRun_wp h e g)
  .cases e
section
variable {prog:aO}{w:bw}{A:bq}{E:Value->am->Prop}{s:am}{vs:List Value}
def SoFin(a:Addr)(e:Nat)(out:List Value)(C:am->Prop)(s:am):Prop:=
 s.heap.get? a=some (bD "list" #[] e)/\∀h' c,h'.get? a=some (bD "list" (fh out) c)->bO a s.heap h'->C {s with heap:=h'}
def SoFin.mono{a:Addr}{e:Nat}{out:List Value}{C C':am->Prop}(h:SoFin a e out C s)(hc:∀s,C s->C' s):SoFin a e out C' s:=⟨h.1,λh' c x y=>hc _ (h.2 h' c x y)⟩
def Qw{n:Nat}{a:Addr}{P:mQ->am->Prop}(ho:s.heap.get? a=some (bD "list" vs.toArray n))(h2:2<=vs.length)(h64:vs.length<64)(h:∀e1 h',h'.get? a=some (bD "list" #[] e1)->(∀b o,b≠a->s.heap.get? b=some o->h'.get? b=some o) ->
   aS (model prog w) A (jY vs.toArray) (λκ s'=>(kas_sort vs.length).kasWp (kas_ask prog w A κ vs) (λp s''=>SoFin a e1 (p.toList.map λi=>vs.getD i bP) (λs3=>P (.done (.ret .none)) s3) s'') s') (λ_ _=>False) {s with heap:=h'}) :
  aS (model prog w) A (a9.«list.sort» ⟨[.ref a],[]⟩) P E s:=by
 have ha:=aH ho
 have s1:=bU s.heap a (bG λ_=>(#[]:Array Value))
 obtain⟨e1,ho1⟩:∃e1,(s.heap.update a (bG λ_=>(#[]:Array Value))).get? a=some (bD "list" #[] e1):=⟨_,eY ho λ_=>#[]⟩
 have ask:=h e1 (((s.heap.update a (bG λ_=>(#[]:Array Value))).push (bD "tuple" vs.toArray 0)).push (bD "list" #[] 0)) (ah _ (ah _ ho1))
  (λb o nb e=>ah _ (ah _ ((s1.2 b nb).trans e)))
 rw[list_sort_plain]
 refine af (kO ho rfl ?_)
 refine af (fI ho rfl ?_ (by rw[au,bQ];omega) (bu _))
 refine af (i4 ho1 rfl ?_)
 refine af (lL ?_ (by show vs.length<=_;rw[bQ];omega))
 refine af (hJ ?_ (bu _))
 refine bC ?_
 have hn2:¬ vs.toArray.size<2:=by rw[au];omega
 rw[if_neg hn2,if_neg hn2]
 refine af (bH ask (λκ s0 hk=>?_) λ_ _ x=>x.elim)
 refine af (bH (kat_run (Q:=λst' s'=>∃p,p.size=vs.length/\arrOf st'=p.map (kas_item (vs.toArray.zip vs.toArray))/\failedOf st'=none/\SoFin a e1 (p.toList.map λi=>vs.getD i bP) (λs''=>P (.done (.ret .none)) s'') s')
  rfl h2 h64 (λp' st' s' a1 a2 a3 a4=>⟨p',a1,a2,a3,a4⟩) hk) ?_ λ_ _ e=>e)
 rintro⟨⟨⟩,st'⟩ s' ⟨p,hp,har,hf,na,k⟩
 dsimp only
 have hout:=kat_snds rfl har
 have hsz:(fh (p.toList.map λi=>vs.getD i bP)).size=vs.length:=by rw[au,ae,bT,hp]
 rw[hout]
 have s2:=bU s'.heap a (bG λ_=>fh (p.toList.map λi=>vs.getD i bP))
 obtain⟨c2,hc2⟩:∃c2,(s'.heap.update a (bG λ_=>fh (p.toList.map λi=>vs.getD i bP))).get? a=some (bD "list" (fh (p.toList.map λi=>vs.getD i bP)) c2):=⟨_,eY na λ_=>fh (p.toList.map λi=>vs.getD i bP)⟩
 refine af (i4 na rfl ?_)
 refine af (fI na rfl ?_ (bu _) (aT (mD hsz) (by rw[bQ];omega)))
 rw[hf]
 simp only[bne_self_eq_false,dn,if_false]
 exact aq (k _ c2 hc2 s2)
end
end PySem.W
namespace L2
open PySem PySem.Spec PyProof.Rows
def Fe:cz "sorted"=some (.builtin "sorted"):=by decide +kernel
end L2
namespace PySem.W
open PySem PySem.Calls PyProof.Rows
section
variable {n:Nat}{lt:Nat->Nat->Bool}
theorem Dr{α β:Type}{f:α->KasT β}:∀t,kRun n lt (t.bind f)=(kRun n lt t).bind λa=>kRun n lt (f a)
 |.ret a=>rfl
 | .ask i j k=>by
  show(if i<n/\j<n then kRun n lt ((k (lt i j)).bind f) else none)=(if i<n/\j<n then kRun n lt (k (lt i j)) else none).bind _
  by_cases h:i<n/\j<n
  .rw[if_pos h,if_pos h,Dr (k (lt i j))]
  .rw[if_neg h,if_neg h];rfl
structure Tot (n:Nat) (lt:Nat->Nat->Bool):Prop where
 tot:∀i j,i<n->j<n->i≠j->lt i j = !lt j i
 tr:∀i j k,i<n->j<n->k<n->lt i j=true->lt j k=true->lt i k=true
def pg(p:Array Nat)(i:Nat):Nat:=p.getD i 0
def PermN(n:Nat)(p:Array Nat):Prop:=p.toList.Perm (aZ n)
theorem PermN.size{p:Array Nat}(h:PermN n p):p.size=n:=by
 have:=h.length_eq
 simpa using this
def pg_get{p:Array Nat}{i:Nat}(h:i<p.size):p[i]?=some (pg p i):=by
 unfold pg
 rw[Array.getD_eq_getD_getElem?,eE h]
 rfl
def PermN.bd{p:Array Nat}(h:PermN n p){i:Nat}(hi:i<n):pg p i<n:=by
 have hs:i<p.size:=by rw[h.size];exact hi
 have hm:pg p i∈p.toList:=by
  have:=pg_get hs
  rw[<- ck] at this
  exact ak this
 exact List.mem_range.mp (h.mem_iff.mp hm)
def PermN.inj{p:Array Nat}(h:PermN n p){i j:Nat}(hi:i<n)(hj:j<n)(e:pg p i=pg p j):i=j:=by
 have nd:=(h.nodup_iff).mpr List.nodup_range
 have ei:=pg_get (by rw[h.size];exact hi)
 have ej:=pg_get (by rw[h.size];exact hj)
 rw[<- ck] at ei ej
 have li:i<p.toList.length:=by rw[bT,h.size];exact hi
 refine(List.getElem?_inj li nd).mp ?_
 rw[ei,ej,e]
def Srt(lt:Nat->Nat->Bool)(p:Array Nat)(m:Nat):Prop:=∀i j,i<j->j<m->lt (pg p i) (pg p j)=true
def Dsc(lt:Nat->Nat->Bool)(p:Array Nat)(m:Nat):Prop:=∀i j,i<j->j<m->lt (pg p j) (pg p i)=true
def Ek{α:Type}{i j:Nat}{k:Bool->KasT α}(hi:i<n)(hj:j<n):kRun n lt (.ask i j k)=kRun n lt (k (lt i j)):=if_pos ⟨hi,hj⟩
variable (T:Tot n lt) {p:Array Nat} (h:PermN n p)
include T h
theorem Hc:∀f k,1<=k->k+f<=n->Srt lt p k -> ∃m,kRun n lt (nK p f k)=some m/\k<=m/\m<=k+f/\Srt lt p m
 |0,k,h1,h2,hs=>⟨k,rfl,ag _,ag _,hs⟩
 | f+1,k,h1,h2,hs=>by
  have e:kRun n lt (nK p (f+1) k)=kRun n lt (if lt (pg p k) (pg p (k-1))=true then .ret k else nK p f (k+1)):=Ek (h.bd (by omega)) (h.bd (by omega))
  rw[e]
  cases c:lt (pg p k) (pg p (k-1)) with
  |true=>exact⟨k,rfl,ag _,by omega,hs⟩
  |false=>
   have c1:lt (pg p (k-1)) (pg p k)=true:=by
    rw[T.tot _ _ (h.bd (by omega)) (h.bd (by omega)) (λq=>by have:=h.inj (by omega) (by omega) q;omega),c];rfl
   obtain⟨m,r1,r2,r3,r4⟩:=Hc f (k+1) (by omega) (by omega) (λi j hij hj=>by
    by_cases hk:j<k
    .exact hs i j hij hk
    .have:j=k:=by omega
     subst this
     by_cases hi:i=j-1
     .subst hi;exact c1
     .exact T.tr _ _ _ (h.bd (by omega)) (h.bd (by omega)) (h.bd (by omega)) (hs i (j-1) (by omega) (by omega)) c1)
   exact⟨m,r1,by omega,by omega,r4⟩
theorem R6:∀f k,1<=k->k+f<=n->Dsc lt p k -> ∃m,kRun n lt (l_ f p k 0)=some (p,m,0)/\k<=m/\m<=k+f/\Dsc lt p m
 |0,k,h1,h2,hs=>⟨k,rfl,ag _,ag _,hs⟩
 | f+1,k,h1,h2,hs=>by
  have e:kRun n lt (l_ (f+1) p k 0)=kRun n lt (if lt (pg p k) (pg p (k-1))=true then(if 0 > 0 then l_ f (kL p (k-(0+1)) k) (k+1) 0 else l_ f p (k+1) 0) else .ask (pg p (k-1)) (pg p k) λd=>if d=true then .ret (p,k,0) else l_ f p (k+1) (0+1)):=Ek (h.bd (by omega)) (h.bd (by omega))
  rw[e]
  cases c:lt (pg p k) (pg p (k-1)) with
  |true=>
   rw[if_pos rfl,if_neg (by omega)]
   obtain⟨m,r1,r2,r3,r4⟩:=R6 f (k+1) (by omega) (by omega) (λi j hij hj=>by
    by_cases hk:j<k
    .exact hs i j hij hk
    .have:j=k:=by omega
     subst this
     by_cases hi:i=j-1
     .subst hi;exact c
     .exact T.tr _ _ _ (h.bd (by omega)) (h.bd (by omega)) (h.bd (by omega)) c (hs i (j-1) (by omega) (by omega)))
   exact⟨m,r1,by omega,by omega,r4⟩
  |false=>
   have c1:lt (pg p (k-1)) (pg p k)=true:=by
    rw[T.tot _ _ (h.bd (by omega)) (h.bd (by omega)) (λq=>by have:=h.inj (by omega) (by omega) q;omega),c];rfl
   rw[if_neg aA,Ek (h.bd (by omega)) (h.bd (by omega)),c1]
   exact⟨k,rfl,ag _,by omega,hs⟩
omit T in
def a64{m:Nat}(hm:m<=n)(hd:Dsc lt p m):PermN n (kL p 0 m)/\Srt lt (kL p 0 m) m:=by
 have hp:PermN n (kL p 0 m):=by
  have:=mirror_perm p 0 m ((m-0)/2)
  exact(Array.perm_iff_toList_perm.mp this).trans h
 have gt:∀k,k<m->pg (kL p 0 m) k=pg p (m-1-k):=λk hk=>by
  have e:=getElem?_mirror_all (i:=0) (by rw[h.size];exact hm) k
  have e1:(kL p 0 m)[k]?=some (pg (kL p 0 m) k):=pg_get (by rw[hp.size];omega)
  have e2:p[m-1-k]?=some (pg p (m-1-k)):=pg_get (by rw[h.size];omega)
  have e':(kL p 0 m)[k]?=p[m-1-k]?:=by
   refine e.trans ?_
   rw[if_pos (by omega)]
   congr 1
   omega
  rw[e1,e2] at e'
  exact aG e'
 refine⟨hp,λi j hij hj=>?_⟩
 rw[gt i (by omega),gt j hj]
 exact hd _ _ (by omega) (by omega)
def Ze(hn:1<=n):∃m p',kRun n lt (kas_count n p)=some (m,p')/\PermN n p'/\1<=m/\m<=n/\Srt lt p' m:=by
 obtain⟨m,r1,r2,r3,r4⟩:=Hc T h (n-1) 1 (ag _) (by omega) (λi j hij hj=>by omega)
 unfold kas_count
 rw[Dr,r1,cG]
 by_cases hm:m=n
 .have e:(m==n)=true:=by rw[hm];exact beq_self_eq_true n
  rw[if_pos e]
  exact⟨m,p,rfl,h,r2,by omega,r4⟩
 .have e:¬ (m==n)=true:=λq=>hm (beq_iff_eq.mp q)
  rw[if_neg e]
  by_cases h1:m > 1
  .rw[if_pos h1]
   have:=Ek (lt:=lt) (k:=λc=>if c=true then KasT.ret (m,p) else kas_descPart m n (kL p 0 m)) (h.bd (i:=0) (by omega)) (h.bd (i:=m-1) (by omega))
   refine⟨m,p,this.trans ?_,h,r2,by omega,r4⟩
   have e1:=r4 0 (m-1) (by omega) (by omega)
   rw[e1]
   rfl
  .rw[if_neg h1]
   have hm1:m=1:=by omega
   subst hm1
   unfold kas_descPart
   have hd:∃d,kRun n lt (l_ (n-(1+1)) p (1+1) 0)=some (p,d,0)/\1<=d/\d<=n/\Dsc lt p d:=by
    by_cases c:lt (pg p 1) (pg p 0)=true
    .obtain⟨d,q1,q2,q3,q4⟩:=R6 T h (n-2) 2 (by omega) (by omega) (λi j hij hj=>by
      have:i=0:=by omega
      have:j=1:=by omega
      subst i j;exact c)
     exact⟨d,q1,by omega,by omega,q4⟩
    .exfalso
     have e:=Hc T h (n-1) 1 (ag _) (by omega) (λi j hij hj=>by omega)
     obtain⟨m',a1,a2,a3,a4⟩:=e
     obtain⟨f,hf⟩:∃f,n-1=f+1:=⟨n-2,by omega⟩
     rw[hf] at r1
     have e2:kRun n lt (nK p (f+1) 1)=kRun n lt (if lt (pg p 1) (pg p (1-1))=true then .ret 1 else nK p f (1+1)):=Ek (h.bd (by omega)) (h.bd (by omega))
     rw[e2,if_neg c] at r1
     have c0:lt (pg p 1) (pg p 0)=false:=by simpa using c
     have c1:lt (pg p 0) (pg p 1)=true:=by
      rw[T.tot _ _ (h.bd (by omega)) (h.bd (by omega)) (λq=>by have:=h.inj (by omega) (by omega) q;omega),c0];rfl
     obtain⟨m2,b1,b2,b3,b4⟩:=Hc T h f 2 (by omega) (by omega) (λi j hij hj=>by
      have:i=0:=by omega
      have:j=1:=by omega
      subst i j;exact c1)
     rw[r1] at b1
     cases b1
     omega
   obtain⟨d,q1,q2,q3,q4⟩:=hd
   rw[Dr,q1,cG]
   show ∃m p',kRun n lt (if 0 > 0 then _ else kas_tail3 d n p)=some (m,p')/\_
   rw[if_neg (by omega)]
   unfold kas_tail3
   obtain⟨hp,hs⟩:=a64 h q3 q4
   obtain⟨m',a1,a2,a3,a4⟩:=Hc T hp (n-d) d q2 (by omega) hs
   rw[Dr,a1,cG]
   exact⟨m',_,rfl,hp,by omega,by omega,a4⟩
theorem Jl{k:Nat}(hk:k<n)(hs:Srt lt p k):∀f l r,l<=r->r<=k->r-l<=f->(∀i,i<l->lt (pg p i) (pg p k)=true)->(∀i,r<=i->i<k->lt (pg p k) (pg p i)=true) ->
  ∃m,kRun n lt (i3 p k f l r)=some m/\m<=k/\(∀i,i<m->lt (pg p i) (pg p k)=true)/\(∀i,m<=i->i<k->lt (pg p k) (pg p i)=true)
 |0,l,r,h1,h2,h3,hl,hr=>⟨l,rfl,by omega,hl,λi a b=>hr i (by omega) b⟩
 | f+1,l,r,h1,h2,h3,hl,hr=>by
  by_cases hlr:l ≥ r
  .have e:i3 p k (f+1) l r=.ret l:=by unfold i3;rw[if_pos hlr]
   rw[e]
   exact⟨l,rfl,by omega,hl,λi a b=>hr i (by omega) b⟩
  .have e:kRun n lt (i3 p k (f+1) l r)=kRun n lt (if lt (pg p k) (pg p ((l+r)/2))=true then i3 p k f l ((l+r)/2) else i3 p k f ((l+r)/2+1) r):=by
    conv=>lhs;unfold i3
    rw[if_neg hlr]
    exact Ek (h.bd hk) (h.bd (by omega))
   rw[e]
   have hm1:l<=(l+r)/2:=by omega
   have hm2:(l+r)/2<r:=by omega
   generalize (l+r)/2=mid at hm1 hm2 ⊢
   cases c:lt (pg p k) (pg p mid) with
   |true=>
    rw[if_pos rfl]
    refine Jl hk hs f l mid hm1 (by omega) (by omega) hl λi a b=>?_
    by_cases hi:i=mid
    .subst hi;exact c
    .exact T.tr _ _ _ (h.bd hk) (h.bd (by omega)) (h.bd (by omega)) c (hs mid i (by omega) b)
   |false=>
    rw[if_neg aA]
    have c1:lt (pg p mid) (pg p k)=true:=by
     rw[T.tot _ _ (h.bd (by omega)) (h.bd hk) (λq=>by have:=h.inj (by omega) hk q;omega),c];rfl
    refine Jl hk hs f (mid+1) r (by omega) h2 (by omega) (λi a=>?_) hr
    by_cases hi:i=mid
    .subst hi;exact c1
    .exact T.tr _ _ _ (h.bd (by omega)) (h.bd (by omega)) (h.bd hk) (hs i mid (by omega) (by omega)) c1
omit T in
def Um{k l:Nat}(hk:k<n)(hl:l<=k)(hs:Srt lt p k)(h1:∀i,i<l->lt (pg p i) (pg p k)=true)(h2:∀i,l<=i->i<k->lt (pg p k) (pg p i)=true):PermN n (nv p k (k-l))/\Srt lt (nv p k (k-l)) (k+1):=by
 have hp:PermN n (nv p k (k-l)):=(Array.perm_iff_toList_perm.mp (bubble_perm p k (k-l))).trans h
 have hk':k<p.size:=by rw[h.size];exact hk
 have gt:∀i,i<k+1->pg (nv p k (k-l)) i=if i=l then pg p k else if l<i then pg p (i-1) else pg p i:=λi hi=>by
  have e:=getElem?_bubble hk' (k-l) (by omega) i
  have e1:(nv p k (k-l))[i]?=some (pg (nv p k (k-l)) i):=pg_get (by rw[hp.size];omega)
  rw[e1,show k-(k-l)=l by omega] at e
  by_cases a:i=l
  .rw[if_pos a] at e ⊢
   rw[pg_get hk'] at e
   exact aG e
  .rw[if_neg a] at e ⊢
   by_cases b:l<i
   .rw[if_pos ⟨b,by omega⟩] at e
    rw[if_pos b]
    rw[pg_get (by rw[h.size];omega)] at e
    exact aG e
   .rw[if_neg (λq=>b q.1)] at e
    rw[if_neg b]
    rw[pg_get (by rw[h.size];omega)] at e
    exact aG e
 refine⟨hp,λi j hij hj=>?_⟩
 rw[gt i (by omega),gt j hj]
 by_cases a:i=l
 .rw[if_pos a,if_neg (by omega),if_pos (by omega)]
  exact h2 (j-1) (by omega) (by omega)
 .rw[if_neg a]
  by_cases b:l<i
  .rw[if_pos b,if_neg (by omega),if_pos (by omega)]
   exact hs (i-1) (j-1) (by omega) (by omega)
  .rw[if_neg b]
   by_cases c:j=l
   .rw[if_pos c];exact h1 i (by omega)
   .rw[if_neg c]
    by_cases d:l<j
    .rw[if_pos d]
     exact hs i (j-1) (by omega) (by omega)
    .rw[if_neg d];exact hs i j hij (by omega)
end
theorem Xs{n:Nat}{lt:Nat->Nat->Bool}(T:Tot n lt):∀f p k,PermN n p->k+f=n->Srt lt p k -> ∃p',kRun n lt (kas_bin f p k)=some p'/\PermN n p'/\Srt lt p' n
 |0,p,k,h,e,hs=>⟨p,rfl,h,by rw[<- e];exact hs⟩
 | f+1,p,k,h,e,hs=>by
  obtain⟨l,a1,a2,a3,a4⟩:=Jl T h (by omega) hs k 0 k (bu _) (ag _) (by omega) (λi hi=>by omega) (λi a b=>by omega)
  obtain⟨b1,b2⟩:=Um h (by omega) a2 hs a3 a4
  obtain⟨p',c1,c2,c3⟩:=Xs T f _ (k+1) b1 (by omega) b2
  refine⟨p',?_,c2,c3⟩
  show kRun n lt ((i3 p k k 0 k).bind λl=>kas_bin f (nv p k (k-l)) (k+1))=some p'
  rw[Dr,a1]
  exact c1
def sort_run{n:Nat}{lt:Nat->Nat->Bool}(T:Tot n lt)(hn:1<=n):∃p,kRun n lt (kas_sort n)=some p/\PermN n p/\Srt lt p n:=by
 have h0:PermN n (fh (aZ n)):=by show(fh (aZ n)).toList.Perm _;exact je _
 obtain⟨m,p,r1,r2,r3,r4,r5⟩:=Ze T h0 hn
 unfold kas_sort
 rw[Dr,r1,cG]
 by_cases h:m<n
 .rw[if_pos h,Nat.max_eq_left r3]
  exact Xs T (n-m) p m r2 (by omega) r5
 .rw[if_neg h]
  have:m=n:=by omega
  subst this
  exact⟨p,rfl,r2,r5⟩
end PySem.W
namespace L2
open PySem PySem.Spec PyProof.Rows
section
variable {α:Type}
def Zs(lt:α->α->Bool)(z:α):List α->List α
 |[]=>[z]
 |y::ys=>if lt z y=true then z::y::ys else y::Zs lt z ys
def Ck(lt:α->α->Bool):List α->List α
 |[]=>[]
 |z::zs=>Zs lt z (Ck lt zs)
structure OrdL (lt:α->α->Bool) (zs:List α):Prop where
 tot:∀a∈zs,∀b∈zs,a≠b->lt a b = !lt b a
 tr:∀a∈zs,∀b∈zs,∀c∈zs,lt a b=true->lt b c=true->lt a c=true
 nd:zs.Nodup
theorem Ja(lt:α->α->Bool)(z:α):∀ys,(Zs lt z ys).Perm (z::ys)
 |[]=>je _
 | y::ys=>by
  unfold Zs
  split
  .exact je _
  .exact ((Ja lt z ys).cons y).trans (List.Perm.swap z y ys)
theorem Au(lt:α->α->Bool):∀zs,(Ck lt zs).Perm zs
 |[]=>je _
 |z::zs=>(Ja lt z _).trans ((Au lt zs).cons z)
def OrdL.of{lt:α->α->Bool}{zs ys:List α}(h:OrdL lt zs)(hs:∀a∈ys,a∈zs)(nd:ys.Nodup):OrdL lt ys:=⟨λa ha b hb=>h.tot a (hs a ha) b (hs b hb),λa ha b hb c hc=>h.tr a (hs a ha) b (hs b hb) c (hs c hc),nd⟩
theorem Oq{lt:α->α->Bool}{z:α}:∀{ys},OrdL lt (z::ys)->ys.Pairwise (λa b=>lt a b=true)->(Zs lt z ys).Pairwise (λa b=>lt a b=true)
 |[],_,_=>jP _ _
 | y::ys,h,hp=>by
  rw[fS] at hp
  have nd:=h.nd
  rw[bN] at nd
  have ny:=nd.2
  rw[bN] at ny
  unfold Zs
  split
  .rename_i c
   refine List.pairwise_cons.mpr ⟨λb hb=>?_,List.pairwise_cons.mpr hp⟩
   rcases List.mem_cons.mp hb with rfl|hb'
   .exact c
   .exact h.tr z (.head _) y (.tail _ (.head _)) b (.tail _ hb) c (hp.1 b hb')
  .rename_i c
   have c:lt z y=false:=by simpa using c
   have c1:lt y z=true:=by rw[h.tot y (.tail _ (.head _)) z (.head _) (λe=>nd.1 (e▸.head _)),c];rfl
   have hz:=h.of (λa ha=>by rcases List.mem_cons.mp ha with rfl|q;exact .head _;exact .tail _ (.tail _ q)) (List.nodup_cons.mpr ⟨λq=>nd.1 (.tail _ q),ny.2⟩)
   refine List.pairwise_cons.mpr ⟨λb hb=>?_,Oq hz hp.2⟩
   rcases List.mem_cons.mp ((Ja lt z ys).mem_iff.mp hb) with rfl|hb'
   .exact c1
   .exact hp.1 b hb'
theorem C7{lt:α->α->Bool}:∀{zs},OrdL lt zs->(Ck lt zs).Pairwise (λa b=>lt a b=true)
 |[],_=>List.Pairwise.nil
 | z::zs,h=>by
  have nd:=List.nodup_cons.mp h.nd
  have hz:=h.of (λa ha=>.tail _ ha) nd.2
  refine Oq (h.of (λa ha=>?_) ?_) (C7 hz)
  .rcases List.mem_cons.mp ha with rfl|q
   .exact .head _
   .exact .tail _ ((Au lt zs).mem_iff.mp q)
  .exact List.nodup_cons.mpr ⟨λq=>nd.1 ((Au lt zs).mem_iff.mp q),((Au lt zs).nodup_iff).mpr nd.2⟩
theorem Gj{lt:α->α->Bool}:∀{xs ys},OrdL lt xs->xs.Perm ys->xs.Pairwise (λa b=>lt a b=true)->ys.Pairwise (λa b=>lt a b=true)->xs=ys
 |[],ys,_,h,_,_=>(List.Perm.nil_eq h)
 |x::xs,[],_,h,_,_=>absurd h.symm.nil_eq (by simp)
 | x::xs,y::ys,o,h,hx,hy=>by
  rw[fS] at hx hy
  have e:x=y:=by
   apply jd
   intro ne
   have m1:x∈ys:=by
    have:x∈y::ys:=h.mem_iff.mp (.head _)
    rcases List.mem_cons.mp this with q|q
    .exact absurd q ne
    .exact q
   have m2:y∈xs:=by
    have:y∈x::xs:=h.mem_iff.mpr (.head _)
    rcases List.mem_cons.mp this with q|q
    .exact absurd q.symm ne
    .exact q
   have a:=hx.1 y m2
   have b:=hy.1 x m1
   rw[o.tot x (.head _) y (.tail _ m2) ne,b] at a
   cases a
  subst e
  have nd:=List.nodup_cons.mp o.nd
  rw[Gj (o.of (λa ha=>.tail _ ha) nd.2) ((List.perm_cons x).mp h) hx.2 hy.2]
def ac0{lt:α->α->Bool}{zs:List α}(d:α)(o:OrdL lt zs)(hn:1<=zs.length) :
  ∃p,PySem.W.kRun zs.length (λi j=>lt (zs.getD i d) (zs.getD j d)) (PySem.W.kas_sort zs.length)=some p/\p.toList.length=zs.length/\(∀i∈p.toList,i<zs.length)/\(p.toList.map λi=>zs.getD i d)=Ck lt zs:=by
 have gm:∀i,i<zs.length->zs.getD i d∈zs:=λi hi=>by rw[av,aj hi];exact dv hi
 have gi:∀i j,i<zs.length->j<zs.length->zs.getD i d=zs.getD j d->i=j:=λi j hi hj e=>by
  rw[av,aj hi,av,aj hj] at e
  exact(du o.nd).mp e
 obtain⟨p,h1,h2,h3⟩:=PySem.W.sort_run ⟨λi j hi hj ne=>o.tot _ (gm i hi) _ (gm j hj) (λe=>ne (gi i j hi hj e)),λi j k hi hj hk=>o.tr _ (gm i hi) _ (gm j hj) _ (gm k hk)⟩ hn
 have hp:(p.toList.map λi=>zs.getD i d).Perm zs:=by
  have q:=h2.map (λi=>zs.getD i d)
  have e:((aZ zs.length).map λi=>zs.getD i d)=zs:=by
   apply List.ext_getElem?
   intro i
   rw[al]
   by_cases hi:i<zs.length
   .rw[fv hi,aj hi,dL,av,aj hi];rfl
   .rw[c_ (by simp;omega),c_ (by omega)];rfl
  rw[e] at q
  exact q
 refine⟨p,h1,by rw[bT,h2.size],λi hi=>List.mem_range.mp (h2.mem_iff.mp hi),?_⟩
 refine Gj (o.of (λa ha=>hp.mem_iff.mp ha) ((hp.nodup_iff).mpr o.nd)) (hp.trans (Au lt zs).symm) ?_ (C7 o)
 rw[jh]
 intro i j hi hj hij
 rw[ae,bT,h2.size] at hi hj
 have g:∀k (hk:k<zs.length),∃hk',(p.toList.map λi=>zs.getD i d)[k]'hk'=zs.getD (PySem.W.pg p k) d:=λk hk=>by
  have e:=PySem.W.pg_get (by rw[h2.size];exact hk)
  rw[<- ck] at e
  obtain⟨a,b⟩:=List.getElem?_eq_some_iff.mp e
  refine⟨by rw[ae];exact a,?_⟩
  rw[dU,b]
 obtain⟨a1,b1⟩:=g i hi
 obtain⟨a2,b2⟩:=g j hj
 rw[b1,b2]
 exact h3 i j hij hj
end
def ltS(a b:Str):Bool:=decide (a.cps.toList<b.cps.toList)
def Eb{zs:List Str}(nd:zs.Nodup):OrdL ltS zs where
 nd:=nd
 tot:=λa _ b _ ne=>by
  unfold ltS
  rw[<- decide_not]
  refine decide_eq_decide.mpr ⟨λh q=>lH _ (List.lt_trans h q),λh=>?_⟩
  apply jd
  intro q
  exact ne (Str.ext' (Array.toList_inj.mp (List.le_antisymm (List.not_lt.mp h) (List.not_lt.mp q))))
 tr:=λa _ b _ c _ h q=>by
  exact decide_eq_true (List.lt_trans (of_decide_eq_true h) (of_decide_eq_true q))
end L2
namespace PySem.W
open PySem PySem.Calls PyProof.Rows
section
variable {prog:aO}{w:bw}{A:bq}{E:Value->am->Prop}{s:am}{vs:List Value}
def collect_src{T:String}{r d:Addr}{n:Nat}{P:Nat->Value->Prop}{OK:Heap->Prop}{Q:List Value->am->Prop}(K:KdlSrc prog w T r d n P OK)(hh:A.handled=none)(hok:OK s.heap)(hn:n<=sizeLine)(h:∀h' tk us,(∀b o,s.heap.get? b=some o->h'.get? b=some o)->s.heap.objs.size<h'.objs.size->us.length=n->(∀j v,us[j]?=some v->P j v)->Q us {s with heap:=h',toks:=tk}) :
  aS (model prog w) A (nH (.ref r)) Q E s:=by
 have hlt:=K.there _ hok
 refine af (wpAny_runValue (g_ entry_proto_collect' ?_))
 refine af (hJ (aq ⟨dZ _ (by decide +kernel),g_ entry_list_iadd' ?_⟩))
 rw[iI PySem.F.plain_list_iadd _]
 refine kdl_extend (R:=wants _ _) K hh (K.keep _ _ hok λb _ o e=>ah _ e) s.heap.objs.size (gQ hlt.1) (gQ hlt.2) _ 0 (aD _ rfl) (λh' tk acc' c' hk hS' hacc=>?_) hn
 show aS (model prog w) A (do
   let o <- load s.heap.objs.size
   match o.data with
   |.seq xs _=>pure xs.toList
   |_=>unsupported "internal:collect") Q E {s with heap:=h',toks:=tk}
 exact af (wpAny_load hS' (aq (h h' tk acc'.toList (λb o e=>hk b o (aR (aH e)) (ah _ e)) (aH hS') (by rw[bT];exact hacc.1) λj v e=>hacc.2 j v (by rw[<- ck];exact e))))
def Nj{n:Nat}{a:Addr}{P:mQ->am->Prop}(ho:s.heap.get? a=some (bD "list" vs.toArray n))(h2:vs.length<2)(h:∀h' c,h'.get? a=some (bD "list" vs.toArray c)->(∀b o,b≠a->s.heap.get? b=some o->h'.get? b=some o)->P (.done (.ret .none)) {s with heap:=h'}) :
  aS (model prog w) A (a9.«list.sort» ⟨[.ref a],[]⟩) P E s:=by
 have ha:=aH ho
 have s1:=bU s.heap a (bG λ_=>(#[]:Array Value))
 obtain⟨e1,ho1⟩:∃e1,(s.heap.update a (bG λ_=>(#[]:Array Value))).get? a=some (bD "list" #[] e1):=⟨_,eY ho λ_=>#[]⟩
 rw[list_sort_plain]
 refine af (kO ho rfl ?_)
 refine af (fI ho rfl ?_ (by rw[au,bQ];omega) (bu _))
 refine af (i4 ho1 rfl ?_)
 refine af (lL ?_ (by show vs.length<=_;rw[bQ];omega))
 refine af (hJ ?_ (bu _))
 refine bC ?_
 dsimp only
 have hn2:vs.toArray.size<2:=by rw[au];omega
 rw[if_pos hn2,if_pos hn2]
 refine af (aq ?_)
 rw[StateT.run_pure]
 refine af (aq ?_)
 have ho6:(((s.heap.update a (bG λ_=>(#[]:Array Value))).push (bD "tuple" vs.toArray 0)).push (bD "list" #[] 0)).get? a=some (bD "list" #[] e1):=ah _ (ah _ ho1)
 have o6:∀b o,b≠a->s.heap.get? b=some o->(((s.heap.update a (bG λ_=>(#[]:Array Value))).push (bD "tuple" vs.toArray 0)).push (bD "list" #[] 0)).get? b=some o:=λb o nb e=>ah _ (ah _ ((s1.2 b nb).trans e))
 generalize ((s.heap.update a (bG λ_=>(#[]:Array Value))).push (bD "tuple" vs.toArray 0)).push (bD "list" #[] 0)=h6 at ho6 o6 ⊢
 have hout:jr (λx=>x.snd) (arrOf (ml nJ (vs.toArray.zip vs.toArray) #[] 7 none))=vs.toArray:=by
  show jr (λx=>x.snd) (vs.toArray.zip vs.toArray)=vs.toArray
  apply Array.ext'
  simp only[Array.toList_map,Array.toList_zip]
  exact List.map_snd_zip (ag _)
 refine af (i4 ho6 rfl ?_)
 refine af (fI ho6 rfl ?_ (bu _) (by rw[hout,au,bQ];omega))
 have s2:=bU h6 a (bG λ_=>jr (λx=>x.snd) (arrOf (ml nJ (vs.toArray.zip vs.toArray) #[] 7 none)))
 obtain⟨c2,hc2⟩:∃c2,(h6.update a (bG λ_=>jr (λx=>x.snd) (arrOf (ml nJ (vs.toArray.zip vs.toArray) #[] 7 none)))).get? a=some (bD "list" (jr (λx=>x.snd) (arrOf (ml nJ (vs.toArray.zip vs.toArray) #[] 7 none))) c2):=⟨_,eY ho6 λ_=>_⟩
 rw[hout] at hc2 s2 ⊢
 simp only[bne_self_eq_false,dn,if_false]
 exact aq (h _ c2 hc2 λb o nb e=>(s2.2 b nb).trans (o6 b o nb e))
def V3{x:Value}{OKQ:List Value->am->Prop}{Q:Value->am->Prop}(hc:∀R,(∀us s',OKQ us s'->R us s')->aS (model prog w) A.in1 (nH x) R (λ_ _=>False) s)(h:∀us s',OKQ us s'->us.length<64/\((us.length<2 -> ∀h2 c,h2.get? s'.heap.objs.size=some (bD "list" us.toArray c)->(∀b o,s'.heap.get? b=some o->h2.get? b=some o)->Q (.ref s'.heap.objs.size) {s' with heap:=h2})/\(2<=us.length -> ∀D e1 h2,s'.heap.objs.size<=D->h2.get? D=some (bD "list" #[] e1)->(∀b o,s'.heap.get? b=some o->h2.get? b=some o) ->
   aS (model prog w) A.in1.in1 (jY us.toArray) (λκ s''=>(kas_sort us.length).kasWp (kas_ask prog w A.in1.in1 κ us) (λp s3=>SoFin D e1 (p.toList.map λi=>us.getD i bP) (λs4=>Q (.ref D) s4) s3) s'') (λ_ _=>False) {s' with heap:=h2}))) :
  aS (model prog w) A (call (.builtin "sorted") [x]) Q E s:=by
 refine Calls.call_function_entry kind_sorted plain_sorted entry_sorted (args_sorted1 _) ?_
 refine af (aq ?_)
 refine af (bH (hc _ λus s' ok=>?_) (λ_ _ z=>z) λ_ _ z=>z.elim)
 obtain⟨h64,hs,hb⟩:=h us s' ok
 refine af (hJ ?_ (by rw[bQ];omega))
 have hoL:(s'.heap.push (bD "list" us.toArray 0)).get? s'.heap.objs.size=some (bD "list" us.toArray 0):=aD _ rfl
 refine af (bC (dY slot_list_sort ⟨_,hoL,rfl⟩ entry_list_sort ?body (args_list_sort _)))
 case body=>
  by_cases h2:2<=us.length
  .refine Qw hoL h2 h64 λe1 h2' g k=>?_
   refine bH (hb h2 _ e1 h2' (ag _) g λb o q=>k b o (aR (aH q)) (ah _ q)) (λκ s' hk=>?_) λ_ _ x=>x
   rw[kat_ask_eq rfl] at hk ⊢
   exact kas_wp_mono hk λp s'' hk'=>hk'.mono λs3 hq=>⟨_,rfl,aq ⟨_,rfl,hq⟩⟩
  .have h2:us.length<2:=by omega
   exact Nj (s:={s' with heap:=s'.heap.push (bD "list" us.toArray 0)}) hoL h2 λh3 c g k=>⟨_,rfl,aq ⟨_,rfl,hs h2 h3 c g λb o q=>k b o (aR (aH q)) (ah _ q)⟩⟩
def so_sortedC{x:Value}{OKQ:List Value->Heap->Nat->Prop}{Q:Value->am->Prop}(hc:∀R,(∀us h' tk,OKQ us h' tk->R us {s with heap:=h',toks:=tk})->aS (model prog w) A.in1 (nH x) R (λ_ _=>False) s)(h:∀us h' tk,OKQ us h' tk->us.length<64/\((us.length<2 -> ∀h2 c,h2.get? h'.objs.size=some (bD "list" us.toArray c)->(∀b o,h'.get? b=some o->h2.get? b=some o)->Q (.ref h'.objs.size) {s with heap:=h2,toks:=tk})/\(2<=us.length -> ∀D e1 h2,h'.objs.size<=D->h2.get? D=some (bD "list" #[] e1)->(∀b o,h'.get? b=some o->h2.get? b=some o) ->
   aS (model prog w) A.in1.in1 (jY us.toArray) (λκ s'=>(kas_sort us.length).kasWp (kas_ask prog w A.in1.in1 κ us) (λp s''=>SoFin D e1 (p.toList.map λi=>us.getD i bP) (λs3=>Q (.ref D) s3) s'') s') (λ_ _=>False) {s with heap:=h2,toks:=tk}))) :
  aS (model prog w) A (call (.builtin "sorted") [x]) Q E s:=
 V3 (OKQ:=λus s'=>∃h' tk,s'={s with heap:=h',toks:=tk}/\OKQ us h' tk) (λR hR=>hc R λus h' tk ok=>hR us _ ⟨h',tk,rfl,ok⟩) λus s' ⟨h',tk,e,ok⟩=>by subst e;exact h us h' tk ok
end
end PySem.W
namespace L2
open PySem PySem.Spec PyProof.Rows
theorem Rm:∀{xs}{us:List Value},xs.length=us.length->(∀(i:Nat) x u,xs[i]?=some x->us[i]?=some u->RelV x u)->Vals xs us
 |[],[],_,_=>.nil
 |[],_::_,h,_=>by simp at h
 |_::_,[],h,_=>by simp at h
 |x::xs,u::us,h,g=>.cons (g 0 x u rfl rfl) (Rm (by simpa using h) λi a b ha hb=>g (i+1) a b ha hb)
def Zy{P:aO}{w:bw}{kvs:List (Key×V)}{vs:List (Key×Value)}{us:List Value}(rel:KV kvs vs)(hl:us.length=vs.length)(h:∀(j:Nat) v,us[j]?=some v -> ∃k x,vs[j]?=some (k,x)/\(Bd P w).is k v=true):Vals (kvs.map λkv=>kV kv.1) us:=by
 refine Rm (by rw[ae,rel.length,hl]) λi x u hx hu=>?_
 obtain⟨k,y,hk,his⟩:=h i u hu
 have e:(kvs.map (·.1))[i]?=some k:=by rw[rel.keys,al,hk];rfl
 rw[al] at hx e
 obtain⟨kv,hkv,rfl⟩:=Option.map_eq_some_iff.mp hx
 rw[hkv] at e
 cases e
 exact P6 his
section
variable {X:Cx}
def ah9{ξ:List (Addr×Obj)}{s:am}{σ:St}{H:Hp}{p:Addr}{xs:List V}{R:List Value->am->Prop}(hc:X.calm=true)(I:Inv X ξ σ H s)(hp:SqL X.K H p xs \/ ∃kvs,Rd H p (.dK kvs)/\(kvs.map λkv=>kV kv.1)=xs)(hR:∀us h' tk,(∀b o,s.heap.get? b=some o->h'.get? b=some o)->s.heap.objs.size<=h'.objs.size->s.toks<=tk->Vals xs us->R us {s with heap:=h',toks:=tk}):aS (model X.prog X.w) X.A.in1 (nH (.ref p)) R (λ_ _=>False) s:=by
 rcases hp with hp|⟨kvs,hp,ek⟩
 .obtain⟨χ,ri,pl,hz⟩:=I.list hp
  refine collect_list pl.isList (hR _ _ s.toks (λb o e=>?_) ?_ (ag _) ri) (by rw[<- ri.length];exact hz)
  .rw[Heap.get?_update_ne _ _ _ _ (aR (aH e))]
   exact ah _ e
  .rw[Heap.size_update,mq]
   exact cW _
 .obtain⟨z,lo,vs,rel,dof⟩:=Dy I.hok hp
  obtain⟨ep,dat⟩:=dof.dictAt
  exact bF (ag _) (PySem.W.collect_src (PySem.W.kdl_dict lo) (by simp[I.ok.hd hc]) dat (by rw[<- rel.length];exact z) λh' tk us hk hs hl hi htk=>hR us h' tk hk (gO hs) htk (ek▸Zy rel hl hi))
def Yx{α:Type}{lt:α->α->Bool}{zs:List α}(h:zs.length<2):Ck lt zs=zs:=by
 match zs,h with
 |[],_=>rfl
 |[z],_=>rfl
def Y7{α:Type}{v:α->V}{zs:List α}{us:List Value}(d:α)(rv:Vals (zs.map v) us){i:Nat}(h:i<zs.length):RelV (v (zs.getD i d)) (us.getD i bP):=by
 obtain⟨u,hu,ru⟩:=rv.get (x:=v (zs.getD i d)) (by rw[al,av,aj h];rfl)
 rw[av (l:=us),hu]
 exact ru
theorem Ug{α:Type}{v:α->V}{zs:List α}{us:List Value}(d:α)(rv:Vals (zs.map v) us):∀p:List Nat,(∀i∈p,i<zs.length)->Vals ((p.map λi=>zs.getD i d).map v) (p.map λi=>us.getD i bP)
 |[],_=>.nil
 |i::p,h=>.cons (Y7 d rv (h i aP)) (Ug d rv p λj hj=>h j (ay _ hj))
def au8{α:Type}{v:α->V}{lt:α->α->Bool}{zs:List α}{us:List Value}{s:am}{G:Array Nat->am->Prop}{ask:Nat->Nat->(Bool->am->Prop)->am->Prop}(d:α)(o:OrdL lt zs)(rv:Vals (zs.map v) us)(h2:2<=us.length)(ha:∀i j C,i<zs.length->j<zs.length->C (lt (zs.getD i d) (zs.getD j d)) s->ask i j C s)(hG:∀p:Array Nat,Vals ((Ck lt zs).map v) (p.toList.map λi=>us.getD i bP)->G p s):(PySem.W.kas_sort us.length).kasWp ask G s:=by
 have hl:zs.length=us.length:=by have:=rv.length;rwa[ae] at this
 obtain⟨pp,h1,h3,h4,h5⟩:=ac0 d o (by omega)
 rw[<- hl]
 exact PySem.W.kRun_wp ha h1 (hG pp (h5▸Ug d rv pp.toList h4))
def ar1(K:ac):List V->Hp->VK->Prop:=λxs H Q=>∃p zs,xs=[.ref p]/\(SqL K H p (zs.map V.str) \/ ∃kvs,Rd H p (.dK kvs)/\kvs.map (·.1)=zs.map cK)/\zs.Nodup/\zs.length<64/\∀D,H D=none->Q (.ref D) (upd H D (.lst ((Ck ltS zs).map V.str)))
def X7{K:ac}{H:Hp}{p:Addr}{zs:List Str}(h:SqL K H p (zs.map V.str) \/ ∃kvs,Rd H p (.dK kvs)/\kvs.map (·.1)=zs.map cK):SqL K H p (zs.map V.str) \/ ∃kvs,Rd H p (.dK kvs)/\(kvs.map λkv=>kV kv.1)=zs.map V.str:=
 h.imp id fun⟨kvs,h1,h2⟩=>⟨kvs,h1,by
  have:=congrArg (nA kV) h2
  rwa[aC,aC] at this⟩
def Us(hc:X.calm=true):Cj X (.builtin "sorted") (ar1 X.K):=by
 intro ξ s σ H xs us Q I r h
 obtain⟨p,zs,rfl,hp,nd,h64,q⟩:=h
 obtain⟨u,rfl,ru⟩:=Dc r
 cases ru
 refine PySem.W.so_sortedC (OKQ:=λus h' tk=>(∀b o,s.heap.get? b=some o->h'.get? b=some o)/\s.heap.objs.size<=h'.objs.size/\s.toks<=tk/\Vals (zs.map V.str) us) (λR hR=>ah9 hc I (X7 hp) λus h' tk a b c d=>hR us h' tk ⟨a,b,c,d⟩) λus h' tk ⟨keep,hD,htk,rv⟩=>?_
 have hl:zs.length=us.length:=by have:=rv.length;rwa[ae] at this
 have fin:∀{h3} {D} {out} {c},h'.objs.size<=D->(∀b o,h'.get? b=some o->h3.get? b=some o)->Vals ((Ck ltS zs).map V.str) out->h3.get? D=some (bD "list" out.toArray c)->EP X ξ σ Q (.ref D) {s with heap:=h3,toks:=tk}:=λ{h3 D out c} hD2 k r g=>
  ⟨.ref D,_,I.laid (λb o e=>k b o (keep b o e)) (aT hD hD2) (o:=.lst ((Ck ltS zs).map V.str)) ⟨by rw[ae,(Au ltS zs).length_eq,bQ];omega,out,c,r,g⟩,rfl,q _ (I.hok.fresh (aT hD hD2))⟩
 refine⟨by omega,λh2 h2' c g k=>fin (ag _) k (by rw[Yx (by omega)];exact rv) g,λh2 D e1 h2' hD2 gD k=>?_⟩
 refine PySem.W.kas_kind (T:=.type "str") h2 (λv hv=>?_) rfl rfl (au8 dP (Eb nd) rv h2 (λi j C hi hj hC=>?_) λp ro=>⟨gD,λh3 c g sb=>fin hD2 (λb o e=>(sb.2 b (aR (aL (aH e) hD2))).trans (k b o e)) ro g⟩)
 .obtain⟨i,hi,rfl⟩:=List.getElem_of_mem hv
  obtain⟨t,e⟩:=Y7 dP rv (i:=i) (by omega)
  rw[av,aj hi] at e
  rw[show us[i]=_ from e]
  exact .now
 .unfold f9
  obtain⟨t1,e1⟩:=Y7 dP rv hi
  obtain⟨t2,e2⟩:=Y7 dP rv hj
  rw[e1,e2]
  exact PySem.W.kas_lt_str hC
end
end L2
namespace PySem.W
open PySem PySem.Calls PyProof.Rows
end PySem.W
namespace L2
open PySem PySem.Spec PyProof.Rows
section
variable {X:Cx}
def bs9(K:ac):List V->Hp->VK->Prop:=λxs H Q=>∃(p:Addr)(ns:List Int),xs=[.ref p]/\SqL K H p (ns.map V.int)/\Q (.int ns.sum) H
def ah7(hc:X.calm=true):Cj X (.builtin "sum") (bs9 X.K):=by
 intro ξ s σ H xs us Q I r h
 obtain⟨p,ns,rfl,hp,q⟩:=h
 obtain⟨u,rfl,ru⟩:=Dc r
 cases ru
 obtain⟨χ,ri,pl,hz⟩:=I.list hp
 have ia:=Lh ri
 obtain⟨xs,e⟩:=ia.allInts.items
 have hl:=pl.isList
 rw[e] at hl
 refine bF (ag _) (sum_intListG (I.ok.hd hc) hl λh' tk t' hk htk=>?_)
 refine⟨.int ns.sum,H,I.kept hk htk,⟨t',?_⟩,q⟩
 rw[preSum_eq,j_ (by simp),<- nums_intItems,<- e,show χ.toArray.toList=χ from rfl,ia.numsOf]
end
end L2
namespace PySem.W
open PySem PySem.Calls PyProof.Rows
section
variable {prog:aO}{w:bw}{A:bq}{E:Value->am->Prop}{s:am}{vs:List Value}
def SkFin(a b:Addr)(e e1:Nat)(ks out:List Value)(C:am->Prop)(s:am):Prop:=
 s.heap.get? a=some (bD "list" #[] e1)/\s.heap.get? b=some (bD "list" ks.toArray e)/\∀h' c,h'.get? a=some (bD "list" (fh out) c)->(∀d,d≠a->d≠b->h'.get? d=s.heap.get? d)->C {s with heap:=h'}
def Yt{a kS:Addr}{ks:List Value}{st:SortSt}{e e1:Nat}{out:List Value}{P:mQ->am->Prop}(hne:a≠kS)(har:jr (λx=>x.snd) (arrOf st)=out.toArray)(h64:out.length<64)(k64:ks.length<64)(hf:failedOf st=none)(h:SkFin a kS e e1 ks out (λs'=>P (.done (.ret .none)) s') s):aS (model prog w) A (ksk_tail a false e1 (.ref kS) st) P E s:=by
 obtain⟨ha,hk,q⟩:=h
 unfold ksk_tail
 rw[har,hf]
 have s1:=bU s.heap kS (bG λ_=>(#[]:Array Value))
 have ha1:=(s1.2 a hne).trans ha
 refine af (fI hk rfl ?_ (by rw[au,bQ];omega) (bu _))
 refine af (wpAny_letGo ?_)
 refine af (i4 ha1 rfl ?_)
 refine af (fI ha1 rfl ?_ (bu _) (by simp only[dn,if_false];rw[au,bQ];omega))
 simp only[bne_self_eq_false,dn,if_false]
 have s2:=bU (s.heap.update kS (bG λ_=>(#[]:Array Value))) a (bG λ_=>out.toArray)
 obtain⟨c2,hc2⟩:∃c2,((s.heap.update kS (bG λ_=>(#[]:Array Value))).update a (bG λ_=>out.toArray)).get? a=some (bD "list" out.toArray c2):=⟨_,eY ha1 λ_=>_⟩
 exact aq (q _ c2 hc2 λd d1 d2=>(s2.2 d d1).trans (s1.2 d d2))
def a74{n:Nat}{a:Addr}{f:Value}{P:mQ->am->Prop}(ho:s.heap.get? a=some (bD "list" vs.toArray n))(h64:vs.length<64)(h:∀e1 kS h',s.heap.objs.size<=kS->h'.get? a=some (bD "list" #[] e1)->h'.get? kS=some (bD "list" #[] 0)->(∀b o,b≠a->s.heap.get? b=some o->h'.get? b=some o) ->
   ∃G:List Value->am->Prop,(∀e,h'.get? kS=some (bD "list" #[] e)->G [] {s with heap:=h'}) /\
    (∀(j:Nat) x ks e s',vs[j]?=some x->ks.length=j->s'.heap.get? kS=some (bD "list" ks.toArray e)->G ks s'->aS (model prog w) A (call f [x]) (λk s''=>s''.heap.get? kS=some (bD "list" ks.toArray e)/\∀h2 c,h2.get? kS=some (bD "list" (ks++[k]).toArray c)->bO kS s''.heap h2->G (ks++[k]) {s'' with heap:=h2}) (λ_ _=>False) s') /\
    (∀ks e s',ks.length=vs.length->s'.heap.get? kS=some (bD "list" ks.toArray e)->G ks s'->(vs.length<2->SkFin a kS e e1 ks vs (λs3=>P (.done (.ret .none)) s3) s')/\(2<=vs.length ->
     aS (model prog w) A (jY ks.toArray) (λκ s''=>(kas_sort vs.length).kasWp (kas_ask prog w A κ ks) (λp s3=>SkFin a kS e e1 ks (p.toList.map λi=>vs.getD i bP) (λs4=>P (.done (.ret .none)) s4) s3) s'') (λ_ _=>False) s'))) :
  aS (model prog w) A (ksk_tree a f false) P E s:=by
 have ha:=aH ho
 have s1:=bU s.heap a (bG λ_=>(#[]:Array Value))
 obtain⟨e1,ho1⟩:∃e1,(s.heap.update a (bG λ_=>(#[]:Array Value))).get? a=some (bD "list" #[] e1):=⟨_,eY ho λ_=>#[]⟩
 have hsz:((s.heap.update a (bG λ_=>(#[]:Array Value))).push (bD "tuple" vs.toArray 0)).objs.size=s.heap.objs.size+1:=by rw[mq,Heap.size_update]
 refine af (kO ho rfl ?_)
 refine af (fI ho rfl ?_ (by rw[au,bQ];omega) (bu _))
 refine af (i4 ho1 rfl ?_)
 refine af (lL ?_ (by show vs.length<=_;rw[bQ];omega))
 refine af (hJ ?_ (bu _))
 refine bC ?_
 have hk0:(((s.heap.update a (bG λ_=>(#[]:Array Value))).push (bD "tuple" vs.toArray 0)).push (bD "list" #[] 0)).get? (((s.heap.update a (bG λ_=>(#[]:Array Value))).push (bD "tuple" vs.toArray 0)).objs.size)=some (bD "list" #[] 0):=aD _ rfl
 have ha0:(((s.heap.update a (bG λ_=>(#[]:Array Value))).push (bD "tuple" vs.toArray 0)).push (bD "list" #[] 0)).get? a=some (bD "list" #[] e1):=ah _ (ah _ ho1)
 obtain⟨G,g0,gs,gf⟩:=h e1 _ _ (by rw[hsz];exact cW _) ha0 hk0 (λb o nb e=>ah _ (ah _ ((s1.2 b nb).trans e)))
 have hne:a≠((s.heap.update a (bG λ_=>(#[]:Array Value))).push (bD "tuple" vs.toArray 0)).objs.size:=by rw[hsz];exact aR (eU ha)
 have gz:=g0 0 hk0
 generalize ((s.heap.update a (bG λ_=>(#[]:Array Value))).push (bD "tuple" vs.toArray 0)).objs.size=kS at *
 generalize ((s.heap.update a (bG λ_=>(#[]:Array Value))).push (bD "tuple" vs.toArray 0)).push (bD "list" #[] 0)=h' at *
 refine af (wpAny_rule ?_)
 rw[<- jc]
 refine af (ksk_fold (λj s'=>∃ks e,ks.length=j/\s'.heap.get? kS=some (bD "list" ks.toArray e)/\G ks s') vs 0 _ ⟨[],0,rfl,hk0,gz⟩ (λj x s' hx ⟨ks,e,hl,hk,hg⟩=>?_) λs' ⟨ks,e,hl,hk,hg⟩=>?_)
 .rw[dm] at hl
  have hj:=(List.getElem?_eq_some_iff.mp hx).1
  refine af (gu (bH (gs j x ks e s' hx hl hk hg) (λk s'' hq=>?_) λ_ _ z=>z.elim))
  obtain⟨hk2,hq⟩:=hq
  refine af (fI hk2 rfl ?_ (by rw[au,bQ];omega) (by rw[Array.size_push,au,bQ];omega))
  have e3:(ks.toArray.push k)=(ks++[k]).toArray:=by simp
  obtain⟨c,hc⟩:∃c,(s''.heap.update kS (bG λx=>x.push k)).get? kS=some (bD "list" (ks++[k]).toArray c):=⟨_,by rw[<- e3];exact eY hk2 λx=>x.push k⟩
  exact aq ⟨rfl,ks++[k],c,by rw[aB,hl,dm];rfl,hc,hq _ c hc (bU _ _ _)⟩
 .rw[dm] at hl
  obtain⟨q1,q2⟩:=gf ks e s' hl hk hg
  refine af (kO hk rfl ?_)
  unfold ksk_end
  simp only[dn,if_false]
  by_cases h2:vs.toArray.size<2
  .rw[if_pos h2,if_pos h2]
   refine af (aq ?_)
   rw[StateT.run_pure]
   refine af (aq ?_)
   refine Yt hne ?_ h64 (by omega) rfl (q1 (by simpa using h2))
   show jr (λx:Keyed=>x.snd) (ks.toArray.zip vs.toArray)=vs.toArray
   apply Array.ext'
   simp only[Array.toList_map,Array.toList_zip]
   exact List.map_snd_zip (by omega)
  .have h2':2<=vs.length:=by rw[au] at h2;omega
   rw[if_neg h2,if_neg h2]
   refine af (bH (q2 h2') (λκ s0 hk0=>?_) λ_ _ x=>x.elim)
   refine af (bH (kat_run (Q:=λst' s'=>∃p:Array Nat,p.size=vs.length/\arrOf st'=p.map (kas_item (ks.toArray.zip vs.toArray))/\failedOf st'=none/\SkFin a kS e e1 ks (p.toList.map λi=>vs.getD i bP) (λs''=>P (.done (.ret .none)) s'') s')
    hl h2' h64 (λp' st' s' a1 a2 a3 a4=>⟨p',a1,a2,a3,a4⟩) hk0) ?_ λ_ _ e=>e)
   rintro⟨⟨⟩,st'⟩ s' ⟨p,hp,har,hf,hq⟩
   exact Yt hne (kat_snds hl har) (by rw[ae,bT,hp];exact h64) (by omega) hf hq
def sk_sorted{x:Value}{b:Addr}{OKQ:List Value->Heap->Nat->Prop}{Q:Value->am->Prop}(hc:∀R:List Value->am->Prop,(∀us h' tk,OKQ us h' tk->R us {s with heap:=h',toks:=tk})->aS (model prog w) A.in1 (nH x) R (λ_ _=>False) s)(h:∀us h' tk,OKQ us h' tk->us.length<64/\∀D e1 kS h2,h'.objs.size<=D->D<kS->h2.get? D=some (bD "list" #[] e1)->h2.get? kS=some (bD "list" #[] 0)->(∀b o,h'.get? b=some o->h2.get? b=some o) ->
   ∃G:List Value->am->Prop,G [] {s with heap:=h2,toks:=tk} /\
    (∀(j:Nat) x ks e s',us[j]?=some x->ks.length=j->s'.heap.get? kS=some (bD "list" ks.toArray e)->G ks s'->aS (model prog w) A.in1.in1 (call (.ref b) [x]) (λk s''=>s''.heap.get? kS=some (bD "list" ks.toArray e)/\∀h2 c,h2.get? kS=some (bD "list" (ks++[k]).toArray c)->bO kS s''.heap h2->G (ks++[k]) {s'' with heap:=h2}) (λ_ _=>False) s') /\
    (∀ks e s',ks.length=us.length->s'.heap.get? kS=some (bD "list" ks.toArray e)->G ks s'->(us.length<2->SkFin D kS e e1 ks us (λs3=>Q (.ref D) s3) s')/\(2<=us.length ->
     aS (model prog w) A.in1.in1 (jY ks.toArray) (λκ s''=>(kas_sort us.length).kasWp (kas_ask prog w A.in1.in1 κ ks) (λp s3=>SkFin D kS e e1 ks (p.toList.map λi=>us.getD i bP) (λs4=>Q (.ref D) s4) s3) s'') (λ_ _=>False) s'))) :
  aS (model prog w) A (call (.builtin "sorted") [x] [("key", .ref b)]) Q E s:=by
 refine call_function_entry_kw kind_sorted plain_sorted entry_sorted (ksk_s1 _ _) ?_
 refine af (aq ?_)
 refine af (bH (hc _ λus h' tk ok=>?_) (λ_ _ z=>z) λ_ _ z=>z.elim)
 obtain⟨h64,hb⟩:=h us h' tk ok
 refine af (hJ ?_ (by rw[bQ];omega))
 have hoL:(h'.push (bD "list" us.toArray 0)).get? h'.objs.size=some (bD "list" us.toArray 0):=aD _ rfl
 refine af (bC (wpAny_call_entry_kw slot_list_sort ⟨_,hoL,rfl⟩ entry_list_sort ?body (ksk_l1 _ _)))
 case body=>
  rw[ksk_t1]
  refine a74 hoL h64 λe1 kS h2 hk g gk k=>?_
  have hk2:h'.objs.size<kS:=by
   have hk:(h'.push (bD "list" us.toArray 0)).objs.size<=kS:=hk
   rw[mq] at hk;omega
  obtain⟨G,g0,gs,gf⟩:=hb h'.objs.size e1 kS h2 (ag _) hk2 g gk λb o q=>k b o (aR (aH q)) (ah _ q)
  refine⟨G,λ_ _=>g0,gs,λks e s' hl hk hg=>?_⟩
  obtain⟨q1,q2⟩:=gf ks e s' hl hk hg
  refine⟨λh2=>?_,λh2=>bH (q2 h2) (λκ s'' hk=>?_) λ_ _ x=>x⟩
  .obtain⟨r1,r2,r3⟩:=q1 h2
   exact⟨r1,r2,λh' c x y=>⟨_,rfl,aq ⟨_,rfl,r3 h' c x y⟩⟩⟩
  .rw[kat_ask_eq hl] at hk ⊢
   exact kas_wp_mono hk λp s3 ⟨r1,r2,r3⟩=>⟨r1,r2,λh' c x y=>⟨_,rfl,aq ⟨_,rfl,r3 h' c x y⟩⟩⟩
end
end PySem.W
namespace L2
open PySem PySem.Spec PyProof.Rows
def ltK(kf:Str->Int)(a b:Str):Bool:=if kf a=kf b then ltS a b else decide (kf a<kf b)
def a16{kf:Str->Int}{zs:List Str}(nd:zs.Nodup):OrdL (ltK kf) zs where
 tot:=λa ha b hb n=>by
  unfold ltK
  by_cases h:kf a=kf b
  .rw[if_pos h,if_pos h.symm];exact(Eb nd).tot a ha b hb n
  .rw[if_neg h,if_neg (bY h)]
   by_cases c:kf a<kf b
   .rw[decide_eq_true c,decide_eq_false (by omega)];rfl
   .rw[decide_eq_false c,decide_eq_true (by omega)];rfl
 tr:=λa ha b hb c hc h1 h2=>by
  unfold ltK at *
  by_cases e1:kf a=kf b
  .rw[if_pos e1] at h1
   by_cases e2:kf b=kf c
   .rw[if_pos e2] at h2
    rw[if_pos (e1.trans e2)]
    exact(Eb nd).tr a ha b hb c hc h1 h2
   .rw[if_neg e2] at h2
    rw[e1,if_neg e2]
    exact h2
  .rw[if_neg e1] at h1
   have h1:=of_decide_eq_true h1
   by_cases e2:kf b=kf c
   .rw[<- e2,if_neg e1]
    exact decide_eq_true h1
   .rw[if_neg e2] at h2
    have h2:=of_decide_eq_true h2
    rw[if_neg (by omega)]
    exact decide_eq_true (by omega)
 nd:=nd
section
variable {X:Cx}{ξ:List (Addr×Obj)}{σ:St}{H:Hp}{s:am}
def Inv.adopt{a d:Addr}{o:HO}{h':Heap}(I:Inv X ξ σ H s)(fa:Cy X ξ H a)(fd:Cy X ξ H d)(k:∀b u,b≠a->b≠d->s.heap.get? b=some u->h'.get? b=some u)(new:ObjOk X.prog X.w (upd H a o) h' a o):Inv X ξ σ (upd H a o) {s with heap:=h'}:=by
 have nit:∀b u,H b=some u->b≠a/\b≠d:=λb u e=>⟨Ai e fa.1,Ai e fd.1⟩
 have nc:∀{b},b∉[a,d]->b≠a/\b≠d:=λh=>by simpa using h
 refine I.step (λb hb=>?_) (λb u _ _ hc e _=>k b u (nc hc).1 (nc hc).2 e) (λb u _ _ hc e _=>⟨u.slots,k b u (nc hc).1 (nc hc).2 e⟩) (λb u hc e n=>by rw[Ad (nc hc).1];exact n)
  (λb u hc e=>⟨u,k b u (nc hc).1 (nc hc).2 e⟩) (λb xs q=>by rw[Ad (nit b _ q).1];exact q) (λb u v q=>by rw[Ad (nit b _ q).1];exact q) (λb ps q=>⟨#[],by rw[Ad (nit b _ q).1,q];simp⟩) (λm hm=>?_) (λb u e=>?_) I.bare
 .rcases List.mem_cons.mp hb with rfl|hb
  .exact⟨fa.2.2.2.1,fa.2.1,fa.2.2.2.2.1,fa.2.2.2.2.2⟩
  .have e:b=d:=by simpa using hb
   subst e
   exact⟨fd.2.2.2.1,fd.2.1,fd.2.2.2.2.1,fd.2.2.2.2.2⟩
 .obtain⟨u,es,ep,ho,r⟩:=hm
  exact⟨u,es,ep,k _ u (bY fa.2.1) (bY fd.2.1) ho,r⟩
 .by_cases hb:b=a
  .subst hb;rw[Ac] at e;cases e;exact new
  .rw[Ad hb] at e
   refine(I.hok b u e).stay (λc v hc q=>?_) (λc q=>by rw[Ad (nit c _ q).1];exact q) λc xs q=>by rw[Ad (nit c _ q).1];exact q
   rcases hc with z|z
   .rw[z] at q ⊢;exact k _ v (nit b u e).1 (nit b u e).2 q
   .exact k c v (nit c _ z).1 (nit c _ z).2 q
def Zl{A:bq}{E:Value->am->Prop}{m:Str}{g a C dx:Addr}{fs:List (Str×V)}{expr:Bool}{Q:Value->am->Prop}(I:Inv X ξ σ H s)(e:H a=some (.ins C dx fs))(c:Cls X.K C)(k:M7 X.K C m g)(sg:cI X.K (.ref g) "__get__"=some (some (.builtin "function.__get__")))(tk:dO X.K (.ref g)=some false)(cn:PySem.W.copiedNames.contains m=false)(l:fs.lookup m=none)(h:∀s',s'.heap.get? s.heap.objs.size=some (jC (.ref g) (.ref a))->s.heap.objs.size<s'.heap.objs.size->Inv X ξ σ H s'->Q (.ref s.heap.objs.size) s'):aS (model X.prog X.w) A (mn (.ref a) m expr) Q E s:=by
 obtain⟨mA,O,r,_,_,_⟩:=Hq I.hok e
 have hn:=RelO.none_of (by rw[<- l];exact r m)
 obtain⟨od,J,hl⟩:=O.look
 exact PySem.W.get_bind I.kIn J (fH (c.get m)).1 (PySem.W.findObj_fn c.hd k.at_ sg tk cn (by rw[hl,hn])) (fH (c.get m)).2 (dX (PySem.W.fn_get (s:={s with toks:=s.toks+1}) I.kIn (beq_iff_eq.mp k.fn) (PySem.W.handed_on rfl (h _ (aD _ rfl) (by show _<(s.heap.push _).objs.size;rw[mq];exact cF _) (I.kept (t':=s.toks+1) λb o e=>ah _ e)))))
def a65{m:Str}{mi:MI}(K:be4 X m mi){bm a:Addr}{u:Value}{z:Str}{Q:VK}(I:Inv X ξ σ H s)(hb:s.heap.get? bm=some (jC (.ref mi.i.f) (.ref a)))(ru:RelV (.str z) u)(h:mi.i.sp [.ref a,.str z] H Q (λv _ _=>∃a,v=ba a/\False)) :
  aS (model X.prog X.w) X.A.in1.in1 (call (.ref bm) [u]) (EP X ξ σ Q) (λ_ _=>False) s:=by
 obtain⟨CX,hx,FO⟩:=K.fi.ok
 have r2:Vals [.ref a,.str z] [ba a,u]:=.cons rfl (.cons ru .nil)
 have hl:=FO.len _ _ _ _ h
 have hd:=K.fi.binds mi.i.dfs.length (ag _)
 rw[List.drop_of_length_le (by rw[K.fi.vals.length];exact ag _)] at hd
 have hb2:=hd s [ba a,u] I.kIn hl
 rw[cu] at hb2
 refine dX (ks_codeAny_call_bound hb (d_ (FO.run X.A.in1.in1 X.stack s H ⟨[ba a,u],[]⟩ [ba a,u] _ Q _ K.room.in1.in1 I.env0.in1.in1 hb2 r2 h) λr s' hq=>?_))
 cases r with
 |error e=>
  have o:=I.ok
  have I':Inv {X with xe:=λ_ _=>False} ξ σ H s:=⟨⟨o.mod,o.kind,o.glob,o.blt,o.above,o.inj,o.has,o.cab,o.hd,o.frames,o.stk,o.exf,o.bs,o.bsz,o.noex,o.exfs,o.funs,o.frf,o.tk⟩,I.os,I.bare,I.base,I.loc,I.cell,I.free,I.freeC,I.pin,I.hok,I.len⟩
  exact hx {X with xe:=λ_ _=>False} rfl rfl (λ_ _ _=>False) (λ_ _ _ _ _ _ _ z=>z.elim) ξ σ H s e s' I' hq
 |ok fl=>
  cases fl with
  |ret u=>exact I.after hq
  |next=>exact bR hq
  |brk=>exact bR hq
  |cont=>exact bR hq
def ag7{α:Type}(KR:α->V->Hp->Prop)(H:Hp)(zs:List α)(ks:List Value):Prop:=∀(i:Nat) k z,ks[i]?=some k->zs[i]?=some z -> ∃w,RelV w k/\KR z w H
def bh4(kf:Str->Int)(z:Str)(w:V)(H:Hp):Prop:=∃q,w=.ref q/\H q=some (.tup [.int (kf z),.str z])
theorem Su(I:Inv X ξ σ H s){kf:Str->Int}:∀{zs} {ks},ks.length=zs.length->ag7 (bh4 kf) H zs ks -> ∃fs,kG s.heap ks fs/\fs.length=zs.length/\∀v∈fs,∃i t,v=.int i t
 |[],[],_,_=>⟨[],PySem.W.KatTups.nil,rfl,λv hv=>by cases hv⟩
 |[],_::_,h,_=>by simp at h
 |_::_,[],h,_=>by simp at h
 | z::zs,k::ks,h,ka=>by
  obtain⟨fs,kt,hl,hi⟩:=Su I (by simpa using h) λi k' z' h1 h2=>ka (i+1) k' z' h1 h2
  obtain⟨_,rk,q,rfl,hq⟩:=ka 0 k z rfl rfl
  cases rk
  obtain⟨χ,ri,⟨o,e,c,n,dd⟩,_⟩:=I.tuple (SqT.of hq)
  cases ri with
  |cons ra rr=>
   obtain⟨t,rfl⟩:=ra
   exact⟨_::fs,PySem.W.KatTups.cons e c dd rfl kt,by rw[aI,aI,hl],λv hv=>(List.mem_cons.mp hv).elim (λz=>⟨_,_,z⟩) (hi v)⟩
def bh7(I:Inv X ξ σ H s){A:bq}{kf:Str->Int}{q1 q2:Addr}{z1 z2:Str}{C:Bool->am->Prop}{E:Value->am->Prop}(h1:H q1=some (.tup [.int (kf z1),.str z1]))(h2:H q2=some (.tup [.int (kf z2),.str z2]))(hC:C (ltK kf z1 z2) s) :
  aS (model X.prog X.w) A (keyLt' (tuples' true) (.ref q1) (.ref q2)) C E s:=by
 obtain⟨i1,r1,⟨o1,e1,c1,m1,d1⟩,_⟩:=I.tuple (SqT.of h1)
 obtain⟨i2,r2,⟨o2,e2,c2,m2,d2⟩,_⟩:=I.tuple (SqT.of h2)
 obtain⟨u1,v1,rfl,⟨tk1,rfl⟩,⟨tv1,rfl⟩⟩:=r1.two
 obtain⟨u2,v2,rfl,⟨tk2,rfl⟩,⟨tv2,rfl⟩⟩:=r2.two
 refine PySem.W.kat_lt e1 d1 e2 d2 ?_
 refine PySem.W.kat_cons (wpAny_eqBool_int ?_)
 unfold ltK at hC
 refine PySem.W.kat_go (λe=>?_) (λe=>?_)
 .have e:kf z1=kf z2:=by simpa using e
  rw[if_pos e] at hC
  refine PySem.W.kat_yes (PySem.W.kat_cons (wpAny_eqBool_str ?_))
  refine PySem.W.kat_go (λe=>?_) (λe=>?_)
  .have e:z1=z2:=by simpa using e
   subst e
   have:ltS z1 z1=false:=by unfold ltS;exact decide_eq_false (lH _)
   rw[this] at hC
   exact PySem.W.kat_yes (PySem.W.kat_nil hC)
  .exact PySem.W.kat_no (PySem.W.kat_one _ _ (lt_str hC))
 .have e:¬ kf z1=kf z2:=by simpa using e
  rw[if_neg e] at hC
  exact PySem.W.kat_no (oneLt_int hC)
def Yw{α:Type}{v:α->V}{lt:α->α->Bool}{KR:α->V->Hp->Prop}(d:α)(hc:X.calm=true){fn p:Addr}{zs:List α}{Q:VK}(I:Inv X ξ σ H s)(hp:SqL X.K H p (zs.map v) \/ ∃kvs,Rd H p (.dK kvs)/\(kvs.map λkv=>kV kv.1)=zs.map v)(o:OrdL lt zs)(h64:zs.length<64)(up:∀{z w H1 H2},Same H1 H2->KR z w H1->KR z w H2)(hk:∀z∈zs,∀pl s' H3 u,Inv X (ξ++pl) σ H3 s'->Same H H3->RelV (v z) u->aS (model X.prog X.w) X.A.in1.in1 (call (.ref fn) [u]) (EP X (ξ++pl) σ λw H4=>KR z w H4/\Same H3 H4) (λ_ _=>False) s')(ht:∀{pins' H3 s3 ks},Inv X pins' σ H3 s3->ks.length=zs.length->2<=ks.length->ag7 KR H3 zs ks -> ∀{G:nE->am->Prop},(∀ κ,(∀i j C,i<zs.length->j<zs.length->C (lt (zs.getD i d) (zs.getD j d)) s3->f9 X.prog X.w X.A.in1.in1 κ ks i j C s3)->G κ s3)->aS (model X.prog X.w) X.A.in1.in1 (jY ks.toArray) G (λ_ _=>False) s3)(q:∀H3 D,Same H H3->H D=none->H3 D=some (.lst ((Ck lt zs).map v))->Q (.ref D) H3) :
  aS (model X.prog X.w) X.A (call (.builtin "sorted") [.ref p] [("key", .ref fn)]) (EP X ξ σ Q) X.xe s:=by
 refine PySem.W.sk_sorted (OKQ:=λus h' tk=>(∀b o,s.heap.get? b=some o->h'.get? b=some o)/\s.heap.objs.size<=h'.objs.size/\s.toks<=tk/\Vals (zs.map v) us) (λR hR=>ah9 hc I hp λus h' tk a b c d=>hR us h' tk ⟨a,b,c,d⟩) λus h' tk ⟨keep,hD,htk,rv⟩=>?_
 have hl:us.length=zs.length:=by have:=rv.length;simpa using this.symm
 refine⟨by omega,λD e1 kS h2 hD2 hDk gD gk k=>?_⟩
 have lD:=aT hD hD2
 have lk:=aT lD (gO hDk)
 have I2:=I.kept (t':=tk) λb o e=>k b o (keep b o e)
 have fD:∀{H':Hp},H' D=none->Cy X ξ H' D:=λhn=>I.fpOk lD hn
 have fk:∀{H':Hp},H' kS=none->Cy X (ξ++[(D,bD "list" #[] e1)]) H' kS:=λhn=>by
  obtain⟨a1,a2,a3,a4,a5,a6⟩:=I.fpOk lk (I.hok.fresh lk)
  refine⟨hn,a2,a3,a4,a5,λp hp=>?_⟩
  rw[<- cT] at hp
  rcases List.mem_append.mp hp with hp|hp
  .exact a6 p hp
  .rw[List.mem_singleton.mp hp]
   exact aR hDk
 refine⟨λks s'=>∃H',Inv X (ξ++[(D,bD "list" #[] e1)]) σ H' s'/\Same H H'/\H' kS=none/\ag7 KR H' zs ks,⟨H,?_,Same.refl _,I.hok.fresh lk,λi k z h=>by simp at h⟩,?_,?_⟩
 .refine I2.pins_of λp hp=>?_
  rcases List.mem_append.mp hp with hp|hp
  .exact I2.pin p (aE _ hp)
  .rw[List.mem_singleton.mp hp]
   have f:=fD (I.hok.fresh lD)
   exact⟨gD,f.1,f.2.1,f.2.2.1,λv z=>by cases z⟩
 .intro j x ks e s' hx hlk hks ⟨H',I',S,hn,ka⟩
  have hj:=(List.getElem?_eq_some_iff.mp hx).1
  obtain⟨u,hu,ru⟩:=rv.get (i:=j) (by rw[al,aj (by omega)];rfl)
  rw[hx] at hu
  cases hu
  have I1:Inv X (ξ++([(D,bD "list" #[] e1)]++[(kS,bD "list" ks.toArray e)])) σ H' s':=I'.pins_of λp hp=>by
   rw[<- cT] at hp
   rcases List.mem_append.mp hp with hp|hp
   .exact I'.pin p (aE _ hp)
   .rw[List.mem_singleton.mp hp]
    have f:=fk hn
    exact⟨hks,f.1,f.2.1,f.2.2.1,λv z=>by cases z⟩
  refine bH (hk _ (dv _) _ s' H' _ I1 S ru) (λk s'' hq=>?_) λ_ _ z=>z
  obtain⟨w,H'',I'',rk,kr,S2⟩:=hq
  have pk:=I''.pin (kS,bD "list" ks.toArray e) (by simp)
  refine⟨pk.1,λh3 c g sb=>⟨H'',?_,S.trans S2,pk.2.1,λi k' z h1 h2=>?_⟩⟩
  .have f:=fk pk.2.1
   have I3:Inv X (ξ++[(D,bD "list" #[] e1)]) σ H'' s'':=I''.pins_of λp hp=>I''.pin p (by
    rcases List.mem_append.mp hp with hp|hp
    .exact aE _ (bn _ hp)
    .exact aE _ (aE _ (bn _ hp)))
   exact I3.turned (t':=s''.toks) (λb o nb e=>(sb.2 b nb).trans e) f.1 f.2.1 f.2.2.2.1 f.2.2.2.2.1 f.2.2.2.2.2
  .by_cases hi:i<ks.length
   .rw[bJ hi] at h1
    obtain⟨w',r',h'⟩:=ka i k' z h1 h2
    exact⟨w',r',up S2 h'⟩
   .have hi2:i<(ks++[k]).length:=(List.getElem?_eq_some_iff.mp h1).1
    rw[aB,bS] at hi2
    have ei:i=j:=by omega
    subst ei
    rw[bo (by omega),show i-ks.length=0 by omega] at h1
    cases h1
    rw[aj (by omega)] at h2
    cases h2
    exact⟨w,rk,kr⟩
 .intro ks e s' hlk hks ⟨H',I',S,hn,ka⟩
  have pD:=I'.pin (D,bD "list" #[] e1) (by simp)
  have Iu:=I'.unpinned
  have fk':Cy X ξ H' kS:=by
   have f:=fk hn
   exact⟨f.1,f.2.1,f.2.2.1,f.2.2.2.1,f.2.2.2.2.1,λp hp=>f.2.2.2.2.2 p (by rw[<- cT];exact bn _ hp)⟩
  have fin:∀out:List Value,Vals ((Ck lt zs).map v) out->PySem.W.SkFin D kS e e1 ks out (λs3=>EP X ξ σ Q (.ref D) s3) s':=λout ro=>by
   refine⟨pD.1,hks,λh4 c g sm=>?_⟩
   refine⟨.ref D,upd H' D (.lst ((Ck lt zs).map v)),Iu.adopt (fD pD.2.1) fk' (λb u b1 b2 e=>(sm b b1 b2).trans e) ⟨?_,out,c,ro,g⟩,rfl,q _ D (λb o e=>?_) (I.hok.fresh lD) Ac⟩
   .rw[ae,(Au _ zs).length_eq,bQ];omega
   .rw[Ad (Ai (S b o e) pD.2.1)]
    exact S b o e
  exact⟨λh2=>fin us (by rw[Yx (by omega)];exact rv),λh2=>ht I' (by omega) (by omega) ka λκ hκ=>au8 d o rv h2 hκ λp ro=>fin _ ro⟩
def by1{kf:Str->Int}{zs:List Str}{pins':List (Addr×Obj)}{H3:Hp}{s3:am}{ks:List Value}{A:bq}(I':Inv X pins' σ H3 s3)(hlz:ks.length=zs.length)(h2:2<=ks.length)(ka:ag7 (bh4 kf) H3 zs ks){G:nE->am->Prop}(hG:∀ κ,(∀i j C,i<zs.length->j<zs.length->C (ltK kf (zs.getD i dP) (zs.getD j dP)) s3->f9 X.prog X.w A κ ks i j C s3)->G κ s3):aS (model X.prog X.w) A (jY ks.toArray) G (λ_ _=>False) s3:=by
 obtain⟨fs,kt,kl,ki⟩:=Su I' hlz ka
 refine PySem.W.kat_kind kt (by omega) (λv hv=>by obtain⟨i,t,rfl⟩:=ki v hv;exact .now) rfl (hG _ λi j C hi hj hC=>?_)
 unfold f9
 have at_:∀{i:Nat},i<zs.length -> ∃q,ks.getD i bP=.ref q/\H3 q=some (.tup [.int (kf (zs.getD i dP)),.str (zs.getD i dP)]):=λ{i} hi=>by
  obtain⟨w,r,q,rfl,h⟩:=ka i (ks[i]'(by omega)) (zs[i]'(by omega)) (aj _) (aj _)
  refine⟨q,?_,?_⟩
  .rw[av,aj (by omega)];exact r
  .rw[av,aj (by omega)];exact h
 obtain⟨q1,e1,t1⟩:=at_ hi
 obtain⟨q2,e2,t2⟩:=at_ hj
 rw[e1,e2]
 exact bh7 I' t1 t2 hC
end
theorem Vk{α β:Type}{f:α->β}:∀{ds:List α},(ds.map f).Nodup -> ∀a∈ds,∀b∈ds,f a=f b->a=b
 |[],_,a,ha,_,_,_=>by cases ha
 | d::ds,nd,a,ha,b,hb,e=>by
  rw[aX,bN] at nd
  rcases List.mem_cons.mp ha with h1|h1
  .rcases List.mem_cons.mp hb with h2|h2
   .rw[h1,h2]
   .exact (nd.1 (by rw[<- h1,e];exact bE h2)).elim
  .rcases List.mem_cons.mp hb with h2|h2
   .exact (nd.1 (by rw[<- h2,<- e];exact bE h1)).elim
   .exact Vk nd.2 a h1 b h2 e
abbrev RF:=List V->Hp->VK->Prop
def ba8(x:V)(T:String):Bool:=match x with
 |.int _=>T == "int"
 |.bl _=>T == "bool" || T == "int"
 |.str _=>T == "str"
 |_=>false
def okT(T:String):Bool:=["int","bool","str","list","tuple","dict"].contains T
def Ep(K:ac):RF:=λxs H Q=>match xs with
 | [x,c]=>(match c with
  |.ty T=>if B0 x=true then okT T=true/\Q (.bl (ba8 x T)) H else ∃t b,TyX K H x t/\cD K t (.type T)=some b/\Q (.bl b) H
  |.ref C=>(∃t b,TyX K H x t/\cD K t (.ref C)=some b/\Q (.bl b) H)\/False
  |_=>False)
 |_=>False
def Do(K:ac):RF:=λxs H Q=>match xs with
 |[.str z]=>z.length<=sizeLine/\Q (.int z.length) H
 |[.ref p]=>(∃ys,(SqL K H p ys\/SqT K H p ys)/\Q (.int ys.length) H) \/ ∃kvs,Rd H p (.dK kvs)/\Q (.int kvs.length) H
 |_=>False
def To(K:ac):RF:=λxs H Q=>match xs with
 |[.ref p]=>∃bs:List Bool,SqL K H p (bs.map V.bl)/\Q (.bl (bs.all λb=>b)) H
 |_=>False
def ab1:RF:=λxs H Q=>match xs with
 |[.int i]=>Q (.int i) H
 |[.bl k]=>Q (.int (if k then 1 else 0)) H
 |_=>False
def Qs(K:ac):RF:=λxs H Q=>match xs with
 |[.ref p]=>∃ys,(SqL K H p ys\/SqT K H p ys)/\∀l,H l=none->Q (.ref l) (upd H l (.lst ys))
 |_=>False
def G0(K:ac):RF:=λxs H Q=>match xs with
 |[.ref p]=>∃ys,(SqL K H p ys/\∀l,H l=none->Q (.ref l) (upd H l (.tup ys)))\/(SqT K H p ys/\Q (.ref p) H)
 |_=>False
def Qr(K:ac)(calm:Bool):RF:=λxs H Q=>Qs K xs H Q\/(calm=true/\False)
def Jq(K:ac)(calm:Bool):RF:=λxs H Q=>False\/(calm=true/\(ar1 K xs H Q\/False))
def Qu:RF:=λxs H Q=>match xs with
 |[.int i]=>i.natAbs.log2<1920/\Q (.str (toString i)) H
 |_=>False
inductive BF where
 |bf (id:String)|ty (T:String)
def bf2(K:ac)(calm:Bool)(x:Str):Option (BF×RF):=
 if x="len" then some (.bf "len", Do K) else
 if x="isinstance" then some (.bf "isinstance", Ep K) else
 if x="all" /\ calm=true then some (.bf "all", To K) else
 if x="int" then some (.ty "int", ab1) else
 if x="list" then some (.ty "list", Qr K calm) else
 if x="tuple" then some (.ty "tuple", G0 K) else
 if x="sorted" then some (.bf "sorted", Jq K calm) else
 if x="sum" /\ calm=true then some (.bf "sum", bs9 K) else
 if x="dict" then some (.ty "dict", Qp) else
 if x="str" then some (.ty "str", Qu) else none
def BF.val:BF->Value
 |.bf id=>.builtin id
 |.ty T=>.type T
section
variable {X:Cx}
def Vc{K:ac}{x:V}{T:String}(hx:B0 x=true)(h:okT T=true):∃t,(∀H,TyOf K H x t)/\cD K t (.type T)=some (ba8 x T):=by
 have hT:T="int" \/ T="bool" \/ T="str" \/ T="list" \/ T="tuple" \/ T="dict" := by
  unfold okT at h
  simpa using h
 cases x with
 |int i=>refine⟨_,λH=>TyOf.int i,?_⟩;rcases hT with rfl|rfl|rfl|rfl|rfl|rfl <;> rfl
 |bl i=>refine⟨_,λH=>TyOf.bl i,?_⟩;rcases hT with rfl|rfl|rfl|rfl|rfl|rfl <;> rfl
 |str i=>refine⟨_,λH=>TyOf.str i,?_⟩;rcases hT with rfl|rfl|rfl|rfl|rfl|rfl <;> rfl
 |non=>refine⟨_,λH=>TyOf.non,?_⟩;rcases hT with rfl|rfl|rfl|rfl|rfl|rfl <;> rfl
 |_=>cases hx
def ah6:Cj X (.builtin "isinstance") (Ep X.K):=by
 intro ξ s σ H xs us Q I r h
 rcases xs with _|⟨x,_|⟨c,_|_⟩⟩ <;> try exact h.elim
 obtain⟨u,v,rfl,ru,rv⟩:=r.two
 have go:∀w,(∃t b,TyX X.K H x t/\cD X.K t w=some b/\Q (.bl b) H)->aS (model X.prog X.w) X.A (call (.builtin "isinstance") [u,w]) (EP X ξ σ Q) X.xe s:=λw ⟨t,b,ty,e,q⟩=>bF (ag _) (Vb I ru ty e λtk htk=>⟨.bl b,H,I.tok tk htk,rfl,q⟩)
 cases c with
 |ty T=>
  cases rv
  by_cases f:B0 x=true
  .rw[show Ep X.K [x,.ty T] H Q=_ from if_pos f] at h
   obtain⟨t,ht,hk⟩:=Vc f h.1
   exact go _ ⟨t,_,.of (ht H),hk,h.2⟩
  .rw[show Ep X.K [x,.ty T] H Q=_ from if_neg f] at h
   exact go _ h
 |ref C=>cases rv;exact go _ (h.resolve_right id)
 |_=>exact h.elim
def Za:Cj X (.builtin "len") (Do X.K):=by
 intro ξ s σ H xs us Q I r h
 unfold Do at h
 split at h
 .exact Pl ξ s σ H _ us Q I r ⟨_,rfl,h.1,h.2⟩
 .rcases h with⟨ys,h1,h2⟩|⟨kvs,h1,h2⟩
  .exact Pk ξ s σ H _ us Q I r ⟨_,ys,rfl,h1,h2⟩
  .obtain⟨u,rfl,ru⟩:=Dc r
   cases ru
   exact bv8 I h1 λt s' I'=>⟨.int _,H,I',⟨t,rfl⟩,h2⟩
 .exact h.elim
def Y8(hc:X.calm=true):Cj X (.builtin "all") (To X.K):=by
 intro ξ s σ H xs us Q I r h
 unfold To at h
 split at h
 .obtain⟨bs,h1,h2⟩:=h
  exact ah5 hc ξ s σ H _ us Q I r ⟨_,bs,rfl,h1,h2⟩
 .exact h.elim
def Y9:Cj X (.type "int") ab1:=by
 intro ξ s σ H xs us Q I r h
 unfold ab1 at h
 split at h
 .exact Of ξ s σ H _ us Q I r (.inl ⟨_,rfl,h⟩)
 .exact Of ξ s σ H _ us Q I r (.inr ⟨_,rfl,h⟩)
 .exact h.elim
def Ur:Cj X (.type "list") (Qs X.K):=by
 intro ξ s σ H xs us Q I r h
 unfold Qs at h
 split at h
 .obtain⟨ys,h1,h2⟩:=h
  exact Pm ξ s σ H _ us Q I r ⟨_,ys,rfl,h1,h2⟩
 .exact h.elim
def Zc:Cj X (.type "tuple") (G0 X.K):=by
 intro ξ s σ H xs us Q I r h
 unfold G0 at h
 split at h
 .obtain⟨ys,h1⟩:=h
  exact M9 ξ s σ H _ us Q I r ⟨_,ys,rfl,h1⟩
 .exact h.elim
def Zb:Cj X (.type "str") Qu:=by
 intro ξ s σ H xs us Q I r h
 unfold Qu at h
 split at h
 .cases r with
  |cons r1 t=>cases t;obtain⟨tk,rfl⟩:=r1;exact bF (ag _) (PySem.P.str_of_int h.1 λht=>⟨.str _,H,I.tok _ ht,⟨_,rfl⟩,h.2⟩)
 .exact h.elim
def B3{α:Type}{c:Prop} [Decidable c]{a z:α}{b:Option α}{P:Prop}(h:(if c then some a else b)=some z)(h1:c->a=z->P)(h2:b=some z->P):P:=by
 by_cases k:c
 .rw[if_pos k] at h;exact h1 k (aG h)
 .rw[if_neg k] at h;exact h2 h
def Dl{α:Type}{c:Prop} [Decidable c]{a z:α}{b:List α}{P:Prop}(h:z∈(if c then [a] else b))(h1:c->z=a->P)(h2:z∈b->P):P:=by
 by_cases k:c
 .rw[if_pos k] at h;exact h1 k (List.mem_singleton.mp h)
 .rw[if_neg k] at h;exact h2 h
def az4(hu:X.A.units+64<cLine){x:Str}{f:BF}{r:RF}{c:Bool}(h:bf2 X.K c x=some (f,r))(hc:c=X.calm):cz x=some f.val/\Cj X f.val r:=by
 have ok:∀{y} {g} {q},(g,q)=(f,r)->x=y->cz y=some g.val/\Cj X g.val q->cz x=some f.val/\Cj X f.val r:=λe1 e2 z=>by cases e1;subst e2;exact z
 exact B3 h (λe z=>ok z e ⟨PySem.boot_len,Za⟩) λh=>B3 h (λe z=>ok z e ⟨PyProof.Rows.boot_isinstance,ah6⟩) λh=>B3 h (λe z=>ok z e.1 ⟨PyProof.Rows.boot_all,Y8 (hc▸e.2)⟩) λh=>
  B3 h (λe z=>ok z e ⟨kD,Y9⟩) λh=>B3 h (λe z=>ok z e ⟨hX,λξ s σ H xs us Q I r h=>Ur ξ s σ H xs us Q I r (h.resolve_right And.right)⟩) λh=>B3 h (λe z=>ok z e ⟨jR,Zc⟩) λh=>
  B3 h (λe z=>ok z e ⟨Fe,λξ s σ H xs us Q I r h=>h.elim bR λz=>Us (hc▸z.1) ξ s σ H xs us Q I r (z.2.resolve_right id)⟩) λh=>B3 h (λe z=>ok z e.1 ⟨PyProof.Rows.boot_sum,ah7 (hc▸e.2)⟩) λh=>B3 h (λe z=>ok z e ⟨boot_dict,Uo⟩) λh=>B3 h (λe z=>ok z e ⟨kE,Zb⟩) λh=>nomatch h
abbrev RM:=V->List V->Hp->VK->Prop
structure BM where
 T:String
 id:String
 r:RM
def rMt(K:ac)(bs:List BM):V->Hp->(Hp->(List V->Hp->Prop)->Prop)->VK->Prop:=λx H1 ta Q=>
 match bs with
 |[]=>False
 |[b]=>tyV K b.T x H1/\ta H1 λxs H2=>b.r x xs H2 Q
 |b::rest=>(tyV K b.T x H1/\ta H1 λxs H2=>b.r x xs H2 Q)\/rMt K rest x H1 ta Q
structure ad5 (X:Cx) (m:Str) (b:BM):Prop where
 pa:PlainAttrs b.T
 slot:Slot b.T m b.id
 ty:typeOf (.builtin b.id)=pure (.type "method_descriptor")
 mt:MtR X b.id b.r
def Tp(K:ac):RM:=λx xs H Q=>∃z p ys,x=.str z/\xs=[.ref p]/\(SqL K H p (ys.map V.str)\/False)/\(ys.map (·.length)).sum+ys.length*z.length<=16777216/\Q (.str (Txt.join z ys)) H
def am4{X:Cx}:MtR X "str.join" (Tp X.K):=by
 intro ξ s σ H x xs v us Q I rx rs h
 obtain⟨z,p,ys,rfl,rfl,hq,hz,q⟩:=h
 exact a22 ξ s σ H _ _ v us Q I rx rs ⟨z,p,ys,rfl,rfl,hq.resolve_right id,hz,q⟩
def bb7:RM:=λx xs H Q=>∃i,x=.int i/\xs=[]/\Q (.int (iU i:Nat)) H
def Ma:RM:=λx xs H Q=>match x,xs with
 |.ref a,[y]=>∃o,DGet H a y o/\Q (o.getD .non) H
 |.ref a,[y,z]=>∃o,DGet H a y o/\Q (o.getD z) H
 |_,_=>False
def a19(hu:X.A.units+64<cLine):MtR X "dict.get" Ma:=by
 intro ξ s σ H x xs v us Q I rx rs h
 unfold Ma at h
 split at h
 .obtain⟨o,g,q⟩:=h
  obtain⟨u,rfl,ru⟩:=rs.one
  cases rx
  exact bf7 (by omega) I g ru λw' s' I' r'=>⟨_,H,I',r',q⟩
 .obtain⟨o,g,q⟩:=h
  obtain⟨u,w,rfl,ru,rw'⟩:=rs.two
  cases rx
  exact bf8 (by omega) I g ru rw' λw' s' I' r'=>⟨_,H,I',r',q⟩
 .exact h.elim
def U3{i:Nat}(h:i<sizeLine):gw (i:Int)=true:=by
 have hs:sizeLine<=9223372036854775807:=aF rfl
 have e:(2:Int)^63=9223372036854775808:=rfl
 unfold gw
 rw[e,aV]
 exact⟨decide_eq_true (by omega),decide_eq_true (by omega)⟩
def Qq:RM:=λx vs H Q=>∃l xs y,∃i:Nat,x=.ref l/\vs=[.int (i:Int),y]/\H l=some (.lst xs)/\i<=xs.length/\xs.length<sizeLine/\Q .non (upd H l (.lst (xs.take i++y::xs.drop i)))
def Z7:MtR X "list.insert" Qq:=by
 intro ξ s σ H x vs v us Q I rx rv h
 obtain⟨l,xs,y,i,rfl,rfl,hH,hi,hz,q⟩:=h
 cases rx
 obtain⟨u1,u2,rfl,⟨t,rfl⟩,r2⟩:=rv.two
 obtain⟨z,χ,n,r,hl,e⟩:=I.lstM hH
 have hf:=U3 (a_ hi hz)
 have hz':χ.toArray.size<=sizeLine:=by rw[au,<- hl];exact z
 obtain⟨j,hj⟩:∃j:Int,j=i:=⟨_,rfl⟩
 rw[<- hj] at hf ⊢
 have hf':¬ (!gw j)=true:=by rw[hf];decide
 have M:=AutoSeq1.list_insert_list_int_val_1 l χ.toArray n j t u2 hf' hz'
 refine k9 jB ⟨_,e,rfl⟩ PySem.F.entry_list_insert (PySem.F.args_list_insert_3 _ _ _) M ⟨e,?_⟩
 refine⟨.non,_,I.lset hH e ?_ ((r.take i).append (.cons r2 (r.drop i))) ?_,rfl,q⟩
 .have hk:(if j<0 then(j+χ.toArray.size).toNat else min j.toNat χ.toArray.size)=i:=by
   rw[if_neg (by omega),au,hj,aQ]
   omega
  rw[hk]
  apply Array.toList_inj.mp
  simp
  exact j_ (by simp)
 .rw[aB,aI,aN,j1]
  omega
def aq7:RM:=λx vs H Q=>b35 x vs H Q\/False
def ar0:RM:=λx xs H Q=>∃p k v kvs,x=.ref p/\xs=[kV k,v]/\H p=some (.dK kvs)/\kvs.length<sizeLine/\(match Be kvs k with
 |some w=>Q w H
 |none=>Q v (upd H p (.dK (Ce kvs k v))))
def am5:MtR X "dict.setdefault" ar0:=by
 intro ξ s σ H x xs v us Q I rx rs h
 obtain⟨p,k,y,kvs,rfl,rfl,e,hl,q⟩:=h
 cases rx
 obtain⟨u1,u2,rfl,ru,rv⟩:=rs.two
 obtain⟨z,hd,vs,rel,dd⟩:=X0 I.hok e
 have hv:=rel.val k
 refine gT iS dd.typeIs PySem.F.entry_dict_setdefault (PySem.F.args_dict_setdefault_3 _ _ _) (kt_meets_setdefault (Bd X.prog X.w) p (Hs ru) hd u2) ⟨vs,dd,by rw[<- rel.length];exact z,λr hr=>?_,λhr h' dd' hs=>?_⟩
 .rw[hr] at hv
  cases e2:Be kvs k with
  |none=>rw[e2] at hv;cases hv
  |some w=>rw[e2] at hv q;exact⟨w,H,I.tok _,hv,q⟩
 .rw[hr] at hv
  cases e2:Be kvs k with
  |some w=>rw[e2] at hv;cases hv
  |none=>
   rw[e2] at q
   have hl2:(Ce kvs k y).length<=sizeLine:=by have:=Co kvs k y;omega
   have he:∃q,h'.get? p=some q:=let⟨q,_,_,hq,_⟩:=dd';⟨q,hq⟩
   exact⟨y,_,Hi I (by rw[e];exact aM) hs he (La hl2 hd (rel.put k rv) dd'),rv,q⟩
def Ts:RM:=λx vs H Q=>False\/ar0 x vs H Q
section
variable {κ:Type} [DecidableEq κ]
def KV.drop{kvs:List (κ×V)}{vs:List (κ×Value)}(r:KV kvs vs)(k:κ):KV (kvs.filter λkv=>decide (kv.1≠k)) (PySem.without vs k):=by
 unfold PySem.without
 induction r with
 |nil=>exact .nil
 |@cons p q ps qs h t ih=>
  by_cases e:p.1=k
  .rw[jN (by simp[e]),jN (by simp[h.1.symm.trans e])];exact ih
  .rw[jO (by simp[e]),jO (by simpa using λz=>e (h.1.trans z))];exact .cons h ih
def Z4(kvs more:List (κ×V)):List (κ×V):=more.foldl (λm kv=>Ce m kv.1 kv.2) kvs
end
def Yk:RM:=λx xs H Q=>∃p k kvs v,x=.ref p/\xs=[kV k]/\H p=some (.dK kvs)/\Be kvs k=some v/\Q v (upd H p (.dK (kvs.filter λkv=>decide (kv.1≠k))))
def a20:MtR X "dict.pop" Yk:=by
 intro ξ s σ H x xs v us Q I rx rs h
 obtain⟨p,k,kvs,y,rfl,rfl,e,hy,q⟩:=h
 cases rx
 obtain⟨u,rfl,ru⟩:=Dc rs
 obtain⟨z,hd,vs,rel,dd⟩:=X0 I.hok e
 have hv:=rel.val k
 rw[hy] at hv
 cases e2:mr vs k with
 |none=>rw[e2] at hv;cases hv
 |some r=>
  rw[e2] at hv
  refine gT kF dd.typeIs PySem.F.entry_dict_pop (PySem.F.args_dict_pop_2 _ _) (PySem.meets_dict_pop_there (Bd X.prog X.w) p (Hs ru) [] (.inl rfl) ?_) ⟨vs,r,dd,by rw[<- rel.length];exact z,e2,λh' dd' hs=>?_⟩
  .cases k <;> (obtain⟨t,rfl⟩:=ru;rfl)
  .have he:∃q,h'.get? p=some q:=let⟨q,_,_,hq,_⟩:=dd';⟨q,hq⟩
   exact⟨y,_,(Hi I (by rw[e];exact aM) hs he (La (aT (df _ _) z) hd (rel.drop k) dd')).tok _,hv,q⟩
def KV.mrg{κ:Type} [DecidableEq κ]{more:List (κ×V)}{ms:List (κ×Value)}(r':KV more ms):∀{kvs:List (κ×V)}{vs:List (κ×Value)},KV kvs vs->KV (Z4 kvs more) (PySem.merged vs ms):=by
 unfold Z4 PySem.merged
 induction r' with
 |nil=>exact λr=>r
 |@cons p q ps qs h t ih=>exact λr=>by rw[bM,bM,h.1];exact ih (r.put q.1 h.2)
theorem Lv{κ:Type} [DecidableEq κ]:∀(more kvs:List (κ×V)),(Z4 kvs more).length<=kvs.length+more.length
 |[],_=>ag _
 | kv::more,kvs=>by
  have h1:=Lv more (Ce kvs kv.1 kv.2)
  have h2:=Co kvs kv.1 kv.2
  show(Z4 (Ce kvs kv.1 kv.2) more).length<=_
  rw[aI]
  omega
def aq4:RM:=λx xs H Q=>∃p o kvs more,x=.ref p/\xs=[.ref o]/\p≠o/\H p=some (.dK kvs)/\Rd H o (.dK more)/\kvs.length+more.length<=sizeLine/\Q .non (upd H p (.dK (Z4 kvs more)))
def a21:MtR X "dict.update" aq4:=by
 intro ξ s σ H x xs v us Q I rx rs h
 obtain⟨p,o,kvs,more,rfl,rfl,ne,e,e',hl,q⟩:=h
 cases rx
 obtain⟨u,rfl,ru⟩:=Dc rs
 cases ru
 obtain⟨z,hd,vs,rel,dd⟩:=X0 I.hok e
 obtain⟨z',hd',ms,rel',dd'⟩:=Dy I.hok e'
 refine gT jA dd.typeIs PySem.F.entry_dict_update (PySem.F.args_dict_update_2 _ _) (PySem.meets_dict_update (Bd X.prog X.w) p o ne hd') ⟨vs,ms,dd,dd',by rw[<- rel.length,<- rel'.length];exact hl,λh' d1 d2 hs=>?_⟩
 have he:∃q,h'.get? p=some q:=let⟨q,_,_,hq,_⟩:=d1;⟨q,hq⟩
 exact⟨.non,_,Hi I (by rw[e];exact aM) hs he (La (aT (Lv more kvs) hl) hd (rel'.mrg rel) d1),rfl,q⟩
def ak5{α:Type}{c:Prop} [Decidable c]{a a' z:α}{b:List α}{P:Prop}(h:z∈(if c then [a,a'] else b))(h1:c->z=a->P)(h1':c->z=a'->P)(h2:z∈b->P):P:=by
 by_cases k:c
 .rw[if_pos k] at h
  rcases List.mem_cons.mp h with h|h
  .exact h1 k h
  .exact h1' k (List.mem_singleton.mp h)
 .rw[if_neg k] at h;exact h2 h
def mtR(K:ac)(m:Str):List BM:=
 if m="append" then [⟨"list","list.append", Dn⟩] else
 if m="get" then [⟨"dict","dict.get", Ma⟩] else
 if m="extend" then [⟨"list","list.extend", Kz⟩] else
 if m="clear" then [⟨"list","list.clear", Vu⟩] else
 if m="join" then [⟨"str","str.join", Tp K⟩] else
 if m="bit_length" then [⟨"int","int.bit_length", bb7⟩] else
 if m="setdefault" then [⟨"dict","dict.setdefault", Ts⟩] else
 if m="insert" then [⟨"list","list.insert", Qq⟩] else
 if m="pop" then [⟨"list","list.pop", aq7⟩,⟨"dict","dict.pop", Yk⟩] else
 if m="update" then [⟨"dict","dict.update", aq4⟩] else []
def am1{m:Str}{b:BM}(hu:X.A.units+64<cLine)(h:b∈mtR X.K m):ad5 X m b:=by
 have ok:∀{y} {c},m=y->b=c->ad5 X y c->ad5 X m b:=λe1 e2 z=>by subst e1 e2;exact z
 exact Dl h (λe z=>ok e z ⟨dD,PySem.F.slot_list_append,PySem.F.type_list_append,Ow⟩) λh=>Dl h (λe z=>ok e z ⟨fF,d8,PySem.F.type_dict_get,a19 hu⟩) λh=>Dl h (λe z=>ok e z ⟨dD,PySem.F.slot_list_extend,PySem.F.type_list_extend,Z6⟩) λh=>
  Dl h (λe z=>ok e z ⟨dD,PySem.F.slot_list_clear,PySem.F.type_list_clear,am3⟩) λh=>Dl h (λe z=>ok e z ⟨PySem.F.plainAttrs_str,PySem.F.slot_str_join,PySem.F.type_str_join,am4⟩) λh=>Dl h (λe z=>ok e z ⟨PySem.F.plainAttrs_int,PySem.F.slot_int_bit_length,PySem.F.type_int_bit_length,a18⟩) λh=>
  Dl h (λe z=>ok e z ⟨fF,iS,PySem.F.type_dict_setdefault,λξ s σ H x vs v us Q I rx rv h=>am5 ξ s σ H x vs v us Q I rx rv (h.resolve_left id)⟩) λh=>Dl h (λe z=>ok e z ⟨dD,jB,PySem.F.type_list_insert,Z7⟩) λh=>ak5 h (λe z=>ok e z ⟨dD,PySem.F.slot_list_pop,PySem.F.type_list_pop,λξ s σ H x vs v us Q I rx rv h=>bi6 ξ s σ H x vs v us Q I rx rv (h.resolve_right id)⟩) (λe z=>ok e z ⟨fF,kF,PySem.F.type_dict_pop,a20⟩) λh=>Dl h (λe z=>ok e z ⟨fF,jA,PySem.F.type_dict_update,a21⟩) λh=>nomatch h
theorem Qt{K:ac}:∀{bs} {x} {H1} {ta} {Q},rMt K bs x H1 ta Q -> ∃b∈bs,tyV K b.T x H1/\ta H1 λxs H2=>b.r x xs H2 Q
 |[],_,_,_,_,h=>h.elim
 |[b],_,_,_,_,h=>⟨b,by simp,h⟩
 | b::c::rest,x,H1,ta,Q,h=>by
  rcases h with h|h
  .exact⟨b,by simp,h⟩
  .obtain⟨d,hd,q⟩:=Qt h
   exact⟨d,ay _ hd,q⟩
def Dm:Expr->Bool
 |.Call (.Name x _) [] [] _=>!(x==("super" : Str))
 |_=>true
def D6{e:Expr}(h:Dm e=true)(f:Str)(env:Env)(whole:Sem Value):jW e f env whole=whole:=by
 unfold jW
 split
 .rename_i id p pos
  have:(id==("super"))=false:=by
   have h':(!(id==("super")))=true:=h
   simpa using h'
  have e2:(id != "super")=true:=by
   show(!(id == "super"))=true
   rw[this]
   rfl
  rw[e2]
  simp
 .rfl
variable {o:Expr}{do':DE}{es:List Expr}{r:DA}{m:Str}{apos cpos:Pos}
def bq8{bs:List BM}(hb:∀b∈bs,ad5 X m b)(ho:QE X o do')(h1:Dm o=true)(h4:(apos.endLine==cpos.line)=true) :
  QE X (.Call (.Attribute o m apos) [] [] cpos) (dMt (rMt X.K bs) do' Ag):=by
 intro Ex mt ξ s σ H Q I h
 refine wpAny_Call_method0_late (D6 h1 m X.env _) h4 (thn (ho Ex mt ξ s σ H _ I h) λv s1 ⟨x,H1,I1,r1,q1⟩=>?_)
 obtain⟨b,hbm,ty,q⟩:=Qt q1
 obtain⟨k1,k2⟩:=aw1 I1 r1 ty
 have B:=hb b hbm
 exact⟨b.T,b.id,B.pa,B.slot,B.ty,k1,k2,j9 rfl (PySem.evalArgs_none (B.mt ξ s1 σ H1 x [] v [] Q I1 r1 .nil q))⟩
def b29{bs:List BM}{e:Expr}(hb:∀b∈bs,ad5 X m b)(ho:QE X o do')(ha:QA X (e::es) r)(h1:Dm o=true)(h2:(e::es).all noStar=true)(h3:(e::es).length<30)(h4:(apos.endLine==cpos.line)=true) :
  QE X (.Call (.Attribute o m apos) (e::es) [] cpos) (dMt (rMt X.K bs) do' r):=by
 intro Ex mt ξ s σ H Q I h
 have hs:=b7▸h2
 rw[aV] at hs
 have hfew:((kJ cpos (c9 (e::es) X.env)).all (λx=>!x.1)&&(mI cpos (jZ [] X.env)).all (λx=>x.1.isSome)
   && decide ((e::es).length+([]:List mP).length+(if([]:List mP).isEmpty then 0 else 1)<30))=true:=by
  rw[J0 h2]
  have:decide ((e::es).length+([]:List mP).length+(if([]:List mP).isEmpty then 0 else 1)<30)=true:=by
   rw[decide_eq_true_iff]
   simpa using h3
  rw[this]
  rfl
 refine wpAny_Call_method_late (D6 h1 m X.env _) hfew h4 rfl (thn (ho Ex mt ξ s σ H _ I h) λv s1 ⟨x,H1,I1,r1,q1⟩=>?_)
 obtain⟨b,hbm,ty,q⟩:=Qt q1
 obtain⟨k1,k2⟩:=aw1 I1 r1 ty
 have B:=hb b hbm
 refine⟨b.T,b.id,B.pa,B.slot,B.ty,k1,k2,?_⟩
 have hA:=ha Ex mt cpos ξ s1 σ H1 _ I1 q
 rw[A3 hs.1] at hA ⊢
 exact j9 (by show(false||(kJ cpos (c9 es X.env)).any (·.1))=false;rw[Cp hs.2] <;> rfl) (Calls.evalArgs_plain (thn hA λus s2 ⟨vs,H2,I2,r2,q2⟩=>B.mt ξ s2 σ H2 x vs v us Q I2 r1 r2 q2))
variable {x:Str}{p pos:Pos}{G:Sg}
def bq4{f:BF}{rf:RF}{e:Expr}(hc:Cj X f.val rf)(hg:Gl X x)(hm:X.mg x=none)(hv:cz x=some f.val)(ha:QA X (e::es) r)(hs:(e::es).all noStar=true)(hn:x ≠ "__name__")(hdb:(x==("__debug__" : Str))=false) :
  QE X (.Call (.Name x p) (e::es) [] pos) (dFn (λvs H Q _=>rf vs H Q) r):=by
 intro Ex mt
 have h:=b7▸hs
 rw[aV] at h
 cases f with
 |bf id=>exact an9 hc hg hm hv (ha Ex mt) hn hdb (A3 h.1 es X.env) (Cp h.2 X.env pos)
 |ty T=>exact aa5 hc hg hm hv (ha Ex mt) hn hdb (A3 h.1 es X.env) (Cp h.2 X.env pos)
def spE(sp:Sp)(dvs:List V):List V->Hp->VK->EK->Prop:=λvs H Q E=>sp (vs++dvs) H Q (λv _ H'=>∃a,v=.ref a/\E a H')
def Yr{i:FI}(F:Ip X i){j:Nat}(hj:j<=i.dfs.length){Ex:St->EK}(mt:Meets X Ex){ξ:List (Addr×Obj)}{σ:St}{H:Hp}{s:am}{Q:VK}{us:List Value}{vs:List V}(I:Inv X ξ σ H s)(r:Vals vs us)(h:spE i.sp (i.dfs.drop j) vs H Q (Ex σ)):aS (model X.prog X.w) X.A (call (.ref i.f) us) (EP X ξ σ Q) X.xe s:=by
 obtain⟨CX,hx,FO⟩:=F.ok
 have r2:=r.append (F.vals.drop j)
 have hl:(us++i.ds.drop j).length=i.ps.length:=by rw[<- r2.length];exact FO.len _ _ _ _ h
 refine dX (d_ (FO.run X.A X.stack s H ⟨us,[]⟩ (us++i.ds.drop j) (vs++i.dfs.drop j) Q _ F.room I.env0 (F.binds j hj s us I.kIn hl) r2 h) λr s' hq=>?_)
 cases r with
 |error e=>exact hx X rfl rfl Ex mt ξ σ H s e s' I hq
 |ok fl=>
  cases fl with
  |ret u=>exact I.after hq
  |next=>exact bR hq
  |brk=>exact bR hq
  |cont=>exact bR hq
noncomputable def Dv:List DE->DA
 |[]=>Ag
 |a::r=>Ab a (Dv r)
theorem Ec{X:Cx}{w:Expr->DE}(h:∀e,QE X e (w e)):∀{es},es.all noStar=true->QA X es (Dv (es.map w))
 |[],_=>Qm
 | e::es,hs=>by
  rw[b7,aV] at hs
  exact Ky (h e) (Ec h hs.2) hs.1
def Xy{w:Expr->DE}{f:Addr}{first:List Value}(kp:be X.K (.ref f)=true)(h:∀e,QE X e (w e))(hs:es.all noStar=true){Ex:St->EK}(mt:Meets X Ex){ξ:List (Addr×Obj)}{σ:St}{H:Hp}{s:am}{C:List V->Hp->Prop}{P:Value->am->Prop}(I:Inv X ξ σ H s)(ha:Dv (es.map w) σ H C (Ex σ))(run:∀us vs H1 s1,Inv X ξ σ H1 s1->Vals vs us->C vs H1->aS (model X.prog X.w) X.A (call (.ref f) (first++us)) P X.xe s1) :
  aS (model X.prog X.w) X.A (callWith pos (.ref f) first (kJ pos (c9 es X.env)) (mI pos (jZ [] X.env))) P X.xe s:=by
 cases es with
 |nil=>exact PySem.W.callWith_K0 I.kIn kp (run [] [] H s I .nil ha)
 |cons e es=>
  have h2:=b7▸hs
  rw[aV] at h2
  exact PySem.W.callWith_K I.ok.mod.kin kp (thn (Ec h hs Ex mt pos ξ s σ H _ I ha) λus s1 ⟨vs,H1,I1,r,q⟩=>⟨I1.kIn,run us vs H1 s1 I1 r q⟩) (A3 h2.1 es X.env) (Cp h2.2 X.env pos)
def ap4{w:Expr->DE}{f:Addr}{R:List V->Hp->VK->EK->Prop}(h:∀e,QE X e (w e))(hs:es.all noStar=true)(hg:Gl X x)(hdb:(x==("__debug__" : Str))=false)(hm:X.mg x=some (.ref f))(kp:be X.K (.ref f)=true)(run:∀{Ex} {ξ}{σ:St}{H:Hp}{s:am}{Q:VK}{us:List Value}{vs:List V},Meets X Ex->Inv X ξ σ H s->Vals vs us->R vs H Q (Ex σ)->aS (model X.prog X.w) X.A (call (.ref f) us) (EP X ξ σ Q) X.xe s) :
  QE X (.Call (.Name x p) es [] pos) (dFn R (Dv (es.map w))):=by
 intro Ex mt ξ s σ H Q I q
 exact cA (P7 I hg hm (Xy kp h hs mt I q λus vs H1 s1 I1 r q=>run mt I1 r q) hdb)
def mkX(C:Addr):Option FI->Nat->List V->Hp->VK->EK->Prop
 |none,_=>λ_ H Q _=>∀a,H a=none->Q (.ref a) (upd H a (Fj a C none))
 |some i,j=>λvs H Q E=>∀a,H a=none->i.sp (.ref a::(vs++i.dfs.drop j)) (upd H a (Fj a C none)) (λv H2=>v=.non/\Q (.ref a) H2) (λv _ H'=>∃b,v=.ref b/\E b H')
def a69{C:Addr}{oi:Option FI}{j:Nat}(c:ECls X.K C)(hi:Ui X C oi)(hj:∀i,oi=some i->j<=i.dfs.length){Ex:St->EK}(mt:Meets X Ex){ξ:List (Addr×Obj)}{σ:St}{H:Hp}{s:am}{Q:VK}{us:List Value}{vs:List V}(I:Inv X ξ σ H s)(rv:Vals vs us)(hl:vs.length<=1000)(h:mkX C oi j vs H Q (Ex σ)):aS (model X.prog X.w) X.A (call (.ref C) us) (EP X ξ σ Q) X.xe s:=by
 cases oi with
 |none=>exact V0 c hi I rv hl h
 |some i=>
  obtain⟨h1,h2,F,hr⟩:=hi
  obtain⟨CX,hx,FO⟩:=F.ok
  exact ab5 c h1 h2 FO hr (F.binds j (hj i rfl)) (F.vals.drop j) I rv hl (λe s1 s' H1 I1 q=>hx X rfl rfl Ex mt ξ σ H1 s1 e s' I1 q) h
def mkC(C:Addr):Option FI->Nat->List V->Hp->VK->EK->Prop
 |none,_=>λ_ _ _ _=>False
 | some i,j=>λvs H Q E=>∀a dx,H a=none->H dx=none->dx≠a ->
   i.sp (.ref a::(vs++i.dfs.drop j)) (upd (upd H dx (.own a)) a (.ins C dx [])) (λv H2=>v=.non/\Q (.ref a) H2) (λv _ H'=>∃b,v=.ref b/\E b H')
def a67{C f:Addr}{CX:CXT}{k:Nat}{fd:bb}{ps:List Str}{sp:Sp}{ds:List Value}{dvs:List V}{E:XK}{ξ:List (Addr×Obj)}{σ:St}{H:Hp}{s:am}{Q:VK}{us:List Value}{vs:List V}(M:Mk X.K C f)(F:FnOk X.prog X.w X.K X.mg X.base CX k f fd ps sp)(hr:Room (k+1) X.A)(hb:Binds X.K fd ps ds)(hd:Vals dvs ds)(hx:∀H1 s1 e s',Inv X ξ σ H1 s1->CX X.stack H1 s1 E e s'->X.xe e s')(I:Inv X ξ σ H s)(r:Vals vs us)(h:∀x dx,H x=none->H dx=none->dx≠x->sp (.ref x::(vs++dvs)) (upd (upd H dx (.own x)) x (.ins C dx [])) (λv H2=>v=.non/\Q (.ref x) H2) E) :
  aS (model X.prog X.w) X.A (call (.ref C) us) (EP X ξ σ Q) X.xe s:=by
 have hq:=h (s.heap.objs.size+1) s.heap.objs.size (I.hok.fresh (cW _)) (I.hok.fresh (ag _)) (aR (cF _))
 have I2:=Inv.made (C:=C) I
 have r2:Vals (V.ref (s.heap.objs.size+1)::(vs++dvs)) (ba (s.heap.objs.size+1)::(us++ds)):=.cons rfl (r.append hd)
 have hl:(ba (s.heap.objs.size+1)::us++ds).length=ps.length:=by
  have e:=r2.length
  rw[F.len _ _ _ _ hq] at e
  exact e.symm
 refine dX (al4 I.kIn M.makes M.init (beq_iff_eq.mp M.fn) (d_ (F.run _ X.stack _ _ ⟨ba (s.heap.objs.size+1)::us,[]⟩ (ba (s.heap.objs.size+1)::(us++ds)) _ _ E (hr.make C us [])
  (I2.env0.make C us []) (hb _ (ba (s.heap.objs.size+1)::us) I2.kIn hl) r2 hq) λr s' hq'=>?_))
 cases r with
 |error e=>exact hx _ _ e s' I2 hq'
 |ok fl=>
  cases fl with
  |ret u=>
   obtain⟨v,H',I3,rv,ev,q3⟩:=I2.after hq'
   subst ev
   exact⟨rv,⟨V.ref (s.heap.objs.size+1),H',I3,rfl,q3⟩⟩
  |next=>exact bR hq'
  |brk=>exact bR hq'
  |cont=>exact bR hq'
def a68{C:Addr}{oi:Option FI}{j:Nat}(hi:be5 X C oi)(hj:∀i,oi=some i->j<=i.dfs.length){Ex:St->EK}(mt:Meets X Ex){ξ:List (Addr×Obj)}{σ:St}{H:Hp}{s:am}{Q:VK}{us:List Value}{vs:List V}(I:Inv X ξ σ H s)(rv:Vals vs us)(kp:be X.K (.ref C)=true)(h:mkC C oi j vs H Q (Ex σ)):aS (model X.prog X.w) X.A (call (.ref C) us) (EP X ξ σ Q) X.xe s:=by
 cases oi with
 |none=>exact h.elim
 |some i=>
  obtain⟨h0,h1,h2,F,hr⟩:=hi
  obtain⟨CX,hx,FO⟩:=F.ok
  exact a67 ⟨h0,h1,h2,kp⟩ FO hr (F.binds j (hj i rfl)) (F.vals.drop j) (λH1 s1 e s' I1 q=>hx X rfl rfl Ex mt ξ σ H1 s1 e s' I1 q) I rv h
noncomputable def Bi(m:Str)(n:Nat)(l:List MI)(o:DE)(t:DA):DE:=λσ H Q E=>o σ H (λx H1=>∃a dx fs mi,x=.ref a/\mi∈l/\H1 a=some (.ins mi.C dx fs)/\fs.lookup m=none/\(n+1<=mi.i.ps.length/\mi.i.ps.length<=n+1+mi.i.dfs.length) /\
 t σ H1 (λvs H2=>spE mi.i.sp (mi.i.dfs.drop (n+1+mi.i.dfs.length-mi.i.ps.length)) (.ref a::vs) H2 Q E) E) E
def an6{es:List Expr}{P:Value->am->Prop}{s:am}(h1:Dm o=true)(h2:es.all noStar=true)(h3:es.length<30)(h4:(apos.endLine==cpos.line)=true)(h:aS (model X.prog X.w) X.A (eval o X.env) (λov s1=>∀pl,aS (model X.prog X.w) X.A (getMethod ov m pl) (λfx s2=>aS (model X.prog X.w) X.A (callWith cpos fx.1 fx.2 (kJ cpos (c9 es X.env)) (mI cpos (jZ [] X.env))) P X.xe s2) X.xe s1) X.xe s) :
  aS (model X.prog X.w) X.A (eval (.Call (.Attribute o m apos) es [] cpos) X.env) P X.xe s:=by
 have few:methodCallForm (es.length+([]:List mP).length) (kJ cpos (c9 es X.env)) (mI cpos (jZ [] X.env))=true:=by
  unfold methodCallForm
  rw[J0 h2]
  simpa [mI,jZ] using h3
 rw[arm_eval_Call,D6 h1]
 refine af (thn h λov s1 h1=>af (eh ?_))
 unfold methodCall calleeOf
 rw[few,if_pos rfl]
 refine af (bC (thn (h1 _) λfx s2 h2=>?_))
 have hp:methodCallPos true o X.env apos cpos=pure cpos:=by unfold methodCallPos;rw[h4];rfl
 rw[hp]
 exact af (aq h2)
def br2{l:List MI}{w:Expr->DE}(hl:∀mi∈l,Cls X.K mi.C/\M7 X.K mi.C m mi.i.f/\Ip X mi.i)(h:∀e,QE X e (w e))(h1:Dm o=true)(h2:es.all noStar=true)(h3:es.length<30)(h4:(apos.endLine==cpos.line)=true) :
  QE X (.Call (.Attribute o m apos) es [] cpos) (Bi m es.length l (w o) (Dv (es.map w))):=by
 intro Ex mt ξ s σ H Q I q
 refine an6 h1 h2 h3 h4 (thn (h o Ex mt ξ s σ H _ I q) λu s1 ⟨x,H1,I1,rx,a,dx,fs,mi,ex,hm,ea,hf,hn,q⟩ pl=>?_)
 subst ex
 obtain rfl:u=ba a:=rx
 obtain⟨c,k,F⟩:=hl mi hm
 exact U6 I1 ea c k hf (Xy k.kp h h2 mt I1 q λus vs H2 s2 I2 r2 q2=>Yr (vs:=.ref a::vs) F (by omega) mt I2 (.cons rfl r2) q2)
noncomputable def Cz:DE:=λ_ H Q _=>∀p,H p=none->Q (.ref p) (upd H p (.dK []))\/Q (.ref p) (upd H p (.dT []))
def a50:QE X (.Dict [] [] pos) Cz:=λEx mt ξ s σ H Q I h=>by
 have fr:=I.hok.fresh (ag s.heap.objs.size)
 rcases h _ fr with q|q
 .exact wpAny_Dict_empty ⟨.ref _,_,I.laid (λ_ _ q=>ah _ q) (ag _) (ai4 s.heap I.big),rfl,q⟩
 .exact wpAny_Dict_empty ⟨.ref _,_,I.laid (λ_ _ q=>ah _ q) (ag _) (ai5 s.heap I.big),rfl,q⟩
def aa9{a:Expr}{da:DE}{p2 pos2:Pos}(hc:X.calm=true)(hg:Gl X "len")(hm:X.mg "len"=none)(hg2:Gl X "set")(hm2:X.mg "set"=none)(ha:QE X a da)(hs:noStar a=true) :
  QE X (.Call (.Name "len" p) [.Call (.Name "set" p2) [a] [] pos2] [] pos) (dUn (K0 X.K) da):=by
 intro Ex mt ξ s σ H Q I h
 refine cA (Dg I hg hm PySem.boot_len (iC (fR ?_) rfl rfl) (by decide) (by decide))
 refine cA (Dg I hg2 hm2 PyProof.Rows.boot_set (bZ ?_ (A3 hs [] X.env) rfl) (by decide) (by decide))
 rw[A3 hs]
 exact fR (thn (ha Ex mt ξ s σ H _ I h) λu s1 ⟨x,H1,I1,r1,q1⟩=>ge (thn (a14 hc I1 r1 q1) λv s2 q=>ge q))
def Vr{a:Expr}{da:DE}{p2 pos2:Pos}(hc:X.calm=true)(hg:Gl X "list")(hm:X.mg "list"=none)(hg2:Gl X "range")(hm2:X.mg "range"=none)(ha:QE X a da)(hs:noStar a=true) :
  QE X (.Call (.Name "list" p) [.Call (.Name "range" p2) [a] [] pos2] [] pos) (dUn Mb da):=by
 intro Ex mt ξ s σ H Q I h
 refine cA (Dg I hg hm hX (bZ (fR ?_) rfl rfl) (by decide) (by decide))
 refine cA (Dg I hg2 hm2 boot_range (bZ ?_ (A3 hs [] X.env) rfl) (by decide) (by decide))
 rw[A3 hs]
 refine fR (thn (ha Ex mt ξ s σ H _ I h) λu s1 ⟨x,H1,I1,r1,q1⟩=>ge ?_)
 cases x with
 |int n=>
  obtain⟨t,rfl⟩:=r1
  exact thn (al1 hc I1 q1.1 q1.2.1 q1.2.2) λv s2 q=>ge q
 |_=>exact(q1).elim
end
noncomputable def ai2(K:ac)(m:Str)(l:List MI)(a o:DE):DE:=λσ H Q E=>Ab a Ag σ H (λxs H1=>o σ H1 (λy H2=>∃(p b dx:Addr)(fs:List (Str×V))(mi:MI)(zs:List Str)(kf:Str->Int),xs=[.ref p]/\(SqL K H2 p (zs.map V.str) \/ ∃kvs,Rd H2 p (.dK kvs)/\kvs.map (·.1)=zs.map cK)/\zs.Nodup/\zs.length<64/\y=.ref b/\mi∈l/\H2 b=some (.ins mi.C dx fs)/\fs.lookup m=none /\
 (∀z∈zs,∀H3,Same H2 H3->spE mi.i.sp [] [.ref b,.str z] H3 (λv H4=>∃q,v=.ref q/\Same H3 H4/\H4 q=some (.tup [.int (kf z),.str z])) (λ_ _=>False))/\∀H3 D,Same H2 H3->H2 D=none->H3 D=some (.lst ((Ck (ltK kf) zs).map V.str))->Q (.ref D) H3) E) E
section
variable {X:Cx}{a o:Expr}{da do':DE}{p ap kp pos:Pos}{m:Str}
def a53{l:List MI}(hc:X.calm=true)(hl:∀mi∈l,be4 X m mi)(hg:Gl X "sorted")(hm:X.mg "sorted"=none)(ha:QE X a da)(ho:QE X o do')(hs:noStar a=true)(h1:Dm o=true):QE X (.Call (.Name "sorted" p) [a] [⟨some "key", .Attribute o m ap,kp⟩] pos) (ai2 X.K m l da do'):=by
 intro Ex mt ξ s σ H Q I h
 have hA:=Ky ha Qm hs
 refine cA (Dg I hg hm Fe ?_ (by decide) (by decide))
 refine lC ?_ rfl ?_
 .rw[A3 hs [] X.env];rfl
 have e0:c9 [a] X.env=[(false,eval a X.env)]:=by rw[A3 hs [] X.env];rfl
 have hh:=hA Ex mt pos ξ s σ H _ I h
 rw[e0] at hh ⊢
 refine af (thn hh λus s1 ⟨vs,H1,I1,r1,q1⟩=>af (aq (bC ?_)))
 show aS (model X.prog X.w) X.A (do
  let l <- evalAll [do let v <- eval (.Attribute o m ap) X.env;standAt pos;pure v]
  let ps <- (pure us)
  pure (⟨ps,[("key" : Str)].zip l⟩:Args)) _ _ s1
 refine af (mh (af (Xq (D6 h1 _ X.env _) (thn (ho Ex mt ξ s1 σ H1 _ I1 q1) λov s2 ⟨y,H2,I2,ry,q2⟩=>?_))))
 obtain⟨pp,b,dx,fs,mi,zs,kf,rfl,hp,nd,h64,rfl,hm,eb,hf,hk,q⟩:=q2
 cases ry
 obtain⟨u,rfl,ru⟩:=Dc r1
 cases ru
 have K:=hl mi hm
 refine Zl I2 eb K.c K.k K.sg K.tk K.cn hf λs3 g3 l3 I3=>?_
 refine af (eh (aq (wpAny_evalAll_nil (af (aq (aq ?_))))))
 have fb:=I2.fpOk (ag _) (I2.hok.fresh (ag _))
 have I4:Inv X (ξ++[(s2.heap.objs.size,jC (.ref mi.i.f) (.ref b))]) σ H2 s3:=I3.pins_of λp hp=>by
  rcases List.mem_append.mp hp with hp|hp
  .exact I3.pin p (aE _ hp)
  .rw[List.mem_singleton.mp hp]
   exact⟨g3,fb.1,fb.2.1,fb.2.2.1,λv z=>by cases z⟩
 exact bH (Yw (v:=V.str) (KR:=bh4 kf) dP hc I4 (X7 hp) (a16 nd) h64 (λS ⟨q,e,h⟩=>⟨q,e,S _ _ h⟩) (λz hz pl s' H3 u I' S ru=>(bH (a65 K I' (I'.pin (s2.heap.objs.size,_) (by simp)).1 ru (hk z hz H3 S)) (λv s'' ⟨w,H4,J,r,q,e,S2,h⟩=>⟨w,H4,J,r,⟨q,e,h⟩,S2⟩) λ_ _ z=>z)) (λa b c d=>@λ_ e=>by1 a b c d e) q) (λv s' ⟨y,H',J,r,qq⟩=>⟨y,H',J.unpinned,r,qq⟩) λ_ _ z=>z
end
def QI(X:Cx)(tg e:Expr)(t:DI):Prop:=∀Ex,Meets X Ex->PI X tg e (λσ H R=>t σ H R (Ex σ))
noncomputable def iNo:DI:=λ_ _ _ _=>False
def onD(p:Addr)(H:Hp)(R:Obj->List (Key×V)->Hp->Prop):Prop:=(∃kvs,H p=some (.dK kvs)/\∀o,R o kvs (upd H p (.frz o (.dK kvs)))) \/ ∃o kvs,H p=some (.frz o (.dK kvs))/\R o kvs H
def an3{X:Cx}{ξ:List (Addr×Obj)}{σ:St}{H:Hp}{s:am}{p:Addr}{R:Obj->List (Key×V)->Hp->Prop}(I:Inv X ξ σ H s)(h:onD p H R):∃o kvs H',Inv X ξ σ H' s/\H' p=some (.frz o (.dK kvs))/\R o kvs H':=by
 rcases h with⟨kvs,e,q⟩|⟨o,kvs,e,q⟩
 .obtain⟨o,ep,_,_,I'⟩:=I.froze e
  exact⟨o,kvs,_,I',Ac,q o⟩
 .exact⟨o,kvs,H,I,e,q⟩
noncomputable def Bg(K:ac)(a:DE):DI:=λσ H R E=>a σ H (λx H1=>match x with
 |.str z=>R (Its z) H1
 |.ref p=>((∃xs,SqL K H1 p xs)/\R (Itl K p) H1)\/((∃xs,SqT K H1 p xs)/\R (Itt K p) H1)\/(onD p H1 λo kvs H2=>R (Itd p o kvs) H2) \/ ∃kvs,H1 p=some (.dT kvs)/\∀o,R (ay8 p o kvs) (upd H1 p (.frz o (.dT kvs)))
 |_=>False) E
noncomputable def Go(t:DA):DI:=λσ H R E=>t σ H (λvs H1=>match vs with
 |[.int j]=>(-(2^62)<=j/\j<2^62)/\R (Itr 0 j.toNat) H1
 |[.int i,.int j]=>(-(2^62)<=i/\i<2^62 /\ -(2^62)<=j/\j<2^62)/\R (Itr i (j-i).toNat) H1
 |_=>False) E
noncomputable def iEn(K:ac)(t:DA):DI:=λσ H R E=>t σ H (λvs H1=>match vs with
 |[.ref a]=>((∃xs,SqL K H1 a xs)/\R (Ite K a) H1)\/onD a H1 λo kvs H2=>R (ay7 a o kvs) H2
 |_=>False) E
section
variable {X:Cx}{tg e a b:Expr}{da:DE}{r:DA}{p pos:Pos}
def bb5:QI X tg e iNo:=λ_ _ _ _ _ _ _ _ h=>h.elim
def Jo(ha:QE X e da):QI X tg e (Bg X.K da):=by
 intro Ex mt ξ s σ H R I h
 refine thn (ha Ex mt ξ s σ H _ I h) λv s1 ⟨x,H1,I1,r1,q1⟩=>?_
 cases x with
 |str z=>
  obtain⟨t,rfl⟩:=r1
  refine wpAny_pyIter_strU ?_
  refine⟨s1.heap.objs.size,[s1.heap.objs.size],_,_,H1,rfl,I1.kept λb o e=>ah _ e,av9 s1.heap.objs.size z t (strIterType z) (by unfold strIterType;split <;> simp),⟨_,aD _ rfl,rfl,rfl⟩,λb hb=>?_,q1⟩
  have e:b=s1.heap.objs.size:=by simpa using hb
  subst e
  exact I1.fpOk (ag _) (I1.hok.fresh (ag _))
 |ref a=>
  cases r1
  rcases q1 with⟨⟨xs,hq⟩,q⟩|⟨⟨xs,hq⟩,q⟩|q|⟨kvs,hq,q⟩
  .obtain⟨χ,rv,p,hz⟩:=I1.list hq
   refine jK p.isList ?_
   refine⟨s1.heap.objs.size,[s1.heap.objs.size],_,_,H1,rfl,I1.kept λb o e=>ah _ e,ac9 a _,⟨_,aD _ rfl,rfl,rfl⟩,λb hb=>?_,q⟩
   have e:b=s1.heap.objs.size:=by simpa using hb
   subst e
   exact I1.fpOk (ag _) (I1.hok.fresh (ag _))
  .obtain⟨χ,rv,p,hz⟩:=I1.tuple hq
   refine wpAny_pyIter_tuple (p) ?_
   refine⟨s1.heap.objs.size,[s1.heap.objs.size],_,_,H1,rfl,I1.kept λb o e=>ah _ e,W2 a _,⟨_,aD _ rfl,rfl,rfl⟩,λb hb=>?_,q⟩
   have e:b=s1.heap.objs.size:=by simpa using hb
   subst e
   exact I1.fpOk (ag _) (I1.hok.fresh (ag _))
  .obtain⟨o,kvs,H2,I2,e,q⟩:=an3 I1 q
   exact az9 I2 e q
  .exact bv9 I1 hq q
 |_=>exact(q1).elim
variable {es:List Expr}
def ap7(hg:Gl X "range")(hm:X.mg "range"=none)(ha:QA X (a::es) r)(hs:(a::es).all noStar=true):QI X tg (.Call (.Name "range" p) (a::es) [] pos) (Go r):=by
 intro Ex mt ξ s σ H R I h
 have h2:=b7▸hs
 rw[aV] at h2
 refine Call_ (Dg I hg hm boot_range (bZ (thn (ha Ex mt pos ξ s σ H _ I h) λus s1 ⟨vs,H1,I1,r1,q1⟩=>?_) (A3 h2.1 es X.env) (Cp h2.2 X.env pos)))
 dsimp only at q1
 split at q1
 .obtain⟨⟨h1,h2⟩,q⟩:=q1
  obtain⟨u,rfl,t,rfl⟩:=Dc r1
  exact call_range_1 (Tt I1 (by first|exact ag _|exact bv _ _|omega|(dsimp only;omega)) (by omega) (by omega) h1 h2 (by simpa using q))
 .obtain⟨⟨h1,h2,h3,h4⟩,q⟩:=q1
  obtain⟨u,v,rfl,⟨t,rfl⟩,⟨t',rfl⟩⟩:=b90 r1
  exact call_range_2 (Tt I1 (by first|exact ag _|exact bv _ _|omega|(dsimp only;omega)) h1 h2 h3 h4 q)
 .exact q1.elim
def a55{elts:List Expr}{kt:Nat}{pt:Pos}(hg:Gl X "enumerate")(hm:X.mg "enumerate"=none)(ha:QA X (a::es) r)(hs:(a::es).all noStar=true):QI X (.Tuple elts kt pt) (.Call (.Name "enumerate" p) (a::es) [] pos) (iEn X.K r):=by
 intro Ex mt ξ s σ H R I h
 have hh:=b7▸hs
 rw[aV] at hh
 refine Call_ (Dg I hg hm boot_enumerate (bZ (thn (ha Ex mt pos ξ s σ H _ I h) λus s1 ⟨vs,H1,I1,r1,q1⟩=>?_) (A3 hh.1 es X.env) (Cp hh.2 X.env pos)))
 dsimp only at q1
 split at q1
 .rename_i l
  obtain⟨u,rfl,ru⟩:=Dc r1
  cases ru
  rcases q1 with⟨⟨xs,q1⟩,q⟩|q
  case inr=>
   obtain⟨o,kvs,H2,I2,e,q⟩:=an3 I1 q
   exact ai6 I2 e q
  obtain⟨its1,t1,p1,z1⟩:=I1.list q1
  refine call_enumerate_list p1.isList λh' he hit hsz hk=>?_
  refine io he ?_
  refine⟨_,_,_,_,H1,rfl,I1.kept hk,ac8 (Nat.succ_ne_self _),⟨⟨_,he⟩,hit⟩,λb hb=>?_,q⟩
  have hb:b=s1.heap.objs.size+1\/b=s1.heap.objs.size:=by simpa using hb
  have le:s1.heap.objs.size<=b:=by
   rcases hb with e|e
   .rw[e];exact bv _ 1
   .rw[e];exact ag _
  exact I1.fpOk le (I1.hok.fresh le)
 .exact q1.elim
noncomputable def gNo:DG:=λ_ _ _ _=>False
def gdS:List DG->List V->St->Hp->(St->Hp->Prop)->Prop
 |[],[],σ,H,Q=>Q σ H
 |g::gs,v::vs,σ,H,Q=>g v σ H λσ' H'=>gdS gs vs σ' H' Q
 |_,_,_,_,_=>False
noncomputable def gdT(K:ac)(n:Nat)(gs:List DG):DG:=λv σ H Q=>match v with
 |.ref a=>∃xs,(SqT K H a xs\/SqL K H a xs)/\xs.length=n/\gdS gs xs σ H Q
 |_=>False
def Tk:PG X tg gNo:=λ_ _ _ _ _ _ _ _ _ h=>h.elim
def b24:PGs X [] (gdS []):=by
 intro ξ s σ H vs us Q I r h
 cases vs with
 |nil=>exact a39 ξ s σ H [] us Q I r ⟨rfl,h⟩
 |cons v vs=>exact(h).elim
def b23{g:DG}{gs:List DG}{ts:List Expr}(h1:PG X tg g)(h2:PGs X ts (gdS gs))(hs:(dq (tg::ts) X.env).map (·.2)=nu tg X.env::(dq ts X.env).map (·.2)):PGs X (tg::ts) (gdS (g::gs)):=by
 intro ξ s σ H vs us Q I r h
 cases vs with
 |nil=>exact(h).elim
 |cons v vs=>exact ao0 h1 h2 hs ξ s σ H (v::vs) us Q I r ⟨v,vs,rfl,h⟩
def ca7{ts:List Expr}{k n:Nat}{gs:List DG}(hc:X.calm=true)(h:PGs X ts (gdS gs))(hn:(dq ts X.env).length=n)(hst:(dq ts X.env).findIdx? (·.1)=none):PG X (.Tuple ts k pos) (gdT X.K n gs):=by
 intro ξ s σ H v u Q I r hw
 cases v with
 |ref a=>
  obtain⟨xs,h1|h1,h2,h3⟩:=hw
  .exact bp5 hc h hn hst ξ s σ H _ u Q I r ⟨a,xs,rfl,h1,h2,h3⟩
  cases r
  obtain⟨χ,rv,pl,_⟩:=I.list h1
  rw[assign_Tuple]
  refine af (eh ?_)
  unfold unpack
  rw[hst,show(dq ts X.env).length=χ.toArray.size by rw[hn,<- h2,rv.length];rfl]
  refine af (bC (PySem.W.kun_itemsOf (I.ok.hd hc) pl.isList λh' hx=>?_))
  have I1:=I.kept λb o e=>hx b o (aR (aH e)) e
  exact h ξ _ σ H xs _ Q I1 (rv) h3
 |_=>exact(hw).elim
end
def Rq(K:ac)(a:Addr)(n:Nat):It:=
 ⟨λi H=>i<n/\∃xs,SqL K H a xs/\xs.length=n,λi H x H'=>H'=H/\∀xs,SqL K H a xs->xs[n-1-i]?=some x,λi _=>n<=i⟩
def av8{P:aO}{w:bw}{K:ac}{tg:Expr}(a it:Addr)(n:Nat):M8 P w K tg (Rq K a n) [it] it (λi h=>i<=n/\h.IsRevIter it a ((n:Int)-1-(i:Int))) where
 mem:=by simp
 obj:=λi h st b hb=>by
  have e:b=it:=by simpa using hb
  subst e
  obtain⟨_,o,e,c,d⟩:=st
  exact⟨o,e,λv z=>by rw[d] at z;cases z⟩
 keep:=λi h h' st k=>⟨st.1,by
  obtain⟨_,o,e,c,d⟩:=st
  exact⟨o,k it (by simp) o e,c,d⟩⟩
 item:=by
  intro X hP hw hK hc i ξ s σ H E I hf st hg
  subst hP hw hK
  obtain⟨hi,xs,hq,hl⟩:=hg
  obtain⟨χ,rv,p,hz⟩:=I.list hq
  have hx:xs[n-1-i]?=some (xs[n-1-i]'(by omega)):=aj _
  obtain⟨u,hu,ru⟩:=rv.get hx
  obtain⟨f0,f1,f2,f3,f4,f5⟩:=hf it (by simp)
  have e0:n-1-i=((n-1-i:Nat):Int):=by omega
  have st2:=st.2
  rw[e0] at st2
  refine wpAny_pyNext_rev_item st2 p.isList (by simpa using hu) λh' st' sb=>?_
  have I1:=I.turned (λb o hb e=>(sb.2 b hb).trans e) f0 f1 f3 f4 f5
  obtain⟨o,e,c,d⟩:=id st'
  refine⟨u,rfl,Lf e c d (by decide) ⟨_,H,I1,ru,⟨rfl,λys hy=>by rw[I.list_inj hy hq];exact hx⟩,⟨hi,?_⟩,λb hb=>(hf b hb).1⟩⟩
  rw[show n-1-((i+1:Nat):Int)=((n-1-i:Nat):Int)-1 by omega]
  exact st'
 done:=by
  intro X hP hw hK hc i ξ s σ H E I hf st hg
  subst hP hw hK
  obtain⟨f0,f1,f2,f3,f4,f5⟩:=hf it (by simp)
  have hg:n<=i:=hg
  have st2:=st.2
  rw[show(n:Int)-1-(i:Int) = -1 by have:=st.1;omega] at st2
  exact wpAny_pyNext_rev_end (I.ok.hd hc) st2 λh' eb=>⟨rfl,I.turned (t':=s.toks) (λb o hb e=>eb b o hb e) f0 f1 f3 f4 f5⟩
 self:=λ_ _ _ _ _ st h=>lF st.2 h
noncomputable def aj9(K:ac)(a:DE):DI:=λσ H R E=>a σ H (λx H1=>match x with
 |.ref p=>∃xs,SqL K H1 p xs/\R (Rq K p xs.length) H1
 |_=>False) E
def ah1:cz "reversed"=some (.type "reversed"):=by decide +kernel
def br5{X:Cx}{tg a:Expr}{da:DE}{p pos:Pos}(hg:Gl X "reversed")(hm:X.mg "reversed"=none)(ha:QE X a da)(hs:noStar a=true):QI X tg (.Call (.Name "reversed" p) [a] [] pos) (aj9 X.K da):=by
 intro Ex mt ξ s σ H R I h
 have hA:=Ky ha Qm hs
 refine Call_ (Dg I hg hm ah1 (bZ (thn (hA Ex mt pos ξ s σ H (λvs H1=>∃x,vs=[x]/\(match x with | .ref p=>∃xs,SqL X.K H1 p xs/\R (Rq X.K p xs.length) H1|_=>False)) I ?_) λus s1 ⟨vs,H1,I1,r1,q1⟩=>?_) (A3 hs [] X.env) rfl))
 .have h2:da σ H (λx H1=>∃y,[x]=[y]/\(match y with | .ref p=>∃xs,SqL X.K H1 p xs/\R (Rq X.K p xs.length) H1|_=>False)) (Ex σ):=by
   have e:(λ(x:V) H1=>∃y,[x]=[y]/\(match y with | .ref p=>∃xs,SqL X.K H1 p xs/\R (Rq X.K p xs.length) H1|_=>False))=λx H1=>(match x with | .ref p=>∃xs,SqL X.K H1 p xs/\R (Rq X.K p xs.length) H1|_=>False):=by
    funext x H1
    apply propext
    constructor
    .rintro⟨y,e,h⟩
     cases e
     exact h
    .exact λh=>⟨x,rfl,h⟩
   rw[e]
   exact h
  exact h2
 .obtain⟨x,rfl,q⟩:=q1
  obtain⟨u,rfl,ru⟩:=Dc r1
  cases x with
  |ref l=>
   cases ru
   obtain⟨xs,hq,q⟩:=q
   obtain⟨χ,rv,pl,hz⟩:=I1.list hq
   refine call_reversed_list pl.isList ?_
   have e:(χ.toArray.size:Int)-1=xs.length-1-(0:Int):=by rw[au,rv.length];omega
   rw[e]
   have st:(s1.heap.push (revObj l (xs.length-1-(0:Int)))).IsRevIter s1.heap.objs.size l (xs.length-1-(0:Int)):=⟨_,aD _ rfl,rfl,rfl⟩
   refine lF st ?_
   refine⟨s1.heap.objs.size,[s1.heap.objs.size],_,_,H1,rfl,I1.kept λb o e=>ah _ e,av8 l s1.heap.objs.size xs.length,⟨bu _,st⟩,λb hb=>?_,q⟩
   have e:b=s1.heap.objs.size:=by simpa using hb
   subst e
   exact I1.fpOk (ag _) (I1.hok.fresh (ag _))
  |_=>exact(q).elim
def Di(cs:List (Str×Addr)):List (Str×cR)->List (Str×Addr)->List (Str×Addr)
 |[],acc=>acc
 |(n,k)::r,acc=>if k==.free then Di cs r ((n,(cs.lookup n).getD 0)::acc) else Di cs r acc
def Na{scope:Scope}{env:Env}(h:∀y∈scope.names,y.2=.free -> ∃c,env.cells.lookup y.1=some c):k_ scope env=pure (Di env.cells scope.names []):=by
 unfold k_
 generalize scope.names=names at h
 suffices ∀acc,(forIn names acc λx cs=>do
   if(x.2==.free)=true then do
    let c <- cellOf env x.1
    pure (fX ((x.1,c)::cs))
   else pure (fX cs):Sem (List (Str×Addr)))=pure (Di env.cells names acc) by
  have:=this []
  simp only[bind_pure]
  exact this
 induction names with
 |nil=>intro acc;rfl
 |cons y r ih=>
  intro acc
  obtain⟨n,k⟩:=y
  rw[List.forIn_cons]
  unfold Di
  by_cases e:(k==fw)=true
  .obtain⟨c,hc⟩:=h (n,k) (by simp) (b9 e)
   have ec:cellOf env n=pure c:=by
    unfold cellOf
    rw[hc]
   simp only[e,if_true,ec,pure_bind]
   rw[ih (λy hy=>h y (ay _ hy)),show env.cells.lookup n=some c from hc]
   rfl
  .have e':(k==fw)=false:=by simpa using e
   simp only[e',dn,if_false,pure_bind]
   rw[ih (λy hy=>h y (ay _ hy))]
theorem Iw{cs:List (Str×Addr)}:∀{names} {acc} {p},p∈Di cs names acc->p∈acc\/((p.1,fw)∈names/\p.2=(cs.lookup p.1).getD 0)
 |[],_,_,h=>.inl h
 | (n,k)::r,acc,p,h=>by
  unfold Di at h
  by_cases e:(k==fw)=true
  .rw[if_pos e] at h
   rcases Iw h with h|⟨h1,h2⟩
   .rcases List.mem_cons.mp h with h|h
    .subst h
     exact .inr ⟨by rw[b9 e];simp,rfl⟩
    .exact .inl h
   .exact .inr ⟨ay _ h1,h2⟩
  .rw[if_neg e] at h
   rcases Iw h with h|⟨h1,h2⟩
   .exact .inl h
   .exact .inr ⟨ay _ h1,h2⟩
theorem Iv{cs:List (Str×Addr)}:∀{names} {acc} {p},p∈acc->p∈Di cs names acc
 |[],_,_,h=>h
 | (n,k)::r,acc,p,h=>by
  unfold Di
  split
  .exact Iv (ay _ h)
  .exact Iv h
theorem Oh{cs:List (Str×Addr)}:∀{names} {acc} {n},(n,fw)∈names->n∈(Di cs names acc).map (·.1)
 |[],_,_,h=>by cases h
 | (m,k)::r,acc,n,h=>by
  unfold Di
  rcases List.mem_cons.mp h with e|h
  .cases e
   rw[if_pos (show(fw==fw)=true from rfl)]
   exact List.mem_map.mpr ⟨_,Iv (aP),rfl⟩
  .split <;> exact Oh h
def ab4(sc:List (Str×cR))(names:List (Str×cR)):List (Str×cR):=names.map λ(n,k)=>if(k==.free&&sc.lookup n==some .cell) then(n,.cell) else(n,k)
def Sz(names:List (Str×cR)):List Str:=(names.filter λy=>(y.2==.local) && !(y.1==(".0" : Str))).map (·.1)
def U4(names:List (Str×cR)):List Str:=(names.filter λy=>y.2==.free).map (·.1)
def cfV(o:Option cR):Bool:=o==some .cell||o==some .free
def Dj(G:Sg)(names:List (Str×cR)):Sg:={G with N:=Sz names++U4 names,sc:=ab4 G.sc names,top:=false}
def Gb(G:Sg)(names:List (Str×cR)):List (Option Nat):=(Sz names).map (λ_=>none)++(U4 names).map (λx=>C2 G.N x 0)
def Fg(G:Sg)(sc:Scope):Bool:=
 (sc.names.all λy=>!(y.2==.cell))&&(sc.names.all λy=>!(y.2==.local)||(sc.names.lookup y.1==some .local))&&(sc.kind==.function) &&
 decide (Sz sc.names++U4 sc.names).Nodup&&((U4 sc.names).all λx=>(C2 G.N x 0).isSome&&cfV (G.sc.lookup x)&&cfV ((ab4 G.sc sc.names).lookup x)) &&
 ((Sz sc.names).all λx=>(ab4 G.sc sc.names).lookup x==some .local)
section
variable {X:Cx}{G:Sg}{sc:Scope}
def Hd{o:Option cR}(h:cfV o=true):o=some .cell\/o=some .free:=by
 unfold cfV at h
 rw[cB] at h
 exact h.elim (λe=>.inl (b9 e)) λe=>.inr (b9 e)
def G1(O:GOk X G):(j0 sc X.env).names=ab4 G.sc sc.names:=by
 apply cU
 rintro⟨n,k⟩ _
 have e:X.env.kindOf n=G.sc.lookup n:=O.sc n
 dsimp only
 rw[e,O.kind]
 simp
def Pr(O:GOk X G)(h:Fg G sc=true):K2 X (Dj G sc.names).N (Gb G sc.names) sc (Di X.env.cells sc.names []):=by
 unfold Fg at h
 simp only[aV,bg,ib,decide_eq_true_eq,cB] at h
 obtain⟨⟨⟨⟨⟨h1,h2⟩,h3⟩,h4⟩,h5⟩,h6⟩:=h
 have fr:∀y∈sc.names,y.2=.free -> ∃c,X.env.cells.lookup y.1=some c:=λy hy hf=>by
  refine O.cel y.1 ?_
  rw[O.sc]
  exact Hd (h5 y.1 (List.mem_map.mpr ⟨y,List.mem_filter.mpr ⟨hy,by rw[hf];rfl⟩,rfl⟩)).1.2
 have nc:∀y∈sc.names,y.2≠.cell:=λy hy e=>by
  have:=h1 y hy
  rw[e] at this
  cases this
 refine⟨Na fr,nc,b9 h3,λy hy hl=>?_,λx c hx=>?_,λx hx=>?_,?_,λk j x e1 e2=>?_⟩
 .rcases h2 y hy with z|z
  .rw[hl] at z;cases z
  .exact b9 z
 .have hm:=bV hx
  rcases Iw hm with z|⟨z1,z2⟩
  .cases z
  .obtain⟨c',hc'⟩:=fr _ z1 rfl
   have z2':c=(X.env.cells.lookup x).getD 0:=z2
   rw[hc'] at z2' ⊢
   rw[z2']
   rfl
 .have hn:(j0 sc X.env).names=ab4 G.sc sc.names:=G1 O
  have key:∀kd,(j0 sc X.env).names.lookup x=some kd->cfV (some kd)=true -> ∃c,(Di X.env.cells sc.names []).lookup x=some c:=λkd hkd hc=>by
   rw[hn] at hkd
   have hm:=bV hkd
   obtain⟨⟨n,k⟩,hy,e⟩:=List.mem_map.mp hm
   dsimp only at e
   have hfree:k=.free/\n=x:=by
    have hkc:=nc _ hy
    by_cases e1:(k==fw&&G.sc.lookup n==some .cell)=true
    .rw[if_pos e1] at e
     rw[aV] at e1
     exact⟨b9 e1.1,congrArg Prod.fst e⟩
    .rw[if_neg e1] at e
     cases e
     rcases Hd hc with z|z
     .exact absurd (aG z) hkc
     .exact⟨aG z,rfl⟩
   obtain⟨rfl,rfl⟩:=hfree
   exact al5 (Oh hy)
  rcases hx with hx|hx
  .exact key _ hx rfl
  .exact key _ hx rfl
 .unfold Gb Dj
  simp
 .have e1':(Sz sc.names++U4 sc.names)[k]?=some x:=e1
  have e2':((Sz sc.names).map (λ_=>none)++(U4 sc.names).map (λx=>C2 G.N x 0))[k]?=some (some j):=e2
  by_cases hlt:k<(Sz sc.names).length
  .rw[bJ (by simpa using hlt),al] at e2'
   cases q:(Sz sc.names)[k]? with
   |none=>rw[q] at e2';cases e2'
   |some z=>rw[q] at e2';cases e2'
  .rw[bo (by simpa using hlt)] at e1' 
   rw[bo (by simpa using hlt),ae,al,e1'] at e2'
   have hs:C2 G.N x 0=some j:=aG e2'
   have hx:x∈U4 sc.names:=ak e1'
   obtain⟨⟨_,c1⟩,c2⟩:=h5 x hx
   refine⟨by rw[O.N];exact Er hs,?_,?_⟩
   .rw[O.sc];exact Hd c1
   .rw[G1 O];exact Hd c2
def Xx(O:GOk X G)(h:Fg G sc=true)(fp:List Addr)(C:Addr)(s:am)(H:Hp)(xe:Value->am->Prop) :
  GOk (X.comp (Dj G sc.names).N sc (Di X.env.cells sc.names []) fp C s H xe) (Dj G sc.names):=by
 have S:=Pr O h
 unfold Fg at h
 simp only[aV,bg,ib,decide_eq_true_eq,cB] at h
 obtain⟨⟨⟨⟨⟨h1,h2⟩,h3⟩,h4⟩,h5⟩,h6⟩:=h
 have hn:(j0 sc X.env).names=ab4 G.sc sc.names:=G1 O
 refine⟨O.K,b9 h3,(λz=>by cases z),rfl,h4,λx=>?_,λx hx=>?_,λz=>(by cases z),O.calm,O.hd,O.units,S.has,λx g e=>?_,O.bl,λz=>(by cases z),O.fr⟩
 .show (j0 sc X.env).names.lookup x=_
  rw[hn]
  rfl
 .show Vis (j0 sc X.env) x
  unfold Vis
  rw[hn]
  rcases List.mem_append.mp hx with q|q
  .exact .inl (b9 (h6 x q))
  .exact .inr (Hd (h5 x q).2)
 .refine GBOk.to ?_ ?_ ?_ ?_ ?_ ?_ (O.gb x g e)
  .rfl
  .rfl
  .rfl
  .rfl
  .exact λ_ r=>r
  .exact λi F=>⟨F.kp,F.ok,F.room,F.binds,F.vals⟩
end
def Gs:St->Hp->(Option Int->Hp->Prop)->EK->Prop:=λ_ H Q _=>Q none H
def K8(a:DE):St->Hp->(Option Int->Hp->Prop)->EK->Prop:=λσ H Q E=>a σ H (λx H1=>match x with
 |.int i=>Q (some i) H1
 |_=>False) E
abbrev DO:=St->Hp->(Option Int->Hp->Prop)->EK->Prop
def cb2(K:ac):V->Option Int->Option Int->Hp->VK->Prop:=λx lo hi H Q=>match x with
 |.str z=>z.length<=sizeLine/\Q (.str (Txt.slice z lo hi)) H
 |.ref a=>∃xs,∃k:Nat,SqL K H a xs/\((lo=none/\hi=some (k:Int)/\∀p,H p=none->Q (.ref p) (upd H p (.lst (xs.take k))))\/(lo=some (k:Int)/\hi=none/\∀p,H p=none->Q (.ref p) (upd H p (.lst (xs.drop k)))))
 |_=>False
noncomputable def dSl(K:ac)(a:DE)(l h:DO):DE:=λσ H Q E=>a σ H (λx H1=>l σ H1 (λlo H2=>h σ H2 (λhi H3=>cb2 K x lo hi H3 Q) E) E) E
def QO(X:Cx)(e:Option Expr)(t:DO):Prop:=∀Ex,Meets X Ex->PO X e (λσ H Q=>t σ H Q (Ex σ))
section
variable {X:Cx}{G:Sg}{e:Expr}{de:DE}{lo hi:Option Expr}{dl dh:DO}{pos p2:Pos}
def Yh:QO X none Gs:=λ_ _=>a40
def Yi(h:QE X e de):QO X (some e) (K8 de):=by
 intro Ex m ξ s σ H Q I hw
 rw[evalPart_some]
 refine thn (h Ex m ξ s σ H _ I hw) λu s1 ⟨x,H1,I1,r1,q1⟩=>?_
 cases x with
 |int i=>obtain⟨t,rfl⟩:=r1;exact⟨some i,H1,I1,.int i t,q1⟩
 |_=>exact(q1).elim
def Qh(e:Expr)(z:Str)(t:Tok)(r:Value):letTemporaryGo e (.str z t) r=pure ():=by
 cases e <;> rfl
def ap6(he:QE X e de)(hl:QO X lo dl)(hh:QO X hi dh):QE X (.Subscript e (.Slice lo hi none p2) pos) (dSl X.K de dl dh):=by
 intro Ex m ξ s σ H Q I h
 refine Subscript_ (thn (he Ex m ξ s σ H _ I h) λv s1 ⟨x,H1,I1,r1,q1⟩=>?_)
 refine wpAny_Slice (thn (hl Ex m ξ s1 σ H1 _ I1 q1) λvl s2 ⟨l,H2,I2,pl,q2⟩=>thn (hh Ex m ξ s2 σ H2 _ I2 q2) λvu s3 ⟨u,H3,I3,pu,q3⟩=>?_)
 rw[evalPart_none]
 refine aq ?_
 have I4:Inv X ξ σ H3 {s3 with heap:=s3.heap.push {cls:=.type "slice", data:=.fields #[vl,vu,.none]}}:=I3.kept λb ob q=>ah _ q
 cases x with
 |str z=>
  obtain⟨hz,q⟩:=q3
  obtain⟨t,rfl⟩:=r1
  have hk:KeptH (λh=>Inv X ξ σ H3 {s3 with heap:=h}):=λh ob J=>J.kept λb o eb=>ah _ eb
  have fin:∀h' t' k,Inv X ξ σ H3 {s3 with heap:=h'}->(λa s'=>s3.toks<=s'.toks->EP X ξ σ Q a s') (.str (Txt.slice z l u) t') {s3 with heap:=h',toks:=k}:=λh' t' k J htk=>⟨.str _,H3,J.tok k htk,⟨_,rfl⟩,q⟩
  refine bF (ag _) ?_
  cases pl with
  |none=>
   cases pu with
   |none=>exact jn (SBH.sliceItem_nn hk I3 fin hz) (by with_unfolding_all rfl) (Qh e z t)
   |int j uj=>exact jn (SBH.sliceItem_ns hk I3 fin hz) (by with_unfolding_all rfl) (Qh e z t)
  |int i ui=>
   cases pu with
   |none=>exact jn (SBH.sliceItem_sn hk I3 fin hz) (by with_unfolding_all rfl) (Qh e z t)
   |int j uj=>exact jn (SBH.sliceItem_ss hk I3 fin hz) (by with_unfolding_all rfl) (Qh e z t)
 |ref a=>
  cases r1
  obtain⟨xs,k,hx,q⟩:=q3
  obtain⟨χ,r,ht,hz⟩:=I4.list hx
  have hl:=r.length
  have big:χ.toArray.size<=sizeLine:=by rw[au];omega
  refine tail_any (ops:=[.ref s3.heap.objs.size,.ref a]) ht.isList.typeIs slot_list_getitem.lookup ?_ (by with_unfolding_all rfl)
  rcases q with⟨rfl,rfl,q⟩|⟨rfl,rfl,q⟩
  .refine jJ ht.isList (lW ..) pl pu .none (by simp) ?_ big
   rw[slicePick_upto']
   exact⟨.ref _,_,I4.laid (o:=.lst (xs.take k)) (λb ob q=>ah _ q) (ag _) ⟨by rw[aN];omega,_,0,r.take k,aD _ rfl⟩,rfl,q _ (I4.hok.fresh (ag _))⟩
  .refine jJ ht.isList (lW ..) pl pu .none (by simp) ?_ big
   rw[slicePick_from']
   exact⟨.ref _,_,I4.laid (o:=.lst (xs.drop k)) (λb ob q=>ah _ q) (ag _) ⟨by rw[j1];omega,_,0,r.drop k,aD _ rfl⟩,rfl,q _ (I4.hok.fresh (ag _))⟩
 |_=>exact(q3).elim
def Lw:Expr->Bool
 |.Set _ _ _=>false
 |_=>true
def Lx{e:Expr}(h:Lw e=true)(env:Env)(x:Value):gr e env x=pure x:=by
 cases e with
 |Set _ _ _=>cases h
 |_=>rfl
def Hu:Meets X (λ_ _ _=>False):=λ_ _ _ _ _ _ _ h=>h.elim
variable {tg iter elt:Expr}{ifs:List Expr}{sc:Scope}{wi:DI}{g:DG}{tc:DT}
def Vn(G:Sg)(x:Str):Bool:=(G.sc.lookup x==some .local)||(G.top&&(G.sc.lookup x==some .cell))
noncomputable def wG:Nat->Sg->Expr->DG
 |0,_,_=>gNo
 | n+1,G,e=>match e with
  | .Name x _=>match C2 G.N x 0 with
   |some i=>if Vn G x=true then gdN i else gNo
   |none=>gNo
  |.Tuple ts _ _=>if G.calm=true/\ts.all noStar=true then gdT G.K ts.length (ts.map (wG n G)) else gNo
  |_=>gNo
def Qj(O:GOk X G){x:Str}(h:Vn G x=true):Loc X.env.scope x/\(X.fn x=true\/X.env.scope.names.lookup x=some .local):=by
 unfold Vn at h
 rw[cB,aV] at h
 rcases h with h|⟨h1,h2⟩
 .have:X.env.scope.names.lookup x=some .local:=by rw[O.sc];exact b9 h
  exact⟨.inl this,.inr this⟩
 .have:X.env.scope.names.lookup x=some .cell:=by rw[O.sc];exact b9 h2
  exact⟨.inr this,.inl (O.top h1 x)⟩
def E6{e:Expr}(h:noStar e=true)(es:List Expr)(env:Env):dq (e::es) env=(false,nu e env)::dq es env:=by
 cases e with
 |Starred _ _=>cases h
 |_=>rfl
def K4{es:List Expr}(h:es.all noStar=true)(env:Env):(dq es env).length=es.length/\(dq es env).findIdx? (·.1)=none:=by
 induction es with
 |nil=>exact⟨rfl,rfl⟩
 |cons e es ih=>
  rw[b7,aV] at h
  obtain⟨h1,h2⟩:=ih h.2
  rw[E6 h.1]
  refine⟨by rw[aI,aI,h1],?_⟩
  rw[List.findIdx?_cons,h2]
  rfl
theorem Uh:∀n X G,GOk X G -> ∀e,PG X e (wG n G e)
 |0,_,_,_,_=>Tk
 | n+1,X,G,O,e=>by
  cases e with
  |Name x p=>
   unfold wG
   dsimp only
   split
   .rename_i i e
    split
    .rename_i h
     obtain⟨h1,h2⟩:=Qj O h
     exact a38 (by rw[O.N];exact O.nd) (by rw[O.N];exact Er e) h1 h2
    .exact Tk
   .exact Tk
  |Tuple ts k p=>
   unfold wG
   dsimp only
   split
   .rename_i h
    obtain⟨h1,h2⟩:=h
    obtain⟨h3,h4⟩:=K4 h2 X.env
    rw[<- O.K]
    refine ca7 (O.calm▸h1) ?_ h3 h4
    clear h3 h4
    induction ts with
    |nil=>exact b24
    |cons t ts ih=>
     rw[b7,aV] at h2
     refine b23 (Uh n X G O t) (ih h2.2) ?_
     rw[E6 h2.1]
     rfl
   .exact Tk
  |_=>exact Tk
end
end L2
namespace L2
open PySem PySem.Spec
structure Xh (l:List Addr) (e C:Addr) (dx:Option Addr) (h h':Heap):Prop where
 exc:∃(vs':Array Value)(T:Addr)(oT:Obj)(ts':Array Value),h'.get? e=some (Aw C dx vs')/\vs'.size=6/\vs'[1]?=some (.ref T)/\h.objs.size<=T/\T≠e/\h'.get? T=some oT/\oT.data=.fields ts'/\3<ts'.size/\∀vs,h.get? e=some (Aw C dx vs)->vs'[2]?=vs[2]?
 keep:∀b o,b≠e->b∉l->h.get? b=some o->h'.get? b=some o
 slot:∀b o,b≠e->h.get? b=some o -> ∃sl,h'.get? b=some {o with slots:=sl}
abbrev tbO(fs:Array Value):Obj:={cls:=.type "traceback", dict:=none,data:=.fields fs}
abbrev Ls(T:Addr):Obj->Obj:=fE (·.setIfInBounds 1 (.ref T))
abbrev Kl(h:Heap)(e:Addr)(fs:Array Value):Heap:=(h.push (tbO fs)).update e (Ls h.objs.size)
section
variable {h:Heap}{e C:Addr}{dx:Option Addr}{vs fs:Array Value}
def apart(q:h.get? e=some (Aw C dx vs)):h.objs.size≠e:=gQ (aH q)
def Sy(T:Addr):(Ls T (Aw C dx vs)).data=.fields (vs.setIfInBounds 1 (.ref T)):=rfl
def Uy(q:h.get? e=some (Aw C dx vs)):(Kl h e fs).get? e=some (Aw C dx (vs.setIfInBounds 1 (.ref h.objs.size))):=
 d6 (Ls h.objs.size) (ah (tbO fs) q) (iB (Sy h.objs.size))
def Uz(q:h.get? e=some (Aw C dx vs)):(Kl h e fs).get? h.objs.size=some (tbO fs):=
 (bX (h.push (tbO fs)) (Ls h.objs.size) (apart q).symm).trans (aD h rfl)
def Jz{b:Addr}{o:Obj}(ne:b≠e)(q:h.get? b=some o):(Kl h e fs).get? b=some o:=
 (bX (h.push (tbO fs)) (Ls h.objs.size) ne.symm).trans (ah (tbO fs) q)
def Vd{h0:Heap}{l:List Addr}(hz:h.objs.size=h0.objs.size)(k1:∀b,b∉l->h.get? b=h0.get? b)(k2:∀b o,h0.get? b=some o -> ∃sl,h.get? b=some {o with slots:=sl})(q:h.get? e=some (Aw C dx vs))(hs:vs.size=6)(hf:3<fs.size) :
  Xh l e C dx h0 (Kl h e fs) where
 exc:=⟨_,h.objs.size,_,_,Uy q,by rw[Array.size_setIfInBounds];exact hs,fT (by omega),by omega,apart q,Uz q,rfl,hf,λvs0 q0=>by
  obtain⟨sl,z⟩:=k2 e _ q0
  rw[q] at z
  cases z
  exact Array.getElem?_setIfInBounds_ne (by decide)⟩
 keep:=λb o ne nl hb=>Jz ne ((k1 b nl).trans hb)
 slot:=λb o ne hb=>let⟨sl,z⟩:=k2 b o hb;⟨sl,Jz ne z⟩
end
section
variable {M:nS}{A:bq}{E:Value->am->Prop}{s:am}{base:Heap}{env:Env}{outer:List Env}{L e C:Addr}{dx:Option Addr}{vs:Array Value}{Q:Unit->am->Prop}
def Z9{head:Value}{hadNext:Bool}{env0:Env}(hfr:A.frames=some (env0::outer))(hl:s.heap.FunFrames base (env0::outer))(h0:env0.frame=some L)(hf:env.frame=some L)(q:s.heap.get? e=some (Aw C dx vs))(hs:vs.size=6)(k:∀h',Xh (frs (env0::outer)) e C dx s.heap h'->Q () {s with heap:=h'}) :
  aS M A ((nI env >>= λa=>entryPlaceOf L hadNext >>= λpl=>lM head a .none (eZ L) .none pl >>= λb=>mJ (.ref e) 1 b)) Q E s:=by
 have off:e∉frs (env0::outer):=λz=>by
  obtain⟨_,o,z1,z2⟩:=hl.mem z
  rw[q] at z1
  cases z1
  exact z2 vs rfl
 have fe:nI env=nI env0:=by unfold nI;rw[hf,h0]
 rw[fe]
 refine af (wpAny_frameOf_fun hfr hl h0 λh1 ⟨a1,a2,a3⟩=>af (wpAny_entryPlaceOf λpl hpl=>?_))
 refine af (dH ?_ (hpl.sizeOk5 _ _ _ _ _))
 have q1:=(a2 e off).trans q
 have lt:3<([head,.ref L,.none,eZ L,.none]++(if pl.isEmpty then fO 6 bP else pl)).toArray.size:=by rw[au,aB];simp only[aI,ku];omega
 generalize ([head,.ref L,.none,eZ L,.none]++(if pl.isEmpty then fO 6 bP else pl)).toArray=fs at lt ⊢
 exact gE (ah (tbO fs) q1) rfl (show 1<vs.size by omega) (k _ (Vd a1 a2 a3 q1 hs lt))
end
open PyProof.Rows
open Sem (wp)
def bu4(n:Nat)(a:Addr)(H':Hp)(s':am):Prop:=
 ∃C dx vs T oT ts,FlO H' a C dx/\s'.heap.get? a=some (Aw C dx vs)/\vs.size=6/\vs[1]?=some (.ref T)/\T≠a/\s'.heap.get? T=some oT/\oT.data=.fields ts/\ts[3]?=some .none/\n<=T/\H' T=none
noncomputable def CXE(P:aO)(w:bw):CXT:=λouter H s E e s'=>
 ∃a H',e=.ref a/\(s'.os=s.os/\s.toks<=s'.toks)/\kg s'.gens/\Un (frs outer) [] H H' s.heap s'.heap/\HOk P w H' s'.heap/\bu4 s.heap.objs.size a H' s'/\E e none H'
section
variable {X:Cx}{ξ:List (Addr×Obj)}{σ:St}{H:Hp}{s:am}{a C:Addr}{dx:Option Addr}{h':Heap}
def a11(I:Inv X ξ σ H s)(ea:FlO H a C dx)(L:Xh (frs X.stack) a C dx s.heap h'):Un (frs X.stack) [] H H s.heap h' where
 keep:=λb o q n hb _=>L.keep b o (λz=>by rw[z] at n;rcases ea with ea|ea <;> (rw[ea] at n;cases n)) hb q
 slot:=λb o q n _ _=>L.slot b o (λz=>by rw[z] at n;rcases ea with ea|ea <;> (rw[ea] at n;cases n)) q
 free:=λb o _ n _=>n
 there:=λb o q _=>by
  by_cases hb:b=a
  .obtain⟨vs',T,oT,ts',h1,_⟩:=L.exc
   exact⟨_,by rw[hb];exact h1⟩
  .obtain⟨sl,h1⟩:=L.slot b o hb q
   exact⟨_,h1⟩
 tups:=λ_ _ e=>e
 frzs:=λ_ _ _ e=>e
 tbls:=λb ps e=>⟨#[],by rw[e];simp⟩
def a10(I:Inv X ξ σ H s)(ea:FlO H a C dx)(L:Xh (frs X.stack) a C dx s.heap h'):HOk X.prog X.w H h':=λb o e=>by
 by_cases hb:b=a
 .subst hb
  obtain⟨vs',T,oT,ts',h1,h2,_,_,_,_,_,_,hc⟩:=L.exc
  rcases ea with ea|ea
  .obtain⟨vs,g1,_,g3⟩:=ba1 I ea
   rw[ea] at e
   cases e
   exact aj0 h1 h2 ((hc vs g1).trans g3)
  .rw[ea] at e
   cases e
   exact bg5 h1 h2
 .refine (I.hok b o e).stay (λc u hc q=>L.keep c u ?_ ?_ q) (λ_ q=>q) λ_ _ q=>q
  .rcases hc with rfl|hc
   .exact hb
   .rintro rfl
    rcases ea with ea|ea <;> (rw[ea] at hc;cases hc)
  .intro hm
   have n:=I.stkFree c hm
   rcases hc with rfl|hc
   .rw[n] at e;cases e
   .rw[n] at hc;cases hc
end
end L2
namespace L2
open PySem PySem.Spec PyProof.Rows
open Sem (wp)
section
variable {X:Cx}{ξ:List (Addr×Obj)}{σ:St}{H:Hp}{s:am}{a:Addr}{E:Value->am->Prop}{Q:Unit->am->Prop}
def FlyT(X:Cx)(ξ:List (Addr×Obj))(H:Hp)(a:Addr)(s:am)(z:Value):Prop:=
 ∃C dx vs T oT ts,FlO H a C dx/\s.heap.get? a=some (Aw C dx vs)/\vs.size=6/\vs[1]?=some (.ref T)/\T≠a/\s.heap.get? T=some oT/\oT.data=.fields ts/\ts[3]?=some z/\Cy X ξ H T
def FlyT.at{z:Value}(F:FlyT X ξ H a s z):G6 X ξ H a s:=by
 obtain⟨C,dx,vs,T,oT,ts,h1,h2,h3,q1,q2,q3,q4,q5,q6⟩:=F
 exact⟨C,dx,vs,h1,h2,h3,.inr ⟨T,oT,ts,q1,q2,q3,q4,⟨z,q5⟩,q6⟩⟩
def b37{C T:Addr}{dx:Option Addr}{vs ts:Array Value}{oT:Obj}{y:Value}(I:Inv X ξ σ H s)(h1:FlO H a C dx)(h2:s.heap.get? a=some (Aw C dx vs))(h3:vs.size=6)(q1:vs[1]?=some (.ref T))(q2:T≠a)(q3:s.heap.get? T=some oT)(q4:oT.data=.fields ts)(q5:ts[3]?=some y)(q6:Cy X ξ H T)(v:Value) :
  Inv X ξ σ H {s with heap:=s.heap.update T (fE (·.setIfInBounds 3 v))}/\FlyT X ξ H a {s with heap:=s.heap.update T (fE (·.setIfInBounds 3 v))} v/\(s.heap.update T (fE (·.setIfInBounds 3 v))).get? a=some (Aw C dx vs):=by
 have ha:(s.heap.update T (fE (·.setIfInBounds 3 v))).get? a=some (Aw C dx vs):=(bX _ _ q2).trans h2
 obtain⟨c0,d0,dt0,sl0⟩:=oT
 cases(q4)
 have hT:(s.heap.update T (fE (·.setIfInBounds 3 v))).get? T=some ⟨c0,d0,.fields (ts.setIfInBounds 3 v),sl0⟩:=d6 _ q3 (iB rfl)
 exact⟨I.turned (λb o ne e=>(bX _ _ (bY ne)).trans e) q6.1 q6.2.1 q6.2.2.2.1 q6.2.2.2.2.1 q6.2.2.2.2.2,⟨C,dx,vs,T,_,_,h1,ha,h3,q1,q2,hT,rfl,fT (Array.getElem?_eq_some_iff.mp q5).1,q6⟩,ha⟩
def ar4{A:bq}{fr:Option Addr}{z:Value}(I:Inv X ξ σ H s)(F:FlyT X ξ H a s z)(h:∀s',Inv X ξ σ H s'->FlyT X ξ H a s' (fr.elim .none λf=>eZ f)->Q () s'):aS (model X.prog X.w) A (ng (.ref a) fr) Q E s:=by
 obtain⟨C,dx,vs,T,oT,ts,h1,h2,h3,q1,q2,q3,q4,q5,q6⟩:=F
 obtain⟨I',F',_⟩:=b37 I h1 h2 h3 q1 q2 q3 q4 q5 q6 (fr.elim .none λf=>eZ f)
 refine af (gN h2 rfl q1 ?_)
 rw[if_pos (by simp)]
 exact gE q3 q4 (Array.getElem?_eq_some_iff.mp q5).1 (h _ I' F')
def bb1{env:Env}(I:Inv X ξ σ H s){e0:Env}{o0:List Env}{L:Addr}(hs:X.stack=e0::o0)(h0:e0.frame=some L)(hf:env.frame=some L)(F:G6 X ξ H a s)(h:∀s' z,Inv X ξ σ H s'->FlyT X ξ H a s' z->Q () s') :
  aS (model X.prog X.w) X.A (mW (.ref a) env) Q E s:=by
 obtain⟨C,dx,vs,h1,h2,h3,h4⟩:=F
 have fr:=hs▸I.ok.frames
 have new:∀{s1} {head} {hadNext},Inv X ξ σ H s1->s1.heap.get? a=some (Aw C dx vs)->aS (model X.prog X.w) X.A ((nI env >>= λy=>entryPlaceOf L hadNext >>= λpl=>lM head y .none (eZ L) .none pl >>= λb=>mJ (.ref a) 1 b)) Q E s1:=λ{s1 head hadNext} I1 q=>by
  have fn:=hs▸I1.stack
  refine Z9 fr fn h0 hf q h3 λh' L=>?_
  rw[<- hs] at L
  have I':=I1.call (d':=s1.drawn) (a11 I1 h1 L) (a10 I1 h1 L) I1.bare (λb z=>absurd z (by simp))
  obtain⟨vs',T,oT,ts',a1,a2,a3,a4,a5,a6,a7,a8,_⟩:=L.exc
  exact h _ _ I' ⟨C,dx,vs',T,oT,ts',h1,a1,a2,a3,a5,a6,a7,eE a8,I1.fpOk a4 (I1.hok.fresh a4)⟩
 unfold mW
 simp only[hf]
 rcases h4 with c|⟨T,oT,ts,c,ne,hT,hd,⟨z,hz⟩,fp⟩
 .refine af (gN h2 rfl c ?_)
  rw[if_neg (by decide)]
  exact new I h2
 .refine af (gN h2 rfl c ?_)
  rw[if_pos (by simp)]
  refine af (gN hT hd hz ?_)
  by_cases e:(z==eZ L)=true
  .rw[if_pos e]
   exact aq (h s z I ⟨C,dx,vs,T,oT,ts,h1,h2,h3,c,ne,hT,hd,hz,fp⟩)
  .rw[if_neg e]
   obtain⟨I',_,ha⟩:=b37 I h1 h2 h3 c ne hT hd hz fp .none
   exact af (gE hT hd (Array.getElem?_eq_some_iff.mp hz).1 (new I' ha))
def Yc(I:Inv X ξ σ H s)(hs:X.stack=X.env::X.outer)(hf:X.env.frame=some X.env.locals)(F:G6 X ξ H a s)(h:∀s',Inv X ξ σ H s'->FlyT X ξ H a s' .none->Q () s') :
  aS (model X.prog X.w) X.A (mW (.ref a) X.env) (λ_ s1=>aS (model X.prog X.w) X.A (ng (.ref a) none) Q E s1) E s:=
 bb1 I hs hf hf F λs1 z I1 F1=>ar4 I1 F1 h
def On{A:bq}(I:Inv X ξ σ H s)(F:G6 X ξ H a s)(h:∀s',Inv X ξ σ H s'->G6 X ξ H a s'->Q () s'):aS (model X.prog X.w) A (ng (.ref a) none) Q E s:=by
 obtain⟨C,dx,vs,h1,h2,h3,h4⟩:=F
 rcases h4 with h4|⟨T,oT,ts,q1,q2,q3,q4,⟨z,q5⟩,q6⟩
 .refine af (gN h2 rfl h4 ?_)
  rw[if_neg (by decide)]
  exact aq (h s I ⟨C,dx,vs,h1,h2,h3,.inl h4⟩)
 .exact ar4 I ⟨C,dx,vs,T,oT,ts,h1,h2,h3,q1,q2,q3,q4,q5,q6⟩ λs' I' F'=>h s' I' F'.at
end
section
variable {prog:aO}{w:bw}{A:bq}{E:Value->am->Prop}{s:am}{K:ac}{a C D:Addr}{dx:Option Addr}{vs:Array Value}{b:Bool}{Q:Bool->am->Prop}
open PySem.W in
def Vh(X:K.In s.heap)(c:ECls K C)(d:ECls K D)(ha:s.heap.get? a=some (Aw C dx vs))(m:mroIn K C (.ref D)=some b)(h:Q b s) :
  aS (model prog w) A (excMatches (.ref a) (.ref D)) Q E s:=by
 obtain⟨nm,qn,N,bs,bm,hdct,sn,sub,ab,col,dd,k0,k1,k2,k3,k5,hl,ht,hd⟩:=c.obj
 obtain⟨nm',qn',N',bs',bm',hdct',sn',sub',ab',col',dd',k0',k1',k2',k3',k5',hl',ht',hd'⟩:=d.obj
 have hC:=X _ _ hl
 have hD:=X _ _ hl'
 have hcB:(ba D::bm').contains (.type "BaseException")=true:=by rw[b5,Cd ht' (show valTail.contains (.type "BaseException")=true by decide +kernel),fV]
 have hcD:(ba C::bm).contains (.ref D)=b:=by
  unfold mroIn at m
  obtain⟨cd,e,em⟩:∃cd,mU K C=some cd/\cd.mro=.ref C::bm:=⟨_,by unfold mU;rw[hl],rfl⟩
  rw[e,cG,em] at m
  exact aG m
 have f:=tc_notTuple
 obtain⟨hp,g,dr,tk,os⟩:=s
 repeat (first|with_reducible refine bL ha ?_|with_reducible refine bL hD ?_|(with_reducible refine cH hD ?_;rw[hcB])|(with_reducible refine cH hC ?_;rw[hcD])|wp_step)
 cases b <;> (wp_walk;exact h)
end
end L2
namespace L2
open PySem PySem.Spec PyProof.Rows
section
variable {X:Cx}{G:Sg}{elt tg iter:Expr}{ifs:List Expr}{sc:Scope}{wi:DI}{g:DG}{tc:DT}{de:DE}{pos:Pos}
def bw2{ξ pins':List (Addr×Obj)}{σ:St}{H2 H':Hp}{s2:am}{N':List Str}{cl:List (Str×Addr)}{fp:List Addr}{C T:Addr}{xe:Value->am->Prop}(I2:Inv X ξ σ H2 s2)(f2:∀b∈fp,Cy X ξ H2 b)(F:Cy (X.comp N' sc cl fp C s2 H2 xe) pins' H' T):Cy X ξ H' T:=by
 obtain⟨r1,r2,r3,r4,r5,r6⟩:=F
 rcases r4 with r4|r4
 .exact⟨r1,(f2 T r4).2⟩
 .exact I2.fpOk r4 r1
def Lu{Ex:St->EK}(m:Meets X Ex)(fr:FrH X){ξ:List (Addr×Obj)}{σ:St}{H2:Hp}{s2:am}{N':List Str}{cl:List (Str×Addr)}{fp:List Addr}{C D:Addr}{us:Option (Value->Sem Unit)}{Q2:Value->am->Prop}(I2:Inv X ξ σ H2 s2)(f2:∀b∈fp,Cy X ξ H2 b)(hC:s2.heap.objs.size<=C):Meets (X.comp N' sc cl fp C s2 H2 (Bv X sc cl us Q2 D C)) (λ_ a H'=>Ex σ a H'):=by
 intro pins' σ' H' s' a I' F' hE
 obtain⟨e0,o0,L,f1,f3,f4⟩:=fr
 refine bb1 (X:=X.comp N' sc cl fp C s2 H2 (Bv X sc cl us Q2 D C)) I' f1 f3 f4 F' λs3 z I3 F3=>?_
 obtain⟨mm,hn,_⟩:=I3.loc
 refine⟨mm,hn,λh' sb cenv hce=>?_⟩
 have I4:=I2.call' I3.os I3.base I3.hok I3.bare λb hb=>⟨(f2 b hb).2.2.2.1,(f2 b hb).2.1,(f2 b hb).2.2.2.2.1,(f2 b hb).2.2.2.2.2⟩
 have fo:=I2.fpOk hC I3.free
 obtain⟨g0,g1,g2,g3,g4,g5⟩:=fo
 have I5:=I4.turned (λb o hb e=>(sb.2 b hb).trans e) g0 g1 g3 g4 g5
 obtain⟨C0,dx,vs,T,oT,ts,h1,h2,h3,q1,q2,q3,q4,q5,q6⟩:=F3
 have na:a≠C:=λz=>by rcases h1 with h1|h1 <;> (rw[z,g0] at h1;cases h1)
 have nT:=q6.2.1
 have F5:FlyT X ξ H' a {s3 with heap:=h'} z:=⟨C0,dx,vs,T,oT,ts,h1,(sb.2 a na).trans h2,h3,q1,q2,(sb.2 T nT).trans q3,q4,q5,bw2 I2 f2 q6⟩
 refine af (gN ((sb.2 a na).trans h2) rfl q1 ?_)
 rw[if_neg (by simp)]
 exact af (ar4 I5 F5 λs6 I6 F6=>(nj (m ξ σ H' s6 a I6 F6.at hE)))
def ay9(X:Cx)(ifs:List Expr)(t:DT):Prop:=∀Ex,Meets X Ex->Y5 X ifs (λσ H Q=>t σ H Q (Ex σ))
def Tl:ay9 X [] Cc:=λ_ _=>ao2
def Tm{c:Expr}{t:DT}(h:QT X c t):ay9 X [c] t:=λEx m=>ao3 (h Ex m)
def Yf(O:GOk X G)(hc:X.calm=true)(hk:Fg G sc=true)(hs:Lw iter=true)(hi:QI X tg iter wi)(hg:∀X',GOk X' (Dj G sc.names)->PG X' tg g)(ht:∀X',GOk X' (Dj G sc.names)->ay9 X' ifs tc)(he:∀X',GOk X' (Dj G sc.names)->QE X' elt de) :
  QE X (.ListComp elt [⟨tg,iter,ifs,0⟩] sc pos) (Bj (Gb G sc.names) wi g tc de):=by
 intro Ex m ξ s σ H Q I h
 exact ai1 hc (Pr O hk) (hi Ex m) (λQ2 fp C D s2 H2 I2 f2 hC=>
  have M:=Lu (Q2:=Q2) m O.fr I2 f2 hC
  have K:=Xx O hk fp C s2 H2 (Bv X sc (Di X.env.cells sc.names []) none Q2 D C)
  ⟨hg _ K,ht _ K _ M,he _ K _ M⟩) I h (λx=>Lx hs X.env x)
end
noncomputable def Xv(K:ac)(op:BoolOp):List DE->DE
 |[]=>dNo
 |[a]=>a
 | a::r=>match op with
  |.And=>Hh K a (Xv K op r)
  |.Or=>bv7 K a (Xv K op r)
noncomputable def Xu(op:BoolOp):List DT->DT
 |[]=>λ_ _ _ _=>False
 |[a]=>a
 | a::r=>match op with
  |.And=>Nb a (Xu op r)
  |.Or=>dOr a (Xu op r)
noncomputable def tNo:DT:=λ_ _ _ _=>False
noncomputable def Ro(G:Sg)(ops:List mK)(bs:List Expr)(a:DE)(ds:List DE):DE:=match ops,bs,ds with
 |[op],[b],[d]=>if g9 op b=false then Ah (Jp G.K op) a d else dNo
 |[op,op'],[b,c],[d,d']=>if ma [op,op'] [b,c]=false then Dw (Jp G.K op) (Jp G.K op') a d d' else dNo
 |_,_,_=>dNo
def exJ(n:Nat)(i:FI):Nat:=min i.dfs.length (n+i.dfs.length-i.ps.length)
def exO(n:Nat):Option FI->Nat
 |none=>0
 |some i=>exJ n i
noncomputable def bc7(G:Sg)(x:Str)(es:List Expr)(ds:List DE):DE:=
 if Lj G x=true/\es.all noStar=true then(match G.gb.lookup x with
  |some (.fn i)=>dFn (spE i.sp (i.dfs.drop (exJ es.length i))) (Dv ds)
  |some (.exc C oi)=>dFn (λvs H Q E=>vs.length<=1000/\mkX C oi (exO (es.length+1) oi) vs H Q E) (Dv ds)
  |some (.cls C oi)=>dFn (mkC C oi (exO (es.length+1) oi)) (Dv ds)
  |some _=>dNo
  | none=>if G.bl.contains x=true then(match bf2 G.K G.calm x with
   |some (_,r)=>if es.isEmpty=true then dNo else dFn (λvs H Q _=>r vs H Q) (Dv ds)
   |none=>dNo) else dNo) else dNo
noncomputable def bc8(G:Sg)(o:Expr)(m:Str)(es:List Expr)(ap cp:Pos)(d:DE)(ds:List DE):DE:=
 if Dm o=true/\es.all noStar=true/\es.length<30/\(ap.endLine==cp.line)=true then(match B8 G.gb m with
  |none=>dMt (rMt G.K (mtR G.K m)) d (Dv ds)
  |some l=>Bi m es.length l d (Dv ds)) else dNo
noncomputable def R5(d:DE):DE:=λσ H Q E=>d σ H (λv H'=>Thaw H H' (Q v)) E
def Yg{X:Cx}{e:Expr}{d:DE}(h:QE X e d):QE X e (R5 d):=λEx mt ξ s σ H Q I q=>
 thn (h Ex mt ξ s σ H _ I q) λv s1 ⟨x,H1,I1,r1,q1⟩=>
  let⟨H2,I2,q2⟩:=Thaw.inv I I1 q1
  ⟨x,H2,I2,r1,q2⟩
noncomputable def thw(e:Expr)(d:DE):DE:=match e with
 |.ListComp _ _ _ _=>R5 d
 |_=>d
def Vs{X:Cx}{e e':Expr}{d:DE}(h:QE X e d):QE X e (thw e' d):=by
 cases e' with
 |ListComp=>exact Yg h
 |_=>exact h
inductive Fz where
 |lenSet (a:Expr)|rngList (a:Expr)
noncomputable def fzD(K:ac)(w:Expr->DE):Fz->DE
 |.lenSet a=>dUn (K0 K) (w a)
 |.rngList a=>dUn Mb (w a)
def Zt(G:Sg)(x:Str):Bool:=Lj G x&&(G.gb.lookup x).isNone&&G.bl.contains x
def fz1(G:Sg)(x:Str):Expr->Option Fz
 | .Call f as ks cp=>(match f with
  | .Name y _=>(match as with
   | [a]=>if x="len" /\ y="set" /\ ks.isEmpty=true/\Zt G x=true/\Zt G y=true/\noStar a=true/\G.calm=true then some (.lenSet a)
    else if x="list" /\ y="range" /\ ks.isEmpty=true/\Zt G x=true/\Zt G y=true/\noStar a=true/\G.calm=true then some (.rngList a) else none
   |_=>none)
  |_=>none)
 |_=>none
def aj3(G:Sg)(x:Str):List Expr->Option Fz
 |[a]=>fz1 G x a
 |_=>none
noncomputable def wUn(K:ac)(op:UnaryOp)(d:DE):DE:=match op with
 |.USub=>dUn Tq d
 |.Not=>Xz K d
 |.Invert=>dUn Yl d
 |_=>dNo
noncomputable def wNm(G:Sg)(w:Expr->DE)(x:Str)(es:List Expr):DE:=match aj3 G x es with
 |some z=>fzD G.K w z
 |none=>bc7 G x es (es.map λe=>if x="sum" then thw e (w e) else w e)
noncomputable def wKw(G:Sg)(w:Expr->DE)(x:Str)(a:Expr)(k:Str)(v:Expr):DE:=match v with
 | .Attribute o m _=>if x="sorted" /\ k="key" /\ Lj G x=true/\G.bl.contains x=true/\noStar a=true/\Dm o=true/\G.calm=true then(match Hn G.gb m with
   |some l=>ai2 G.K m l (w a) (w o)
   |none=>dNo) else dNo
 |_=>dNo
mutual
noncomputable def wE:Nat->Sg->Expr->DE
 |0,_,_=>dNo
 | n+1,G,e=>match e with
  |.Constant c _ _=>aw4 c
  |.Name x _=>aw5 G x
  |.BinOp a op b _=>thw b (Ah (rOp G.K op) (wE n G a) (wE n G b))
  |.UnaryOp op a _=>wUn G.K op (wE n G a)
  |.BoolOp op es _=>Xv G.K op (es.map (wE n G))
  |.Compare a ops bs _=>Ro G ops bs (wE n G a) (bs.map (wE n G))
  |.List es _=>if es.all noStar=true then Cf (Dv (es.map (wE n G))) else dNo
  |.Tuple es _ _=>if es.all noStar=true then Eh (Dv (es.map (wE n G))) else dNo
  | .Subscript a b _=>(match b with
   |.Slice lo hi st _=>if st.isNone=true then dSl G.K (wE n G a) (match lo with|none=>Gs|some l=>K8 (wE n G l)) (match hi with|none=>Gs|some h=>K8 (wE n G h)) else dNo
   |b=>Ah (A7 G.K) (wE n G a) (wE n G b))
  |.Attribute o f _=>if Dm o=true then dUn (Bm G.K f) (wE n G o) else dNo
  | .Call f es ks cp=>(match f with
   | .Name x _=>(match ks with
    |[]=>wNm G (wE n G) x es
    | [⟨some k,v,_⟩]=>(match es with
     |[a]=>wKw G (wE n G) x a k v
     |_=>dNo)
    |_=>dNo)
   |.Attribute o m ap=>if ks.isEmpty=true then bc8 G o m es ap cp (wE n G o) (es.map (wE n G)) else dNo
   |_=>dNo)
  |.Dict ks vs _=>if ks.isEmpty=true/\vs.isEmpty=true then Cz else dNo
  | .ListComp elt gs sc _=>(match gs with
   | [⟨tg,iter,ifs,a⟩]=>if a=0/\G.calm=true/\Fg G sc=true/\Lw iter=true then
    Bj (Gb G sc.names) (wI n G tg iter) (wG n (Dj G sc.names) tg) (match ifs with | []=>Cc | [c]=>wT n (Dj G sc.names) c|_=>tNo) (wE n (Dj G sc.names) elt) else dNo
   |_=>dNo)
  |_=>dNo
noncomputable def wT:Nat->Sg->Expr->DT
 |0,_,_=>tNo
 | n+1,G,e=>match e with
  | .UnaryOp op a p=>(match op with
   |.Not=>C5 (wT n G a)
   |op=>B9 G.K (wE n G (.UnaryOp op a p)))
  |.BoolOp op es _=>Xu op (es.map (wT n G))
  |.Compare a ops bs _=>Bl (Ro G ops bs (thw a (wE n G a)) (bs.map λe=>thw e (wE n G e)))
  |.IfExp _ _ _ _=>tNo
  |e=>B9 G.K (wE n G e)
noncomputable def wI:Nat->Sg->Expr->Expr->DI
 |0,_,_,_=>iNo
 | n+1,G,tg,e=>match e with
  | .Call f es ks p=>(match f with
   | .Name x q=>(match es with
    | a::es=>if ks.isEmpty=true/\Lj G x=true/\G.bl.contains x=true/\(a::es).all noStar=true then
      (if x="range" then Go (Dv ((a::es).map (wE n G)))
      else if x="enumerate" then(match tg with
       |.Tuple _ _ _=>iEn G.K (Dv ((a::es).map (wE n G)))
       |_=>iNo)
      else if x="reversed" /\ es.isEmpty=true then aj9 G.K (wE n G a)
      else Bg G.K (wE n G (.Call (.Name x q) (a::es) ks p)))
     else Bg G.K (wE n G (.Call (.Name x q) (a::es) ks p))
    |[]=>Bg G.K (wE n G (.Call (.Name x q) [] ks p)))
   |f=>Bg G.K (wE n G (.Call f es ks p)))
  |.ListComp a b c d=>Bg G.K (R5 (wE n G (.ListComp a b c d)))
  |e=>Bg G.K (wE n G e)
end
def bb6{X:Cx}{e:Expr}:QT X e tNo:=λ_ _ _ _ _ _ _ _ h=>h.elim
theorem Qn{X:Cx}{w:Expr->DE}{op:BoolOp}{pos:Pos}(h:∀e,QE X e (w e)):∀{es:List Expr},QE X (.BoolOp op es pos) (Xv X.K op (es.map w))
 |[]=>Bx
 |[e]=>br1 (h e)
 | e::e'::es=>by
  cases op with
  |And=>exact bq2 (h e) (Qn h)
  |Or=>exact b31 (h e) (Qn h)
theorem Qo{X:Cx}{w:Expr->DT}{op:BoolOp}{pos:Pos}(h:∀e,QT X e (w e)):∀{es:List Expr},QW X (.BoolOp op es pos) (Xu op (es.map w))
 |[]=>λ_ _ _ _ _ _ _ _ _ h=>h.elim
 | [e]=>by
  cases op with
  |And=>exact a60 (h e)
  |Or=>exact bs5 (h e)
 | e::e'::es=>by
  cases op with
  |And=>exact bs4 (h e) (Qo h)
  |Or=>exact b33 (h e) (Qo h)
section
variable {X:Cx}{G:Sg}
def E2{c:Prop} [Decidable c]{e:Expr}{d:DE}(h:c->QE X e d):QE X e (if c then d else dNo):=by
 by_cases z:c
 .rw[if_pos z];exact h z
 .rw[if_neg z];exact Bx
def Xw{P:List mK->List Expr->DE->Prop}{w:Expr->DE}(a:Expr)(h1:∀op b,g9 op b=false->P [op] [b] (Ah (Jp G.K op) (w a) (w b)))(h2:∀op op' b c,ma [op,op'] [b,c]=false->P [op,op'] [b,c] (Dw (Jp G.K op) (Jp G.K op') (w a) (w b) (w c)))(h0:∀ops bs,P ops bs dNo)(ops:List mK)(bs:List Expr):P ops bs (Ro G ops bs (w a) (bs.map w)):=by
 rcases ops with _|⟨op,_|⟨op',_|_⟩⟩ <;> rcases bs with _|⟨b,_|⟨c,_|_⟩⟩ <;> try exact h0 _ _
 .exact dite (g9 op b=false) (λz=>by rw[show Ro G [op] [b] (w a) ([b].map w)=_ from if_pos z];exact h1 op b z) λz=>by rw[show Ro G [op] [b] (w a) ([b].map w)=_ from if_neg z];exact h0 _ _
 .exact dite (ma [op,op'] [b,c]=false) (λz=>by rw[show Ro G [op,op'] [b,c] (w a) ([b,c].map w)=_ from if_pos z];exact h2 op op' b c z) λz=>by rw[show Ro G [op,op'] [b,c] (w a) ([b,c].map w)=_ from if_neg z];exact h0 _ _
def a49(O:GOk X G){w:Expr->DE}(h:∀e,QE X e (w e))(a:Expr)(ops:List mK)(bs:List Expr)(pos:Pos):QE X (.Compare a ops bs pos) (Ro G ops bs (w a) (bs.map w)):=
 Xw (P:=λops bs d=>QE X (.Compare a ops bs pos) d) a (λop b z=>by rw[<- O.K];exact bq5 O.units op (h a) (h b) z) (λop op' b c z=>by rw[<- O.K];exact ap2 O.units op op' (h a) (h b) (h c) z) (λ_ _=>Bx) ops bs
def a59(O:GOk X G){w:Expr->DE}(h:∀e,QE X e (w e))(a:Expr)(ops:List mK)(bs:List Expr)(pos:Pos):QT X (.Compare a ops bs pos) (Bl (Ro G ops bs (w a) (bs.map w))):=
 Xw (P:=λops bs d=>QT X (.Compare a ops bs pos) (Bl d)) a (λop b z=>by rw[<- O.K];exact bs2 O.units op (h a) (h b) z) (λop op' b c z=>by rw[<- O.K];exact aq2 O.units op op' (h a) (h b) (h c) z) (λ_ _=>λ_ _ _ _ _ _ _ _ h=>h.elim) ops bs
def ap1(O:GOk X G){w:Expr->DE}(h:∀e,QE X e (w e))(x:Str)(es:List Expr)(p pos:Pos):QE X (.Call (.Name x p) es [] pos) (bc7 G x es (es.map w)):=by
 refine E2 fun⟨hg,hs⟩=>?_
 have dd:=Va hg
 cases e:G.gb.lookup x with
 |some b=>
  have A:=O.at_ x _ e
  cases b with
  |fn i=>exact ap4 h hs (O.gl hg) dd.1 A.1 A.2.kp λmt I r q=>Yr A.2 (kx _ _) mt I r q
  |exc C oi=>exact ap4 h hs (O.gl hg) dd.1 A.1 A.2.1 λmt I r q=>a69 A.2.2.1 A.2.2.2 (λi z=>by subst z;exact kx _ _) mt I r q.1 q.2
  |cls C oi=>exact ap4 h hs (O.gl hg) dd.1 A.1 A.2.1 λmt I r q=>a68 A.2.2 (λi z=>by subst z;exact kx _ _) mt I r A.2.1 q
  |_=>exact Bx
 |none=>
  refine E2 λhb=>?_
  cases er:bf2 G.K G.calm x with
  |none=>exact Bx
  |some f=>
   obtain⟨f,r⟩:=f
   cases es with
   |nil=>exact Bx
   |cons e es=>
    rw[<- O.K] at er
    obtain⟨b1,b2⟩:=az4 O.units er O.calm
    exact bq4 b2 (O.gl hg) (O.bl x hb) b1 (Ec h hs) hs dd.2.2 dd.1
def ap5(O:GOk X G){w:Expr->DE}(h:∀e,QE X e (w e))(o:Expr)(m:Str)(es:List Expr)(ap cp:Pos):QE X (.Call (.Attribute o m ap) es [] cp) (bc8 G o m es ap cp (w o) (es.map w)):=by
 refine E2 fun⟨h1,h2,h3,h4⟩=>?_
 rw[<- O.K]
 cases e:B8 G.gb m with
 |none=>
  cases es with
  |nil=>exact bq8 (λb hb=>am1 O.units hb) (h o) h1 h4
  |cons e es=>exact b29 (λb hb=>am1 O.units hb) (h o) (Ec h h2) h1 h2 h3 h4
 |some l=>exact br2 (O.met m l e) h h1 h2 h3 h4
end
def Ea{X:Cx}{G:Sg}(O:GOk X G){x:Str}(h:Zt G x=true):Gl X x/\X.mg x=none:=by
 unfold Zt at h
 rw[aV,aV] at h
 exact⟨O.gl h.1.1,O.bl _ h.2⟩
def a51{X:Cx}{G:Sg}(O:GOk X G){w:Expr->DE}(h:∀e,QE X e (w e)){x:Str}{es:List Expr}{p pos:Pos}{z:Fz}(e:aj3 G x es=some z) :
  QE X (.Call (.Name x p) es [] pos) (fzD G.K w z):=by
 rw[<- O.K]
 rcases es with _|⟨f,_|_⟩
 .cases e
 .cases f with
  |Call f as ks cp=>
   cases f with
   |Name y q=>
    rcases as with _|⟨a,_|_⟩
    .cases e
    .refine B3 e (fun⟨e1,e2,h0,h1,h2,h3,h4⟩ ez=>?_) λe=>B3 e (fun⟨e1,e2,h0,h1,h2,h3,h4⟩ ez=>?_) λe=>nomatch e <;> (subst e1 e2 ez;rw[List.isEmpty_iff.mp h0])
     .exact aa9 (O.calm▸h4) (Ea O h1).1 (Ea O h1).2 (Ea O h2).1 (Ea O h2).2 (h _) h3
     .exact Vr (O.calm▸h4) (Ea O h1).1 (Ea O h1).2 (Ea O h2).1 (Ea O h2).2 (h _) h3
    .cases e
   |_=>cases e
  |_=>cases e
 .cases e
def b30{X:Cx}{G:Sg}(O:GOk X G){w:Expr->DE}(h:∀e,QE X e (w e)){x:Str}{es:List Expr}{p pos:Pos}:QE X (.Call (.Name x p) es [] pos) (wNm G w x es):=by
 unfold wNm
 split
 .exact a51 O h ‹_›
 ·(refine ap1 O ?_ _ _ _ _;exact λe=>by split <;> first|exact Vs (h e)|exact h e)
def b28{X:Cx}{G:Sg}(O:GOk X G){w:Expr->DE}(h:∀e,QE X e (w e)){x k:Str}{a v:Expr}{p q pos:Pos}:QE X (.Call (.Name x p) [a] [⟨some k,v,q⟩] pos) (wKw G w x a k v):=by
 cases v with
 |Attribute o m ap=>
  refine E2 λhh=>?_
  obtain⟨rfl,rfl,h1,h2,h3,h4,h5⟩:=hh
  split
  .rename_i l el
   obtain⟨k,hk⟩:=Fl el
   rw[<- O.K]
   exact a53 (O.calm▸h5) (O.gb _ _ hk) (O.gl h1) (O.bl _ h2) (h _) (h _) h3 h4
  .exact Bx
 |_=>exact Bx
def aw6:∀(n:Nat)(X:Cx)(G:Sg),GOk X G->(∀e,QE X e (wE n G e))/\(∀e,QT X e (wT n G e))/\(∀tg e,QI X tg e (wI n G tg e)):=by
 intro n
 induction n with
 |zero=>
  intro X G O
  exact⟨λ_=>Bx,λ_=>bb6,λ_ _=>bb5⟩
 |succ n ih=>
  intro X G O
  obtain⟨hE,hT,hI⟩:=ih X G O
  obtain⟨K,N,sc0,gb,bl,top,cm⟩:=G
  obtain rfl:X.K=K:=O.K
  refine⟨λe=>?_,λe=>?_,λtg e=>?_⟩
  .cases e with
   |Constant=>exact ap3 _ _ _
   |Name=>exact a52 O _ _
   |BinOp=>exact Vs (bq3 _ (hE _) (hE _))
   |UnaryOp op=>
    cases op with
    |USub=>exact bq9 (hE _)
    |Not=>exact br0 (hE _)
    |Invert=>exact bq6 (hE _)
    |_=>exact Bx
   |BoolOp=>exact Qn hE
   |Compare=>exact a49 O hE _ _ _ _
   |List=>exact E2 λh=>bq7 (Ec hE h)
   |Tuple=>exact E2 λh=>br3 (Ec hE h)
   |Subscript a b=>
    cases b with
    |Slice lo hi st=>
     cases st with
     |none=>exact ap6 (hE _) (by cases lo <;> first|exact Yh|exact Yi (hE _)) (by cases hi <;> first|exact Yh|exact Yi (hE _))
     |some=>exact Bx
    |_=>exact b27 O.units (hE _) (hE _) rfl
   |Attribute=>exact E2 λh=>a48 (hE _) (D6 h _ X.env _)
   |Call f es ks=>
    cases f with
    |Name x=>
     rcases ks with _|⟨⟨_|k,v,_⟩,_|_⟩
     .exact b30 O hE
     .exact Bx
     .exact Bx
     .rcases es with _|⟨a,_|_⟩
      .exact Bx
      .exact b28 O hE
      .exact Bx
     .exact Bx
    |Attribute=>
     cases ks with
     |nil=>exact ap5 O hE _ _ _ _ _
     |cons=>exact Bx
    |_=>exact Bx
   |Dict ks vs=>
    refine E2 λh=>?_
    rw[List.isEmpty_iff.mp h.1,List.isEmpty_iff.mp h.2]
    exact a50
   |ListComp elt gs=>
    rcases gs with _|⟨⟨tg,it,ifs,a⟩,_|_⟩
    .exact Bx
    .refine E2 fun⟨h0,h1,h2,h3⟩=>?_
     subst h0
     refine Yf O (O.calm▸h1) h2 h3 (hI _ _) (λX' O'=>Uh n X' _ O' _) (λX' O'=>?_) (λX' O'=>(ih X' _ O').1 _)
     rcases ifs with _|⟨c,_|_⟩
     .exact Tl
     .exact Tm ((ih X' _ O').2.1 _)
     .exact λ_ _ _ _ _ _ _ _ h=>h.elim
    .exact Bx
   |_=>exact Bx
  .cases e with
   |UnaryOp op=>
    cases op with
    |Not=>exact bs3 (hT _)
    |_=>exact aq3 (hE _) rfl
   |BoolOp=>exact λEx m=>PW.pt (Qo hT Ex m)
   |Compare=>exact a59 O (λe=>Vs (hE e)) _ _ _ _
   |IfExp=>exact bb6
   |_=>exact aq3 (hE _) rfl
  .cases e with
   |Call f es ks p=>
    cases f with
    |Name x q=>
     cases es with
     |nil=>exact Jo (hE _)
     |cons a es=>
      show QI X tg _ (if _ then _ else _)
      split
      .rename_i hh
       obtain⟨h0,h1,h2,h3⟩:=hh
       rw[List.isEmpty_iff.mp h0]
       split
       .rename_i e;subst e;exact ap7 (O.gl h1) (O.bl _ h2) (Ec hE h3) h3
       split
       .rename_i e
        subst e
        cases tg with
        |Tuple=>exact a55 (O.gl h1) (O.bl _ h2) (Ec hE h3) h3
        |_=>exact bb5
       split
       .rename_i e
        obtain⟨rfl,h4⟩:=e
        rw[List.isEmpty_iff.mp h4]
        rw[b7,aV] at h3
        exact br5 (O.gl h1) (O.bl _ h2) (hE _) h3.1
       .exact Jo (hE _)
      .exact Jo (hE _)
    |_=>exact Jo (hE _)
   |ListComp=>exact Jo (Yg (hE _))
   |_=>exact Jo (hE _)
def Cx.tr(X:Cx)(pn:List (Addr×Obj))(xe:Value->am->Prop):Cx:={X with pn:=pn,xe:=xe}
def Cx.hd(X:Cx)(a:Addr):Cx:={X with A:=X.A.mark (some (.ref a)),calm:=false,xe:=λ_ _=>False}
section
variable {X:Cx}{ξ pins':List (Addr×Obj)}{σ:St}{H:Hp}{s:am}{a C:Addr}{dx:Option Addr}{xe:Value->am->Prop}
def by7{pn:List (Addr×Obj)}(o:X.Ok):(X.tr pn xe).Ok:=⟨o.mod,o.kind,o.glob,o.blt,o.above,o.inj,o.has,o.cab,o.hd,o.frames,o.stk,o.exf,o.bs,o.bsz,o.noex,o.exfs,o.funs,o.frf,o.tk⟩
def a28{pn:List (Addr×Obj)}(o:(X.tr pn xe).Ok):X.Ok:=⟨o.mod,o.kind,o.glob,o.blt,o.above,o.inj,o.has,o.cab,o.hd,o.frames,o.stk,o.exf,o.bs,o.bsz,o.noex,o.exfs,o.funs,o.frf,o.tk⟩
def bh1(I:Inv X ξ σ H s):Inv (X.tr (X.pn++ξ) xe) [] σ H s:=
 ⟨by7 I.ok,I.os,I.bare,I.base,I.loc,I.cell,I.free,I.freeC,λp hp=>I.pin p (by rw[cu] at hp;exact hp),I.hok,I.len⟩
def Fm(I:Inv (X.tr (X.pn++ξ) xe) pins' σ H s):Inv X ξ σ H s:=
 ⟨a28 I.ok,I.os,I.bare,I.base,I.loc,I.cell,I.free,I.freeC,λp hp=>I.pin p (bn _ hp),I.hok,I.len⟩
def aj1(F:G6 (X.tr (X.pn++ξ) xe) pins' H a s):G6 X ξ H a s:=by
 obtain⟨C,dx,vs,h1,h2,h3,h4⟩:=F
 refine⟨C,dx,vs,h1,h2,h3,h4.imp id fun⟨T,oT,ts,q1,q2,q3,q4,q5,q6⟩=>⟨T,oT,ts,q1,q2,q3,q4,q5,?_⟩⟩
 obtain⟨r1,r2,r3,r4,r5,r6⟩:=q6
 exact⟨r1,r2,r3,r4,r5,λp hp=>r6 p (bn _ hp)⟩
def a75{D:M6}{f:Flow}(h:SP (X.tr (X.pn++ξ) xe) pins' D f s):SP X ξ D f s:=by
 cases f with
 |next=>obtain⟨σ',H',I,q⟩:=h;exact⟨σ',H',Fm I,q⟩
 |brk=>obtain⟨σ',H',I,q⟩:=h;exact⟨σ',H',Fm I,q⟩
 |cont=>obtain⟨σ',H',I,q⟩:=h;exact⟨σ',H',Fm I,q⟩
 |ret u=>obtain⟨v,σ',H',I,r,q⟩:=h;exact⟨v,σ',H',Fm I,r,q⟩
def U8(I:Inv X ξ σ H s):Inv (X.hd a) ξ σ H s:=
 ⟨⟨I.ok.mod,I.ok.kind,I.ok.glob,I.ok.blt,I.ok.above,I.ok.inj,I.ok.has,I.ok.cab,(λz=>by cases z),I.ok.frames,I.ok.stk,I.ok.exf,I.ok.bs,I.ok.bsz,I.ok.noex,I.ok.exfs,I.ok.funs,I.ok.frf,I.ok.tk⟩,I.os,I.bare,I.base,I.loc,I.cell,I.free,I.freeC,I.pin,I.hok,I.len⟩
def Hr(o:X.Ok)(I:Inv (X.hd a) ξ σ H s):Inv X ξ σ H s:=⟨o,I.os,I.bare,I.base,I.loc,I.cell,I.free,I.freeC,I.pin,I.hok,I.len⟩
def Yu{D:M6}{f:Flow}(o:X.Ok)(h:SP (X.hd a) ξ D f s):SP X ξ D f s:=by
 cases f with
 |next=>obtain⟨σ',H',I,q⟩:=h;exact⟨σ',H',Hr o I,q⟩
 |brk=>obtain⟨σ',H',I,q⟩:=h;exact⟨σ',H',Hr o I,q⟩
 |cont=>obtain⟨σ',H',I,q⟩:=h;exact⟨σ',H',Hr o I,q⟩
 |ret u=>obtain⟨v,σ',H',I,r,q⟩:=h;exact⟨v,σ',H',Hr o I,r,q⟩
end
inductive HK where
 |no
 |as (i:Nat)
def asD(a:Addr)(u:DS):HK->DS
 |.no=>λD σ H=>u {D with ex:=λ_ _ _=>False} σ H
 |.as i=>λD σ H=>u ⟨λσ' H'=>D.nx (σ'.set i none) H',D.rt,λσ' H'=>D.bk (σ'.set i none) H',λσ' H'=>D.ct (σ'.set i none) H',λ_ _ _=>False⟩ (σ.set i (some (.ref a))) H
def Po(K:ac)(C a:Addr):List (Addr×HK×DS)->Outs->St->Hp->Prop
 |[],_,_,_=>False
 |(T,oi,u)::r,D,σ,H=>∃b,cN K C (.ref T)=some b/\(if b=true then asD a u oi D σ H else Po K C a r D σ H)
noncomputable def ai3(K:ac)(tb:DS)(us:List (Addr×HK×DS)):DS:=λD σ H=>tb {D with ex:=λσ' a H'=>∃C dx,FlO H' a C dx/\ECls K C/\Po K C a us D σ' H'} σ H
inductive ad4 (X:Cx):Option Str->HK->Prop where
 |no:ad4 X none .no
 |as {n:Str}{i:Nat} (hN:X.N.Nodup) (hi:X.N[i]?=some n) (hl:X.env.scope.names.lookup n=some .local):ad4 X (some n) (.as i)
inductive Y4 (X:Cx):List ExceptHandler->List (Addr×HK×DS)->Prop where
 |nil {hl:List ExceptHandler}:Y4 X hl []
 | cons {x:Str}{p pos:Pos}{nm:Option Str}{oi:HK}{b:Stmt}{suite:List Stmt}{rest:List ExceptHandler}{T:Addr}{u:DS}{us:List (Addr×HK×DS)} (hg:Gl X x) (hm:X.mg x=some (.ref T)) (hd:(x==("__debug__" : Str))=false) (ec:ECls X.K T) (ha:ad4 X nm oi) (hs:∀a,QSs (X.hd a) (b::suite) u) (r:Y4 X rest us) :
   Y4 X (.ExceptHandler (some (.Name x p)) nm (b::suite) pos::rest) ((T,oi,u)::us)
section
variable {X:Cx}{ξ:List (Addr×Obj)}
def Gg{M:nS}{A:bq}{E:Value->am->Prop}{σ:St}{H:Hp}{s:am}{i:Nat}{x:Str}{pos:Pos}{Q:Unit->am->Prop}(I:Inv X ξ σ H s)(hN:X.N.Nodup)(hi:X.N[i]?=some x)(hk:X.env.scope.names.lookup x=some .local)(h:∀s',Inv X ξ (σ.set i none) H s'->Q () s'):aS M A (do bindName X.env x .none;unbindBehindTheSuite X.env x pos) Q E s:=by
 obtain⟨m,hn,hl⟩:=I.loc
 refine wpAny_nameGoes_keeps hk hn (by rw[I.ok.kind];rfl) λh' v hn' sb=>h _ ?_
 have old:∀{b o},X.s₀.heap.get? b=some o->h'.get? b=s.heap.get? b:=λ{b o} e=>sb.2 b (aR (aL (aH e) I.ok.above))
 exact {
  ok:=I.ok
  os:=⟨I.os.1,jx I.os.2⟩
  bare:=I.bare
  base:={I.base with
   keep:=λb o e n hb hx=>by show h'.get? b=_;rw[old e];exact I.base.keep b o e n hb hx
   slot:=λb o e n hb hx=>by show ∃sl,h'.get? b=_;rw[old e];exact I.base.slot b o e n hb hx
   there:=λb o e hx=>by show ∃o',h'.get? b=_;rw[old e];exact I.base.there b o e hx}
  loc:=⟨_,hn',λj y w e1 e2 e3=>by
   have hj:j≠i:=λz=>by
    have lt:i<σ.length:=by rw[I.len];exact(List.getElem?_eq_some_iff.mp hi).1
    rw[z,cS lt] at e2
    cases e2
   rw[dA (bY hj)] at e2
   obtain⟨u,r,q⟩:=hl j y w e1 e2 e3
   have ny:y≠x:=λz=>hj (Ly hN e1 (z▸hi))
   refine⟨u,r,q.imp (fun⟨k,e⟩=>⟨k,(if_neg ny).trans e⟩) fun⟨k,c,e,z⟩=>⟨k,c,e,z.sameBut sb (I.cne y c e)⟩⟩⟩
  cell:=λy c e=>let⟨w,z⟩:=I.cell y c e;⟨w,z.sameBut sb (I.cne y c e)⟩
  free:=I.free
  freeC:=I.freeC
  pin:=λp hp=>let⟨e,n,ne,nf,d⟩:=I.pin p hp;⟨(sb.2 p.1 ne).trans e,n,ne,nf,d⟩
  hok:=λb ob e=>(I.hok b ob e).stay (λc w hc q=>(sb.2 c (by
   rintro rfl
   have f:=I.free
   rcases hc with rfl|hc
   .rw[f] at e;cases e
   .rw[f] at hc;cases hc)).trans q) (λ_ q=>q) λ_ _ q=>q
  len:=by rw[fZ];exact I.len}
def Zn(hst:X.stack=X.env::X.outer)(hfr:X.env.frame=some X.env.locals){Ex:St->EK}(mt:Meets X Ex){D:M6}{hl:List ExceptHandler}{us:List (Addr×HK×DS)}(K:Y4 X hl us):∀{σ:St}{H:Hp}{s:am}{a C:Addr}{dx:Option Addr},Inv X ξ σ H s->G6 X ξ H a s->FlO H a C dx->ECls X.K C->Po X.K C a us (a34 Ex D) σ H ->
  aS (model X.prog X.w) X.A (handleBy (.ref a) X.env hl) (SP X ξ D) X.xe s:=by
 induction K with
 |nil=>intro σ H s a C dx I F e ec h;exact h.elim
 |@cons x p pos nm oi b suite rest T u us hg hm hd ecT ha hs r ih=>
  intro σ H s a C dx I F e ec h
  obtain⟨m,hm2,h⟩:=h
  have hx:∃vs,s.heap.get? a=some (Aw C dx vs):=by
   obtain⟨vs,z,_⟩:=ai9 I (.inr e)
   exact⟨vs,z⟩
  obtain⟨vs,hx⟩:=hx
  refine wpAny_handleBy_cons (codeAny_handlers_test (P7 (U8 I) hg hm ?_ hd)) (by intro q;cases q)
  refine Vh I.kIn ec ecT hx hm2 ?_
  cases m with
  |false=>exact ih I F e ec h
  |true=>
   cases ha with
   |no=>
    exact codeAny_handlers_suite (On (A:=(X.hd a).A) I F λs1 I1 F1=>(bH (hs a (λ_ _ _=>False) Hu ξ s1 σ H D (U8 I1) h) (λf s2 q=>Yu I.ok q) λ_ _ z=>z.elim))
   |@as n i hN hi hlo=>
    refine codeAny_handlers_suite_as (On I F λs1 I1 F1=>?_)
    refine Ie (v:=.ref a) I1 hN hi (.inl hlo) rfl (λs2 I2=>?_) (.inr hlo)
    refine bH (hs a (λ_ _ _=>False) Hu ξ s2 (σ.set i (some (.ref a))) H ⟨λσ' H'=>D.nx (σ'.set i none) H',D.rt,λσ' H'=>D.bk (σ'.set i none) H',λσ' H'=>D.ct (σ'.set i none) H'⟩ (U8 I2) h) (λf s3 q=>?_) λ_ _ z=>z.elim
    have q:=Yu I.ok q
    cases f with
    |next=>obtain⟨σ',H',I',q⟩:=q;exact Gg I' hN hi hlo λs4 I4=>⟨_,H',I4,q⟩
    |brk=>obtain⟨σ',H',I',q⟩:=q;exact Gg I' hN hi hlo λs4 I4=>⟨_,H',I4,q⟩
    |cont=>obtain⟨σ',H',I',q⟩:=q;exact Gg I' hN hi hlo λs4 I4=>⟨_,H',I4,q⟩
    |ret w=>obtain⟨v,σ',H',I',r,q⟩:=q;exact Gg I' hN hi hlo λs4 I4=>⟨v,_,H',I4,r,q⟩
def bs1{Y:Cx}{body:List Stmt}{h0:ExceptHandler}{hs:List ExceptHandler}{pos:Pos}{tb:DS}{us:List (Addr×HK×DS)}(hst:Y.stack=Y.env::Y.outer)(hfr:Y.env.frame=some Y.env.locals)(hb:∀pn xe,g7 (model Y.prog Y.w) Y.A Y.env xe->QSs (Y.tr pn xe) body tb)(hh:Y4 Y (h0::hs) us):QS Y (.Try body (h0::hs) [] [] pos) (ai3 Y.K tb us):=by
 intro Ex m ξ s σ H D I hw
 refine wpAny_Try_except ?_
 refine bH (hb (Y.pn++ξ) (λe s1=>aS (model Y.prog Y.w) Y.A (mW e Y.env) (λ_ s2=>aS (model Y.prog Y.w) Y.A (ng e none) (λ_ s3=>aS (model Y.prog Y.w) Y.A (handleBy e Y.env (h0::hs)) (SP Y ξ D) Y.xe s3) Y.xe s2) Y.xe s1) PassesOwn.looking
  (λσ' a H'=>∃C dx,FlO H' a C dx/\ECls Y.K C/\Po Y.K C a us (a34 Ex D) σ' H') ?_ [] s σ H D (bh1 I) hw) (λf s1 q=>?_) λ_ _ z=>z
 .intro pins' σ' H' s' a I' F' ⟨C,dx,e,ec,h⟩
  exact Yc (Fm I') hst hfr (aj1 F') λs2 I2 F2=>Zn hst hfr m hh I2 F2.at e ec h
 .have q:=a75 q
  cases f with
  |next=>exact i6 q
  |_=>exact q
end
def Jg:Expr->Bool
 |.ListComp _ _ _ _=>false
 |.SetComp _ _ _ _=>false
 |.DictComp _ _ _ _ _=>false
 |_=>true
def Jh{e:Expr}(h:Jg e=true)(t:Option Expr)(l:Nat)(env:Env):jH e t l env=pure false:=by
 cases e with
 |ListComp _ _ _ _=>cases h
 |SetComp _ _ _ _=>cases h
 |DictComp _ _ _ _ _=>cases h
 |_=>rfl
section
variable {X:Cx}{G:Sg}{st:Stmt}{rest:List Stmt}{t u:DS}{e:Expr}{de:DE}{pos p':Pos}
def B4:QS X st Bn:=λ_ _ _ _ _ _ _ _ h=>h.elim
def Yj:QSs X [] Af:=λ_ _=>a44
def Tn(h1:QS X st t)(h2:QSs X rest u):QSs X (st::rest) (Ae t u):=λEx m=>ao8 (h1 Ex m) (h2 Ex m)
def a57:QS X (.Pass pos) Af:=λ_ _=>a42
def ap9(h:QE X e de):QS X (.Return (some e) pos) (Aq de):=λEx m=>bp7 (h Ex m)
def a58:QS X (.Return none pos) a99:=λ_ _=>a43
def a56(h:QE X e de)(hn:Jg e=true):QS X (.Expr e pos) (B1 de):=λEx m=>a41 (h Ex m) (Jh hn _ _ _)
def b32{c:Expr}{a b:List Stmt}{tc:DT}(hc:QT X c tc)(ha:QSs X a t)(hb:QSs X b u):QS X (.If c a b pos) (dIf tc t u):=λEx m=>b25 (hc Ex m) (ha Ex m) (hb Ex m)
def aq0{i:Nat}{x:Str}(O:GOk X G)(hi:C2 G.N x 0=some i)(hx:Vn G x=true)(h:QE X e de)(hn:jH e (some (.Name x p')) pos.line X.env=pure false):QS X (.Assign [.Name x p'] e pos) (Ao i de):=by
 obtain⟨h1,h2⟩:=Qj O hx
 exact λEx m=>bp8 (by rw[O.N];exact O.nd) (by rw[O.N];exact Er hi) h1 (h Ex m) hn h2
variable {tg iter elt:Expr}{ifs:List Expr}{sc:Scope}{wi:DI}{g:DG}{tc:DT}
def Vt{i:Nat}{x:Str}{cp:Pos}(O:GOk X G)(hi:C2 G.N x 0=some i)(hx:Vn G x=true)(hc:X.calm=true)(hk:Fg G sc=true)(hs:Lw iter=true)(hq:QI X tg iter wi)(hg:∀X',GOk X' (Dj G sc.names)->PG X' tg g)(ht:∀X',GOk X' (Dj G sc.names)->ay9 X' ifs tc)(he:∀X',GOk X' (Dj G sc.names)->QE X' elt de) :
  QS X (.Assign [.Name x p'] (.ListComp elt [⟨tg,iter,ifs,0⟩] sc cp) pos) (Ao i (Bj (Gb G sc.names) wi g tc de)):=by
 obtain⟨h1,h2⟩:=Qj O hx
 have sw:jH (.ListComp elt [⟨tg,iter,ifs,0⟩] sc cp) (some (.Name x p')) pos.line X.env=pure (X.env.blockKind==.function&&X.env.kindOf x==some .local&&p'.line==(Expr.ListComp elt [⟨tg,iter,ifs,0⟩] sc cp).pos.line
   && !(sc.names.any λ(n,k)=>n==x&&(k==.local||k==.cell))):=rfl
 cases hb:(X.env.blockKind==.function&&X.env.kindOf x==some .local&&p'.line==(Expr.ListComp elt [⟨tg,iter,ifs,0⟩] sc cp).pos.line
   && !(sc.names.any λ(n,k)=>n==x&&(k==.local||k==.cell))) with
 |false=>
  rw[hb] at sw
  exact aq0 O hi hx (Yf O hc hk hs hq hg ht he) sw
 |true=>
  rw[hb] at sw
  simp only[aV] at hb
  have hl:=b9 hb.1.1.2
  intro Ex m ξ s σ H D I h
  exact ai0 hc (by rw[O.N];exact O.nd) (by rw[O.N];exact Er hi) hl (Pr O hk) (hq Ex m) (λus Q2 fp C D s2 H2 I2 f2 hC=>
   have M:=Lu (Q2:=Q2) m O.fr I2 f2 hC
   have K:=Xx O hk fp C s2 H2 (Bv X sc (Di X.env.cells sc.names []) us Q2 D C)
   ⟨hg _ K,ht _ K _ M,he _ K _ M⟩) I h sw (λx=>Lx hs X.env x)
def br9{body:List Stmt}(O:GOk X G)(ht:G.top=true)(hc:X.calm=true)(hi:QI X tg iter wi)(hg:PG X tg g)(hb:QSs X body t)(hs:Lw iter=true):QS X (.For tg iter body [] pos) (Bu wi g t):=by
 intro Ex m ξ s σ H D I h
 refine bH (bp6 (O.own ht) hc (hi Ex m) hg (hb Ex m) (λx=>Lx hs X.env x) ξ s σ H {D with nx:=λσ' H'=>Thaw H H' (D.nx σ')} I h) (λf s' q=>?_) λ_ _ z=>z
 cases f with
 |next=>
  obtain⟨σ',H',I',q⟩:=q
  obtain⟨H2,I2,q2⟩:=Thaw.inv I I' q
  exact⟨σ',H2,I2,q2⟩
 |_=>exact q
def aq1{c:Expr}{body:List Stmt}(O:GOk X G)(ht:G.top=true)(hc:QT X c tc)(hb:QSs X body t):QS X (.While c body [] pos) (Uw tc t):=λEx m=>ao7 (O.own ht) (hc Ex m) (hb Ex m)
noncomputable def Cb(K:ac)(e:DE):DS:=λD σ H=>e σ H (Vv K (D.ex σ)) (D.ex σ)
def ap8(O:GOk X G)(hc:X.A.handled=none)(h:QE X e de):QS X (.Raise (some e) none pos) (Cb X.K de):=λEx m=>ao6 m hc (h Ex m)
def am7:Expr->Bool
 |.Tuple _ _ _=>false
 |_=>true
def am8{e:Expr}{ts:List Expr}{kt:Nat}{pt:Pos}(h:am7 e=true)(env:Env):swappedStores [.Tuple ts kt pt] e env=pure none:=by
 cases e with
 |Tuple _ _ _=>cases h
 |_=>rfl
def br6{ts:List Expr}{kt:Nat}{pt:Pos}{g:DG}(h:QE X e de)(hg:PG X (.Tuple ts kt pt) g)(hn:Jg e=true)(ht:am7 e=true):QS X (.Assign [.Tuple ts kt pt] e pos) (Ew de g):=
 λEx m=>ao5 (h Ex m) hg (Jh hn (some (.Tuple ts kt pt)) pos.line X.env) (am8 ht _)
noncomputable def Da(K:ac)(o i:DE):DG:=λv σ H Q=>o σ H (λx H1=>i σ H1 (λy H2=>bc0 x y v H2 (Q σ)) λ_ _=>False) λ_ _=>False
def bs0{o i:Expr}{do' di:DE}(hu:X.A.units+64<cLine)(ho:QE X o do')(hi:QE X i di)(h:QE X e de)(hsl:Gh i=true):QS X (.Assign [.Subscript o i p'] e pos) (Ew de (Da X.K do' di)):=by
 intro Ex m
 have hg:PG X (.Subscript o i p') (Da X.K do' di):=bp4 (ho _ Hu) (hi _ Hu) (b39 hu) (by
  intro v
  cases i with
  |Slice _ _ _ _=>cases hsl
  |_=>rfl)
 exact ao5 (h Ex m) hg (by show jH e (some (.Subscript o i p')) pos.line X.env=pure false;cases e <;> rfl) (by cases e <;> rfl)
noncomputable def Gn(K:ac)(f:Str)(o e:DE):DS:=λD σ H=>e σ H (λy H1=>o σ H1 (λx H2=>aq9 K f x y H2 (D.nx σ)) (D.ex σ)) (D.ex σ)
def br8{o:Expr}{f:Str}{do':DE}(ho:QE X o do')(h:QE X e de):QS X (.Assign [.Attribute o f p'] e pos) (Gn X.K f do' de):=by
 intro Ex m ξ s σ H D I hw
 exact plainObj_wpAny_Assign_Attribute (thn (h Ex m ξ s σ H _ I hw) λu s1 ⟨y,H1,I1,ry,q⟩=>thn (ho Ex m ξ s1 σ H1 _ I1 q) λov s2 ⟨x,H2,I2,rx,q2⟩=>(b38 I2 rx ry q2 λH' s' I' hN=>⟨σ,H',I',hN⟩)) (by cases e <;> rfl)
end
def cf2:GB->GB
 |.val v u=>.val v u
 |.exc C _=>.val (.ref C) (.ref C)
 |.cls C _=>.val (.ref C) (.ref C)
 |.ini C _=>.val (.ref C) (.ref C)
 |_=>.met "" []
def bt8(gb:List (Str×GB)):List (Str×GB):=gb.map λp=>(p.1,cf2 p.2)
def hdG(G:Sg):Sg:={G with gb:=bt8 G.gb,calm:=false}
def Si(gb:List (Str×GB))(x:Str):Option Addr:=match gb.lookup x with
 |some (.exc T _)=>some T
 |_=>none
def okH(G:Sg):ExceptHandler->Bool
 | .ExceptHandler (some e) nm (_::_) _=>(match e with
  | .Name x _=>Lj G x&&(Si G.gb x).isSome&&(match nm with
   |none=>true
   |some n=>(C2 G.N n 0).isSome&&(G.sc.lookup n==some .local))
  |_=>false)
 |_=>false
def by3(G:Sg):ExceptHandler->Option Nat
 |.ExceptHandler _ (some n) _ _=>C2 G.N n 0
 |_=>none
def bb0(G:Sg)(h:ExceptHandler):HK:=match by3 G h with
 |some i=>.as i
 |none=>.no
def bv5(G:Sg):ExceptHandler->Addr
 |.ExceptHandler (some (.Name x _)) _ _ _=>(Si G.gb x).getD 0
 |_=>0
def bv4:ExceptHandler->List Stmt
 |.ExceptHandler _ _ b _=>b
def bg8{X:Cx}{G:Sg}(O:GOk X G)(a:Addr):GOk (X.hd a) (hdG G) where
 K:=O.K
 kind:=O.kind
 own:=λ_=>kC
 N:=O.N
 nd:=O.nd
 sc:=O.sc
 vis:=O.vis
 top:=O.top
 calm:=rfl
 hd:=λz=>by cases z
 units:=O.units
 cel:=O.cel
 gb:=λx g e=>by
  obtain⟨⟨y,g'⟩,hg,z⟩:=List.mem_map.mp (e)
  cases z
  have h:=O.gb _ g' hg
  cases g' with
  |val v u=>exact h
  |exc C i=>exact⟨h.1,rfl⟩
  |cls C i=>exact⟨h.1,rfl⟩
  |ini C i=>exact⟨h.1,rfl⟩
  |fn i=>exact λmi hm=>by cases hm
  |met m l=>exact λmi hm=>by cases hm
  |dic a kvs=>exact λmi hm=>by cases hm
  |key m l=>exact λmi hm=>by cases hm
 bl:=O.bl
 frm:=O.frm
 fr:=O.fr
def b88{X:Cx}{pn:List (Addr×Obj)}{xe:Value->am->Prop}{i:FI}(F:Ip X i):Ip (X.tr pn xe) i:=⟨F.kp,F.ok,F.room,F.binds,F.vals⟩
def bt5{X:Cx}{G:Sg}(O:GOk X G){pn:List (Addr×Obj)}{xe:Value->am->Prop}(ho:g7 (model X.prog X.w) X.A X.env xe):GOk (X.tr pn xe) G where
 K:=O.K
 kind:=O.kind
 own:=λ_=>ho
 N:=O.N
 nd:=O.nd
 sc:=O.sc
 vis:=O.vis
 top:=O.top
 calm:=O.calm
 hd:=O.hd
 units:=O.units
 cel:=O.cel
 gb:=λx g e=>by
  refine GBOk.to ?_ ?_ ?_ ?_ ?_ ?_ (O.gb x g e)
  .rfl
  .rfl
  .rfl
  .rfl
  .exact λ_ r=>r
  .exact λi F=>b88 F
 bl:=O.bl
 frm:=O.frm
 fr:=O.fr
def an0{G:Sg}{h:ExceptHandler}(hh:okH G h=true):∃x p nm b suite pos,h=.ExceptHandler (some (.Name x p)) nm (b::suite) pos/\Lj G x=true/\(Si G.gb x).isSome=true/\∀n,nm=some n->(C2 G.N n 0).isSome=true/\G.sc.lookup n=some .local:=by
 obtain⟨_|e,nm,_|⟨b,r⟩,p⟩:=h
 .cases hh
 .cases hh
 .cases hh
 .cases e with
  |Name x q=>
   obtain⟨h1,h2⟩:=Bool.and_eq_true_iff.mp (hh)
   have h1:=Bool.and_eq_true_iff.mp h1
   refine⟨_,_,_,_,_,_,rfl,h1.1,h1.2,λn e=>?_⟩
   subst e
   have h2:=Bool.and_eq_true_iff.mp (h2)
   exact⟨h2.1,b9 h2.2⟩
  |_=>cases hh
def hsD(G:Sg)(w:List Stmt->DS)(hl:List ExceptHandler):List (Addr×HK×DS):=(hl.takeWhile (okH G)).map λh=>(bv5 G h,bb0 G h,w (bv4 h))
theorem ba2{X:Cx}{G:Sg}(O:GOk X G){w:List Stmt->DS}(h:∀a ss,QSs (X.hd a) ss (w ss)):∀hl,Y4 X hl (hsD G w hl)
 |[]=>.nil
 | e0::r=>by
  unfold hsD
  rw[List.takeWhile_cons]
  cases h1:okH G e0 with
  |false=>exact .nil
  |true=>
  obtain⟨x,p,nm,b,suite,pos,rfl,hg,hs,hnm⟩:=an0 h1
  obtain⟨T,hT⟩:=Option.isSome_iff_exists.mp hs
  have hl:∃oi,G.gb.lookup x=some (.exc T oi):=by
   unfold Si at hT
   split at hT
   .rename_i T' oi e;cases hT;exact⟨oi,e⟩
   .cases hT
  obtain⟨oi,hl⟩:=hl
  obtain⟨m,kp,ec,_⟩:=O.at_ x _ hl
  have e:bv5 G (.ExceptHandler (some (.Name x p)) nm (b::suite) pos)=T:=by show(Si G.gb x).getD 0=T;rw[hT];rfl
  simp only[if_true,aX]
  rw[e]
  have ao:ad4 X nm (bb0 G (.ExceptHandler (some (.Name x p)) nm (b::suite) pos)):=by
   cases nm with
   |none=>exact .no
   |some n=>
    obtain⟨z1,z2⟩:=hnm n rfl
    obtain⟨i,hi⟩:=Option.isSome_iff_exists.mp z1
    show ad4 X (some n) (match C2 G.N n 0 with|some i=>HK.as i|none=>HK.no)
    rw[hi]
    exact .as (by rw[O.N];exact O.nd) (by rw[O.N];exact Er hi) (by rw[O.sc];exact z2)
  exact .cons (O.gl hg) m (Va hg).1 ec ao (λa=>h a _) (ba2 O h r)
section
variable {X:Cx}{o i e:Expr}{do' di de:DE}{pos p':Pos}
theorem Uf{v:V}{u:Value}(q:RelV v u):∀{xs} {us},Vals xs us -> ∀j,Vals (xs.set j v) (us.set j u)
 |_,_,.nil,_=>.nil
 |_,_,.cons _ t,0=>.cons q t
 |_,_,.cons h t,j+1=>.cons h (Uf q t j)
noncomputable def az6(o i e:DE):DS:=λD σ H=>o σ H (λx H1=>i σ H1 (λy H2=>∃p xs a,∃j:Nat,x=.ref p/\y=.int (j:Int)/\H2 p=some (.lst xs)/\xs[j]?=some (.int a)/\e σ H2 (λu H4=>∃b ys,u=.int b/\H4 p=some (.lst ys)/\j<ys.length/\D.nx σ (upd H4 p (.lst (ys.set j (.int (a+b)))))) (D.ex σ)) (D.ex σ)) (D.ex σ)
def br7(ho:QE X o do')(hi:QE X i di)(h:QE X e de)(hsl:Gh i=true):QS X (.AugAssign (.Subscript o i p') .Add e pos) (az6 do' di de):=by
 intro Ex m ξ s σ H D I hw
 refine wpAny_AugAssign_SubscriptAny (thn (ho Ex m ξ s σ H _ I hw) λov s1 ⟨x,H1,I1,rx,q⟩=>thn (hi Ex m ξ s1 σ H1 _ I1 q) λiv s2 ⟨y,H2,I2,ry,q2⟩=>?_) (by cases i with|Slice _ _ _ _=>cases hsl|_=>intros;rfl)
 obtain⟨p,xs,a,j,rfl,rfl,hp,hj,q3⟩:=q2
 cases rx
 obtain⟨t,rfl⟩:=ry
 obtain⟨χ,r,pl,hz⟩:=I2.list (SqL.of hp)
 obtain⟨w,ew,rw'⟩:=r.get hj
 obtain⟨t2,rfl⟩:=rw'
 have hn:=Jd
 have hl:=r.length
 have jl:j<xs.length:=by rw[bh] at hj;exact hj.1
 refine PySem.wpAny_getItem_list pl.isList (by omega) (by omega) (by rw[aQ];simpa using ew) (thn (h Ex m ξ s2 σ H2 _ I2 q3) λv s4 ⟨u,H4,I4,ru,b,ys,eu,h4,jy,q4⟩=>?_)
 subst eu
 obtain⟨t3,rfl⟩:=ru
 refine iadd_int ?_
 have I5:=I4.tok (s4.toks+1)
 obtain⟨z,its2,n2,r2,hl2,e2⟩:=I5.lstM h4
 refine PySem.W.ki_setAt e2 (by omega) (by omega) (by rw[au,<- hl2];omega) ⟨σ,_,I5.lset (its':=its2.set j (.int (a+b) s4.toks)) h4 e2 ?_ (Uf (v:=.int (a+b)) (u:=.int (a+b) s4.toks) ⟨_,rfl⟩ r2 j) (by rw[fZ];exact z),q4⟩
 rw[aQ]
 simp
end
mutual
noncomputable def wS:Nat->Sg->Stmt->DS
 |0,_,_=>Bn
 | n+1,G,st=>match st with
  |.Pass _=>Af
  | .Return v _=>(match v with
   |some e=>Aq (wE n G e)
   |none=>a99)
  |.Expr e _=>if Jg e=true then B1 (wE n G e) else Bn
  |.If c a b _=>dIf (wT n G c) (wSs n G a) (wSs n G b)
  | .Assign ts e _=>(match ts with
   | [t]=>(match t with
    | .Name x _=>(match C2 G.N x 0 with
     | some i=>(match e with
      | .ListComp elt gs sc _=>(match gs with
       | [⟨tg,iter,ifs,a⟩]=>if a=0/\Vn G x=true/\G.calm=true/\Fg G sc=true/\Lw iter=true then
        Ao i (Bj (Gb G sc.names) (wI n G tg iter) (wG n (Dj G sc.names) tg) (match ifs with | []=>Cc | [c]=>wT n (Dj G sc.names) c|_=>tNo) (wE n (Dj G sc.names) elt)) else Bn
       |_=>Bn)
      |e=>if Vn G x=true/\Jg e=true then Ao i (wE n G e) else Bn)
     |none=>Bn)
    |.Tuple ts kt pt=>if Jg e=true/\am7 e=true then Ew (wE n G e) (wG n G (.Tuple ts kt pt)) else Bn
    |.Attribute o f _=>Gn G.K f (wE n G o) (wE n G e)
    |.Subscript o i _=>if Gh i=true then Ew (wE n G e) (Da G.K (wE n G o) (wE n G i)) else Bn
    |_=>Bn)
   |_=>Bn)
  | .AugAssign t op e _=>(match t with
   | .Subscript o i _=>(match op with
    |.Add=>if Gh i=true then az6 (wE n G o) (wE n G i) (wE n G e) else Bn
    |_=>Bn)
   |_=>Bn)
  | .Raise v c _=>(match v with
   |some e=>if c.isNone=true/\G.calm=true then Cb G.K (wE n G e) else Bn
   |none=>Bn)
  |.For tg iter body el _=>if el.isEmpty=true/\G.calm=true/\Lw iter=true/\G.top=true then Bu (wI n G tg iter) (wG n G tg) (wSs n G body) else Bn
  |.While c body el _=>if el.isEmpty=true/\G.top=true then Uw (wT n G c) (wSs n G body) else Bn
  |.Try body hs el fi _=>if hs.isEmpty=false/\el.isEmpty=true/\fi.isEmpty=true/\G.top=true then ai3 G.K (wSs n G body) (hsD G (wSs n (hdG G)) hs) else Bn
  |_=>Bn
noncomputable def wSs:Nat->Sg->List Stmt->DS
 |0,_,_=>Bn
 |_+1,_,[]=>Af
 |n+1,G,s::r=>Ae (wS n G s) (wSs n G r)
end
def Eg{X:Cx}{c:Prop} [Decidable c]{st:Stmt}{d:DS}(h:c->QS X st d):QS X st (if c then d else Bn):=by
 by_cases z:c
 .rw[if_pos z];exact h z
 .rw[if_neg z];exact B4
def bc9:∀n X G,GOk X G->(∀s,QS X s (wS n G s))/\(∀ss,QSs X ss (wSs n G ss)):=by
 intro n
 induction n with
 |zero=>exact λ_ _ _=>⟨λ_=>B4,λ_ _ _ _ _ _ _ _ _ h=>h.elim⟩
 |succ n ih=>
  intro X G O
  obtain⟨hS,hSs⟩:=ih X G O
  obtain⟨hE,hT,hI⟩:=aw6 n X G O
  refine⟨λs=>?_,λs=>?_⟩
  .obtain⟨K,N,sc0,gb,bl,top,cm⟩:=G
   obtain rfl:X.K=K:=O.K
   cases s with
   |Pass=>exact a57
   |Return v=>
    cases v with
    |some=>exact ap9 (hE _)
    |none=>exact a58
   |Expr=>exact Eg λh=>a56 (hE _) h
   |If=>exact b32 (hT _) (hSs _) (hSs _)
   |Assign ts e p=>
    rcases ts with _|⟨t,_|_⟩
    .exact B4
    .cases t with
     |Name x q=>
      show QS X _ (match C2 N x 0 with|some i=>_|none=>Bn)
      split
      .rename_i i ei
       cases e with
       |ListComp elt gs sc=>
        rcases gs with _|⟨⟨tg,it,ifs,a⟩,_|_⟩
        .exact B4
        .refine Eg fun⟨h0,h1,h2,h3,h4⟩=>?_
         subst h0
         refine Vt O ei h1 (O.calm▸h2) h3 h4 (hI _ _) (λX' O'=>Uh n X' _ O' _) (λX' O'=>?_) (λX' O'=>(aw6 n X' _ O').1 _)
         rcases ifs with _|⟨c,_|_⟩
         .exact Tl
         .exact Tm ((aw6 n X' _ O').2.1 _)
         .exact λ_ _ _ _ _ _ _ _ h=>h.elim
        .exact B4
       |_=>exact Eg λh=>aq0 O ei h.1 (hE _) (Jh h.2 _ _ _)
      .exact B4
     |Tuple=>exact Eg λh=>br6 (hE _) (Uh n X _ O _) h.1 h.2
     |Attribute=>exact br8 (hE _) (hE _)
     |Subscript=>exact Eg λh=>bs0 O.units (hE _) (hE _) (hE _) h
     |_=>exact B4
    .exact B4
   |AugAssign t op e=>
    cases t with
    |Subscript o i=>
     cases op with
     |Add=>exact Eg λh=>br7 (hE _) (hE _) (hE _) h
     |_=>exact B4
    |_=>exact B4
   |Raise v c=>
    cases v with
    |some=>exact Eg λh=>by rw[Option.isNone_iff_eq_none.mp h.1];exact ap8 O (O.hd (O.calm▸h.2)) (hE _)
    |none=>exact B4
   |For=>exact Eg λh=>by rw[List.isEmpty_iff.mp h.1];exact br9 O h.2.2.2 (O.calm▸h.2.1) (hI _ _) (Uh n X _ O _) (hSs _) h.2.2.1
   |While=>exact Eg λh=>by rw[List.isEmpty_iff.mp h.1];exact aq1 O h.2 (hT _) (hSs _)
   |Try b hs=>
    refine Eg λh=>?_
    rw[List.isEmpty_iff.mp h.2.1,List.isEmpty_iff.mp h.2.2.1]
    cases hs with
    |nil=>cases h.1
    |cons=>exact bs1 (O.frm h.2.2.2).1 (O.frm h.2.2.2).2 (λpn xe ho=>(ih _ _ (bt5 O ho)).2 _) (ba2 O (λa ss=>(ih _ _ (bg8 O a)).2 ss) _)
   |_=>exact B4
  .cases s with
   |nil=>exact Yj
   |cons a r=>exact Tn (hS a) (hSs r)
section
variable {P:aO}{w:bw}{K:ac}{mg:Str->Option Value}{base:Heap}
structure FnIn (P:aO) (w:bw) (K:ac) (mg:Str->Option Value) (base:Heap) (k:Nat) (x:Str) (i:FI):Prop where
 at_:mg x=some (.ref i.f)
 kp:be K (.ref i.f)=true
 ok:∃CX,(∀X':Cx,X'.prog=P->X'.w=w->Jw CX X')/\FnOk P w K mg base CX i.k i.f i.fd i.ps i.sp
 le:i.k<=k
 binds:∀j,j<=i.dfs.length->Binds K i.fd i.ps (i.ds.drop j)
 vals:Vals i.dfs i.ds
def be3(P:aO)(w:bw)(K:ac)(mg:Str->Option Value)(base:Heap)(k:Nat)(C:Addr):Option FI->Prop
 |none=>aU K (.ref C) "__init__"=some (some (.builtin "ValueError.__init__"))
 | some i=>aU K (.ref C) "__init__"=some (some (.ref i.f))/\cQ K (.ref i.f)=true/\be K (.ref i.f)=true/\(∃CX,(∀X',X'.prog=P->X'.w=w->Jw CX X')/\FnOk P w K mg base CX i.k i.f i.fd i.ps i.sp) /\
   i.k+1<=k/\(∀j,j<=i.dfs.length->Binds K i.fd i.ps (i.ds.drop j))/\Vals i.dfs i.ds
structure ExcIn (P:aO) (w:bw) (K:ac) (mg:Str->Option Value) (base:Heap) (k:Nat) (x:Str) (C:Addr) (oi:Option FI):Prop where
 at_:mg x=some (.ref C)
 kp:be K (.ref C)=true
 cls:ECls K C
 init:be3 P w K mg base k C oi
structure FiIn (P:aO) (w:bw) (K:ac) (mg:Str->Option Value) (base:Heap) (k:Nat) (i:FI):Prop where
 kp:be K (.ref i.f)=true
 ok:∃CX,(∀X':Cx,X'.prog=P->X'.w=w->Jw CX X')/\FnOk P w K mg base CX i.k i.f i.fd i.ps i.sp
 le:i.k<=k
 binds:∀j,j<=i.dfs.length->Binds K i.fd i.ps (i.ds.drop j)
 vals:Vals i.dfs i.ds
def FiIn.mono{k k':Nat}{i:FI}(F:FiIn P w K mg base k i)(h:k<=k'):FiIn P w K mg base k' i:=⟨F.kp,F.ok,aT F.le h,F.binds,F.vals⟩
def b95(P:aO)(w:bw)(K:ac)(mg:Str->Option Value)(base:Heap)(k:Nat)(C:Addr):Option FI->Prop
 |none=>dN K C=true/\aU K (.ref C) "__init__"=some (some (.builtin "object.__init__"))
 |some i=>dN K C=true/\aU K (.ref C) "__init__"=some (some (.ref i.f))/\cQ K (.ref i.f)=true/\FiIn P w K mg base k i/\i.k+1<=k
structure ClsIn (P:aO) (w:bw) (K:ac) (mg:Str->Option Value) (base:Heap) (k:Nat) (x:Str) (C:Addr) (oi:Option FI):Prop where
 at_:mg x=some (.ref C)
 kp:be K (.ref C)=true
 made:b95 P w K mg base k C oi
theorem ClsIn.mono{k k':Nat}{x:Str}{C:Addr}{oi:Option FI}(F:ClsIn P w K mg base k x C oi)(h:k<=k'):ClsIn P w K mg base k' x C oi:=by
 refine⟨F.at_,F.kp,?_⟩
 cases oi with
 |none=>exact F.made
 |some i=>obtain⟨a,b,c,d,e⟩:=F.made;exact⟨a,b,c,d.mono h,aT e h⟩
structure MetIn (P:aO) (w:bw) (K:ac) (mg:Str->Option Value) (base:Heap) (k:Nat) (m:Str) (mi:MI):Prop where
 cls:Cls K mi.C
 at_:M7 K mi.C m mi.i.f
 fi:FiIn P w K mg base k mi.i
theorem MetIn.mono{k k':Nat}{m:Str}{mi:MI}(F:MetIn P w K mg base k m mi)(h:k<=k'):MetIn P w K mg base k' m mi:=⟨F.cls,F.at_,F.fi.mono h⟩
def ExcIn.mono{P:aO}{w:bw}{K:ac}{mg:Str->Option Value}{base:Heap}{k k':Nat}{x:Str}{C:Addr}{oi:Option FI}(F:ExcIn P w K mg base k x C oi)(h:k<=k'):ExcIn P w K mg base k' x C oi:=by
 refine⟨F.at_,F.kp,F.cls,?_⟩
 cases oi with
 |none=>exact F.init
 |some i=>obtain⟨a,b,c,d,e,f⟩:=F.init;exact⟨a,b,c,d,aT e h,f⟩
structure bv0 (P:aO) (w:bw) (K:ac) (mg:Str->Option Value) (base:Heap) (k:Nat) (x:Str) (C:Addr) (i:FI):Prop where
 at_:mg x=some (.ref C)
 sup:a97 K C i.f
 fi:FiIn P w K mg base k i
structure b91 (P:aO) (w:bw) (K:ac) (mg:Str->Option Value) (base:Heap) (k:Nat) (m:Str) (mi:MI):Prop where
 met:MetIn P w K mg base k m mi
 sg:cI K (.ref mi.i.f) "__get__"=some (some (.builtin "function.__get__"))
 tk:dO K (.ref mi.i.f)=some false
 cn:PySem.W.copiedNames.contains m=false
 le:mi.i.k+2<=k
def GBIn(P:aO)(w:bw)(K:ac)(mg:Str->Option Value)(base:Heap)(k:Nat)(x:Str):GB->Prop
 |.fn i=>FnIn P w K mg base k x i
 |.val v u=>mg x=some u/\RelV v u
 |.exc C oi=>ExcIn P w K mg base k x C oi
 |.cls C oi=>ClsIn P w K mg base k x C oi
 |.met m l=>∀mi∈l,MetIn P w K mg base k m mi
 |.ini C i=>bv0 P w K mg base k x C i
 |.dic a kvs=>mg x=some (.ref a)/\bu5 P w K a kvs
 |.key m l=>∀mi∈l,b91 P w K mg base k m mi
structure Tab (P:aO) (w:bw) (K:ac) (mg:Str->Option Value) (base:Heap) (k:Nat) (gb:List (Str×GB)) (bl:List Str):Prop where
 all:∀x g,(x,g)∈gb->GBIn P w K mg base k x g
 bl:∀x∈bl,mg x=none
def FnIn.mono{k k':Nat}{x:Str}{i:FI}(F:FnIn P w K mg base k x i)(h:k<=k'):FnIn P w K mg base k' x i:=⟨F.at_,F.kp,F.ok,aT F.le h,F.binds,F.vals⟩
theorem GBIn.mono{k k':Nat}{x:Str}{g:GB}(F:GBIn P w K mg base k x g)(h:k<=k'):GBIn P w K mg base k' x g:=by
 cases g with
 |fn i=>exact FnIn.mono F h
 |val v u=>exact F
 |exc C oi=>exact ExcIn.mono F h
 |cls C oi=>exact ClsIn.mono F h
 |met m l=>exact λmi hm=>(F mi hm).mono h
 |ini C i=>exact⟨F.at_,F.sup,F.fi.mono h⟩
 |dic a kvs=>exact F
 |key m l=>exact λmi hm=>let q:=F mi hm;⟨q.met.mono h,q.sg,q.tk,q.cn,aT q.le h⟩
def GBIn.there{X:Cx}{k:Nat}{x:Str}{g:GB}(F:GBIn X.prog X.w X.K X.mg X.base k x g)(hr:Room k X.A):GBOk X x g:=by
 cases g with
 |fn i=>exact⟨F.at_,F.kp,F.ok,hr.mono F.le,F.binds,F.vals⟩
 |val v u=>exact F
 |exc C oi=>
  refine⟨F.at_,F.kp,F.cls,?_⟩
  cases oi with
  |none=>exact F.init
  |some i=>obtain⟨a,b,c,d,e,f,g⟩:=F.init;exact⟨a,b,⟨c,d,hr.mono (by omega),f,g⟩,hr.mono e⟩
 |cls C oi=>
  refine⟨F.at_,F.kp,?_⟩
  cases oi with
  |none=>exact F.made
  |some i=>obtain⟨a,b,c,d,e⟩:=F.made;exact⟨a,b,c,⟨d.kp,d.ok,hr.mono d.le,d.binds,d.vals⟩,hr.mono e⟩
 |met m l=>exact λmi hm=>⟨(F mi hm).cls,(F mi hm).at_,⟨(F mi hm).fi.kp,(F mi hm).fi.ok,hr.mono (F mi hm).fi.le,(F mi hm).fi.binds,(F mi hm).fi.vals⟩⟩
 |ini C i=>exact⟨F.at_,F.sup,⟨F.fi.kp,F.fi.ok,hr.mono F.fi.le,F.fi.binds,F.fi.vals⟩⟩
 |dic a kvs=>exact F
 |key m l=>exact λmi hm=>let q:=F mi hm;⟨q.met.cls,q.met.at_,q.sg,q.tk,q.cn,⟨q.met.fi.kp,q.met.fi.ok,hr.mono q.met.fi.le,q.met.fi.binds,q.met.fi.vals⟩,hr.mono q.le⟩
def Hy(X:Cx):Jw CX0 X:=λ_ _ _ _ _ _ _ _ _ h=>h.elim
def J5(K:ac)(N:List Str)(sc:Scope)(gb:List (Str×GB))(bl:List Str):Sg:=⟨K,N,sc.names,gb,bl,true,true⟩
def M5(N:List Str)(sc:Scope):Bool:=N.all λx=>(sc.names.lookup x==some .local)||(sc.names.lookup x==some .cell)
def Ux(Q:VK)(E:EK):Outs:=⟨λ_ H'=>Q .non H',Q,λ_ _=>False,λ_ _=>False,λ_=>E⟩
structure FunD (K:ac) (x qual:Str) (st:Stmt) (f:Addr) (fd:bb) (dV:Value):Prop where
 ex:∃(oc:Value)(od:Option Addr)(kV doc pm:Value)(an:Option Addr)(θ ct:Value)(osl:Array (Option Value)),
  fd=cx x qual (B7 st) (Ba st) (Ak st) dV kV doc pm an θ ct/\K.lookup f=some ⟨oc,od,.func fd,osl⟩/\dF K θ qual=true
 kp:be K (.ref f)=true
def Fun.toD{x qual:Str}{st:Stmt}{f:Addr}{fd:bb}(F:Fun K x qual st f fd):FunD K x qual st f fd .none:=⟨F.ex,F.kp⟩
def a04{x qual:Str}{st:Stmt}{f:Addr}{oc:Value}{od an:Option Addr}{osl:Array (Option Value)}{dV kV doc pm θ ct:Value}(l:K.lookup f=some ⟨oc,od,.func (cx x qual (B7 st) (Ba st) (Ak st) dV kV doc pm an θ ct),osl⟩)(c:dF K θ qual=true)(k:be K (.ref f)=true):FunD K x qual st f (cx x qual (B7 st) (Ba st) (Ak st) dV kV doc pm an θ ct) dV:=⟨⟨oc,od,kV,doc,pm,an,θ,ct,osl,rfl,l,c⟩,k⟩
def FunD.ok{x qual:Str}{st:Stmt}{f:Addr}{fd:bb}{dV:Value}{N ps:List Str}{k:Nat}{sp:Sp}(F:FunD K x qual st f fd dV)(S:Cr N ps (Ak st))(len:∀vs H Q E,sp vs H Q E->vs.length=ps.length)(hbody:∀θ A outer s H vs Q E,Room k (A.deeper (lJ qual (Ak st) s.heap.objs.size f θ))->sp vs H Q E ->
   ∃t,PSs (Hg CX0 P w K mg base N qual (Ak st) f θ A outer s H E).nox (Ba st) t/\t {nx:=λ_ H'=>Q .non H',rt:=Q} (Cw N vs) H):FnOk P w K mg base CX0 (k+1) f fd ps sp:=by
 obtain⟨oc,od,kV,doc,pm,an,θ,ct,osl,rfl,lk,hcd⟩:=F.ex
 refine aj2 lk hcd S len λA outer s H vs Q E hr hsp=>?_
 obtain⟨t,h,q⟩:=hbody θ A outer s H vs Q E hr hsp
 exact⟨t,h.nox,q⟩
def Ul{fd:bb}{ps:List Str}{T:Addr}{o:Obj}{ψ:Array Value}{n:Nat}{ds:List Value}(hd:fd.defaults=.ref T)(ho:K.lookup T=some o)(hs:o.data=.seq ψ n)(h:∀us,(us++ds).length=ps.length -> ∃k,iT fd ⟨us,[]⟩=seqItems? fd.defaults >>= k/\k (some ψ)=pure (ps.zip (us++ds))):Binds K fd ps ds:=λs us X hl=>by
 obtain⟨k,h1,h2⟩:=h us hl
 exact PySem.W.binds_K X hd ho hs h1 h2
def FunD.okW0{x qual:Str}{st:Stmt}{f:Addr}{fd:bb}{N ps:List Str}{k n:Nat}{sp:Sp}{gb:List (Str×GB)}{bl:List Str}{t:DS}{dV:Value}(F:FunD K x qual st f fd dV)(S:Cr N ps (Ak st))(hv:M5 N (Ak st)=true)(T:Tab P w K mg base k gb bl)(rd:wSs n (J5 K N (Ak st) gb bl) (Ba st)=t)(len:∀vs H Q E,sp vs H Q E->vs.length=ps.length)(hbody:∀vs H Q E,sp vs H Q E->t (Ux Q λ_ _=>False) (Cw N vs) H):FnOk P w K mg base CX0 (k+1) f fd ps sp:=by
 refine F.ok S len λθ A outer s H vs Q E hr h=>?_
 have O:GOk (Hg CX0 P w K mg base N qual (Ak st) f θ A outer s H E).nox (J5 K N (Ak st) gb bl):=by
  refine⟨rfl,S.kind,(λ_=>kC),rfl,S.nd,λx=>rfl,λx hx=>?_,λ_ _=>rfl,rfl,(λ_=>hr.hd),hr.units,λx hx=>?_,λx g e=>?_,λx hx=>?_,(λ_=>⟨rfl,rfl⟩),⟨_,_,_,rfl,rfl,rfl⟩⟩
  .have:=List.all_eq_true.mp hv x hx
   rw[cB] at this
   exact this.elim (λz=>.inl (b9 z)) λz=>.inr (.inl (b9 z))
  .rcases hx with hx|hx
   .exact Ff hx
   .exact absurd rfl (S.nofree _ (bV hx))
  .exact (T.all x g e).there hr
  .exact T.bl x (by have hx':bl.contains x=true:=hx;simpa using hx')
 refine⟨_,(bc9 n _ _ O).2 (Ba st) (λ_ _ _=>False) (λ_ _ _ _ _ _ _ h=>h.elim),?_⟩
 rw[rd]
 exact hbody vs H Q E h
end
def Dd(p:Addr)(H H':Hp):Prop:=∀b u,b≠p->H b=some u->H' b=some u
def aj7{P:aO}{w:bw}{K:ac}{mg:Str->Option Value}{base:Heap}{N ps:List Str}{qual:Str}{scope:Scope}{f:Addr}{θ:Value}{A:bq}{outer:List Env}{s:am}{H:Hp}{E:XK}{k:Nat}{gb:List (Str×GB)}{bl:List Str}(S:Cr N ps scope)(hv:M5 N scope=true)(T:Tab P w K mg base k gb bl)(hr:Room k (A.deeper (lJ qual scope s.heap.objs.size f θ))):GOk (Hg CX0 P w K mg base N qual scope f θ A outer s H E).nox (J5 K N scope gb bl):=by
 refine⟨rfl,S.kind,(λ_=>kC),rfl,S.nd,λx=>rfl,λx hx=>?_,λ_ _=>rfl,rfl,(λ_=>hr.hd),hr.units,λx hx=>?_,λx g e=>?_,λx hx=>?_,(λ_=>⟨rfl,rfl⟩),⟨_,_,_,rfl,rfl,rfl⟩⟩
 .have:=List.all_eq_true.mp hv x hx
  rw[cB] at this
  exact this.elim (λz=>.inl (b9 z)) λz=>.inr (.inl (b9 z))
 .rcases hx with hx|hx
  .exact Ff hx
  .exact absurd rfl (S.nofree _ (bV hx))
 .exact (T.all x g e).there hr
 .exact T.bl x (by have hx':bl.contains x=true:=hx;simpa using hx')
def a66{P:aO}{w:bw}{K:ac}{mg:Str->Option Value}{base:Heap}{k:Nat}{f c':Addr}{name qual:Str}{params:Arguments}{lb:Expr}{scope:Scope}{pm ctv:Value}{N ps:List Str}{A:bq}{outer:List Env}{s:am}{H:Hp}{us:List Value}{vs:List V}{Q:VK}{E:XK}(hr:Room (k+1) A)(e0:Env0 P w K mg base A outer s H)(ho:s.heap.get? f=some (PySem.W.kla_obj name qual params lb scope [] pm c' ctv))(hcd:s.heap.CodeRec (.ref c') qual)(S:Cr N ps scope)(hb:iT (lI name qual params lb scope [] pm (.ref c') ctv) ⟨us,[]⟩=pure (ps.zip us))(hl:vs.length=ps.length)(r:Vals vs us)(hbody:Room k (A.deeper (lJ qual scope s.heap.objs.size f (.ref c'))) -> ∃t,PE (Hg CX0 P w K mg base N qual scope f (.ref c') A outer s H E).nox lb t/\t (Cw N vs) H Q) :
  gM (model P w) A (.call (.ref f) ⟨us,[]⟩) (CR CX0 outer P w H s Q E) s:=by
 have lim:=e0.mod.nolimit.keeps λb o e=>(e0.bs b o e).1
 have hkind:∀y∈ps.zip us,scope.names.lookup y.1=some .local\/(scope.names.lookup y.1=some .cell/\((mT (s.heap.objs.size+1) scope.names []).lookup y.1).isSome=true):=fun⟨n,v⟩ hy=>by
  rcases S.par n (iY hy).1 with q|q
  .exact .inl q
  .exact .inr ⟨q,h_ _ _ _ (.inl q)⟩
 refine PySem.W.kla_callFunE hr.depth ho rfl S.co S.gen rfl hcd ?_
 rw[hb]
 refine aq (bF (ag _) (jb S.kind hkind λenv he s1 x htk=>?_))
 subst he
 refine⟨lim.keeps x.toInCall.keep,PySem.W.kla_codeExpr ?_⟩
 obtain⟨t,ht,hq⟩:=hbody (hr.deeper _)
 have I:Inv (Hg CX0 P w K mg base N qual scope f (.ref c') A outer s H E) [] (Cw N vs) H s1:=Os S hr.hd e0 htk hl r x
 exact bH (ht.nox [] s1 (Cw N vs) H _ I hq) (λu s' ⟨v,H',J,rv,q⟩=>⟨v,H',J.os,J.bare,J.base,J.hok,rv,q⟩) λe s' hs=>hs
section
variable {X:Cx}{ξ:List (Addr×Obj)}{σ:St}{H:Hp}{s:am}
def Inv.grow{p:Addr}{ps more:Array Value}{h':Heap}{t':Nat}(I:Inv X ξ σ H s)(hp:H p=some (.tbl ps))(k:∀b o,b≠p->s.heap.get? b=some o->h'.get? b=some o)(g:h'.get? p=some (jk (ps++more)))(ht:s.toks<=t'):Inv X ξ σ (upd H p (.tbl (ps++more))) {s with heap:=h',toks:=t'}:=by
 have ne:∀{b},H b=none->b≠p:=λe z=>by rw[z,hp] at e;cases e
 refine I.step (ch:=[]) (λ_ z=>nomatch z) (λb o _ _ _ e n=>k b o (ne n) e) (λb o _ _ _ e n=>⟨o.slots,k b o (ne n) e⟩) (λb o _ _ n=>by rw[Ad (ne n)];exact n)
  (λb o _ e=>?_) (λb xs e=>by rw[Ad λz=>by rw[z,hp] at e;cases e];exact e) (λb o u e=>by rw[Ad λz=>by rw[z,hp] at e;cases e];exact e) (λb qs e=>?_) (λm hm=>?_) (λb u e=>?_) I.bare ht
 .by_cases z:b=p
  .exact⟨_,z▸g⟩
  .exact⟨o,k b o z e⟩
 .by_cases z:b=p
  .subst z
   rw[hp] at e
   cases e
   exact⟨more,Ac⟩
  .exact⟨#[],by rw[Ad z,e];simp⟩
 .obtain⟨o,es,ep,ho,r⟩:=hm
  exact⟨o,es,ep,k _ o (ne I.free) ho,r⟩
 .by_cases z:b=p
  .subst z
   rw[Ac] at e
   cases e
   exact g
  .rw[Ad z] at e
   refine(I.hok b u e).stay (λc v hc q=>k c v ?_ q) (λc q=>by rw[Ad λz=>by rw[z,hp] at q;cases q];exact q) λc xs q=>by rw[Ad λz=>by rw[z,hp] at q;cases q];exact q
   rcases hc with hc|hc
   .rw[hc];exact z
   .exact λz=>by rw[z,hp] at hc;cases hc
def by0{ds:List (Int×V)}{pins':List (Addr×Obj)}{H3:Hp}{s3:am}{ks:List Value}{A:bq}(_:Inv X pins' σ H3 s3)(hl:ks.length=ds.length)(h2:2<=ks.length)(ka:ag7 (λd w _=>w=.int d.1) H3 ds ks){G:nE->am->Prop}(hG:∀ κ,(∀i j C,i<ds.length->j<ds.length->C (decide ((ds.getD i (0,.non)).1<(ds.getD j (0,.non)).1)) s3->f9 X.prog X.w A κ ks i j C s3)->G κ s3):aS (model X.prog X.w) A (jY ks.toArray) G (λ_ _=>False) s3:=by
 have rv:Vals (ds.map λd=>V.int d.1) ks:=Rm (by rw[ae];exact hl.symm) λi x u h1 h2=>by
  rw[al] at h1
  obtain⟨d,hd,rfl⟩:=Option.map_eq_some_iff.mp h1
  obtain⟨_,r,rfl⟩:=ka i u d h2 hd
  exact r
 rw[ksk_kind (Lh (by rw[aC];exact rv)) (by rw[au];exact h2)]
 refine aq (hG _ λi j C hi hj hC=>?_)
 unfold f9
 obtain⟨t,e⟩:=Y7 (0,.non) rv hi
 obtain⟨u,e'⟩:=Y7 (0,.non) rv hj
 rw[e,e']
 exact PySem.W.kat_lt_int hC
def ltI(a b:Int×V):Bool:=decide (a.1<b.1)
def a15{ds:List (Int×V)}(h:(ds.map (·.1)).Nodup):OrdL ltI ds:=by
 refine⟨λa ha b hb n=>?_,λa _ b _ c _ h1 h2=>decide_eq_true (Int.lt_trans (of_decide_eq_true h1) (of_decide_eq_true h2)),(List.pairwise_map.mp h).imp λh e=>h (congrArg (·.1) e)⟩
 have ne:a.1≠b.1:=λe=>n (Vk h a ha b hb e)
 unfold ltI
 by_cases c:a.1<b.1
 .rw[decide_eq_true c,decide_eq_false (by omega)];rfl
 .rw[decide_eq_false c,decide_eq_true (by omega)];rfl
def b92(K:ac)(Pt bm:Addr)(N:List Str)(dl:DE)(v:V)(H:Hp)(Q:VK):Prop:=∃(b:Addr)(ob:Obj)(u:HO)(ds:List (Int×V)),v=.ref b/\SqL K H b (ds.map (·.2))/\ds.length<64/\(ds.map (·.1)).Nodup/\H Pt=some (.tbl #[])/\H bm=some (.frz ob u) /\
 (ob.cls=.type "module" /\ ob.dict=some jG/\ob.data=.plain)/\(∀d∈ds,∀H3,Dd Pt H H3->dl (Cw N [d.2]) H3 (λv H4=>v=.int d.1/\Same H3 H4) (λ_ _=>False))/\∀H' D,∀ds':List (Int×V),Dd Pt H H'->H D=none->ds'.Perm ds->(ds'.map (·.1)).Pairwise (· < ·)->H' D=some (.lst (ds'.map (·.2)))->Q (.ref D) H'
noncomputable def ba0(K:ac)(Pt bm:Addr)(N:List Str)(dl a:DE):DE:=λσ H Q E=>Ab a Ag σ H (λxs H1=>∃v,xs=[v]/\b92 K Pt bm N dl v H1 Q) E
def a54{a lb:Expr}{da dl:DE}{p kp lpos pos:Pos}{c Pt bm:Addr}{lp:Arguments}{ls:Scope}{N:List Str}{j n:Nat}{gb:List (Str×GB)}{bl:List Str}(hc:X.calm=true)(hg:Gl X "sorted")(hm:X.mg "sorted"=none)(ha:QE X a da)(hs:noStar a=true)(hr:Room (j+3) X.A)(T:Tab X.prog X.w X.K X.mg X.base j gb bl)(hcode:X.env.code=.ref c)(hd:dW X.K c Pt=true)(hbm:X.mg "__builtins__"=some (.ref bm))(hcl:k_ ls X.env=pure [])(hdf:defaultsOf lp X.env=([],[]))(S:Cr N N ls)(hv:M5 N ls=true)(hN:N.length=1)(hb:∀q pm cd ct u,iT (lI "<lambda>" q lp lb ls [] pm cd ct) ⟨[u],[]⟩=pure (N.zip [u]))(rd:wE n (J5 X.K N ls gb bl) lb=dl) :
  QE X (.Call (.Name "sorted" p) [a] [⟨some "key", .Lambda lp lb ls lpos,kp⟩] pos) (ba0 X.K Pt bm N dl da):=by
 intro Ex mt ξ s σ H Q I h
 have hA:=Ky ha Qm hs
 refine cA (Dg I hg hm Fe ?_ (by decide) (by decide))
 refine lC ?_ rfl ?_
 .rw[A3 hs [] X.env];rfl
 have e0:c9 [a] X.env=[(false,eval a X.env)]:=by rw[A3 hs [] X.env];rfl
 have hh:=hA Ex mt pos ξ s σ H _ I h
 rw[e0] at hh ⊢
 refine af (thn hh λus s1 ⟨vs,H1,I1,r1,q1⟩=>af (aq (bC ?_)))
 obtain⟨v,rfl,b,ob,u,ds,rfl,hp,h64,asc,hP,hB,⟨b1,b2,b3⟩,hk,q⟩:=q1
 obtain⟨u1,rfl,ru⟩:=Dc r1
 cases ru
 show aS (model X.prog X.w) X.A (do
  let l <- evalAll [do let v <- eval (.Lambda lp lb ls lpos) X.env;standAt pos;pure v]
  let ps <- (pure [ba b]:Sem (List Value))
  pure (⟨ps,[("key" : Str)].zip l⟩:Args)) _ _ s1
 have gP:=I1.hok Pt _ hP
 have gB:=(I1.hok bm _ hB).1
 have ns:=I1.mod.glob.keeps I1.bk
 have nG:∀{z} {o},s1.heap.get? z=some o->(∀es ep,o.data≠.dict es ep)->z≠mainGlobals:=λe d z=>by
  obtain⟨o',es,ep,e2,d2,_⟩:=ns
  rw[z,e2] at e;cases e;exact d _ _ d2
 refine af (mh (af (PySem.W.kla_eval hdf (bF (ag _) (PySem.W.kla_makeFunction hcl I1.ok.glob ns hcode (lQ I1.kIn hd) gP trivial rfl (bY (nG gP λ_ _ z=>by cases z)) ⟨bm,ob,hbm,?_,nG gB (λes ep z=>by rw[b3] at z;cases z),?_,gB,b1,b2,b3⟩ λc' ctv h' tk hx hge hlt hrec htb htk=>?_)))))
 .obtain⟨mb,nb,_⟩:=I1.mod.blt
  obtain⟨o',es,ep,e2,d2,_⟩:=nb.keeps I1.bk
  rintro rfl
  rw[e2] at gB;cases gB;rw[b3] at d2;cases d2
 .rintro rfl
  rw[hP] at hB;cases hB
 generalize ef:PySem.W.kla_obj "<lambda>" (X.env.qual ++ "<lambda>") lp lb ls [] ((X.mg "__name__").getD .none) c' ctv=fo
 have I2:Inv X ξ σ (upd H1 Pt (.tbl (#[] ++ #[eZ lpos.line,eZ lpos.col,.ref c']))) {s1 with heap:=h'.push fo,toks:=tk}:=
  I1.grow hP (λb o nb e=>ah _ (hx b o nb e)) (ah _ htb) htk
 have gF:(h'.push fo).get? h'.objs.size=some fo:=by rw[<- ef];exact aD _ rfl
 obtain⟨c2,oc,vs,t,e2,hoc,hdc,hvc⟩:=hrec
 cases e2
 have nP:∀{b},s1.heap.objs.size<=b->b≠Pt:=λh z=>absurd (aH gP) (Nat.not_lt.mpr (z▸h))
 have f1:Cy X ξ (upd H1 Pt (.tbl (#[] ++ #[eZ lpos.line,eZ lpos.col,.ref c']))) c':=I1.fpOk hge (by rw[Ad (nP hge)];exact I1.hok.fresh hge)
 have hle:=gO (a_ hge hlt)
 have f2:Cy X ξ (upd H1 Pt (.tbl (#[] ++ #[eZ lpos.line,eZ lpos.col,.ref c']))) h'.objs.size:=I1.fpOk hle (by rw[Ad (nP hle)];exact I1.hok.fresh hle)
 have O2:Dd Pt H1 (upd H1 Pt (.tbl (#[] ++ #[eZ lpos.line,eZ lpos.col,.ref c']))):=λb u nb e=>by rw[Ad nb];exact e
 have nD:∀D,upd H1 Pt (.tbl (#[] ++ #[eZ lpos.line,eZ lpos.col,.ref c'])) D=none->H1 D=none:=λD e=>by
  by_cases z:D=Pt
  .rw[z,Ac] at e;cases e
  .rwa[Ad z] at e
 generalize upd H1 Pt (.tbl (#[] ++ #[eZ lpos.line,eZ lpos.col,.ref c']))=H2 at I2 f1 f2 O2 nD
 have I3:Inv X (ξ++[(c',oc),(h'.objs.size,fo)]) σ H2 {s1 with heap:=h'.push fo,toks:=tk}:=I2.pins_of λp hp=>by
  rcases List.mem_append.mp hp with hp|hp
  .exact I2.pin p (aE _ hp)
  .simp only[az,cP,or_false] at hp
   rcases hp with rfl|rfl
   .exact⟨ah _ hoc,f1.1,f1.2.1,f1.2.2.1,λv z=>by have z:oc.data=.cell v:=z;rw[hdc] at z;cases z⟩
   .exact⟨gF,f2.1,f2.2.1,f2.2.2.1,λv z=>by have z:fo.data=.cell v:=z;rw[<- ef] at z;cases z⟩
 have hp2:SqL X.K H2 b (ds.map (·.2)):=by
  rcases hp with hp|hp
  .rcases hp with hp|⟨o,hp⟩
   .exact .inl (.inl (O2 _ _ (λz=>by rw[z,hP] at hp;cases hp) hp))
   .exact .inl (.inr ⟨o,O2 _ _ (λz=>by rw[z,hP] at hp;cases hp) hp⟩)
  .exact .inr hp
 refine af (eh (aq (wpAny_evalAll_nil (af (aq (aq ?_))))))
 have od:=a15 asc
 refine bH (Yw (α:=Int×V) (KR:=λd w _=>w=.int d.1) (0,.non) hc I3 (.inl hp2) od h64 (λ{_ _ _ _} _ h=>h) (λd hd pl s' H3 u I' S' ru=>?_) by0 λH3 D S3 nd e3=>q H3 D _ (λb u nb e=>S3 _ _ (O2 b u nb e)) (nD D nd) (Au ltI ds) (List.pairwise_map.mpr ((C7 od).imp of_decide_eq_true)) e3) (λv s' ⟨y,H',J,r,qq⟩=>⟨y,H',J.unpinned,r,qq⟩) λ_ _ z=>z
 have g1:=(I'.pin (h'.objs.size,fo) (by simp)).1
 have g2:=(I'.pin (c',oc) (by simp)).1
 rw[<- ef] at g1
 have hl:[d.2].length=N.length:=hN.symm
 refine dX (d_ (a66 (k:=j) (E:=λ_ _ _=>False) (Q:=λv H4=>v=.int d.1/\Same H3 H4) hr.in1.in1 I'.env0.in1.in1 g1 ⟨c',oc,vs,t,rfl,g2,hdc,hvc⟩ S (hb _ _ _ _ u) hl (.cons ru .nil) λhr'=>?_) λr s'' hq=>?_)
 .refine⟨_,(aw6 n _ _ (aj7 S hv T hr')).1 lb (λ_ _ _=>False) (λ_ _ _ _ _ _ _ h=>h.elim),?_⟩
  rw[rd]
  exact hk d hd H3 (λb u nb e=>S' _ _ (O2 b u nb e))
 .cases r with
  |error e=>exact bR hq
  |ok fl=>
   cases fl with
   |ret u=>exact I'.after hq
   |next=>exact bR hq
   |brk=>exact bR hq
   |cont=>exact bR hq
end
def bg6{P:aO}{w:bw}{K:ac}{mg:Str->Option Value}{base:Heap}{x qual:Str}{st:Stmt}{f:Addr}{fd:bb}{dV:Value}{a lb:Expr}{da dl:DE}{p kp lpos pos rp:Pos}{c Pt bm:Addr}{lp:Arguments}{ls:Scope}{N ps N':List Str}{j m n:Nat}{gb gb':List (Str×GB)}{bl:List Str}{sp:Sp}(F:FunD K x qual st f fd dV)(S:Cr N ps (Ak st))(hv:M5 N (Ak st)=true)(T:Tab P w K mg base (j+3) gb bl)(T':Tab P w K mg base j gb' bl)(hst:Ba st=[.Return (some (.Call (.Name "sorted" p) [a] [⟨some "key", .Lambda lp lb ls lpos,kp⟩] pos)) rp])(hg:(Ak st).names.lookup ("sorted" : Str)=some .globalImplicit)(hm:mg "sorted"=none)(hs:noStar a=true)(hcode:fd.code=.ref c)(hd:dW K c Pt=true)(hbm:mg "__builtins__"=some (.ref bm))(hcl:∀env,k_ ls env=pure [])(hdf:∀env,defaultsOf lp env=([],[]))(S':Cr N' N' ls)(hv':M5 N' ls=true)(hN:N'.length=1)(hb:∀q pm cd ct u,iT (lI "<lambda>" q lp lb ls [] pm cd ct) ⟨[u],[]⟩=pure (N'.zip [u]))(rd:wE n (J5 K N' ls gb' bl) lb=dl)(ra:wE m (J5 K N (Ak st) gb bl) a=da)(len:∀vs H Q E,sp vs H Q E->vs.length=ps.length)(hsp:∀vs H Q E,sp vs H Q E->ba0 K Pt bm N' dl da (Cw N vs) H Q (λ_ _=>False)):FnOk P w K mg base CX0 (j+4) f fd ps sp:=by
 obtain⟨oc,od,kV,doc,pm,an,θ,ct,osl,rfl,lk,hcd⟩:=F.ex
 obtain rfl:θ=.ref c:=hcode
 refine aj2 lk hcd S len λA outer s H vs Q E hr hq=>?_
 have O:=aj7 (outer:=outer) (H:=H) (E:=E) S hv T hr
 have ha:=(aw6 m _ _ O).1 a
 rw[ra] at ha
 have h:=Tn (ap9 (pos:=rp) (a54 (X:=(Hg CX0 P w K mg base N qual (Ak st) f (.ref c) A outer s H E).nox) (p:=p) (kp:=kp) (lpos:=lpos) (pos:=pos) (bm:=bm) rfl hg hm ha hs hr T' rfl hd hbm (hcl _) (hdf _) S' hv' hN hb rd)) Yj (λ_ _ _=>False) (λ_ _ _ _ _ _ _ h=>h.elim)
 rw[hst]
 exact⟨_,h.nox,hsp vs H Q E hq⟩
def Start(H:Hp)(Pt bm:Addr):Prop:=H Pt=some (.tbl #[])/\∃ob u,H bm=some (.frz ob u)/\ob.cls=.type "module" /\ ob.dict=some jG/\ob.data=.plain
def Zz{P:aO}{w:bw}{K:ac}{mg mb:Str->Option Value}{k:Nat}{fa a c Pt bm:Addr}{fd:bb}{x:Str}{sp:Sp}{s₁:am}{vs:List Value}{ns:List Int}{ob:Obj}(KX:K.In s₁.heap)(hns:s₁.heap.Ns mainGlobals mg)(hb:s₁.heap.Ns jG mb)(hbb:∀x:Str,x ≠ "__name__" -> mb x=cz x)(htk:Xj K s₁.toks)(hlim:s₁.heap.NoLimit)(hg:s₁.gens = #[])(ha:s₁.heap.get? a=some {cls:=.type "list", data:=.seq vs.toArray})(hi:mO vs ns)(hl:ns.length<=sizeLine)(hr:Room k mS)(F:∀base:Heap,K.In base->base.Ns mainGlobals mg->FnOk P w K mg base CX0 k fa fd [x] sp)(hbind:∀(s:am)(u:Value),mj s fd ⟨[u],[]⟩ [(x,u)])(hP:s₁.heap.get? Pt=some (jk #[]))(hT:isCodeTable s₁.heap Pt)(hB:s₁.heap.get? bm=some ob)(b1:ob.cls=.type "module")(b2:ob.dict=some jG)(b3:ob.data=.plain)(kP:K.lookup Pt=none)(kB:K.lookup bm=none)(kA:K.lookup a=none)(hsp:∀H:Hp,Start H Pt bm->SqL K H a (ns.map V.int)->sp [.ref a] H (λv _=>v=.bl true) λ_ _ _=>False) :
  gM (model P w) mS (.call (.ref fa) ⟨[.ref a],[]⟩) (λr s'=>r=.ok (.ret (.bool true))/\OldK s₁.heap s'.heap/\s'.os=s₁.os/\kg s'.gens) s₁:=by
 have rv:=Pf hi
 have n1:Pt≠a:=λz=>by rw[z,ha] at hP;cases hP
 have n2:bm≠a:=λz=>by
  rw[z,ha] at hB
  cases hB
  have b1:=b1
  injection b1 with b1
  exact absurd b1 (by decide)
 have n3:bm≠Pt:=λz=>by rw[z,hP] at hB;cases hB;cases b1
 let H:Hp:=λb=>if b=a then some (.frz {cls:=.type "list", data:=.seq vs.toArray} (.lst (ns.map V.int))) else if b=Pt then some (.tbl #[]) else if b=bm then some (.frz ob (.ext λ_=>True)) else none
 have eA:H a=some (.frz {cls:=.type "list", data:=.seq vs.toArray} (.lst (ns.map V.int))):=if_pos rfl
 have eP:H Pt=some (.tbl #[]):=by show(if _ then _ else _)=_;rw[if_neg n1,if_pos rfl]
 have eB:H bm=some (.frz ob (.ext λ_=>True)):=by show(if _ then _ else _)=_;rw[if_neg n2,if_neg n3,if_pos rfl]
 have only:∀b u,H b=some u->(b=a/\u=.frz {cls:=.type "list", data:=.seq vs.toArray} (.lst (ns.map V.int)))\/(b=Pt/\u=.tbl #[])\/(b=bm/\u=.frz ob (.ext λ_=>True)):=λb u e=>by
  by_cases z:b=a
  .rw[z,eA] at e;exact .inl ⟨z,(aG e).symm⟩
  by_cases z2:b=Pt
  .rw[z2,eP] at e;exact .inr (.inl ⟨z2,(aG e).symm⟩)
  by_cases z3:b=bm
  .rw[z3,eB] at e;exact .inr (.inr ⟨z3,(aG e).symm⟩)
  have e:(if b=a then _ else if b=Pt then _ else if b=bm then _ else none)=some u:=e
  rw[if_neg z,if_neg z2,if_neg z3] at e
  cases e
 have hok:HOk P w H s₁.heap:=λb u e=>by
  rcases only b u e with⟨rfl,rfl⟩|⟨rfl,rfl⟩|⟨rfl,rfl⟩
  .exact⟨ha,by rw[ae];exact hl,vs,_,rv,ha⟩
  .exact hP
  .exact⟨hB,trivial,⟨ob,hB⟩,λ_ _ _ _=>trivial⟩
 have base_of:∀{b:Addr}{o:Obj},s₁.heap.get? b=some o->H b=none->(P4 s₁.heap H).get? b=some o:=aj8
 have noA:∀{b:Addr}{o:Obj}{es:Array mL}{ep:Nat},s₁.heap.get? b=some o->o.data=.dict es ep->H b=none:=λ{b o es ep} e d=>by
  cases q:H b with
  |none=>rfl
  |some u=>
   rcases only b u q with⟨rfl,_⟩|⟨rfl,_⟩|⟨rfl,_⟩
   .rw[ha] at e;cases e;cases d
   .rw[hP] at e;cases e;cases d
   .rw[hB] at e;cases e;rw[b3] at d;cases d
 have nsK:∀{b:Addr}{m:Str->Option Value},s₁.heap.Ns b m->(P4 s₁.heap H).Ns b m:=λ{b m} ⟨o,es,ep,e,d,r⟩=>⟨o,es,ep,base_of e (noA e d),d,r⟩
 have hKb:K.In (P4 s₁.heap H):=λb o e=>base_of (KX b o e) (by
  cases q:H b with
  |none=>rfl
  |some u=>
   rcases only b u q with⟨rfl,_⟩|⟨rfl,_⟩|⟨rfl,_⟩
   .rw[kA] at e;cases e
   .rw[kP] at e;cases e
   .rw[kB] at e;cases e)
 have hM:Mod K mg (P4 s₁.heap H):=⟨hKb,nsK hns,⟨mb,nsK hb,hbb⟩,let⟨mc,h1,h2⟩:=hlim;⟨mc,nsK h1,h2⟩⟩
 have e0:Env0 P w K mg (P4 s₁.heap H) mS [] s₁ H:=⟨rfl,hM,λb o e=>a26 e,mD (Zp _ _),trivial,λb hb=>absurd (show b∈([]:List Addr) from hb) (by simp),hok,.of_eq hg,htk⟩
 refine d_ ((F _ hKb (nsK hns)).run mS [] s₁ H ⟨[.ref a],[]⟩ [.ref a] [.ref a] _ _ hr e0 (hbind s₁ (.ref a)) (.cons rfl .nil) (hsp H ⟨eP,ob,_,eB,b1,b2,b3⟩ (.inl (.inr ⟨_,eA⟩)))) λr s' h=>?_
 cases r with
 |error e=>exact bR h
 |ok fl=>
  cases fl with
  |next=>exact bR h
  |brk=>exact bR h
  |cont=>exact bR h
  |ret u=>
   obtain⟨v,H',os,bare,un,hok',r',q⟩:=h
   have q':=q
   subst q'
   obtain rfl:u=Value.bool true:=r'
   have keep:∀b o,b≠Pt->s₁.heap.get? b=some o->s'.heap.get? b=some o:=λb o nb e=>by
    cases q:H b with
    |none=>exact un.keep b o e q (by intro z;exact absurd (show b∈([]:List Addr) from z) (by simp)) (by simp)
    |some u=>
     have fz:∀{o':Obj}{u':HO},H b=some (.frz o' u')->s'.heap.get? b=some o:=λz=>by
      have z2:=un.frzs b _ _ z
      obtain⟨e1,_⟩:=hok b _ z
      obtain⟨e2,_⟩:=hok' b _ z2
      rw[e] at e1;cases e1
      exact e2
     rcases only b u q with⟨rfl,rfl⟩|⟨rfl,_⟩|⟨rfl,rfl⟩
     .exact fz eA
     .exact absurd rfl nb
     .exact fz eB
   obtain⟨more,hm⟩:=un.tbls Pt #[] eP
   have gP:=hok' Pt _ hm
   refine⟨rfl,⟨λb o e=>?_,λb o e=>?_⟩,os.1,bare⟩
   .by_cases z:b=Pt
    .subst z
     rw[hP] at e
     cases e
     exact .inr (.inl ⟨hT,rfl,#[],#[]++more,rfl,by rw[Array.empty_append];exact gP⟩)
    .exact .inl (keep b o z e)
   .by_cases z:b=Pt
    .exact⟨_,z▸gP⟩
    .exact⟨o,keep b o z e⟩
def walk_ofT{l:kH}{n k:Nat}{q:aO}{loose:List Str}{XP:(Str->Option Value)->Heap->Prop}{YP:bw->Heap->Prop}{d:DefRec}{K:Params->ac}{sp:bw->Sp}{x:Str}{Pt bm:Addr}(hT:∀(w:bw)(m:Nat),Xj (K w.params) m)(hn:l.most=some n)(hn2:n<=sizeLine)(hdf:d.params.defaults=[])(hr:Room k mS)(hY:∀(w:bw)(h:Heap),YP w h->(K w.params).In h/\h.get? Pt=some (jk #[]))(hK:∀w:bw,(∃c,dW (K w.params) c Pt=true)/\(K w.params).lookup Pt=none/\(K w.params).lookup bm=none/\bK (K w.params) mainGlobals "__builtins__"=some (some (.ref bm))/\((K w.params).all λp=>!(p.2.cls==jF "list"))=true)(F:∀(w:bw)(mg:Str->Option Value)(fa:Addr)(h:Heap),(K w.params).In h->h.Ns mainGlobals mg->mg d.name=some (.ref fa) ->
   ∃fd:bb,(∀(s:am)(u:Value),mj s fd ⟨[u],[]⟩ [(x,u)])/\∀base:Heap,(K w.params).In base->base.Ns mainGlobals mg->FnOk l.prog w (K w.params) mg base CX0 k fa fd [x] (sp w))(hsp:∀(w:bw)(H:Hp)(a:Addr)(ns:List Int),ns.length<=n->Start H Pt bm->SqL (K w.params) H a (ns.map V.int)->sp w [.ref a] H (λv _=>v=.bl true) λ_ _ _=>False) :
  PySem.W.WalkO q loose XP YP l.row.toRowW d [] (λf vs=>PySem.call f vs):=by
 refine Att.attach_call hn hdf λw s₀ s₁ mg mb fa o pm cd doc a vs ns G Y ho hd hcd hmg hobj hints hlen hg=>?_
 obtain⟨KX,hP⟩:=hY w _ Y
 obtain⟨⟨c,k1⟩,k2,k3,k4,k5⟩:=hK w
 obtain⟨fd,hb,hF⟩:=F w mg fa _ KX G.T.g hmg
 obtain⟨bm',ob,c1,c2,c3,c4,c5,c6⟩:=G.T.bmain
 have eb:bm'=bm:=by
  have:=d9 KX G.T.g k4
  rw[c1] at this
  injection this with this
  injection this
 subst eb
 have kA:(K w.params).lookup a=none:=by
  cases e:(K w.params).lookup a with
  |none=>rfl
  |some o=>
   have:=KX a o e
   rw[hobj] at this
   cases this
   have:=List.all_eq_true.mp k5 _ (PySem.W.mem_of_lookupK e)
   simp at this
 exact Zz (c:=c) KX G.T.g G.T.b G.T.builtins (hT _ _) G.T.nolimit hg hobj hints (aT hlen hn2) hr hF hb hP (((lQ KX k1).tab hP).isCodeTable) c3 c4 c5 c6 k2 k3 kA λH h1 h2=>hsp w H a ns hlen h1 h2
theorem Same.upd{H:Hp}{a:Addr}{o:HO}(h:H a=none):Same H (upd H a o):=λb u e=>by rw[Ad (Ai e h)];exact e
def Same.set{H H':Hp}{a:Addr}{o:HO}(s:Same H H')(h:H a=none):Same H (L2.upd H' a o):=λb u e=>by rw[Ad (Ai e h)];exact s b u e
def Same.seqT{K:ac}{H H':Hp}{a:Addr}{xs:List V}(e:Same H H')(h:SqT K H a xs):SqT K H' a xs:=by
 rcases h with(h|⟨o,h⟩)|h
 .exact .inl (.inl (e _ _ h))
 .exact .inl (.inr ⟨o,e _ _ h⟩)
 .exact .inr h
structure C3 (J:It) (χ:List V) (ok:Hp->Prop):Prop where
 go:∀i H,ok H->i<χ.length->J.go i H
 stop:∀H,ok H->J.stop χ.length H
 yld:∀i H x H',ok H->i<χ.length->J.yld i H x H'->H'=H/\χ[i]?=some x
structure Kg (J:It) (χ:List (V×V)) (ok:Hp->Prop):Prop where
 go:∀i H,ok H->i<χ.length->J.go i H
 stop:∀H,ok H->J.stop χ.length H
 yld:∀i H v H',ok H->i<χ.length->J.yld i H v H' -> ∃T x y,H T=none/\v=.ref T/\χ[i]?=some (x,y)/\H'=upd H T (.tup [x,y])
def Fu(z:Str):List V:=z.cps.toList.map λc=>V.str ⟨#[c]⟩
def bu0(z:Str):C3 (Its z) (Fu z) (λ_=>True):=by
 have e:(Fu z).length=z.cps.size:=by unfold Fu;simp
 refine⟨λi H _ h=>?_,λH _=>?_,λi H x H' _ _ h=>?_⟩
 .show i<z.cps.size;omega
 .show (Fu z).length=z.cps.size;exact e
 .obtain⟨h1,c,h2,h3⟩:=h
  refine⟨h1,?_⟩
  unfold Fu
  rw[al,ck,h2,h3]
  rfl
def As{K:ac}{a:Addr}(xs:List V):C3 (Itl K a) xs (λH=>SqL K H a xs):=by
 refine⟨λi H q h=>⟨xs,xs[i],q,by simp[h]⟩,λH q=>⟨xs,q,ag _⟩,λi H x H' q _ h=>?_⟩
 obtain⟨h1,h2⟩:=h
 exact⟨h1,h2 xs q⟩
def ax0{K:ac}{a:Addr}(xs:List V):C3 (Itt K a) xs (λH=>SqT K H a xs):=by
 refine⟨λi H q h=>⟨xs,xs[i],q,by simp[h]⟩,λH q=>⟨xs,q,ag _⟩,λi H x H' q _ h=>?_⟩
 obtain⟨h1,h2⟩:=h
 exact⟨h1,h2 xs q⟩
def Vz(lo:Int)(n:Nat):List V:=(aZ n).map λ(i:Nat)=>V.int (lo+(i:Int))
def Ay(lo:Int)(n:Nat):(Vz lo n).length=n:=by unfold Vz;simp
def Tu{lo:Int}{n i:Nat}(h:i<n):(Vz lo n)[i]?=some (.int (lo+(i:Int))):=by unfold Vz;simp[h]
def Bt(lo:Int)(n:Nat):C3 (Itr lo n) (Vz lo n) (λ_=>True):=by
 refine⟨λi H _ h=>?_,λH _=>?_,λi H x H' _ hi h=>?_⟩
 .rw[Ay] at h;exact h
 .show n<=(Vz lo n).length;rw[Ay];exact ag _
 .obtain⟨h1,h2⟩:=h
  rw[Ay] at hi
  exact⟨h1,by rw[Tu hi,h2]⟩
def D9:Nat->List V->List (V×V)
 |_,[]=>[]
 |k,x::r=>(.int k,x)::D9 (k+1) r
theorem Bp:∀k xs,(D9 k xs).length=xs.length
 |_,[]=>rfl
 |k,_::r=>by rw[D9,aI,aI,Bp (k+1) r]
theorem C6:∀{k i:Nat} {xs} {x},xs[i]?=some x->(D9 k xs)[i]?=some (.int ((k+i:Nat):Int),x)
 |_,_,[],_,h=>by simp at h
 | k,0,y::r,x,h=>by
  simp only[fu,ig] at h
  subst h
  rfl
 | k,i+1,y::r,x,h=>by
  rw[bI] at h
  rw[D9,bI,C6 h]
  congr 4
  omega
def E5{K:ac}{a:Addr}(xs:List V):Kg (Ite K a) (D9 0 xs) (λH=>SqL K H a xs):=by
 have e:=Bp 0 xs
 refine⟨λi H q h=>⟨xs,xs[i]'(by omega),q,by simp⟩,λH q=>⟨xs,q,by omega⟩,λi H v H' q _ h=>?_⟩
 obtain⟨T,x,hT,h1,h2,h4⟩:=h
 refine⟨T,.int i,x,hT,h1,?_,h4⟩
 have:=C6 (k:=0) (h2 xs q)
 rw[dm] at this
 exact this
section
variable {J:It}{χ:List V}{ok:Hp->Prop}{g:DG}{tb:DS}{D:Outs}{σ:St}{H:Hp}
def Az(Y:C3 J χ ok)(Pv:Nat->St->Hp->Prop)(h0:Pv 0 σ H)(hok:∀i σ H,i<=χ.length->Pv i σ H->ok H)(hs:∀i x σ H,χ[i]?=some x->Pv i σ H->g x σ H λσ2 H2=>tb (D.lp (Pv (i+1))) σ2 H2)(hd:∀ σ H,Pv χ.length σ H->D.nx σ H):ag6 J g tb D σ H:=by
 refine⟨λi m σ H=>m=χ.length-i/\i<=χ.length/\Pv i σ H,⟨χ.length,by simp,bu _,h0⟩,?_⟩
 rintro i m σ H ⟨rfl,hi,p⟩
 by_cases hlt:i<χ.length
 .refine .inr ⟨Y.go i H (hok i σ H hi p) hlt,Pv (i+1),λσ' H' p'=>⟨χ.length-(i+1),by omega,rfl,hlt,p'⟩,λx H' y=>?_⟩
  obtain⟨e,y2⟩:=Y.yld i H x H' (hok i σ H hi p) hlt y
  subst e
  exact hs i x σ _ y2 p
 .have e:i=χ.length:=by omega
  subst e
  exact .inl ⟨Y.stop H (hok _ σ H hi p),hd σ H p⟩
def Ho{χ:List (V×V)}(Y:Kg J χ ok)(Pv:Nat->St->Hp->Prop)(h0:Pv 0 σ H)(hok:∀i σ H,i<=χ.length->Pv i σ H->ok H)(hs:∀i x y T σ H,χ[i]?=some (x,y)->H T=none->Pv i σ H->g (.ref T) σ (upd H T (.tup [x,y])) λσ2 H2=>tb (D.lp (Pv (i+1))) σ2 H2)(hd:∀ σ H,Pv χ.length σ H->D.nx σ H):ag6 J g tb D σ H:=by
 refine⟨λi m σ H=>m=χ.length-i/\i<=χ.length/\Pv i σ H,⟨χ.length,by simp,bu _,h0⟩,?_⟩
 rintro i m σ H ⟨rfl,hi,p⟩
 by_cases hlt:i<χ.length
 .refine .inr ⟨Y.go i H (hok i σ H hi p) hlt,Pv (i+1),λσ' H' p'=>⟨χ.length-(i+1),by omega,rfl,hlt,p'⟩,λx H' y=>?_⟩
  obtain⟨T,u,v,hT,e1,e2,e3⟩:=Y.yld i H x H' (hok i σ H hi p) hlt y
  subst e1 e3
  exact hs i u v T σ _ e2 hT p
 .have e:i=χ.length:=by omega
  subst e
  exact .inl ⟨Y.stop H (hok _ σ H hi p),hd σ H p⟩
variable {tc:DT}{te:DE}{L:Addr}{R:Hp->Prop}{E:EK}
def De(Y:C3 J χ ok)(Pv:Nat->St->Hp->Prop)(h0:Pv 0 σ H)(hok:∀i σ H,i<=χ.length->Pv i σ H->ok H)(hs:∀i x σ H,χ[i]?=some x->Pv i σ H->g x σ H λσ3 H3=>tc σ3 H3 (λb H4=>if b=true then te σ3 H4 (λv H5=>∃ys,H5 L=some (.lst ys)/\ys.length<sizeLine/\Pv (i+1) σ3 (upd H5 L (.lst (ys++[v])))) E else Pv (i+1) σ3 H4) E)(hd:∀ σ H,Pv χ.length σ H->R H):Gk J g tc te L R σ H E:=by
 refine⟨λi m σ H=>m=χ.length-i/\i<=χ.length/\Pv i σ H,⟨χ.length,by simp,bu _,h0⟩,?_⟩
 rintro i m σ H ⟨rfl,hi,p⟩
 by_cases hlt:i<χ.length
 .refine .inr ⟨Y.go i H (hok i σ H hi p) hlt,Pv (i+1),λσ' H' p'=>⟨χ.length-(i+1),by omega,rfl,hlt,p'⟩,λx H' y=>?_⟩
  obtain⟨e,y2⟩:=Y.yld i H x H' (hok i σ H hi p) hlt y
  subst e
  exact hs i x σ _ y2 p
 .have e:i=χ.length:=by omega
  subst e
  exact .inl ⟨Y.stop H (hok _ σ H hi p),hd σ H p⟩
def Pp{χ:List (V×V)}(Y:Kg J χ ok)(Pv:Nat->St->Hp->Prop)(h0:Pv 0 σ H)(hok:∀i σ H,i<=χ.length->Pv i σ H->ok H)(hs:∀i x y T σ H,χ[i]?=some (x,y)->H T=none->Pv i σ H->g (.ref T) σ (upd H T (.tup [x,y])) λσ3 H3=>tc σ3 H3 (λb H4=>if b=true then te σ3 H4 (λv H5=>∃ys,H5 L=some (.lst ys)/\ys.length<sizeLine/\Pv (i+1) σ3 (upd H5 L (.lst (ys++[v])))) E else Pv (i+1) σ3 H4) E)(hd:∀ σ H,Pv χ.length σ H->R H):Gk J g tc te L R σ H E:=by
 refine⟨λi m σ H=>m=χ.length-i/\i<=χ.length/\Pv i σ H,⟨χ.length,by simp,bu _,h0⟩,?_⟩
 rintro i m σ H ⟨rfl,hi,p⟩
 by_cases hlt:i<χ.length
 .refine .inr ⟨Y.go i H (hok i σ H hi p) hlt,Pv (i+1),λσ' H' p'=>⟨χ.length-(i+1),by omega,rfl,hlt,p'⟩,λx H' y=>?_⟩
  obtain⟨T,u,v,hT,e1,e2,e3⟩:=Y.yld i H x H' (hok i σ H hi p) hlt y
  subst e1 e3
  exact hs i u v T σ _ e2 hT p
 .have e:i=χ.length:=by omega
  subst e
  exact .inl ⟨Y.stop H (hok _ σ H hi p),hd σ H p⟩
def Fa{α β:Type}{χ:List α}{i:Nat}{x:α}(h:χ[i]?=some x)(p:α->Bool)(f:α->β):((χ.take (i+1)).filter p).map f=((χ.take i).filter p).map f++(if p x=true then [f x] else []):=by
 rw[aY,h]
 congr 1
 cases e:p x <;> simp[e]
def Ki(Y:C3 J χ ok)(Sg:St->Prop)(p:V->Bool)(f:V->V)(h0:H L=none)(hok:∀H1,Same H H1->ok H1)(hn:χ.length<sizeLine)(hσ:Sg σ)(hs:∀x σ H1,x∈χ->Sg σ->Same H H1 -> ∀(Fin:V->St->Hp->Prop)(Skip:St->Hp->Prop),(∀v σ3 H5,Sg σ3->Same H1 H5->p x=true->v=f x->Fin v σ3 H5)->(∀ σ3 H4,Sg σ3->Same H1 H4->p x=false->Skip σ3 H4) ->
   g x σ H1 λσ3 H3=>tc σ3 H3 (λb H4=>if b=true then te σ3 H4 (λv H5=>Fin v σ3 H5) E else Skip σ3 H4) E)(hd:∀H',Same H H'->H' L=some (.lst ((χ.filter p).map f))->R H'):Gk J g tc te L R σ (upd H L (.lst [])) E:=by
 refine De Y (λi σ' H'=>Sg σ'/\Same H H'/\H' L=some (.lst (((χ.take i).filter p).map f))) ⟨hσ,Same.upd h0,Ac⟩ (λi σ' H' _ q=>hok H' q.2.1) ?_ ?_
 .rintro i x σ' H' hx ⟨q1,q2,q3⟩
  have hi:=(List.getElem?_eq_some_iff.mp hx).1
  refine hs x σ' H' (ak hx) q1 q2 (λv σ3 H5=>∃ys,H5 L=some (.lst ys)/\ys.length<sizeLine/\Sg σ3/\Same H (upd H5 L (.lst (ys++[v])))/\upd H5 L (.lst (ys++[v])) L=some (.lst (((χ.take (i+1)).filter p).map f)))
   (λσ3 H4=>Sg σ3/\Same H H4/\H4 L=some (.lst (((χ.take (i+1)).filter p).map f))) (λv σ3 H5 s1 s2 hp hv=>?_) (λσ3 H4 s1 s2 hp=>?_)
  .refine⟨_,s2 _ _ q3,?_,s1,(q2.trans s2).set h0,?_⟩
   .rw[ae]
    have h1:=df p (χ.take i)
    have h2:(χ.take i).length<=i:=by rw[aN];omega
    omega
   .rw[Ac,Fa hx,if_pos hp,hv]
  .refine⟨s1,q2.trans s2,?_⟩
   rw[s2 _ _ q3,Fa hx,if_neg (by rw[hp];exact aA),cu]
 .rintro σ' H' ⟨_,q2,q3⟩
  rw[aK] at q3
  exact hd H' q2 q3
end
section
variable {K:ac}{H H':Hp}
def Same.seqL{a:Addr}{xs:List V}(e:Same H H')(h:SqL K H a xs):SqL K H' a xs:=by
 rcases h with(h|⟨o,h⟩)|h
 .exact .inl (.inl (e _ _ h))
 .exact .inl (.inr ⟨o,e _ _ h⟩)
 .exact .inr h
def Ry{d:Dt}{ds:List Dt}{x:V}{xs:List V}(h:At K H d x)(t:AtL K H ds xs):AtL K H (d::ds) (x::xs):=by unfold AtL;exact⟨x,xs,rfl,h,t⟩
def be8{a:Addr}{ds:List Dt}{xs:List V}(h:SqT K H a xs)(g:AtL K H ds xs):At K H (.tup ds) (.ref a):=by unfold At;exact⟨a,xs,rfl,h,g⟩
def Xp{v:V}(f:B0 v=true):At K H (.at_ v) v:=by unfold At;exact⟨rfl,f⟩
def ag8{J:It}{χ:List V}{ok:Hp->Prop}{te:DE}{σ:St}{D:Addr}{R:Hp->Prop}{E:EK}(Y:C3 J χ ok)(Sg:St->Prop)(hD:H D=none)(hok:∀H1,Same H H1->ok H1)(hn:χ.length<sizeLine)(hσ:Sg σ)(hS:∀ σ x,Sg σ->Sg (σ.set 0 (some x)))(he:∀x σ H1 Q1,x∈χ->Sg σ->Same H H1->(∀H2,Same H1 H2->Q1 (.bl true) H2)->te (σ.set 0 (some x)) H1 Q1 E)(k:∀H',Same H H'->SqL K H' D ((χ.map λ_=>true).map V.bl)->R H') :
  Gk J (gdN 0) Cc te D R σ (upd H D (.lst [])) E:=by
 refine Ki Y Sg (λ_=>true) (λ_=>.bl true) hD hok hn hσ ?_ ?_
 .intro x σ H1 hx hs S Fin Skip hF hK
  exact he x σ H1 _ hx hs S λH2 S2=>hF _ _ _ (hS _ _ hs) S2 rfl rfl
 .intro H' S hD'
  exact k H' S (SqL.of (hD'.trans (by rw[List.filter_eq_self.mpr (λ_ _=>rfl),aC];rfl)))
def Xo(χ:List V):((χ.map λ_=>true).all λb=>b)=true:=by rw[iw,bg];exact λ_ _=>rfl
end
end L2
namespace L2
open PySem PySem.Spec PySem.W
structure XC (K:ac) (C:Addr) (bm:List Value):Prop where
 lk:∃nm q N bs sn sub ab col dd k0 k1 k2 k3 k5,K.lookup C=some (gd nm q C N bs bm true sn sub ab col dd k0 k1 k2 k3 k5 "ValueError.__new__")
 ty:typeIn K (.ref C)=some (.type "type")
 sa:findIn K (.ref C) "__setattr__"=some (some (.builtin "object.__setattr__"))
 ga:findIn K (.ref C) "__getattribute__"=some (some (.builtin "BaseException.__getattribute__"))
 gt:findIn K (.ref C) "__getattr__"=some none
 ca:findIn K (.ref C) "__class__"=some (some (.builtin "object.__class__"))
 hn:specialIn K (.builtin "object.__class__") "__get__"=some (some (.builtin "getset_descriptor.__get__"))
 htk:takesIn K (.builtin "object.__class__")=some true
def xc_mk{K:ac}{C N:Addr}{bm bs:List Value}{nm q:Str}{sn:List Str}{sub:List Value}{ab:Bool}{col:Option Bool}{dd:Option Addr}{k0 k1 k2 k3 k5:Option Value}(lk:K.lookup C=some (gd nm q C N bs bm true sn sub ab col dd k0 k1 k2 k3 k5 "ValueError.__new__"))(ty:typeIn K (.ref C)=some (.type "type"))(sa:findIn K (.ref C) "__setattr__"=some (some (.builtin "object.__setattr__")))(ga:findIn K (.ref C) "__getattribute__"=some (some (.builtin "BaseException.__getattribute__")))(gt:findIn K (.ref C) "__getattr__"=some none)(ca:findIn K (.ref C) "__class__"=some (some (.builtin "object.__class__")))(hn:specialIn K (.builtin "object.__class__") "__get__"=some (some (.builtin "getset_descriptor.__get__")))(htk:takesIn K (.builtin "object.__class__")=some true):XC K C bm:=⟨⟨_,_,_,_,_,_,_,_,_,_,_,_,_,_,lk⟩,ty,sa,ga,gt,ca,hn,htk⟩
def XC.ecls{K:ac}{C:Addr}{bm:List Value}(x:XC K C bm)(h:Bc bm=true):ECls K C:=by
 obtain⟨nm,q,N,bs,sn,sub,ab,col,dd,k0,k1,k2,k3,k5,lk⟩:=x.lk
 exact⟨⟨_,_,_,_,bm,true,_,_,_,_,_,_,_,_,_,_,lk,h,rfl⟩,x.sa,x.ga,x.gt,x.ca,x.hn,x.htk⟩
def XC.cls{K:ac}{C:Addr}{bm:List Value}(x:XC K C bm):∃cd,mU K C=some cd/\cd.mro=.ref C::bm:=by
 obtain⟨nm,q,N,bs,sn,sub,ab,col,dd,k0,k1,k2,k3,k5,lk⟩:=x.lk
 exact⟨_,by unfold mU;rw[lk],rfl⟩
def XC.kit{K:ac}{C D:Addr}{bm bd:List Value}(x:XC K C bm)(y:XC K D bd){b:Bool}(h:(ba C::bm).contains (.ref D)=b):kitOne K (.ref C) (.ref D)=some b:=by
 obtain⟨cd,h1,h2⟩:=x.cls
 obtain⟨cd',h3,_⟩:=y.cls
 unfold kitOne
 by_cases e:(ba C==ba D)=true
 .rw[if_pos e]
  have e':=(b9 e).symm
  rw[<- h,b5,e']
  simp
 .rw[if_neg e]
  unfold kitCls
  dsimp only
  rw[h3,y.ty,if_pos (by rfl)]
  show mroIn K C (.ref D)=_
  unfold mroIn
  rw[h1,cG,h2,h]
  rfl
def Jy{K:ac}{fd:bb}{ps:List Str}{T:Addr}{o:Obj}{ψ:Array Value}{n:Nat}{ds:List Value}(m:Nat)(hd:fd.defaults=.ref T)(ho:K.lookup T=some o)(hs:o.data=.seq ψ n)(hm:m+ds.length=ps.length)(h:∀us,us.length=m -> ∃k,iT fd ⟨us,[]⟩=seqItems? fd.defaults >>= k/\k (some ψ)=pure (ps.zip (us++ds))):Binds K fd ps ds:=
 Ul hd ho hs λus hl=>h us (by rw[aB] at hl;omega)
end L2
namespace L2
open PySem PySem.Spec PyProof.Rows
open Sem (wp)
section
variable {X:Cx}{ξ:List (Addr×Obj)}{σ:St}{H:Hp}{s:am}{a C:Addr}{dx:Option Addr}{h':Heap}
def an8(X:Cx):Jw (CXE X.prog X.w) X:=by
 intro Ex m ξ σ H s e s' I h
 obtain⟨a,H',rfl,os,bare,u,hok,F,a',e',hE⟩:=h
 cases e'
 have I':=I.call' os u hok bare (λb z=>absurd z (by simp))
 obtain⟨C,dx,vs,T,oT,ts,h1,h2,h3,h4,h5,h6,h7,h8,h9,h10⟩:=F
 exact m ξ σ H' s' a I' ⟨C,dx,vs,h1,h2,h3,.inr ⟨T,oT,ts,h4,h5,h6,h7,⟨_,h8⟩,I.fpOk h9 h10⟩⟩ hE
end
section
variable {P:aO}{w:bw}{K:ac}{mg:Str->Option Value}{base:Heap}
def Z3{N:List Str}{qual:Str}{scope:Scope}{f:Addr}{θ:Value}{A:bq}{outer:List Env}{s:am}{H:Hp}{E:XK} :
  Meets (Hg (CXE P w) P w K mg base N qual scope f θ A outer s H E) (λ_ a H'=>E (.ref a) none H'):=by
 intro ξ σ H1 s1 a I F hE
 refine af (Yc I rfl rfl F λs' I' F'=>?_)
 obtain⟨C,dx,vs,T,oT,ts,h1,h2,h3,q1,q2,q3,q4,q5,q6⟩:=F'
 exact⟨a,H1,rfl,I'.os,I'.bare,I'.base,I'.hok,⟨C,dx,vs,T,oT,ts,h1,h2,h3,q1,q2,q3,q4,q5,q6.2.2.2.1.elim (λz=>absurd z (by simp[Hg])) id,q6.1⟩,hE⟩
def X1(Q:VK)(E:XK):Outs:=⟨λ_ H'=>Q .non H',Q,λ_ _=>False,λ_ _=>False,λ_ a H'=>E (.ref a) none H'⟩
def FunD.okWX{x qual:Str}{st:Stmt}{f:Addr}{fd:bb}{N ps:List Str}{k n:Nat}{sp:Sp}{gb:List (Str×GB)}{bl:List Str}{t:DS}{dV:Value}(F:FunD K x qual st f fd dV)(S:Cr N ps (Ak st))(hv:M5 N (Ak st)=true)(T:Tab P w K mg base k gb bl)(rd:wSs n (J5 K N (Ak st) gb bl) (Ba st)=t)(len:∀vs H Q E,sp vs H Q E->vs.length=ps.length)(hbody:∀vs H Q E,sp vs H Q E->t (X1 Q E) (Cw N vs) H):FnOk P w K mg base (CXE P w) (k+1) f fd ps sp:=by
 obtain⟨oc,od,kV,doc,pm,an,θ,ct,osl,rfl,lk,hcd⟩:=F.ex
 refine aj2 lk hcd S len λA outer s H vs Q E hr h=>?_
 have O:GOk (Hg (CXE P w) P w K mg base N qual (Ak st) f θ A outer s H E) (J5 K N (Ak st) gb bl):=by
  refine⟨rfl,S.kind,(λ_=>PassesOwn.leaving),rfl,S.nd,λx=>rfl,λx hx=>?_,λ_ _=>rfl,rfl,(λ_=>hr.hd),hr.units,λx hx=>?_,λx g e=>?_,λx hx=>?_,(λ_=>⟨rfl,rfl⟩),⟨_,_,_,rfl,rfl,rfl⟩⟩
  .have:=List.all_eq_true.mp hv x hx
   rw[cB] at this
   exact this.elim (λz=>.inl (b9 z)) λz=>.inr (.inl (b9 z))
  .rcases hx with hx|hx
   .exact Ff hx
   .exact absurd rfl (S.nofree _ (bV hx))
  .exact (T.all x g e).there hr
  .exact T.bl x (by have hx':bl.contains x=true:=hx;simpa using hx')
 refine⟨_,(bc9 n _ _ O).2 (Ba st) (λ_ a H'=>E (.ref a) none H') Z3,?_⟩
 rw[rd]
 exact hbody vs H Q E h
end
end L2
namespace Pn
open PySem L2
abbrev Sw:=List (Str×List Str)
def Ku(c:Nat):Bool:=decide (97<=c)&&decide (c<=122)
def okW(z:Str):Prop:=1<=z.length/\z.length<=8/\z.cps.toList.all Ku=true
def okL(l:List Str):Prop:=(∀z∈l,okW z)/\l.Nodup/\l.length<=8
def Gq(l:List Str):Prop:=okL l/\2<=l.length/\l.length<=4
def Cq(sw:Sw):Nat:=sw.foldl (λn x=>n*x.2.length) 1
def okSw(sw:Sw):Prop:=1<=sw.length/\sw.length<=5/\(sw.map (·.1)).Nodup/\(∀x∈sw,okW x.1/\Gq x.2)/\Cq sw<=256
def Es(acc:List (List Str))(x:Str×List Str):List (List Str):=acc.flatMap λa=>x.2.map λz=>a++[z]
def Al(sw:Sw):List (List Str):=sw.foldl Es [[]]
def ab7(ns:List Nat):Int:=ns.foldl (λc n=>c7 c (2^n)) 0
def G4(ms:List Int):Int:=ms.foldl (λc m=>c7 c m) 0
def D4(p:Nat)(z:Str):Nat->List (List Str)->List Nat
 |_,[]=>[]
 |k,r::rs=>if r[p]?=some z then k::D4 p z (k+1) rs else D4 p z (k+1) rs
def Em(rows:List (List Str))(p:Nat)(z:Str):Int:=ab7 (D4 p z 0 rows)
def Gz(sw:Sw)(w:Str):Nat:=sw.findIdx λx=>decide (x.1=w)
def J3(sw:Sw)(e:Str×List Str):Int:=G4 (e.2.map (Em (Al sw) (Gz sw e.1)))
def Rt(sw:Sw):Int:=2^(Al sw).length-1
def ah2(sw:Sw)(rule:Sw):Int:=rule.foldl (λc e=>cC c (J3 sw e)) (Rt sw)
def Jx(sw:Sw)(ζ:List Sw):List Int:=ζ.map (ah2 sw)
def Gp(sw:Sw)(ζ:List Sw):Int:=cC (Rt sw) (ce (G4 (Jx sw ζ)))
def Jj(sw:Sw)(e:Str×List Str):Prop:=e.2≠[]/\okL e.2/\∃x∈sw,x.1=e.1/\∀z∈e.2,z∈x.2
def E1(sw:Sw)(rule:Sw):Prop:=rule≠[]/\rule.length<=100/\(rule.map (·.1)).Nodup/\∀e∈rule,Jj sw e
def Pd(acc:List (List Str))(x:Str×List Str):(Es acc x).length=acc.length*x.2.length:=by
 unfold Es
 induction acc with
 |nil=>simp
 |cons a acc ih=>rw[ie,aB,ih,ae,aI,Nat.add_mul,Nat.one_mul,mC]
theorem Ib:∀(sw:Sw) acc,(sw.foldl Es acc).length=sw.foldl (λn x=>n*x.2.length) acc.length
 |[],_=>rfl
 |x::sw,acc=>by rw[bM,bM,Ib sw,Pd]
def Ia(sw:Sw):(Al sw).length=Cq sw:=Ib sw [[]]
def Lz(k:Nat)(rs:List (List Str)):Prop:=rs.Nodup/\(∀r∈rs,r.length=k)/\∀r∈rs,∀z∈r,okW z
def au9{k:Nat}{acc:List (List Str)}{x:Str×List Str}(h:Lz k acc)(hx:Gq x.2):Lz (k+1) (Es acc x):=by
 obtain⟨h1,h2,h3⟩:=h
 refine⟨?_,?_,?_⟩
 .unfold Es
  clear h3
  induction acc with
  |nil=>exact jg
  |cons a acc ih=>
   rw[ie,dG]
   rw[bN] at h1
   refine⟨?_,ih h1.2 (λr hr=>h2 r (ay _ hr)),?_⟩
   .refine List.Pairwise.map _ ?_ hx.1.2.1
    intro y z ne e
    exact ne (by simpa using e)
   .intro r hr q hq e
    subst e
    obtain⟨y,hy,rfl⟩:=List.mem_map.mp hr
    obtain⟨b,hb,hq⟩:=List.mem_flatMap.mp hq
    obtain⟨z,hz,e⟩:=List.mem_map.mp hq
    have:b=a/\z=y:=by simpa using e
    rw[this.1] at hb
    exact h1.1 hb
 .intro r hr
  obtain⟨b,hb,hq⟩:=List.mem_flatMap.mp hr
  obtain⟨z,hz,rfl⟩:=List.mem_map.mp hq
  rw[aB,h2 b hb]
  rfl
 .intro r hr y hy
  obtain⟨b,hb,hq⟩:=List.mem_flatMap.mp hr
  obtain⟨z,hz,rfl⟩:=List.mem_map.mp hq
  rcases List.mem_append.mp hy with hy|hy
  .exact h3 b hb y hy
  .have:y=z:=by simpa using hy
   subst this
   exact hx.1.1 _ hz
theorem J2:∀{sw:Sw} {k} {acc},Lz k acc->(∀x∈sw,Gq x.2)->Lz (k+sw.length) (sw.foldl Es acc)
 |[],_,_,h,_=>h
 | x::sw,k,acc,h,hs=>by
  have:=J2 (au9 h (hs x (aP))) (λy hy=>hs y (ay _ hy))
  rw[bM,aI,show k+(sw.length+1)=k+1+sw.length by omega]
  exact this
def Ic{sw:Sw}(h:∀x∈sw,Gq x.2):Lz sw.length (Al sw):=by
 have:=J2 (k:=0) (acc:=[[]]) ⟨by simp,by simp,by simp⟩ h
 rwa[dm] at this
theorem C9:∀{sw:Sw} {n},1<=n->(∀x∈sw,Gq x.2)->n<=sw.foldl (λn x=>n*x.2.length) n
 |[],n,_,_=>ag _
 | x::sw,n,h,hs=>by
  rw[bM]
  have h2:=(hs x aP).2.1
  have:n<=n*x.2.length:=Nat.le_mul_of_pos_right _ (by omega)
  exact aT this (C9 (by omega) (λy hy=>hs y (ay _ hy)))
def okSw.sets{sw:Sw}(h:okSw sw):∀x∈sw,Gq x.2:=λx hx=>(h.2.2.2.1 x hx).2
def okSw.len{sw:Sw}(h:okSw sw):(Al sw).length<=256:=by rw[Ia];exact h.2.2.2.2
def okSw.pos{sw:Sw}(h:okSw sw):1<=(Al sw).length:=by rw[Ia];exact C9 (ag 1) h.sets
def aa8{sw:Sw}(h:okSw sw)(i:Nat):Cq (sw.take i)<=Cq sw:=by
 conv=>rhs;rw[<- iA i sw]
 unfold Cq
 rw[gh]
 exact C9 (C9 (ag 1) λx hx=>h.sets x (eI hx)) λx hx=>h.sets x (lh hx)
def D0{α β:Type}{l:List α}{i:Nat}{x:α}(h:l[i]?=some x)(f:β->α->β)(b:β):(l.take (i+1)).foldl f b=f ((l.take i).foldl f b) x:=by
 rw[aY,h,d7,gh]
 rfl
def Cg{α β:Type}{l:List α}{i:Nat}{x:α}(h:l[i]?=some x)(f:α->β):(l.take (i+1)).map f=(l.take i).map f++[f x]:=by
 rw[aY,h,d7,aw]
 rfl
abbrev Own(ok:Addr->Prop)(H:Hp)(a:Addr)(o:HO):Prop:=ok a/\H a=some o
abbrev Kp(ok:Addr->Prop)(H:Hp)(ok':Addr->Prop)(H':Hp):Prop:=∀a o,Own ok H a o->Own ok' H' a o
abbrev fresh(H:Hp):Addr->Prop:=λa=>H a=none
abbrev any:Addr->Prop:=λ_=>True
def Kp.same{ok:Addr->Prop}{H H':Hp}(S:Same H H'):Kp ok H ok H':=λa o h=>⟨h.1,S _ _ h.2⟩
theorem Kp.any{ok:Addr->Prop}{H:Hp}:Kp ok H Pn.any H:=λa o h=>⟨trivial,h.2⟩
def Kp.weak{ok ok':Addr->Prop}{H:Hp}(h:∀a,ok a->ok' a):Kp ok H ok' H:=λa o q=>⟨h a q.1,q.2⟩
def Kp.trans{ok1 ok2 ok3:Addr->Prop}{H1 H2 H3:Hp}(h:Kp ok1 H1 ok2 H2)(g:Kp ok2 H2 ok3 H3):Kp ok1 H1 ok3 H3:=λa o q=>g a o (h a o q)
def B6{H H':Hp}(S:Same H H'){a:Addr}(h:H' a=none):H a=none:=by
 cases e:H a with
 |none=>rfl
 |some o=>rw[S _ _ e] at h;cases h
theorem Kp.fresh{H1 H2 H:Hp}(S:Same H1 H2):Kp (fresh H2) H (Pn.fresh H1) H:=Kp.weak λa h=>B6 S h
def Kp.off{ok:Addr->Prop}{H:Hp}{p:Addr}{o:HO}(h:¬ ok p):Kp ok H ok (upd H p o):=λa u q=>⟨q.1,by
 have n:a≠p:=λe=>h (by rw[<- e];exact q.1)
 rw[Ad n];exact q.2⟩
abbrev kR(x:(Str×List Str)×Addr):Key×V:=(.inr x.1.1,.ref x.2)
abbrev E4(r:List Str):HO:=.tup (r.map V.str)
abbrev Bk(r:List Str):HO:=.lst (r.map V.str)
def SwAt(ok:Addr->Prop)(H:Hp)(d:Addr)(sw:Sw):Prop:=∃ds:List ((Str×List Str)×Addr),ds.map (·.1)=sw/\Own ok H d (.dK (ds.map kR))/\∀x∈ds,Own ok H x.2 (E4 x.1.2)
def RuleAt(ok:Addr->Prop)(H:Hp)(d:Addr)(sw:Sw):Prop:=∃ds:List ((Str×List Str)×Addr),ds.map (·.1)=sw/\Own ok H d (.dK (ds.map kR))/\∀x∈ds,Own ok H x.2 (Bk x.1.2)
def TupsAt(ok:Addr->Prop)(H:Hp)(l:Addr)(rows:List (List Str)):Prop:=∃ds:List (List Str×Addr),ds.map (·.1)=rows/\Own ok H l (.lst (ds.map λx=>.ref x.2))/\∀x∈ds,Own ok H x.2 (E4 x.1)
def SwIn(ok:Addr->Prop)(H:Hp)(l:Addr)(sw:Sw):Prop:=∃ds:List (((Str×List Str)×Addr)×Addr),ds.map (·.1.1)=sw/\Own ok H l (.lst (ds.map λx=>.ref x.2))/\∀x∈ds,Own ok H x.2 (.tup [.str x.1.1.1,.ref x.1.2])/\Own ok H x.1.2 (Bk x.1.1.2)
def a25(r:List Str):TK:=.tup (r.map λz=>.at_ (.inr z))
def NumAt(ok:Addr->Prop)(H:Hp)(n:Addr)(_:List (List Str)):Prop:=∃kvs,Own ok H n (.dT kvs)
def V1(rows:List (List Str))(i:Nat)(l:List Str):HO:=.dK (l.map λz=>(.inr z,.int (Em rows i z)))
def SetsAt(ok:Addr->Prop)(H:Hp)(d:Addr)(sw:Sw):Prop:=∃ds:List ((Str×List Str)×Addr),ds.map (·.1)=sw/\Own ok H d (.dK (ds.map kR))/\∀i x,ds[i]?=some x->Own ok H x.2 (V1 (Al sw) i x.1.2)
def RulesAt(ok:Addr->Prop)(H:Hp)(k:Addr)(ζ:List Sw):Prop:=∃ds:List (Sw×Addr),ds.map (·.1)=ζ/\Own ok H k (.lst (ds.map λx=>.ref x.2))/\∀x∈ds,RuleAt ok H x.2 x.1
section
variable {ok ok':Addr->Prop}{H H':Hp}{d:Addr}{sw:Sw}{rows:List (List Str)}{ζ:List Sw}
def SwAt.mono(h:SwAt ok H d sw)(k:Kp ok H ok' H'):SwAt ok' H' d sw:=by
 obtain⟨ds,e,o,q⟩:=h;exact⟨ds,e,k _ _ o,λx hx=>k _ _ (q x hx)⟩
def RuleAt.mono(h:RuleAt ok H d sw)(k:Kp ok H ok' H'):RuleAt ok' H' d sw:=by
 obtain⟨ds,e,o,q⟩:=h;exact⟨ds,e,k _ _ o,λx hx=>k _ _ (q x hx)⟩
def TupsAt.mono(h:TupsAt ok H d rows)(k:Kp ok H ok' H'):TupsAt ok' H' d rows:=by
 obtain⟨ds,e,o,q⟩:=h;exact⟨ds,e,k _ _ o,λx hx=>k _ _ (q x hx)⟩
def SwIn.mono(h:SwIn ok H d sw)(k:Kp ok H ok' H'):SwIn ok' H' d sw:=by
 obtain⟨ds,e,o,q⟩:=h;exact⟨ds,e,k _ _ o,λx hx=>⟨k _ _ (q x hx).1,k _ _ (q x hx).2⟩⟩
def SetsAt.mono(h:SetsAt ok H d sw)(k:Kp ok H ok' H'):SetsAt ok' H' d sw:=by
 obtain⟨ds,e,o,q⟩:=h;exact⟨ds,e,k _ _ o,λi x hx=>k _ _ (q i x hx)⟩
theorem RulesAt.mono(h:RulesAt ok H d ζ)(k:Kp ok H ok' H'):RulesAt ok' H' d ζ:=by
 obtain⟨ds,e,o,q⟩:=h;exact⟨ds,e,k _ _ o,λx hx=>(q x hx).mono k⟩
def NumAt.mono(h:NumAt ok H d rows)(k:Kp ok H ok' H'):NumAt ok' H' d rows:=let⟨kvs,h⟩:=h;⟨kvs,k _ _ h⟩
end
def bw1(d l n s k b:Addr)(f:Int):List (Str×V):=[("settings", .ref d),("tuples", .ref l),("numbers", .ref n),("sets", .ref s),("kept_rules", .ref k),("bars", .ref b),("free", .int f)]
structure bu7 (C:Addr) (ok:Addr->Prop) (H:Hp) (p:Addr) (sw:Sw) (ζ:List Sw) (dx d l n s k b:Addr):Prop where
 ins:Own ok H p (.ins C dx (bw1 d l n s k b (Gp sw ζ)))
 sws:SwAt ok H d sw
 tps:TupsAt ok H l (Al sw)
 nms:NumAt ok H n (Al sw)
 sts:SetsAt ok H s sw
 rls:RulesAt ok H k ζ
 brs:Own ok H b (.lst ((Jx sw ζ).map V.int))
def PanelAt(C:Addr)(ok:Addr->Prop)(H:Hp)(p:Addr)(sw:Sw)(ζ:List Sw):Prop:=∃dx d l n s k b,bu7 C ok H p sw ζ dx d l n s k b
theorem PanelAt.mono{C p:Addr}{ok ok':Addr->Prop}{H H':Hp}{sw:Sw}{ζ:List Sw}(h:PanelAt C ok H p sw ζ)(k:Kp ok H ok' H'):PanelAt C ok' H' p sw ζ:=by
 obtain⟨dx,d,l,n,s,kk,b,h⟩:=h
 exact⟨dx,d,l,n,s,kk,b,⟨k _ _ h.ins,h.sws.mono k,h.tps.mono k,h.nms.mono k,h.sts.mono k,h.rls.mono k,k _ _ h.brs⟩⟩
def SelfAt(C:Addr)(ok:Addr->Prop)(H:Hp)(p l s:Addr):Prop:=∃dx fs,Own ok H p (.ins C dx fs)/\fs.lookup ("tuples" : Str)=some (.ref l)/\fs.lookup ("sets" : Str)=some (.ref s)/\∀m∈(["all_choices","box","many","term","read_rule","read_rules"]:List Str),fs.lookup m=none
def SelfAt.mono{C p l s:Addr}{ok ok':Addr->Prop}{H H':Hp}(h:SelfAt C ok H p l s)(k:Kp ok H ok' H'):SelfAt C ok' H' p l s:=by
 obtain⟨dx,fs,o,q⟩:=h;exact⟨dx,fs,k _ _ o,q⟩
def Ee{p:Addr}{o:Obj}(kvs:List (Key×V)):C3 (Itd p o kvs) (kvs.map λkv=>kV kv.1) (λH=>H p=some (.frz o (.dK kvs))):=by
 refine⟨λi H q h=>⟨q,by simpa using h⟩,λH q=>⟨q,by simp⟩,λi H x H' q hi h=>?_⟩
 obtain⟨h1,k,v,h2,h3⟩:=h
 refine⟨h1,?_⟩
 rw[al,h2,h3]
 rfl
def aw8{p:Addr}{o:Obj}(kvs:List (Key×V)):Kg (ay7 p o kvs) (D9 0 (kvs.map λkv=>kV kv.1)) (λH=>H p=some (.frz o (.dK kvs))):=by
 have e:(D9 0 (kvs.map λkv=>kV kv.1)).length=kvs.length:=by rw[Bp];simp
 refine⟨λi H q h=>⟨q,by omega⟩,λH q=>⟨q,by omega⟩,λi H x H' q hi h=>?_⟩
 obtain⟨T,k,v,hT,h1,h2,h3⟩:=h
 refine⟨T,.int i,kV k,hT,h1,?_,h3⟩
 have:=C6 (k:=0) (xs:=kvs.map λkv=>kV kv.1) (by rw[al,h2];rfl)
 rw[dm] at this
 exact this
def Same.thaw{H H':Hp}{p:Addr}{o:Obj}{kvs:List (Key×V)}(h:H p=some (.dK kvs))(S:Same (upd H p (.frz o (.dK kvs))) H'):Same H (upd H' p (.dK kvs)):=by
 intro b u e
 by_cases hb:b=p
 .subst hb;rw[Ac,<- h,e]
 .rw[Ad hb];exact S _ _ (by rw[Ad hb];exact e)
def Gi{H:Hp}{d:Addr}{u:HO}(h:H d=some u):¬ Pn.fresh H d:=λe=>by
 have e:H d=none:=e
 rw[h] at e
 cases e
def E8{b:Bool}{A B:Prop}(e:b=false)(h:B):if b=true then A else B:=by subst e;exact ak4 h
def Lk{b:Bool}{A B:Prop}(e:b=true)(h:A):if b=true then A else B:=by subst e;exact Zv h
def Am{α β:Type}{l:List α}{f:α->β}{i:Nat}{x:β}(h:(l.map f)[i]?=some x):∃m,l[i]?=some m/\x=f m:=by
 rw[al] at h
 cases e:l[i]? with
 |none=>rw[e] at h;cases h
 |some m=>rw[e] at h;exact⟨m,rfl,by simpa using h.symm⟩
def Aj{α:Type}{l:List α}{i:Nat}{x:α}(h:l[i]?=some x):i<l.length:=(List.getElem?_eq_some_iff.mp h).1
def Cv{n i:Nat}{x:V}(h:(Vz 0 n)[i]?=some x):i<n/\x=.int (i:Int):=by
 have hi:=Aj h
 rw[Ay] at hi
 rw[Tu hi] at h
 refine⟨hi,?_⟩
 have:V.int (0+i)=x:=by simpa using h
 rw[<- this,Int.zero_add]
def Ig(z:Str):z.cps.toList.length=z.length:=by simp[Str.length]
def an4(a c:Nat):decide ([c]<[a])=decide (c<a):=by
 rw[cq,decide_eq_true_iff,decide_eq_true_iff,List.cons_lt_cons_iff]
 simp
def leL{s:Str}{a c:Nat}(h:s.cps.toList=[a]):(!decide ((⟨#[c]⟩:Str).cps.toList<s.cps.toList))=decide (a<=c):=by
 rw[h]
 rw[an4,<- decide_not]
 exact decide_eq_decide.mpr Nat.not_lt
def leR{s:Str}{a c:Nat}(h:s.cps.toList=[a]):(!decide (s.cps.toList<(⟨#[c]⟩:Str).cps.toList))=decide (c<=a):=by
 rw[h]
 rw[an4,<- decide_not]
 exact decide_eq_decide.mpr Nat.not_lt
def Zd{s1 s2:Str}{a b c:Nat}{Q:VK}{H:Hp}(h1:s1.cps.toList=[a])(h2:s2.cps.toList=[b])(k:Q (.bl (decide (a<=c)&&decide (c<=b))) H) :
  if(!decide ((⟨#[c]⟩:Str).cps.toList<s1.cps.toList))=true then Q (.bl (!decide (s2.cps.toList<(⟨#[c]⟩:Str).cps.toList))) H else Q (.bl false) H:=by
 rw[leL h1,leR h2]
 cases e:decide (a<=c) with
 |true=>rw[e,iP] at k;exact Zv k
 |false=>rw[e,lG] at k;exact ak4 k
def Og{a b c:Int}{Q:VK}{H:Hp}(k:Q (.bl (decide (a<=c)&&decide (c<=b))) H):if decide (a<=c)=true then Q (.bl (decide (c<=b))) H else Q (.bl false) H:=by
 cases e:decide (a<=c) with
 |true=>rw[e,iP] at k;exact Zv k
 |false=>rw[e,lG] at k;exact ak4 k
def az8{s1 s2:Str}{a b c i:Nat}{Q:VK}{E:EK}{H:Hp}{σ:St}(h1:s1.cps.toList=[a])(h2:s2.cps.toList=[b])(hv:σ[i]?=some (some (.str ⟨#[c]⟩)))(k:Q (.bl (decide (a<=c)&&decide (c<=b))) H) :
  Dw Hz Hz (dC (.str s1)) (Aa i) (dC (.str s2)) σ H Q E:=by
 unfold Dw dC Aa
 rw[hv]
 exact Zd h1 h2 k
def Y6{K:ac}{z:Str}{te:DE}{p:Nat->Bool}{H:Hp}{Q:VK}{E:EK}(hz:z.length<=1000)(he:∀c (σ:St) (H1:Hp) (Q1:VK),σ.length=1->Q1 (.bl (p c)) H1->te (σ.set 0 (some (.str ⟨#[c]⟩))) H1 Q1 E)(k:∀H',Same H H'->Q (.bl (z.cps.toList.all p)) H') :
  ∀D,H D=none->Gk (Its z) (gdN 0) Cc te D (λH'=>To K [.ref D] H' Q) (Ut [none] [some (.str z)]) (upd H D (.lst [])) E:=by
 intro D hD
 refine Ki (bu0 z) (λσ=>σ.length=1) (λ_=>true) (λv=>match v with | .str y=>.bl (p (y.cps.getD 0 0))|_=>.non) hD (λ_ _=>aM) ?_ rfl ?_ ?_
 .unfold Fu
  rw[ae]
  exact a_ (by have:z.cps.size<=1000:=hz;simpa using this) (by decide)
 .intro x σ H1 hx hσ S Fin Skip hF hS
  obtain⟨c,hc,rfl⟩:=List.mem_map.mp hx
  exact he c σ H1 _ hσ (hF _ _ _ (by rw[fZ];exact hσ) (Same.refl _) rfl rfl)
 .intro H' S hD'
  have e:((Fu z).filter λ_=>true).map (λv=>match v with | .str y=>V.bl (p (y.cps.getD 0 0))|_=>.non)=(z.cps.toList.map p).map V.bl:=by
   unfold Fu
   rw[List.filter_eq_self.mpr (λ_ _=>rfl),aC,aC]
   rfl
  refine⟨z.cps.toList.map p,SqL.of (hD'.trans (by rw[e])),?_⟩
  have e2:(z.cps.toList.map p).all (λb=>b)=z.cps.toList.all p:=by rw[iw];rfl
  rw[e2]
  exact k H' S
def Rx{K:ac}{J:It}{χ:List V}{ok:Hp->Prop}{te:DE}{σ:St}{H:Hp}{R:Hp->Addr->Prop}{E:EK}(Y:C3 J χ ok)(Sg:St->Prop)(hok:∀H1,Same H H1->ok H1)(hn:χ.length<sizeLine)(hσ:Sg σ)(hS:∀ σ x,Sg σ->Sg (σ.set 0 (some x)))(he:∀x σ H1 Q1,x∈χ->Sg σ->Same H H1->(∀H2,Same H1 H2->Q1 (.bl true) H2)->te (σ.set 0 (some x)) H1 Q1 E)(k:∀D H',Same H H'->SqL K H' D ((χ.map λ_=>true).map V.bl)->R H' D) :
  ∀D,H D=none->Gk J (gdN 0) Cc te D (λH'=>R H' D) σ (upd H D (.lst [])) E:=λD hD=>ag8 Y Sg hD hok hn hσ hS he (k D)
theorem Tb:∀(xs acc:List Str),(acc++xs).Nodup->xs.foldl (λσ k=>if σ.any (λj=>decide (j=k)) then σ else σ++[k]) acc=acc++xs
 |[],acc,_=>by rw[List.foldl_nil,cu]
 | x::xs,acc,h=>by
  have hx:(acc.any λj=>decide (j=x))=false:=by
   rw[jv]
   intro j hj e
   have e:j=x:=by simpa using e
   subst e
   exact(List.nodup_append.mp h).2.2 j hj j aP rfl
  rw[bM,hx]
  have h2:(acc++[x]++xs).Nodup:=by simpa using h
  show List.foldl _ (acc++[x]) xs=_
  rw[Tb xs (acc++[x]) h2]
  simp
def a17{xs:List Str}(h:xs.Nodup):Fd xs=xs:=Tb xs [] (h)
theorem Bs{κ:Type} [DecidableEq κ]:∀{kvs}{i:Nat}{k:κ}{v:V},(kvs.map (·.1)).Nodup->kvs[i]?=some (k,v)->Be kvs k=some v
 |[],_,_,_,_,e=>by simp at e
 | p::r,0,k,v,_,e=>by
  rw[fu] at e
  cases e
  exact B5 rfl
 | p::r,i+1,k,v,h,e=>by
  rw[bI] at e
  rw[aX,bN] at h
  have ne:¬ p.1=k:=λz=>h.1 (List.mem_map.mpr ⟨(k,v),ak e,z.symm⟩)
  rw[Bz ne]
  exact Bs h.2 e
theorem Ci{κ:Type} [DecidableEq κ]:∀{kvs}{k:κ},¬ k∈kvs.map (·.1)->Be kvs k=none
 |[],_,_=>rfl
 | p::r,k,h=>by
  rw[aX,az,not_or] at h
  rw[Bz (λe=>h.1 e.symm)]
  exact Ci h.2
def Ji{l:List Str}(h:l.Nodup):(l.map (cK:Str->Key)).Nodup:=List.Pairwise.map _ (λa b ne e=>ne (by injection e)) h
def Kt(ds:List ((Str×List Str)×Addr)):(ds.map kR).map (·.1)=((ds.map (·.1)).map (·.1)).map (cK:Str->Key):=by simp[aC]
def Ez{ds:List ((Str×List Str)×Addr)}{sw:Sw}(e:ds.map (·.1)=sw)(h:(sw.map (·.1)).Nodup):((ds.map kR).map (·.1)).Nodup:=by
 rw[Kt,e]
 exact Ji h
def F9(x y:Nat):c7 (x:Int) (y:Int)=((x ||| y:Nat):Int):=by
 unfold c7
 have hx:¬ 0<=ce x:=by unfold ce;omega
 have hy:¬ 0<=ce y:=by unfold ce;omega
 rw[PyProof.Rows.bitAnd_nn hx hy]
 have e:∀z,(ce (ce z))=z:=λz=>by unfold ce;omega
 rw[e,e,e,aQ,aQ]
def C4(x y:Nat):cC (x:Int) (y:Int)=((x &&& y:Nat):Int):=by
 rw[PyProof.Rows.bitAnd_pp (by omega) (by omega),aQ,aQ]
def Mz(n:Nat):(2:Int)^n=((2^n:Nat):Int):=by simp
def a70(ns:List Nat):Nat:=ns.foldl (λc n=>c ||| 2^n) 0
theorem Tv:∀(ns:List Nat)(c:Nat),ns.foldl (λ(c:Int) n=>c7 c (2^n)) (c:Int)=((ns.foldl (λc n=>c ||| 2^n) c:Nat):Int)
 |[],c=>rfl
 |n::ns,c=>by rw[bM,bM,Mz,F9,Tv ns]
def ar5(ns:List Nat):ab7 ns=(a70 ns:Nat):=Tv ns 0
theorem Tw:∀(ns:List Nat) c k,(ns.foldl (λc n=>c ||| 2^n) c).testBit k=(c.testBit k||decide (k∈ns))
 |[],c,k=>by simp
 | n::ns,c,k=>by
  rw[bM,Tw ns,iq,lP,Bool.or_assoc]
  congr 1
  rw[cq,cB,decide_eq_true_iff,decide_eq_true_iff,decide_eq_true_iff,az]
  exact or_congr ⟨Eq.symm,Eq.symm⟩ mN
def ar6(ns:List Nat)(k:Nat):(a70 ns).testBit k=decide (k∈ns):=by
 unfold a70
 rw[Tw,dz,jL]
def F7(ms:List Nat):Nat:=ms.foldl (λc m=>c ||| m) 0
theorem M0:∀(ms:List Nat)(c:Nat),(ms.map λm:Nat=>(m:Int)).foldl (λc m=>c7 c m) (c:Int)=((ms.foldl (λc m=>c ||| m) c:Nat):Int)
 |[],c=>rfl
 |n::ns,c=>by rw[aX,bM,bM,F9,M0 ns]
def M1(ms:List Nat):G4 (ms.map λm:Nat=>(m:Int))=(F7 ms:Nat):=M0 ms 0
theorem M2:∀(ms:List Nat) c k,(ms.foldl (λc m=>c ||| m) c).testBit k=(c.testBit k||ms.any λm=>m.testBit k)
 |[],c,k=>by simp
 |n::ns,c,k=>by rw[bM,M2 ns,iq,gX,Bool.or_assoc]
def M3(ms:List Nat)(k:Nat):(F7 ms).testBit k=ms.any λm=>m.testBit k:=by
 unfold F7
 rw[M2,dz,jL]
def Zo(rows:List (List Str))(p:Nat)(z:Str)(k:Nat):Bool:=decide ((rows[k]?.bind λr=>r[p]?)=some z)
theorem X4(p:Nat)(z:Str):∀rows j n,n∈D4 p z j rows↔j<=n/\(rows[n-j]?.bind λr=>r[p]?)=some z
 |[],j,n=>by simp[D4]
 | r::rows,j,n=>by
  have ih:=X4 p z rows (j+1) n
  have e:∀b,(n=j/\b)\/(j+1<=n/\(rows[n-(j+1)]?.bind λr=>r[p]?)=some z)↔j<=n/\((n=j/\b)\/(n≠j/\(rows[n-(j+1)]?.bind λr=>r[p]?)=some z)):=λb=>by
   constructor
   .rintro (⟨h1,h2⟩|⟨h1,h2⟩)
    .exact⟨by omega,.inl ⟨h1,h2⟩⟩
    .exact⟨by omega,.inr ⟨by omega,h2⟩⟩
   .rintro⟨h0,⟨h1,h2⟩|⟨h1,h2⟩⟩
    .exact .inl ⟨h1,h2⟩
    .exact .inr ⟨by omega,h2⟩
  have g:j<=n->(((r::rows)[n-j]?.bind λr=>r[p]?)=some z↔((n=j/\r[p]?=some z)\/(n≠j/\(rows[n-(j+1)]?.bind λr=>r[p]?)=some z))):=λh=>by
   by_cases hn:n=j
   .subst hn
    simp
   .have e2:n-j=(n-(j+1))+1:=by omega
    rw[e2,bI]
    simp[hn]
  rw[D4]
  by_cases hr:r[p]?=some z
  .rw[if_pos hr,az,ih]
   have:=e (r[p]?=some z)
   constructor
   .intro h
    have h2:=this.mp (h.imp (λx=>⟨x,hr⟩) id)
    exact⟨h2.1,(g h2.1).mpr h2.2⟩
   .rintro⟨h1,h2⟩
    exact(this.mpr ⟨h1,(g h1).mp h2⟩).imp (λx=>x.1) id
  .rw[if_neg hr,ih]
   have:=e (r[p]?=some z)
   constructor
   .intro h
    have h2:=this.mp (.inr h)
    exact⟨h2.1,(g h2.1).mpr h2.2⟩
   .rintro⟨h1,h2⟩
    rcases this.mpr ⟨h1,(g h1).mp h2⟩ with h|h
    .exact absurd h.2 hr
    .exact h
def Ya(rows:List (List Str))(p:Nat)(z:Str):Nat:=a70 (D4 p z 0 rows)
def Z1(rows:List (List Str))(p:Nat)(z:Str):Em rows p z=(Ya rows p z:Nat):=ar5 _
def Z2(rows:List (List Str))(p:Nat)(z:Str)(k:Nat):(Ya rows p z).testBit k=Zo rows p z k:=by
 unfold Ya Zo
 rw[ar6]
 refine decide_eq_decide.mpr ?_
 rw[X4]
 simp
def Mw(sw:Sw)(e:Str×List Str):Nat:=F7 (e.2.map (Ya (Al sw) (Gz sw e.1)))
def ac3(sw:Sw)(e:Str×List Str):J3 sw e=(Mw sw e:Nat):=by
 unfold J3 Mw
 rw[<- M1,aC]
 congr 1
 exact cU λz _=>Z1 _ _ _
def ac4(sw:Sw)(e:Str×List Str)(k:Nat):(Mw sw e).testBit k=e.2.any λz=>Zo (Al sw) (Gz sw e.1) z k:=by
 unfold Mw
 rw[M3,mz]
 congr 1
 funext z
 exact Z2 _ _ _ _
def Rv(sw:Sw):Nat:=2^(Al sw).length-1
def Ru(sw:Sw):Rt sw=(Rv sw:Nat):=by
 unfold Rt Rv
 rw[Mz]
 have:0<2^(Al sw).length:=Nat.two_pow_pos _
 omega
def Rw(sw:Sw)(k:Nat):(Rv sw).testBit k=decide (k<(Al sw).length):=by
 unfold Rv
 rw[Nat.testBit_two_pow_sub_one]
def Gm(sw:Sw)(rule:Sw):Nat:=rule.foldl (λc e=>c &&& Mw sw e) (Rv sw)
theorem R3(sw:Sw):∀(rule:Sw)(c:Nat),rule.foldl (λc e=>cC c (J3 sw e)) (c:Int)=((rule.foldl (λc e=>c &&& Mw sw e) c:Nat):Int)
 |[],c=>rfl
 |e::rule,c=>by rw[bM,bM,ac3,C4,R3 sw rule]
def ah3(sw rule:Sw):ah2 sw rule=(Gm sw rule:Nat):=by
 unfold ah2 Gm
 rw[Ru,R3]
theorem R4(sw:Sw):∀(rule:Sw) c k,(rule.foldl (λc e=>c &&& Mw sw e) c).testBit k=(c.testBit k&&rule.all λe=>e.2.any λz=>Zo (Al sw) (Gz sw e.1) z k)
 |[],c,k=>by simp
 |e::rule,c,k=>by rw[bM,R4 sw rule,eV,ac4,b7,Bool.and_assoc]
def ah4(sw rule:Sw)(k:Nat):(Gm sw rule).testBit k=(decide (k<(Al sw).length)&&rule.all λe=>e.2.any λz=>Zo (Al sw) (Gz sw e.1) z k):=by
 unfold Gm
 rw[R4,Rw]
def C1(sw:Sw)(ζ:List Sw):Nat:=Rv sw-(Rv sw &&& F7 (ζ.map (Gm sw)))
def Gd(sw:Sw)(ζ:List Sw):Gp sw ζ=(C1 sw ζ:Nat):=by
 unfold Gp C1 Jx
 have e:ζ.map (ah2 sw)=(ζ.map (Gm sw)).map λm:Nat=>(m:Int):=by
  rw[aC]
  exact cU λr _=>ah3 sw r
 rw[e,M1,Ru,PyProof.Rows.bitAnd_pn (by omega) (by unfold ce;omega),show ce (ce ((F7 (ζ.map (Gm sw)):Nat):Int))=((F7 (ζ.map (Gm sw)):Nat):Int) by unfold ce;omega,aQ,aQ]
 have:=Nat.and_le_left (n:=Rv sw) (m:=F7 (ζ.map (Gm sw)))
 omega
def a76(a b:Nat):a-(a &&& b)=a ^^^ (a &&& b):=by
 have h:(a ^^^ (a &&& b)) &&& (a &&& b)=0:=by
  refine ly λk=>?_
  rw[eV,ky,eV,dz]
  cases a.testBit k <;> cases b.testBit k <;> rfl
 have h2:(a ^^^ (a &&& b)) ||| (a &&& b)=a:=by
  refine ly λk=>?_
  rw[iq,ky,eV]
  cases a.testBit k <;> cases b.testBit k <;> rfl
 have h3:(a ^^^ (a &&& b))+(a &&& b)=(a ^^^ (a &&& b)) ||| (a &&& b):=by
  have e:=PyProof.Rows.bitOr_and ((a ^^^ (a &&& b):Nat):Int) ((a &&& b):Int)
  rw[F9,C4,h] at e
  omega
 omega
def Iy(sw:Sw)(ζ:List Sw)(k:Nat):(C1 sw ζ).testBit k=(decide (k<(Al sw).length) && !ζ.any λr=>(Gm sw r).testBit k):=by
 unfold C1
 rw[a76,ky,eV,Rw,M3,mz]
 show(_ ^^ (_&&ζ.any λr=>(Gm sw r).testBit k))=_
 cases decide (k<(Al sw).length) <;> cases ζ.any (λr=>(Gm sw r).testBit k) <;> rfl
end Pn
namespace L2
open PySem PySem.Spec PyProof.Rows
section
variable {P:aO}{w:bw}{K:ac}{mg:Str->Option Value}{base:Heap}{x q:Str}{st:Stmt}{f:Addr}{d:bb}{ps:List Str}
def bu3(K:ac)(x q:Str)(st:Stmt)(f:Addr):Prop:=∃d,Fun K x q st f d
structure bv1 (K:ac) (q:Str) (st:Stmt) (f:Addr):Prop where
 at_:bK K mainGlobals q=some (some (.ref f))
 d:bu3 K q q st f
structure MetD (K:ac) (x q:Str) (st:Stmt) (f:Addr):Prop where
 fn:cQ K (.ref f)=true
 d:bu3 K x q st f
def top_mk{oc:Value}{od an:Option Addr}{osl:Array (Option Value)}{kV doc pm θ ct:Value}(a:bK K mainGlobals q=some (some (.ref f)))(l:K.lookup f=some ⟨oc,od,.func (cx q q (B7 st) (Ba st) (Ak st) .none kV doc pm an θ ct),osl⟩)(c:dF K θ q=true)(k:be K (.ref f)=true):bv1 K q st f:=⟨a,_,P1 l c k⟩
def met_mk{oc:Value}{od an:Option Addr}{osl:Array (Option Value)}{kV doc pm θ ct:Value}(l:K.lookup f=some ⟨oc,od,.func (cx x q (B7 st) (Ba st) (Ak st) .none kV doc pm an θ ct),osl⟩)(c:dF K θ q=true)(k:be K (.ref f)=true)(i:cQ K (.ref f)=true):MetD K x q st f:=⟨i,_,P1 l c k⟩
structure DOk (K:ac) (mg:Str->Option Value) (q:Str) (st:Stmt) (f:Addr) (d:bb) (ps:List Str):Prop where
 F:FunD K q q st f d .none
 b:Binds K d ps []
 m:mg q=some (.ref f)
structure MOk (K:ac) (x q:Str) (st:Stmt) (f:Addr) (d:bb) (ps:List Str):Prop where
 F:FunD K x q st f d .none
 b:Binds K d ps []
 i:cQ K (.ref f)=true
def MetD.ok(D:MetD K x q st f)(hb:∀kV doc pm an θ ct us,us.length=ps.length->iT (cx x q (B7 st) (Ba st) (Ak st) .none kV doc pm an θ ct) ⟨us,[]⟩=pure (ps.zip us)):∃d,MOk K x q st f d ps:=by
 obtain⟨a,d,F⟩:=D
 exact⟨d,F.toD,F.binds hb,a⟩
def by6{i:FI}(h2:i.ds=[])(b:Binds K i.fd i.ps []):∀j,j<=i.dfs.length->Binds K i.fd i.ps (i.ds.drop j):=λj _=>by
 rw[h2,List.drop_nil];exact b
def one{C:Addr}{i:FI}{m:Str}{k:Nat}(h:MetIn P w K mg base k m ⟨C,i⟩):∀mi∈[(⟨C,i⟩:MI)],MetIn P w K mg base k m mi:=λmi hm=>by
 rw[aJ] at hm
 exact hm▸h
end
structure Df where
 x:Str
 q:Str
 st:Stmt
 N:List Str
 np:Nat
 lv:Nat
def Df.ps(d:Df):List Str:=d.N.take d.np
abbrev Ct(D:Df)(f:Addr)(d:bb)(s:Sp):FI:=⟨f,d,D.ps,D.lv,s,[],[]⟩
def ScOk(N P:List Str)(sc:Scope):Prop:=(sc.kind=.function/\sc.isCoroutine=false/\sc.isGenerator=false)/\N.Nodup/\N.take P.length=P/\(∀x∈P,sc.names.lookup x=some .local\/sc.names.lookup x=some .cell)/\(∀y∈sc.names,y.2≠.free)/\M5 N sc=true
noncomputable instance (N P:List Str) (sc:Scope):Decidable (ScOk N P sc):=by unfold ScOk;infer_instance
def ScOk.fn{N P:List Str}{sc:Scope}(h:ScOk N P sc):Cr N P sc:=⟨h.1.1,h.1.2.1,h.1.2.2,h.2.1,h.2.2.1,h.2.2.2.1,h.2.2.2.2.1⟩
structure Ent where
 lv:Nat
 x:Str
 g:GB
def gbT(es:List Ent)(n:Nat):List (Str×GB):=es.filterMap λe=>if e.lv<=n then some (e.x,e.g) else none
def G7(P:aO)(w:bw)(K:ac)(mg:Str->Option Value)(base:Heap)(es:List Ent)(bl:List Str)(n:Nat):Prop:=∀m,m<n->Tab P w K mg base m (gbT es m) bl
def AllE(P:aO)(w:bw)(K:ac)(mg:Str->Option Value)(base:Heap)(es:List Ent)(bl:List Str):List Ent->Prop
 |[]=>True
 |e::r=>(G7 P w K mg base es bl e.lv->GBIn P w K mg base e.lv e.x e.g)/\AllE P w K mg base es bl r
section
variable {P:aO}{w:bw}{K:ac}{mg:Str->Option Value}{base:Heap}{es:List Ent}{bl:List Str}{f:Nat->Addr}{d:Nat->bb}
theorem AllE.app:∀{a b},AllE P w K mg base es bl a->AllE P w K mg base es bl b->AllE P w K mg base es bl (a++b)
 |[],_,_,h=>h
 |_::_,_,h,g=>⟨h.1,AllE.app h.2 g⟩
theorem AllE.at_:∀{a} {e},AllE P w K mg base es bl a->e∈a->G7 P w K mg base es bl e.lv->GBIn P w K mg base e.lv e.x e.g
 |[],_,_,he=>by cases he
 | _::_,_,h,he=>by
  rcases List.mem_cons.mp he with rfl|he
  .exact h.1
  .exact AllE.at_ h.2 he
def a88(hz:∀x∈bl,mg x=none)(h:AllE P w K mg base es bl es)(n:Nat):Tab P w K mg base n (gbT es n) bl:=by
 induction n using Nat.strongRecOn with
 |ind n ih=>
  refine⟨λx g hx=>?_,hz⟩
  obtain⟨e,he,q⟩:=List.mem_filterMap.mp hx
  split at q
  .rename_i hl
   cases q
   exact(h.at_ he λm hm=>ih m (aL hm hl)).mono hl
  .cases q
def OkD(K:ac)(D:Df)(es:List Ent)(bl:List Str)(f:Addr)(d:bb)(s:Sp):Prop:=∀P w mg base dV,FunD K D.x D.q D.st f d dV->G7 P w K mg base es bl D.lv->FnOk P w K mg base CX0 D.lv f d D.ps s
def OkG(P:aO)(w:bw)(K:ac)(mg:Str->Option Value)(base:Heap)(D:Df)(es:List Ent)(bl:List Str)(f:Addr)(d:bb)(s:Sp):Prop:=G7 P w K mg base es bl D.lv -> ∃C,(∀X',X'.prog=P->X'.w=w->Jw C X')/\FnOk P w K mg base C D.lv f d D.ps s
noncomputable def OkX(K:ac)(D:Df)(es:List Ent)(bl:List Str)(f:Addr)(d:bb)(s:Sp):Prop:=∀P w mg base dV,FunD K D.x D.q D.st f d dV->G7 P w K mg base es bl D.lv->FnOk P w K mg base (CXE P w) D.lv f d D.ps s
def okD{D:Df}{f:Addr}{d:bb}{s:Sp}{k n:Nat}{t:DS}(hl:D.lv=k+1)(c:ScOk D.N D.ps (Ak D.st))(rd:wSs n (J5 K D.N (Ak D.st) (gbT es k) bl) (Ba D.st)=t)(len:∀vs H Q E,s vs H Q E->vs.length=D.ps.length)(body:∀vs H Q E,s vs H Q E->t (Ux Q λ_ _=>False) (Cw D.N vs) H):OkD K D es bl f d s:=λ_ _ _ _ _ F T=>by
 rw[hl] at T ⊢
 exact F.okW0 c.fn c.2.2.2.2.2 (T k (cF k)) rd len body
def okX{D:Df}{f:Addr}{d:bb}{s:Sp}{k n:Nat}{t:DS}(hl:D.lv=k+1)(c:ScOk D.N D.ps (Ak D.st))(rd:wSs n (J5 K D.N (Ak D.st) (gbT es k) bl) (Ba D.st)=t)(len:∀vs H Q E,s vs H Q E->vs.length=D.ps.length)(body:∀vs H Q E,s vs H Q E->t (X1 Q E) (Cw D.N vs) H):OkX K D es bl f d s:=λ_ _ _ _ _ F T=>by
 rw[hl] at T ⊢
 exact F.okWX c.fn c.2.2.2.2.2 (T k (cF k)) rd len body
def A5{D:Df}{f:Addr}{d:bb}{s:Sp}(t:DS)(body:∀vs H Q E,s vs H Q E->vs.length=D.ps.length/\t (Ux Q λ_ _=>False) (Cw D.N vs) H)(hl:D.lv=D.lv-1+1:=by rfl)(c:ScOk D.N D.ps (Ak D.st):=by decide +kernel)(rd:wSs 40 (J5 K D.N (Ak D.st) (gbT es (D.lv-1)) bl) (Ba D.st)=t:=by kernel_rfl):OkD K D es bl f d s:=okD hl c rd (λvs H Q E h=>(body vs H Q E h).1) λvs H Q E h=>(body vs H Q E h).2
def a27{D:Df}{f:Addr}{d:bb}{s:Sp}(t:DS)(body:∀vs H Q E,s vs H Q E->vs.length=D.ps.length/\t (X1 Q E) (Cw D.N vs) H)(hl:D.lv=D.lv-1+1:=by rfl)(c:ScOk D.N D.ps (Ak D.st):=by decide +kernel)(rd:wSs 40 (J5 K D.N (Ak D.st) (gbT es (D.lv-1)) bl) (Ba D.st)=t:=by kernel_rfl):OkX K D es bl f d s:=okX hl c rd (λvs H Q E h=>(body vs H Q E h).1) λvs H Q E h=>(body vs H Q E h).2
def BtD(D:Df)(d:bb):Prop:=∀s us,us.length=D.ps.length->mj s d ⟨us,[]⟩ (D.ps.zip us)
def AllG(K:ac)(mg:Str->Option Value)(f:Nat->Addr)(d:Nat->bb):Nat->List Df->Prop
 |_,[]=>True
 |k,D::r=>(DOk K mg D.q D.st (f k) (d k) D.ps/\BtD D (d k))/\AllG K mg f d (k+1) r
theorem AllG.get:∀{L} {k} j {D},AllG K mg f d k L->L[j]?=some D->DOk K mg D.q D.st (f (k+j)) (d (k+j)) D.ps/\BtD D (d (k+j))
 |[],_,_,_,_,e=>by simp at e
 |_::_,_,0,_,h,e=>by cases e;exact h.1
 | _::_,k,j+1,_,h,e=>by
  rw[show k+(j+1)=k+1+j by omega]
  exact AllG.get j h.2 e
def bd1(K:ac):List Df->Prop
 |[]=>True
 |D::r=>(∃a,bv1 K D.q D.st a)/\bd1 K r
def W6(D:Df):Prop:=∀kV doc pm an θ ct us,us.length=D.ps.length->iT (cx D.x D.q (B7 D.st) (Ba D.st) (Ak D.st) .none kV doc pm an θ ct) ⟨us,[]⟩=pure (D.ps.zip us)
def bu1:List Df->Prop
 |[]=>True
 |D::r=>(D.x=D.q/\W6 D)/\bu1 r
theorem AllG.congr{f':Nat->Addr}{d':Nat->bb}:∀{L} {k},(∀n,k<=n->f' n=f n/\d' n=d n)->AllG K mg f d k L->AllG K mg f' d' k L
 |[],_,_,_=>aM
 |_::_,k,e,h=>⟨by rw[(e k (ag _)).1,(e k (ag _)).2];exact h.1,AllG.congr (λn hn=>e n (by omega)) h.2⟩
theorem Xm{h:Heap}(d₀:bb)(X:K.In h)(G:h.Ns mainGlobals mg):∀{L} k,bd1 K L->bu1 L -> ∃f d,AllG K mg f d k L
 |[],_,_,_=>⟨λ_=>0,λ_=>d₀,aM⟩
 | D::r,k,⟨⟨a,q⟩,t⟩,⟨⟨e,b⟩,bs⟩=>by
  obtain⟨f,d,g⟩:=Xm d₀ X G (k+1) t bs
  obtain⟨m,d0,F⟩:=q
  have b:=b
  unfold W6 at b
  rw[e] at b
  have g0:DOk K mg D.q D.st a d0 D.ps/\BtD D d0:=⟨⟨F.toD,F.binds b,d9 X G m⟩,by
   obtain⟨oc,od,kV,doc,pm,an,θ,ct,osl,rfl,_⟩:=F.ex
   exact λs us hl=>.of_eq (b _ _ _ _ _ _ us hl)⟩
  refine⟨λn=>if n=k then a else f n,λn=>if n=k then d0 else d n,⟨?_,?_⟩⟩
  .simp only[if_true];exact g0
  .exact AllG.congr (λn hn=>by rw[if_neg (by omega),if_neg (by omega)];exact⟨rfl,rfl⟩) g
theorem AllG.pre:∀{a b} {k},AllG K mg f d k (a++b)->AllG K mg f d k a
 |[],_,_,_=>aM
 |_::_,_,_,h=>⟨h.1,AllG.pre h.2⟩
theorem OkD.g{D:Df}{a:Addr}{fd:bb}{s:Sp}(h:OkD K D es bl a fd s)(g:DOk K mg D.q D.st a fd D.ps)(e:D.x=D.q:=by rfl):OkG P w K mg base D es bl a fd s:=λT=>⟨CX0,λX' _ _=>Hy X',h _ _ _ _ _ (by rw[e];exact g.F) T⟩
def fnE(f:Nat->Addr)(d:Nat->bb):Nat->List (Df×Sp)->List Ent
 |_,[]=>[]
 |k,p::r=>⟨p.1.lv,p.1.q,.fn (Ct p.1 (f k) (d k) p.2)⟩::fnE f d (k+1) r
def ad1(P:aO)(w:bw)(K:ac)(mg:Str->Option Value)(base:Heap)(es:List Ent)(bl:List Str)(f:Nat->Addr)(d:Nat->bb):Nat->List (Df×Sp)->Prop
 |_,[]=>True
 |k,p::r=>OkG P w K mg base p.1 es bl (f k) (d k) p.2/\ad1 P w K mg base es bl f d (k+1) r
theorem Xl:∀{L} {k},AllG K mg f d k (L.map (·.1))->ad1 P w K mg base es bl f d k L->AllE P w K mg base es bl (fnE f d k L)
 |[],_,_,_=>aM
 |_::_,_,g,o=>⟨λT=>⟨g.1.1.m,g.1.1.F.kp,o.1 T,ag _,by6 rfl g.1.1.b,.nil⟩,Xl g.2 o.2⟩
def AllM(K:ac)(c:Addr)(f:Nat->Addr)(d:Nat->bb):Nat->List Df->Prop
 |_,[]=>True
 |k,D::r=>(MOk K D.x D.q D.st (f k) (d k) D.ps/\M7 K c D.x (f k))/\AllM K c f d (k+1) r
theorem AllM.get{c:Addr}:∀{L} {k} j {D},AllM K c f d k L->L[j]?=some D->MOk K D.x D.q D.st (f (k+j)) (d (k+j)) D.ps/\M7 K c D.x (f (k+j))
 |[],_,_,_,_,e=>by simp at e
 |_::_,_,0,_,h,e=>by cases e;exact h.1
 | _::_,k,j+1,_,h,e=>by
  rw[show k+(j+1)=k+1+j by omega]
  exact AllM.get j h.2 e
theorem AllM.congr{c:Addr}{f':Nat->Addr}{d':Nat->bb}:∀{L} {k},(∀n,k<=n->f' n=f n/\d' n=d n)->AllM K c f d k L->AllM K c f' d' k L
 |[],_,_,_=>aM
 |_::_,k,e,h=>⟨by rw[(e k (ag _)).1,(e k (ag _)).2];exact h.1,AllM.congr (λn hn=>e n (by omega)) h.2⟩
def Rp(K:ac)(c:Addr):List Df->Prop
 |[]=>True
 |D::r=>(∃a,aU K (.ref c) D.x=some (some (.ref a))/\MetD K D.x D.q D.st a)/\Rp K c r
def a94:List Df->Prop
 |[]=>True
 |D::r=>W6 D/\a94 r
theorem Kh{c:Addr}(d₀:bb):∀{L} k,Rp K c L->a94 L -> ∃f d,AllM K c f d k L
 |[],_,_,_=>⟨λ_=>0,λ_=>d₀,aM⟩
 | D::r,k,⟨⟨a,i,q⟩,t⟩,⟨b,bs⟩=>by
  obtain⟨f,d,g⟩:=Kh d₀ (k+1) t bs
  obtain⟨d0,g0⟩:=q.ok b
  refine⟨λn=>if n=k then a else f n,λn=>if n=k then d0 else d n,⟨?_,?_⟩⟩
  .simp only[if_true];exact⟨g0,i,g0.i,g0.F.kp⟩
  .exact AllM.congr (λn hn=>by rw[if_neg (by omega),if_neg (by omega)];exact⟨rfl,rfl⟩) g
def AllC(mg:Str->Option Value)(u:Nat->Value):Nat->List (Str×V)->Prop
 |_,[]=>True
 |k,c::r=>(mg c.1=some (u k)/\RelV c.2 (u k))/\AllC mg u (k+1) r
theorem AllC.congr{u u':Nat->Value}:∀{L} {k},(∀n,k<=n->u' n=u n)->AllC mg u k L->AllC mg u' k L
 |[],_,_,_=>aM
 |_::_,k,e,h=>⟨by rw[e k (ag _)];exact h.1,AllC.congr (λn hn=>e n (by omega)) h.2⟩
def ad3(K:ac):List (Str×V)->Prop
 |[]=>True
 |(x,v)::r=>(∃u,bK K mainGlobals x=some (some u)/\RelV v u)/\ad3 K r
def con_mk{x:Str}{v:V}{u:Value}(a:bK K mainGlobals x=some (some u))(r:RelV v u):∃u,bK K mainGlobals x=some (some u)/\RelV v u:=⟨u,a,r⟩
theorem Xk{h:Heap}(X:K.In h)(G:h.Ns mainGlobals mg):∀{L} k,ad3 K L -> ∃u,AllC mg u k L
 |[],_,_=>⟨λ_=>.none,aM⟩
 | c::r,k,⟨⟨v,i,q⟩,t⟩=>by
  obtain⟨u,g⟩:=Xk X G (k+1) t
  refine⟨λn=>if n=k then v else u n,⟨?_,?_⟩⟩
  .simp only[if_true];exact⟨d9 X G i,q⟩
  .exact AllC.congr (λn hn=>if_neg (by omega)) g
def bf6(u:Nat->Value):Nat->List (Str×V)->List Ent
 |_,[]=>[]
 |k,c::r=>⟨0,c.1,.val c.2 (u k)⟩::bf6 u (k+1) r
theorem Rs{u:Nat->Value}:∀{L} {k},AllC mg u k L->AllE P w K mg base es bl (bf6 u k L)
 |[],_,_=>aM
 |_::_,_,h=>⟨λ_=>h.1,Rs h.2⟩
def bd2(K:ac):List Str->Prop
 |[]=>True
 |x::r=>bK K mainGlobals x=some none/\bd2 K r
theorem Xn{h:Heap}(X:K.In h)(G:h.Ns mainGlobals mg):∀{L},bd2 K L -> ∀x∈L,mg x=none
 |[],_,_,hx=>by cases hx
 | _::_,z,x,hx=>by
  rcases List.mem_cons.mp hx with rfl|hx
  .exact PySem.W.mg_none_of X G z.1
  .exact Xn X G z.2 x hx
structure Rr (K:ac) (x:Str) (c f:Addr):Prop where
 a:bK K mainGlobals x=some (some (.ref c))
 i:aU K (.ref c) "__init__"=some (some (.ref f))
 kp:be K (.ref c)=true
 mm:dN K c=true
 cl:Cls K c
def own_mk{x:Str}{c f:Addr}(a:bK K mainGlobals x=some (some (.ref c)))(i:aU K (.ref c) "__init__"=some (some (.ref f)))(k:be K (.ref c)=true)(m:dN K c=true)(pg:gJ K c dP=true)(hd:ii K c=true)(po:jD K c=true)(sa:aU K (.ref c) "__setattr__"=some (some (.builtin "object.__setattr__"))):Rr K x c f:=⟨a,i,k,m,⟨pg,hd,po,sa⟩⟩
structure J4 (K:ac) (D:Df) (f:Addr) (d:bb) (vs:List V) (us:List Value):Prop where
 F:∃dV,FunD K D.x D.q D.st f d dV
 b:∀j,j<=vs.length->Binds K d D.ps (us.drop j)
 w:Vals vs us
 i:cQ K (.ref f)=true
def ini0{D:Df}{f:Addr}{oc:Value}{od an:Option Addr}{osl:Array (Option Value)}{kV doc pm θ ct:Value}(b:W6 D)(l:K.lookup f=some ⟨oc,od,.func (cx D.x D.q (B7 D.st) (Ba D.st) (Ak D.st) .none kV doc pm an θ ct),osl⟩)(c:dF K θ D.q=true)(k:be K (.ref f)=true)(i:cQ K (.ref f)=true):∃d,J4 K D f d [] []:=
 ⟨_,⟨_,(P1 l c k).toD⟩,λj _=>by rw[List.drop_nil];exact(P1 l c k).binds b,.nil,i⟩
def a95(D:Df)(ds:List Value):Prop:=∀T kV doc pm an θ ct us,us.length+ds.length=D.ps.length -> ∃k,iT (cx D.x D.q (B7 D.st) (Ba D.st) (Ak D.st) (.ref T) kV doc pm an θ ct) ⟨us,[]⟩=seqItems? (.ref T) >>= k/\k (some #[.none])=pure (D.ps.zip (us++ds))
def ini1{D:Df}{f T:Addr}{oc tc:Value}{od an td:Option Addr}{osl ts:Array (Option Value)}{tn:Nat}{kV doc pm θ ct:Value}(b0:a95 D [])(b1:a95 D [.none])(hm:0<D.np/\D.np<=D.N.length)(l:K.lookup f=some ⟨oc,od,.func (cx D.x D.q (B7 D.st) (Ba D.st) (Ak D.st) (.ref T) kV doc pm an θ ct),osl⟩)(c:dF K θ D.q=true)(k:be K (.ref f)=true)(i:cQ K (.ref f)=true)(ld:K.lookup T=some ⟨tc,td,.seq #[.none] tn,ts⟩):∃d,J4 K D f d [.non] [.none]:=by
 have hl:D.ps.length=D.np:=by unfold Df.ps;rw[aN];omega
 refine⟨_,⟨_,a04 l c k⟩,λj hj=>?_,.cons rfl .nil,i⟩
 match j,hj with
 |0,_=>exact Jy (D.np-1) rfl ld rfl (by rw[hl,List.drop_zero,bS];omega) λus e=>b1 T _ _ _ _ _ _ us (by rw[hl,bS];omega)
 |1,_=>exact Jy D.np rfl ld rfl (by rw[hl];rfl) λus e=>b0 T _ _ _ _ _ _ us (by rw[hl];exact e)
def Uu{x:Str}{c:Addr}{D:Df}{f:Addr}{d:bb}{vs:List V}{us:List Value}{s:Sp}{h:Heap}(X:K.In h)(G:h.Ns mainGlobals mg)(o:Rr K x c f)(i:J4 K D f d vs us)(ok:OkD K D es bl f d s)(T:G7 P w K mg base es bl (D.lv+1)):ClsIn P w K mg base (D.lv+1) x c (some ⟨f,d,D.ps,D.lv,s,vs,us⟩):=
 let⟨_,F⟩:=i.F
 ⟨d9 X G o.a,o.kp,o.mm,o.i,i.i,⟨F.kp,⟨CX0,λX' _ _=>Hy X',ok _ _ _ _ _ F λm h=>T m (eU h)⟩,cW _,i.b,i.w⟩,ag _⟩
def al6(c:Addr)(f:Nat->Addr)(d:Nat->bb):Nat->List (Df×Sp)->List Ent
 |_,[]=>[]
 |k,p::r=>⟨p.1.lv,"", .met p.1.x [⟨c,Ct p.1 (f k) (d k) p.2⟩]⟩::al6 c f d (k+1) r
def OkM(K:ac)(D:Df)(es:List Ent)(bl:List Str)(f:Addr)(d:bb)(s:Sp):Prop:=∀P w mg base dV,FunD K D.x D.q D.st f d dV->G7 P w K mg base es bl D.lv -> ∃C,(∀X',X'.prog=P->X'.w=w->Jw C X')/\FnOk P w K mg base C D.lv f d D.ps s
def OkD.m{D:Df}{a:Addr}{e:bb}{s:Sp}(h:OkD K D es bl a e s):OkM K D es bl a e s:=λP w mg base dV F T=>⟨CX0,λX' _ _=>Hy X',h P w mg base dV F T⟩
def OkX.m{D:Df}{a:Addr}{e:bb}{s:Sp}(h:OkX K D es bl a e s):OkM K D es bl a e s:=λP w mg base dV F T=>⟨CXE P w,λX' e1 e2=>e1▸e2▸an8 X',h P w mg base dV F T⟩
def ad2(K:ac)(es:List Ent)(bl:List Str)(f:Nat->Addr)(d:Nat->bb):Nat->List (Df×Sp)->Prop
 |_,[]=>True
 |k,p::r=>OkM K p.1 es bl (f k) (d k) p.2/\ad2 K es bl f d (k+1) r
def P9{c a:Addr}{e:bb}{D:Df}{s:Sp}{n:Nat}(cl:Cls K c)(g:MOk K D.x D.q D.st a e D.ps/\M7 K c D.x a)(ok:OkM K D es bl a e s)(h:D.lv<=n)(T:G7 P w K mg base es bl n):MetIn P w K mg base n D.x ⟨c,Ct D a e s⟩:=⟨cl,g.2,g.1.F.kp,ok _ _ _ _ _ g.1.F λm q=>T m (aL q h),h,by6 rfl g.1.b,.nil⟩
theorem G8{c:Addr}(cl:Cls K c):∀{L} {k},AllM K c f d k (L.map (·.1))->ad2 K es bl f d k L->AllE P w K mg base es bl (al6 c f d k L)
 |[],_,_,_=>aM
 |_::_,_,g,o=>⟨λT=>one (P9 cl g.1 o.1 (ag _) T),G8 cl g.2 o.2⟩
def aw2{x:Str}{c:Addr}{n:Nat}{h:Heap}(X:K.In h)(G:h.Ns mainGlobals mg)(a:bK K mainGlobals x=some (some (.ref c))):GBIn P w K mg base n x (.val (.ref c) (.ref c)):=⟨d9 X G a,rfl⟩
def AllN(K:ac)(c:Addr):List Str->Prop
 |[]=>True
 |x::r=>aU K (.ref c) x=some none/\AllN K c r
theorem AllN.all{c:Addr}:∀{L},AllN K c L -> ∀x∈L,NoAttr K c x
 |[],_,_,hx=>by cases hx
 | _::_,z,x,hx=>by
  rcases List.mem_cons.mp hx with rfl|hx
  .exact z.1
  .exact AllN.all z.2 x hx
structure be2 (K:ac) (x:Str) (c f:Addr) (bm:List Value):Prop where
 a:bK K mainGlobals x=some (some (.ref c))
 i:aU K (.ref c) "__init__"=some (some (.ref f))
 kp:be K (.ref c)=true
 x:XC K c bm
def bg4{x:Str}{c:Addr}{bm:List Value}{D:Df}{f:Addr}{d:bb}{vs:List V}{us:List Value}{s:Sp}{h:Heap}(X:K.In h)(G:h.Ns mainGlobals mg)(o:be2 K x c f bm)(e:ECls K c)(i:J4 K D f d vs us)(ok:OkD K D es bl f d s)(T:G7 P w K mg base es bl (D.lv+1)):ExcIn P w K mg base (D.lv+1) x c (some ⟨f,d,D.ps,D.lv,s,vs,us⟩):=
 let⟨_,F⟩:=i.F
 ⟨d9 X G o.a,o.kp,e,o.i,i.i,F.kp,⟨CX0,λX' _ _=>Hy X',ok _ _ _ _ _ F λm h=>T m (eU h)⟩,ag _,i.b,i.w⟩
end
section
variable {P:List Value->Prop}
@[elab_as_elim] theorem len1 (h:∀a,P [a]):∀us,us.length=1->P us
 |[a],_=>h a
@[elab_as_elim] theorem len2 (h:∀a b,P [a,b]):∀us,us.length=2->P us
 |[a,b],_=>h a b
@[elab_as_elim] theorem len3 (h:∀a b c,P [a,b,c]):∀us,us.length=3->P us
 |[a,b,c],_=>h a b c
@[elab_as_elim] theorem a12 (h:∀a b c d,P [a,b,c,d]):∀us,us.length=4->P us
 |[a,b,c,d],_=>h a b c d
@[elab_as_elim] theorem a13 (h:∀a b c d e f,P [a,b,c,d,e,f]):∀us,us.length=6->P us
 |[a,b,c,d,e,f],_=>h a b c d e f
end
end L2
namespace K31
open PySem L2
def My:0<=sizeLine:=by decide
def cf3:1<=sizeLine:=by decide
def cf4:2<=sizeLine:=by decide
def cf5:3<=sizeLine:=by decide
def cf6:4<=sizeLine:=by decide
def cf7{a b:Nat}:a<=a/\b<=b:=⟨ag _,ag _⟩
set_option genInjectivity false in
set_option genSizeOfSpec false in
structure Adr where
 f:Nat->Addr
 d:Nat->bb
 u:Nat->Value
 f_zn:Addr
 d_zn:bb
 f_zak:Addr
 d_zak:bb
 f_zap:Addr
 d_zap:bb
 f_zag:Addr
 d_zag:bb
 c_zcd:Addr
 m_zcd:Nat->Addr
 e_zcd:Nat->bb
 c_zce:Addr
 m_zce:Nat->Addr
 e_zce:Nat->bb
 c_zcc:Addr
 m_zcc:Nat->Addr
 e_zcc:Nat->bb
 c_zby:Addr
 c_zbz:Addr
 c_zca:Addr
 c_zbx:Addr
 c_zcb:Addr
end K31
namespace K31
open PySem L2 Pn
@[elab_as_elim] theorem gn {P:Hp->Prop}{H:Hp}{a:Addr}{o:HO} (h:H a=none) (k:∀H',Same H H'->H' a=some o->P H'):P (upd H a o):=k _ (Same.upd h) Ac
@[elab_as_elim] theorem gf {P:Hp->Prop}{H:Hp}{a:Addr}{o:HO} (k:∀H',H' a=some o->(∀b u,b≠a->H b=some u->H' b=some u)->P H'):P (upd H a o):=k _ Ac λ_ _ n e=>by rw[Ad n];exact e
structure be6 (K:ac) (C:Addr):Prop where
 cl:Cls K C
 na:∀f∈(["settings","tuples","numbers","sets","kept_rules","bars","free"]:List Str),NoAttr K C f
def Lq(K:ac)(f:Addr):Bool:=match K.lookup f with
 | some ⟨_,_,.func fn,_⟩=>(match fn.code with
  |.ref c=>dW K c 294
  |_=>false)
 |_=>false
structure An (K:ac) (t:Adr):Prop where
 pf:be6 K t.c_zcc
 pc:Cls K t.c_zcd
 pr:NoAttr K t.c_zcd "records"
 bc:Cls K t.c_zce
 bp:NoAttr K t.c_zce "panel"
 bk:NoAttr K t.c_zce "kept"
 ec:ECls K t.c_zcb
 n1:NoAttr K t.c_zcb "part"
 n2:NoAttr K t.c_zcb "choice"
 en:ECls K t.c_zbz
 mp:cN K t.c_zcb (.ref t.c_zcb)=some true
 mc:cN K t.c_zbz (.ref t.c_zby)=some true
 k3:cD K (.ref t.c_zbz) (.ref t.c_zbz)=some true
 k5:cD K (.ref t.c_zbz) (.type "ValueError")=some true
 k6:cD K (.ref t.c_zbz) (.ref t.c_zca)=some false
 kp:cD K (.ref t.c_zcd) (.ref t.c_zcd)=some true
 p1:aU K (.ref t.c_zcd) "__class__"=some (some (.builtin "object.__class__"))
 p2:cI K (.builtin "object.__class__") "__get__"=some (some (.builtin "getset_descriptor.__get__"))
 p3:dO K (.builtin "object.__class__")=some true
 p4:cN K t.c_zcd (.type "object")=some true
 ks_place_key:cI K (.ref (t.m_zcd 13)) "__get__"=some (some (.builtin "function.__get__"))
 kt_place_key:dO K (.ref (t.m_zcd 13))=some false
 lam:Lq K (t.f 3)=true
def Bf(ns:List Int)(k:Nat):Int:=ns.getD k 0
def Bw(c k:Int):Int:=
 if c%2=0/\c/2^(27*k+1).toNat≠0/\c/2^(27*k+1).toNat ≠ -1 then cC (c/2^(27*k+1).toNat) 134217727
 else
  let n:=(c+7919*k)*48271%2147483647
  let m:=n*n%2147483629
  m*(m+3)%2147483587/32
def okB(sw rule:Sw):Prop:=(rule.map (·.1)).Nodup/\∀e∈rule,Jj sw e
abbrev nO(l:List Nat):HO:=.lst (l.map λn:Nat=>V.int (n:Int))
def Nc:List Nat->Nat->List Nat
 |[],_=>[]
 |s::r,n=>Nc r (n/s)++[n%s]
def R8(sw:Sw)(n:Nat):List Nat:=Nc (sw.map (·.2.length)).reverse n
def K5(sw:Sw)(ζ:List Sw)(n:Nat):Bool:=ζ.any λr=>(Gm sw r).testBit n
def Ap(sw:Sw)(ζ:List Sw):List Nat:=(aZ (Al sw).length).filter λn=>!K5 sw ζ n
def a92(sg:Str)(lo:Nat)(ws:List Str):Prop:=ws.Nodup/\∀z∈ws,1<=z.length/\z.length<=lo/\∀c∈z.cps.toList,c∈sg.cps.toList
structure Rc where
 k:Str
 p:Str
 r:Int
 c:TK
def rcT(x:Rc):TK:=.tup [.at_ (.inr x.k),.at_ (.inr x.p),.at_ (.inl x.r),x.c]
abbrev Tr:=List (Str×Rc)
def RcAt(H:Hp)(a:Addr)(x:Rc):Prop:=∃v,H a=some (.tup [.str x.k,.str x.p,.int x.r,v])/\TkAt H x.c v
def Up(T:Tr):Prop:=∃rk:Str->Nat,∀n x,T.lookup n=some x->n ≠ "" /\ (x.p="" \/ ((T.lookup x.p).isSome=true/\rk x.p<rk n))
def okC(x:TK):Prop:=Ax x<=2/\∀i,x≠.at_ (.inl i)
def okTr(T:Tr):Prop:=(T.map (·.1)).Nodup/\T.length<=8/\∀x∈T,okC x.2.c
abbrev kT(e:(Str×Rc)×Addr):Key×V:=(.inr e.1.1,.ref e.2)
def TrAt(ok:Addr->Prop)(H:Hp)(d:Addr)(T:Tr):Prop:=∃es:List ((Str×Rc)×Addr),es.map (·.1)=T/\Own ok H d (.dK (es.map kT))/\∀e∈es,RcAt H e.2 e.1.2
def PlAt(C:Addr)(ok:Addr->Prop)(H:Hp)(p:Addr)(T:Tr):Prop:=∃dx d,Own ok H p (.ins C dx [("records", .ref d)])/\TrAt ok H d T
def ab3(T:Tr)(n:Str):TK:=((T.lookup n).map rcT).getD (.tup [])
def vkT(T:Tr):TK:=.tup ((Ck ltS (T.map (·.1))).map λn=>.tup [.at_ (.inr n),ab3 T n])
structure WorldAt (H:Hp) (W:Addr) (sw:Sw) (ζ:List Sw) (l k f:Addr):Prop where
 at_:H W=some (.lst [.ref l,.ref k,.ref f])
 sws:SwIn any H l sw
 ok:okSw sw
 rl:RulesAt any H k ζ
 rok:∀r∈ζ,E1 sw r
 few:ζ.length<=8
 fr:H f=some (nO (Ap sw ζ))
 ne:Ap sw ζ≠[]
def stT(T:Tr)(n:Str):Option TK:=(T.lookup n).map rcT
def bu9(H:Hp):Option TK->V->Prop
 |none,v=>v=.non
 |some x,v=>(∃a,v=.ref a)/\TkAt H x v
def RwAt(C:Addr)(ok:Addr->Prop)(H:Hp)(l:Addr)(rs:List ((Nat×Tr)×Addr×Addr)):Prop:=Own ok H l (.lst (rs.map λr=>.ref r.2.2))/\∀r∈rs,H r.2.2=some (.tup [.int (r.1.1:Int),.ref r.2.1])/\PlAt C ok H r.2.1 r.1.2/\okTr r.1.2
abbrev Mk:=TK×Nat
noncomputable def L9(gs:List Mk)(p:Mk):List Mk:=if p.1∈gs.map (·.1) then gs.map λg=>if g.1=p.1 then(g.1,g.2 ||| p.2) else g else gs++[p]
noncomputable def Ef:List Mk->List Mk
 |[]=>[]
 |p::r=>L9 (Ef r) p
def LtM(a b:Nat):Prop:=∃i,a.testBit i=true/\∀j,j<=i->b.testBit j=false
structure Cn (ns:List Nat) (f:Nat->TK) (gs:List Mk):Prop where
 asc:gs.Pairwise λa b=>LtM a.2 b.2
 bit:∀g∈gs,∀j,g.2.testBit j=true↔j∈ns/\f j=g.1
 pos:∀g∈gs,∃j∈ns,f j=g.1
 cov:∀n∈ns,∃g∈gs,g.1=f n
def a96(C:Addr)(ok:Addr->Prop)(H:Hp)(D:Addr)(gs:List Mk):Prop:=∃rs,RwAt C ok H D rs/\(rs.map λr=>(vkT r.1.2,r.1.1))=gs
def P2(k:TK)(n:Str):Prop:=∃T,okTr T/\vkT T=k/\(stT T n).isSome=true
def ca6:Option Nat->V
 |none=>.non
 |some n=>.int (n:Int)
inductive Bel (T:Tr) (n:Str):Str->Prop
 |one {z:Str}{x:Rc} (h:T.lookup z=some x) (e:x.p=n):Bel T n z
 |more {z:Str}{x:Rc} (h:T.lookup z=some x) (b:Bel T n x.p):Bel T n z
def Ch(T:Tr)(p z:Str):Prop:=∃x,T.lookup z=some x/\x.p=p
def pT(T:Tr)(z:Str):Str:=((T.lookup z).map (·.p)).getD ""
def rkT(T:Tr)(z:Str):Int:=((T.lookup z).map (·.r)).getD 0
def Fs(T:Tr):List Str:=Ck (ltK (rkT T)) (T.map (·.1))
def chz(T:Tr)(zs:List Str)(p:Str):List Str:=zs.filter λz=>decide (pT T z=p)
def UnAt(H:Hp)(u:Addr)(T:Tr):Prop:=∃kvs,H u=some (.dK kvs)/\∀p,match Be kvs (.inr p) with
 |none=>chz T (Fs T) p=[]
 |some v=>∃l,v=.ref l/\H l=some (Bk (chz T (Fs T) p))
def b93(H:Hp)(D:Addr)(zs:List Str):Prop:=∃es:List ((Int×Str)×Addr),es.map (·.1.2)=zs/\H D=some (.lst (es.map λe=>.ref e.2))/\∀e∈es,H e.2=some (.tup [.int e.1.1,.str e.1.2])
def Gy(ns:List Nat):V->Option Nat
 |.int i=>if 0<=i/\i.toNat∈ns then some i.toNat else none
 |_=>none
def flV:V->Prop
 |.int _=>True
 |.bl _=>True
 |.non=>True
 |.str _=>True
 |_=>False
def PmAt(C:Addr)(H:Hp)(p:Addr)(sw:Sw):Prop:=∃l s,SelfAt C any H p l s/\TupsAt any H l (Al sw)
def BqAt(t:Adr)(ok:Addr->Prop)(H:Hp)(b p:Addr)(gs:List Mk):Prop:=∃dx l,H b=some (.ins t.c_zce dx [("panel", .ref p),("kept", .ref l)])/\a96 t.c_zcd ok H l gs
def TsAt(H:Hp)(l:Addr)(ds:List (Tr×Addr)):Prop:=H l=some (.lst (ds.map λe=>.ref e.2))/\∀e∈ds,TrAt any H e.2 e.1/\okTr e.1/\Up e.1
abbrev kW(v:Nat->Nat)(n:Nat):Key×V:=(.inl (n:Int),.int (v n:Int))
def FxAt(C:Addr)(H:Hp)(a:Addr)(fs:List (Str×V)):Prop:=∃dx,dx≠a/\H a=some (flO a C (some dx))/\H dx=some (xdO dx fs)
def Bad(C:Addr)(fs:List (Str×V))(H:Hp)(E:XK):Prop:=∀H' a,Same H H'->FxAt C H' a fs->E (.ref a) none H'
abbrev St0(H:Hp):Prop:=Start H 294 4
section
abbrev S_:=ac->Adr->Sp
def Ww:S_:=λK t vs H Q _=>∃a ns,vs=[.ref a]/\SqL K H a (ns.map λn:Nat=>V.int (n:Int))/\(∀n∈ns,n<=1000)/\Q (.int (ab7 ns)) H
def Mf:S_:=λK t vs H Q _=>∃a ms,vs=[.ref a]/\SqL K H a (ms.map V.int)/\Q (.int (G4 ms)) H
def We:S_:=λK t vs H Q _=>∃z lo hi,vs=[.str z,.int lo,.int hi]/\z.length<=1000/\Q (.bl (decide (lo<=(z.length:Int))&&decide ((z.length:Int)<=hi))) H
def Wj:S_:=λK t vs H Q _=>∃c,vs=[.str ⟨#[c]⟩]/\Q (.bl (Ku c)) H
def Q0:S_:=λK t vs H Q _=>∃z,vs=[.str z]/\okW z/\∀H',Same H H'->Q (.bl true) H'
def Yv:S_:=λK t vs H Q _=>∃a l,vs=[.ref a]/\SqL K H a (l.map V.str)/\okL l/\∀H',Same H H'->Q (.bl true) H'
def Wk:S_:=λK t vs H Q _=>∃a b w l,vs=[.ref a]/\H a=some (.tup [.str w,.ref b])/\H b=some (Bk l)/\okW w/\Gq l/\∀H',Same H H'->Q (.bl true) H'
def at8:S_:=λK t vs H Q _=>∃a sw,vs=[.ref a]/\SwIn any H a sw/\okSw sw/\∀H' d,Same H H'->SwAt (fresh H) H' d sw->Q (.ref d) H'
def as3:S_:=λK t vs H Q _=>∃d sw,vs=[.ref d]/\SwAt any H d sw/\okSw sw/\∀H' l,Same H H'->TupsAt (fresh H) H' l (Al sw)->Q (.ref l) H'
def ar9:S_:=λK t vs H Q _=>∃l rows,vs=[.ref l]/\TupsAt any H l rows/\rows.Nodup/\rows.length<=256/\∀H' n,Same H H'->NumAt (fresh H) H' n rows->Q (.ref n) H'
def as8:S_:=λK t vs H Q _=>∃d l sw,vs=[.ref d,.ref l]/\SwAt any H d sw/\TupsAt any H l (Al sw)/\okSw sw/\∀H' s,Same H H'->SetsAt (fresh H) H' s sw->Q (.ref s) H'
def au5:S_:=λK t vs H Q _=>∃r rule,vs=[.ref r]/\RuleAt any H r rule/\(rule.map (·.1)).Nodup/\rule.length<=100/\∀H' c,Same H H'->RuleAt (fresh H) H' c rule->Q (.ref c) H'
def Wa:S_:=λK t vs H Q _=>∃p l s sw,vs=[.ref p]/\SelfAt t.c_zcc any H p l s/\TupsAt any H l (Al sw)/\Q (.int (Al sw).length) H
def as4:S_:=λK t vs H Q _=>∃p l s sw,vs=[.ref p]/\SelfAt t.c_zcc any H p l s/\TupsAt any H l (Al sw)/\(Al sw).length<=256/\Q (.int (Rt sw)) H
def Wb:S_:=λK t vs H Q _=>∃p a l s w ss sw,vs=[.ref p,.str w,.ref a]/\SelfAt t.c_zcc any H p l s/\SetsAt any H s sw/\okSw sw/\H a=some (Bk ss)/\Jj sw (w,ss)/\∀H',Same H H'->Q (.int (J3 sw (w,ss))) H'
def as9:S_:=λK t vs H Q _=>∃p r l s sw rule,vs=[.ref p,.ref r]/\SelfAt t.c_zcc (· ≠ r) H p l s/\TupsAt (· ≠ r) H l (Al sw)/\SetsAt (· ≠ r) H s sw/\okSw sw/\RuleAt any H r rule/\E1 sw rule/\∀H' c,Same H H'->RuleAt (fresh H) H' c rule->Q (.ref c) H'
def Pg(ok:Addr->Prop)(H:Hp)(v:V)(ζ:List Sw):Prop:=(v=.non/\ζ=[]) \/ ∃k,v=.ref k/\RulesAt ok H k ζ
def as5:S_:=λK t vs H Q _=>∃p l s ok v sw ζ,vs=[.ref p,v]/\SelfAt t.c_zcc ok H p l s/\TupsAt ok H l (Al sw)/\SetsAt ok H s sw/\okSw sw /\
 Pg (λa=>¬ ok a) H v ζ/\(∀r∈ζ,E1 sw r)/\ζ.length<=8/\∀H' k,Same H H'->RulesAt (fresh H) H' k ζ->Q (.ref k) H'
def as0:S_:=λK t vs H Q _=>∃p a dx v sw ζ,vs=[.ref p,.ref a,v]/\H p=some (.ins t.c_zcc dx [])/\SwIn (· ≠ p) H a sw/\okSw sw/\Pg (· ≠ p) H v ζ/\(∀r∈ζ,E1 sw r)/\ζ.length<=8/\Gp sw ζ≠0 /\
 ∀H',(∀b o,b≠p->H b=some o->H' b=some o)->PanelAt t.c_zcc (λb=>b=p\/H b=none) H' p sw ζ->Q .non H'
def Wg:S_:=λK t vs H Q _=>∃p r l s sw rule,vs=[.ref p,.ref r]/\SelfAt t.c_zcc (· ≠ r) H p l s/\TupsAt (· ≠ r) H l (Al sw)/\SetsAt (· ≠ r) H s sw/\okSw sw/\RuleAt any H r rule/\okB sw rule/\∀H',Same H H'->Q (.int (ah2 sw rule)) H'
def at5:S_:=λK t vs H Q _=>∃p sw ζ,vs=[.ref p]/\PanelAt t.c_zcc any H p sw ζ/\Q (.int (Gp sw ζ)) H
def as1:S_:=λK t vs H Q _=>∃p dx,vs=[.ref p]/\H p=some (.ins t.c_zcd dx [])/\∀d,H d=none->d≠p->Q .non (upd (upd H d (.dK [])) p (.ins t.c_zcd dx [("records", .ref d)]))
def Wi:S_:=λK t vs H Q _=>∃p dx d kvs n k q r v,vs=[.ref p,.str n,.str k,.str q,.int r,v]/\H p=some (.ins t.c_zcd dx [("records", .ref d)])/\H d=some (.dK kvs)/\kvs.length<=8/\∀a,H a=none->Q .non (upd (upd H a (.tup [.str k,.str q,.int r,v])) d (.dK (Ce kvs (.inr n) (.ref a))))
def au3:S_:=λK t vs H Q _=>∃p T,vs=[.ref p]/\PlAt t.c_zcd any H p T/\okTr T/\∀l,H l=none->Q (.ref l) (upd H l (Bk (Ck ltS (T.map (·.1)))))
def at9:S_:=λK t vs H Q _=>∃p T,vs=[.ref p]/\PlAt t.c_zcd any H p T/\∀H' q,Same H H'->PlAt t.c_zcd (fresh H) H' q T->Q (.ref q) H'
def at3:S_:=λK t vs H Q _=>∃p T,vs=[.ref p]/\PlAt t.c_zcd any H p T/\okTr T/\∀H' b,Same H H'->TkAt H' (vkT T) (.ref b)->Q (.ref b) H'
def Q3:S_:=λK t vs H Q _=>∃c n:Nat,vs=[.int (c:Int),.int (n:Int)]/\Q (.bl (c.testBit n)) H
def bi1(c:Nat):Option Nat->Prop
 |some n=>c.testBit n=true/\∀j,j<n->c.testBit j=false
 |none=>c=0
def au1:S_:=λK t vs H Q _=>∃(c:Nat)(o:Option Nat),vs=[.int (c:Int)]/\bi1 c o/\c<2^1000/\Q (ca6 o) H
def Ws:S_:=λK t vs H Q _=>∃(b:Addr)(rs:List (Nat×V×Addr)),vs=[.ref b]/\St0 H/\H b=some (.lst (rs.map λr=>.ref r.2.2))/\rs.length<64/\(rs.Pairwise λa b=>∀j,¬ (a.1.testBit j=true/\b.1.testBit j=true))/\(∀r∈rs,H r.2.2=some (.tup [.int (r.1:Int),r.2.1])/\r.1≠0/\r.1<2^1000)/\∀H' D,∀rs':List (Nat×V×Addr),Dd 294 H H'->H D=none->rs'.Perm rs->(rs'.Pairwise λa b=>LtM a.1 b.1)->H' D=some (.lst (rs'.map λr=>.ref r.2.2))->Q (.ref D) H'
def Wl:S_:=λK t vs H Q _=>∃(A:Nat)(l:Addr)(rs:List ((Nat×Tr)×Addr×Addr))(ns:List Nat)(f:Nat->TK),vs=[.int (A:Int),.ref l]/\St0 H/\RwAt t.c_zcd any H l rs/\(∀r∈rs,∀j,r.1.1.testBit j=true->A.testBit j=true->j∈ns/\f j=vkT r.1.2)/\(∀j∈ns,j<256/\A.testBit j=true/\∃r∈rs,r.1.1.testBit j=true)/\(∃Ks:List TK,Ks.length<=5/\∀r∈rs,vkT r.1.2∈Ks)/\∀H' D gs,Dd 294 H H'->a96 t.c_zcd (fresh H) H' D gs->Cn ns f gs->gs.length<=5->Q (.ref D) H'
def as2:S_:=λK t vs H Q _=>∃b p dx sw ζ,vs=[.ref b,.ref p]/\H b=some (.ins t.c_zce dx [])/\PanelAt t.c_zcc (· ≠ b) H p sw ζ/\∀H',(∀a o,a≠b->H a=some o->H' a=some o)->BqAt t any H' b p [(vkT [],C1 sw ζ)]->Q .non H'
def Wr:S_:=λK t vs H Q _=>∃p l sw ζ rs ns f,vs=[.ref p,.ref l]/\St0 H/\PanelAt t.c_zcc (· ≠ 294) H p sw ζ/\RwAt t.c_zcd any H l rs/\(∀r∈rs,∀j,r.1.1.testBit j=true->(C1 sw ζ).testBit j=true->j∈ns/\f j=vkT r.1.2)/\(∀j∈ns,j<256/\(C1 sw ζ).testBit j=true/\∃r∈rs,r.1.1.testBit j=true)/\(∃Ks:List TK,Ks.length<=5/\∀r∈rs,vkT r.1.2∈Ks)/\∀H' b gs,Dd 294 H H'->BqAt t (fresh H) H' b p gs->Cn ns f gs->gs.length<=5->Q (.ref b) H'
def D7:S_:=λK t vs H Q _=>∃(a:Addr)(ns:List Int)(k:Nat),vs=[.ref a,.int k]/\SqL K H a (ns.map V.int)/\Q (.int (Bf ns k)) H
def Bo:S_:=λK t vs H Q _=>∃c k,vs=[.int c,.int k]/\0<=k/\Q (.int (Bw c k)) H
def Me:S_:=λK t vs H Q _=>∃(c:Int)(sg:Str)(lo m:Nat),vs=[.int c,.str sg,.int lo,.int m]/\1<=lo/\lo<=12/\m<=sg.length/\1<=sg.length/\sg.length<=100/\sg.cps.toList.Nodup/\∀H' l ws,Same H H'->H l=none->H' l=some (Bk ws)->ws.length=m->a92 sg lo ws->Q (.ref l) H'
def au0:S_:=λK t vs H Q _=>∃(c:Int)(m:Nat),vs=[.int c,.int m]/\4<=m/\m<=256/\∀H' l sw,Same H H'->SwIn any H' l sw->okSw sw->Q (.ref l) H'
def Jr:S_:=λK t vs H Q _=>∃l sw,vs=[.ref l]/\SwIn any H l sw/\okSw sw/\Q (.int (Al sw).length) H
def Wp:S_:=λK t vs H Q _=>∃c l sw,vs=[.int c,.ref l]/\SwIn any H l sw/\okSw sw/\∀H' k ζ,Same H H'->RulesAt any H' k ζ->(∀r∈ζ,E1 sw r)->ζ.length<=3->Q (.ref k) H'
def Qx:S_:=λK t vs H Q _=>∃(l:Addr)(n:Nat)(sw:Sw),vs=[.ref l,.int (n:Int)]/\SwIn any H l sw/\okSw sw/\∀H' r,Same H H'->H' r=some (nO (R8 sw n))->Q (.ref r) H'
def Wf:S_:=λK t vs H Q _=>∃(l k:Addr)(n:Nat)(sw:Sw)(ζ:List Sw),vs=[.ref l,.ref k,.int (n:Int)]/\SwIn any H l sw/\okSw sw/\RulesAt any H k ζ/\(∀r∈ζ,E1 sw r)/\n<(Al sw).length/\∀H',Same H H'->Q (.bl (K5 sw ζ n)) H'
def Wq:S_:=λK t vs H Q _=>∃(c:Int)(m:Nat),vs=[.int c,.int m]/\4<=m/\m<=256/\∀H' W sw ζ l k f,Same H H'->WorldAt H' W sw ζ l k f->Q (.ref W) H'
def Qz:S_:=λK t vs H Q _=>∃c,vs=[.int c]/\∀H' z,Same H H'->z.length<=60->Q (.str z) H'
def au6:S_:=λK t vs H Q _=>∃k c,vs=[.str k,.int c]/\∀H' x v,Same H H'->TkAt H' x v->okC x->Q v H'
def Wv:S_:=λK t vs H Q _=>∃(c:Int)(v:Nat)(l:Addr)(ws:List Str),vs=[.int c,.int (v:Int),.ref l]/\H l=some (Bk ws)/\ws.Nodup/\ws.length<=8/\(∀z∈ws,z ≠ "")/\∀H' d T,Same H H'->TrAt any H' d T->okTr T->Up T->Q (.ref d) H'
def Wn:S_:=λK t vs H Q _=>∃(c:Int)(m:Nat),vs=[.int c,.int m]/\m<=8/\∀H' l ws,Same H H'->H' l=some (Bk ws)->ws.length=m->ws.Nodup->(∀z∈ws,z.length<=12/\z ≠ "")->Q (.ref l) H'
def V6:S_:=λK t vs H Q _=>∃(c:Int)(l:Addr)(sw:Sw)(n m:Nat),vs=[.int c,.ref l,.int (n:Int),.int (m:Int)]/\SwIn any H l sw/\okSw sw/\1<=m/\∀H' v,Same H H'->v<m->Q (.int (v:Int)) H'
def Wo:S_:=λK t vs H Q _=>∃d T,vs=[.ref d]/\TrAt any H d T/\okTr T/\∀H' p,Same H H'->PlAt t.c_zcd (fresh H) H' p T->Q (.ref p) H'
def Wh:S_:=λK t vs H Q _=>∃p T n,vs=[.ref p,.str n]/\PlAt t.c_zcd any H p T/\okTr T/\Q (.bl (stT T n).isSome) H
def bc2:S_:=λK t vs H Q _=>∃H0 a x y,vs=[.ref a,x,y]/\H0 a=none/\H=upd H0 a (Fj a t.c_zcb none)/\∀H' dx,Same H0 H'->dx≠a->H' a=some (Fj a t.c_zcb (some dx))->H' dx=some (xdO dx [("part", x),("choice", y)])->Q .non H'
def au4:S_:=λK t vs H Q _=>∃p T n,vs=[.ref p,.str n]/\PlAt t.c_zcd any H p T/\okTr T/\(stT T n).isSome=true/\∀v,bu9 H (stT T n) v->Q v H
def NoN(t:Adr)(n:Str)(c:V)(H:Hp)(E:XK):Prop:=Bad t.c_zcb [("part", .str n),("choice", c)] H E
def NoC(t:Adr)(H:Hp)(E:XK):Prop:=∀H' a,Same H H'->H' a=some (flO a t.c_zbz none)->E (.ref a) none H'
def Wt:S_:=λK t vs H Q _=>∃v,vs=[v]/\flV v/\Q (.bl (match v with | .int _=>true|_=>false)) H
def as7:S_:=λK t vs H Q _=>∃p T n,vs=[.ref p,.str n]/\PlAt t.c_zcd any H p T/\okTr T/\(stT T n).isSome=true/\Q .non H
def at1:S_:=λK t vs H Q _=>∃p T n x,vs=[.ref p,.str n]/\PlAt t.c_zcd any H p T/\okTr T/\T.lookup n=some x/\Q (.str x.p) H
def at7:S_:=λK t vs H Q _=>∃p T n x,vs=[.ref p,.str n]/\PlAt t.c_zcd any H p T/\okTr T/\T.lookup n=some x/\Q (.int x.r) H
def at2:S_:=λK t vs H Q _=>∃p T n x,vs=[.ref p,.str n]/\PlAt t.c_zcd any H p T/\okTr T/\T.lookup n=some x/\∀q,H q=none->Q (.ref q) (upd H q (.tup [.int x.r,.str n]))
def as6:S_:=λK t vs H Q _=>∃p T,vs=[.ref p]/\PlAt t.c_zcd any H p T/\okTr T/\∀H' u,Same H H'->UnAt H' u T->Q (.ref u) H'
def Wd:S_:=λK t vs H Q _=>∃p T n,vs=[.ref p,.str n]/\PlAt t.c_zcd any H p T/\okTr T/\Up T/\n ≠ "" /\ ∀H' D zs,Same H H'->b93 H' D zs->zs.Nodup->(∀z,z∈zs↔Bel T n z)->zs.length<=8->Q (.ref D) H'
def at6:S_:=λK t vs H Q _=>∃p T n,vs=[.ref p,.str n]/\PlAt t.c_zcd any H p T/\okTr T/\Up T/\(stT T n).isSome=true/\∀H' D zs,Same H H'->H' D=some (Bk zs)->zs.Nodup->(∀z,z∈zs↔Bel T n z)->zs.length<=8->Q (.ref D) H'
def at4:S_:=λK t vs H _ E=>∃b n p gs,vs=[.ref b,.str n]/\BqAt t any H b p gs/\(∀g∈gs,¬ P2 g.1 n)/\NoN t n .non H E
def au2:S_:=λK t vs H Q E=>∃b v p sw gs ns f,vs=[.ref b,v]/\BqAt t any H b p gs/\PmAt t.c_zcc H p sw/\Cn ns f gs/\(∀n∈ns,n<(Al sw).length)/\flV v/\(∀n,Gy ns v=some n -> ∀a m q T,H a=some (.tup [m,.ref q])->PlAt t.c_zcd any H q T->okTr T->vkT T=f n->Q (.ref a) H)/\(Gy ns v=none->NoC t H E)
def Q4:S_:=λK t vs H Q _=>∃(a:Addr)(ns:List Int),vs=[.ref a]/\SqL K H a (ns.map V.int)/\ns.length<=63/\St0 H/\∀H',Q (.bl true) H'
def V7:S_:=λK t vs H Q _=>∃b p gs,vs=[.ref b]/\BqAt t any H b p gs/\gs.length<=5/\∀H' D zs,Same H H'->H D=none->H' D=some (Bk zs)->zs.Pairwise (λa b=>ltS a b=true)->(∀z,z∈zs ↔ ∃g∈gs,P2 g.1 z)->zs.length<=40->Q (.ref D) H'
def V8:S_:=λK t vs H Q E=>∃b v p sw gs ns f,vs=[.ref b,v]/\BqAt t any H b p gs/\PmAt t.c_zcc H p sw/\Cn ns f gs/\(∀n∈ns,n<(Al sw).length)/\flV v/\(∀n,Gy ns v=some n -> ∀H' q T,Same H H'->PlAt t.c_zcd (fresh H) H' q T->okTr T->vkT T=f n->Q (.ref q) H')/\(Gy ns v=none->NoC t H E)
def V9:S_:=λK t vs H _ E=>∃b n p gs,vs=[.ref b,.str n]/\BqAt t any H b p gs/\(∀g∈gs,¬ P2 g.1 n)/\NoN t n .non H E
def Wc:S_:=λK t vs H Q _=>∃p dx d T n,vs=[.ref p,.str n]/\H p=some (.ins t.c_zcd dx [("records", .ref d)])/\TrAt any H d T/\okTr T/\Up T/\(stT T n).isSome=true/\∀H' T',(∀a o,a≠d->H a=some o->H' a=some o)->TrAt any H' d T'->T'.Sublist T->Up T'->Q .non H'
def Mg:S_:=λK t vs H Q _=>∃p d T T',vs=[.ref p,.ref d]/\PlAt t.c_zcd (· ≠ d) H p T/\okTr T/\TrAt any H d T'/\okTr T'/\vkT T=vkT T'/\∀H',Same H H'->Q (.bl true) H'
def Wm:S_:=λK t vs H Q _=>∃b l d f p sw ζ gs ws,∃(kvs:List (Key×V))(zs:List Str),vs=[.ref b,.ref l,.ref d,.ref f]/\BqAt t any H b p gs/\gs.length<=5/\PanelAt t.c_zcc any H p sw ζ/\okSw sw/\H l=some (Bk ws)/\H d=some (.dK kvs)/\kvs.map (·.1)=zs.map (cK:Str->Key)/\zs.Nodup/\zs.length<=40/\(∀z,z∈zs ↔ ∃g∈gs,P2 g.1 z)/\H f=some (nO (Ap sw ζ))/\∀H',Same H H'->Q (.bl true) H'
def V4:S_:=λK t vs H Q _=>∃b n p gs,vs=[.ref b,.str n]/\BqAt t any H b p gs/\(∀g∈gs,¬ P2 g.1 n)/\∀H',Same H H'->Q (.bl true) H'
def Qy:S_:=λK t vs H Q _=>∃b tl w p sw gs,∃(ns:List Nat)(f:Nat->TK)(ds:List (Tr×Addr))(v:Nat->Nat),vs=[.ref b,.ref tl,.ref w]/\BqAt t any H b p gs/\PmAt t.c_zcc H p sw/\Cn ns f gs/\(∀n∈ns,n<(Al sw).length)/\TsAt H tl ds/\H w=some (.dK (ns.map (kW v)))/\ns.Nodup/\(∀n∈ns,∃e,ds[v n]?=some e/\f n=vkT e.1)/\∀H',Same H H'->Q (.bl true) H'
def V5:S_:=λK t vs H Q _=>∃b v p sw gs ns f,vs=[.ref b,v]/\BqAt t any H b p gs/\PmAt t.c_zcc H p sw/\Cn ns f gs/\(∀n∈ns,n<(Al sw).length)/\flV v/\Gy ns v=none/\∀H',Same H H'->Q (.bl true) H'
def Wu:S_:=λK t vs H Q _=>∃c W tl w sw ζ l k f,∃(ds:List (Tr×Addr))(v:Nat->Nat),vs=[.int c,.ref W,.ref tl,.ref w]/\WorldAt H W sw ζ l k f/\TsAt H tl ds/\1<=ds.length/\ds.length<=4/\H w=some (.dK ((Ap sw ζ).map (kW v)))/\(∀n∈Ap sw ζ,v n<ds.length)/\∀H' R rs,Same H H'->RwAt t.c_zcd (fresh H) H' R rs->(∀r∈rs,∃e∈ds,r.1.2=e.1)->(∀r∈rs,∀j∈Ap sw ζ,r.1.1.testBit j=true -> ∃e,ds[v j]?=some e/\r.1.2=e.1)->(∀j∈Ap sw ζ,∃r∈rs,r.1.1.testBit j=true)->rs.length<=8->Q (.ref R) H'
end
end K31
namespace K31
open PySem L2
noncomputable def top(i:Nat):Stmt:=PySem.Challenge.pw_manyleaf_k31_gathered_and_picked.main.body.getD i (.Pass ⟨0,0,0,0⟩)
def bl:List Str:=["ValueError","all","bool","dict","enumerate","int","isinstance","len","list","range","reversed","set","sorted","str","sum","tuple"]
abbrev Xf:Df:=⟨"has","Plain.has", Ar (top 10) 1,["self","name"],2,1⟩
abbrev ay5:Df:=⟨"names","Plain.names", Ar (top 10) 8,["self"],1,1⟩
abbrev D_zn:Df:=⟨"__init__","EditError.__init__", Ar (top 6) 0,["self","part","choice"],3,1⟩
abbrev ay6:Df:=⟨"state","Plain.state", Ar (top 10) 2,["self","name"],2,3⟩
abbrev ax5:Df:=⟨"need_place","Plain.need_place", Ar (top 10) 11,["self","name"],2,3⟩
abbrev ax7:Df:=⟨"parent_of","Plain.parent_of", Ar (top 10) 5,["self","name"],2,4⟩
abbrev ay2:Df:=⟨"rank_of","Plain.rank_of", Ar (top 10) 6,["self","name"],2,4⟩
abbrev Y2:Df:=⟨"place_key","Plain.place_key", Ar (top 10) 10,["self","name"],2,5⟩
abbrev ax4:Df:=⟨"all_unders","Plain.all_unders", Ar (top 10) 14,["self","unders","name"],1,8⟩
abbrev Xd:Df:=⟨"walk","Plain.walk", Ar (top 10) 13,["self","name","unders","found","waiting","line"],2,9⟩
abbrev ay1:Df:=⟨"beneath","Plain.beneath", Ar (top 10) 12,["self","name"],2,10⟩
abbrev ax9:Df:=⟨"rows_with","Book.rows_with", Ar (top 23) 2,["self","name","rows"],2,3⟩
abbrev Xc:Df:=⟨"drop","Plain.drop", Ar (top 10) 18,["self","name","below"],2,12⟩
abbrev D_zak:Df:=⟨"__init__","Plain.__init__", Ar (top 10) 0,["self"],1,1⟩
abbrev ay0:Df:=⟨"allowed","Panel.allowed", Ar (top 32) 10,["self"],1,1⟩
abbrev D_zap:Df:=⟨"__init__","Book.__init__", Ar (top 23) 0,["self","panel"],2,3⟩
abbrev W7:Df:=⟨"names","Book.names", Ar (top 23) 3,["self","names","choices","plain","name"],1,2⟩
abbrev ay3:Df:=⟨"copied","Plain.copied", Ar (top 10) 19,["self","twin"],1,3⟩
abbrev ag3:Df:=⟨"in_set","in_set", top 12,["choices","number"],2,1⟩
abbrev af5:Df:=⟨"is_whole","is_whole", top 18,["thing"],1,1⟩
abbrev Xa:Df:=⟨"many","Panel.many", Ar (top 32) 3,["self"],1,1⟩
abbrev ay4:Df:=⟨"row_of","Book.row_of", Ar (top 23) 8,["self","number","row"],2,2⟩
abbrev W8:Df:=⟨"plain","Book.plain", Ar (top 23) 7,["self","number"],2,4⟩
abbrev ax8:Df:=⟨"value_key","Plain.value_key", Ar (top 10) 21,["self"],1,3⟩
abbrev bd9:Df:=⟨"least_choice","least_choice", top 13,["choices","number"],1,2⟩
abbrev D_zbf:Df:=⟨"in_order","in_order", top 16,["pairs"],1,6⟩
abbrev ae5:Df:=⟨"kept_rows","kept_rows", top 25,["allowed","rows","sets","plains","choices","plain","key"],2,7⟩
abbrev af4:Df:=⟨"gathered","gathered", top 24,["panel","rows","book"],2,8⟩
abbrev ag0:Df:=⟨"union_of","union_of", top 15,["sets","choices","one"],1,1⟩
abbrev ax2:Df:=⟨"all_choices","Panel.all_choices", Ar (top 32) 9,["self"],1,2⟩
abbrev ae0:Df:=⟨"has_length","has_length", top 20,["thing","least","greatest"],3,1⟩
abbrev ae3:Df:=⟨"is_letter","is_letter", top 21,["sign"],1,1⟩
abbrev ag1:Df:=⟨"is_word","is_word", top 19,["thing"],1,2⟩
abbrev bd5:Df:=⟨"are_unlike_words","are_unlike_words", top 33,["things"],1,3⟩
abbrev Xb:Df:=⟨"term","Panel.term", Ar (top 32) 12,["self","word","settings"],3,4⟩
abbrev Xe:Df:=⟨"box","Panel.box", Ar (top 32) 11,["self","terms","choices","word"],2,5⟩
abbrev be0:Df:=⟨"copied_rule","copied_rule", top 39,["rule","copied","word"],1,1⟩
abbrev ax6:Df:=⟨"read_rule","Panel.read_rule", Ar (top 32) 2,["self","rule"],2,6⟩
abbrev ax3:Df:=⟨"read_rules","Panel.read_rules", Ar (top 32) 1,["self","rules"],2,7⟩
abbrev ae4:Df:=⟨"is_switch","is_switch", top 35,["switch"],1,4⟩
abbrev bd7:Df:=⟨"read_switches","read_switches", top 34,["switches","settings","many","switch"],1,5⟩
abbrev bd4:Df:=⟨"settings_of_choices","settings_of_choices", top 36,["settings","tuples","word","longer","ahead"],1,1⟩
abbrev bd3:Df:=⟨"numbers_by_settings","numbers_by_settings", top 37,["tuples","numbers","number","told"],1,1⟩
abbrev ag5:Df:=⟨"set_of","set_of", top 14,["numbers","choices","number"],1,1⟩
abbrev bd6:Df:=⟨"sets_of_settings","sets_of_settings", top 38,["settings","tuples","sets","place","word","setting","having"],2,2⟩
abbrev D_zag:Df:=⟨"__init__","Panel.__init__", Ar (top 32) 0,["self","switches","rules"],3,8⟩
abbrev af6:Df:=⟨"_law_cell","_law_cell", top 41,["_law_script","_law_k"],2,1⟩
abbrev af2:Df:=⟨"_law_total","_law_total", top 46,["_law_switches_here","_law_total_here","_law_word","_law_settings"],1,1⟩
abbrev ag2:Df:=⟨"_law_mix","_law_mix", top 42,["_law_cell_here","_law_k","_law_left","_law_number"],2,1⟩
abbrev af1:Df:=⟨"_law_spelt","_law_spelt", top 43,["_law_cell_here","_law_signs","_law_longest","_law_many","_law_word","_law_k","_law_long","_law_at","_law_words","_law_steps"],4,2⟩
abbrev bd8:Df:=⟨"_law_switches","_law_switches", top 44,["_law_cell_here","_law_most","_law_letters","_law_words","_law_switches_here","_law_total_here","_law_k","_law_size"],2,3⟩
abbrev af0:Df:=⟨"_law_rules","_law_rules", top 47,["_law_cell_here","_law_switches_here","_law_rules_here","_law_j","_law_rule","_law_k","_law_word","_law_settings","_law_bits","_law_some"],2,2⟩
abbrev ae2:Df:=⟨"_law_digits","_law_digits", top 45,["_law_switches_here","_law_number","_law_found","_law_word","_law_settings"],2,1⟩
abbrev ae1:Df:=⟨"_law_barred","_law_barred", top 48,["_law_switches_here","_law_rules_here","_law_number","_law_digits_here","_law_rule","_law_inside"],3,2⟩
abbrev af3:Df:=⟨"_law_world","_law_world", top 49,["_law_cell_here","_law_most","_law_switches_here","_law_rules_here","_law_free"],2,4⟩
abbrev af8:Df:=⟨"_law_text","_law_text", top 50,["_law_cell_here","_law_signs","_law_long"],1,2⟩
abbrev be1:Df:=⟨"_law_content","_law_content", top 51,["_law_kind","_law_cell_here","_law_wide","_law_rows_here","_law_row"],2,3⟩
abbrev af9:Df:=⟨"_law_tree","_law_tree", top 52,["_law_cell_here","_law_variant_here","_law_names_here","_law_tree_here","_law_k","_law_name","_law_number","_law_kind","_law_holders","_law_rank"],3,4⟩
abbrev ae7:Df:=⟨"_law_names","_law_names", top 53,["_law_cell_here","_law_many"],2,3⟩
abbrev ad9:Df:=⟨"_law_variant","_law_variant", top 54,["_law_cell_here","_law_switches_here","_law_number","_law_many"],4,2⟩
abbrev ag4:Df:=⟨"_law_is","_law_is", top 56,["_law_plain_here","_law_tree_here","_law_name","_law_found"],2,4⟩
abbrev ad8:Df:=⟨"_law_refused","_law_refused", top 57,["_law_book","_law_number","_law_told","e"],2,5⟩
abbrev W9:Df:=⟨"where","Book.where", Ar (top 23) 4,["self","name"],2,4⟩
abbrev ad7:Df:=⟨"_law_nowhere","_law_nowhere", top 58,["_law_book","_law_name","_law_told","e"],2,5⟩
abbrev ae6:Df:=⟨"_law_named","_law_named", top 59,["_law_book","_law_names_here","_law_known","_law_free","_law_told","_law_name"],4,6⟩
abbrev Xg:Df:=⟨"lay","Plain.lay", Ar (top 10) 17,["self","name","kind","parent","rank","content"],6,1⟩
abbrev ae8:Df:=⟨"_law_plain","_law_plain", top 55,["_law_tree_here","_law_plain_here","_law_name","_law_kind","_law_parent","_law_rank","_law_content_here"],1,3⟩
abbrev af7:Df:=⟨"_law_rows","_law_rows", top 60,["_law_cell_here","_law_world_here","_law_trees","_law_who","_law_switches_here","_law_rules_here","_law_free","_law_tree_here","_law_masks","_law_number","_law_side","_law_rows_here","_law_k","_law_mask","_law_at"],4,4⟩
abbrev ae9:Df:=⟨"_law_reads","_law_reads", top 61,["_law_book","_law_trees","_law_who","_law_number","_law_found","_law_name"],3,13⟩
abbrev D_zbr:Df:=⟨"law","law", top 62,["_law_script","_law_much","_law_world_here","_law_switches_here","_law_rules_here","_law_free","_law_names_here","_law_many","_law_trees","_law_who","_law_number","_law_panel","_law_rows_here","_law_book","_law_known","_law_choices","_law_plain_here","_law_name","_law_total_here","_law_others"],1,14⟩
section
variable (K:ac) (t:Adr)
abbrev bw6:FI:=Ct ax4 (t.m_zcd 0) (t.e_zcd 0) (as6 K t)
abbrev bx3:FI:=Ct ay1 (t.m_zcd 1) (t.e_zcd 1) (at6 K t)
abbrev bh0:FI:=Ct ay3 (t.m_zcd 2) (t.e_zcd 2) (at9 K t)
abbrev ba5:FI:=Ct Xc (t.m_zcd 3) (t.e_zcd 3) (Wc K t)
abbrev ak2:FI:=Ct Xf (t.m_zcd 4) (t.e_zcd 4) (Wh K t)
abbrev ba7:FI:=Ct Xg (t.m_zcd 5) (t.e_zcd 5) (Wi K t)
abbrev Zq:FI:=Ct ay5 (t.m_zcd 6) (t.e_zcd 6) (au3 K t)
abbrev bw7:FI:=Ct ax5 (t.m_zcd 7) (t.e_zcd 7) (as7 K t)
abbrev bw9:FI:=Ct ax7 (t.m_zcd 8) (t.e_zcd 8) (at1 K t)
abbrev bx4:FI:=Ct ay2 (t.m_zcd 9) (t.e_zcd 9) (at7 K t)
abbrev ak3:FI:=Ct ay6 (t.m_zcd 10) (t.e_zcd 10) (au4 K t)
abbrev bx1:FI:=Ct ax8 (t.m_zcd 11) (t.e_zcd 11) (at3 K t)
abbrev ba6:FI:=Ct Xd (t.m_zcd 12) (t.e_zcd 12) (Wd K t)
abbrev bx0:FI:=Ct Y2 (t.m_zcd 13) (t.e_zcd 13) (at2 K t)
abbrev X5:FI:=Ct W7 (t.m_zce 0) (t.e_zce 0) (V7 K t)
abbrev Sr:FI:=Ct W8 (t.m_zce 1) (t.e_zce 1) (V8 K t)
abbrev bx5:FI:=Ct ay4 (t.m_zce 2) (t.e_zce 2) (au2 K t)
abbrev bx2:FI:=Ct ax9 (t.m_zce 3) (t.e_zce 3) (at4 K t)
abbrev ba3:FI:=Ct W9 (t.m_zce 4) (t.e_zce 4) (V9 K t)
abbrev bg9:FI:=Ct ax2 (t.m_zcc 0) (t.e_zcc 0) (as4 K t)
abbrev a06:FI:=Ct ay0 (t.m_zcc 1) (t.e_zcc 1) (at5 K t)
abbrev ak1:FI:=Ct Xe (t.m_zcc 2) (t.e_zcc 2) (Wg K t)
abbrev ak0:FI:=Ct Xa (t.m_zcc 3) (t.e_zcc 3) (Wa K t)
abbrev bw8:FI:=Ct ax6 (t.m_zcc 4) (t.e_zcc 4) (as9 K t)
abbrev bw5:FI:=Ct ax3 (t.m_zcc 5) (t.e_zcc 5) (as5 K t)
abbrev ba4:FI:=Ct Xb (t.m_zcc 6) (t.e_zcc 6) (Wb K t)
def i_zn:FI:=⟨t.f_zn,t.d_zn,D_zn.ps,1,bc2 K t,[.non],[.none]⟩
def i_zak:FI:=⟨t.f_zak,t.d_zak,D_zak.ps,1,as1 K t,[],[]⟩
def i_zap:FI:=⟨t.f_zap,t.d_zap,D_zap.ps,3,as2 K t,[],[]⟩
def i_zag:FI:=⟨t.f_zag,t.d_zag,D_zag.ps,8,as0 K t,[.non],[.none]⟩
def Fr:List MI:=[⟨t.c_zcc,bg9 K t⟩]
def Ng:List MI:=[⟨t.c_zcd,bw6 K t⟩]
def Gx:List MI:=[⟨t.c_zcc,a06 K t⟩]
def Vi:List MI:=[⟨t.c_zcd,bx3 K t⟩]
def am2:List MI:=[⟨t.c_zcc,ak1 K t⟩]
def Ox:List MI:=[⟨t.c_zcd,bh0 K t⟩]
def Qa:List MI:=[⟨t.c_zcd,ba5 K t⟩]
def Qb:List MI:=[⟨t.c_zcd,ak2 K t⟩]
def bi5:List MI:=[⟨t.c_zcd,ba7 K t⟩]
def Yb:List MI:=[⟨t.c_zcc,ak0 K t⟩]
def Cl:List MI:=[⟨t.c_zcd,Zq K t⟩,⟨t.c_zce,X5 K t⟩]
def Nh:List MI:=[⟨t.c_zcd,bw7 K t⟩]
def Qc:List MI:=[⟨t.c_zcd,bw9 K t⟩]
def Hw:List MI:=[⟨t.c_zce,Sr K t⟩]
def Vj:List MI:=[⟨t.c_zcd,bx4 K t⟩]
def Qd:List MI:=[⟨t.c_zcc,bw8 K t⟩]
def Ni:List MI:=[⟨t.c_zcc,bw5 K t⟩]
def Z8:List MI:=[⟨t.c_zce,bx5 K t⟩]
def Qe:List MI:=[⟨t.c_zce,bx2 K t⟩]
def Hx:List MI:=[⟨t.c_zcd,ak3 K t⟩]
def a23:List MI:=[⟨t.c_zcc,ba4 K t⟩]
def Qf:List MI:=[⟨t.c_zcd,bx1 K t⟩]
def a24:List MI:=[⟨t.c_zcd,ba6 K t⟩]
def am6:List MI:=[⟨t.c_zce,ba3 K t⟩]
def Hv:List MI:=[⟨t.c_zcd,bx0 K t⟩]
def Z5:List MI:=[⟨t.c_zcd,Zq K t⟩]
def cons:List (Str×V):=[("__builtins__", .ref 4),("TOP", (.str "")),("MOST_SWITCHES", (.int 5)),("LEAST_SETTINGS", (.int 2)),("MOST_SETTINGS", (.int 4)),("MOST_CHOICES", (.int 256)),("MOST_RULES", (.int 8))]
def fns:List (Df×Sp):=[(ag3,Q3 K t),(af5,Wt K t),(bd9,au1 K t),(D_zbf,Ws K t),(ae5,Wl K t),(af4,Wr K t),(ag0,Mf K t),(ae0,We K t),(ae3,Wj K t),(ag1,Q0 K t),(bd5,Yv K t),(be0,au5 K t),(ae4,Wk K t),(bd7,at8 K t),(bd4,as3 K t),(bd3,ar9 K t),(ag5,Ww K t),(bd6,as8 K t),(af6,D7 K t),(af2,Jr K t),(ag2,Bo K t),(af1,Me K t),(bd8,au0 K t),(af0,Wp K t),(ae2,Qx K t),(ae1,Wf K t),(af3,Wq K t),(af8,Qz K t),(be1,au6 K t),(af9,Wv K t),(ae7,Wn K t),(ad9,V6 K t),(ag4,Mg K t),(ad8,V5 K t),(ad7,V4 K t),(ae6,Wm K t),(ae8,Wo K t),(af7,Wu K t),(ae9,Qy K t)]
def bi3:List (Df×Sp):=[(ax4,as6 K t),(ay1,at6 K t),(ay3,at9 K t),(Xc,Wc K t),(Xf,Wh K t),(Xg,Wi K t),(ay5,au3 K t),(ax5,as7 K t),(ax7,at1 K t),(ay2,at7 K t),(ay6,au4 K t),(ax8,at3 K t),(Xd,Wd K t),(Y2,at2 K t)]
def bi4:List (Df×Sp):=[(W7,V7 K t),(W8,V8 K t),(ay4,au2 K t),(ax9,at4 K t),(W9,V9 K t)]
def bi2:List (Df×Sp):=[(ax2,as4 K t),(ay0,at5 K t),(Xe,Wg K t),(Xa,Wa K t),(ax6,as9 K t),(ax3,as5 K t),(Xb,Wb K t)]
def Av:List Ent:=[⟨2,"Plain", .cls t.c_zcd (some (i_zak K t))⟩,⟨4,"Book", .cls t.c_zce (some (i_zap K t))⟩,⟨9,"Panel", .cls t.c_zcc (some (i_zag K t))⟩,⟨0,"LeafError", .exc t.c_zby none⟩,⟨0,"NoChoice", .exc t.c_zbz none⟩,⟨0,"BadCond", .val (.ref t.c_zca) (.ref t.c_zca)⟩,⟨0,"EditError", .val (.ref t.c_zbx) (.ref t.c_zbx)⟩,⟨2,"NoPart", .exc t.c_zcb (some (i_zn K t))⟩,⟨2,"", .met "names" (Cl K t)⟩,⟨7,"", .key "place_key" (Hv K t)⟩]++(bf6 t.u 0 cons++(al6 t.c_zcd t.m_zcd t.e_zcd 0 (bi3 K t)++(al6 t.c_zce t.m_zce t.e_zce 0 (bi4 K t)++(al6 t.c_zcc t.m_zcc t.e_zcc 0 (bi2 K t)++(fnE t.f t.d 0 (fns K t))))))
end
abbrev v0_:DE:=Aa 0
abbrev v1_:DE:=Aa 1
abbrev v2_:DE:=Aa 2
abbrev v3_:DE:=Aa 3
abbrev v4_:DE:=Aa 4
abbrev v5_:DE:=Aa 5
abbrev v6_:DE:=Aa 6
abbrev v7_:DE:=Aa 7
abbrev v8_:DE:=Aa 8
abbrev v9_:DE:=Aa 9
abbrev v10_:DE:=Aa 10
abbrev v11_:DE:=Aa 11
abbrev v12_:DE:=Aa 12
abbrev v13_:DE:=Aa 13
abbrev n_(i:Int):DE:=dC (.int i)
abbrev o_(a:DE):DA:=Ab a Ag
abbrev p_(a b:DE):DA:=Ab a (o_ b)
abbrev q_(a b c:DE):DA:=Ab a (p_ b c)
abbrev r_(s:Sp)(a:DA):DE:=dFn (spE s []) a
abbrev s_(r:RF)(a:DA):DE:=dFn (λvs H Q _=>r vs H Q) a
abbrev R_:=ac->Adr->DS
noncomputable def b60:R_:=λK t=>Ae (Aq (Ah (J7 K false) v1_ (dUn (Bm K "records") v0_))) Af
noncomputable def ce7:R_:=λK t=>Ae (Aq (s_ (Jq K true) (o_ (dUn (Bm K "records") v0_)))) Af
noncomputable def cd8:R_:=λK t=>Ae (Gn K "part" v0_ v1_) (Ae (Gn K "choice" v0_ v2_) Af)
noncomputable def ce8:R_:=λK t=>Ae (dIf (Bl (Ah (J7 K true) v1_ (dUn (Bm K "records") v0_))) (Ae (Cb K (dFn (λvs H Q E=>vs.length<=1000/\mkX t.c_zcb (some (i_zn K t)) 0 vs H Q E) (o_ v1_))) Af) Af) (Ae (Aq (Ah (A7 K) (dUn (Bm K "records") v0_) v1_)) Af)
noncomputable def cd0:R_:=λK t=>Ae (dIf (Nb (Bl (Ah (Ca K true) v1_ (dC (.str "")))) (Bl (Ah (J7 K true) v1_ (dUn (Bm K "records") v0_)))) (Ae (Cb K (dFn (λvs H Q E=>vs.length<=1000/\mkX t.c_zcb (some (i_zn K t)) 0 vs H Q E) (o_ v1_))) Af) Af) Af
noncomputable def cd4:R_:=λK t=>Ae (Aq (Ah (A7 K) (Bi "state" 1 (Hx K t) v0_ (o_ v1_)) (n_ 1))) Af
noncomputable def ce1:R_:=λK t=>Ae (Aq (Ah (A7 K) (Bi "state" 1 (Hx K t) v0_ (o_ v1_)) (n_ 2))) Af
noncomputable def cd5:R_:=λK t=>Ae (Aq (Eh (p_ (Bi "rank_of" 1 (Vj K t) v0_ (o_ v1_)) v1_))) Af
noncomputable def Fx:R_:=λK t=>Ae (B1 (dMt (rMt K [⟨"list","list.append", Dn⟩]) (dMt (rMt K [⟨"dict","dict.setdefault", Ts⟩]) v1_ (p_ (Bi "parent_of" 1 (Qc K t) v0_ (o_ v2_)) (Cf Ag))) (o_ v2_))) Af
noncomputable def cc9:R_:=λK t=>Ae (Ao 1 Cz) (Ae (Bu (Bg K (ai2 K "place_key" (Hv K t) (dUn (Bm K "records") v0_) v0_)) (gdN 2) (Fx K t)) (Ae (Aq v1_) Af))
noncomputable def Mr:R_:=λK t=>Ae (B1 (dMt (rMt K [⟨"list","list.extend", Kz⟩]) v4_ (o_ (Bj [none,some 5] (aj9 K (dMt (rMt K [⟨"dict","dict.get", Ma⟩]) v2_ (p_ (Ah (A7 K) v5_ (n_ 1)) (Cf Ag)))) (gdN 0) Cc (Eh (p_ (Ah (A8 K) (Ah (A7 K) v1_ (n_ 0)) (n_ 1)) v0_)))))) Af
noncomputable def Ms:R_:=λK t=>Ae (Uw (Bl (Ah (Ca K true) v4_ (Cf Ag))) (Ae (Ao 5 (dMt (rMt K [⟨"list","list.pop", aq7⟩,⟨"dict","dict.pop", Yk⟩]) v4_ Ag)) (Ae (B1 (dMt (rMt K [⟨"list","list.append", Dn⟩]) v3_ (o_ v5_))) (Mr K t)))) (Ae (Aq v3_) Af)
noncomputable def Mt:R_:=λK t=>Ae (Ao 4 (Bj [none] (aj9 K (dMt (rMt K [⟨"dict","dict.get", Ma⟩]) v2_ (p_ v1_ (Cf Ag)))) (gdN 0) Cc (Eh (p_ (n_ 1) v0_)))) (Ms K t)
noncomputable def b54:R_:=λK t=>Ae (Ao 2 (Bi "all_unders" 0 (Ng K t) v0_ Ag)) (Ae (Ao 3 (Cf Ag)) (Mt K t))
noncomputable def ce0:R_:=λK t=>Ae (B1 (Bi "need_place" 1 (Nh K t) v0_ (o_ v1_))) (Ae (Aq (Bj [none,none] (Bg K (Bi "walk" 1 (a24 K t) v0_ (o_ v1_))) (gdT K 2 [gdN 0,gdN 1]) Cc v1_)) Af)
noncomputable def G3:R_:=λK t=>Ae (dIf (Bl (Ah (Ca K false) v2_ (Cf Ag))) (Ae (Cb K (dFn (λvs H Q E=>vs.length<=1000/\mkX t.c_zcb (some (i_zn K t)) 1 vs H Q E) (p_ v1_ (dC .non)))) Af) Af) (Ae (Aq v2_) Af)
noncomputable def cd7:R_:=λK t=>Ae (Ao 2 (Bj [none,none,some 1] (Bg K (dUn (Bm K "kept") v0_)) (gdT K 2 [gdN 0,gdN 1]) (B9 K (Bi "has" 1 (Qb K t) v1_ (o_ v2_))) (Eh (p_ v0_ v1_)))) (G3 K t)
noncomputable def Mq:R_:=λK t=>Ae (Bu (Bg K (Ah (A8 K) (Cf (o_ v1_)) (Bi "beneath" 1 (Vi K t) v0_ (o_ v1_)))) (gdN 2) (Ae (B1 (dMt (rMt K [⟨"list","list.pop", aq7⟩,⟨"dict","dict.pop", Yk⟩]) (dUn (Bm K "records") v0_) (o_ v2_))) Af)) Af
noncomputable def b52:R_:=λK t=>Ae (B1 (Bi "state" 1 (Hx K t) v0_ (o_ v1_))) (Mq K t)
noncomputable def b53:R_:=λK t=>Ae (Gn K "records" v0_ Cz) Af
noncomputable def cd9:R_:=λK t=>Ae (Aq (dUn (Bm K "free") v0_)) Af
noncomputable def b58:R_:=λK t=>Ae (Gn K "panel" v0_ v1_) (Ae (Gn K "kept" v0_ (Cf (o_ (Eh (p_ (Bi "allowed" 0 (Gx K t) v1_ Ag) (dFn (mkC t.c_zcd (some (i_zak K t)) 0) Ag)))))) Af)
noncomputable def Mh:R_:=λK t=>Ae (Bu (Bg K (dUn (Bm K "kept") v0_)) (gdT K 2 [gdN 2,gdN 3]) (Ae (Bu (Bg K (Bi "names" 0 (Z5 K t) v3_ Ag)) (gdN 4) (Ae (Ew (dC (.bl true)) (Da K v1_ v4_)) Af)) Af)) (Ae (Aq (s_ (Jq K true) (o_ v1_))) Af)
noncomputable def b46:R_:=λK t=>Ae (Ao 1 Cz) (Mh K t)
noncomputable def ce3:R_:=λK t=>Ae (Ao 1 (dFn (mkC t.c_zcd (some (i_zak K t)) 0) Ag)) (Ae (Gn K "records" v1_ (s_ Qp (o_ (dUn (Bm K "records") v0_)))) (Ae (Aq v1_) Af))
noncomputable def b82:R_:=λK t=>Ae (Aq (Ah (Ca K false) (Ah J1 (Ah Ym v0_ v1_) (n_ 1)) (n_ 1))) Af
noncomputable def b74:R_:=λK t=>Ae (Aq (Hh K (s_ (Ep K) (p_ v0_ (dC (.ty "int")))) (Xz K (s_ (Ep K) (p_ v0_ (dC (.ty "bool"))))))) Af
noncomputable def b50:R_:=λK t=>Ae (Aq (s_ (Do K) (o_ (dUn (Bm K "tuples") v0_)))) Af
noncomputable def J8:R_:=λK t=>Ae (Bu (Bg K (dUn (Bm K "kept") v0_)) (gdN 2) (Ae (dIf (B9 K (r_ (Q3 K t) (p_ (Ah (A7 K) v2_ (n_ 0)) v1_))) (Ae (Aq v2_) Af) Af) Af)) Af
noncomputable def ce6:R_:=λK t=>Ae (dIf (Nb (B9 K (r_ (Wt K t) (o_ v1_))) (Bl (Dw Hz bs8 (n_ 0) v1_ (Bi "many" 0 (Yb K t) (dUn (Bm K "panel") v0_) Ag)))) (J8 K t) Af) (Ae (Cb K (dFn (λvs H Q E=>vs.length<=1000/\mkX t.c_zbz none 0 vs H Q E) (o_ (dC (.str "this is no number of an allowed choice"))))) Af)
noncomputable def b47:R_:=λK t=>Ae (Aq (Bi "copied" 0 (Ox K t) (Ah (A7 K) (Bi "row_of" 1 (Z8 K t) v0_ (o_ v1_)) (n_ 1)) Ag)) Af
noncomputable def cd6:R_:=λK t=>Ae (Aq (s_ (G0 K) (o_ (Bj [none,some 0] (Bg K (Bi "names" 0 (Cl K t) v0_ Ag)) (gdN 0) Cc (Eh (p_ v0_ (Ah (A7 K) (dUn (Bm K "records") v1_) v0_))))))) Af
noncomputable def ce5:R_:=λK t=>Ae (Bu (Go (o_ (dMt (rMt K [⟨"int","int.bit_length", bb7⟩]) v0_ Ag))) (gdN 1) (Ae (dIf (B9 K (r_ (Q3 K t) (p_ v0_ v1_))) (Ae (Aq v1_) Af) Af) Af)) (Ae (Aq (dC .non)) Af)
noncomputable def b73(K:ac)(t:Adr):DE:=
 (dFn (spE (au1 K t) []) (Ab (Ah (A7 K) (Aa 0) (dC (.int 0))) Ag))
noncomputable def Nm:R_:=λK t=>Ae (Ew (Ah a62 (dMt (rMt K [⟨"dict","dict.get", Ma⟩]) v2_ (p_ v6_ (n_ 0))) (Ah J1 v4_ v0_)) (Da K v2_ v6_)) (Ae (Ew v5_ (Da K v3_ v6_)) Af)
noncomputable def Nn:R_:=λK t=>Ae (Aq (r_ (Ws K t) (o_ (Bj [none,some 3,some 2] (Bg K v2_) (gdN 0) Cc (Eh (p_ (Ah (A7 K) v2_ v0_) (Bi "copied" 0 (Ox K t) (Ah (A7 K) v1_ v0_) Ag))))))) Af
noncomputable def No:R_:=λK t=>Ae (Bu (Bg K v1_) (gdT K 2 [gdN 4,gdN 5]) (Ae (dIf (Bl (Ah (Ca K true) (Ah J1 v4_ v0_) (n_ 0))) (Ae (Ao 6 (Bi "value_key" 0 (Qf K t) v5_ Ag)) (Nm K t)) Af) Af)) (Nn K t)
noncomputable def b63:R_:=λK t=>Ae (Ao 2 Cz) (Ae (Ao 3 Cz) (No K t))
noncomputable def b72:R_:=λK t=>Ae (Ao 2 (dFn (mkC t.c_zce (some (i_zap K t)) 0) (o_ v0_))) (Ae (Gn K "kept" v2_ (r_ (Wl K t) (p_ (Bi "allowed" 0 (Gx K t) v0_ Ag) v1_))) (Ae (Aq v2_) Af))
noncomputable def b79:R_:=λK t=>Ae (Ao 1 (n_ 0)) (Ae (Bu (Bg K v0_) (gdN 2) (Ae (Ao 1 (Ah a62 v1_ v2_)) Af)) (Ae (Aq v1_) Af))
noncomputable def cc7:R_:=λK t=>Ae (Aq (Ah ar2 (Ah Pa (n_ 1) (Bi "many" 0 (Yb K t) v0_ Ag)) (n_ 1))) Af
noncomputable def b55:R_:=λK t=>Ae (Aq (Hh K (s_ (Ep K) (p_ v0_ (dC (.ty "str")))) (Dw Hz Hz v1_ (s_ (Do K) (o_ v0_)) v2_))) Af
noncomputable def bc5:R_:=λK t=>Ae (Aq (Dw Hz Hz (dC (.str "a")) v0_ (dC (.str "z")))) Af
noncomputable def b80:R_:=λK t=>Ae (Aq (Hh K (r_ (We K t) (q_ v0_ (n_ 1) (n_ 8))) (s_ (To K) (o_ (Bj [none] (Bg K v0_) (gdN 0) Cc (r_ (Wj K t) (o_ v0_))))))) Af
noncomputable def cd1:R_:=λK t=>Ae (dIf (dOr (C5 (B9 K (s_ (Ep K) (p_ v0_ (dC (.ty "list")))))) (C5 (B9 K (s_ (To K) (o_ (Bj [none] (Bg K v0_) (gdN 0) Cc (r_ (Q0 K t) (o_ v0_)))))))) (Ae (Aq (dC (.bl false))) Af) Af) (Ae (Aq (Ah (Ca K false) (dUn (K0 K) v0_) (s_ (Do K) (o_ v0_)))) Af)
noncomputable def Mn:R_:=λK t=>Ae (Aq (r_ (Mf K t) (o_ (Bj [none,some 0,some 1] (Bg K v2_) (gdN 0) Cc (Ah (A7 K) (Ah (A7 K) (dUn (Bm K "sets") v1_) v2_) v0_))))) Af
noncomputable def Mo:R_:=λK t=>Ae (dIf (C5 (B9 K (s_ (To K) (o_ (Bj [none,some 0,some 1] (Bg K v2_) (gdN 0) Cc (Ah (J7 K false) v0_ (Ah (A7 K) (dUn (Bm K "sets") v1_) v2_))))))) (Ae (Cb K dNo) Af) Af) (Mn K t)
noncomputable def Mp:R_:=λK t=>Ae (dIf (dOr (C5 (B9 K (r_ (Yv K t) (o_ v2_)))) (Bl (Ah (Ca K false) v2_ (Cf Ag)))) (Ae (Cb K dNo) Af) Af) (Mo K t)
noncomputable def b51:R_:=λK t=>Ae (dIf (dOr (C5 (B9 K (s_ (Ep K) (p_ v1_ (dC (.ty "str")))))) (Bl (Ah (J7 K true) v1_ (dUn (Bm K "sets") v0_)))) (Ae (Cb K dNo) Af) Af) (Mp K t)
noncomputable def Nk:R_:=λK t=>Ae (Bu (Bg K v1_) (gdN 3) (Ae (Ao 2 (Ah J1 v2_ (Bi "term" 2 (a23 K t) v0_ (p_ v3_ (Ah (A7 K) v1_ v3_))))) Af)) (Ae (Aq v2_) Af)
noncomputable def b59:R_:=λK t=>Ae (dIf (C5 (B9 K (s_ (Ep K) (p_ v1_ (dC (.ty "dict")))))) (Ae (Cb K dNo) Af) Af) (Ae (Ao 2 (Bi "all_choices" 0 (Fr K t) v0_ Ag)) (Nk K t))
noncomputable def J9:R_:=λK t=>Ae (Bu (Bg K v0_) (gdN 2) (Ae (Ew (s_ (Qr K true) (o_ (Ah (A7 K) v0_ v2_))) (Da K v1_ v2_)) Af)) (Ae (Aq v1_) Af)
noncomputable def ce9:R_:=λK t=>Ae (Ao 1 Cz) (J9 K t)
noncomputable def cd3:R_:=λK t=>Ae (dIf (dOr (C5 (B9 K (s_ (Ep K) (p_ v1_ (dC (.ty "dict")))))) (Bl (Ah (Ca K false) (s_ (Do K) (o_ v1_)) (n_ 0)))) (Ae (Cb K dNo) Af) Af) (Ae (ai3 K (Ae (B1 (Bi "box" 1 (am2 K t) v0_ (o_ v1_))) Af) []) (Ae (Aq (r_ (au5 K t) (o_ v1_))) Af))
noncomputable def Fw:R_:=λK t=>Ae (dIf (dOr (C5 (B9 K (s_ (Ep K) (p_ v1_ (dC (.ty "list")))))) (Bl (Ah ab0 (s_ (Do K) (o_ v1_)) (n_ 8)))) (Ae (Cb K dNo) Af) Af) (Ae (Aq (Bj [none,some 0] (Bg K v1_) (gdN 0) Cc (Bi "read_rule" 1 (Qd K t) v1_ (o_ v0_)))) Af)
noncomputable def cc8:R_:=λK t=>Ae (dIf (Bl (Ah (a61 false) v1_ (dC .non))) (Ae (Aq (Cf Ag)) Af) Af) (Fw K t)
noncomputable def Nl:R_:=λK t=>Ae (Aq (Hh K (r_ (Yv K t) (o_ (Ah (A7 K) v0_ (n_ 1)))) (Dw Hz Hz (n_ 2) (s_ (Do K) (o_ (Ah (A7 K) v0_ (n_ 1)))) (n_ 4)))) Af
noncomputable def b62:R_:=λK t=>Ae (dIf (dOr (C5 (B9 K (s_ (Ep K) (p_ v0_ (dC (.ty "tuple")))))) (dOr (Bl (Ah (Ca K true) (s_ (Do K) (o_ v0_)) (n_ 2))) (C5 (B9 K (r_ (Q0 K t) (o_ (Ah (A7 K) v0_ (n_ 0)))))))) (Ae (Aq (dC (.bl false))) Af) Af) (Nl K t)
noncomputable def Ih:R_:=λK t=>Ae (Ew (s_ (G0 K) (o_ (Ah (A7 K) v3_ (n_ 1)))) (Da K v1_ (Ah (A7 K) v3_ (n_ 0)))) (Ae (Ao 2 (Ah (Dk K) v2_ (s_ (Do K) (o_ (Ah (A7 K) v3_ (n_ 1)))))) Af)
noncomputable def Ii:R_:=λK t=>Ae (dIf (dOr (C5 (B9 K (r_ (Wk K t) (o_ v3_)))) (Bl (Ah (J7 K false) (Ah (A7 K) v3_ (n_ 0)) v1_))) (Ae (Cb K dNo) Af) Af) (Ih K t)
noncomputable def Ij:R_:=λK t=>Ae (Ao 2 (n_ 1)) (Ae (Bu (Bg K v0_) (gdN 3) (Ii K t)) (Ae (dIf (Bl (Ah ab0 v2_ (n_ 256))) (Ae (Cb K dNo) Af) Af) (Ae (Aq v1_) Af)))
noncomputable def ce2:R_:=λK t=>Ae (dIf (dOr (C5 (B9 K (s_ (Ep K) (p_ v0_ (dC (.ty "list")))))) (C5 (Bl (Dw Hz Hz (n_ 1) (s_ (Do K) (o_ v0_)) (n_ 5))))) (Ae (Cb K dNo) Af) Af) (Ae (Ao 1 Cz) (Ij K t))
noncomputable def Et:R_:=λK t=>Ae (B1 (dMt (rMt K [⟨"list","list.extend", Kz⟩]) v3_ (o_ (Bj [none,some 4] (Bg K (Ah (A7 K) v0_ v2_)) (gdN 0) Cc (Ah (A8 K) v1_ (Eh (o_ v0_))))))) Af
noncomputable def cc6:R_:=λK t=>Ae (Ao 1 (Cf (o_ (Eh Ag)))) (Ae (Bu (Bg K v0_) (gdN 2) (Ae (Ao 3 (Cf Ag)) (Ae (Bu (Bg K v1_) (gdN 4) (Et K t)) (Ae (Ao 1 v3_) Af)))) (Ae (Aq v1_) Af))
noncomputable def cc5:R_:=λK t=>Ae (Ao 1 Cz) (Ae (Bu (iEn K (o_ v0_)) (gdT K 2 [gdN 2,gdN 3]) (Ae (Ew v2_ (Da K v1_ v3_)) Af)) (Ae (Aq v1_) Af))
noncomputable def b84:R_:=λK t=>Ae (Ao 1 (n_ 0)) (Ae (Bu (Bg K v0_) (gdN 2) (Ae (Ao 1 (Ah a62 v1_ (Ah Pa (n_ 1) v2_))) Af)) (Ae (Aq v1_) Af))
noncomputable def Fy:R_:=λK t=>Ae (Ao 6 (Bj [none,none,some 3,some 5] (iEn K (o_ v1_)) (gdT K 2 [gdN 0,gdN 1]) (Bl (Ah (Ca K false) (Ah (A7 K) v1_ v2_) v3_)) v0_)) (Ae (Ew (r_ (Ww K t) (o_ v6_)) (Da K (Ah (A7 K) v2_ v4_) v5_)) Af)
noncomputable def F0:R_:=λK t=>Ae (Bu (iEn K (o_ v0_)) (gdT K 2 [gdN 3,gdN 4]) (Ae (Ew Cz (Da K v2_ v4_)) (Ae (Bu (Bg K (Ah (A7 K) v0_ v4_)) (gdN 5) (Fy K t)) Af))) (Ae (Aq v2_) Af)
noncomputable def cd2:R_:=λK t=>Ae (Ao 2 Cz) (F0 K t)
noncomputable def Mi:R_:=λK t=>Ae (dIf (Bl (Ah (Ca K false) (dUn (Bm K "free") v0_) (n_ 0))) (Ae (Cb K (dFn (λvs H Q E=>vs.length<=1000/\mkX t.c_zbz none 0 vs H Q E) (o_ (dC (.str "the rules bar every choice"))))) Af) Af) Af
noncomputable def Mj:R_:=λK t=>Ae (Gn K "free" v0_ (Ah J1 (Bi "all_choices" 0 (Fr K t) v0_ Ag) (dUn Yl (r_ (Mf K t) (o_ (dUn (Bm K "bars") v0_)))))) (Mi K t)
noncomputable def Ml:R_:=λK t=>Ae (Gn K "kept_rules" v0_ (Bi "read_rules" 1 (Ni K t) v0_ (o_ v2_))) (Ae (Gn K "bars" v0_ (Bj [none,some 0] (Bg K (dUn (Bm K "kept_rules") v0_)) (gdN 0) Cc (Bi "box" 1 (am2 K t) v1_ (o_ v0_)))) (Mj K t))
noncomputable def Mm:R_:=λK t=>Ae (Gn K "numbers" v0_ (r_ (ar9 K t) (o_ (dUn (Bm K "tuples") v0_)))) (Ae (Gn K "sets" v0_ (r_ (as8 K t) (p_ (dUn (Bm K "settings") v0_) (dUn (Bm K "tuples") v0_)))) (Ml K t))
noncomputable def b49:R_:=λK t=>Ae (Gn K "settings" v0_ (r_ (at8 K t) (o_ v1_))) (Ae (Gn K "tuples" v0_ (r_ (as3 K t) (o_ (dUn (Bm K "settings") v0_)))) (Mm K t))
noncomputable def b75:R_:=λK t=>Ae (dIf (Bl (Ah bs8 v1_ (s_ (Do K) (o_ v0_)))) (Ae (Aq (Ah (A7 K) v0_ v1_)) Af) Af) (Ae (Aq (n_ 0)) Af)
noncomputable def b70:R_:=λK t=>Ae (Ao 1 (n_ 1)) (Ae (Bu (Bg K v0_) (gdT K 2 [gdN 2,gdN 3]) (Ae (Ao 1 (Ah (Dk K) v1_ (s_ (Do K) (o_ v3_)))) Af)) (Ae (Aq v1_) Af))
noncomputable def T9:R_:=λK t=>Ae (Ao 3 (Ah Bb (Ah (Dk K) v3_ v3_) (n_ 2147483629))) (Ae (Aq (Ah Dh (Ah Bb (Ah (Dk K) v3_ (Ah (A8 K) v3_ (n_ 3))) (n_ 2147483587)) (n_ 32))) Af)
noncomputable def Ua:R_:=λK t=>Ae (dIf (Nb (Bl (Ah (Ca K false) (Ah Bb v0_ (n_ 2)) (n_ 0))) (Nb (Bl (Ah (Ca K true) v2_ (n_ 0))) (Bl (Ah (Ca K true) v2_ (dUn Tq (n_ 1)))))) (Ae (Aq (Ah J1 v2_ (n_ 134217727))) Af) Af) (Ae (Ao 3 (Ah Bb (Ah (Dk K) (Ah (A8 K) v0_ (Ah (Dk K) (n_ 7919) v1_)) (n_ 48271)) (n_ 2147483647))) (T9 K t))
noncomputable def b81:R_:=λK t=>Ae (Ao 2 (Ah Ym v0_ (Ah (A8 K) (Ah (Dk K) (n_ 27) v1_) (n_ 1)))) (Ua K t)
noncomputable def N1:R_:=λK t=>Ae (Ao 4 (dMt (rMt K [⟨"str","str.join", Tp K⟩]) (dC (.str "")) (o_ (Bj [none,some 0,some 1] (Go (o_ v2_)) (gdN 0) Cc (Ah (A7 K) v2_ (Ah Bb (r_ (Bo K t) (p_ v1_ (Ah (A8 K) (n_ 2) v0_))) (s_ (Do K) (o_ v2_)))))))) (Ae (Aq (Bj [none,some 2,some 4] (Go (o_ v3_)) (gdN 0) Cc (dSl K v2_ Gs (K8 (Ah ar2 v1_ v0_))))) Af)
noncomputable def N2:R_:=λK t=>Ae (B1 (dMt (rMt K [⟨"list","list.append", Dn⟩]) v8_ (o_ (dMt (rMt K [⟨"str","str.join", Tp K⟩]) (dC (.str "")) (o_ (Bj [none,some 1] (Bg K v9_) (gdN 0) Cc (Ah (A7 K) v1_ (Ah Bb v0_ (s_ (Do K) (o_ v1_)))))))))) Af
noncomputable def N3:R_:=λK t=>Ae (Ao 9 (Bj [none,some 7,some 0,some 5] (Go (o_ v6_)) (gdN 0) Cc (Ah (A8 K) (r_ (Bo K t) (p_ v2_ (Ah (A8 K) (n_ 22) v0_))) (Ah (Dk K) v3_ (s_ ab1 (o_ (Ah (Ca K false) v0_ v1_))))))) (N2 K t)
noncomputable def N4:R_:=λK t=>Ae (Ao 7 (Ah Bb (r_ (Bo K t) (p_ v0_ (n_ 21))) v6_)) (Ae (Ao 8 (Cf Ag)) (Ae (Bu (Go (o_ v3_)) (gdN 5) (N3 K t)) (Ae (Aq v8_) Af)))
noncomputable def b69:R_:=λK t=>Ae (dIf (Nb (Bl (Ah (Ca K false) (Ah Bb (r_ (Bo K t) (p_ v0_ (n_ 1))) (n_ 3)) (n_ 0))) (Bl (Ah Hz v3_ v2_))) (N1 K t) Af) (Ae (Ao 6 (Ah (A8 K) (n_ 1) (Ah Bb (r_ (Bo K t) (p_ v0_ (n_ 20))) v2_))) (N4 K t))
noncomputable def Js:R_:=λK t=>Ae (B1 (dMt (rMt K [⟨"list","list.append", Dn⟩]) v4_ (o_ (Eh (p_ (Ah (A7 K) v3_ v6_) (r_ (Me K t) (Ab (Ah (A8 K) (Ah (A8 K) v0_ (n_ 1)) v6_) (q_ v2_ (n_ 8) v7_)))))))) Af
noncomputable def Jt:R_:=λK t=>Ae (Ao 7 (Ah (A8 K) (n_ 2) (Ah Bb (r_ (Bo K t) (p_ v0_ (Ah (A8 K) (n_ 41) v6_))) (n_ 3)))) (Ae (dIf (Bl (Ah Hz (Ah (Dk K) v5_ v7_) v1_)) (Ae (Ao 5 (Ah (Dk K) v5_ v7_)) (Js K t)) Af) Af)
noncomputable def Ju:R_:=λK t=>Ae (Bu (Go (o_ (Ah (A8 K) (n_ 1) (Ah Bb (r_ (Bo K t) (p_ v0_ (n_ 40))) (n_ 5))))) (gdN 6) (Jt K t)) (Ae (Aq v4_) Af)
noncomputable def Jv:R_:=λK t=>Ae (Ao 3 (r_ (Me K t) (Ab v0_ (q_ v2_ (n_ 8) (n_ 5))))) (Ae (Ao 4 (Cf Ag)) (Ae (Ao 5 (n_ 1)) (Ju K t)))
noncomputable def ce4:R_:=λK t=>Ae (Ao 2 (dC (.str "abcdefghijklmnopqrstuvwxyz"))) (Jv K t)
noncomputable def Nx:R_:=λK t=>Ae (dIf (Nb (Bl (Ah (Ca K true) v9_ (Cf Ag))) (Bl (Ah ab0 (Ah Bb (Ah Dh v8_ (n_ 16)) (n_ 3)) (n_ 0)))) (Ae (Ew v9_ (Da K v4_ v6_)) Af) Af) Af
noncomputable def Ny:R_:=λK t=>Ae (Ao 9 (Bj [none,none,some 8] (iEn K (o_ v7_)) (gdT K 2 [gdN 0,gdN 1]) (Bl (Ah (Ca K false) (Ah J1 (Ah Ym v2_ v0_) (n_ 1)) (n_ 1))) v1_)) (Nx K t)
noncomputable def Nz:R_:=λK t=>Ae (Bu (iEn K (o_ v1_)) (gdT K 2 [gdN 5,(gdT K 2 [gdN 6,gdN 7])]) (Ae (Ao 8 (r_ (Bo K t) (p_ v0_ (Ah (A8 K) (Ah (A8 K) (n_ 61) (Ah (Dk K) (n_ 8) v3_)) v5_)))) (Ny K t))) (Ae (dIf (Bl (Ah (Ca K true) v4_ Cz)) (Ae (B1 (dMt (rMt K [⟨"list","list.append", Dn⟩]) v2_ (o_ v4_))) Af) Af) Af)
noncomputable def N0:R_:=λK t=>Ae (Bu (Go (o_ (Ah Bb (r_ (Bo K t) (p_ v0_ (n_ 60))) (n_ 4)))) (gdN 3) (Ae (Ao 4 Cz) (Nz K t))) (Ae (Aq v2_) Af)
noncomputable def b68:R_:=λK t=>Ae (Ao 2 (Cf Ag)) (N0 K t)
noncomputable def Mv:R_:=λK t=>Ae (B1 (dMt (rMt K [⟨"list","list.insert", Qq⟩]) v2_ (p_ (n_ 0) (Ah Bb v1_ (s_ (Do K) (o_ v4_)))))) (Ae (Ao 1 (Ah Dh v1_ (s_ (Do K) (o_ v4_)))) Af)
noncomputable def b57:R_:=λK t=>Ae (Ao 2 (Cf Ag)) (Ae (Bu (aj9 K v0_) (gdT K 2 [gdN 3,gdN 4]) (Mv K t)) (Ae (Aq v2_) Af))
noncomputable def Mu:R_:=λK t=>Ae (Ao 5 (Bj [none,none,none,some 3,some 4] (iEn K (o_ v0_)) (gdT K 2 [gdN 0,(gdT K 2 [gdN 1,gdN 2])]) Cc (Ah (J7 K false) (Ah (A7 K) v2_ (Ah (A7 K) v3_ v0_)) (dMt (rMt K [⟨"dict","dict.get", Ma⟩]) v4_ (p_ v1_ v2_))))) (Ae (dIf (B9 K (s_ (To K) (o_ v5_))) (Ae (Aq (dC (.bl true))) Af) Af) Af)
noncomputable def b56:R_:=λK t=>Ae (Ao 3 (r_ (Qx K t) (p_ v0_ v2_))) (Ae (Bu (Bg K v1_) (gdN 4) (Mu K t)) (Ae (Aq (dC (.bl false))) Af))
noncomputable def N7:R_:=λK t=>Ae (dIf (Bl (Ah (Ca K false) v4_ (Cf Ag))) (Ae (Ao 3 (Cf Ag)) (Ae (Ao 4 (dUn Mb (r_ (Jr K t) (o_ v2_)))) Af)) Af) (Ae (Aq (Cf (q_ v2_ v3_ v4_))) Af)
noncomputable def N8:R_:=λK t=>Ae (Ao 4 (Bj [none,some 3,some 2] (Go (o_ (r_ (Jr K t) (o_ v2_)))) (gdN 0) (C5 (B9 K (r_ (Wf K t) (q_ v2_ v1_ v0_)))) v0_)) (N7 K t)
noncomputable def b71:R_:=λK t=>Ae (Ao 2 (r_ (au0 K t) (p_ v0_ v1_))) (Ae (Ao 3 (r_ (Wp K t) (p_ v0_ v2_))) (N8 K t))
noncomputable def Rb:R_:=λK t=>Ae (Aq (dMt (rMt K [⟨"str","str.join", Tp K⟩]) (dC (.str "")) (o_ (Bj [none,some 0,some 1] (Go (o_ v2_)) (gdN 0) Cc (Ah (A7 K) v2_ (Ah Bb (r_ (Bo K t) (p_ v1_ (Ah (A8 K) (n_ 302) v0_))) (s_ (Do K) (o_ v2_)))))))) Af
noncomputable def Re:R_:=λK t=>Ae (Ao 2 (Ah (A7 K) (Cf (Ab (n_ 0) (Ab (n_ 1) (q_ (n_ 2) (n_ 5) (n_ 60))))) (Ah Bb (r_ (Bo K t) (p_ v0_ (n_ 301))) (n_ 5)))) (Rb K t)
noncomputable def b77:R_:=λK t=>Ae (Ao 1 (dC (.str " !\"#$&'()*+,-./0123456789:;<=>?@ABCDEFGHIJKLMNOPQRSTUVWXYZ[\\]^_`"))) (Ae (Ao 1 (Ah (A8 K) v1_ (dC (.str "abcdefghijklmnopqrstuvwxyz{|}~")))) (Re K t))
noncomputable def Ka:R_:=λK t=>Ae (B1 (dMt (rMt K [⟨"list","list.append", Dn⟩]) v3_ (o_ (s_ (G0 K) (o_ (Bj [none,some 1,some 4] (Go (o_ v2_)) (gdN 0) Cc (dSl K (r_ (Qz K t) (o_ (Ah (A8 K) (Ah (A8 K) v1_ (Ah (Dk K) (n_ 5) v2_)) (Ah (Dk K) (n_ 17) v0_)))) Gs (K8 (n_ 3))))))))) Af
noncomputable def Kb:R_:=λK t=>Ae (Bu (Go (o_ (Ah (A8 K) (n_ 1) (Ah Bb (r_ (Bo K t) (p_ v1_ (n_ 311))) (n_ 3))))) (gdN 4) (Ka K t)) (Ae (Aq (s_ (G0 K) (o_ v3_))) Af)
noncomputable def Kc:R_:=λK t=>Ae (Ao 2 (Ah (A8 K) (n_ 1) (Ah Bb (r_ (Bo K t) (p_ v1_ (n_ 310))) (n_ 3)))) (Ae (Ao 3 (Cf Ag)) (Kb K t))
noncomputable def cf0:R_:=λK t=>Ae (dIf (Bl (Ah (Ca K true) v0_ (dC (.str "table")))) (Ae (Aq (r_ (Qz K t) (o_ v1_))) Af) Af) (Kc K t)
noncomputable def Rf:R_:=λK t=>Ae (Ew (Eh (Ab v7_ (q_ (Ah (A7 K) v8_ (Ah Bb (Ah Dh v6_ (n_ 384)) (s_ (Do K) (o_ v8_)))) v9_ (r_ (au6 K t) (p_ v7_ (Ah Dh v6_ (n_ 96))))))) (Da K v3_ v5_)) Af
noncomputable def Rg:R_:=λK t=>Ae (Ao 9 (Ah (A7 K) (Cf (Ab (n_ 0) (q_ (n_ 1) (Ah aq8 (n_ 10) (n_ 9)) (Ah Bb (Ah Dh v6_ (n_ 96)) (n_ 1000))))) (Ah Bb (Ah Dh v6_ (n_ 24)) (n_ 4)))) (Rf K t)
noncomputable def Rh:R_:=λK t=>Ae (Ao 8 (R5 (Ah (A8 K) (Cf (o_ (dC (.str "")))) (Bj [none,some 3] (Bg K v3_) (gdN 0) (Bl (Ah (Ca K false) (Ah (A7 K) (Ah (A7 K) v1_ v0_) (n_ 0)) (dC (.str "chapter")))) v0_)))) (Rg K t)
noncomputable def Ri:R_:=λK t=>Ae (Ao 7 (Ah (A7 K) (Cf (Ab (dC (.str "chapter")) (q_ (dC (.str "para")) (dC (.str "table")) (dC (.str "chapter"))))) (Ah Bb (Ah Dh v6_ (n_ 6)) (n_ 4)))) (Rh K t)
noncomputable def Rj:R_:=λK t=>Ae (dIf (Nb (Bl (Ah ab0 v1_ (n_ 0))) (Bl (Ah (Ca K false) (Ah Bb (r_ (Bo K t) (p_ v0_ (Ah (A8 K) (Ah (A8 K) (n_ 130) (Ah (Dk K) (n_ 40) v1_)) v4_))) (n_ 3)) (n_ 0)))) (Ae (Ao 6 (r_ (Bo K t) (p_ v0_ (Ah (A8 K) (Ah (A8 K) (n_ 500) (Ah (Dk K) (n_ 40) v1_)) v4_)))) Af) Af) (Ae (dIf (Bl (Ah ab0 (Ah Bb v6_ (n_ 6)) (n_ 0))) (Ri K t) Af) Af)
noncomputable def Rk:R_:=λK t=>Ae (Bu (iEn K (o_ v2_)) (gdT K 2 [gdN 4,gdN 5]) (Ae (Ao 6 (r_ (Bo K t) (p_ v0_ (Ah (A8 K) (n_ 100) v4_)))) (Rj K t))) (Ae (Aq v3_) Af)
noncomputable def b78:R_:=λK t=>Ae (Ao 3 Cz) (Rk K t)
noncomputable def b65:R_:=λK t=>Ae (Aq (r_ (Me K t) (Ab v0_ (q_ (dC (.str "abcdefghijklmnopqrstuvwxyz0123456789.")) (n_ 12) v1_)))) Af
noncomputable def Kf:R_:=λK t=>Ae (Aq (Ah Bb (Ah (A7 K) (r_ (Qx K t) (p_ v1_ v2_)) (Ah Bb (r_ (Bo K t) (p_ v0_ (n_ 71))) (s_ (Do K) (o_ v1_)))) v3_)) Af
noncomputable def b45:R_:=λK t=>Ae (dIf (Bl (Ah (Ca K false) (Ah Bb (r_ (Bo K t) (p_ v0_ (n_ 70))) (n_ 2)) (n_ 0))) (Kf K t) Af) (Ae (Aq (Ah Bb (r_ (Bo K t) (p_ v0_ (Ah (A8 K) (n_ 700) v2_))) v3_)) Af)
noncomputable def Wz:R_:=λK t=>Ae (dIf (dOr (C5 (B9 K (s_ (Ep K) (p_ v3_ (dC (.ty "tuple")))))) (Bl (Ah (Ca K true) v3_ (Ah (A7 K) v1_ v2_)))) (Ae (Aq (dC (.bl false))) Af) Af) Af
noncomputable def b83:R_:=λK t=>Ae (dIf (dOr (C5 (B9 K (s_ (Ep K) (p_ v0_ (dC (.ref t.c_zcd)))))) (Bl (Ah (Ca K true) (Bi "names" 0 (Cl K t) v0_ Ag) (s_ (Jq K true) (o_ v1_))))) (Ae (Aq (dC (.bl false))) Af) Af) (Ae (Bu (Bg K v1_) (gdN 2) (Ae (Ao 3 (Bi "state" 1 (Hx K t) v0_ (o_ v2_))) (Wz K t))) (Ae (Aq (dC (.bl true))) Af))
noncomputable def Ke:R_:=λK t=>(Ae (ai3 K (Ae (B1 (Bi "plain" 1 (Hw K t) v0_ (o_ v1_))) Af) [(t.c_zby,.as 3,(Ae (Ao 2 (Hh K (dFn (λvs H Q _=>(Ep K) vs H Q) (Ab (Aa 3) (Ab (dC (.ref t.c_zbz)) Ag))) (Hh K (dFn (λvs H Q _=>(Ep K) vs H Q) (Ab (Aa 3) (Ab (dC (.ty "ValueError")) Ag))) (Xz K (dFn (λvs H Q _=>(Ep K) vs H Q) (Ab (Aa 3) (Ab (dC (.ref t.c_zca)) Ag)))))))
  Af))]) (Ae (Aq (Ah (a61 false) v2_ (dC (.bl true)))) Af))
noncomputable def b44:R_:=λK t=>Ae (Ao 2 (dC .non)) (Ke K t)
noncomputable def b48:R_:=λK t=>Ae (Aq (r_ (Mf K t) (o_ (Bj [none,none] (Bg K (Bi "rows_with" 1 (Qe K t) v0_ (o_ v1_))) (gdT K 2 [gdN 0,gdN 1]) Cc v0_)))) Af
noncomputable def Kd:R_:=λK t=>(Ae (ai3 K (Ae (B1 (Bi "where" 1 (am6 K t) v0_ (o_ v1_))) Af) [(t.c_zcb,.as 3,(Ae (Ao 2 (Eh (Ab (dUn (Bm K "part") (Aa 3)) (Ab (dUn (Bm K "choice") (Aa 3)) Ag))))
  Af))]) (Ae (Aq (Ah (Ca K false) v2_ (Eh (p_ v1_ (dC .non))))) Af))
noncomputable def b43:R_:=λK t=>Ae (Ao 2 (dC .non)) (Kd K t)
noncomputable def Np:R_:=λK t=>Ae (dIf (Nb (Bl (Ah (J7 K true) v5_ v2_)) (C5 (B9 K (r_ (V4 K t) (p_ v0_ v5_))))) (Ae (Aq (dC (.bl false))) Af) Af) Af
noncomputable def Nq:R_:=λK t=>Ae (Aq (Hh K (Ah (Ca K false) (Bi "names" 0 (Cl K t) v0_ Ag) (s_ (Jq K true) (o_ v2_))) (Ah (Ca K false) (Bi "allowed" 0 (Gx K t) (dUn (Bm K "panel") v0_) Ag) (s_ (bs9 K) (o_ (R5 (Bj [none] (Bg K v3_) (gdN 0) Cc (Ah Pa (n_ 1) v0_)))))))) Af
noncomputable def Nr:R_:=λK t=>Ae (dIf (dOr (C5 (B9 K (s_ (Ep K) (p_ v4_ (dC (.ty "list")))))) (Bl (Ah (Ca K true) v4_ (s_ (Jq K true) (o_ v2_))))) (Ae (Aq (dC (.bl false))) Af) Af) (Ae (B1 (dMt (rMt K [⟨"list","list.append", Dn⟩]) v4_ (o_ (dC (.str "x"))))) (Ae (Bu (Bg K v1_) (gdN 5) (Np K t)) (Nq K t)))
noncomputable def b64:R_:=λK t=>Ae (Ao 4 (Bi "names" 0 (Cl K t) v0_ Ag)) (Nr K t)
noncomputable def b61:R_:=λK t=>Ae (Ew (Eh (Ab v2_ (q_ v3_ v4_ v5_))) (Da K (dUn (Bm K "records") v0_) v1_)) Af
noncomputable def Nt:R_:=λK t=>Ae (Ew (Ah (A7 K) v0_ v2_) (gdT K 4 [gdN 3,gdN 4,gdN 5,gdN 6])) (Ae (B1 (Bi "lay" 5 (bi5 K t) v1_ (Ab v2_ (Ab v3_ (q_ v4_ v5_ v6_))))) Af)
noncomputable def b66:R_:=λK t=>Ae (Ao 1 (dFn (mkC t.c_zcd (some (i_zak K t)) 0) Ag)) (Ae (Bu (Bg K v0_) (gdN 2) (Nt K t)) (Ae (Aq v1_) Af))
noncomputable def Q5:R_:=λK t=>Ae (az6 (Ah (A7 K) v8_ (Ah Bb v10_ (s_ (Do K) (o_ v2_)))) (Ah Bb (Ah Dh v10_ (n_ 7)) (n_ 2)) (Ah Pa (n_ 1) v9_)) Af
noncomputable def Q6:R_:=λK t=>Ae (dIf (Bl (Ah (J7 K false) v9_ v3_)) (Ae (az6 (Ah (A7 K) v8_ (Ah (A7 K) v3_ v9_)) (Ah Bb v10_ (n_ 2)) (Ah Pa (n_ 1) v9_)) Af) (Ae (dIf (Bl (Ah (Ca K false) (Ah Bb v10_ (n_ 3)) (n_ 0))) (Q5 K t) Af) Af)) Af
noncomputable def Q7:R_:=λK t=>Ae (Ao 11 (Ah (A8 K) (Ah (A8 K) (dSl K v11_ Gs (K8 (Aa 14))) (Cf (o_ (Eh (p_ v13_ (r_ (Wo K t) (o_ v7_))))))) (dSl K v11_ (K8 (Aa 14)) Gs))) Af
noncomputable def Q8:R_:=λK t=>Ae (Ao 14 (Ah Bb (r_ (Bo K t) (p_ v0_ (Ah (A8 K) (n_ 80) (s_ (Do K) (o_ v11_))))) (Ah (A8 K) (s_ (Do K) (o_ v11_)) (n_ 1)))) (Q7 K t)
noncomputable def Q9:R_:=λK t=>Ae (Ao 11 (Cf Ag)) (Ae (Bu (iEn K (o_ v2_)) (gdT K 2 [gdN 12,gdN 7]) (Ae (Bu (Bg K (Ah (A7 K) v8_ v12_)) (gdN 13) (Q8 K t)) Af)) (Ae (Aq v11_) Af))
noncomputable def Ra:R_:=λK t=>Ae (Bu (Go (o_ (r_ (Jr K t) (o_ v4_)))) (gdN 9) (Ae (Ao 10 (r_ (Bo K t) (p_ v0_ (Ah (A8 K) (n_ 900) v9_)))) (Q6 K t))) (Q9 K t)
noncomputable def b76:R_:=λK t=>Ae (Ew v1_ (gdT K 3 [gdN 4,gdN 5,gdN 6])) (Ae (Ao 8 (Bj [none] (Bg K v2_) (gdN 0) Cc (Cf (p_ (n_ 0) (n_ 0))))) (Ra K t))
noncomputable def Nu:R_:=λK t=>Ae (dIf (C5 (B9 K (r_ (Mg K t) (p_ (Bi "plain" 1 (Hw K t) v0_ (o_ v3_)) (Ah (A7 K) v1_ (Ah (A7 K) v2_ v3_)))))) (Ae (Aq (dC (.bl false))) Af) Af) Af
noncomputable def Nv:R_:=λK t=>Ae (Bu (Bg K (Bi "names" 0 (Cl K t) v4_ Ag)) (gdN 5) (Ae (dIf (B9 K (Bi "has" 1 (Qb K t) v4_ (o_ v5_))) (Ae (B1 (Bi "drop" 1 (Qa K t) v4_ (o_ v5_))) Af) Af) Af)) (Nu K t)
noncomputable def Nw:R_:=λK t=>Ae (dIf (C5 (B9 K (r_ (Mg K t) (p_ v4_ (Ah (A7 K) v1_ (Ah (A7 K) v2_ v3_)))))) (Ae (Aq (dC (.bl false))) Af) Af) (Nv K t)
noncomputable def b67:R_:=λK t=>Ae (Bu (Bg K v2_) (gdN 3) (Ae (Ao 4 (Bi "plain" 1 (Hw K t) v0_ (o_ v3_))) (Nw K t))) (Ae (Aq (dC (.bl true))) Af)
noncomputable def a79:R_:=λK t=>Ae (Ew (r_ (V6 K t) (Ab (r_ (D7 K t) (p_ v0_ (n_ 4))) (q_ v3_ v10_ v7_))) (Da K v9_ v10_)) Af
noncomputable def a80:R_:=λK t=>Ae (Bu (Bg K (Bi "names" 0 (Cl K t) (Aa 16) Ag)) (gdN 17) (Ae (dIf (B9 K (Bi "has" 1 (Qb K t) (Aa 16) (o_ (Aa 17)))) (Ae (B1 (Bi "drop" 1 (Qa K t) (Aa 16) (o_ (Aa 17)))) Af) Af) Af)) Af
noncomputable def a81:R_:=λK t=>Ae (Bu (Bg K (Ah (A8 K) (Aa 19) (Cf (Ab (Aa 18) (Ab (Ah (A8 K) (Aa 18) (Ah Bb (r_ (D7 K t) (p_ v0_ (n_ 6))) (Ah aq8 (n_ 10) (n_ 9)))) (Ab (dUn Tq (n_ 1)) (q_ (dC (.bl true)) (dC .non) (s_ Qu (o_ (Ah (A7 K) v5_ (n_ 0))))))))))) (gdN 10) (Ae (dIf (C5 (B9 K (r_ (V5 K t) (p_ v13_ v10_)))) (Ae (Aq (dC (.bl false))) Af) Af) Af)) (Ae (Aq (dC (.bl true))) Af)
noncomputable def a82:R_:=λK t=>Ae (Ao 18 (r_ (Jr K t) (o_ v3_))) (Ae (Ao 19 (Bj [none,some 9] (Go (o_ (Aa 18))) (gdN 0) (Bl (Ah (J7 K true) v0_ v1_)) v0_)) (a81 K t))
noncomputable def a83:R_:=λK t=>Ae (dIf (dOr (C5 (B9 K (r_ (Qy K t) (q_ v13_ v8_ v9_)))) (dOr (Bl (Ah (Ca K true) (Bi "names" 0 (Cl K t) (dFn (mkC t.c_zce (some (i_zap K t)) 0) (o_ v11_)) Ag) (Cf Ag))) (C5 (B9 K (r_ (Mg K t) (p_ (Bi "plain" 1 (Hw K t) (dFn (mkC t.c_zce (some (i_zap K t)) 0) (o_ v11_)) (o_ (Ah (A7 K) v5_ (n_ 0)))) Cz)))))) (Ae (Aq (dC (.bl false))) Af) Af) (a82 K t)
noncomputable def a84:R_:=λK t=>Ae (dIf (dOr (C5 (B9 K (r_ (Wm K t) (Ab v13_ (q_ v6_ (Aa 14) v5_))))) (C5 (B9 K (r_ (Qy K t) (q_ v13_ v8_ v9_))))) (Ae (Aq (dC (.bl false))) Af) Af) (Ae (Bu (Bg K v12_) (gdT K 2 [gdN 15,gdN 16]) (a80 K t)) (Ae (B1 (dMt (rMt K [⟨"list","list.clear", Vu⟩]) v12_ Ag)) (a83 K t)))
noncomputable def a85:R_:=λK t=>Ae (Bu (Bg K v9_) (gdN 10) (Ae (B1 (dMt (rMt K [⟨"dict","dict.update", aq4⟩]) (Aa 14) (o_ (Ah (A7 K) v8_ (Ah (A7 K) v9_ v10_))))) Af)) (a84 K t)
noncomputable def a86:R_:=λK t=>Ae (Ao 12 (r_ (Wu K t) (Ab (r_ (D7 K t) (p_ v0_ (n_ 5))) (q_ v2_ v8_ v9_)))) (Ae (Ao 13 (r_ (Wr K t) (p_ v11_ v12_))) (Ae (Ao 14 Cz) (a85 K t)))
noncomputable def a87:R_:=λK t=>Ae (Ao 11 (dFn (mkC t.c_zcc (some (i_zag K t)) 1) (p_ (Bj [none,none] (Bg K v3_) (gdT K 2 [gdN 0,gdN 1]) Cc (Eh (p_ v0_ (s_ (Qr K true) (o_ v1_))))) v4_))) (a86 K t)
noncomputable def av2:R_:=λK t=>Ae (Ao 8 (Bj [none,some 6,some 0] (Go (o_ v7_)) (gdN 0) Cc (r_ (Wv K t) (q_ (r_ (D7 K t) (p_ v2_ (n_ 3))) v0_ v1_)))) (Ae (Ao 9 Cz) (Ae (Bu (Bg K v5_) (gdN 10) (a79 K t)) (a87 K t)))
noncomputable def av3:R_:=λK t=>Ae (Ao 6 (r_ (Wn K t) (p_ (r_ (D7 K t) (p_ v0_ (n_ 1))) (Ah (A8 K) (n_ 1) (Ah Bb (r_ (D7 K t) (p_ v0_ (n_ 2))) (Ah (A7 K) (Cf (p_ (n_ 8) (n_ 3))) (s_ ab1 (o_ v1_)))))))) (Ae (Ao 7 (Ah (A8 K) (n_ 1) (Ah Bb (Ah Dh (r_ (D7 K t) (p_ v0_ (n_ 2))) (n_ 8)) (n_ 4)))) (av2 K t))
noncomputable def av4:R_:=λK t=>Ae (Ao 2 (r_ (Wq K t) (p_ (Ah Dh (r_ (D7 K t) (p_ v0_ (n_ 0))) (n_ 8)) (Ah (A7 K) (Cf (p_ (n_ 24) (n_ 256))) (s_ ab1 (o_ v1_)))))) (Ae (Ew v2_ (gdT K 3 [gdN 3,gdN 4,gdN 5])) (av3 K t))
noncomputable def b85:R_:=λK t=>Ae (Ao 1 (Ah (Ca K false) (Ah Bb (r_ (D7 K t) (p_ v0_ (n_ 0))) (n_ 8)) (n_ 1))) (av4 K t)
end K31
namespace K31
open PySem L2 Pn
def Mc{α:Type} [DecidableEq α]{l:List α}{x:List α}(nd:l.Nodup)(h:∀z∈l,z∈x):l.length<=x.length:=by
 induction l generalizing x with
 |nil=>exact bu _
 |cons a l ih=>
  obtain⟨na,nd⟩:=List.nodup_cons.mp nd
  have ha:=h a aP
  have:=ih nd λz hz=>(List.mem_erase_of_ne (λe:z=a=>na (e▸hz))).mpr (h z (ay _ hz))
  rw[List.length_erase_of_mem ha] at this
  have:0<x.length:=List.length_pos_of_mem ha
  rw[aI]
  omega
def P0(sw:Sw)(ζ:List Sw):Ap sw ζ=(aZ (Al sw).length).filter λi=>(C1 sw ζ).testBit i:=by
 refine jw λi hi=>?_
 rw[Iy,decide_eq_true (List.mem_range.mp hi),iP]
 rfl
def Ej{sw:Sw}{ζ:List Sw}{n:Nat}(h:n∈Ap sw ζ):n<(Al sw).length/\(C1 sw ζ).testBit n=true:=by
 rw[P0,cw,cf] at h
 exact h
def Sk(sw:Sw)(ζ:List Sw):(Ap sw ζ).Pairwise (· < ·):=List.Pairwise.filter _ List.pairwise_lt_range
def a03{sw:Sw}{ζ:List Sw}(h:Ap sw ζ≠[]):Gp sw ζ≠0:=by
 obtain⟨n,hn⟩:=jf _ h
 have:=(Ej hn).2
 rw[Gd]
 intro e
 have e:C1 sw ζ=0:=by omega
 rw[e,dz] at this
 cases this
theorem Sj{α β:Type}(f:α->List β){s:Nat}(hs:0<s):∀(l:List α),(∀a∈l,(f a).length=s) -> ∀n,(l.flatMap f)[n]?=(l[n/s]?).bind λa=>(f a)[n%s]?
 |[],_,n=>by simp
 | a::l,h,n=>by
  have ha:=h a aP
  rw[ie]
  by_cases hn:n<s
  .rw[bJ (by rw[ha];exact hn),Nat.div_eq_of_lt hn,Nat.mod_eq_of_lt hn];rfl
  .rw[bo (by rw[ha];omega),ha,Sj f hs l (λb hb=>h b (ay _ hb)),Nat.div_eq_sub_div (a:=n) hs (by omega),bI,Nat.mod_eq_sub_mod (a:=n) (by omega)]
theorem Ei:∀l n,(Nc l n).length=l.length
 |[],_=>rfl
 |s::r,n=>by rw[Nc,aB,Ei r];rfl
theorem Yq:∀(L:Sw),(∀x∈L,Gq x.2) -> ∀(n:Nat)(r:List Str),(Al L.reverse)[n]?=some r -> ∀(i:Nat)(x:Str×List Str),L.reverse[i]?=some x -> ∃d,(Nc (L.map (·.2.length)) n)[i]?=some d/\d<x.2.length/\r[i]?=x.2[d]?
 |[],_,n,r,_,i,x,hx=>by simp at hx
 | y::L,h,n,r,hr,i,x,hx=>by
  have oy:=h y aP
  have h2:∀x∈L,Gq x.2:=λx hx=>h x (ay _ hx)
  have pos:0<y.2.length:=by have:=oy.2.1;omega
  have e:Al (y::L).reverse=Es (Al L.reverse) y:=by unfold Al;rw[List.reverse_cons,gh];rfl
  rw[e] at hr
  unfold Es at hr
  rw[Sj _ pos _ (λa _=>ae _)] at hr
  obtain⟨a,ha,hb⟩:=Option.bind_eq_some_iff.mp hr
  rw[al] at hb
  obtain⟨z,hz,rfl⟩:=Option.map_eq_some_iff.mp hb
  have la:a.length=L.length:=by
   have:=(Ic λx hx=>h2 x (List.mem_reverse.mp hx)).2.1 a (ak ha)
   rwa[bj] at this
  rw[List.reverse_cons] at hx
  rw[aX,Nc]
  by_cases hi:i<L.length
  .rw[bJ (by rw[bj];exact hi)] at hx
   obtain⟨d,h3,h4,h5⟩:=Yq L h2 (n/y.2.length) a ha i x hx
   refine⟨d,?_,h4,?_⟩
   .rw[bJ (by rw[Ei,ae];exact hi)];exact h3
   .rw[bJ (by omega)];exact h5
  .have hi2:i=L.length:=by
    have:=Aj hx
    rw[aB,bj] at this
    have:i<L.length+1:=this
    omega
   subst hi2
   rw[bo (by rw[bj];exact ag _),bj,gR] at hx
   cases hx
   refine⟨n%y.2.length,?_,Nat.mod_lt _ pos,?_⟩
   .rw[bo (by rw[Ei,ae];exact ag _),Ei,ae,gR];rfl
   .rw[bo (by omega),la,gR,hz];rfl
def bf9{sw:Sw}{n i:Nat}{r:List Str}{x:Str×List Str}(hw:okSw sw)(hn:(Al sw)[n]?=some r)(hx:sw[i]?=some x):∃d,(R8 sw n)[i]?=some d/\d<x.2.length/\r[i]?=x.2[d]?:=by
 have:=Yq sw.reverse (λx hx=>hw.sets x (List.mem_reverse.mp hx)) n r (by rw[ll];exact hn) i x (by rw[ll];exact hx)
 rwa[fM] at this
def K9(sw:Sw)(n:Nat):(R8 sw n).length=sw.length:=by unfold R8;rw[Ei,bj,ae]
theorem bnd:∀l:List Nat,∃N,∀m∈l,m<N
 |[]=>⟨0,λ_ h=>by cases h⟩
 | n::l=>by
  obtain⟨N,h⟩:=bnd l
  exact⟨N+n+1,λm hm=>by rcases List.mem_cons.mp hm with rfl|hm;omega;have:=h m hm;omega⟩
mutual
def tkD:TK->Dt
 |.at_ k=>.at_ (kV k)
 |.tup l=>.tup (Il l)
def Il:List TK->List Dt
 |[]=>[]
 |k::ks=>tkD k::Il ks
end
def av5{K:ac}{H:Hp}(x:TK):∀{v:V},TkAt H x v->At K H (tkD x) v:=by
 refine TK.rec (motive_1:=λx=>∀{v:V},TkAt H x v->At K H (tkD x) v) (motive_2:=λl=>∀{vs:List V},A9 H l vs->AtL K H (Il l) vs) ?_ ?_ ?_ ?_ x
 .intro k v h;unfold TkAt at h;unfold tkD At;exact⟨h,P5 k⟩
 .intro l ih v h;unfold TkAt at h;obtain⟨a,xs,e,q,i⟩:=h;unfold tkD At;exact⟨a,xs,e,SqT.of q,ih i⟩
 .intro vs h;unfold A9 at h;unfold Il AtL;exact h
 .intro x l h1 h2 vs h;unfold A9 at h;obtain⟨v,r,e,q1,q2⟩:=h;unfold Il AtL;exact⟨v,r,e,h1 q1,h2 q2⟩
def a89(x:TK):dep (tkD x)=Ax x:=by
 refine TK.rec (motive_1:=λx=>dep (tkD x)=Ax x) (motive_2:=λl=>Fb (Il l)=Cm l) ?_ ?_ ?_ ?_ x
 .intro k;unfold tkD dep Ax;rfl
 .intro l ih;unfold tkD dep Ax;rw[ih]
 .unfold Il Fb Cm;rfl
 .intro x l h1 h2;unfold Il Fb Cm;rw[h1,h2]
def bt3(x:TK):∀y,deq (tkD x) (tkD y)=decide (x=y):=by
 refine TK.rec (motive_1:=λx=>∀y,deq (tkD x) (tkD y)=decide (x=y)) (motive_2:=λl=>∀l',Fc (Il l) (Il l')=decide (l=l')) ?_ ?_ ?_ ?_ x
 .intro k y
  cases y with
  |at_ k'=>unfold tkD deq;exact(ah0 k k').symm
  |tup l=>unfold tkD deq;exact(decide_eq_false λe=>by cases e).symm
 .intro l ih y
  cases y with
  |at_ k'=>unfold tkD deq;exact(decide_eq_false λe=>by cases e).symm
  |tup l'=>unfold tkD deq;rw[ih l'];exact decide_eq_decide.mpr ⟨λe=>by rw[e],λe=>by injection e⟩
 .intro l'
  cases l' with
  |nil=>unfold Il Fc;exact(decide_eq_true rfl).symm
  |cons _ _=>unfold Il Fc;exact(decide_eq_false λe=>by cases e).symm
 .intro x l h1 h2 l'
  cases l' with
  |nil=>unfold Il Fc;exact(decide_eq_false λe=>by cases e).symm
  |cons y l'=>
   unfold Il Fc
   rw[h1,h2,<- Bool.decide_and]
   exact decide_eq_decide.mpr ⟨fun⟨a,b⟩=>by rw[a,b],λe=>by injection e with a b;exact⟨a,b⟩⟩
def RcAt.tk{H:Hp}{a:Addr}{x:Rc}(h:RcAt H a x):TkAt H (rcT x) (.ref a):=by
 obtain⟨v,e,q⟩:=h
 refine⟨a,_,rfl,e,?_⟩
 unfold A9;refine⟨_,_,rfl,by unfold TkAt;rfl,?_⟩
 unfold A9;refine⟨_,_,rfl,by unfold TkAt;rfl,?_⟩
 unfold A9;refine⟨_,_,rfl,by unfold TkAt;rfl,?_⟩
 unfold A9;refine⟨_,_,rfl,q,?_⟩
 unfold A9;rfl
theorem RcAt.up{H H':Hp}(h:∀b ys,H b=some (.tup ys)->H' b=some (.tup ys)){a:Addr}{x:Rc}(q:RcAt H a x):RcAt H' a x:=let⟨v,e,q⟩:=q;⟨v,h _ _ e,q.up h⟩
theorem Cu:∀{T:Tr}{n:Str}{x:Rc},T.lookup n=some x->(n,x)∈T
 |[],_,_,h=>by cases h
 | (m,y)::T,n,x,h=>by
  rw[iF] at h
  split at h
  .rename_i e
   cases h
   rw[b9 e]
   exact aP
  .exact ay _ (Cu h)
theorem Gw:∀{T:Tr}{n:Str}{x:Rc},(T.map (·.1)).Nodup->(n,x)∈T->T.lookup n=some x
 | (m,y)::T,n,x,nd,h=>by
  rw[aX,bN] at nd
  rw[iF]
  rcases List.mem_cons.mp h with e|h
  .cases e
   rw[beq_self_eq_true]
  .have:(n==m)=false:=beq_false_of_ne λe=>nd.1 (by rw[<- e];exact List.mem_map.mpr ⟨(n,x),h,rfl⟩)
   rw[this]
   exact Gw nd.2 h
theorem Du{n:Nat}:∀{l:List TK},(∀k∈l,Ax k<=n)->Cm l<=n
 |[],_=>by unfold Cm;exact bu _
 |d::ds,h=>by unfold Cm;exact Nat.max_le.mpr ⟨h d aP,Du λx hx=>h x (ay _ hx)⟩
def Iq(k:Key)(n:Nat):Ax (.at_ k)<=n:=by unfold Ax;exact bu _
def Yn{x:Rc}(h:Ax x.c<=2):Ax (rcT x)<=3:=by
 refine dy (Du λk hk=>?_)
 simp only[az,cP,or_false] at hk
 rcases hk with rfl|rfl|rfl|rfl
 .exact Iq _ _
 .exact Iq _ _
 .exact Iq _ _
 .exact h
def bt9{T:Tr}(o:okTr T):Ax (vkT T)<=8:=by
 refine dy (aT (Du (n:=4) λk hk=>?_) (by decide))
 obtain⟨n,_,rfl⟩:=List.mem_map.mp hk
 refine dy (Du λk hk=>?_)
 simp only[az,cP,or_false] at hk
 rcases hk with rfl|rfl
 .exact Iq _ _
 .unfold ab3
  cases e:T.lookup n with
  |none=>unfold Option.map Option.getD Ax Cm;decide
  |some x=>exact Yn (o.2.2 (n,x) (Cu e)).1
theorem Ta{α β:Type}{F G:α->β}(h:∀a b,F a=G b->a=b):∀{l m:List α},l.map F=m.map G->l=m
 |[],[],_=>rfl
 |[],_::_,e=>by cases e
 |_::_,[],e=>by cases e
 | a::l,b::m,e=>by
  rw[aX,aX] at e
  injection e with e1 e2
  rw[h a b e1,Ta h e2]
def Vw{T:Tr}{n:Str}{x:Rc}(h:T.lookup n=some x):ab3 T n=rcT x:=by unfold ab3;rw[h];rfl
def Kv{T:Tr}{n:Str}(h:¬ n∈T.map (·.1)):T.lookup n=none:=by
 cases e:T.lookup n with
 |none=>rfl
 |some x=>exact absurd (List.mem_map.mpr ⟨(n,x),Cu e,rfl⟩) h
def Gv(o:okTr T)(h:n∈T.map (·.1)):∃x,T.lookup n=some x/\(n,x)∈T:=by
 obtain⟨⟨m,x⟩,hx,rfl⟩:=List.mem_map.mp h
 exact⟨x,Gw o.1 hx,hx⟩
def Dp(o:okTr T)(n:Str):(stT T n).isSome=true↔n∈T.map (·.1):=by
 by_cases h:n∈T.map (·.1)
 .obtain⟨x,e,_⟩:=Gv o h
  unfold stT;rw[e];exact⟨λ_=>h,λ_=>rfl⟩
 .unfold stT;rw[Kv h];exact⟨λz=>(by cases z),λz=>absurd z h⟩
def Yy(o:okTr T)(o':okTr T')(e:vkT T=vkT T')(n:Str):stT T n=stT T' n:=by
 injection e with e
 have en:=Ta (λa b z=>by injection z with z;injection z with z _;injection z with z;injection z) e
 have mm:∀n,n∈T.map (·.1)↔n∈T'.map (·.1):=λn=>by rw[<- (Au ltS (T.map (·.1))).mem_iff,en,(Au _ _).mem_iff]
 by_cases h:n∈T.map (·.1)
 .obtain⟨x,ex,_⟩:=Gv o h
  obtain⟨y,ey,_⟩:=Gv o' ((mm n).mp h)
  rw[<- en] at e
  have:=List.map_inj_left.mp e n ((Au _ _).mem_iff.mpr h)
  injection this with this
  injection this with _ this
  injection this with this _
  rw[Vw ex,Vw ey] at this
  unfold stT
  rw[ex,ey,dL,dL,this]
 .unfold stT
  rw[Kv h,Kv λz=>h ((mm n).mpr z)]
def Ge(o:okTr T)(n:Str):P2 (vkT T) n↔(stT T n).isSome=true:=⟨fun⟨T',o',e,h⟩=>by rw[<- Yy o' o e];exact h,λh=>⟨T,o,rfl,h⟩⟩
def au7(nd:l.Nodup)(nd':l'.Nodup)(h:∀z,z∈l↔z∈l'):Ck ltS l=Ck ltS l':=by
 have p:=(List.perm_ext_iff_of_nodup nd nd').mpr h
 have o:=Eb ((Au ltS l).nodup_iff.mpr nd)
 exact Gj o ((Au _ _).trans (p.trans (Au _ _).symm)) (C7 (Eb nd)) (C7 (Eb nd'))
def Jm(gs:List Mk)(p:Mk):(L9 gs p).map (·.1)=if p.1∈gs.map (·.1) then gs.map (·.1) else gs.map (·.1)++[p.1]:=by
 unfold L9
 by_cases h:p.1∈gs.map (·.1)
 .rw[if_pos h,if_pos h,aC]
  exact cU λg _=>by show(if _ then _ else _:Mk).1=_;split <;> rfl
 .rw[if_neg h,if_neg h,aw];rfl
theorem gm_key:∀{r:List Mk},k∈(Ef r).map (·.1)↔k∈r.map (·.1)
 |[]=>mN
 | p::r=>by
  show k∈(L9 (Ef r) p).map (·.1)↔_
  rw[Jm,aX,az]
  by_cases h:p.1∈(Ef r).map (·.1)
  .rw[if_pos h,gm_key]
   exact⟨.inr,λq=>q.elim (λz=>by rw[z];exact gm_key.mp h) id⟩
  .rw[if_neg h,ax,gm_key,aJ]
   exact⟨Or.symm,Or.symm⟩
theorem Sn:∀r:List Mk,((Ef r).map (·.1)).Nodup
 |[]=>jg
 | p::r=>by
  show((L9 (Ef r) p).map (·.1)).Nodup
  rw[Jm]
  by_cases h:p.1∈(Ef r).map (·.1)
  .rw[if_pos h];exact Sn r
  .rw[if_neg h]
   exact List.nodup_append.mpr ⟨Sn r,by simp,λx hx z hz e=>h (List.mem_singleton.mp hz▸e▸hx)⟩
theorem U7:∀{r:List Mk}{g:Mk},g∈Ef r -> ∀j,g.2.testBit j=true ↔ ∃p∈r,p.1=g.1/\p.2.testBit j=true
 |[],g,h,j=>by cases h
 | p::r,g,h,j=>by
  have h:g∈L9 (Ef r) p:=h
  have ex:∀{F:Mk->Prop},(∃q∈p::r,F q)↔F p \/ ∃q∈r,F q:=by simp
  rw[ex]
  unfold L9 at h
  split at h
  .obtain⟨q,hq,rfl⟩:=List.mem_map.mp h
   have ih:=U7 hq j
   split
   .rename_i e
    show(q.2 ||| p.2).testBit j=true↔_
    rw[iq,cB,ih]
    exact⟨λz=>z.elim .inr λb=>.inl ⟨e.symm,b⟩,λz=>z.elim (λb=>.inr b.2) .inl⟩
   .rename_i e
    rw[ih]
    exact⟨.inr,λz=>z.elim (λb=>absurd b.1.symm e) id⟩
  .rename_i hk
   rcases List.mem_append.mp h with h|h
   .rw[U7 h j]
    exact⟨.inr,λz=>z.elim (λb=>absurd (List.mem_map.mpr ⟨g,h,b.1.symm⟩) hk) id⟩
   .obtain rfl:=List.mem_singleton.mp h
    exact⟨λb=>.inl ⟨rfl,b⟩,λz=>z.elim (·.2) fun⟨q,hq,e,_⟩=>absurd (gm_key.mpr (List.mem_map.mpr ⟨q,hq,e⟩)) hk⟩
section
variable {P:aO}{w:bw}{K:ac}{mg:Str->Option Value}{base:Heap}{t:Adr}
def bm5(Z:An K t):OkD K ag0 (Av K t) bl (t.f 6) (t.d 6) (Mf K t):=by
 refine A5 (b79 K t) λvs H Q E h=>?_
 .obtain⟨a,ms,rfl,hS,k⟩:=h;refine⟨rfl,?_⟩
  refine .inl ⟨⟨_,hS⟩,?_⟩
  refine Az (As (ms.map V.int)) (λi σ H'=>(∃v2,σ=[some (.ref a),some (.int (G4 (ms.take i))),v2])/\H'=H) ⟨⟨_,rfl⟩,rfl⟩ (λi σ H' _ q=>q.2▸hS) ?_ ?_
  .rintro i x σ H' hx ⟨⟨v2,rfl⟩,rfl⟩
   obtain⟨m,hm,rfl⟩:=Am hx
   have e:G4 (ms.take (i+1))=c7 (G4 (ms.take i)) m:=D0 hm _ _
   exact⟨⟨_,congrArg (λz=>[some (V.ref a),some (V.int z),some (V.int m)]) e.symm⟩,rfl⟩
  .rintro σ H' ⟨⟨v2,rfl⟩,rfl⟩
   rw[ae,aK]
   exact .inl k
def bn0(Z:An K t):OkD K ag5 (Av K t) bl (t.f 16) (t.d 16) (Ww K t):=by
 refine A5 (b84 K t) λvs H Q E h=>?_
 .obtain⟨a,ms,rfl,hS,hb,k⟩:=h;refine⟨rfl,?_⟩
  refine .inl ⟨⟨_,hS⟩,?_⟩
  refine Az (As (ms.map λn:Nat=>V.int n)) (λi σ H'=>(∃v2,σ=[some (.ref a),some (.int (ab7 (ms.take i))),v2])/\H'=H) ⟨⟨_,rfl⟩,rfl⟩ (λi σ H' _ q=>q.2▸hS) ?_ ?_
  .rintro i x σ H' hx ⟨⟨v2,rfl⟩,rfl⟩
   obtain⟨m,hm,rfl⟩:=Am hx
   have e:ab7 (ms.take (i+1))=c7 (ab7 (ms.take i)) (1*2^((m:Int)).toNat):=by
    rw[lN,aQ]
    exact D0 hm _ _
   have hm2:=hb m (ak hm)
   exact⟨⟨by omega,by omega,by decide⟩,⟨⟨_,congrArg (λz=>[some (V.ref a),some (V.int z),some (V.int m)]) e.symm⟩,rfl⟩⟩
  .rintro σ H' ⟨⟨v2,rfl⟩,rfl⟩
   rw[ae,aK]
   exact .inl k
def bj5(Z:An K t):OkD K Xa (Av K t) bl (t.m_zcc 3) (t.e_zcc 3) (Wa K t):=by
 refine A5 (b50 K t) λvs H Q E h=>?_
 .obtain⟨p,l,s,sw,rfl,⟨dx,fs,⟨_,hp⟩,hl,hs,hm⟩,⟨ds,e,⟨_,o⟩,_⟩,k⟩:=h;refine⟨rfl,?_⟩
  refine eW ⟨_,_,_,_,hp,Z.pf.cl,(Z.pf.na _ (by simp)),hl,(.inl ⟨_,.inl (SqL.of o),?_⟩)⟩
  have el:(ds.map λx=>V.ref x.2).length=(Al sw).length:=by rw[<- e];simp
  rw[el]
  exact k
def bz0(Z:An K t):OkD K ax2 (Av K t) bl (t.m_zcc 0) (t.e_zcc 0) (as4 K t):=by
 refine A5 (cc7 K t) λvs H Q E h=>?_
 .obtain⟨p,l,s,sw,rfl,hs,ht,hn,k⟩:=h;refine⟨rfl,?_⟩
  obtain⟨dx,fs,⟨_,hp⟩,_,_,hm⟩:=id hs
  refine⟨p,dx,fs,⟨t.c_zcc,ak0 K t⟩,rfl,.head _,hp,hm _ (by decide),⟨aF rfl,aF rfl⟩,?_⟩
  refine⟨p,l,s,sw,rfl,hs,ht,⟨by omega,by omega,by decide⟩,?_⟩
  have e:1*2^(((Al sw).length:Int)).toNat-1=Rt sw:=by rw[lN,aQ];rfl
  show Q (.int (1*2^(((Al sw).length:Int)).toNat-1)) H
  rw[e]
  exact k
def bk0(Z:An K t):OkD K ae0 (Av K t) bl (t.f 7) (t.d 7) (We K t):=by
 refine A5 (b55 K t) λvs H Q E h=>?_
 .obtain⟨z,lo,hi,rfl,hz,k⟩:=h;refine⟨rfl,?_⟩
  exact⟨rfl,aT hz (by decide),Og k⟩
def bk7(Z:An K t):OkD K ae3 (Av K t) bl (t.f 8) (t.d 8) (Wj K t):=by
 refine A5 (bc5 K t) λvs H Q E h=>?_
 .obtain⟨c,rfl,k⟩:=h;refine⟨rfl,?_⟩
  dsimp only[bc5,Ae,Aq]
  exact az8 (s1 := "a") (s2 := "z") (by decide +kernel) (by decide +kernel) (by rfl) k
def bm6(Z:An K t):OkD K ag1 (Av K t) bl (t.f 9) (t.d 9) (Q0 K t):=by
 refine A5 (b80 K t) λvs H Q E h=>?_
 .obtain⟨z,rfl,hz,k⟩:=h;refine⟨rfl,?_⟩
  have hl:z.length<=1000:=aT hz.2.1 (by decide)
  refine⟨z,1,8,rfl,hl,?_⟩
  have e:(decide (1<=(z.length:Int))&&decide ((z.length:Int)<=8))=true:=by
   have h1:=hz.1
   have h2:=hz.2.1
   simp
   omega
  refine Lk e ?_
  refine Y6 (p:=Ku) hl (λc σ H1 Q1 hσ q=>?_) λH' S=>?_
  .match σ,hσ with
   |[_],_=>exact⟨c,rfl,q⟩
  .rw[hz.2.2];exact k H' S
def bz4(Z:An K t):OkD K bd5 (Av K t) bl (t.f 10) (t.d 10) (Yv K t):=by
 refine A5 (cd1 K t) λvs H Q E h=>?_
 .obtain⟨a,l,rfl,hS,hl,k⟩:=h;refine⟨rfl,?_⟩
  refine⟨_,true,.sqL rfl hS rfl,rfl,?_⟩
  refine .inl ⟨⟨_,hS⟩,?_⟩
  refine Rx (σ:=[none]) (As (l.map V.str)) (λσ=>σ.length=1) (λH1 S=>S.seqL hS) ?_ rfl (λσ x hσ=>by rw[fZ];exact hσ) ?_ λD1 H1 S1 q1=>⟨_,q1,?_⟩
  .rw[ae];exact a_ hl.2.2 (by decide)
  .intro x σ H1 Q1 hx hσ S q
   obtain⟨z,hz,rfl⟩:=List.mem_map.mp hx
   match σ,hσ with
   |[_],_=>exact⟨z,rfl,hl.1 z hz,q⟩
  .rw[Xo]
   refine⟨l,S1.seqL hS,a_ hl.2.2 (by decide),.inl ⟨_,.inl (S1.seqL hS),?_⟩⟩
   rw[a17 hl.2.1,ae]
   have e:decide (l.length=(l.length:Int))=true:=by simp
   show Q (.bl (decide (l.length=(l.length:Int)))) H1
   rw[e]
   exact k H1 S1
def bk8(Z:An K t):OkD K ae4 (Av K t) bl (t.f 12) (t.d 12) (Wk K t):=by
 refine A5 (b62 K t) λvs H Q E h=>?_
 .obtain⟨a,b,wd,l,rfl,ha,hb,hw,hl,k⟩:=h;refine⟨rfl,?_⟩
  have qa:=SqT.of (K:=K) ha
  have qb:=SqL.of (K:=K) hb
  refine⟨_,true,.sqT rfl qa rfl,rfl,?_⟩
  refine .inl ⟨_,.inr qa,?_⟩
  refine⟨_,_,.inr qa,rfl,?_⟩
  refine⟨wd,rfl,hw,λH1 S1=>?_⟩
  refine⟨_,_,.inr (S1.seqT qa),rfl,?_⟩
  refine⟨b,l,rfl,S1.seqL qb,hl.1,λH2 S2=>?_⟩
  have S:=S1.trans S2
  refine⟨_,_,.inr (S.seqT qa),rfl,.inl ⟨_,.inl (S.seqL qb),?_⟩⟩
  rw[ae]
  have e:(decide (2<=(l.length:Int))&&decide ((l.length:Int)<=4))=true:=by
   have h1:=hl.2.1
   have h2:=hl.2.2
   simp
   omega
  exact Og (e▸k H2 S)
def Qg{es:List ((Str×List Str)×Addr)}{sw:Sw}{i:Nat}{e:Str×List Str}(he:es.map (·.1)=sw.take i)(hi:sw[i]?=some e)(nd:(sw.map (·.1)).Nodup):Be (es.map kR) (.inr e.1)=none:=by
 refine Ci ?_
 rw[Kt,he]
 intro hm
 obtain⟨w,hw,e2⟩:=List.mem_map.mp hm
 cases e2
 have h1:(sw.map (·.1))[i]?=some e.1:=by rw[al,hi];rfl
 rw[gZ] at hw
 obtain⟨j,hj,e3⟩:=List.mem_iff_getElem.mp hw
 rw[aN] at hj
 rw[List.getElem_take] at e3
 have hi2:=Aj h1
 have e4:(sw.map (·.1))[i]=e.1:=by
  have:=aj hi2
  rw[this] at h1
  exact aG h1
 have:=(du (i:=j) (h₁:=hi2) nd).mp (by rw[e3,e4])
 omega
def Kq{es:List ((Str×List Str)×Addr)}{e:Str×List Str}{a:Addr}(h:Be (es.map kR) (.inr e.1)=none):Ce (es.map kR) (.inr e.1) (.ref a)=(es++[(e,a)]).map kR:=by
 rw[Ft _ h,aw]
 rfl
def U1{α β:Type}{es:List (α×β)}{sw:List α}{i:Nat}(h:es.map (·.1)=sw.take i):es.length<=sw.length:=by
 have:=congrArg cy h
 rw[ae,aN] at this
 omega
def Hm{α β:Type}{es:List (α×β)}{sw:List α}{i:Nat}{e:α}{a:β}(h:es.map (·.1)=sw.take i)(hi:sw[i]?=some e):(es++[(e,a)]).map (·.1)=sw.take (i+1):=by
 rw[aw,h,aY,hi]
 rfl
def b04(Z:An K t):OkD K bd7 (Av K t) bl (t.f 13) (t.d 13) (at8 K t):=by
 refine A5 (ce2 K t) λvs H Q E h=>?_
 .obtain⟨a,sw,rfl,⟨ds,ed,⟨_,oa⟩,hd⟩,hw,k⟩:=h;refine⟨rfl,?_⟩
  have ql:=SqL.of (K:=K) oa
  have el:(ds.map λx=>V.ref x.2).length=sw.length:=by rw[<- ed];simp
  refine⟨_,true,.sqL rfl ql rfl,rfl,?_⟩
  refine .inl ⟨_,.inl ql,?_⟩
  rw[el]
  have e1:decide (1<=(sw.length:Int))=true:=by have:=hw.1;simp;omega
  have e2:decide ((sw.length:Int)<=5)=true:=by have:=hw.2.1;simp;omega
  refine Lk e1 (E8 (by rw[e2];rfl) ?_)
  intro d hd0
  refine .inl (.inl ⟨⟨_,(Same.upd hd0).seqL ql⟩,?_⟩)
  refine Az (As (ds.map λx=>V.ref x.2)) (λi σ H'=>(∃v3,σ=[some (.ref a),some (.ref d),some (.int (Cq (sw.take i):Nat)),v3])/\Same H H' /\
    ∃es,es.map (·.1)=sw.take i/\H' d=some (.dK (es.map kR))/\∀x∈es,H x.2=none/\H' x.2=some (E4 x.1.2))
   ⟨⟨_,rfl⟩,Same.upd hd0,[],rfl,Ac,λx hx=>by cases hx⟩ (λi σ H' _ q=>q.2.1.seqL ql) ?_ ?_
  .rintro i x σ H1 hx ⟨⟨v3,rfl⟩,S1,es,ee,e1d,he⟩
   obtain⟨⟨⟨e,la⟩,ta⟩,hi,rfl⟩:=Am hx
   have hi2:sw[i]?=some e:=by rw[<- ed,al,hi];rfl
   obtain⟨⟨_,h1⟩,_,h2⟩:=hd _ (ak hi)
   have hok:=hw.2.2.2.1 e (ak hi2)
   have nk:=Qg ee hi2 hw.2.2.1
   refine⟨ta,la,e.1,e.2,rfl,S1 _ _ h1,S1 _ _ h2,hok.1,hok.2,λH2 S2=>?_⟩
   have S:=S1.trans S2
   have qt:=SqT.of (K:=K) (S _ _ h1)
   have qa:=SqL.of (K:=K) (S _ _ h2)
   refine⟨_,_,.inr qt,rfl,.inr ⟨_,.inl ⟨_,.inr e.1,.inl (S2 _ _ e1d),rfl,rfl⟩,?_⟩⟩
   rw[nk]
   refine⟨_,_,.inr qt,rfl,_,.inl ⟨qa,λtp htp=>?_⟩⟩
   have S3:=Same.upd (o:=E4 e.2) htp
   have et:upd H2 tp (E4 e.2) tp=some (E4 e.2):=Ac
   have hft:=S.free htp
   generalize upd H2 tp (E4 e.2)=H3 at S3 et ⊢
   have Sa:=S.trans S3
   have e3d:=S3 _ _ (S2 _ _ e1d)
   have ndt:=Ai (S2 _ _ e1d) htp
   refine⟨_,_,.inr (S3.seqT qt),rfl,_,DPut.k (k:=.inr e.1) e3d ?_,?_⟩
   .rw[ae]
    have:=U1 ee
    have:=hw.2.1
    exact a_ (show es.length<=5 by omega) (by decide)
   rw[Kq nk]
   have Sb:Same H (upd H3 d (.dK ((es++[(e,tp)]).map kR))):=Sa.set hd0
   have keep:∀b,b≠d->upd H3 d (.dK ((es++[(e,tp)]).map kR)) b=H3 b:=λb hb=>Ad hb
   have ebd:upd H3 d (.dK ((es++[(e,tp)]).map kR)) d=some (.dK ((es++[(e,tp)]).map kR)):=Ac
   generalize upd H3 d (.dK ((es++[(e,tp)]).map kR))=H4 at Sb keep ebd ⊢
   refine⟨_,_,.inr (SqT.of (Sb _ _ h1)),rfl,.inl ⟨_,.inl (SqL.of (Sb _ _ h2)),?_⟩⟩
   rw[ae]
   have pm:((Cq (sw.take i):Nat):Int)*e.2.length=((Cq (sw.take (i+1)):Nat):Int):=by
    unfold Cq
    rw[D0 hi2,kq]
   have hb4:=hok.2.2.2
   refine⟨.inr ⟨show -(2^64)<(e.2.length:Int) by omega,show(e.2.length:Int)<2^64 by omega⟩,?_⟩
   refine⟨⟨_,congrArg (λz=>[some (V.ref a),some (V.ref d),some (V.int z),some (V.ref ta)]) pm⟩,Sb,es++[(e,tp)],Hm ee hi2,ebd,?_⟩
   intro x hx
   rcases List.mem_append.mp hx with hx|hx
   .obtain⟨a1,a2⟩:=he x hx
    refine⟨a1,?_⟩
    rw[keep x.2 (λz=>by rw[z,e1d] at a2;cases a2)]
    exact S3 _ _ (S2 _ _ a2)
   .have:x=(e,tp):=by simpa using hx
    subst this
    exact⟨hft,by rw[keep _ (bY ndt)];exact et⟩
  .rintro σ H1 ⟨⟨v3,rfl⟩,S1,es,ee,e1d,he⟩
   rw[el,aK] at ee
   rw[el,aK]
   refine .inl (E8 ?_ ?_)
   .have:=hw.2.2.2.2
    simp
    omega
   .exact k H1 d S1 ⟨es,ee,⟨hd0,e1d⟩,he⟩
def b11(Z:An K t):OkD K be0 (Av K t) bl (t.f 11) (t.d 11) (au5 K t):=by
 refine A5 (ce9 K t) λvs H Q E h=>?_
 .obtain⟨r,rule,rfl,⟨ds,ed,⟨_,od⟩,hd⟩,nd,hl,k⟩:=h;refine⟨rfl,?_⟩
  intro c hc
  have ncr:=Ai od hc
  have od1:upd H c (.dK []) r=some (.dK (ds.map kR)):=by rw[Ad ncr];exact od
  refine .inl (.inr (.inr (.inl (.inl ⟨_,od1,λo=>?_⟩))))
  have Hf:∀b u,b≠r->H b=some u->upd (upd H c (.dK [])) r (.frz o (.dK (ds.map kR))) b=some u:=λb u hb e=>by
   rw[Ad hb,Ad (Ai e hc)];exact e
  have ef:upd (upd H c (.dK [])) r (.frz o (.dK (ds.map kR))) r=some (.frz o (.dK (ds.map kR))):=Ac
  have ec:upd (upd H c (.dK [])) r (.frz o (.dK (ds.map kR))) c=some (.dK []):=by rw[Ad (bY ncr),Ac]
  have len:ds.length=rule.length:=by rw[<- ed];simp
  generalize upd (upd H c (.dK [])) r (.frz o (.dK (ds.map kR)))=H0 at Hf ef ec ⊢
  refine Az (Ee (ds.map kR)) (λi σ H'=>(∃v2,σ=[some (.ref r),some (.ref c),v2])/\(∀b u,b≠r->H b=some u->H' b=some u)/\H' r=some (.frz o (.dK (ds.map kR))) /\
    ∃es,es.map (·.1)=rule.take i/\H' c=some (.dK (es.map kR))/\∀x∈es,H x.2=none/\H' x.2=some (Bk x.1.2))
   ⟨⟨_,rfl⟩,Hf,ef,[],rfl,ec,λx hx=>by cases hx⟩ (λi σ H' _ q=>q.2.2.1) ?_ ?_
  .rintro i x σ H1 hx ⟨⟨v2,rfl⟩,S1,f1,es,ee,e1c,he⟩
   obtain⟨kv,hi0,rfl⟩:=Am hx
   obtain⟨⟨e,la⟩,hi,rfl⟩:=Am hi0
   have hi2:rule[i]?=some e:=by rw[<- ed,al,hi];rfl
   obtain⟨_,h2⟩:=hd _ (ak hi)
   have nla:la≠r:=λz=>by rw[z,od] at h2;cases h2
   have nk:=Qg ee hi2 nd
   have hv:=Bs (Ez ed nd) hi0
   refine⟨.ref la,.inl ⟨_,.inr e.1,.inr ⟨o,f1⟩,rfl,hv.symm⟩,.inl ⟨_,.inl (SqL.of (S1 _ _ nla h2)),λlc hlc=>?_⟩⟩
   have S3:=Same.upd (o:=Bk e.2) hlc
   have et:upd H1 lc (Bk e.2) lc=some (Bk e.2):=Ac
   have nlr:=(Ai f1 hlc).symm
   have hft:H lc=none:=by
    cases q:H lc with
    |none=>rfl
    |some u=>rw[S1 _ _ nlr q] at hlc;cases hlc
   have ndt:=Ai e1c hlc
   generalize upd H1 lc (Bk e.2)=H3 at S3 et ⊢
   refine⟨_,DPut.k (S3 _ _ e1c) ?_,?_⟩
   .rw[ae]
    have:=U1 ee
    exact a_ (show es.length<=100 by omega) (by decide)
   rw[Kq nk]
   refine⟨⟨_,rfl⟩,λb u hb e4=>?_,?_,es++[(e,lc)],Hm ee hi2,Ac,?_⟩
   .rw[Ad (Ai e4 hc)];exact S3 _ _ (S1 _ _ hb e4)
   .rw[Ad ncr];exact S3 _ _ f1
   .intro x hx
    rcases List.mem_append.mp hx with hx|hx
    .obtain⟨a1,a2⟩:=he x hx
     refine⟨a1,?_⟩
     rw[Ad (λz=>by rw[z,e1c] at a2;cases a2)]
     exact S3 _ _ a2
    .have:x=(e,lc):=by simpa using hx
     subst this
     exact⟨hft,by rw[Ad (bY ndt)];exact et⟩
  .rintro σ H1 ⟨⟨v2,rfl⟩,S1,f1,es,ee,e1c,he⟩
   rw[ae,ae,len,aK] at ee
   refine .inr ⟨r,o,_,od1,f1,?_⟩
   refine k _ c (λb u e4=>?_) ⟨es,ee,⟨hc,?_⟩,λx hx=>⟨(he x hx).1,?_⟩⟩
   .by_cases hb:b=r
    .subst hb;rw[Ac,<- od,e4]
    .rw[Ad hb];exact S1 _ _ hb e4
   .rw[Ad (bY ncr)];exact e1c
   .rw[Ad (λz=>by have:=(he x hx).1;rw[z,od] at this;cases this)];exact(he x hx).2
theorem Kw{H:Hp}:∀r:List Str,A9 H (r.map λz=>.at_ (.inr z)) (r.map V.str)/\Cm (r.map λz=>.at_ (.inr z))=0
 |[]=>⟨by unfold A9;rfl,rfl⟩
 |z::r=>⟨by rw[aX];unfold A9;exact⟨_,_,rfl,by unfold TkAt;rfl,(Kw r).1⟩,by rw[aX,Cm,(Kw (H:=H) r).2];rfl⟩
def bi8{H:Hp}{b:Addr}{r:List Str}(h:H b=some (E4 r)):Ax (a25 r)<=8/\TkAt H (a25 r) (.ref b):=by
 refine⟨?_,?_⟩
 .unfold a25 Ax;rw[(Kw (H:=H) r).2];decide
 .unfold a25 TkAt;exact⟨b,_,rfl,h,(Kw r).1⟩
def Eu{α:Type}{l:List α}{i:Nat}{x:α}(nd:l.Nodup)(h:l[i]?=some x):¬ x∈l.take i:=by
 intro hm
 obtain⟨j,hj,e⟩:=List.mem_iff_getElem.mp hm
 rw[aN] at hj
 rw[List.getElem_take] at e
 have hi:=Aj h
 rw[aj hi] at h
 have:=(du (i:=j) (h₁:=hi) nd).mp (by rw[e];exact(aG h).symm)
 omega
def by8(Z:An K t):OkD K bd3 (Av K t) bl (t.f 15) (t.d 15) (ar9 K t):=by
 refine A5 (cc5 K t) λvs H Q E h=>?_
 .obtain⟨l,rows,rfl,⟨ds,ed,⟨_,ol⟩,hd⟩,nd,hl,k⟩:=h;refine⟨rfl,?_⟩
  intro n hn
  have ql:=SqL.of (K:=K) ol
  have len:(D9 0 (ds.map λx=>V.ref x.2)).length=rows.length:=by rw[Bp,<- ed];simp
  refine .inr (.inl ⟨⟨_,(Same.upd hn).seqL ql⟩,?_⟩)
  refine Ho (E5 (ds.map λx=>V.ref x.2)) (λi σ H'=>(∃v2 v3,σ=[some (.ref l),some (.ref n),v2,v3])/\Same H H'/\∃kvs,H' n=some (.dT kvs)/\kvs.length<=i)
   ⟨⟨_,_,rfl⟩,Same.upd hn,_,Ac,ag _⟩ (λi σ H' _ q=>q.2.1.seqL ql) ?_ ?_
  .rintro i x y T σ H1 hxy hT ⟨⟨v2,v3,rfl⟩,S1,kvs,e1,le⟩
   have hi':=Aj hxy
   have hi':=hi'
   rw[Bp,ae] at hi'
   obtain⟨⟨r,b⟩,hi⟩:∃z,ds[i]?=some z:=⟨_,aj hi'⟩
   rw[C6 (k:=0) (xs:=ds.map λx=>V.ref x.2) (i:=i) (x:=.ref b) (by rw[al,hi];rfl)] at hxy
   obtain⟨rfl,rfl⟩:V.int ((0+i):Int)=x/\V.ref b=y:=by simpa using hxy
   refine gn hT λH2 ST eST=>?_
   refine⟨_,.inl (SqT.of eST),rfl,?_⟩
   have S2:=S1.trans ST
   exact⟨_,DPut.t (ST _ _ e1) (bi8 (S2 _ _ (hd _ (ak hi)).2)) (a_ (show kvs.length<=256 by rw[<- ed,ae] at hl;omega) (by decide)),⟨_,_,rfl⟩,S2.set hn,_,Ac,aT (Co _ _ _) (dy le)⟩
  .rintro σ H1 ⟨⟨v2,v3,rfl⟩,S1,kvs,e1,_⟩
   exact .inl (k H1 n S1 ⟨kvs,hn,e1⟩)
def b97{H:Hp}{aa p:Addr}{a:List Str}{z:Str}{Q:VK}(ha:H aa=some (E4 a))(hp:H p=some (.tup [.str z]))(hl:a.length<=100)(k:∀q H',Same H H'->H' q=some (E4 (a++[z]))->(H q=none\/q=p)->Q (.ref q) H'):A8 K (.ref aa) (.ref p) H Q:=by
 cases a with
 |nil=>exact .inr (.inr ⟨aa,p,_,rfl,rfl,SqT.of ha,SqT.of hp,k p H (Same.refl _) hp (.inr rfl)⟩)
 |cons y a=>
  refine .inr (.inl ⟨aa,p,_,_,rfl,rfl,SqT.of ha,SqT.of hp,by simp,?_,(λe=>by cases e),λ_ q hq=>?_⟩)
  .rw[ae]
   exact aT (show(y::a).length+1<=101 by omega) (by decide)
  .refine k q _ (Same.upd hq) ?_ (.inl hq)
   rw[Ac,E4,aw]
   rfl
def Zh{α:Type}{ok:Addr->Prop}{H:Hp}{f:α->HO}{es:List (α×Addr)}{e:α}{a:Addr}(h:∀x∈es,ok x.2/\H x.2=some (f x.1))(h1:ok a)(h2:H a=some (f e)):∀x∈es++[(e,a)],ok x.2/\H x.2=some (f x.1):=by
 intro x hx
 rcases List.mem_append.mp hx with hx|hx
 .exact h x hx
 .have:x=(e,a):=by simpa using hx
  subst this
  exact⟨h1,h2⟩
def a00{α:Type}{ok:Addr->Prop}{H H':Hp}{f:α->HO}{es:List (α×Addr)}(S:Same H H')(h:∀x∈es,ok x.2/\H x.2=some (f x.1)):∀x∈es,ok x.2/\H' x.2=some (f x.1):=λx hx=>⟨(h x hx).1,S _ _ (h x hx).2⟩
def ac1{rows:List (List Str)}{j:Nat}{r:List Str}{x:Str×List Str}(h:rows[j]?=some r):Es (rows.take (j+1)) x=Es (rows.take j) x++x.2.map λz=>r++[z]:=by
 unfold Es
 rw[aY,h,d7,List.flatMap_append]
 simp
def Ve{E:EK}{H0 H:Hp}{aa ta:Addr}{a:List Str}{l:List Str}{σ:St}{R:Hp->Addr->Prop}(hσ:∃v,σ=[v,some (.ref aa)])(S0:Same H0 H)(ha:H aa=some (E4 a))(ht:H ta=some (E4 l))(hl:a.length<=100)(hl2:l.length<=8)(k:∀D H',Same H H'->H D=none -> ∀fs:List (List Str×Addr),fs.map (·.1)=l.map (λz=>a++[z])->H' D=some (.lst (fs.map λx=>.ref x.2))->(∀x∈fs,H0 x.2=none/\H' x.2=some (E4 x.1))->R H' D) :
  ∀D,H D=none->Gk (Itt K ta) (gdN 0) Cc (Ah (A8 K) (Aa 1) (Eh (Ab (Aa 0) Ag))) D (λH'=>R H' D) σ (upd H D (.lst [])) E:=by
 intro D hD
 refine De (ax0 (l.map V.str)) (λm σ H'=>(∃v,σ=[v,some (.ref aa)])/\Same H H'/\∃fs:List (List Str×Addr),fs.map (·.1)=(l.take m).map (λz=>a++[z])/\H' D=some (.lst (fs.map λx=>.ref x.2))/\∀x∈fs,H0 x.2=none/\H' x.2=some (E4 x.1))
  ⟨hσ,Same.upd hD,[],rfl,Ac,λx hx=>by cases hx⟩ (λm σ H' _ q=>q.2.1.seqT (SqT.of ht)) ?_ ?_
 .rintro m x σ H1 hx ⟨⟨v,rfl⟩,S1,fs,ef,eD,hf⟩
  obtain⟨z,hz,rfl⟩:=Am hx
  refine⟨cf3,λp hp=>?_⟩
  refine gn hp λH2 Sp ep=>?_
  refine b97 (Sp _ _ (S1 _ _ ha)) ep hl λq H3 S3 eq nq=>?_
  have S03:=S0.trans (S1.trans (Sp.trans S3))
  have hq0:H0 q=none:=by
   rcases nq with nq|rfl
   .exact (S0.trans (S1.trans Sp)).free nq
   .exact (S0.trans S1).free hp
  have qD:q≠D:=by
   rcases nq with nq|rfl
   .exact (Ai (Sp _ _ eD) nq).symm
   .exact (Ai eD hp).symm
  have eD3:=S3 _ _ (Sp _ _ eD)
  refine⟨_,eD3,?_,⟨_,rfl⟩,(S1.trans (Sp.trans S3)).set hD,fs++[(a++[z],q)],?_,?_,?_⟩
  .rw[ae]
   have:=congrArg cy ef
   rw[ae,ae,aN] at this
   exact a_ (show fs.length<=8 by omega) (by decide)
  .rw[aw,ef,Cg hz];rfl
  .rw[Ac,aw];rfl
  .have hf3:=Zh (ok:=λa=>H0 a=none) (a00 (ok:=λa=>H0 a=none) (Sp.trans S3) hf) hq0 eq
   intro x hx
   refine⟨(hf3 x hx).1,?_⟩
   rw[Ad (λe=>by have:=(hf3 x hx).2;rw[e,eD3] at this;cases this)]
   exact(hf3 x hx).2
 .rintro σ H1 ⟨_,S1,fs,ef,eD,hf⟩
  rw[ae,aK] at ef
  exact k D H1 S1 hD fs ef eD hf
def by9(Z:An K t):OkD K bd4 (Av K t) bl (t.f 14) (t.d 14) (as3 K t):=by
 refine A5 (cc6 K t) λvs H Q E h=>?_
 .obtain⟨d,sw,rfl,⟨ds,ed,⟨_,od⟩,hd⟩,hw,k⟩:=h;refine⟨rfl,?_⟩
  refine⟨My,λt0 h0=>⟨cf3,λl0 hl0=>?_⟩⟩
  have St:=Same.upd (o:=.tup []) h0
  have Sl:=Same.upd (o:=.lst [.ref t0]) hl0
  have ft:=h0
  have fl:=St.free hl0
  have et:=Sl _ _ Ac
  have el:upd (upd H t0 (.tup [])) l0 (.lst [.ref t0]) l0=some (.lst [.ref t0]):=Ac
  have S0:=St.trans Sl
  generalize upd (upd H t0 (.tup [])) l0 (.lst [.ref t0])=H0 at S0 et el ⊢
  have od0:=S0 _ _ od
  refine .inr (.inr (.inl (.inl ⟨_,od0,λo=>?_⟩)))
  have len:ds.length=sw.length:=by rw[<- ed];simp
  have kf:Kp (fresh H) H0 (fresh H) (upd H0 d (.frz o (.dK (ds.map kR)))):=Kp.off (Gi od)
  have ef:upd H0 d (.frz o (.dK (ds.map kR))) d=some (.frz o (.dK (ds.map kR))):=Ac
  have ht0:∀x∈ds,upd H0 d (.frz o (.dK (ds.map kR))) x.2=some (E4 x.1.2):=λx hx=>by
   rw[Ad (λe=>by have:=(hd x hx).2;rw[e,od] at this;cases this)]
   exact S0 _ _ (hd x hx).2
  have T0:TupsAt (fresh H) (upd H0 d (.frz o (.dK (ds.map kR)))) l0 (Al (sw.take 0)):=⟨[([],t0)],rfl,kf _ _ ⟨fl,el⟩,λx hx=>by
   have:x=([],t0):=by simpa using hx
   subst this
   exact kf _ _ ⟨ft,et⟩⟩
  have frees:∀{H':Hp}{b:Addr},Same (upd H0 d (.frz o (.dK (ds.map kR)))) H'->H' b=none->H b=none:=λ{H' b} S e=>by
   have e1:=S.free e
   have nb:b≠d:=λz=>by rw[z,ef] at e1;cases e1
   rw[Ad nb] at e1
   exact S0.free e1
  generalize hHf:upd H0 d (.frz o (.dK (ds.map kR)))=Hf at kf ef ht0 T0 frees ⊢
  refine Az (Ee (ds.map kR)) (λi σ H'=>(∃l v2 v3 v4,σ=[some (.ref d),some (.ref l),v2,v3,v4]/\TupsAt (fresh H) H' l (Al (sw.take i)))/\Same Hf H') ⟨⟨_,_,_,_,rfl,T0⟩,Same.refl _⟩ (λi σ H' _ q=>q.2 _ _ ef) ?_ ?_
  .rintro i x σ H1 hx ⟨⟨l,v2,v3,v4,rfl,⟨es,ee,⟨fl1,el1⟩,he⟩⟩,S1⟩
   obtain⟨kv,hi0,rfl⟩:=Am hx
   obtain⟨⟨e,ta⟩,hi,rfl⟩:=Am hi0
   have hi2:sw[i]?=some e:=by rw[<- ed,al,hi];rfl
   have hta:=ht0 _ (ak hi)
   have hoke:=hw.sets e (ak hi2)
   have hv:=Bs (Ez ed hw.2.2.1) hi0
   refine⟨by decide,λl2 hl2=>.inl ⟨⟨_,(Same.upd hl2).seqL (SqL.of el1)⟩,?_⟩⟩
   have f2:=frees S1 hl2
   have Sl2:=Same.upd (o:=.lst []) hl2
   have rl:∀r∈Al (sw.take i),r.length<=100:=λr hr=>by
    have h1:=(Ic (sw:=sw.take i) (λx hx=>hw.sets x (eI hx))).2.1 r hr
    rw[h1,aN]
    have:=hw.2.1
    omega
   have lenr:es.length=(Al (sw.take i)).length:=by rw[<- ee];simp
   have few:(Al (sw.take i)).length<=256:=by rw[Ia];exact aT (aa8 hw i) hw.2.2.2.2
   refine Az (As (es.map λx=>V.ref x.2)) (λj σ H'=>(∃v4,σ=[some (.ref d),some (.ref l),some (.str e.1),some (.ref l2),v4])/\Same H1 H'/\∃fs:List (List Str×Addr),fs.map (·.1)=Es ((Al (sw.take i)).take j) e /\
     H' l2=some (.lst (fs.map λx=>.ref x.2))/\∀x∈fs,H x.2=none/\H' x.2=some (E4 x.1))
    ⟨⟨_,rfl⟩,Sl2,[],rfl,Ac,λx hx=>by cases hx⟩ (λj σ H' _ q=>q.2.1.seqL (SqL.of el1)) ?_ ?_
   .rintro j y σ H2 hy ⟨⟨v4,rfl⟩,S2,fs,efs,e2l,hf⟩
    obtain⟨⟨r,ra⟩,hj,rfl⟩:=Am hy
    have hj2:(Al (sw.take i))[j]?=some r:=by rw[<- ee,al,hj];rfl
    obtain⟨_,hra⟩:=he _ (ak hj)
    have S12:=S1.trans S2
    refine⟨.inl ⟨rfl,_,SqL.of e2l⟩,.ref ta,.inl ⟨_,.inr e.1,.inr ⟨o,S12 _ _ ef⟩,rfl,hv.symm⟩,.inr (.inl ⟨⟨_,SqT.of (S12 _ _ hta)⟩,?_⟩)⟩
    refine Ve (H0:=H1) ⟨_,rfl⟩ S2 (S2 _ _ hra) (S12 _ _ hta) (rl r (ak hj2)) (aT hoke.2.2 (by decide)) λD H3 S3 hD gs eg eD hg=>?_
    have e3l:=S3 _ _ e2l
    have lfs:fs.length<=1024:=by
     have:=congrArg cy efs
     rw[ae,Pd,aN] at this
     have h4:=hoke.2.2
     have:min j (Al (sw.take i)).length*e.2.length<=256*4:=Nat.mul_le_mul (by omega) h4
     omega
    have lgs:gs.length<=4:=by
     have h1:gs.length=e.2.length:=by simpa using congrArg cy eg
     have h2:e.2.length<=4:=hoke.2.2
     omega
    refine⟨l2,D,_,_,rfl,rfl,e3l,eD,?_,⟨_,rfl⟩,(S2.trans S3).set hl2,fs++gs,?_,?_,?_⟩
    .rw[ae,ae]
     exact aT (show fs.length+gs.length<=1028 by omega) (by decide)
    .rw[aw,efs,eg,ac1 hj2]
    .rw[Ac,aw]
    .have h3:∀x∈fs++gs,H x.2=none/\H3 x.2=some (E4 x.1):=λx hx=>by
      rcases List.mem_append.mp hx with hx|hx
      .exact⟨(hf x hx).1,S3 _ _ (hf x hx).2⟩
      .exact⟨frees S1 (hg x hx).1,(hg x hx).2⟩
     intro x hx
     refine⟨(h3 x hx).1,?_⟩
     rw[Ad (λe=>by have:=(h3 x hx).2;rw[e,e3l] at this;cases this)]
     exact(h3 x hx).2
   .rintro σ H2 ⟨⟨v4,rfl⟩,S2,fs,efs,e2l,hf⟩
    rw[ae,lenr,aK] at efs
    refine .inl ⟨⟨_,_,_,_,rfl,fs,?_,⟨f2,e2l⟩,hf⟩,S1.trans S2⟩
    rw[efs]
    exact(D0 hi2 _ _).symm
  .rintro σ H1 ⟨⟨l,v2,v3,v4,rfl,T1⟩,S1⟩
   rw[ae,ae,len,aK] at T1
   refine .inr ⟨d,o,_,od0,S1 _ _ ef,?_⟩
   exact k _ l (S0.trans (Same.thaw od0 (hHf▸S1))) (T1.mono (Kp.off (Gi od)))
def Off(d:Addr)(H H':Hp):Prop:=∀b u,b≠d->H b=some u->H' b=some u
def Off.up{d:Addr}{H H1 H2:Hp}(h:Off d H H1)(S:Same H1 H2):Off d H H2:=λb u n e=>S _ _ (h b u n e)
def Off.set{d a:Addr}{o:HO}{H H1:Hp}(h:Off d H H1)(e:H a=none):Off d H (upd H1 a o):=λb u n q=>by rw[Ad (Ai q e)];exact h b u n q
def Off.free{d b:Addr}{H H1:Hp}(h:Off d H H1)(n:b≠d)(e:H1 b=none):H b=none:=by
 cases q:H b with
 |none=>rfl
 |some u=>rw[h b u n q] at e;cases e
def Off.thaw{d:Addr}{kvs:List (Key×V)}{H H1:Hp}(h:Off d H H1)(e:H d=some (.dK kvs)):Same H (upd H1 d (.dK kvs)):=λb u q=>by
 by_cases n:b=d
 .subst n;rw[Ac,<- e,q]
 .rw[Ad n];exact h b u n q
theorem Op(p:Nat)(z:Str):∀a r k,D4 p z k (a++[r])=D4 p z k a++(if r[p]?=some z then [k+a.length] else [])
 | [],r,k=>by
  rw[List.nil_append,D4,D4,D4,List.nil_append]
  rfl
 | b::a,r,k=>by
  rw[gH,D4,D4,Op p z a r (k+1),aI,show k+1+a.length=k+(a.length+1) by omega]
  split <;> simp
theorem P3(p:Nat)(z:Str):∀a k n,n∈D4 p z k a->n<k+a.length
 |[],k,n,h=>by cases h
 | b::a,k,n,h=>by
  rw[D4] at h
  rw[aI]
  split at h
  .rcases List.mem_cons.mp h with h|h
   .omega
   .have:=P3 p z a (k+1) n h;omega
  .have:=P3 p z a (k+1) n h;omega
theorem Lg(p:Nat)(z:Str):∀a k,(D4 p z k a).length<=a.length
 |[],k=>ag _
 | b::a,k=>by
  rw[D4,aI]
  split
  .rw[aI];have:=Lg p z a (k+1);omega
  .have:=Lg p z a (k+1);omega
def Pw{α:Type}{ds:List (α×Addr)}{i:Nat}{x y:V}(h:(D9 0 (ds.map λx=>V.ref x.2))[i]?=some (x,y)):∃z,ds[i]?=some z/\x=.int (i:Int)/\y=.ref z.2:=by
 have hi:=Aj h
 rw[Bp,ae] at hi
 refine⟨_,aj hi,?_⟩
 have:=C6 (k:=0) (xs:=ds.map λx=>V.ref x.2) (by rw[al,aj hi];rfl)
 rw[this,dm] at h
 obtain⟨rfl,rfl⟩:V.int i=x/\V.ref ds[i].2=y:=by simpa using h
 exact⟨rfl,rfl⟩
def bg7{E:EK}{H:Hp}{l:Addr}{ds:List (List Str×Addr)}{rows:List (List Str)}{i:Nat}{z:Str}{R:Hp->Addr->Prop}(ed:ds.map (·.1)=rows)(ol:H l=some (.lst (ds.map λx=>.ref x.2)))(hd:∀x∈ds,H x.2=some (E4 x.1))(hr:∀r∈rows,i<r.length)(few:rows.length<=256)(k:∀D H',Same H H'->H D=none->H' D=some (.lst ((D4 i z 0 rows).map λn:Nat=>V.int (n:Int)))->R H' D) :
  ∀D,H D=none->Gk (Ite K l) (gdT K 2 [gdN 0,gdN 1]) (Bl (Ah (Ca K false) (Ah (A7 K) (Aa 1) (Aa 2)) (Aa 3))) (Aa 0) D (λH'=>R H' D) [none,none,some (.int (i:Int)),some (.str z)] (upd H D (.lst [])) E:=by
 intro D hD
 have len:(D9 0 (ds.map λx=>V.ref x.2)).length=rows.length:=by rw[Bp,<- ed];simp
 refine Pp (E5 (ds.map λx=>V.ref x.2)) (λm σ H'=>(∃v0 v1,σ=[v0,v1,some (.int i),some (.str z)])/\Same H H'/\H' D=some (.lst ((D4 i z 0 (rows.take m)).map λn:Nat=>V.int n)))
  ⟨⟨_,_,rfl⟩,Same.upd hD,Ac⟩ (λm σ H' _ q=>q.2.1.seqL (SqL.of ol)) ?_ ?_
 .rintro m x y T σ H1 hxy hT ⟨⟨v0,v1,rfl⟩,S1,eD⟩
  obtain⟨⟨r,b⟩,hm,rfl,rfl⟩:=Pw hxy
  have hm2:rows[m]?=some r:=by rw[<- ed,al,hm];rfl
  have hb:=hd _ (ak hm)
  have hi:=hr r (ak hm2)
  refine gn hT λH2 ST eST=>?_
  refine⟨_,.inl (SqT.of eST),rfl,?_⟩
  have S2:=S1.trans ST
  have eD2:=ST _ _ eD
  have mm:=Nat.min_eq_left (gO (Aj hm2))
  have he:D4 i z 0 (rows.take (m+1))=D4 i z 0 (rows.take m)++(if r[i]?=some z then [m] else []):=by
   rw[aY,hm2,d7,Op,aN,mm,dm]
  refine⟨_,_,.inr (SqT.of (S2 _ _ hb)),Bq (by rw[al,aj hi];rfl),?_⟩
  rw[aj hi] at he
  refine Jb (λe=>?_) (λe=>?_)
  .have e:r[i]=z:=by simpa using e
   rw[if_pos (by rw[e])] at he
   refine⟨_,eD2,?_,⟨_,_,rfl⟩,S2.set hD,?_⟩
   .rw[ae]
    have h1:=Lg i z (rows.take m) 0
    rw[aN] at h1
    exact a_ (show(D4 i z 0 (rows.take m)).length<=256 by omega) (by decide)
   .rw[Ac,he,aw];rfl
  .have e:¬ r[i]=z:=by simpa using e
   rw[if_neg (by simpa using e),cu] at he
   exact⟨⟨_,_,rfl⟩,S2,by rw[he];exact eD2⟩
 .rintro σ H1 ⟨_,S1,eD⟩
  rw[len,aK] at eD
  exact k D H1 S1 hD eD
def ab8{rows:List (List Str)}{i m:Nat}{l:List Str}{z:Str}(hz:l[m]?=some z)(nd:l.Nodup) :
  Ce ((l.take m).map λz=>((.inr z:Key),V.int (Em rows i z))) (.inr z) (.int (Em rows i z))=(l.take (m+1)).map λz=>((.inr z:Key),V.int (Em rows i z)):=by
 rw[Ft,Cg hz]
 refine Ci ?_
 rw[aC]
 intro hm
 obtain⟨y,hy,e⟩:=List.mem_map.mp hm
 have e:y=z:=by injection e
 subst e
 exact Eu nd hz hy
def bz5(Z:An K t):OkD K bd6 (Av K t) bl (t.f 17) (t.d 17) (as8 K t):=by
 refine A5 (cd2 K t) λvs H Q E h=>?_
 .obtain⟨d,l,sw,rfl,⟨ds,ed,⟨_,od⟩,hd⟩,⟨ts,et,⟨_,ol⟩,htp⟩,hw,k⟩:=h;refine⟨rfl,?_⟩
  intro s hs
  have nds:=Ai od hs
  have nld:l≠d:=λe=>by rw[e,od] at ol;cases ol
  have od1:upd H s (.dK []) d=some (.dK (ds.map kR)):=by rw[Ad nds];exact od
  refine .inl (.inr (.inl ⟨_,od1,λo=>?_⟩))
  have O0:Off d H (upd (upd H s (.dK [])) d (.frz o (.dK (ds.map kR)))):=λb u n e=>by rw[Ad n,Ad (Ai e hs)];exact e
  have ef:upd (upd H s (.dK [])) d (.frz o (.dK (ds.map kR))) d=some (.frz o (.dK (ds.map kR))):=Ac
  have es0:upd (upd H s (.dK [])) d (.frz o (.dK (ds.map kR))) s=some (.dK []):=by rw[Ad (bY nds),Ac]
  have len:(D9 0 ((ds.map kR).map λkv=>kV kv.1)).length=sw.length:=by rw[Bp,<- ed];simp
  have few:=hw.len
  have rlen:=(Ic hw.sets).2.1
  generalize upd (upd H s (.dK [])) d (.frz o (.dK (ds.map kR)))=H0 at O0 ef es0 ⊢
  refine Ho (aw8 (ds.map kR)) (λi σ H'=>(∃v3 v4 v5 v6,σ=[some (.ref d),some (.ref l),some (.ref s),v3,v4,v5,v6])/\Off d H H'/\H' d=some (.frz o (.dK (ds.map kR))) /\
    ∃es:List ((Str×List Str)×Addr),es.map (·.1)=sw.take i/\H' s=some (.dK (es.map kR))/\∀j x,es[j]?=some x->H x.2=none/\H' x.2=some (V1 (Al sw) j x.1.2))
   ⟨⟨_,_,_,_,rfl⟩,O0,ef,[],rfl,es0,λj x hx=>by simp at hx⟩ (λi σ H' _ q=>q.2.2.1) ?_ ?_
  .rintro i x y T σ H1 hxy hT ⟨⟨v3,v4,v5,v6,rfl⟩,O1,f1,es,ee,e1s,he⟩
   have hi':=Aj hxy
   rw[len] at hi'
   have hids:i<ds.length:=by rw[<- ed,ae] at hi';exact hi'
   obtain⟨⟨e,ta⟩,hi⟩:∃z,ds[i]?=some z:=⟨_,aj hids⟩
   have hxy2:=C6 (k:=0) (xs:=(ds.map kR).map λkv=>kV kv.1) (x:=.str e.1) (by rw[al,al,hi];rfl)
   rw[hxy2,dm] at hxy
   obtain⟨rfl,rfl⟩:V.int i=x/\V.str e.1=y:=by simpa using hxy
   have hi2:sw[i]?=some e:=by rw[<- ed,al,hi];rfl
   have hta:=(hd _ (ak hi)).2
   have nta:ta≠d:=λz=>by rw[z,od] at hta;cases hta
   have hoke:=hw.sets e (ak hi2)
   have hv:=Bs (Ez ed hw.2.2.1) (by rw[al,hi];rfl)
   have nk:=Qg ee hi2 hw.2.2.1
   have les:es.length=i:=by
    have:=congrArg cy ee
    rw[ae,aN] at this
    omega
   refine gn hT λH2 ST eST=>?_
   refine⟨_,.inl (SqT.of eST),rfl,?_⟩
   show Ae _ _ _ [some (.ref d),some (.ref l),some (.ref s),some (.int i),some (.str e.1),v5,v6] H2
   have O2:=O1.up ST
   have f2:=ST _ _ f1
   have e2s:=ST _ _ e1s
   intro q hq
   have nqd:q≠d:=(Ai f2 hq).symm
   have nqs:q≠s:=(Ai e2s hq).symm
   have fq:H q=none:=O2.free nqd hq
   have Sq:=Same.upd (o:=.dK []) hq
   have eq:upd H2 q (.dK []) q=some (.dK []):=Ac
   refine .inl ?_
   show Da K (Aa 2) (Aa 4) (.ref q) [some (.ref d),some (.ref l),some (.ref s),some (.int i),some (.str e.1),v5,v6] (upd H2 q (.dK [])) _
   generalize upd H2 q (.dK [])=H3 at Sq eq ⊢
   refine⟨_,DPut.k (k:=.inr e.1) (Sq _ _ e2s) ?_,?_⟩
   .rw[ae]
    have:=hw.2.1
    exact a_ (show es.length<=5 by omega) (by decide)
   rw[Kq nk]
   have O4:Off d H (upd H3 s (.dK ((es++[(e,q)]).map kR))):=(O2.up Sq).set hs
   have f4:upd H3 s (.dK ((es++[(e,q)]).map kR)) d=some (.frz o (.dK (ds.map kR))):=by rw[Ad nds];exact Sq _ _ f2
   have e4s:upd H3 s (.dK ((es++[(e,q)]).map kR)) s=some (.dK ((es++[(e,q)]).map kR)):=Ac
   have e4q:upd H3 s (.dK ((es++[(e,q)]).map kR)) q=some (V1 (Al sw) i (e.2.take 0)):=by rw[Ad nqs];exact eq
   have he4:∀j x,es[j]?=some x->H x.2=none/\upd H3 s (.dK ((es++[(e,q)]).map kR)) x.2=some (V1 (Al sw) j x.1.2)/\x.2≠q/\x.2≠s:=λj x hx=>by
    obtain⟨a1,a2⟩:=he j x hx
    have b1:=Ai (ST _ _ a2) hq
    have b2:x.2≠s:=λz=>by
     rw[z,e1s] at a2
     unfold V1 at a2
     have a3:es.map kR=x.1.2.map λz=>((.inr z),V.int (Em (Al sw) j z)):=by injection (aG a2)
     have m1:kR x∈es.map kR:=bE (ak hx)
     rw[a3] at m1
     obtain⟨y,_,hy⟩:=List.mem_map.mp m1
     injection hy with _ hy
     cases hy
    refine⟨a1,?_,b1,b2⟩
    rw[Ad b2];exact Sq _ _ (ST _ _ a2)
   generalize upd H3 s (.dK ((es++[(e,q)]).map kR))=H4 at O4 f4 e4s e4q he4 ⊢
   have nd4:(((es++[(e,q)]).map kR).map (·.1)).Nodup:=Ez (Hm ee hi2) (by rw[gZ];exact hw.2.2.1.sublist (eQ _ _))
   have hq4:Be ((es++[(e,q)]).map kR) (.inr e.1)=some (.ref q):=Bs (i:=es.length) nd4 (by rw[al,bo (ag _),gR];rfl)
   refine⟨.ref ta,.inl ⟨_,.inr e.1,.inr ⟨o,f4⟩,rfl,hv.symm⟩,.inr (.inl ⟨⟨_,SqT.of (O4 _ _ nta hta)⟩,?_⟩)⟩
   refine Az (ax0 (e.2.map V.str)) (λm σ H'=>(∃v5 v6,σ=[some (.ref d),some (.ref l),some (.ref s),some (.int i),some (.str e.1),v5,v6])/\Off d H H'/\H' d=some (.frz o (.dK (ds.map kR)))/\H' s=some (.dK ((es++[(e,q)]).map kR)) /\
     H' q=some (V1 (Al sw) i (e.2.take m))/\∀j x,es[j]?=some x->H' x.2=some (V1 (Al sw) j x.1.2))
    ⟨⟨_,_,rfl⟩,O4,f4,e4s,e4q,λj x hx=>(he4 j x hx).2.1⟩ (λm σ H' _ q=>SqT.of (q.2.1 _ _ nta hta)) ?_ ?_
   .rintro m x σ H5 hx ⟨⟨v5,v6,rfl⟩,O5,f5,e5s,e5q,he5⟩
    obtain⟨z,hz,rfl⟩:=Am hx
    refine .inl ⟨⟨_,SqL.of (O5 _ _ nld ol)⟩,?_⟩
    refine bg7 et (O5 _ _ nld ol) (λx hx=>O5 _ _ (λe=>by have:=(htp x hx).2;rw[e,od] at this;cases this) (htp x hx).2) (λr hr=>by rw[rlen r hr];exact hi') few λD H6 S6 hD eD=>?_
    refine⟨D,_,rfl,SqL.of eD,(λn hn=>?_),?_⟩
    .have:=P3 i z (Al sw) 0 n hn
     omega
    show Da K (Ah (A7 K) (Aa 2) (Aa 4)) (Aa 5) (.int (Em (Al sw) i z)) [some (.ref d),some (.ref l),some (.ref s),some (.int i),some (.str e.1),some (.str z),some (.ref D)] H6 _
    refine⟨.ref q,.inl ⟨_,.inr e.1,.inl (S6 _ _ e5s),rfl,hq4.symm⟩,_,DPut.k (k:=.inr z) (S6 _ _ e5q) ?_,?_⟩
    .rw[ae,aN]
     have:=hoke.2.2
     exact a_ (show min m e.2.length<=4 by omega) (by decide)
    rw[ab8 hz hoke.1.2.1]
    refine⟨⟨_,_,rfl⟩,(O5.up S6).set fq,?_,?_,Ac,λj x hx=>?_⟩
    .rw[Ad (bY nqd)];exact S6 _ _ f5
    .rw[Ad (bY nqs)];exact S6 _ _ e5s
    .rw[Ad (he4 j x hx).2.2.1];exact S6 _ _ (he5 j x hx)
   .rintro σ H5 ⟨⟨v5,v6,rfl⟩,O5,f5,e5s,e5q,he5⟩
    rw[ae,aK] at e5q
    refine .inl ⟨⟨_,_,_,_,rfl⟩,O5,f5,es++[(e,q)],Hm ee hi2,e5s,λj x hx=>?_⟩
    by_cases hj:j<es.length
    .rw[bJ hj] at hx
     exact⟨(he4 j x hx).1,he5 j x hx⟩
    .have hj2:=Aj hx
     rw[aB] at hj2
     have hj3:j=es.length:=by have:[(e,q)].length=1:=rfl;omega
     subst hj3
     rw[bo (ag _),gR] at hx
     have:(e,q)=x:=by simpa using hx
     subst this
     rw[les]
     exact⟨fq,e5q⟩
  .rintro σ H1 ⟨⟨v3,v4,v5,v6,rfl⟩,O1,f1,es,ee,e1s,he⟩
   rw[len,aK] at ee
   refine .inr ⟨d,o,_,od1,f1,?_⟩
   refine k _ s (O1.thaw od) ⟨es,ee,⟨hs,?_⟩,λj x hx=>⟨(he j x hx).1,?_⟩⟩
   .rw[Ad (bY nds)];exact e1s
   .rw[Ad (λz=>by have:=(he j x hx).1;rw[z,od] at this;cases this)];exact(he j x hx).2
def Gc(l:List Str):(l.map V.str).all B0=true:=by rw[iw,bg];exact λ_ _=>rfl
def L6{sw:Sw}{i:Nat}{x:Str×List Str}(h:sw[i]?=some x)(nd:(sw.map (·.1)).Nodup):Gz sw x.1=i:=by
 have hi:=Aj h
 have ex:sw[i]=x:=by rw[aj hi] at h;exact aG h
 unfold Gz
 rw[List.findIdx_eq hi]
 refine⟨by rw[ex];simp,λj hj=>?_⟩
 have hj2:j<sw.length:=by omega
 refine decide_eq_false λe=>?_
 have:=(du (h₀:=by rw[ae];exact hj2) (h₁:=by rw[ae];exact hi) nd).mp (by rw[dU,dU,e,ex])
 omega
def Ue{rows:List (List Str)}{i:Nat}{l:List Str}{z:Str}(nd:l.Nodup)(h:z∈l):Be (l.map λz=>((.inr z:Key),V.int (Em rows i z))) (.inr z)=some (.int (Em rows i z)):=by
 obtain⟨j,hj,e⟩:=List.mem_iff_getElem.mp h
 refine Bs (i:=j) ?_ ?_
 .rw[aC];exact Ji nd
 .rw[al,aj hj,e];rfl
def bj6(Z:An K t):OkD K Xb (Av K t) bl (t.m_zcc 6) (t.e_zcc 6) (Wb K t):=by
 refine A5 (b51 K t) λvs H Q E h=>?_
 .obtain⟨p,a,l,s,wd,ss,sw,rfl,⟨dx,fs,⟨_,hp⟩,hl,hs,hm⟩,⟨ds,ed,⟨_,os⟩,hd⟩,hw,ha,⟨ne,hL,x,hx,ex,hin⟩,k⟩:=h;refine⟨rfl,?_⟩
  have ex:=ex
  have ne:=ne
  have hL:=hL
  have hin:=hin
  subst ex
  obtain⟨i,hi2⟩:=List.mem_iff_getElem?.mp hx
  have hids:i<ds.length:=by have:=Aj hi2;rw[<- ed,ae] at this;exact this
  obtain⟨⟨x',q⟩,hi⟩:∃z,ds[i]?=some z:=⟨_,aj hids⟩
  have:x'=x:=by
   rw[<- ed,al,hi] at hi2
   exact aG hi2
  subst this
  have oq:=(hd i _ hi).2
  have hok:=hw.sets x' hx
  have hv:=Bs (Ez ed hw.2.2.1) (by rw[al,hi];rfl)
  have pl:=L6 hi2 hw.2.2.1
  have cl:=Z.pf.cl
  have na:NoAttr K t.c_zcc "sets" := Z.pf.na _ (by simp)
  have gq:∀{H'},Same H H'->DGet H' s (.str x'.1) (some (.ref q)):=λS=>.inl ⟨_,.inr x'.1,.inl (S _ _ os),rfl,hv.symm⟩
  refine⟨rfl,?_⟩
  refine eW ⟨_,_,_,_,hp,cl,na,hs,?_⟩
  refine .inr ⟨_,.inl ⟨_,.inr x'.1,.inl os,rfl,hv.symm⟩,?_⟩
  refine⟨a,ss,rfl,SqL.of ha,hL,λH1 S1=>⟨by decide,λe he=>.inl ⟨a,e,_,_,rfl,rfl,(S1.trans (Same.upd he)).seqL (SqL.of ha),SqL.of Ac,Gc ss,rfl,E8 ?_ ?_⟩⟩⟩
  .exact Fi (by rw[ae];intro z;exact ne (List.length_eq_zero_iff.mp z))
  refine gn he λH2 She _=>?_
  have S2:=S1.trans She
  refine .inl ⟨⟨_,S2.seqL (SqL.of ha)⟩,?_⟩
  refine Rx (σ:=[none,some (.ref p),some (.str x'.1)]) (As (ss.map V.str)) (λσ=>∃v,σ=[v,some (.ref p),some (.str x'.1)]) (λH3 S3=>(S2.trans S3).seqL (SqL.of ha)) ?_ ⟨_,rfl⟩ (λσ x ⟨v,e⟩=>⟨some x,by rw[e];rfl⟩) ?_ λD3 H3 S3 q3=>⟨_,q3,?_⟩
  .rw[ae];exact a_ hL.2.2 (by decide)
  .rintro y σ H3 Q1 hy ⟨v,rfl⟩ S3 q1
   obtain⟨z,hz,rfl⟩:=List.mem_map.mp hy
   have S:=S2.trans S3
   refine eW ⟨_,_,_,_,(S _ _ hp),cl,na,hs,⟨.ref q,gq S,.inr ⟨_,.inl ⟨_,.inr z,.inl (S _ _ oq),rfl,rfl⟩,?_⟩⟩⟩
   rw[Ue hok.1.2.1 (hin z hz)]
   exact q1 H3 (Same.refl _)
  .rw[Xo]
   have S:=S2.trans S3
   refine .inl ⟨⟨_,S.seqL (SqL.of ha)⟩,λD hD=>?_⟩
   refine Ki (As (ss.map V.str)) (λσ=>∃v,σ=[v,some (.ref p),some (.str x'.1)]) (λ_=>true) (λv=>match v with | .str z=>.int (Em (Al sw) i z)|_=>.non) hD (λH4 S4=>(S.trans S4).seqL (SqL.of ha)) ?_ ⟨_,rfl⟩ ?_ ?_
   .rw[ae];exact a_ hL.2.2 (by decide)
   .rintro y σ H4 hy ⟨v,rfl⟩ S4 Fin Skip hF hK
    obtain⟨z,hz,rfl⟩:=List.mem_map.mp hy
    have S5:=S.trans S4
    refine(eW ⟨_,_,_,_,(S5 _ _ hp),cl,na,hs,⟨.ref q,gq S5,.int (Em (Al sw) i z),.inl ⟨_,.inr z,.inl (S5 _ _ oq),rfl,?_⟩,?_⟩⟩)
    .rw[Ue hok.1.2.1 (hin z hz)]
    .exact hF _ _ _ ⟨_,rfl⟩ (Same.refl _) rfl rfl
   .intro H4 S4 eD
    refine⟨D,ss.map (Em (Al sw) i),rfl,SqL.of (eD.trans ?_),?_⟩
    .rw[List.filter_eq_self.mpr (λ_ _=>rfl),aC,aC];rfl
    .have:=k H4 (S.trans S4)
     unfold J3 at this
     rw[pl] at this
     exact this
def bk4(Z:An K t):OkD K Xe (Av K t) bl (t.m_zcc 2) (t.e_zcc 2) (Wg K t):=by
 refine A5 (b59 K t) λvs H Q E h=>?_
 .obtain⟨p,r,l,s,sw,rule,rfl,hs,ht,hse,hw,⟨ds,ed,⟨_,od⟩,hd⟩,hr,k⟩:=h;refine⟨rfl,?_⟩
  obtain⟨dx,fs,⟨np,hp⟩,_,_,hm⟩:=id hs
  have len:ds.length=rule.length:=by rw[<- ed];simp
  refine⟨_,true,.of (.dK od),rfl,⟨p,dx,fs,⟨t.c_zcc,bg9 K t⟩,rfl,.head _,hp,hm _ (by decide),⟨aF rfl,aF rfl⟩,p,l,s,sw,rfl,hs.mono Kp.any,ht.mono Kp.any,hw.len,?_⟩⟩
  refine .inr (.inr (.inl (.inl ⟨_,od,λo=>?_⟩)))
  have kf:Kp (· ≠ r) H (· ≠ r) (upd H r (.frz o (.dK (ds.map kR)))):=Kp.off (λe=>e rfl)
  have ef:upd H r (.frz o (.dK (ds.map kR))) r=some (.frz o (.dK (ds.map kR))):=Ac
  have hd2:∀x∈ds,upd H r (.frz o (.dK (ds.map kR))) x.2=some (Bk x.1.2):=λx hx=>by
   rw[Ad (λe=>by have:=(hd x hx).2;rw[e,od] at this;cases this)]
   exact(hd x hx).2
  generalize hHf:upd H r (.frz o (.dK (ds.map kR)))=Hf at kf ef hd2 ⊢
  refine Az (Ee (ds.map kR)) (λi σ H'=>(∃v3,σ=[some (.ref p),some (.ref r),some (.int ((rule.take i).foldl (λc e=>cC c (J3 sw e)) (Rt sw))),v3])/\Same Hf H') ⟨⟨_,rfl⟩,Same.refl _⟩ (λi σ H' _ q=>q.2 _ _ ef) ?_ ?_
  .rintro i x σ H1 hx ⟨⟨v3,rfl⟩,S1⟩
   obtain⟨kv,hi0,rfl⟩:=Am hx
   obtain⟨⟨e,la⟩,hi,rfl⟩:=Am hi0
   have hi2:rule[i]?=some e:=by rw[<- ed,al,hi];rfl
   have hv:=Bs (Ez ed hr.1) hi0
   have kn:=(kf.trans (Kp.same S1)).trans Kp.any
   refine⟨p,dx,fs,⟨t.c_zcc,ba4 K t⟩,rfl,.head _,(kn _ _ ⟨np,hp⟩).2,hm _ (by decide),⟨aF rfl,aF rfl⟩,.ref la,.inl ⟨_,.inr e.1,.inr ⟨o,S1 _ _ ef⟩,rfl,hv.symm⟩,?_⟩
   exact⟨p,la,l,s,e.1,e.2,sw,rfl,hs.mono kn,hse.mono kn,hw,S1 _ _ (hd2 _ (ak hi)),hr.2 e (ak hi2),λH2 S2=>⟨⟨_,congrArg (λz=>[some (V.ref p),some (V.ref r),some (V.int z),some (V.str e.1)]) (D0 hi2 (λc e=>cC c (J3 sw e)) (Rt sw)).symm⟩,S1.trans S2⟩⟩
  .rintro σ H1 ⟨⟨v3,rfl⟩,S1⟩
   rw[ae,ae,len,aK]
   exact .inr ⟨r,o,_,od,S1 _ _ ef,k _ (Same.thaw od (hHf▸S1))⟩
def bz6(Z:An K t):OkD K ax6 (Av K t) bl (t.m_zcc 4) (t.e_zcc 4) (as9 K t):=by
 refine A5 (cd3 K t) λvs H Q E h=>?_
 .obtain⟨p,r,l,s,sw,rule,rfl,hs,ht,hse,hw,hrl,hr,k⟩:=h;refine⟨rfl,?_⟩
  obtain⟨ds,ed,⟨_,od⟩,hd⟩:=id hrl
  obtain⟨dx,fs,⟨np,hp⟩,_,_,hm⟩:=id hs
  have len:ds.length=rule.length:=by rw[<- ed];simp
  have pos:=List.length_pos_iff.mpr hr.1
  refine⟨_,true,.of (.dK od),rfl,(.inr ⟨_,.inl od,E8 ?_ ?_⟩)⟩
  .refine decide_eq_false λe=>?_
   rw[ae] at e
   omega
  exact⟨p,dx,fs,⟨t.c_zcc,ak1 K t⟩,rfl,.head _,hp,hm _ (by decide),⟨aF rfl,aF rfl⟩,p,r,l,s,sw,rule,rfl,hs,ht,hse,hw,hrl,⟨hr.2.2.1,hr.2.2.2⟩,λH1 S1=>⟨r,rule,rfl,hrl.mono (Kp.same S1),hr.2.2.1,hr.2.1,λH2 c S2 R2=>k H2 c (S1.trans S2) (R2.mono (Kp.fresh S1))⟩⟩
def bz1(Z:An K t):OkD K ax3 (Av K t) bl (t.m_zcc 5) (t.e_zcc 5) (as5 K t):=by
 refine A5 (cc8 K t) λvs H Q E h=>?_
 .obtain⟨p,l,s,ok,v,sw,ζ,rfl,hs,ht,hse,hw,hv,hr,h8,k⟩:=h;refine⟨rfl,?_⟩
  rcases hv with⟨rfl,rfl⟩|⟨kk,rfl,ds,ed,⟨nk,ok1⟩,hd⟩
  .refine⟨by decide,λq hq=>k _ q (Same.upd hq) ⟨[],rfl,⟨hq,Ac⟩,λx hx=>by cases hx⟩⟩
  .obtain⟨dx,fs,⟨op,hp⟩,_,_,hm⟩:=id hs
   have len:(ds.map λx=>V.ref x.2).length=ζ.length:=by rw[<- ed];simp
   refine⟨_,true,.sqL rfl (SqL.of ok1) rfl,rfl,(.inl ⟨_,.inl (SqL.of ok1),E8 ?_ ?_⟩)⟩
   .refine decide_eq_false λe=>?_
    rw[len] at e
    omega
   refine .inl ⟨⟨_,SqL.of ok1⟩,λD hD=>?_⟩
   refine De (As (ds.map λx=>V.ref x.2)) (λm σ H'=>(∃v,σ=[v,some (.ref p)])/\Same H H'/\∃fs:List (Sw×Addr),fs.map (·.1)=ζ.take m/\H' D=some (.lst (fs.map λx=>.ref x.2))/\∀x∈fs,RuleAt (λa=>H a=none/\a≠D) H' x.2 x.1)
    ⟨⟨_,rfl⟩,Same.upd hD,[],rfl,Ac,λx hx=>by cases hx⟩ (λm σ H' _ q=>q.2.1.seqL (SqL.of ok1)) ?_ ?_
   .rintro m x σ H1 hx ⟨⟨v,rfl⟩,S1,gs,eg,eD,hg⟩
    obtain⟨⟨rule,r⟩,hm2,rfl⟩:=Am hx
    have hm3:ζ[m]?=some rule:=by rw[<- ed,al,hm2];rfl
    have hrl:=hd _ (ak hm2)
    have nr:¬ ok r:=by obtain⟨_,_,o,_⟩:=hrl;exact o.1
    have kw:Kp ok H (· ≠ r) H1:=(Kp.same S1).trans (Kp.weak λa h e=>nr (e▸h))
    refine⟨p,dx,fs,⟨t.c_zcc,bw8 K t⟩,rfl,.head _,S1 _ _ hp,hm _ (by decide),⟨aF rfl,aF rfl⟩,p,r,l,s,sw,rule,rfl,hs.mono kw,ht.mono kw,hse.mono kw,hw,hrl.mono ((Kp.same S1).trans Kp.any),hr rule (ak hm3),λH2 c S2 R2=>?_⟩
    have eD2:=S2 _ _ eD
    refine⟨_,eD2,?_,⟨_,rfl⟩,(S1.trans S2).set hD,gs++[(rule,c)],Hm eg hm3,?_,?_⟩
    .rw[ae]
     have:=U1 eg
     exact a_ (show gs.length<=8 by omega) (by decide)
    .rw[Ac,aw];rfl
    .have ko:Kp (λa=>H a=none/\a≠D) H2 (λa=>H a=none/\a≠D) (upd H2 D (.lst ((gs.map λx=>V.ref x.2)++[.ref c]))):=Kp.off (λe=>e.2 rfl)
     intro x hx
     rcases List.mem_append.mp hx with hx|hx
     .exact (hg x hx).mono ((Kp.same S2).trans ko)
     .have:x=(rule,c):=by simpa using hx
      subst this
      exact R2.mono ((Kp.weak λa h=>⟨S1.free h,(Ai eD h).symm⟩).trans ko)
   .rintro σ H1 ⟨_,S1,gs,eg,eD,hg⟩
    rw[len,aK] at eg
    exact k H1 D S1 ⟨gs,eg,⟨hD,eD⟩,λx hx=>(hg x hx).mono (Kp.weak λa h=>h.1)⟩
def Gu{f:Str}{p C dx:Addr}{fs fs':List (Str×V)}{y:V}{H:Hp}{N:Hp->Prop}(hp:H p=some (.ins C dx fs))(c:Cls K C)(n:NoAttr K C f)(l:fs.length<1000)(e:Eo f y fs=fs')(k:∀H',(∀b,b≠p->H' b=H b)->H' p=some (.ins C dx fs')->N H'):aq9 K f (.ref p) y H N:=
 .inl ⟨C,dx,fs,hp,c,n,l,k _ (λb hb=>Ad hb) (by rw[Ac,e])⟩
def Kp.but{ok:Addr->Prop}{p:Addr}{H H':Hp}(h:∀b,b≠p->H' b=H b)(n:¬ ok p):Kp ok H ok H':=λa o q=>⟨q.1,by rw[h a (λe=>n (e▸q.1))];exact q.2⟩
def Off.but{p:Addr}{H H1 H2:Hp}(h:Off p H H1)(e:∀b,b≠p->H2 b=H1 b):Off p H H2:=λb u n q=>by rw[e b n];exact h b u n q
def Off.fr{p:Addr}{u:HO}{H H1:Hp}(h:Off p H H1)(e:H1 p=some u):∀b,H1 b=none->H b=none:=λb q=>h.free (λz=>by rw[z,e] at q;cases q) q
structure Pc (ok:Addr->Prop) (H:Hp) (d l n s:Addr) (sw:Sw):Prop where
 sws:SwAt ok H d sw
 tps:TupsAt ok H l (Al sw)
 nms:NumAt ok H n (Al sw)
 sts:SetsAt ok H s sw
theorem Pc.mono{ok ok':Addr->Prop}{H H':Hp}{d l n s:Addr}{sw:Sw}(h:Pc ok H d l n s sw)(k:Kp ok H ok' H'):Pc ok' H' d l n s sw:=⟨h.sws.mono k,h.tps.mono k,h.nms.mono k,h.sts.mono k⟩
abbrev fl6(d l n s k b:Addr):List (Str×V):=[("settings", .ref d),("tuples", .ref l),("numbers", .ref n),("sets", .ref s),("kept_rules", .ref k),("bars", .ref b)]
def Qi{fs:List (Str×V)}(h:fs.lookup ("all_choices" : Str)=none/\fs.lookup ("box" : Str)=none/\fs.lookup ("many" : Str)=none/\fs.lookup ("term" : Str)=none/\fs.lookup ("read_rule" : Str)=none/\fs.lookup ("read_rules" : Str)=none):∀m∈(["all_choices","box","many","term","read_rule","read_rules"]:List Str),fs.lookup m=none:=by
 intro m hm
 simp only[az,cP,or_false] at hm
 rcases hm with rfl|rfl|rfl|rfl|rfl|rfl
 .exact h.1
 .exact h.2.1
 .exact h.2.2.1
 .exact h.2.2.2.1
 .exact h.2.2.2.2.1
 .exact h.2.2.2.2.2
def bj4(Z:An K t):OkD K D_zag (Av K t) bl t.f_zag t.d_zag (as0 K t):=by
 refine A5 (b49 K t) λvs H Q E h=>?_
 .obtain⟨p,a,dx,v,sw,ζ,rfl,hp,hsw,hw,hrl,hr,h8,hf,k⟩:=h;refine⟨rfl,?_⟩
  have cl:=Z.pf.cl
  have na:=Z.pf.na
  have nf:=(Gi hp)
  refine⟨a,sw,rfl,hsw.mono Kp.any,hw,λH1 d S1 A1=>?_⟩
  refine Gu (S1 _ _ hp) cl (na _ (by simp)) (aF rfl) rfl λH2 b2 p2=>?_
  have O2:Off p H H2:=λb u n e=>by rw[b2 b n];exact S1 _ _ e
  have A2:=A1.mono (Kp.but b2 nf)
  refine eW ⟨_,_,_,_,p2,cl,(na _ (by simp)),rfl,⟨d,sw,rfl,A2.mono Kp.any,hw,λH3 l S3 T3=>?_⟩⟩
  refine Gu (S3 _ _ p2) cl (na _ (by simp)) (aF rfl) rfl λH4 b4 p4=>?_
  have O4:=(O2.up S3).but b4
  have A4:=A2.mono ((Kp.same S3).trans (Kp.but b4 nf))
  have T4:=T3.mono ((Kp.weak (O2.fr p2)).trans (Kp.but b4 nf))
  refine eW ⟨_,_,_,_,p4,cl,(na _ (by simp)),rfl,⟨l,Al sw,rfl,T4.mono Kp.any,(Ic hw.sets).1,hw.len,λH5 n S5 N5=>?_⟩⟩
  refine Gu (S5 _ _ p4) cl (na _ (by simp)) (aF rfl) rfl λH6 b6 p6=>?_
  have O6:=(O4.up S5).but b6
  have A6:=A4.mono ((Kp.same S5).trans (Kp.but b6 nf))
  have T6:=T4.mono ((Kp.same S5).trans (Kp.but b6 nf))
  have N6:=N5.mono ((Kp.weak (O4.fr p4)).trans (Kp.but b6 nf))
  refine eW ⟨_,_,_,_,p6,cl,(na _ (by simp)),rfl,(eW ⟨_,_,_,_,p6,cl,(na _ (by simp)),rfl,⟨d,l,sw,rfl,A6.mono Kp.any,T6.mono Kp.any,hw,λH7 s S7 E7=>?_⟩⟩)⟩
  refine Gu (S7 _ _ p6) cl (na _ (by simp)) (aF rfl) rfl λH8 b8 p8=>?_
  have O8:=(O6.up S7).but b8
  have k78:=(Kp.same S7).trans (Kp.but b8 nf)
  have P8:Pc (fresh H) H8 d l n s sw:=⟨A6.mono k78,T6.mono k78,N6.mono k78,E7.mono ((Kp.weak (O6.fr p6)).trans (Kp.but b8 nf))⟩
  have P8':Pc (λb=>H b=none/\H8 b≠none) H8 d l n s sw:=P8.mono λb o q=>⟨⟨q.1,by rw[q.2];exact λz=>nomatch z⟩,q.2⟩
  have w8:Kp (fresh H) H8 (λb=>b=p\/H b=none) H8:=Kp.weak λb e=>.inr e
  have RI:Pg (λb=>¬ (b=p\/H b=none)) H8 v ζ:=by
   rcases hrl with h|⟨kk,e,R⟩
   .exact .inl h
   .refine .inr ⟨kk,e,R.mono λb o q=>⟨λz=>?_,O8 _ _ q.1 q.2⟩⟩
    rcases z with z|z
    .exact q.1 z
    .have:=q.2;rw[z] at this;cases this
  refine⟨p,dx,_,⟨t.c_zcc,bw5 K t⟩,rfl,.head _,p8,rfl,⟨aF rfl,aF rfl⟩,p,l,s,(λb=>b=p\/H b=none),v,sw,ζ,rfl,⟨dx,_,⟨.inl rfl,p8⟩,rfl,rfl,Qi ⟨rfl,rfl,rfl,rfl,rfl,rfl⟩⟩,P8.tps.mono w8,P8.sts.mono w8,hw,RI,hr,h8,λH9 kk S9 R9=>?_⟩
  refine Gu (S9 _ _ p8) cl (na _ (by simp)) (aF rfl) rfl λH10 b10 p10=>?_
  have O10:=(O8.up S9).but b10
  have n8:=(Gi p8)
  have R10:=R9.mono (Kp.but b10 n8)
  have P10:=P8'.mono ((Kp.same S9).trans (Kp.but b10 (λe=>nf e.1)))
  obtain⟨rs,er,⟨fk,ok⟩,hrs⟩:=id R10
  have lenr:(rs.map λx=>V.ref x.2).length=ζ.length:=by rw[<- er];simp
  refine eW ⟨_,_,_,_,p10,cl,(na _ (by simp)),rfl,(.inl ⟨⟨_,SqL.of ok⟩,λD hD=>?_⟩)⟩
  have fD:H D=none:=O10.fr p10 D hD
  refine De (As (rs.map λx=>V.ref x.2)) (λm σ H'=>(∃v,σ=[v,some (.ref p)])/\Same H10 H'/\H' D=some (.lst ((Jx sw (ζ.take m)).map V.int))) ⟨⟨_,rfl⟩,Same.upd hD,Ac⟩ (λm σ H' _ q=>q.2.1.seqL (SqL.of ok)) ?_ ?_
  .rintro m x σ H11 hx ⟨⟨v,rfl⟩,S11,eD⟩
   obtain⟨⟨rule,r⟩,hm2,rfl⟩:=Am hx
   have hm3:ζ[m]?=some rule:=by rw[<- er,al,hm2];rfl
   have hrl2:=hrs _ (ak hm2)
   have nr:H8 r=none:=by obtain⟨_,_,o,_⟩:=hrl2;exact o.1
   have npr:p≠r:=Ai p8 nr
   have kw:Kp (λb=>H b=none/\H8 b≠none) H10 (· ≠ r) H11:=(Kp.same S11).trans (Kp.weak λb h e=>h.2 (e▸nr))
   refine⟨p,dx,_,⟨t.c_zcc,ak1 K t⟩,rfl,.head _,S11 _ _ p10,rfl,⟨aF rfl,aF rfl⟩,p,r,l,s,sw,rule,rfl,⟨dx,_,⟨npr,S11 _ _ p10⟩,rfl,rfl,Qi ⟨rfl,rfl,rfl,rfl,rfl,rfl⟩⟩,P10.tps.mono kw,P10.sts.mono kw,hw,hrl2.mono ((Kp.same S11).trans Kp.any),(hr rule (ak hm3)).2.2,λH12 S12=>?_⟩
   refine⟨_,S12 _ _ eD,?_,⟨_,rfl⟩,(S11.trans S12).set hD,?_⟩
   .rw[ae]
    unfold Jx
    rw[ae,aN]
    exact a_ (show min m ζ.length<=8 by omega) (by decide)
   .rw[Ac]
    unfold Jx
    rw[Cg hm3,aw]
    rfl
  rintro σ H11 ⟨_,S11,eD⟩
  rw[lenr,aK] at eD
  refine Gu (S11 _ _ p10) cl (na _ (by simp)) (aF rfl) (fs':=fl6 d l n s kk D) rfl λH12 b12 p12=>?_
  have O12:=(O10.up S11).but b12
  have nDp:D≠p:=(Ai p10 hD).symm
  have B12:H12 D=some (.lst ((Jx sw ζ).map V.int)):=by rw[b12 D nDp];exact eD
  have k12:∀{ok},¬ ok p->Kp ok H10 ok H12:=λh=>(Kp.same S11).trans (Kp.but b12 h)
  have P12:=P10.mono (k12 λe=>nf e.1)
  have R12:=R10.mono (k12 n8)
  refine⟨p,dx,_,⟨t.c_zcc,bg9 K t⟩,rfl,.head _,p12,rfl,⟨aF rfl,aF rfl⟩,p,l,s,sw,rfl,⟨dx,_,⟨trivial,p12⟩,rfl,rfl,Qi ⟨rfl,rfl,rfl,rfl,rfl,rfl⟩⟩,P12.tps.mono Kp.any,hw.len,eW ⟨_,_,_,_,p12,cl,(na _ (by simp)),rfl,⟨D,Jx sw ζ,rfl,SqL.of B12,?_⟩⟩⟩
  refine Gu p12 cl (na _ (by simp)) (aF rfl) (fs':=bw1 d l n s kk D (Gp sw ζ)) rfl λH14 b14 p14=>?_
  refine eW ⟨_,_,_,_,p14,cl,(na _ (by simp)),rfl,(E8 (decide_eq_false hf) ?_)⟩
  have kk14:∀{ok},¬ ok p->(∀b,ok b->H b=none)->Kp ok H12 (λb=>b=p\/H b=none) H14:=λh g=>(Kp.but b14 h).trans (Kp.weak λb e=>.inr (g b e))
  have P14:=P12.mono (kk14 (λe=>nf e.1) λb e=>e.1)
  refine k H14 ((O12.but b14)) ⟨dx,d,l,n,s,kk,D,⟨.inl rfl,p14⟩,P14.sws,P14.tps,P14.nms,P14.sts,R12.mono (kk14 n8 (O8.fr p8)),⟨.inr fD,?_⟩⟩
  rw[b14 D nDp];exact B12
end
def ag9{a b:Bool}{A B:Prop}(hB:¬ (a=true/\b=true)->B)(hA:a=true->b=true->A):if a=true then(if b=true then A else B) else B:=by
 cases a with
 |false=>exact hB λz=>by cases z.1
 | true=>cases b with
  |false=>exact hB λz=>by cases z.2
  |true=>exact hA rfl rfl
def az0{a b c:Bool}{A B:Prop}(hB:¬ (a=true/\b=true/\c=true)->B)(hA:a=true->b=true->c=true->A):if a=true then(if b=true then(if c=true then A else B) else B) else B:=by
 cases a with
 |false=>exact hB λz=>by cases z.1
 |true=>exact Zv (ag9 (λz=>hB λy=>z y.2) (hA rfl))
def NL(H H':Hp):Prop:=∀a o,(∀l,o≠.lst l)->H a=some o->H' a=some o
def NL.same{H H':Hp}(S:Same H H'):NL H H':=λa o _ e=>S a o e
theorem NL.tup{H H':Hp}(S:NL H H'):∀b ys,H b=some (.tup ys)->H' b=some (.tup ys):=λb ys=>S b _ λ_ z=>by cases z
theorem NL.upd{H:Hp}{D:Addr}{l m:List V}(h:H D=some (.lst l)):NL H (upd H D (.lst m)):=λa o n e=>by rw[Ad λz=>by rw[z,h] at e;cases e;exact n _ rfl];exact e
def He{J:It}{χ:List V}{ok:Hp->Prop}{te:DE}{rest:St}{H:Hp}{R:Hp->Addr->Prop}{E:EK}{P:Nat->V->Hp->Prop}(up:∀i v H1 H2,NL H1 H2->P i v H1->P i v H2)(Y:C3 J χ ok)(hok:∀H1,Same H H1->ok H1)(hn:χ.length<=1000)(he:∀i x H1 Q1,χ[i]?=some x->Same H H1->(∀v H2,Same H1 H2->P i v H2->Q1 v H2)->te (some x::rest) H1 Q1 E)(k:∀D H' vs,Same H H'->H D=none->H' D=some (.lst vs)->vs.length=χ.length->(∀i v,vs[i]?=some v->P i v H')->R H' D) :
  ∀D,H D=none->Gk J (gdN 0) Cc te D (λH'=>R H' D) (none::rest) (upd H D (.lst [])) E:=by
 intro D hD
 refine De Y (λi σ H'=>(∃v,σ=v::rest)/\Same H H'/\∃vs,H' D=some (.lst vs)/\vs.length=i/\∀i v,vs[i]?=some v->P i v H') ⟨⟨_,rfl⟩,Same.upd hD,[],Ac,rfl,λi v h=>by simp at h⟩ (λ_ _ H' _ q=>hok H' q.2.1) ?_ ?_
 .rintro i x σ H1 hx ⟨⟨v,rfl⟩,S1,vs,eD,lv,hv⟩
  have hi:=Aj hx
  have big:1000<sizeLine:=by decide
  refine he i x H1 _ hx S1 λv H2 S2 pv=>⟨vs,S2 _ _ eD,by omega,⟨_,rfl⟩,(S1.trans S2).set hD,vs++[v],Ac,by rw[aB,lv];rfl,λj u hj=>?_⟩
  have nl:=NL.upd (m:=vs++[v]) (S2 _ _ eD)
  by_cases hj2:j<vs.length
  .rw[bJ hj2] at hj
   exact up _ _ _ _ nl (up _ _ _ _ (NL.same S2) (hv j u hj))
  .have hj3:=Aj hj
   rw[aB] at hj3
   have hj4:j=vs.length:=by have:j<vs.length+1:=hj3;omega
   subst hj4
   rw[bo (ag _),gR] at hj
   cases hj
   rw[lv]
   exact up _ _ _ _ nl pv
 .rintro σ H1 ⟨_,S1,vs,eD,lv,hv⟩
  exact k D H1 vs S1 hD eD lv hv
def K7{J:It}{χ:List V}{ok:Hp->Prop}{te:DE}{rest:St}{H:Hp}{R:Hp->Addr->Prop}{E:EK}{f:Nat->V}(Y:C3 J χ ok)(hok:∀H1,Same H H1->ok H1)(hn:χ.length<=1000)(he:∀i x H1 Q1,χ[i]?=some x->Same H H1->(∀H2,Same H1 H2->Q1 (f i) H2)->te (some x::rest) H1 Q1 E)(k:∀D H',Same H H'->H D=none->H' D=some (.lst ((aZ χ.length).map f))->R H' D) :
  ∀D,H D=none->Gk J (gdN 0) Cc te D (λH'=>R H' D) (none::rest) (upd H D (.lst [])) E:=
 He (P:=λi v _=>v=f i) (λ_ _ _ _ _ h=>h) Y hok hn (λi x H1 Q1 hx S q=>he i x H1 Q1 hx S λH2 S2=>q _ H2 S2 rfl) λD H' vs S hD eD lv hv=>k D H' S hD (by
  rw[eD]
  congr 2
  refine List.ext_getElem? λi=>?_
  rw[al]
  by_cases hi:i<χ.length
  .rw[fv hi,aj (by omega)]
   exact congrArg some (hv i _ (aj (by omega)))
  .rw[c_ (by omega),c_ (by rw[bx];omega)]
   rfl)
section
variable {P:aO}{w:bw}{K:ac}{mg:Str->Option Value}{base:Heap}{t:Adr}
def bm1(Z:An K t):OkD K af6 (Av K t) bl (t.f 18) (t.d 18) (D7 K t):=by
 refine A5 (b75 K t) λvs H Q E h=>?_
 .obtain⟨a,ns,k,rfl,hS,q⟩:=h;refine⟨rfl,?_⟩
  refine .inl ⟨_,.inl hS,?_⟩
  refine Jb (λe=>?_) (λe=>?_)
  .have e:k<((ns.map V.int).length:Int):=by simpa using e
   have hk:k<ns.length:=by rw[ae] at e;omega
   have:Bf ns k=ns[k]:=by unfold Bf;rw[av,aj hk];rfl
   rw[this] at q
   exact⟨_,_,.inl hS,Bq (by rw[al,aj hk];rfl),q⟩
  .have e:¬ k<((ns.map V.int).length:Int):=by simpa using e
   have hk:ns.length<=k:=by rw[ae] at e;omega
   have:Bf ns k=0:=by unfold Bf;rw[av,c_ hk];rfl
   rw[this] at q
   exact q
def bm7(Z:An K t):OkD K ag2 (Av K t) bl (t.f 20) (t.d 20) (Bo K t):=by
 refine A5 (b81 K t) λvs H Q E h=>?_
 .obtain⟨c,k,rfl,hk,q⟩:=h;refine⟨rfl,?_⟩
  unfold Bw at q
  refine⟨.inl ⟨by decide,by decide⟩,by omega,by decide,az0 (λhn=>?_) (λe1 e2 e3=>?_)⟩
  .rw[if_neg (λz=>hn ⟨decide_eq_true z.1,by simp[z.2.1],by simp[z.2.2]⟩)] at q
   have b1:0<=(c+7919*k)*48271%2147483647/\(c+7919*k)*48271%2147483647<2147483647:=⟨cr _ (by decide),cg _ (by decide)⟩
   refine⟨.inl ⟨by decide,by decide⟩,.inr ⟨by decide,by decide⟩,by decide,?_⟩
   dsimp only at q
   generalize (c+7919*k)*48271%2147483647=n at b1 q ⊢
   have b2:0<=n*n%2147483629/\n*n%2147483629<2147483629:=⟨cr _ (by decide),cg _ (by decide)⟩
   refine⟨.inl ⟨by omega,by omega⟩,by decide,?_⟩
   generalize n*n%2147483629=m at b2 q ⊢
   exact⟨.inl ⟨by omega,by omega⟩,by decide,⟨by decide,by decide⟩,q⟩
  .rw[if_pos ⟨of_decide_eq_true e1,by simpa using e2,by simpa using e3⟩] at q
   exact q
def Ey(l:List Nat):Txt.join (iD "") (l.map λk=>(⟨#[k]⟩:Str))=⟨l.toArray⟩:=by
 show Builtin.Str.glued (iD "") _=_
 rw[StrLaws.glued_eq_join,show iD ""=(⟨#[]⟩:Str) from by decide +kernel]
 exact PyProof.Rows.join_ones l
def Fv(l:List Nat):((l.map λk=>(⟨#[k]⟩:Str)).map (·.length)).sum+(l.map λk=>(⟨#[k]⟩:Str)).length*(iD "").length=l.length:=by
 rw[show(iD "").length=0 from by decide +kernel,Nat.mul_zero,Nat.add_zero]
 induction l with
 |nil=>rfl
 |cons a l ih=>rw[aX,aX,List.sum_cons,ih,aI,show(⟨#[a]⟩:Str).length=1 from rfl,mC]
def sgC(sg:Str)(x:Int):Nat:=sg.cps.toList.getD (x%(sg.length:Int)).toNat 0
def ar8{sg:Str}(x:Int)(h:1<=sg.length):atI sg.cps.toList (x%(sg.length:Int))=some (sgC sg x):=by
 have h0:=cr x (show(sg.length:Int)≠0 by omega)
 have h1:=cg x (show 0<(sg.length:Int) by omega)
 have e:x%sg.length=(((x%sg.length).toNat:Nat):Int):=by omega
 have hl:(x%sg.length).toNat<sg.cps.toList.length:=by rw[Ig];omega
 unfold sgC
 rw[e,aQ]
 exact Bq (by rw[av,aj hl];rfl)
def Ys{sg:Str}(x:Int)(h:1<=sg.length):sgC sg x∈sg.cps.toList:=by
 have h1:=cg x (show 0<(sg.length:Int) by omega)
 have hl:(x%sg.length).toNat<sg.cps.toList.length:=by
  rw[Ig]
  have h0:=cr x (show(sg.length:Int)≠0 by omega)
  omega
 unfold sgC
 rw[av,aj hl]
 exact dv hl
def a73{sg:Str}{x:Int}{i j:Nat}(nd:sg.cps.toList.Nodup)(hi:i<sg.length)(hj:j<sg.length)(e:sgC sg (x+i)=sgC sg (x+j)):i=j:=by
 have hp:0<(sg.length:Int):=by omega
 have a0:=cr (x+i) (show(sg.length:Int)≠0 by omega)
 have a1:=cg (x+i) hp
 have b0:=cr (x+j) (show(sg.length:Int)≠0 by omega)
 have b1:=cg (x+j) hp
 unfold sgC at e
 have l1:((x+i)%sg.length).toNat<sg.cps.toList.length:=by rw[Ig];omega
 have l2:((x+j)%sg.length).toNat<sg.cps.toList.length:=by rw[Ig];omega
 rw[av,av,aj l1,aj l2] at e
 have e2:=(du nd).mp (e)
 have e3:(x+i)%sg.length=(x+j)%sg.length:=by omega
 have e4:=Int.emod_emod_of_dvd
 have d1:=km (x+i) sg.length
 have d2:=km (x+j) sg.length
 rw[e3] at d1
 generalize (x+i)/sg.length=q1 at d1
 generalize (x+j)/sg.length=q2 at d2
 have d3:sg.length*q1-sg.length*q2=i-j:=by omega
 rw[<- Int.mul_sub] at d3
 have:q1-q2=0:=by
  by_cases z:q1-q2=0
  .exact z
  .exfalso
   have:1<=q1-q2\/q1-q2 <= -1:=by omega
   rcases this with z|z
   .have:=iE z (Int.le_of_lt hp);omega
   .have:=iE z (Int.le_of_lt hp);omega
 rw[this,Int.mul_zero] at d3
 omega
def wA(g:Nat->Nat)(lo k:Nat):Str:=⟨(((aZ lo).map g).take (lo-k)).toArray⟩
def wB(g:Nat->Nat)(n:Nat):Str:=⟨((aZ n).map g).toArray⟩
def W5(g:Nat->Nat)(lo k:Nat):(wA g lo k).length=lo-k:=by
 show(((aZ lo).map g).take (lo-k)).toArray.size=_
 rw[au,aN,ae,bx]
 omega
def Rn(g:Nat->Nat)(n:Nat):(wB g n).length=n:=by
 show((aZ n).map g).toArray.size=_
 rw[au,ae,bx]
def Tf{α:Type}{f:Nat->α}{m:Nat}(h:∀i j,i<m->j<m->f i=f j->i=j):((aZ m).map f).Nodup:=by
 refine List.pairwise_iff_getElem.mpr λi j hi hj hij=>?_
 rw[ae,bx] at hi hj
 rw[dU,dU,lX,lX]
 intro e
 have:=h i j hi hj e
 omega
def Qv(g:Nat->Nat)(n:Nat):(aZ n).map (λj=>V.str ⟨#[g j]⟩)=(((aZ n).map g).map λc=>(⟨#[c]⟩:Str)).map V.str:=by rw[aC,aC];rfl
def bl5(Z:An K t):OkD K af1 (Av K t) bl (t.f 21) (t.d 21) (Me K t):=by
 refine A5 (b69 K t) λvs H Q E h=>?_
 .obtain⟨c,sg,lo,m,rfl,h1,h12,hm,s1,s100,nd,k⟩:=h;refine⟨rfl,?_⟩
  have big:1000<sizeLine:=by decide
  refine⟨c,1,rfl,by decide,by decide,ag9 (λ_=>?_) (λ_ e2=>?_)⟩
  .have b1:1<=1+Bw c 20%lo/\1+Bw c 20%lo<=lo:=by
    have:=cr (Bw c 20) (show(lo:Int)≠0 by omega)
    have:=cg (Bw c 20) (show 0<(lo:Int) by omega)
    omega
   refine⟨c,20,rfl,by decide,by omega,c,21,rfl,by decide,by omega,by decide,λD hD=>⟨⟨by omega,by omega⟩,?_⟩⟩
   obtain⟨n,en⟩:∃n:Nat,1+Bw c 20%lo=n:=⟨(1+Bw c 20%lo).toNat,by omega⟩
   rw[en] at b1 ⊢
   have b2:0<=Bw c 21%n/\Bw c 21%n<n:=⟨cr _ (by omega),cg _ (by omega)⟩
   obtain⟨a,ea⟩:∃a:Nat,Bw c 21%n=a:=⟨(Bw c 21%n).toNat,by omega⟩
   rw[ea] at b2 ⊢
   let gB:Nat->Nat->Nat:=λi j=>sgC sg (Bw c (22+j)+i*(if decide ((j:Int)=(a:Int))=true then 1 else 0))
   rw[aQ]
   refine Az (Bt 0 m) (λi σ H'=>(∃v5 v9,σ=[some (.int c),some (.str sg),some (.int (lo:Int)),some (.int (m:Int)),none,v5,some (.int (n:Int)),some (.int (a:Int)),some (.ref D),v9])/\Same H H'/\H' D=some (Bk ((aZ i).map λi=>wB (gB i) n))) ⟨⟨_,_,rfl⟩,Same.upd hD,Ac⟩ (λ_ _ _ _ _=>aM) ?_ ?_
   .rintro i x σ H2 hx ⟨⟨v5,v9,rfl⟩,S2,eL⟩
    obtain⟨hi,rfl⟩:=Cv hx
    refine⟨⟨by omega,by omega⟩,?_⟩
    rw[aQ]
    refine K7 (f:=λj=>.int (Bw c (22+(j:Int))+(i:Int)*(if decide ((j:Int)=(a:Int))=true then 1 else 0))) (Bt 0 n) (λ_ _=>aM) (by rw[Ay];omega) (λj x H3 Q1 hj _ q=>?_) λD1 H3 S3 hD1 eD1=>?_
    .obtain⟨hj,rfl⟩:=Cv hj
     exact⟨c,22+(j:Int),rfl,by omega,.inl ⟨by omega,by omega⟩,q _ (Same.refl _)⟩
    .rw[Ay] at eD1
     refine⟨.inl ⟨rfl,_,SqL.of (S3 _ _ eL)⟩,rfl,.inl ⟨⟨_,SqL.of eD1⟩,?_⟩⟩
     refine K7 (f:=λj=>.str ⟨#[gB i j]⟩) (As _) (λH4 S4=>S4.seqL (SqL.of eD1)) (by rw[ae,bx];omega) (λj x H4 Q1 hj _ q=>?_) λD2 H4 S4 hD2 eD2=>?_
     .obtain⟨j',hj',rfl⟩:=Am hj
      obtain rfl:j'=j:=by
       have:=Aj hj'
       rw[bx] at this
       rw[fv this] at hj'
       exact(aG hj').symm
      exact⟨by omega,by omega,by omega,_,ar8 _ s1,q _ (Same.refl _)⟩
     .rw[ae,bx,Qv] at eD2
      have S34:=S3.trans S4
      refine⟨_,D2,_,rfl,rfl,.inl (SqL.of eD2),?_,?_⟩
      .rw[Fv,ae,bx];omega
      rw[Ey]
      refine⟨D,_,_,rfl,rfl,S34 _ _ eL,?_,⟨_,_,rfl⟩,(S2.trans S34).set hD,?_⟩
      .rw[ae,ae,bx]
       omega
      .rw[Ac,Bk,iZ,aw,aw]
       rfl
   .rintro σ H2 ⟨⟨v5,v9,rfl⟩,S2,eL⟩
    rw[Ay] at eL
    refine .inl (k H2 D _ S2 hD eL (by simp) ⟨Tf λi j hi hj e=>?_,λz hz=>?_⟩)
    .have h:(aZ n).map (gB i)=(aZ n).map (gB j):=congrArg (λz:Str=>z.cps.toList) e
     have h2:=congrArg (λl:List Nat=>l[a]?) h
     have ha:a<n:=by omega
     simp only[al,fv ha,dL,ig] at h2
     have h3:sgC sg (Bw c (22+(a:Int))+(i:Int))=sgC sg (Bw c (22+(a:Int))+(j:Int)):=by
      have e1:∀x:Nat,gB x a=sgC sg (Bw c (22+(a:Int))+(x:Int)):=λx=>by
       show sgC sg (_+(x:Int)*(if decide ((a:Int)=(a:Int))=true then 1 else 0))=_
       rw[decide_eq_true rfl,if_pos rfl,Int.mul_one]
      rw[<- e1,<- e1];exact h2
     exact a73 nd (by omega) (by omega) h3
    .obtain⟨i,_,rfl⟩:=List.mem_map.mp hz
     rw[Rn]
     refine⟨by omega,by omega,λx hx=>?_⟩
     have hx:=hx
     obtain⟨j,_,rfl⟩:=List.mem_map.mp hx
     exact Ys _ s1
  .have e2:m<=lo:=by
    have e2:=of_decide_eq_true e2
    omega
   let gA:Nat->Nat:=λj=>sgC sg (Bw c (2+(j:Int)))
   refine⟨rfl,⟨by omega,by omega⟩,?_⟩
   show ∀D,H D=none->Gk (Itr 0 ((lo:Int)).toNat) _ _ _ D _ _ _ _
   rw[aQ]
   refine K7 (f:=λj=>.str ⟨#[gA j]⟩) (rest:=[some (.int c),some (.str sg)]) (Bt 0 lo) (λ_ _=>aM) (by rw[Ay];omega) (λj x H2 Q1 hj _ q=>?_) λD H2 S2 hD eD=>?_
   .obtain⟨hj,rfl⟩:=Cv hj
    exact⟨c,2+(j:Int),rfl,by omega,by omega,by omega,by omega,_,ar8 _ s1,q _ (Same.refl _)⟩
   .rw[Ay,Qv] at eD
    refine⟨_,D,_,rfl,rfl,.inl (SqL.of eD),?_,?_⟩
    .rw[Fv,ae,bx];omega
    rw[Ey]
    refine⟨⟨by omega,by omega⟩,?_⟩
    show ∀D,H2 D=none->Gk (Itr 0 ((m:Int)).toNat) _ _ _ D _ _ _ _
    rw[aQ]
    refine K7 (f:=λk=>.str (wA gA lo k)) (rest:=[some (.int (lo:Int)),some (.str ⟨((aZ lo).map gA).toArray⟩)]) (Bt 0 m) (λ_ _=>aM) (by rw[Ay];omega) (λj x H3 Q1 hj _ q=>?_) λD3 H3 S3 hD3 eD3=>?_
    .obtain⟨hj,rfl⟩:=Cv hj
     have es:Txt.slice ⟨((aZ lo).map gA).toArray⟩ none (some ((lo:Int)-(j:Int)))=wA gA lo j:=by
      have hl:((⟨((aZ lo).map gA).toArray⟩:Str).length:Int)=lo:=by
       have:=Rn gA lo
       unfold wB at this
       rw[this]
      have e:=b9 (PyProof.Rows.slice_closes_to (x:=⟨((aZ lo).map gA).toArray⟩) (j:=(lo:Int)-(j:Int)) ⟨by omega,by rw[Ig,hl];omega⟩)
      rw[e,Int.sub_zero,show((lo:Int)-(j:Int)).toNat=lo-j by omega]
      unfold wA
      simp
     refine⟨?_,?_⟩
     .have:=Rn gA lo
      unfold wB at this
      rw[this]
      omega
     .rw[es];exact q _ (Same.refl _)
    .rw[Ay] at eD3
     refine k H3 D3 ((aZ m).map (wA gA lo)) (S2.trans S3) (S2.free hD3) (by rw[eD3,Bk,aC];rfl) (by simp) ⟨Tf λi j hi hj e=>?_,λz hz=>?_⟩
     .have h:=congrArg Str.length e
      rw[W5,W5] at h
      omega
     .obtain⟨i,hi,rfl⟩:=List.mem_map.mp hz
      have hi:=List.mem_range.mp hi
      rw[W5]
      refine⟨by omega,by omega,λx hx=>?_⟩
      have hx:x∈((aZ lo).map gA).take (lo-i):=hx
      obtain⟨j,_,rfl⟩:=List.mem_map.mp (eI hx)
      exact Ys _ s1
def bl1(Z:An K t):OkD K ae7 (Av K t) bl (t.f 30) (t.d 30) (Wn K t):=by
 refine A5 (b65 K t) λvs H Q E h=>?_
 .obtain⟨c,m,rfl,hm,k⟩:=h;refine⟨rfl,?_⟩
  have l37:(iD "abcdefghijklmnopqrstuvwxyz0123456789.").length=37:=by decide +kernel
  exact⟨c,_,12,m,rfl,by decide,by decide,by rw[l37];omega,by rw[l37];decide,by rw[l37];decide,by decide +kernel,λH' l ws S _ e hl hw=>k H' l ws S e hl hw.1 λz h=>⟨(hw.2 z h).2.1,λe=>by have:=(hw.2 z h).1;rw[e] at this;exact absurd this (by decide)⟩⟩
def Lb{xs:List V}{i:Nat}{x y:V}(h:(D9 0 xs)[i]?=some (x,y)):x=.int (i:Int)/\xs[i]?=some y:=by
 have hi:=Aj h
 rw[Bp] at hi
 have:=C6 (k:=0) (aj hi)
 rw[h] at this
 injection this with e
 injection e with e1 e2
 rw[dm] at e1
 exact⟨e1,by rw[e2,aj hi]⟩
structure SwL (H':Hp) (ls:Addr) (ds:List (((Str×List Str)×Addr)×Addr)):Prop where
 at_:H' ls=some (.lst (ds.map λx=>.ref x.2))
 tup:∀x∈ds,H' x.2=some (.tup [.str x.1.1.1,.ref x.1.2])
 lst:∀x∈ds,H' x.1.2=some (Bk x.1.1.2)/\x.1.2≠ls
def SwL.up{H1 H2:Hp}{ls:Addr}{ds:List (((Str×List Str)×Addr)×Addr)}(h:SwL H1 ls ds)(S:Same H1 H2):SwL H2 ls ds:=⟨S _ _ h.at_,λx hx=>S _ _ (h.tup x hx),λx hx=>⟨S _ _ (h.lst x hx).1,(h.lst x hx).2⟩⟩
def SwL.snoc{H1:Hp}{ls:Addr}{ds:List (((Str×List Str)×Addr)×Addr)}(h:SwL H1 ls ds){e:Str×List Str}{la ta:Addr}(ht:H1 ta=some (.tup [.str e.1,.ref la]))(hl:H1 la=some (Bk e.2))(nl:la≠ls) :
  SwL (upd H1 ls (.lst ((ds.map λx=>V.ref x.2)++[.ref ta]))) ls (ds++[((e,la),ta)]):=by
 have nt:∀{a} {xs},H1 a=some (.tup xs)->a≠ls:=λq z=>by rw[z,h.at_] at q;cases q
 refine⟨by rw[Ac,aw];rfl,λx hx=>?_,λx hx=>?_⟩
 .rcases List.mem_append.mp hx with hx|hx
  .rw[Ad (nt (h.tup x hx))];exact h.tup x hx
  .obtain rfl:x=((e,la),ta):=by simpa using hx
   rw[Ad (nt ht)];exact ht
 .rcases List.mem_append.mp hx with hx|hx
  .rw[Ad (h.lst x hx).2];exact h.lst x hx
  .obtain rfl:x=((e,la),ta):=by simpa using hx
   rw[Ad nl];exact⟨hl,nl⟩
def L8(sw:Sw)(e:Str×List Str):Cq (sw++[e])=Cq sw*e.2.length:=by unfold Cq;rw[gh];rfl
abbrev lettersS:Str := "abcdefghijklmnopqrstuvwxyz"
def an1{z:Str}(h:1<=z.length/\z.length<=8/\∀c∈z.cps.toList,c∈lettersS.cps.toList):okW z:=⟨h.1,h.2.1,by
 rw[bg]
 intro c hc
 have:=h.2.2 c hc
 rw[show lettersS.cps.toList=(aZ 26).map (97 + ·) by decide +kernel] at this
 obtain⟨i,hi,rfl⟩:=List.mem_map.mp this
 have:=List.mem_range.mp hi
 unfold Ku
 simp
 omega⟩
def b06(Z:An K t):OkD K bd8 (Av K t) bl (t.f 22) (t.d 22) (au0 K t):=by
 refine A5 (ce4 K t) λvs H Q E h=>?_
 .obtain⟨c,m,rfl,hm,hm2,k⟩:=h;refine⟨rfl,?_⟩
  have l26:lettersS.length=26:=by decide +kernel
  have nd26:lettersS.cps.toList.Nodup:=by decide +kernel
  refine⟨c,lettersS,8,5,rfl,by decide,by decide,by rw[l26];decide,by rw[l26];decide,by rw[l26];decide,nd26,λH1 lw ws S1 _ elw lws okw=>⟨by decide,λls hls=>?_⟩⟩
  have fls:=S1.free hls
  have nwl:=Ai elw hls
  have S2:=S1.trans (Same.upd (o:=.lst []) hls)
  have elw2:upd H1 ls (.lst []) lw=some (Bk ws):=by rw[Ad nwl];exact elw
  have L2:SwL (upd H1 ls (.lst [])) ls []:=⟨Ac,λx hx=>(by cases hx),λx hx=>(by cases hx)⟩
  generalize upd H1 ls (.lst [])=H2 at S2 elw2 L2 ⊢
  refine⟨c,40,rfl,by decide,by decide,⟨by omega,by omega⟩,?_⟩
  have hN:1<=(1+Bw c 40%5).toNat/\(1+Bw c 40%5).toNat<=5:=by omega
  refine Az (Bt 0 (1+Bw c 40%5).toNat) (λi σ H'=>∃ds,(∃v6 v7,σ=[some (.int c),some (.int m),some (.str lettersS),some (.ref lw),some (.ref ls),some (.int (Cq (ds.map (·.1.1)):Nat)),v6,v7])/\Same H H'/\H' lw=some (Bk ws)/\SwL H' ls ds /\
    (ds.map (·.1.1.1)).Sublist (ws.take i)/\(∀x∈ds,Gq x.1.1.2)/\Cq (ds.map (·.1.1))<=m/\(i=0->ds=[])/\(1<=i->ds≠[]))
   ⟨[],⟨_,_,rfl⟩,S2,elw2,L2,eO _,λx hx=>(by cases hx),(show 1<=m by omega),λ_=>rfl,λh=>(by omega)⟩ (λ_ _ _ _ _=>aM) ?_ ?_
  .rintro i x σ H5 hx ⟨ds,⟨v6,v7,rfl⟩,S45,elw5,L5,sub,oks,pm,z0,z1⟩
   obtain⟨hi,rfl⟩:=Cv hx
   have hs:2<=2+Bw c (41+i)%3/\2+Bw c (41+i)%3<=4:=by omega
   obtain⟨sz,esz⟩:∃sz:Nat,2+Bw c (41+i)%3=sz:=⟨(2+Bw c (41+i)%3).toNat,by omega⟩
   refine⟨c,41+i,rfl,by omega,by decide,?_⟩
   refine⟨.inr ⟨by omega,by omega⟩,Jb (λe=>⟨.inr ⟨by omega,by omega⟩,?_⟩) (λe=>?_)⟩
   .have e:=of_decide_eq_true e
    have hiw:i<ws.length:=by omega
    refine⟨.inl ⟨rfl,_,SqL.of L5.at_⟩,_,_,.inl (SqL.of elw5),Bq (by rw[al,aj hiw];rfl),?_⟩
    refine⟨c+1+i,lettersS,8,sz,by rw[<- esz];rfl,by decide,by decide,by rw[l26];omega,by rw[l26];decide,by rw[l26];decide,nd26,λH6 la ss S6 fla ela lss okss=>⟨cf4,λta hta=>?_⟩⟩
    have nla:=(Ai L5.at_ fla).symm
    refine gn hta λH7 ST et=>?_
    have L7:=L5.up (S6.trans ST)
    have lds:ds.length<=5:=by
     have:=sub.length_le
     rw[ae,aN] at this
     omega
    refine⟨ls,_,_,rfl,rfl,L7.at_,?_,?_⟩
    .rw[ae];exact a_ lds (by decide)
    have pe:((Cq ((ds++[(((ws[i],ss),la),ta)]).map (·.1.1)):Nat):Int)=(Cq (ds.map (·.1.1)):Nat)*(2+Bw c (41+i)%3):=by
     rw[aw,show [(((ws[i],ss),la),ta)].map (λx:((Str×List Str)×Addr)×Addr=>x.1.1)=[(ws[i],ss)] from rfl,L8,kq,lss,esz]
    refine⟨ds++[(((ws[i],ss),la),ta)],⟨_,_,congrArg (λz=>[some (V.int c),some (V.int m),some (V.str lettersS),some (V.ref lw),some (V.ref ls),some (V.int z),some (V.int i),some (V.int (2+Bw c (41+i)%3))]) pe.symm⟩,(S45.trans (S6.trans ST)).set fls,?_,L7.snoc et (ST _ _ ela) nla,?_,?_,by omega,λh=>(by omega),λ_ h=>by simp at h⟩
    .rw[Ad nwl];exact(S6.trans ST) _ _ elw5
    .rw[aw,aY,aj hiw]
     exact sub.append (eO _)
    .intro x hx
     rcases List.mem_append.mp hx with hx|hx
     .exact oks x hx
     .obtain rfl:x=(((ws[i],ss),la),ta):=by simpa using hx
      exact⟨⟨λz hz=>an1 (okss.2 z hz),okss.1,by rw[lss];omega⟩,by rw[lss];omega,by rw[lss];omega⟩
   .have e:¬ ((Cq (ds.map (·.1.1)):Nat):Int)*(2+Bw c (41+i)%3)<=m:=of_decide_eq_false (by simpa using e)
    have hi0:i≠0:=λz=>e (by
     rw[z0 z]
     show(1:Int)*_<=_
     omega)
    exact⟨ds,⟨_,_,rfl⟩,S45,elw5,L5,sub.trans (dJ (by omega)),oks,pm,λh=>(by omega),λ_=>z1 (by omega)⟩
  .rintro σ H4 ⟨ds,⟨v5,v6,rfl⟩,S4,elw4,L4,sub,oks,pm,z0,z1⟩
   rw[Ay] at sub z0 z1
   have sub2:=sub.trans (eQ _ ws)
   have hl:=sub2.length_le
   rw[ae] at hl
   have e1:(ds.map (·.1.1)).map (·.1)=ds.map (·.1.1.1):=by rw[aC];rfl
   refine .inl (k H4 ls (ds.map (·.1.1)) S4 ⟨ds,rfl,⟨trivial,L4.at_⟩,λx hx=>⟨⟨trivial,L4.tup x hx⟩,trivial,(L4.lst x hx).1⟩⟩ ⟨?_,?_,?_,?_,?_⟩)
   .rw[ae]
    exact List.length_pos_iff.mpr (z1 hN.1)
   .rw[ae];omega
   .rw[e1];exact okw.1.sublist sub2
   .intro y hy
    obtain⟨x,hx,rfl⟩:=List.mem_map.mp hy
    exact⟨an1 (okw.2 _ (sub2.subset (List.mem_map.mpr ⟨x,hx,rfl⟩))),oks x hx⟩
   .omega
def bl6(Z:An K t):OkD K af2 (Av K t) bl (t.f 19) (t.d 19) (Jr K t):=by
 refine A5 (b70 K t) λvs H Q E h=>?_
 .obtain⟨l,sw,rfl,⟨ds,ed,⟨_,ol⟩,hd⟩,hw,k⟩:=h;refine⟨rfl,?_⟩
  have len:ds.length=sw.length:=by rw[<- ed];simp
  refine .inl ⟨⟨_,SqL.of ol⟩,?_⟩
  refine Az (As (ds.map λx=>V.ref x.2)) (λi σ H'=>(∃v2 v3,σ=[some (.ref l),some (.int (Cq (sw.take i):Nat)),v2,v3])/\H'=H) ⟨⟨_,_,rfl⟩,rfl⟩ (λ_ _ H' _ q=>q.2▸SqL.of ol) ?_ ?_
  .rintro i x σ H' hx ⟨⟨v2,v3,rfl⟩,rfl⟩
   obtain⟨⟨⟨x',la⟩,ta⟩,hi,rfl⟩:=Am hx
   have hi2:sw[i]?=some x':=by rw[<- ed,al,hi];rfl
   obtain⟨⟨_,h1⟩,_,h2⟩:=hd _ (ak hi)
   have h2:H' la=some (Bk x'.2):=h2
   have o4:=(hw.sets x' (ak hi2)).2.2
   refine⟨_,.inl (SqT.of h1),rfl,.inl ⟨_,.inl (SqL.of h2),?_⟩⟩
   have e:((Cq (sw.take (i+1)):Nat):Int)=(Cq (sw.take i):Nat)*((x'.2.map V.str).length:Nat):=by
    rw[aY,hi2,d7,L8,kq,ae]
   exact⟨.inr ⟨by rw[ae];omega,by rw[ae];omega⟩,⟨_,_,congrArg (λz=>[some (V.ref l),some (V.int z),some (V.str x'.1),some (V.ref la)]) e.symm⟩,rfl⟩
  .rintro σ H' ⟨⟨v2,v3,rfl⟩,rfl⟩
   rw[ae,len,aK]
   rw[Ia] at k
   exact .inl k
def aw9{a:Addr}(xs:List V):C3 (Rq K a xs.length) xs.reverse (λH=>SqL K H a xs):=by
 refine⟨λi H q h=>⟨by rw[bj] at h;exact h,xs,q,rfl⟩,λH q=>by show xs.length<=xs.reverse.length;rw[bj];exact ag _,λi H x H' q hi h=>?_⟩
 obtain⟨h1,h2⟩:=h
 rw[bj] at hi
 refine⟨h1,?_⟩
 rw[List.getElem?_reverse hi]
 exact h2 xs q
def Lr:List Nat->Nat->Nat
 |[],n=>n
 |s::r,n=>Lr r (n/s)
theorem Ou:∀l s n,Lr (l++[s]) n=Lr l n/s
 |[],_,_=>rfl
 |a::l,s,n=>Ou l s (n/a)
theorem Sc:∀l s n,Nc (l++[s]) n=(Lr l n%s)::Nc l n
 |[],_,_=>rfl
 | a::l,s,n=>by
  show Nc (l++[s]) (n/a)++[n%a]=_
  rw[Sc l s (n/a)]
  rfl
def bk2(Z:An K t):OkD K ae2 (Av K t) bl (t.f 24) (t.d 24) (Qx K t):=by
 refine A5 (b57 K t) λvs H Q E h=>?_
 .obtain⟨l,n,sw,rfl,⟨ds,ed,⟨_,ol⟩,hd⟩,hw,k⟩:=h;refine⟨rfl,?_⟩
  refine⟨My,λD hD=>?_⟩
  refine gn hD λH0 S0 e0=>?_
  refine⟨_,SqL.of (S0 _ _ ol),?_⟩
  have big:1000<sizeLine:=by decide
  have rv:(ds.map λx=>V.ref x.2).reverse=(ds.reverse).map λx=>V.ref x.2:=List.map_reverse.symm
  have es:(ds.reverse.map λx=>x.1.1.2.length)=(sw.map (·.2.length)).reverse:=by rw[<- ed,aC,fM];rfl
  have ld:ds.reverse.length<=5:=by
   have:=hw.2.1
   rw[<- ed,ae] at this
   rw[bj];exact this
  refine Az (aw9 (ds.map λx=>V.ref x.2)) (λi σ H'=>(∃v3 v4,σ=[some (.ref l),some (.int (Lr ((ds.reverse.take i).map λx=>x.1.1.2.length) n:Nat)),some (.ref D),v3,v4])/\Same H H'/\H' D=some (nO (Nc ((ds.reverse.take i).map λx=>x.1.1.2.length) n)))
   ⟨⟨_,_,rfl⟩,S0,e0⟩ (λ_ _ H' _ q=>q.2.1.seqL (SqL.of ol)) ?_ ?_
  .rintro i x σ H1 hx ⟨⟨v3,v4,rfl⟩,S1,e1⟩
   rw[rv] at hx
   obtain⟨⟨⟨x',la⟩,ta⟩,hi,rfl⟩:=Am hx
   have hm:=List.mem_reverse.mp (ak hi)
   have o2:=(hw.sets x' (by rw[<- ed];exact List.mem_map.mpr ⟨_,hm,rfl⟩)).2
   obtain⟨⟨_,h1⟩,_,h2⟩:=hd _ hm
   have h2:H la=some (Bk x'.2):=h2
   have tk:=Cg hi λx=>x.1.1.2.length
   have li:=Aj hi
   refine⟨_,.inl (SqT.of (S1 _ _ h1)),rfl,.inl ⟨rfl,_,SqL.of e1⟩,.inl ⟨_,.inl (SqL.of (S1 _ _ h2)),?_⟩⟩
   have cl:(((x'.2.map V.str).length:Nat):Int)=x'.2.length:=by rw[ae]
   have md:∀a:Nat,a%x'.2.length=((a%x'.2.length):Int):=λa=>(Int.natCast_emod a _).symm
   have el:((Lr ((ds.reverse.take (i+1)).map λx=>x.1.1.2.length) n:Nat):Int)=(Lr ((ds.reverse.take i).map λx=>x.1.1.2.length) n:Nat)/(((x'.2.map V.str).length:Nat):Int):=by
    rw[tk,Ou,cl];exact Int.natCast_ediv _ _
   refine⟨by omega,D,_,_,0,rfl,rfl,e1,bu _,?_,.inl ⟨_,.inl (SqL.of ((S1.set hD) _ _ h2)),⟨by omega,by omega⟩,⟨_,_,congrArg (λz=>[some (V.ref l),some (V.int z),some (V.ref D),some (V.str x'.1),some (V.ref la)]) el.symm⟩,S1.set hD,?_⟩⟩
   .rw[ae,Ei,ae,aN];omega
   .rw[Ac,nO,tk,Sc,cl,md]
    rfl
  .rintro σ H1 ⟨⟨v3,v4,rfl⟩,S1,e1⟩
   rw[bj,ae,<- bj,aK,es] at e1
   exact .inl (k H1 D S1 e1)
def bg1{sw:Sw}{x e:Str×List Str}(hw:okSw sw)(hx:x∈sw)(h:e.1=x.1/\e.2≠[]/\e.2.Sublist x.2):Jj sw e:=by
 have ox:=hw.sets x hx
 refine⟨h.2.1,⟨λz hz=>ox.1.1 z (h.2.2.subset hz),ox.1.2.1.sublist h.2.2,?_⟩,x,hx,h.1.symm,λz hz=>h.2.2.subset hz⟩
 have:=h.2.2.length_le
 have:=ox.2.2
 omega
def bl4(Z:An K t):OkD K af0 (Av K t) bl (t.f 23) (t.d 23) (Wp K t):=by
 refine A5 (b68 K t) λvs H Q E h=>?_
 .obtain⟨c,l,sw,rfl,⟨ds,ed,⟨_,ol⟩,hd⟩,hw,k⟩:=h;refine⟨rfl,?_⟩
  have len:ds.length=sw.length:=by rw[<- ed];simp
  have l5:=hw.2.1
  have big:1000<sizeLine:=by decide
  refine⟨My,λkk hkk=>?_⟩
  refine gn hkk λH0 S0 ek0=>?_
  refine⟨c,60,rfl,by decide,by decide,⟨by omega,by omega⟩,?_⟩
  refine Az (Bt 0 (Bw c 60%4).toNat) (λi σ H'=>∃gs:List (Sw×Addr),(∃v3 v4 v5 v6 v7 v8 v9,σ=[some (.int c),some (.ref l),some (.ref kk),v3,v4,v5,v6,v7,v8,v9])/\Same H H'/\H' kk=some (.lst (gs.map λx=>.ref x.2))/\(∀x∈gs,RuleAt (· ≠ kk) H' x.2 x.1)/\(∀r∈gs.map (·.1),E1 sw r)/\gs.length<=i)
   ⟨[],⟨_,_,_,_,_,_,_,rfl⟩,S0,ek0,(λx hx=>by cases hx),(λx hx=>by cases hx),ag _⟩ (λ_ _ _ _ _=>aM) ?_ ?_
  .rintro i x σ H1 hx ⟨gs,⟨v3,v4,v5,v6,v7,v8,v9,rfl⟩,S1,ek,hg,okg,gl⟩
   obtain⟨hi,rfl⟩:=Cv hx
   intro d hd0
   refine .inl (.inl ⟨⟨_,(S1.trans (Same.upd hd0)).seqL (SqL.of ol)⟩,?_⟩)
   have ndk:=(Ai ek hd0).symm
   refine gn hd0 λH2 Sd e0=>?_
   refine Ho (E5 (ds.map λx=>V.ref x.2)) (λj σ H'=>(∃v5 v6 v7 v8 v9,σ=[some (.int c),some (.ref l),some (.ref kk),some (.int i),some (.ref d),v5,v6,v7,v8,v9])/\Same H1 H'/\∃es:List ((Str×List Str)×Addr),H' d=some (.dK (es.map kR))/\(∀e∈es,H1 e.2=none/\e.2≠d/\H' e.2=some (Bk e.1.2))/\((es.map (·.1)).map (·.1)).Sublist ((sw.take j).map (·.1))/\∀e∈es,Jj sw e.1)
    ⟨⟨_,_,_,_,_,rfl⟩,Sd,[],e0,(λe he=>by cases he),eO _,(λe he=>by cases he)⟩ (λ_ _ H' _ q=>(S1.trans q.2.1).seqL (SqL.of ol)) ?_ ?_
   .rintro j x y T σ H3 hx3 hT ⟨⟨v5,v6,v7,v8,v9,rfl⟩,S3,es,ed3,he,sub,oke⟩
    obtain⟨⟨⟨x',la⟩,ta⟩,hj,rfl,rfl⟩:=Pw hx3
    have hj2:sw[j]?=some x':=by rw[<- ed,al,hj];rfl
    have jl:=Aj hj2
    obtain⟨⟨_,h1⟩,_,h2⟩:=hd _ (ak hj)
    have h2:=h2
    have o4:=(hw.sets x' (ak hj2)).2.2
    refine gn hT λH4 ST eST=>?_
    refine⟨_,.inl (SqT.of eST),rfl,?_⟩
    have S14:=S3.trans ST
    have S04:=S1.trans S14
    refine⟨_,.inl (SqT.of (S04 _ _ h1)),rfl,⟨.inl ⟨by decide,by decide⟩,c,61+8*i+j,rfl,by omega,?_⟩⟩
    refine .inl ⟨⟨_,SqL.of (S04 _ _ h2)⟩,λD hD=>?_⟩
    refine Pp (E5 (x'.2.map V.str)) (λm σ H'=>(∃v0 v1,σ=[v0,v1,some (.int (Bw c (61+8*i+j)))])/\Same H4 H'/\∃ss,H' D=some (Bk ss)/\ss.Sublist (x'.2.take m)) ⟨⟨_,_,rfl⟩,Same.upd hD,[],Ac,List.nil_sublist _⟩ (λm σ H' _ q=>(S04.trans q.2.1).seqL (SqL.of h2)) ?_ ?_
    .rintro m u y T2 σ H5 hx5 hT2 ⟨⟨v0,v1,rfl⟩,S5,ss,eD,sb⟩
     obtain⟨rfl,hy⟩:=Lb hx5
     obtain⟨z,hz,rfl⟩:=Am hy
     have ST2:=Same.upd (o:=.tup [.int m,.str z]) hT2
     refine⟨_,.inl (SqT.of Ac),rfl,by omega,?_⟩
     have pl:ss.length<=4:=by
      have:=sb.length_le
      rw[aN] at this
      omega
     refine Jb (λ_=>?_) (λ_=>?_)
     .refine⟨_,ST2 _ _ eD,by rw[ae];omega,⟨_,_,rfl⟩,(S5.trans ST2).set hD,ss++[z],by rw[Ac,Bk,aw];rfl,?_⟩
      rw[aY,hz]
      exact sb.append (eO _)
     .exact⟨⟨_,_,rfl⟩,S5.trans ST2,ss,ST2 _ _ eD,sb.trans (dJ (by omega))⟩
    .rintro σ H5 ⟨_,S5,ss,eD,sb⟩
     have sb2:ss.Sublist x'.2:=sb.trans (eQ _ _)
     have S15:=S14.trans S5
     refine⟨My,λq hq=>.inl ⟨D,q,_,_,rfl,rfl,SqL.of ((Same.upd hq) _ _ eD),SqL.of Ac,Gc _,rfl,?_⟩⟩
     refine gn hq λH6 Sq _=>?_
     have S16:=S15.trans Sq
     have stay:(∃v5 v6 v7 v8 v9,[some (V.int c),some (.ref l),some (.ref kk),some (.int i),some (.ref d),some (.int j),some (.str x'.1),some (.ref la),some (.int (Bw c (61+8*i+j))),some (.ref D)]=[some (V.int c),some (.ref l),some (.ref kk),some (.int i),some (.ref d),v5,v6,v7,v8,v9])/\Same H1 H6/\∃es:List ((Str×List Str)×Addr),H6 d=some (.dK (es.map kR))/\(∀e∈es,H1 e.2=none/\e.2≠d/\H6 e.2=some (Bk e.1.2))/\((es.map (·.1)).map (·.1)).Sublist ((sw.take (j+1)).map (·.1))/\∀e∈es,Jj sw e.1:=
      ⟨⟨_,_,_,_,_,rfl⟩,S16,es,(ST.trans (S5.trans Sq)) _ _ ed3,λe h=>⟨(he e h).1,(he e h).2.1,(ST.trans (S5.trans Sq)) _ _ (he e h).2.2⟩,sub.trans ((dJ (by omega)).map _),oke⟩
     by_cases hp:ss=[]
     .subst hp
      exact stay
     .refine Lk (by rw[Fi (by rw[ae];intro z;exact hp (List.length_eq_zero_iff.mp z))];rfl) ?_
      refine⟨⟨by decide,by decide⟩,by decide,Jb (λ_=>?_) (λ_=>stay)⟩
      have nk:Be (es.map kR) (.inr x'.1)=none:=by
       refine Ci λq=>?_
       rw[Kt] at q
       obtain⟨y,hy,e⟩:=List.mem_map.mp q
       cases e
       have hm:=sub.subset hy
       rw[gZ] at hm
       exact Eu hw.2.2.1 (show(sw.map (·.1))[j]?=some x'.1 by rw[al,hj2];rfl) hm
      have el:es.length<=5:=by
       have:=sub.length_le
       rw[ae,ae,ae,aN] at this
       omega
      have e6D:=Sq _ _ eD
      have e6d:=(ST.trans (S5.trans Sq)) _ _ ed3
      have ndD:D≠d:=λz=>by rw[z,e6d] at e6D;cases e6D
      refine⟨_,DPut.k (k:=.inr x'.1) e6d (by rw[ae];omega),?_⟩
      rw[Kq (e:=(x'.1,ss)) nk]
      refine⟨⟨_,_,_,_,_,rfl⟩,S16.set hd0,es++[((x'.1,ss),D)],Ac,λx hx=>?_,?_,λx hx=>?_⟩
      .rcases List.mem_append.mp hx with hx|hx
       .obtain⟨a1,a2,a3⟩:=he x hx
        exact⟨a1,a2,by rw[Ad a2];exact(ST.trans (S5.trans Sq)) _ _ a3⟩
       .obtain rfl:x=((x'.1,ss),D):=by simpa using hx
        exact⟨S14.free hD,ndD,by rw[Ad ndD];exact e6D⟩
      .rw[aw,aw,aY,hj2,aw]
       exact sub.append (eO _)
      .rcases List.mem_append.mp hx with hx|hx
       .exact oke x hx
       .obtain rfl:x=((x'.1,ss),D):=by simpa using hx
        exact bg1 hw (ak hj2) ⟨rfl,hp,sb2⟩
   .rintro σ H3 ⟨⟨v5,v6,v7,v8,v9,rfl⟩,S3,es,ed3,he,sub,oke⟩
    rw[Bp,ae,len,aK] at sub
    refine .inl ?_
    intro q hq
    refine .inl (.inr (.inr (.inl (.inr (.inl ⟨_,.inl ((Same.upd hq) _ _ ed3),.inl Ac,?_⟩)))))
    refine gn hq λH4 Sq _=>?_
    have S14:=S3.trans Sq
    have ek4:=S14 _ _ ek
    have hg4:∀x∈gs,RuleAt (· ≠ kk) H4 x.2 x.1:=λx hx=>(hg x hx).mono (Kp.same S14)
    cases es with
    |nil=>exact⟨gs,⟨_,_,_,_,_,_,_,rfl⟩,S1.trans S14,ek4,hg4,okg,jx gl⟩
    |cons e0 es0=>
     refine Zv ?_
     refine⟨.inl ⟨rfl,_,SqL.of ek4⟩,kk,_,_,rfl,rfl,ek4,by rw[ae];omega,?_⟩
     refine⟨gs++[((e0::es0).map (·.1),d)],⟨_,_,_,_,_,_,_,rfl⟩,(S1.trans S14).set hkk,by rw[Ac,aw];rfl,λx hx=>?_,λr hr=>?_,by rw[aB];exact dy gl⟩
     .refine RuleAt.mono (H:=H4) (ok:=(· ≠ kk)) ?_ (Kp.off λz=>z rfl)
      rcases List.mem_append.mp hx with hx|hx
      .exact hg4 x hx
      .obtain rfl:x=((e0::es0).map (·.1),d):=by simpa using hx
       exact⟨e0::es0,rfl,⟨ndk,Sq _ _ ed3⟩,λx hx=>⟨(Ai ek (he x hx).1).symm,Sq _ _ (he x hx).2.2⟩⟩
     .rw[aw] at hr
      rcases List.mem_append.mp hr with hr|hr
      .exact okg r hr
      .obtain rfl:r=(e0::es0).map (·.1):=by simpa using hr
       have sl:=sub.length_le
       rw[ae,ae,ae] at sl
       refine⟨by simp,by rw[ae];omega,hw.2.2.1.sublist sub,λe h=>?_⟩
       obtain⟨x,hx,rfl⟩:=List.mem_map.mp h
       exact oke x hx
  .rintro σ H1 ⟨gs,⟨v3,v4,v5,v6,v7,v8,v9,rfl⟩,S1,ek,hg,okg,gl⟩
   rw[Ay] at gl
   exact .inl (k H1 kk (gs.map (·.1)) S1 ⟨gs,rfl,⟨trivial,ek⟩,λx hx=>(hg x hx).mono Kp.any⟩ okg (by rw[ae];omega))
def Ss(z:Str)(l:List Str):inV (.str z) (l.map V.str)=decide (z∈l):=by
 unfold inV
 rw[mz,cq,decide_eq_true_iff,gG]
 constructor
 .rintro⟨y,hy,e⟩
  have e:=e
  rw[<- b9 e]
  exact hy
 .intro h
  exact⟨z,h,beq_self_eq_true z⟩
def inE(rule:Sw)(x z:Str):Bool:=rule.all λe=>!decide (e.1=x)||decide (z∈e.2)
def Zr(sw rule:Sw)(r:List Str)(j:Nat):Bool:=inE rule ((sw.map (·.1)).getD j dP) (r.getD j dP)
def Kn{α:Type}{l:List α}{i:Nat}{x d:α}(h:l[i]?=some x):l.getD i d=x:=by rw[av,h];rfl
def bf3{sw rule:Sw}{n:Nat}{r:List Str}(hw:okSw sw)(hb:E1 sw rule)(hn:(Al sw)[n]?=some r):((aZ sw.length).all (Zr sw rule r))=(Gm sw rule).testBit n:=by
 have rl:=(Ic hw.sets).2.1 r (ak hn)
 have nm:∀{j} {x},sw[j]?=some x->(sw.map (·.1)).getD j dP=x.1:=λh=>Kn (by rw[al,h];rfl)
 have hz:∀{j},j<sw.length->r[j]?=some (r.getD j dP):=λh=>by rw[av,aj (by omega)];rfl
 rw[ah4,decide_eq_true (Aj hn),iP,cq,bg,bg]
 constructor
 .intro h e he
  obtain⟨_,_,x,hx,ex,_⟩:=hb.2.2.2 e he
  obtain⟨j,hj⟩:=List.mem_iff_getElem?.mp hx
  have jl:=Aj hj
  have:=List.all_eq_true.mp (h j (List.mem_range.mpr jl)) e he
  rw[nm hj,ex,decide_eq_true rfl,Bool.not_true,jL,decide_eq_true_iff] at this
  refine List.any_eq_true.mpr ⟨_,this,?_⟩
  unfold Zo
  rw[hn,<- ex,L6 hj hw.2.2.1]
  exact decide_eq_true (hz jl)
 .intro h j hj
  have jl:=List.mem_range.mp hj
  have hx:=aj jl
  refine List.all_eq_true.mpr λe he=>?_
  rw[nm hx]
  by_cases c:e.1=sw[j].1
  .obtain⟨z,hz1,hz2⟩:=List.any_eq_true.mp (h e he)
   have hz2:=of_decide_eq_true hz2
   rw[hn,c,L6 hx hw.2.2.1] at hz2
   have hz2:=hz2
   rw[Kn hz2,decide_eq_true hz1,fV]
  .rw[decide_eq_false c];rfl
def bf1(f:Nat->Bool)(n:Nat):(((aZ n).map f).all λb=>b)=(aZ n).all f:=by rw[iw];rfl
def bk1(Z:An K t):OkD K ae1 (Av K t) bl (t.f 25) (t.d 25) (Wf K t):=by
 refine A5 (b56 K t) λvs H Q E h=>?_
 .obtain⟨l,kk,n,sw,ζ,rfl,hsw,hw,⟨gs,eg,⟨_,ok⟩,hg⟩,hr,hn,k⟩:=h;refine⟨rfl,?_⟩
  have big:1000<sizeLine:=by decide
  have l5:=hw.2.1
  refine⟨l,n,sw,rfl,hsw,hw,λH1 r S1 er=>?_⟩
  obtain⟨ds,ed,⟨_,ol⟩,hd⟩:=hsw
  have len:ds.length=sw.length:=by rw[<- ed];simp
  have hrow:=aj hn
  generalize (Al sw)[n]=row at hrow
  refine .inl ⟨⟨_,SqL.of (S1 _ _ ok)⟩,?_⟩
  refine Az (As (gs.map λx=>V.ref x.2)) (λi σ H'=>(∃v4 v5,σ=[some (.ref l),some (.ref kk),some (.int n),some (.ref r),v4,v5])/\Same H1 H'/\∀q∈ζ.take i,(Gm sw q).testBit n=false) ⟨⟨_,_,rfl⟩,Same.refl _,λq hq=>(by cases hq)⟩ (λ_ _ H' _ q=>(S1.trans q.2.1).seqL (SqL.of ok)) ?_ ?_
  .rintro i x σ H2 hx ⟨⟨v4,v5,rfl⟩,S2,pre⟩
   obtain⟨⟨rule,ra⟩,hi,rfl⟩:=Am hx
   have hi2:ζ[i]?=some rule:=by rw[<- eg,al,hi];rfl
   obtain⟨es,ee,⟨_,oe⟩,he⟩:=hg _ (ak hi)
   have ee:es.map (·.1)=rule:=ee
   have oe:=oe
   have okr:=hr rule (ak hi2)
   have S02:=S1.trans S2
   refine .inl ⟨⟨_,SqL.of (S02 _ _ ol)⟩,λD hD=>?_⟩
   refine Pp (E5 (ds.map λx=>V.ref x.2)) (λm σ H'=>(∃v0 v1 v2,σ=[v0,v1,v2,some (.ref r),some (.ref ra)])/\Same H2 H'/\H' D=some (.lst (((aZ m).map (Zr sw rule row)).map V.bl))) ⟨⟨_,_,_,rfl⟩,Same.upd hD,Ac⟩ (λm σ H' _ q=>(S02.trans q.2.1).seqL (SqL.of ol)) ?_ ?_
   .rintro j x y T σ H3 hx3 hT ⟨⟨v0,v1,v2,rfl⟩,S3,eD⟩
    obtain⟨⟨⟨x',la⟩,ta⟩,hj,rfl,rfl⟩:=Pw hx3
    have hj2:sw[j]?=some x':=by rw[<- ed,al,hj];rfl
    have jl:=Aj hj2
    obtain⟨⟨_,h1⟩,_,h2⟩:=hd _ (ak hj)
    have h2:=h2
    refine gn hT λH4 ST eST=>?_
    refine⟨_,.inl (SqT.of eST),rfl,?_⟩
    have S24:=S3.trans ST
    have S04:=S02.trans S24
    obtain⟨dg,hd1,hd2,hd3⟩:=bf9 hw hrow hj2
    have hz:=aj hd2
    rw[hz] at hd3
    generalize x'.2[dg]=z at hz hd3
    refine⟨_,.inl (SqT.of (S04 _ _ h1)),rfl,?_⟩
    refine⟨_,.int dg,.inl (SqL.of ((S2.trans S24) _ _ er)),Bq (by rw[al,hd1];rfl),_,.str z,.inl (SqL.of (S04 _ _ h2)),Bq (by rw[al,hz];rfl),?_⟩
    refine⟨.inr (.inr (.inl ⟨rfl,.inl ⟨_,S04 _ _ oe⟩⟩)),_,DGet.k (k:=.inr x'.1) (S04 _ _ oe),?_⟩
    have fin:∀b,b=Zr sw rule row j -> ∃ys,H4 D=some (.lst ys)/\ys.length<sizeLine/\(∃v0 v1 v2,[some (V.int j),some (.str x'.1),some (.ref la),some (.ref r),some (.ref ra)]=[v0,v1,v2,some (.ref r),some (.ref ra)])/\Same H2 (upd H4 D (.lst (ys++[.bl b])))/\upd H4 D (.lst (ys++[.bl b])) D=some (.lst (((aZ (j+1)).map (Zr sw rule row)).map V.bl)):=λb hb=>
     ⟨_,ST _ _ eD,by rw[ae,ae,bx];omega,⟨_,_,_,rfl⟩,S24.set hD,by rw[Ac,hb,iZ,aw,aw];rfl⟩
    have ins:Zr sw rule row j=inE rule x'.1 z:=by unfold Zr;rw[Kn hd3,Kn (by rw[al,hj2];rfl)]
    by_cases hin:x'.1∈rule.map (·.1)
    .obtain⟨e,hee,en⟩:=List.mem_map.mp hin
     rw[<- ee] at hee
     obtain⟨⟨e',le⟩,hes,rfl⟩:=List.mem_map.mp hee
     obtain⟨a,ha⟩:=List.mem_iff_getElem?.mp hes
     have hv:Be (es.map kR) (.inr x'.1)=some (.ref le):=by
      rw[<- en]
      exact Bs (Ez ee okr.2.2.1) (by rw[al,ha];rfl)
     rw[hv]
     refine .inl ⟨le,_,rfl,.inl (SqL.of (S04 _ _ (he _ hes).2)),rfl,Gc _,fin _ ?_⟩
     show inV (.str z) _=_
     rw[Ss,ins]
     have em:e'∈rule:=by rw[<- ee];exact hee
     unfold inE
     rw[cq,decide_eq_true_iff,bg]
     refine⟨λhz e he2=>?_,λh=>by simpa [show e'.1=x'.1 from en] using h e' em⟩
     by_cases c:e.1=x'.1
     .have:e=e':=by
       obtain⟨a1,q1⟩:=List.mem_iff_getElem?.mp he2
       obtain⟨a2,q2⟩:=List.mem_iff_getElem?.mp em
       have l1:=Aj q1
       have l2:=Aj q2
       rw[aj l1] at q1
       rw[aj l2] at q2
       have:=(du (i:=a1) (j:=a2) (h₀:=by rw[ae];exact l1) (h₁:=by rw[ae];exact l2) okr.2.2.1).mp (by rw[dU,dU,aG q1,aG q2,c];exact en.symm)
       subst this
       exact(aG q1).symm.trans (aG q2)
      rw[this,decide_eq_true hz,fV]
     .rw[decide_eq_false c];rfl
    .have hv:Be (es.map kR) (.inr x'.1)=none:=by
      refine Ci λq=>hin ?_
      rw[Kt,ee] at q
      obtain⟨y,hy,e⟩:=List.mem_map.mp q
      cases e
      exact hy
     rw[hv]
     refine .inl ⟨la,_,rfl,.inl (SqL.of (S04 _ _ h2)),rfl,Gc _,fin _ ?_⟩
     show inV (.str z) _=_
     rw[Ss,ins,decide_eq_true (ak hz)]
     refine(List.all_eq_true.mpr λe he2=>?_).symm
     rw[decide_eq_false λc=>hin (List.mem_map.mpr ⟨e,he2,c⟩)];rfl
   .rintro σ H3 ⟨_,S3,eD⟩
    rw[Bp,ae,len] at eD
    refine⟨_,SqL.of eD,?_⟩
    rw[bf1,bf3 hw okr hrow]
    cases hc:(Gm sw rule).testBit n with
    |true=>
     have:=k H3 (S02.trans S3)
     have hb:K5 sw ζ n=true:=List.any_eq_true.mpr ⟨rule,ak hi2,hc⟩
     rw[hb] at this
     exact this
    |false=>
     refine⟨⟨_,_,rfl⟩,S2.trans S3,λq hq=>?_⟩
     rw[aY,hi2] at hq
     rcases List.mem_append.mp hq with hq|hq
     .exact pre q hq
     .obtain rfl:q=rule:=by simpa using hq
      exact hc
  .rintro σ H2 ⟨⟨v4,v5,rfl⟩,S2,pre⟩
   rw[ae,<- ae (f:=Prod.fst) (as:=gs),eg,aK] at pre
   have hb:K5 sw ζ n=false:=by
    unfold K5
    rw[jv]
    exact λq hq z=>by rw[pre q hq] at z;cases z
   have:=k H2 (S1.trans S2)
   rw[hb] at this
   exact .inl this
def Zk(l:List Nat):(l.map λn:Nat=>V.int (n:Int)).all B0=true:=by rw[iw,bg];exact λ_ _=>rfl
def bl7(Z:An K t):OkD K af3 (Av K t) bl (t.f 26) (t.d 26) (Wq K t):=by
 refine A5 (b71 K t) λvs H Q E h=>?_
 .obtain⟨c,m,rfl,hm,hm2,k⟩:=h;refine⟨rfl,?_⟩
  have big:1000<sizeLine:=by decide
  refine⟨c,m,rfl,hm,hm2,λH1 l sw S1 hsw hw=>⟨c,l,sw,rfl,hsw,hw,λH2 kk ζ S2 hr okr lr=>?_⟩⟩
  have few:=hw.len
  have S02:=S1.trans S2
  have hsw2:=hsw.mono (Kp.same S2)
  refine⟨l,sw,rfl,hsw2,hw,⟨by omega,by omega⟩,λD hD=>?_⟩
  rw[aQ]
  refine De (Bt 0 (Al sw).length) (λi σ H'=>(∃v,σ=[v,some (.ref kk),some (.ref l)])/\Same H2 H'/\H' D=some (nO ((aZ i).filter λn=>!K5 sw ζ n))) ⟨⟨_,rfl⟩,Same.upd hD,Ac⟩ (λ_ _ _ _ _=>aM) ?_ ?_
  .rintro i x σ H3 hx ⟨⟨v,rfl⟩,S3,eD⟩
   obtain⟨hi,rfl⟩:=Cv hx
   refine⟨l,kk,i,sw,ζ,rfl,hsw2.mono (Kp.same S3),hw,hr.mono (Kp.same S3),okr,hi,λH4 S4=>?_⟩
   have S34:=S3.trans S4
   have fs:(aZ (i+1)).filter (λn=>!K5 sw ζ n)=(aZ i).filter (λn=>!K5 sw ζ n)++(if(!K5 sw ζ i)=true then [i] else []):=by
    rw[iZ,gY,List.filter_cons,List.filter_nil]
   cases hc:K5 sw ζ i with
   |true=>
    rw[hc,if_neg (by decide),cu] at fs
    exact⟨⟨_,rfl⟩,S34,by rw[fs];exact S4 _ _ eD⟩
   |false=>
    rw[hc,if_pos (by decide)] at fs
    refine⟨_,S4 _ _ eD,?_,⟨_,rfl⟩,S34.set hD,?_⟩
    .rw[ae]
     have:=df (λn=>!K5 sw ζ n) (aZ i)
     rw[bx] at this
     omega
    .rw[Ac,fs,nO,aw];rfl
  .rintro σ H3 ⟨_,S3,eD⟩
   rw[Ay] at eD
   have eD:H3 D=some (nO (Ap sw ζ)):=eD
   refine⟨My,λq hq=>.inl ⟨D,q,_,_,rfl,rfl,SqL.of ((Same.upd hq) _ _ eD),SqL.of Ac,Zk _,rfl,?_⟩⟩
   refine gn hq λH4 Sq _=>?_
   have S24:=S3.trans Sq
   have S04:=S02.trans S24
   by_cases hf:Ap sw ζ=[]
   .rw[hf]
    refine Zv ?_
    refine⟨My,λk2 hk2=>?_⟩
    refine gn hk2 λH5 S5 e5=>?_
    refine⟨l,sw,rfl,hsw2.mono (Kp.same (S24.trans S5)),hw,by omega,by omega,λD2 hD2=>?_⟩
    rw[aQ]
    refine gn hD2 λH6 S6 e6=>?_
    refine⟨cf5,λW hW=>?_⟩
    have S7:=Same.upd (o:=.lst [.ref l,.ref k2,.ref D2]) hW
    have f0:Ap sw []=aZ (Al sw).length:=List.filter_eq_self.mpr λ_ _=>rfl
    refine k _ W sw [] l k2 D2 (S04.trans (S5.trans (S6.trans S7))) ⟨Ac,hsw2.mono (Kp.same (S24.trans (S5.trans (S6.trans S7)))),hw,⟨[],rfl,⟨trivial,(S6.trans S7) _ _ e5⟩,λx hx=>by cases hx⟩,λr hr=>(by cases hr),bu _,by rw[f0];exact S7 _ _ e6,?_⟩
    rw[f0]
    intro z
    have:=congrArg cy z
    rw[bx,ku] at this
    have:=hw.pos
    omega
   .refine E8 (Fi (by rw[ae];intro z;exact hf (List.length_eq_zero_iff.mp z))) ?_
    refine⟨cf5,λW hW=>?_⟩
    have S7:=Same.upd (o:=.lst [.ref l,.ref kk,.ref D]) hW
    exact k _ W sw ζ l kk D (S04.trans S7) ⟨Ac,hsw2.mono (Kp.same (S24.trans S7)),hw,hr.mono (Kp.same (S24.trans S7)),okr,by omega,(Sq.trans S7) _ _ eD,hf⟩
def Hk(x:Int){m:Nat}(h:1<=m):∃v,v<m/\x%(m:Int)=(v:Int):=by
 have h0:=cr x (show(m:Int)≠0 by omega)
 have h1:=cg x (show 0<(m:Int) by omega)
 exact⟨(x%m).toNat,by omega,by omega⟩
def bj1(Z:An K t):OkD K ad9 (Av K t) bl (t.f 31) (t.d 31) (V6 K t):=by
 refine A5 (b45 K t) λvs H Q E h=>?_
 .obtain⟨c,l,sw,n,m,rfl,hsw,hw,hm,k⟩:=h;refine⟨rfl,?_⟩
  obtain⟨ds,ed,⟨_,ol⟩,hd⟩:=id hsw
  have len:ds.length=sw.length:=by rw[<- ed];simp
  have l1:=hw.1
  refine⟨c,70,rfl,by decide,by decide,Jb (λ_=>?_) (λ_=>?_)⟩
  .refine⟨l,n,sw,rfl,hsw,hw,λH1 r S1 er=>⟨c,71,rfl,by decide,.inl ⟨_,.inl (SqL.of (S1 _ _ ol)),?_⟩⟩⟩
   rw[ae,len]
   obtain⟨j,hj,ej⟩:=Hk (Bw c 71) l1
   have hd2:(R8 sw n)[j]?=some ((R8 sw n)[j]'(by rw[K9];exact hj)):=aj _
   refine⟨by omega,_,.int ((R8 sw n)[j]'(by rw[K9];exact hj):Nat),.inl (SqL.of er),?_,by omega,?_⟩
   .rw[ej];exact Bq (by rw[al,hd2];rfl)
   .obtain⟨v,hv,ev⟩:=Hk (((R8 sw n)[j]'(by rw[K9];exact hj):Nat):Int) hm
    rw[ev]
    exact k H1 v S1 hv
  .obtain⟨v,hv,ev⟩:=Hk (Bw c (700+n)) hm
   refine⟨c,700+n,rfl,by omega,by omega,?_⟩
   rw[ev]
   exact k H v (Same.refl _) hv
def textS:Str := " !\"#$&'()*+,-./0123456789:;<=>?@ABCDEFGHIJKLMNOPQRSTUVWXYZ[\\]^_`" ++ "abcdefghijklmnopqrstuvwxyz{|}~"
def b99(x:Int)(h0:0<=x)(h:x<5):∃L:Nat,L<=60/\atI [V.int 0,.int 1,.int 2,.int 5,.int 60] x=some (.int (L:Int)):=by
 have:x=0\/x=1\/x=2\/x=3\/x=4:=by omega
 rcases this with rfl|rfl|rfl|rfl|rfl
 .exact⟨0,by decide,rfl⟩
 .exact⟨1,by decide,rfl⟩
 .exact⟨2,by decide,rfl⟩
 .exact⟨5,by decide,rfl⟩
 .exact⟨60,by decide,rfl⟩
def bm3(Z:An K t):OkD K af8 (Av K t) bl (t.f 27) (t.d 27) (Qz K t):=by
 refine A5 (b77 K t) λvs H Q E h=>?_
 .obtain⟨c,rfl,k⟩:=h;refine⟨rfl,?_⟩
  have ts:1<=textS.length/\textS.length<=1000:=by decide +kernel
  have big:1000<sizeLine:=by decide
  refine⟨by decide +kernel,(show 5<=sizeLine by decide),λq hq=>⟨c,301,rfl,by decide,by decide,?_⟩⟩
  refine gn hq λH1 S1 eS1=>?_
  obtain⟨L,hL,eL⟩:=b99 (Bw c 301%5) (by omega) (by omega)
  refine⟨_,_,.inl (SqL.of eS1),eL,?_⟩
  refine⟨rfl,⟨by omega,by omega⟩,?_⟩
  rw[aQ]
  refine K7 (f:=λj=>.str ⟨#[sgC textS (Bw c (302+j))]⟩) (rest:=[some (.int c),some (.str textS)]) (Bt 0 L) (λ_ _=>aM) (by rw[Ay];omega) (λj x H2 Q1 hj _ q=>?_) λD H2 S2 hD eD=>?_
  .obtain⟨hj,rfl⟩:=Cv hj
   exact⟨c,302+j,rfl,by omega,by omega,by omega,by omega,_,ar8 _ ts.1,q _ (Same.refl _)⟩
  .rw[Ay,Qv] at eD
   refine⟨_,D,_,rfl,rfl,.inl (SqL.of eD),?_,?_⟩
   .rw[Fv,ae,bx];omega
   rw[Ey]
   exact k H2 _ (S1.trans S2) (by have:=Rn (λj=>sgC textS (Bw c (302+j))) L;unfold wB at this;rw[this];exact hL)
theorem Uc{H:Hp}{x:TK}{v:V}(hx:TkAt H x v):∀{l} {vs},A9 H l vs->A9 H (l++[x]) (vs++[v])
 |[],vs,h=>by unfold A9 at h;subst h;show A9 H [x] [v];unfold A9;exact⟨v,[],rfl,hx,by unfold A9;rfl⟩
 |y::l,vs,h=>by unfold A9 at h;obtain⟨u,r,rfl,h1,h2⟩:=h;show A9 H (y::(l++[x])) _;unfold A9;exact⟨u,_,rfl,h1,Uc hx h2⟩
theorem Rl{H H':Hp}(hs:∀b ys,H b=some (.tup ys)->H' b=some (.tup ys)):∀{l} {vs},A9 H l vs->A9 H' l vs
 |[],vs,h=>by unfold A9 at h ⊢;exact h
 |y::l,vs,h=>by unfold A9 at h ⊢;obtain⟨u,r,e,h1,h2⟩:=h;exact⟨u,r,e,h1.up hs,Rl hs h2⟩
theorem Tz{H:Hp}:∀{vs},(∀v∈vs,∃z,v=.str z) -> ∃l,A9 H l vs/\∀k∈l,Ax k<=0
 |[],_=>⟨[],by unfold A9;rfl,λk hk=>by cases hk⟩
 | v::vs,h=>by
  obtain⟨l,h1,h2⟩:=Tz λu hu=>h u (ay _ hu)
  obtain⟨z,rfl⟩:=h v aP
  refine⟨.at_ (.inr z)::l,by unfold A9;exact⟨_,_,rfl,by unfold TkAt;rfl,h1⟩,λk hk=>?_⟩
  rcases List.mem_cons.mp hk with rfl|hk
  .exact Iq _ _
  .exact h2 k hk
def b13(Z:An K t):OkD K be1 (Av K t) bl (t.f 28) (t.d 28) (au6 K t):=by
 refine A5 (cf0 K t) λvs H Q E h=>?_
 .obtain⟨kd,c,rfl,k⟩:=h;refine⟨rfl,?_⟩
  have big:1000<sizeLine:=by decide
  refine Jb (λ_=>?_) (λ_=>?_)
  .exact⟨c,rfl,λH' z S hz=>k H' (.at_ (.inr z)) (.str z) S (by unfold TkAt;rfl) ⟨Iq _ _,λ_ z=>by cases z⟩⟩
  .refine⟨c,310,rfl,by decide,by decide,My,λR hR=>?_⟩
   refine gn hR λH0 S0 e0=>?_
   refine⟨c,311,rfl,by decide,by decide,⟨by omega,by omega⟩,?_⟩
   refine Az (Bt 0 (1+Bw c 311%3).toNat) (λi σ H'=>(∃v4,σ=[some (.str kd),some (.int c),some (.int (1+Bw c 310%3)),some (.ref R),v4])/\Same H H'/\∃ks vs,H' R=some (.lst vs)/\A9 H' ks vs/\(∀k∈ks,Ax k<=1)/\vs.length=i)
    ⟨⟨_,rfl⟩,S0,[],[],e0,(by unfold A9;rfl),(λk hk=>by cases hk),rfl⟩ (λ_ _ _ _ _=>aM) ?_ ?_
   .rintro i x σ H1 hx ⟨⟨v4,rfl⟩,S1,ks,vs,eR,tk,dp,lv⟩
    obtain⟨hi,rfl⟩:=Cv hx
    refine⟨.inl ⟨rfl,_,SqL.of eR⟩,⟨by omega,by omega⟩,?_⟩
    refine He (P:=λ_ v _=>∃z,v=.str z) (λ_ _ _ _ _ h=>h) (Bt 0 (1+Bw c 310%3).toNat) (λ_ _=>aM) (by rw[Ay];omega) (λj x H2 Q1 hj _ q=>?_) λD H2 us S2 hD eD lu hu=>?_
    .obtain⟨hj,rfl⟩:=Cv hj
     exact⟨.inl ⟨by decide,by decide⟩,.inl ⟨by decide,by decide⟩,_,rfl,λH3 z S3 hz=>⟨by omega,q _ H3 S3 ⟨_,rfl⟩⟩⟩
    .refine⟨_,.inl ⟨SqL.of eD,λT hT=>?_⟩⟩
     refine gn hT λH3 ST eT=>?_
     have S13:=S2.trans ST
     obtain⟨l,tl,dl⟩:=Tz λv hv=>by
      obtain⟨j,hj⟩:=List.mem_iff_getElem?.mp hv
      exact hu j v hj
     have e3:=S13 _ _ eR
     have nl:=NL.upd (m:=vs++[.ref T]) e3
     refine⟨R,_,_,rfl,rfl,e3,by omega,⟨_,rfl⟩,(S1.trans S13).set hR,ks++[.tup l],_,Ac,?_,λk hk=>?_,by rw[aB,lv];rfl⟩
     .refine Rl nl.tup (Uc ?_ (Rl (NL.same S13).tup tk))
      unfold TkAt
      exact⟨T,us,rfl,eT,tl⟩
     .rcases List.mem_append.mp hk with hk|hk
      .exact dp k hk
      .obtain rfl:k=.tup l:=by simpa using hk
       unfold Ax
       exact dy (Du dl)
   .rintro σ H1 ⟨⟨v4,rfl⟩,S1,ks,vs,eR,tk,dp,lv⟩
    refine .inl ⟨_,.inl ⟨SqL.of eR,λT hT=>?_⟩⟩
    have ST:=Same.upd (o:=.tup vs) hT
    refine k _ (.tup ks) (.ref T) (S1.trans ST) ?_ ?_
    .unfold TkAt
     exact⟨T,vs,rfl,Ac,Rl (NL.same ST).tup tk⟩
    .refine⟨?_,λ_ z=>by cases z⟩
     unfold Ax
     exact dy (Du dp)
end
def Pj{T:Tr}{n z:Str}(b:Bel T n z):∃y,T.lookup z=some y:=by cases b with|one h _=>exact⟨_,h⟩|more h _=>exact⟨_,h⟩
def Xr{T:Tr}{n:Str}(u:Up T)(ne:n ≠ ""):¬ Bel T n n:=λb=>by
 obtain⟨rk,u⟩:=u
 have lt:∀{z},Bel T n z->rk n<rk z:=λb=>by
  induction b with
  |one h e=>exact(u _ _ h).2.elim (λq=>absurd (e.symm.trans q) ne) λq=>e▸q.2
  |more h b ih=>
   obtain⟨y,hy⟩:=Pj b
   exact(u _ _ h).2.elim (λq=>absurd q (u _ _ hy).1) λq=>fj ih q.2
 exact gj _ (lt b)
structure WInv (T:Tr) (n:Str) (F W:List Str):Prop where
 nd:(F++W).Nodup
 bel:∀z∈F++W,Bel T n z
 mem:∀z,z∈F++W↔Ch T n z \/ ∃p∈F,Ch T p z
def WInv.first{T:Tr}{n:Str}{W:List Str}(nd:W.Nodup)(h:∀z,z∈W↔Ch T n z):WInv T n [] W:=⟨nd,λz hz=>by obtain⟨x,a,b⟩:=(h z).mp hz;exact .one a b,λz=>⟨λq=>.inl ((h z).mp q),λq=>q.elim (h z).mpr fun⟨p,hp,_⟩=>by cases hp⟩⟩
def WInv.step{T:Tr}{n:Str}(o:Up T)(ne:n ≠ ""){F W C:List Str}{z:Str}(I:WInv T n F (W++[z]))(nd:C.Nodup)(h:∀y,y∈C↔Ch T z y):WInv T n (F++[z]) (W++C):=by
 have pm:(F++[z]++(W++C)).Perm (F++(W++[z])++C):=by
  rw[cT,cT,cT]
  refine List.Perm.append_left F ?_
  rw[<- cT,<- cT]
  exact List.Perm.append_right C List.perm_append_comm
 have zm:z∈F++(W++[z]):=by simp
 have zF:z∉F:=λq=>(List.nodup_append.mp I.nd).2.2 z q z (by simp) rfl
 have me:∀y,y∈F++[z]++(W++C)↔y∈F++(W++[z])\/y∈C:=λy=>by rw[pm.mem_iff,ax]
 have un:∀{p q y},Ch T p y->Ch T q y->p=q:=fun⟨x,a,b⟩ ⟨x',a',b'⟩=>by rw[a] at a';cases a';rw[<- b,<- b']
 refine⟨pm.nodup_iff.mpr (List.nodup_append.mpr ⟨I.nd,nd,λa ha b hb e=>?_⟩),λy hy=>?_,λy=>?_⟩
 .subst e
  have hc:=(h a).mp hb
  rcases(I.mem a).mp ha with q|⟨p,hp,q⟩
  .exact Xr o ne (un q hc▸I.bel z zm)
  .exact zF (un q hc▸hp)
 .rcases (me y).mp hy with q|q
  .exact I.bel y q
  .obtain⟨x,a,b⟩:=(h y).mp q
   exact .more a (b▸I.bel z zm)
 .rw[me,I.mem,h]
  exact⟨λq=>q.elim (λq=>q.imp id fun⟨p,hp,c⟩=>⟨p,bn _ hp,c⟩) λc=>.inr ⟨z,by simp,c⟩,λq=>q.elim (λc=>.inl (.inl c)) fun⟨p,hp,c⟩=>by
   rcases List.mem_append.mp hp with hp|hp
   .exact .inl (.inr ⟨p,hp,c⟩)
   .exact .inr (List.mem_singleton.mp hp▸c)⟩
def WInv.last{T:Tr}{n:Str}{F:List Str}(I:WInv T n F []):F.Nodup/\∀z,z∈F↔Bel T n z:=by
 have e:=cu F
 have nd:=I.nd
 have mem:=I.mem
 have bel:=I.bel
 rw[e] at nd mem bel
 refine⟨nd,λz=>⟨bel z,λb=>?_⟩⟩
 induction b with
 |one h e=>exact(mem _).mpr (.inl ⟨_,h,e⟩)
 |more h b ih=>exact(mem _).mpr (.inr ⟨_,ih,_,h,rfl⟩)
def WInv.len{T:Tr}{n:Str}{F W:List Str}(I:WInv T n F W):F.length+W.length<=T.length:=by
 have:=Mc (x:=T.map (·.1)) I.nd λz hz=>by
  obtain⟨y,hy⟩:=Pj (I.bel z hz)
  exact List.mem_map.mpr ⟨_,Cu hy,rfl⟩
 rwa[aB,ae] at this
section
variable {P:aO}{w:bw}{K:ac}{mg:Str->Option Value}{base:Heap}{t:Adr}
def aw0{S:St->Prop}{C:St->Hp->Prop}{H:Hp}{G:Prop}(use:(∀ σ,S σ->C σ H)->G)(h:∀ σ,S σ->C σ H):G:=use h
def Uk{xs:List V}(x:Int){n:Int}(hn:n=xs.length)(h:0<xs.length):∃v∈xs,atI xs (x%n)=some v:=by
 obtain⟨j,hj,e⟩:=Hk x (h)
 subst hn
 rw[e]
 exact⟨xs[j],dv hj,Bq (aj hj)⟩
def Ht(es:List ((Str×Rc)×Addr)):(es.map kT).map (·.1)=(es.map (·.1.1)).map (cK:Str->Key):=by simp[aC,ju]
def bx7{es:List ((Str×Rc)×Addr)}(h:(es.map (·.1.1)).Nodup):((es.map kT).map (·.1)).Nodup:=by rw[Ht];exact Ji h
def Jc{es:List ((Str×Rc)×Addr)}(h:(es.map (·.1.1)).Nodup){i:Nat}{e:(Str×Rc)×Addr}(hi:es[i]?=some e):Be (es.map kT) (.inr e.1.1)=some (.ref e.2):=Bs (bx7 h) (by rw[al,hi];rfl)
def ak6{es:List ((Str×Rc)×Addr)}{n:Str}(h:¬ n∈es.map (·.1.1)):Be (es.map kT) (.inr n)=none:=by
 refine Ci λq=>h ?_
 rw[Ht] at q
 obtain⟨y,hy,e⟩:=List.mem_map.mp q
 cases e
 exact hy
def X6{es:List ((Str×Rc)×Addr)}{e:Str×Rc}{a:Addr}(h:¬ e.1∈es.map (·.1.1)):Ce (es.map kT) (.inr e.1) (.ref a)=(es++[(e,a)]).map kT:=by rw[Ft _ (ak6 h),aw];rfl
def Pu{H:Hp}{d:Addr}{kvs:List (Key×V)}{o:HO}(h:H d=some (.dK kvs) \/ ∃x,H d=some (.frz x (.dK kvs))):∀b ys,H b=some (.tup ys)->upd H d o b=some (.tup ys):=λb ys e=>by
 rw[Ad λz=>?_];exact e
 rcases h with h|⟨x,h⟩ <;> (rw[z,h] at e;cases e)
def kdsL:List Str:=["chapter","para","table","chapter"]
def Up.nil:Up []:=⟨λ_=>0,λn x h=>by cases h⟩
def Up.push{T:Tr}{n:Str}{x:Rc}(u:Up T)(fr:n∉T.map (·.1))(ne:n ≠ "")(h:x.p="" \/ x.p∈T.map (·.1))(nd:(T.map (·.1)).Nodup):Up (T++[(n,x)]):=by
 obtain⟨rk,u⟩:=u
 obtain⟨N,hN⟩:=bnd (T.map λe=>rk e.1)
 have has:∀{m y},T.lookup m=some y->m≠n/\rk m<N:=λ{m y} e=>⟨λz=>fr (z▸List.mem_map.mpr ⟨_,Cu e,rfl⟩),hN _ (List.mem_map.mpr ⟨_,Cu e,rfl⟩)⟩
 refine⟨λz=>if z=n then N else rk z,λm y e=>?_⟩
 rw[List.lookup_append] at e ⊢
 dsimp only
 cases q:T.lookup m with
 |some y0=>
  rw[q] at e
  cases e
  obtain⟨a,b⟩:=u m y q
  refine⟨a,b.imp id fun⟨c,d⟩=>?_⟩
  obtain⟨y1,c⟩:=Option.isSome_iff_exists.mp c
  rw[c,if_neg (has c).1,if_neg (has q).1]
  exact⟨rfl,d⟩
 |none=>
  rw[q,Option.none_or,iF] at e
  split at e
  .rename_i z
   cases e
   rw[b9 z,if_pos rfl]
   refine⟨ne,h.imp id λc=>?_⟩
   obtain⟨⟨w,y1⟩,c,z⟩:=List.mem_map.mp c
   have c:=Gw nd ((show w=x.p from z)▸c)
   rw[c,if_neg (has c).1]
   exact⟨rfl,(has c).2⟩
  .cases e
def bm4(Z:An K t):OkD K af9 (Av K t) bl (t.f 29) (t.d 29) (Wv K t):=by
 refine A5 (b78 K t) λvs H Q E h=>?_
 .obtain⟨c,v,l,ws,rfl,hl,nd,few,nz,k⟩:=h;refine⟨rfl,?_⟩
  have big:1000<sizeLine:=by decide
  intro d hd0
  refine .inl (.inl ⟨⟨_,(Same.upd hd0).seqL (SqL.of hl)⟩,?_⟩)
  refine gn hd0 λH0 Sd e0=>?_
  refine Ho (E5 (ws.map V.str)) (λi σ H'=>(∃v4 v5 v6 v7 v8 v9,σ=[some (.int c),some (.int v),some (.ref l),some (.ref d),v4,v5,v6,v7,v8,v9])/\Same H H'/\∃es,H' d=some (.dK (es.map kT))/\(∀e∈es,RcAt H' e.2 e.1.2/\okC e.1.2.c)/\(es.map (·.1.1)).Sublist (ws.take i)/\Up (es.map (·.1)))
   ⟨⟨_,_,_,_,_,_,rfl⟩,Sd,[],e0,(λe he=>by cases he),List.nil_sublist _,Up.nil⟩ (λ_ _ H' _ q=>q.2.1.seqL (SqL.of hl)) ?_ ?_
  .rintro i x y T σ H1 hx hT ⟨⟨v4,v5,v6,v7,v8,v9,rfl⟩,S1,es,ed,he,sub,up⟩
   obtain⟨rfl,hy⟩:=Lb hx
   obtain⟨n,hn,rfl⟩:=Am hy
   have il:=Aj hn
   refine gn hT λH2 ST eST=>?_
   refine⟨_,.inl (SqT.of eST),rfl,?_⟩
   have S2:=S1.trans ST
   have ed2:=ST _ _ ed
   have he2:∀e∈es,RcAt H2 e.2 e.1.2/\okC e.1.2.c:=λe h=>⟨(he e h).1.up (NL.same ST).tup,(he e h).2⟩
   clear he ed
   have sub1:(es.map (·.1.1)).Sublist (ws.take (i+1)):=sub.trans (dJ (by omega))
   refine⟨c,100+i,rfl,by omega,?_⟩
   refine' aw0 (S:=λσ=>∃N,σ=[some (.int c),some (.int v),some (.ref l),some (.ref d),some (.int i),some (.str n),some (.int N),v7,v8,v9]) (λrest=>?u) ?v
   case u=>
    exact Jb (λ_=>⟨.inl ⟨by decide,by decide⟩,c,130+40*(v:Int)+(i:Int),rfl,by omega,by decide,Jb (λ_=>⟨.inl ⟨by decide,by decide⟩,c,500+40*(v:Int)+(i:Int),rfl,by omega,rest _ ⟨_,rfl⟩⟩) (λ_=>rest _ ⟨_,rfl⟩)⟩) (λ_=>ak4 (rest _ ⟨_,rfl⟩))
   case v=>
    rintro σ ⟨N,rfl⟩
    refine⟨by decide,Jb (λ_=>?_) (λ_=>⟨⟨_,_,_,_,_,_,rfl⟩,S2,es,ed2,he2,sub1,up⟩)⟩
    refine⟨cf6,λq1 hq1=>⟨⟨by decide,by decide⟩,by decide,?_⟩⟩
    refine gn hq1 λH3 S3 eS3=>?_
    obtain⟨kv,hkv,ekv⟩:=Uk (xs:=kdsL.map V.str) (N/6) rfl (by decide)
    obtain⟨kd,_,rfl⟩:=List.mem_map.mp hkv
    refine⟨_,_,.inl (SqL.of eS3),ekv,?_⟩
    show Ae _ _ _ _ H3
    have ed3:=S3 _ _ ed2
    refine⟨cf3,λb1 hb1=>?_⟩
    refine gn hb1 λH4 S4 e4=>?_
    have ed4:=S4 _ _ ed3
    have he4:∀e∈es,RcAt H4 e.2 e.1.2/\okC e.1.2.c:=λe h=>⟨(he2 e h).1.up (NL.same (S3.trans S4)).tup,(he2 e h).2⟩
    have nde:=nd.sublist (sub.trans (eQ _ _))
    refine .inr (.inr (.inl (.inl ⟨_,ed4,λo L hL=>?_⟩)))
    have ef:upd H4 d (.frz o (.dK (es.map kT))) d=some (.frz o (.dK (es.map kT))):=Ac
    have tf:=Pu (o:=.frz o (.dK (es.map kT))) (.inl ed4)
    have e4f:upd H4 d (.frz o (.dK (es.map kT))) b1=some (.lst [.str ""]):=by rw[Ad λz=>by rw[z,ed4] at e4;cases e4];exact e4
    have th:∀H',Same (upd H4 d (.frz o (.dK (es.map kT)))) H'->Same H4 (upd H' d (.dK (es.map kT))):=λH' S=>Same.thaw ed4 S
    generalize upd H4 d (.frz o (.dK (es.map kT)))=Hf at ef tf e4f th hL ⊢
    refine De (Ee (es.map kT)) (λi σ' H'=>(∃v,σ'=[v,some (.ref d)])/\Same Hf H'/\∃ps,H' L=some (Bk ps)/\ps.length<=i/\∀z∈ps,z∈es.map (·.1.1)) ⟨⟨_,rfl⟩,Same.upd hL,[],Ac,ag _,λz h=>by cases h⟩ (λ_ _ H' _ q=>q.2.1 _ _ ef) ?_ ?_
    .rintro j x σ' H5 hx ⟨⟨vv,rfl⟩,S5,ps,eL,lp,hps⟩
     rw[aC] at hx
     obtain⟨e,hj,rfl⟩:=Am hx
     obtain⟨cv,er,_⟩:=(he4 e (ak hj)).1
     have jl:=Aj hj
     have sl:=sub.length_le
     rw[ae,aN] at sl
     refine⟨.ref e.2,.inl ⟨_,.inr e.1.1,.inr ⟨o,S5 _ _ ef⟩,rfl,(Jc nde hj).symm⟩,_,_,.inr (SqT.of (S5 _ _ (tf _ _ er))),rfl,Jb (λ_=>?_) (λ_=>?_)⟩
     .exact⟨_,eL,by rw[ae];omega,⟨_,rfl⟩,S5.set hL,ps++[e.1.1],by rw[Ac,Bk,aw];rfl,by rw[aB];exact dy lp,λz hz=>(List.mem_append.mp hz).elim (hps z) λh=>by rw[List.mem_singleton.mp h];exact List.mem_map.mpr ⟨e,ak hj,rfl⟩⟩
     .exact⟨⟨_,rfl⟩,S5,ps,eL,jx lp,hps⟩
    .rintro σ' H5 ⟨_,S5,ps,eL,lp,hps⟩
     rw[ae,ae] at lp
     have sl:=sub.length_le
     rw[ae,aN] at sl
     refine .inl ⟨b1,L,_,_,rfl,rfl,S5 _ _ e4f,eL,by rw[ae,bS];omega,λM hM=>?_⟩
     refine gn hM λH6 ShM eM=>?_
     have S6:=S5.trans ShM
     refine .inr ⟨d,o,_,ed3,S6 _ _ ef,?_⟩
     have S7:=S4.trans (th _ S6)
     have eM7:upd H6 d (.dK (es.map kT)) M=some (Bk (("")::ps)):=by rw[Ad λz=>by rw[z,S6 _ _ ef] at eM;cases eM];exact eM
     generalize upd H6 d (.dK (es.map kT))=H7 at S7 eM7 ⊢
     refine⟨⟨by decide,by decide,by decide⟩,⟨by decide,by decide⟩,by decide,cf6,λb2 hb2=>⟨⟨by decide,by decide⟩,by decide,?_⟩⟩
     obtain⟨v2,hv2,ev2⟩:=Uk (xs:=[0,1,10^Int.toNat 9,N/96%1000].map V.int) (N/24) rfl (by simp)
     obtain⟨rk,_,rfl⟩:=List.mem_map.mp hv2
     refine⟨_,_,.inl (SqL.of Ac),ev2,?_⟩
     refine gn hb2 λH8 S8 _=>?_
     obtain⟨v3,hv3,ev3⟩:=Uk (xs:=(("" : Str)::ps).map V.str) (N/384) rfl (by simp)
     obtain⟨pr,hpr,rfl⟩:=List.mem_map.mp hv3
     have eM8:=S8 _ _ eM7
     refine⟨⟨by decide,by decide⟩,.inl ⟨_,.inl (SqL.of eM8),by rw[ae,aI];omega,_,_,.inl (SqL.of eM8),ev3,?_⟩⟩
     refine⟨⟨by decide,by decide⟩,kd,N/96,rfl,λH9 x vv S9 tk dp=>⟨cf6,λT2 hT2=>?_⟩⟩
     have S10:=S9.trans (Same.upd (o:=.tup [.str kd,.str pr,.int rk,vv]) hT2)
     have eT:upd H9 T2 (.tup [.str kd,.str pr,.int rk,vv]) T2=some (.tup [.str kd,.str pr,.int rk,vv]):=Ac
     have tk2:=tk.up (NL.same (Same.upd (o:=.tup [.str kd,.str pr,.int rk,vv]) hT2)).tup
     generalize upd H9 T2 (.tup [.str kd,.str pr,.int rk,vv])=H10 at S10 eT tk2 ⊢
     have S310:=S7.trans (S8.trans S10)
     have ed10:=S310 _ _ ed3
     have nn:¬ n∈es.map (·.1.1):=λz=>Eu nd hn (sub.subset z)
     refine⟨_,DPut.k (k:=.inr n) ed10 (by rw[ae];omega),?_⟩
     rw[X6 (e:=(n,⟨kd,pr,rk,x⟩)) nn]
     have tu:=Pu (o:=.dK ((es++[((n,(⟨kd,pr,rk,x⟩:Rc)),T2)]).map kT)) (.inl ed10)
     refine⟨⟨_,_,_,_,_,_,rfl⟩,(S2.trans (S3.trans S310)).set hd0,_,Ac,λe h=>?_,?_,?_⟩
     .rcases List.mem_append.mp h with h|h
      .exact⟨((he2 e h).1.up (NL.same (S3.trans S310)).tup).up tu,(he2 e h).2⟩
      .obtain rfl:e=((n,(⟨kd,pr,rk,x⟩:Rc)),T2):=by simpa using h
       exact⟨RcAt.up (x:=⟨kd,pr,rk,x⟩) tu ⟨vv,eT,tk2⟩,dp⟩
     .rw[aw,aY,hn]
      exact sub.append (eO _)
     .rw[aw]
      have em:(es.map (·.1)).map (·.1)=es.map (·.1.1):=by rw[aC];rfl
      exact up.push (x:=⟨kd,pr,rk,x⟩) (by rw[em];exact nn) (nz n (ak hn)) ((List.mem_cons.mp hpr).imp id λq=>by rw[em];exact hps pr q) (by rw[em];exact nde)
  .rintro σ H1 ⟨⟨v4,v5,v6,v7,v8,v9,rfl⟩,S1,es,ed,he,sub,up⟩
   have sub2:=sub.trans (eQ _ ws)
   have e1:(es.map (·.1)).map (·.1)=es.map (·.1.1):=by rw[aC];rfl
   have sl:=sub2.length_le
   rw[ae] at sl
   refine .inl (k H1 d (es.map (·.1)) S1 ⟨es,rfl,⟨trivial,ed⟩,λe h=>(he e h).1⟩ ⟨by rw[e1];exact nd.sublist sub2,by rw[ae];omega,λx hx=>?_⟩ up)
   obtain⟨e,h,rfl⟩:=List.mem_map.mp hx
   exact(he e h).2
def TrAt.nl{H H':Hp}{d:Addr}{T:Tr}(h:TrAt any H d T)(S:NL H H'):TrAt any H' d T:=let⟨es,e,⟨_,o⟩,q⟩:=h;⟨es,e,⟨trivial,S _ _ (λ_ z=>by cases z) o⟩,λx hx=>(q x hx).up S.tup⟩
theorem Yp{α:Type}{P:α->Addr->Prop}:∀{vs:List V},(∀v∈vs,∃d T,v=.ref d/\P T d) -> ∃es:List (α×Addr),vs=es.map (λe=>.ref e.2)/\∀e∈es,P e.1 e.2
 |[],_=>⟨[],rfl,λe h=>by cases h⟩
 | v::vs,h=>by
  obtain⟨es,rfl,q⟩:=Yp λu hu=>h u (ay _ hu)
  obtain⟨d,T,rfl,p⟩:=h v aP
  refine⟨(T,d)::es,rfl,λe he=>?_⟩
  rcases List.mem_cons.mp he with rfl|he
  .exact p
  .exact q e he
def ao1(b:Bool)(x y:V):atI [x,y] (if b=true then 1 else 0)=some (if b=true then y else x):=by cases b <;> rfl
def b01(Z:An K t):OkD K ay0 (Av K t) bl (t.m_zcc 1) (t.e_zcc 1) (at5 K t):=by
 refine A5 (cd9 K t) λvs H Q E h=>?_
 .obtain⟨p,sw,ζ,rfl,⟨dx,d,l,n,s,kk,b,hp⟩,k⟩:=h;refine⟨rfl,?_⟩
  exact eW ⟨_,_,_,_,hp.ins.2,Z.pf.cl,(Z.pf.na _ (by simp)),rfl,k⟩
def bj8(Z:An K t):OkD K D_zak (Av K t) bl t.f_zak t.d_zak (as1 K t):=by
 refine A5 (b53 K t) λvs H Q E h=>?_
 .obtain⟨a,dx,rfl,e,k⟩:=h;refine⟨rfl,?_⟩
  intro d hd
  have ne:a≠d:=λz=>by rw[z,hd] at e;cases e
  exact .inl (.inl ⟨t.c_zcd,dx,[],by rw[Ad ne];exact e,Z.pc,Z.pr,by decide,k d hd ne.symm⟩)
def bk6(Z:An K t):OkD K Xg (Av K t) bl (t.m_zcd 5) (t.e_zcd 5) (Wi K t):=by
 refine A5 (b61 K t) λvs H Q E h=>?_
 .obtain⟨p,dx,d,kvs,n,kd,q,r,v,rfl,e,ed,hl,k⟩:=h;refine⟨rfl,?_⟩
  refine⟨cf6,λa ha=>?_⟩
  have n1:p≠a:=λz=>by rw[z,ha] at e;cases e
  have n2:d≠a:=λz=>by rw[z,ha] at ed;cases ed
  exact eW ⟨_,_,_,.ref d,(by rw[Ad n1];exact e),Z.pc,Z.pr,rfl,⟨_,DPut.k (k:=.inr n) (by rw[Ad n2];exact ed) (a_ hl (by decide)),k a ha⟩⟩
def bb3(Z:An K t):OkD K ay5 (Av K t) bl (t.m_zcd 6) (t.e_zcd 6) (au3 K t):=by
 refine A5 (ce7 K t) λvs H Q E h=>?_
 .obtain⟨p,T,rfl,⟨dx,d,⟨_,e⟩,es,et,⟨_,ed⟩,_⟩,o,k⟩:=h;refine⟨rfl,?_⟩
  have ek:(es.map kT).map (·.1)=(T.map (·.1)).map cK:=by rw[Ht,<- et,aC];simp[aC,ju]
  have l8:(T.map (·.1)).length<=8:=by rw[ae];exact o.2.1
  have nd:=o.1
  generalize T.map (·.1)=zs at ek k l8 nd
  exact eW ⟨_,_,_,.ref d,e,Z.pc,Z.pr,rfl,.inr ⟨rfl,.inl ⟨d,zs,rfl,.inr ⟨_,.inl ed,ek⟩,nd,by omega,k⟩⟩⟩
theorem TrAt.up(h:TrAt ok H d T)(S:Same H H'):TrAt ok H' d T:=let⟨es,e,⟨q,o⟩,z⟩:=h;⟨es,e,⟨q,S _ _ o⟩,λx hx=>(z x hx).up (NL.same S).tup⟩
theorem PlAt.up(h:PlAt C ok H p T)(S:Same H H'):PlAt C ok H' p T:=let⟨dx,d,⟨q,o⟩,z⟩:=h;⟨dx,d,⟨q,S _ _ o⟩,z.up S⟩
@[elab_as_elim] theorem gp {P:Hp->Prop}{C:Addr} (ha:H a=none) (hdx:H dx=none) (ne:dx≠a) (hd0:upd (upd H dx (.own a)) a (.ins C dx []) d0=none) (k:∀H',Same H H'->H' a=some (.ins C dx [("records", .ref d0)])->H' d0=some (.dK [])->H d0=none->P H') :
  P (upd (upd (upd (upd H dx (.own a)) a (.ins C dx [])) d0 (.dK [])) a (.ins C dx [("records", .ref d0)])):=by
 have n1:d0≠a:=λc=>by rw[c,Ac] at hd0;cases hd0
 have n2:d0≠dx:=λc=>by rw[c,Ad ne,Ac] at hd0;cases hd0
 have hd1:H d0=none:=by rw[Ad n1,Ad n2] at hd0;exact hd0
 exact k _ ((((Same.upd hdx).set ha).set hd1).set ha) Ac (by rw[Ad n1,Ac]) hd1
def b05(Z:An K t):OkD K ay3 (Av K t) bl (t.m_zcd 2) (t.e_zcd 2) (at9 K t):=by
 refine A5 (ce3 K t) λvs H Q E h=>?_
 .obtain⟨p,T,rfl,hP,k⟩:=h;refine⟨rfl,?_⟩
  intro a dx ha hdx ne
  refine⟨a,dx,rfl,Ac,λd0 hd0 _=>⟨rfl,?_⟩⟩
  refine gp ha hdx ne hd0 λH1 S1 ea _ _=>?_
  obtain⟨dx1,d,⟨_,e1⟩,es,et,⟨_,ed⟩,he⟩:=hP.up S1
  refine eW ⟨_,_,_,.ref d,e1,Z.pc,Z.pr,rfl,⟨d,_,rfl,.inl ed,λq hq=>?_⟩⟩
  have S2:=Same.upd (o:=.dK (es.map kT)) hq
  have eq:upd H1 q (.dK (es.map kT)) q=some (.dK (es.map kT)):=Ac
  have he2:∀e∈es,RcAt (upd H1 q (.dK (es.map kT))) e.2 e.1.2:=λe h=>(he e h).up (NL.same S2).tup
  generalize upd H1 q (.dK (es.map kT))=H2 at S2 eq he2 ⊢
  have ea2:=S2 _ _ ea
  refine .inl ⟨_,_,_,ea2,Z.pc,Z.pr,(show 1<1000 by decide),k _ a ((S1.trans S2).set ha) ⟨dx,q,⟨ha,Ac⟩,es,et,⟨S1.free hq,by rw[Ad λz=>by rw[z,ea2] at eq;cases eq];exact eq⟩,λe h=>(he2 e h).up λb ys e=>?_⟩⟩
  rw[Ad λz=>by rw[z,ea2] at e;cases e];exact e
theorem av7:∀{zs:List Str}{vs:List V},vs.length=zs.length->(∀(i:Nat) v z,vs[i]?=some v->zs[i]?=some z->TkAt H (F z) v)->A9 H (zs.map F) vs
 |[],[],_,_=>by rw[iz];unfold A9;rfl
 |[],_::_,h,_=>by cases h
 |_::_,[],h,_=>by cases h
 |z::zs,v::vs,h,g=>by rw[aX];unfold A9;exact⟨v,vs,rfl,g 0 v z rfl rfl,av7 (by simpa using h) λi v z h1 h2=>g (i+1) v z h1 h2⟩
def bz8(Z:An K t):OkD K ax8 (Av K t) bl (t.m_zcd 11) (t.e_zcd 11) (at3 K t):=by
 refine A5 (cd6 K t) λvs H Q E h=>?_
 .obtain⟨p,T,rfl,hP,o,k⟩:=h;refine⟨rfl,?_⟩
  have big:1000<sizeLine:=by decide
  obtain⟨dx,d,⟨_,e⟩,es,et,⟨_,ed⟩,he⟩:=id hP
  have nde:(es.map (·.1.1)).Nodup:=by have:=o.1;rw[<- et,aC] at this;exact this
  refine⟨p,dx,_,⟨t.c_zcd,Zq K t⟩,rfl,.head _,e,rfl,cf7,⟨p,T,rfl,hP,o,λl hl=>?_⟩⟩
  have S1:=Same.upd (o:=Bk (Ck ltS (T.map (·.1)))) hl
  have e1:upd H l (Bk (Ck ltS (T.map (·.1)))) l=some (Bk (Ck ltS (T.map (·.1)))):=Ac
  have pm:=Au ltS (T.map (·.1))
  have hm:∀n∈Ck ltS (T.map (·.1)),n∈T.map (·.1):=λn hn=>pm.mem_iff.mp hn
  have lm:=pm.length_eq
  have hvk:vkT T=.tup ((Ck ltS (T.map (·.1))).map λn=>.tup [.at_ (.inr n),ab3 T n]):=rfl
  rw[hvk] at k
  rw[ae] at lm
  have l8:=o.2.1
  generalize Ck ltS (T.map (·.1))=zs at S1 e1 hm lm k ⊢
  refine .inl ⟨⟨_,SqL.of e1⟩,?_⟩
  generalize upd H l (Bk zs)=H1 at S1 e1 ⊢
  refine He (P:=λi v H'=>∀z,zs[i]?=some z->TkAt H' (.tup [.at_ (.inr z),ab3 T z]) v) (λi v _ _ S q z hz=>(q z hz).up S.tup) (As (zs.map V.str)) (λH2 S2=>S2.seqL (SqL.of e1)) (by rw[ae];omega) (λi x H2 Q1 hx S2 q=>?_) λD H2 vs S2 hD eD lv hv=>?_
  .obtain⟨z,hz,rfl⟩:=Am hx
   have S02:=S1.trans S2
   obtain⟨⟨z',x⟩,hx1,hx2⟩:=List.mem_map.mp (hm z (ak hz))
   obtain rfl:z'=z:=hx2
   rw[<- et] at hx1
   obtain⟨e',he',ee⟩:=List.mem_map.mp hx1
   obtain⟨j,hj⟩:=List.mem_iff_getElem?.mp he'
   have hv:=Jc nde hj
   have hr:=he e' he'
   rw[ee] at hv hr
   refine eW ⟨_,_,_,.ref d,S02 _ _ e,Z.pc,Z.pr,rfl,⟨.ref e'.2,.inl ⟨_,.inr z',.inl (S02 _ _ ed),rfl,hv.symm⟩,cf4,λB hB=>q _ _ (Same.upd hB) λz2 hz2=>?_⟩⟩
   rw[hz] at hz2
   cases hz2
   have rt:=Vw (Gw o.1 (by rw[<- et];exact hx1))
   rw[rt]
   refine⟨B,_,rfl,Ac,?_⟩
   unfold A9;refine⟨_,_,rfl,by unfold TkAt;rfl,?_⟩
   unfold A9;refine⟨_,_,rfl,hr.tk.up (NL.same (S02.trans (Same.upd hB))).tup,?_⟩
   unfold A9;rfl
  .rw[ae] at lv
   refine⟨_,.inl ⟨SqL.of eD,λB hB=>k _ B (S1.trans (S2.trans (Same.upd hB))) ?_⟩⟩
   exact⟨B,vs,rfl,Ac,av7 lv λi v z h1 h2=>(hv i v h1 z h2).up (NL.same (Same.upd hB)).tup⟩
def bf0(m n:Nat):decide (cC ((m:Int)/2^((n:Int)).toNat) 1=1)=m.testBit n:=by
 rw[aQ,Mz,<- Int.natCast_ediv,show 1=((1:Nat):Int) from rfl,C4,Nat.and_one_is_mod,hV]
 exact decide_eq_decide.mpr (by omega)
def bm8(Z:An K t):OkD K ag3 (Av K t) bl (t.f 0) (t.d 0) (Q3 K t):=by
 refine A5 (b82 K t) λvs H Q E h=>?_
 .obtain⟨c,n,rfl,k⟩:=h;refine⟨rfl,?_⟩
  rw[<- bf0] at k
  exact⟨by omega,k⟩
def K6(c:Nat):Nat:=iU (c:Int)
def az3(c:Nat):c<2^K6 c:=by
 have h:=(lB (m:=K6 c)).mp (ag _)
 simpa using h
def az2(h:c<2^m):K6 c<=m:=(lB).mpr (h)
def b07(Z:An K t):OkD K bd9 (Av K t) bl (t.f 2) (t.d 2) (au1 K t):=by
 refine A5 (ce5 K t) λvs H Q E h=>?_
 .obtain⟨c,o,rfl,ho,hc,k⟩:=h;refine⟨rfl,?_⟩
  have hbl:=az2 hc
  refine⟨rfl,_,rfl,rfl,⟨by show -(2^62)<=((K6 c):Int);omega,by show((K6 c):Int)<2^62;omega⟩,?_⟩
  refine Az (Bt 0 (K6 c)) (λm σ H'=>(∃v,σ=[some (.int c),v])/\H'=H/\∀n,o=some n->m<=n) ⟨⟨_,rfl⟩,rfl,λ_ _=>bu _⟩ (λ_ _ _ _ _=>aM) ?_ ?_
  .rintro m x σ H1 hx ⟨⟨v,rfl⟩,rfl,no⟩
   obtain⟨hm,rfl⟩:=Cv hx
   refine⟨c,m,rfl,?_⟩
   cases o with
   |none=>
    have ho:=ho
    have hz:c.testBit m=false:=by rw[ho];exact dz m
    rw[hz];exact⟨⟨_,rfl⟩,rfl,λ_ z=>by cases z⟩
   |some n=>
    obtain⟨hb,hn⟩:=ho
    rcases Nat.eq_or_lt_of_le (no n rfl) with rfl|h
    .rw[hb];exact k
    .rw[hn m h];exact⟨⟨_,rfl⟩,rfl,λ_ z=>by cases z;exact h⟩
  .rintro σ H1 ⟨⟨v,rfl⟩,rfl,no⟩
   rw[Ay] at no
   cases o with
   |none=>exact .inl k
   |some n=>
    obtain⟨hb,hn⟩:=ho
    rw[Nat.testBit_lt_two_pow (aL (az3 c) (iM (by decide) (no n rfl)))] at hb
    cases hb
def bl2(Z:An K t):OkD K ae8 (Av K t) bl (t.f 36) (t.d 36) (Wo K t):=by
 refine A5 (b66 K t) λvs H Q E h=>?_
 .obtain⟨d0,T,rfl,hT,oT,k⟩:=h;refine⟨rfl,?_⟩
  intro p dx hp0 hdx nep
  refine⟨p,dx,rfl,Ac,λd hd0 npd=>⟨rfl,?_⟩⟩
  refine gp hp0 hdx nep hd0 λH1 S1 e1p e1d hd=>?_
  obtain⟨es,et,⟨_,ed⟩,he⟩:=hT.up S1
  have nde:(es.map (·.1.1)).Nodup:=by have:=oT.1;rw[<- et,aC] at this;exact this
  have l8:=oT.2.1
  have le:es.length=T.length:=by rw[<- et,ae]
  have ndd:d≠d0:=λz=>by
   obtain⟨es2,_,⟨_,e2⟩,_⟩:=hT
   rw[<- z,hd] at e2;cases e2
  have npd0:p≠d0:=λz=>by rw[z,ed] at e1p;cases e1p
  refine .inr (.inr (.inl (.inl ⟨_,ed,λo=>?_⟩)))
  refine gf (a:=d0) λHf ef of=>?_
  have tf:∀b ys,H1 b=some (.tup ys)->Hf b=some (.tup ys):=λb ys e=>of _ _ (λz=>by rw[z,ed] at e;cases e) e
  have efd:=of _ _ ndd e1d
  have efp:=of _ _ npd0 e1p
  refine Az (Ee (es.map kT)) (λi σ H'=>(∃v2 v3 v4 v5 v6,σ=[some (.ref d0),some (.ref p),v2,v3,v4,v5,v6])/\(∀a u,a≠d->Hf a=some u->H' a=some u)/\∃fs,fs.map (·.1)=T.take i/\H' d=some (.dK (fs.map kT))/\∀e∈fs,RcAt H' e.2 e.1.2)
   ⟨⟨_,_,_,_,_,rfl⟩,(λ_ _ _ e=>e),[],rfl,efd,λe h=>by cases h⟩ (λ_ _ H' _ q=>q.2.1 _ _ ndd.symm ef) ?_ ?_
  .rintro i x σ H2 hx ⟨⟨v2,v3,v4,v5,v6,rfl⟩,B2,fs,ft,e2d,hf⟩
   rw[aC] at hx
   obtain⟨e,hi,rfl⟩:=Am hx
   have tt:∀b ys,H1 b=some (.tup ys)->H2 b=some (.tup ys):=λb ys q=>B2 _ _ (λz=>by rw[z,e1d] at q;cases q) (tf _ _ q)
   obtain⟨v,er,tk⟩:=(he e (ak hi)).up tt
   have hiT:T[i]?=some e.1:=by rw[<- et,al,hi];rfl
   have nn:¬ e.1.1∈fs.map (·.1.1):=λz=>by
    have:e.1.1∈(T.take i).map (·.1):=by rw[<- ft,aC];exact z
    rw[gZ] at this
    exact Eu oT.1 (show(T.map (·.1))[i]?=some e.1.1 by rw[al,hiT];rfl) this
   have lf:fs.length<=8:=by
    have:=congrArg cy ft
    rw[ae,aN] at this
    omega
   refine⟨.ref e.2,.inl ⟨_,.inr e.1.1,.inr ⟨o,B2 _ _ ndd.symm ef⟩,rfl,(Jc nde hi).symm⟩,_,.inl (SqT.of er),rfl,?_⟩
   refine⟨p,dx,_,⟨t.c_zcd,ba7 K t⟩,rfl,.head _,B2 _ _ (bY npd) efp,rfl,cf7,⟨p,dx,d,_,e.1.1,e.1.2.k,e.1.2.p,e.1.2.r,v,rfl,B2 _ _ (bY npd) efp,e2d,by rw[ae];exact lf,λa ha=>?_⟩⟩
   have nda:=Ai e2d ha
   have Sa:=Same.upd (o:=.tup [.str e.1.2.k,.str e.1.2.p,.int e.1.2.r,v]) ha
   have ea:upd H2 a (.tup [.str e.1.2.k,.str e.1.2.p,.int e.1.2.r,v]) a=some (.tup [.str e.1.2.k,.str e.1.2.p,.int e.1.2.r,v]):=Ac
   generalize upd H2 a (.tup [.str e.1.2.k,.str e.1.2.p,.int e.1.2.r,v])=H3 at Sa ea ⊢
   have tu:=Pu (o:=.dK ((fs++[(e.1,a)]).map kT)) (.inl (Sa _ _ e2d))
   rw[X6 nn]
   refine⟨⟨_,_,_,_,_,rfl⟩,λb u nb q=>by rw[Ad nb];exact Sa _ _ (B2 b u nb q),_,?_,Ac,λf hf2=>?_⟩
   .rw[aw,ft,aY,hiT];rfl
   .rcases List.mem_append.mp hf2 with h|h
    .exact ((hf f h).up (NL.same Sa).tup).up tu
    .obtain rfl:f=(e.1,a):=by simpa using h
     exact RcAt.up tu ⟨v,ea,tk.up (NL.same Sa).tup⟩
  .rintro σ H2 ⟨⟨v2,v3,v4,v5,v6,rfl⟩,B2,fs,ft,e2d,hf⟩
   rw[ae,ae,le,aK] at ft
   have e2f:=B2 _ _ ndd.symm ef
   refine .inr ⟨d0,o,_,ed,e2f,k _ p (λb u q=>?_) ⟨dx,d,⟨hp0,by rw[Ad npd0];exact B2 _ _ (bY npd) efp⟩,fs,ft,⟨hd,by rw[Ad ndd];exact e2d⟩,λf h=>(hf f h).up (Pu (.inr ⟨o,e2f⟩))⟩⟩
   by_cases hb:b=d0
   .subst hb
    rw[Ac,<- ed,S1 _ _ q]
   .rw[Ad hb]
    exact B2 _ _ (λz=>by rw[z,hd] at q;cases q) (of _ _ hb (S1 _ _ q))
def Tj{α β:Type}{f:α->β}{xs ys:List β}(pm:xs.Perm ys):∀{rs:List α},rs.map f=ys -> ∃rs':List α,xs=rs'.map f/\rs'.Perm rs:=by
 induction pm with
 |nil=>exact λ{rs} h=>⟨[],rfl,by rw[List.map_eq_nil_iff.mp h]⟩
 |cons x _ ih=>
  intro rs h
  obtain⟨r,rs,rfl,rfl,h'⟩:=List.map_eq_cons_iff.mp h
  obtain⟨rs',e,p⟩:=ih h'
  exact⟨r::rs',by rw[e];rfl,p.cons r⟩
 |swap x y l=>
  intro rs h
  obtain⟨r,rs,rfl,rfl,h'⟩:=List.map_eq_cons_iff.mp h
  obtain⟨r2,rs,rfl,rfl,h2⟩:=List.map_eq_cons_iff.mp h'
  exact⟨r2::r::rs,by rw[<- h2];rfl,.swap ..⟩
 |trans _ _ ih1 ih2=>
  intro rs h
  obtain⟨r2,e2,p2⟩:=ih2 h
  obtain⟨r1,e1,p1⟩:=ih1 e2.symm
  exact⟨r1,e1,p1.trans p2⟩
def bl9(Z:An K t):OkD K D_zbf (Av K t) bl (t.f 3) (t.d 3) (Ws K t):=by
 intro P w mg base dV F T
 obtain⟨oc,od,kV,doc,pm,an,θ,ct,osl,ef,lk,hcd⟩:=F.ex
 have hl:(match (t.d 3).code with
  |.ref c=>dW K c 294
  |_=>false)=true:=by
  have:=Z.lam
  unfold Lq at this
  rw[lk] at this
  exact this
 obtain⟨c,hcode,hc⟩:∃c,(t.d 3).code=.ref c/\dW K c 294=true:=by
  cases e:(t.d 3).code with
  |ref c=>rw[e] at hl;exact⟨c,rfl,hl⟩
  |_=>rw[e] at hl;cases hl
 have T5:=T 5 (by decide)
 have T2:=T 2 (by decide)
 obtain⟨hb1,hb2⟩:=T5.1 "__builtins__" (.val (.ref 4) (t.u 0)) (List.mem_filterMap.mpr ⟨⟨0,"__builtins__", .val (.ref 4) (t.u 0)⟩,aE _ (bn _ aP),rfl⟩)
 have hbm:mg "__builtins__"=some (.ref 4):=by rw[hb1];exact congrArg some hb2
 refine bg6 (m:=40) (n:=40) (N:=D_zbf.N) (N':=["pair"]) (dl:=b73 K t) (da:=Aa 0) F (ScOk.fn (by decide +kernel)) (by decide +kernel) T5 T2 rfl (by decide +kernel) (T5.2 _ (by decide)) rfl hcode hc hbm (λ_=>rfl) (λ_=>rfl) (ScOk.fn (by decide +kernel)) (by decide +kernel) rfl (λ_ _ _ _ _=>rfl) (by kernel_rfl) (by kernel_rfl) (λvs H Q E h=>?_) (λvs H Q E h=>?_)
 .obtain⟨b,rs,rfl,_⟩:=h;rfl
 .obtain⟨b,rs,rfl,⟨hP,ob,u,hB,b1,b2,b3⟩,eb,l64,dj,one,k⟩:=h
  obtain⟨lk,hk⟩:∃lk:Nat->Nat,∀r∈rs,r.1.testBit (lk r.1)=true/\∀j,j<lk r.1->r.1.testBit j=false:=by
   have:∀m:Nat,∃n,m≠0->m.testBit n=true/\∀j,j<n->m.testBit j=false:=λm=>by
    by_cases h:m=0
    .exact⟨0,λz=>absurd h z⟩
    .obtain⟨i,hi⟩:=fN h
     have:∀n,(∃i,i<n/\m.testBit i=true) -> ∃n,m.testBit n=true/\∀j,j<n->m.testBit j=false:=λn=>by
      induction n with
      |zero=>rintro⟨i,h,_⟩;omega
      |succ n ih=>
       rintro⟨i,hi,e⟩
       by_cases c:∃i,i<n/\m.testBit i=true
       .exact ih c
       .refine⟨i,e,λj hj=>?_⟩
        rw[js]
        exact λz=>c ⟨j,by omega,z⟩
     obtain⟨n,q⟩:=this (i+1) ⟨i,by omega,hi⟩
     exact⟨n,λ_=>q⟩
   exact⟨λm=>(this m).choose,λr hr=>(this r.1).choose_spec (one r hr).2.1⟩
  have e2:(rs.map λr=>(((lk r.1):Int),V.ref r.2.2)).map (·.2)=rs.map λr=>V.ref r.2.2:=by rw[aC];rfl
  have ni:∀{a o},H a=some (.tup o)->a≠294:=λ{a o} h z=>by rw[z,hP] at h;cases h
  refine⟨.ref b,rfl,b,ob,u,rs.map λr=>(((lk r.1):Int),V.ref r.2.2),rfl,by rw[e2];exact SqL.of eb,by rw[ae];exact l64,?_,hP,hB,⟨b1,b2,b3⟩,λd hd H3 O3=>?_,λH' D ds' O nD pm pw e=>?_⟩
  .rw[aC]
   exact List.pairwise_map.mpr (dj.imp_of_mem λ{x y} hx hy h z=>h (lk x.1) ⟨(hk x hx).1,(show lk x.1=lk y.1 by have z:((lk x.1):Int)=lk y.1:=z;omega)▸(hk y hy).1⟩)
  .obtain⟨r,hr,rfl⟩:=List.mem_map.mp hd
   obtain⟨h1,h2,h4⟩:=one r hr
   exact⟨_,_,.inr (SqT.of (O3 _ _ (ni h1) h1)),rfl,r.1,some (lk r.1),rfl,hk r hr,h4,rfl,Same.refl _⟩
  .obtain⟨rs',rfl,pm'⟩:=Tj pm rfl
   refine k H' D rs' O nD pm' ?_ (by rw[e,aC];rfl)
   rw[aC] at pw
   exact(List.pairwise_map.mp pw).imp_of_mem λ{x y} hx hy h=>⟨lk x.1,(hk x (pm'.mem_iff.mp hx)).1,λj hj=>(hk y (pm'.mem_iff.mp hy)).2 j (by have h:((lk x.1):Int)<lk y.1:=h;omega)⟩
def Wx{es:List ((Str×Rc)×Addr)}{T:Tr}(et:es.map (·.1)=T)(o:okTr T)(n:Str):(Be (es.map kT) (.inr n)=none/\stT T n=none) \/ ∃e∈es,Be (es.map kT) (.inr n)=some (.ref e.2)/\stT T n=some (rcT e.1.2):=by
 have nde:(es.map (·.1.1)).Nodup:=by have:=o.1;rw[<- et,aC] at this;exact this
 have en:es.map (·.1.1)=T.map (·.1):=by rw[<- et,aC];rfl
 by_cases h:n∈T.map (·.1)
 .obtain⟨x,ex,hx⟩:=Gv o h
  rw[<- et] at hx
  obtain⟨e,he,ee⟩:=List.mem_map.mp hx
  obtain⟨j,hj⟩:=List.mem_iff_getElem?.mp he
  have hv:=Jc nde hj
  rw[ee] at hv
  exact .inr ⟨e,he,hv,by unfold stT;rw[ex,ee];rfl⟩
 .exact .inl ⟨ak6 (by rw[en];exact h),by unfold stT;rw[Kv h];rfl⟩
def bk5(Z:An K t):OkD K Xf (Av K t) bl (t.m_zcd 4) (t.e_zcd 4) (Wh K t):=by
 refine A5 (b60 K t) λvs H Q E h=>?_
 .obtain⟨p,T,n,rfl,⟨dx,d,⟨_,e⟩,es,et,⟨_,ed⟩,he⟩,o,k⟩:=h;refine⟨rfl,?_⟩
  refine eW ⟨_,_,_,.ref d,e,Z.pc,Z.pr,rfl,.inr ⟨_,.inl ⟨_,.inr n,.inl ed,rfl,rfl⟩,?_⟩⟩
  rcases Wx et o n with⟨a,b⟩|⟨x,_,a,b⟩
  .rw[a];rw[b] at k;exact k
  .rw[a];rw[b] at k;exact k
def b09(Z:An K t):OkD K ay6 (Av K t) bl (t.m_zcd 10) (t.e_zcd 10) (au4 K t):=by
 refine A5 (ce8 K t) λvs H Q E h=>?_
 .obtain⟨p,T,n,rfl,⟨dx,d,⟨_,e⟩,es,et,⟨_,ed⟩,he⟩,o,c,k⟩:=h;refine⟨rfl,?_⟩
  refine eW ⟨_,_,_,.ref d,e,Z.pc,Z.pr,rfl,.inr ⟨_,.inl ⟨_,.inr n,.inl ed,rfl,rfl⟩,?_⟩⟩
  rcases Wx et o n with⟨a,b⟩|⟨x,hx,a,b⟩
  .rw[b] at c;cases c
  .rw[a]
   rw[b] at k
   exact eW ⟨_,_,_,.ref d,e,Z.pc,Z.pr,rfl,_,.inl ⟨_,.inr n,.inl ed,rfl,a.symm⟩,k _ ⟨⟨_,rfl⟩,(he x hx).tk⟩⟩
def bc3(c:(stT T n).isSome=true)(h:bu9 H (stT T n) v):∃a x u,v=.ref a/\T.lookup n=some x/\H a=some (.tup [.str x.k,.str x.p,.int x.r,u])/\TkAt H x.c u:=by
 unfold stT at c h
 cases e:T.lookup n with
 |none=>rw[e] at c;cases c
 |some x=>
  rw[e] at h
  obtain⟨⟨a,rfl⟩,h⟩:=h
  obtain⟨b,xs,eb,hb,h⟩:=h
  cases eb
  obtain⟨v1,r1,rfl,h1,h⟩:=h
  obtain⟨v2,r2,rfl,h2,h⟩:=h
  obtain⟨v3,r3,rfl,h3,h⟩:=h
  obtain⟨v4,r4,rfl,h4,h⟩:=h
  subst h h1 h2 h3
  exact⟨a,x,v4,rfl,rfl,hb,h4⟩
def X9(e:T.lookup n=some x):(stT T n).isSome=true:=by unfold stT;rw[e];rfl
def bz7(Z:An K t):OkD K ax7 (Av K t) bl (t.m_zcd 8) (t.e_zcd 8) (at1 K t):=by
 refine A5 (cd4 K t) λvs H Q E h=>?_
 .obtain⟨p,T,n,x,rfl,hP,o,e,k⟩:=h;refine⟨rfl,?_⟩
  obtain⟨dx,d,⟨_,ep⟩,_⟩:=id hP
  refine⟨p,dx,_,⟨t.c_zcd,ak3 K t⟩,rfl,.head _,ep,rfl,cf7,⟨p,T,n,rfl,hP,o,X9 e,λv hv=>?_⟩⟩
  obtain⟨a,x',u,rfl,e',ea,_⟩:=bc3 (X9 e) hv
  rw[e] at e'
  cases e'
  exact⟨_,_,.inr (SqT.of ea),rfl,k⟩
def b03(Z:An K t):OkD K ay2 (Av K t) bl (t.m_zcd 9) (t.e_zcd 9) (at7 K t):=by
 refine A5 (ce1 K t) λvs H Q E h=>?_
 .obtain⟨p,T,n,x,rfl,hP,o,e,k⟩:=h;refine⟨rfl,?_⟩
  obtain⟨dx,d,⟨_,ep⟩,_⟩:=id hP
  refine⟨p,dx,_,⟨t.c_zcd,ak3 K t⟩,rfl,.head _,ep,rfl,cf7,⟨p,T,n,rfl,hP,o,X9 e,λv hv=>?_⟩⟩
  obtain⟨a,x',u,rfl,e',ea,_⟩:=bc3 (X9 e) hv
  rw[e] at e'
  cases e'
  exact⟨_,_,.inr (SqT.of ea),rfl,k⟩
def bb2(Z:An K t):OkD K Y2 (Av K t) bl (t.m_zcd 13) (t.e_zcd 13) (at2 K t):=by
 refine A5 (cd5 K t) λvs H Q E h=>?_
 .obtain⟨p,T,n,x,rfl,hP,o,e,k⟩:=h;refine⟨rfl,?_⟩
  obtain⟨dx,d,⟨_,ep⟩,_⟩:=id hP
  exact⟨p,dx,_,⟨t.c_zcd,bx4 K t⟩,rfl,.head _,ep,rfl,cf7,⟨p,T,n,x,rfl,hP,o,e,cf4,k⟩⟩
def bz3(Z:An K t):OkD K ax5 (Av K t) bl (t.m_zcd 7) (t.e_zcd 7) (as7 K t):=by
 refine A5 (cd0 K t) λvs H Q E h=>?_
 .obtain⟨p,T,n,rfl,hP,o,c,k⟩:=h;refine⟨rfl,?_⟩
  obtain⟨dx,d,⟨_,e⟩,es,et,⟨_,ed⟩,he⟩:=hP
  refine Jb (λ_=>?_) (λ_=>ak4 k)
  refine eW ⟨_,_,_,.ref d,e,Z.pc,Z.pr,rfl,.inr ⟨_,.inl ⟨_,.inr n,.inl ed,rfl,rfl⟩,?_⟩⟩
  rcases Wx et o n with⟨a,b⟩|⟨x,_,a,b⟩
  .rw[b] at c;cases c
  .rw[a];exact k
def Zj{α:Type}{l:List α}{m:Nat}{x:α}{p:α->Bool}(h:l[m]?=some x):(l.take (m+1)).filter p=(l.take m).filter p++(if p x=true then [x] else []):=by
 rw[aY,h,d7,gY]
 congr 1
 cases e:p x <;> simp[e]
def bf4{p:Addr}{o:Obj}{kvs:List (TK×V)}{g:DG}{tc:DT}{te:DE}{L:Addr}{R:Hp->Prop}{σ:St}{H:Hp}{E:EK}(Pv:Nat->St->Hp->Prop)(h0:Pv 0 σ H)(hok:∀i σ H,Pv i σ H->H p=some (.frz o (.dT kvs)))(hs:∀i k v b σ H,kvs[i]?=some (k,v)->Ax k<=8/\TkAt H k (.ref b)->Pv i σ H->g (.ref b) σ H λσ3 H3=>tc σ3 H3 (λb H4=>if b=true then te σ3 H4 (λv H5=>∃ys,H5 L=some (.lst ys)/\ys.length<sizeLine/\Pv (i+1) σ3 (upd H5 L (.lst (ys++[v])))) E else Pv (i+1) σ3 H4) E)(hd:∀ σ H,Pv kvs.length σ H->R H):Gk (ay8 p o kvs) g tc te L R σ H E:=by
 refine⟨λi m σ H=>m=kvs.length-i/\i<=kvs.length/\Pv i σ H,⟨kvs.length,by simp,bu _,h0⟩,?_⟩
 rintro i m σ H ⟨rfl,hi,q⟩
 by_cases hlt:i<kvs.length
 .refine .inr ⟨⟨hok i σ H q,hlt⟩,Pv (i+1),λσ' H' p'=>⟨kvs.length-(i+1),by omega,rfl,hlt,p'⟩,λx H' y=>?_⟩
  obtain⟨rfl,k,v,h1,h2,h3,b,rfl⟩:=y
  exact hs i k v b σ _ h1 ⟨h2,h3⟩ q
 .have e:i=kvs.length:=by omega
  subst e
  exact .inl ⟨⟨hok _ σ H q,ag _⟩,hd σ H q⟩
abbrev gK(g:Mk):TK×V:=(g.1,.int (g.2:Int))
def Km(gs:List Mk):(gs.map gK).map (·.1)=gs.map (·.1):=by rw[aC];rfl
def any_mem{κ:Type} [DecidableEq κ]{kvs:List (κ×V)}{k:κ}:(kvs.any λkv=>decide (kv.1=k))=true↔k∈kvs.map (·.1):=by
 rw[gG,ar]
 exact⟨fun⟨x,h,e⟩=>⟨x,h,of_decide_eq_true e⟩,fun⟨x,h,e⟩=>⟨x,h,decide_eq_true e⟩⟩
def Oz{κ:Type} [DecidableEq κ](kvs:List (κ×V))(k:κ)(v:V):(Ce kvs k v).map (·.1)=if k∈kvs.map (·.1) then kvs.map (·.1) else kvs.map (·.1)++[k]:=by
 unfold Ce
 by_cases h:k∈kvs.map (·.1)
 .rw[if_pos (any_mem.mpr h),if_pos h,aC]
  exact cU λkv _=>by show(if _ then _ else _:κ×V).1=_;split <;> rfl
 .rw[if_neg (λz=>h (any_mem.mp z)),if_neg h,aw];rfl
def ao9{κ:Type} [DecidableEq κ]{kvs:List (κ×V)}{k:κ}{v:V}{x:κ×V}(h:x∈Ce kvs k v):x∈kvs\/(x.1=k/\x.2=v):=by
 unfold Ce at h
 split at h
 .obtain⟨y,hy,rfl⟩:=List.mem_map.mp h
  split
  .exact .inr ⟨‹_›,rfl⟩
  .exact .inl hy
 .rcases List.mem_append.mp h with h|h
  .exact .inl h
  .obtain rfl:x=(k,v):=by simpa using h
   exact .inr ⟨rfl,rfl⟩
def a46{gs:List Mk}(k:TK)(m:Nat)(h:(gs.map (·.1)).Nodup):∃old:Nat,(Be (gs.map gK) k).getD (.int 0)=.int (old:Int)/\Ce (gs.map gK) k (.int ((old ||| m:Nat):Int))=(L9 gs (k,m)).map gK:=by
 have nd:((gs.map gK).map (·.1)).Nodup:=by rw[Km];exact h
 by_cases hk:k∈gs.map (·.1)
 .obtain⟨g,hg,rfl⟩:=List.mem_map.mp hk
  obtain⟨j,hj⟩:=List.mem_iff_getElem?.mp hg
  refine⟨g.2,by rw[Bs nd (by rw[al,hj];rfl)];rfl,?_⟩
  unfold Ce L9
  rw[if_pos (any_mem.mpr (by rw[Km];exact hk)),if_pos hk,aC,aC]
  refine cU λg' hg'=>?_
  show(if g'.1=g.1 then(g'.1,V.int ((g.2 ||| m):Int)) else gK g')=gK (if g'.1=g.1 then _ else g')
  split
  .rename_i e
   rw[Vk h g' hg' g hg e]
  .rfl
 .have hv:=Ci (by rw[Km];exact hk)
  refine⟨0,by rw[hv];rfl,?_⟩
  unfold L9
  rw[Ft _ hv,if_neg hk,aw,Nat.zero_or]
  rfl
def PO:HO->Prop
 |.ins _ _ fs=>fs.lookup ("kept" : Str)=none
 |.dK _=>True
 |.tup _=>True
 |_=>False
def PlAt.kp(h:PlAt C ok H p T)(n:∀a o,PO o->H a=some o->H' a=some o):PlAt C ok H' p T:=
 let⟨dx,d,⟨u,o⟩,es,e,⟨v,q⟩,z⟩:=h
 ⟨dx,d,⟨u,n _ _ rfl o⟩,es,e,⟨v,n _ _ trivial q⟩,λx hx=>(z x hx).up λb ys=>n b _ trivial⟩
def PlAt.to{C:Addr}{ok ok':Addr->Prop}{H:Hp}{p:Addr}{T:Tr}(h:PlAt C ok H p T)(n:∀a,ok a->ok' a):PlAt C ok' H p T:=
 let⟨dx,d,⟨u,o⟩,es,e,⟨v,q⟩,z⟩:=h
 ⟨dx,d,⟨n _ u,o⟩,es,e,⟨n _ v,q⟩,z⟩
def PlAt.keep{C:Addr}{ok:Addr->Prop}{H H':Hp}{p:Addr}{T:Tr}(h:PlAt C ok H p T)(n:∀a o,(∀l,o≠.dT l)->H a=some o->H' a=some o):PlAt C ok H' p T:=h.kp λa o q=>n a o λl z=>by subst z;exact q
def Vm{H:Hp}{a:Addr}{l:List (TK×V)}{o:HO}(h:H a=some (.dT l)):∀b u,(∀l,u≠.dT l)->H b=some u->upd H a o b=some u:=λb u n e=>by rw[Ad λz=>by rw[z,h] at e;cases e;exact n _ rfl];exact e
def prA(A:Nat)(rs:List ((Nat×Tr)×Addr×Addr)):List Mk:=(rs.filter λr=>!decide (r.1.1 &&& A=0)).map λr=>(vkT r.1.2,r.1.1 &&& A)
def prA_mem:p∈prA A rs ↔ ∃r∈rs,r.1.1 &&& A≠0/\(vkT r.1.2,r.1.1 &&& A)=p:=by
 unfold prA
 rw[ar]
 constructor
 .rintro⟨r,h,e⟩
  obtain⟨h1,h2⟩:=List.mem_filter.mp h
  exact⟨r,h1,by simpa using h2,e⟩
 .rintro⟨r,h,h2,e⟩
  exact⟨r,List.mem_filter.mpr ⟨h,by simpa using h2⟩,e⟩
def So{ps:List Mk}{ns:List Nat}{f:Nat->TK}(hr:∀p∈ps,∀j,p.2.testBit j=true->j∈ns/\f j=p.1)(hn:∀j∈ns,∃p∈ps,p.2.testBit j=true){g:Mk}(h:g∈Ef ps.reverse)(j:Nat):g.2.testBit j=true↔j∈ns/\f j=g.1:=by
 rw[U7 h]
 constructor
 .rintro⟨p,hp,e,b⟩
  rw[<- e]
  exact hr p (List.mem_reverse.mp hp) j b
 .rintro⟨hj,e⟩
  obtain⟨p,h,b⟩:=hn j hj
  exact⟨_,List.mem_reverse.mpr h,((hr p h j b).2.symm.trans e),b⟩
def grp_has{ps:List Mk}{k:TK}:k∈(Ef ps.reverse).map (·.1) ↔ ∃p∈ps,p.1=k:=by
 rw[gm_key,fM,dw,ar]
def bv6{ps:List Mk}{ns:List Nat}{f:Nat->TK}(hr:∀p∈ps,p.2≠0/\∀j,p.2.testBit j=true->j∈ns/\f j=p.1)(hn:∀j∈ns,∃p∈ps,p.2.testBit j=true){gs:List Mk}(pm:gs.Perm (Ef ps.reverse))(asc:gs.Pairwise λa b=>LtM a.2 b.2):Cn ns f gs:=by
 refine⟨asc,λg hg=>So (λr h=>(hr r h).2) hn (pm.mem_iff.mp hg),λg hg=>?_,λn h=>?_⟩
 .obtain⟨r,h,e⟩:=grp_has.mp (bE (pm.mem_iff.mp hg))
  obtain⟨j,b⟩:=fN (hr r h).1
  obtain⟨a,b⟩:=(hr r h).2 j b
  exact⟨j,a,b.trans e⟩
 .obtain⟨r,h,b⟩:=hn n h
  obtain⟨g,hg,e⟩:=List.mem_map.mp (grp_has.mpr ⟨r,h,rfl⟩)
  exact⟨g,pm.mem_iff.mpr hg,e.trans ((hr r h).2 n b).2.symm⟩
def NB(H H':Hp):Prop:=∀a o,(∀x,o≠.tbl x)->H a=some o->H' a=some o
def NB.of{P:Addr}{H H':Hp}{x:Array Value}(O:Dd P H H')(h:H P=some (.tbl x)):NB H H':=λa o n e=>O _ _ (λz=>by rw[z,h] at e;cases e;exact n _ rfl) e
def NB.tu{H H':Hp}(n:NB H H'){a:Addr}{xs:List V}(e:H a=some (.tup xs)):H' a=some (.tup xs):=n _ _ (λ_ z=>by cases z) e
def PlAt.nb{C:Addr}{ok:Addr->Prop}{H H':Hp}{p:Addr}{T:Tr}(h:PlAt C ok H p T)(n:NB H H'):PlAt C ok H' p T:=h.kp λa o q=>n a o λl z=>by subst z;exact q
def PlAt.nl(h:PlAt C ok H p T)(n:NL H H'):PlAt C ok H' p T:=h.kp λa o q=>n a o λl z=>by subst z;exact q
theorem RwAt.up{C:Addr}{ok:Addr->Prop}{H H':Hp}{l:Addr}{rs:List ((Nat×Tr)×Addr×Addr)}(h:RwAt C ok H l rs)(S:Same H H'):RwAt C ok H' l rs:=⟨⟨h.1.1,S _ _ h.1.2⟩,λr hr=>let q:=h.2 r hr;⟨S _ _ q.1,q.2.1.up S,q.2.2⟩⟩
theorem RwAt.to{C:Addr}{ok ok':Addr->Prop}{H:Hp}{l:Addr}{rs:List ((Nat×Tr)×Addr×Addr)}(h:RwAt C ok H l rs)(n:∀a,ok a->ok' a):RwAt C ok' H l rs:=⟨⟨n _ h.1.1,h.1.2⟩,λr hr=>let q:=h.2 r hr;⟨q.1,q.2.1.to n,q.2.2⟩⟩
theorem BqAt.up{b p:Addr}{ok:Addr->Prop}{H H':Hp}{gs:List Mk}(h:BqAt t ok H b p gs)(S:Same H H'):BqAt t ok H' b p gs:=let⟨dx,l,e,rs,hR,er⟩:=h;⟨dx,l,S _ _ e,rs,hR.up S,er⟩
theorem BqAt.to{b p:Addr}{ok ok':Addr->Prop}{H:Hp}{gs:List Mk}(h:BqAt t ok H b p gs)(n:∀a,ok a->ok' a):BqAt t ok' H b p gs:=let⟨dx,l,e,rs,hR,er⟩:=h;⟨dx,l,e,rs,hR.to n,er⟩
def Start.up{H H':Hp}(h:St0 H)(S:Same H H'):St0 H':=⟨S _ _ h.1,let⟨ob,u,a,z⟩:=h.2;⟨ob,u,S _ _ a,z⟩⟩
def RwAt.push{C:Addr}{ok:Addr->Prop}{H:Hp}{D B q:Addr}{rs:List ((Nat×Tr)×Addr×Addr)}{m:Nat}{T:Tr}(h:RwAt C ok H D rs)(eB:H B=some (.tup [.int (m:Int),.ref q]))(hq:PlAt C ok H q T)(o:okTr T)(l:rs.length<1000):∃xs,H D=some (.lst xs)/\xs.length<sizeLine/\RwAt C ok (upd H D (.lst (xs++[.ref B]))) D (rs++[((m,T),q,B)]):=by
 have big:1000<sizeLine:=by decide
 have nl:=NL.upd (m:=(rs.map λe=>V.ref e.2.2)++[.ref B]) h.1.2
 refine⟨_,h.1.2,by rw[ae];omega,⟨h.1.1,by rw[Ac,aw];rfl⟩,λe he=>?_⟩
 rcases List.mem_append.mp he with he|he
 .have z:=h.2 e he
  exact⟨nl.tup _ _ z.1,z.2.1.nl nl,z.2.2⟩
 .obtain rfl:=List.mem_singleton.mp he
  exact⟨nl.tup _ _ eB,hq.nl nl,o⟩
def bk9(Z:An K t):OkD K ae5 (Av K t) bl (t.f 4) (t.d 4) (Wl K t):=by
 refine A5 (b63 K t) λvs H Q E h=>?_
 .obtain⟨A,l,rs,ns,f,rfl,hst,hR,hr,hn,⟨Ks,k5,hK⟩,k⟩:=h;refine⟨rfl,?_⟩
  have big:1000<sizeLine:=by decide
  have few:∀i,(Ef (prA A (rs.take i)).reverse).length<=5:=λi=>by
   have:=Mc (Sn (prA A (rs.take i)).reverse) λz hz=>by
    rw[gm_key,fM,dw] at hz
    obtain⟨p,hp,rfl⟩:=List.mem_map.mp hz
    obtain⟨r,h,_,rfl⟩:=prA_mem.mp hp
    exact hK r (eI h)
   rw[ae] at this
   omega
  intro sx hsx
  refine .inr ?_
  refine gn hsx λH1 S1 e1=>?_
  intro px hpx
  refine .inr ?_
  have fpx:=S1.free hpx
  have nsp:=Ai e1 hpx
  refine gn hpx λH2 Shpx e2p=>?_
  have S2:=S1.trans Shpx
  have e2s:=Shpx _ _ e1
  refine .inl ⟨⟨_,SqL.of (S2 _ _ hR.1.2)⟩,?_⟩
  refine Az (As (rs.map λr=>V.ref r.2.2)) (λi σ H'=>(∃v4 v5 v6,σ=[some (.int A),some (.ref l),some (.ref sx),some (.ref px),v4,v5,v6])/\Same H H'/\H' sx=some (.dT ((Ef (prA A (rs.take i)).reverse).map gK))/\∃kp,H' px=some (.dT kp)/\kp.map (·.1)=(Ef (prA A (rs.take i)).reverse).map (·.1)/\∀x∈kp,∃p T,x.2=.ref p/\PlAt t.c_zcd any H' p T/\okTr T/\vkT T=x.1)
   ⟨⟨_,_,_,rfl⟩,S2,e2s,[],e2p,rfl,λx hx=>by cases hx⟩ (λ_ _ H' _ q=>q.2.1.seqL (SqL.of hR.1.2)) ?_ ?_
  .rintro i x σ H3 hx ⟨⟨v4,v5,v6,rfl⟩,S3,e3s,kp,e3p,ek,hk⟩
   obtain⟨⟨⟨m,T⟩,p,B⟩,hi,rfl⟩:=Am hx
   have hm:=ak hi
   obtain⟨eT,hP,okT⟩:=hR.2 _ hm
   have st:prA A (rs.take (i+1))=prA A (rs.take i)++(if m &&& A=0 then [] else [(vkT T,m &&& A)]):=by
    unfold prA
    rw[Zj hi,aw]
    by_cases c:m &&& A=0
    .rw[if_pos c,if_neg (by show ¬ (!decide (m &&& A=0))=true;rw[decide_eq_true c];decide)];rfl
    .rw[if_neg c,if_pos (by show(!decide (m &&& A=0))=true;rw[decide_eq_false c];rfl)];rfl
   refine⟨_,.inl (SqT.of (S3 _ _ eT)),rfl,?_⟩
   by_cases c:m &&& A=0
   .rw[if_pos c,cu] at st
    refine E8 (by
     rw[C4,c];rfl) ?_
    rw[<- st] at e3s ek
    exact⟨⟨_,_,_,rfl⟩,S3,e3s,kp,e3p,ek,hk⟩
   rw[if_neg c] at st
   have st:Ef (prA A (rs.take (i+1))).reverse=L9 (Ef (prA A (rs.take i)).reverse) (vkT T,m &&& A):=by rw[st,List.reverse_append];rfl
   have fi:=few i
   have ndi:=Sn (prA A (rs.take i)).reverse
   generalize hgs:Ef (prA A (rs.take i)).reverse=gs at e3s ek st fi ndi
   refine Lk (by
    show(!decide (cC m A=0))=true
    rw[C4,decide_eq_false (by omega)];rfl) ?_
   have hP3:=PlAt.up hP S3
   obtain⟨dx,d,⟨_,ep⟩,_⟩:=id hP3
   refine⟨p,dx,_,⟨t.c_zcd,bx1 K t⟩,rfl,.head _,ep,rfl,cf7,⟨p,T,rfl,hP3,okT,λH4 b S4 tk=>?_⟩⟩
   have dk:Ax (vkT T)<=8/\TkAt H4 (vkT T) (.ref b):=⟨bt9 okT,tk⟩
   obtain⟨old,ho,hp⟩:=a46 (vkT T) (m &&& A) ndi
   refine⟨.inr (.inr (.inl ⟨rfl,.inr ⟨_,S4 _ _ e3s⟩⟩)),_,DGet.t (S4 _ _ e3s) dk,?_⟩
   rw[ho]
   show ∃H',DPut H4 sx (.ref b) (.int (c7 old (cC m (A:Int)))) H'/\_
   rw[C4,F9]
   refine⟨_,DPut.t (S4 _ _ e3s) dk (by rw[ae];omega),?_⟩
   rw[hp,<- st]
   generalize hG:Ef (prA A (rs.take (i+1))).reverse=G at st ⊢
   have nt5:=Vm (o:=.dT (G.map gK)) (S4 _ _ e3s)
   have e5s:upd H4 sx (.dT (G.map gK)) sx=some (.dT (G.map gK)):=Ac
   have e5p:upd H4 sx (.dT (G.map gK)) px=some (.dT kp):=by rw[Ad nsp.symm];exact S4 _ _ e3p
   have S5:=(S3.trans S4).set (o:=.dT (G.map gK)) hsx
   show Ae _ _ _ _ (upd H4 sx (.dT (G.map gK)))
   generalize upd H4 sx (.dT (G.map gK))=H5 at nt5 e5s e5p S5 ⊢
   have lk:kp.length<=5:=by
    have:=congrArg cy ek
    rw[ae,ae] at this
    omega
   refine⟨_,DPut.t e5p ⟨dk.1,dk.2.up λb ys=>nt5 b _ λ_ z=>by cases z⟩ (by omega),?_⟩
   have nt6:=Vm (o:=.dT (Ce kp (vkT T) (.ref p))) e5p
   refine⟨⟨_,_,_,rfl⟩,S5.set fpx,by rw[Ad nsp];exact e5s,_,Ac,?_,λx hx=>?_⟩
   .rw[Oz,ek,st,Jm]
   .rcases ao9 hx with hx|hx
    .obtain⟨p',T',e',h',o',v'⟩:=hk x hx
     exact⟨p',T',e',((h'.up S4).keep nt5).keep nt6,o',v'⟩
    .exact⟨p,T,hx.2,((hP3.up S4).keep nt5).keep nt6,okT,hx.1.symm⟩
  .rintro σ H3 ⟨⟨v4,v5,v6,rfl⟩,S3,e3s,kp,e3p,ek,hk⟩
   have fn:=few rs.length
   rw[ae,aK] at e3s ek
   rw[aK] at fn
   have ndg:=Sn (prA A rs).reverse
   obtain⟨gs,hgs⟩:∃gs,gs=Ef (prA A rs).reverse:=⟨_,rfl⟩
   rw[<- hgs] at e3s ek fn ndg
   refine .inl (.inr (.inr (.inr ⟨_,e3s,λo D hD=>?_⟩)))
   have ef:upd H3 sx (.frz o (.dT (gs.map gK))) sx=some (.frz o (.dT (gs.map gK))):=Ac
   have ntf:=Vm (o:=.frz o (.dT (gs.map gK))) e3s
   have efp:upd H3 sx (.frz o (.dT (gs.map gK))) px=some (.dT kp):=by rw[Ad nsp.symm];exact e3p
   have Sf:Same H (upd H3 sx (.frz o (.dT (gs.map gK)))):=S3.set hsx
   generalize upd H3 sx (.frz o (.dT (gs.map gK)))=Hf at ef ntf efp Sf hD ⊢
   have nd1:((gs.map gK).map (·.1)).Nodup:=by rw[Km];exact ndg
   have nd2:(kp.map (·.1)).Nodup:=by rw[ek];exact ndg
   refine bf4 (λi σ H'=>(∃v,σ=[v,some (.ref px),some (.ref sx)])/\Same Hf H'/\∃es,RwAt t.c_zcd (fresh H) H' D es/\(es.map λr=>(vkT r.1.2,r.1.1))=gs.take i) ⟨⟨_,rfl⟩,Same.upd hD,[],⟨⟨Sf.free hD,Ac⟩,λe h=>by cases h⟩,rfl⟩ (λ_ _ _ q=>q.2.1 _ _ ef) ?_ ?_
   .rintro i kk vv b σ H4 hi dk ⟨⟨v,rfl⟩,S4,es,hE,ee⟩
    obtain⟨g,hg,eg⟩:=Am hi
    obtain⟨rfl,rfl⟩:kk=g.1/\vv=.int (g.2:Int):=by injection eg with a b;exact⟨a,b⟩
    have hj:(kp.map (·.1))[i]?=some g.1:=by rw[ek,al,hg];rfl
    obtain⟨⟨k2,v2⟩,hj2,e2⟩:=Am hj
    obtain rfl:g.1=k2:=e2
    obtain⟨p,T,ev,hP,oT,vT⟩:=hk _ (ak hj2)
    obtain rfl:v2=.ref p:=ev
    have hP4:=(hP.keep ntf).up S4
    obtain⟨dx,d,⟨_,ep⟩,_⟩:=id hP4
    have d1:DGet H4 sx (.ref b) (some (.int (g.2:Int))):=.inr ⟨_,g.1,b,.inr ⟨o,S4 _ _ ef⟩,rfl,dk,(Bs nd1 hi).symm⟩
    have d2:DGet H4 px (.ref b) (some (.ref p)):=.inr ⟨_,g.1,b,.inl (S4 _ _ efp),rfl,dk,(Bs nd2 hj2).symm⟩
    refine⟨_,d1,_,d2,p,dx,_,⟨t.c_zcd,bh0 K t⟩,rfl,.head _,ep,rfl,cf7,⟨p,T,rfl,hP4,λH5 q S5 hq5=>⟨cf4,λB hB=>?_⟩⟩⟩
    have SB:=Same.upd (o:=.tup [.int (g.2:Int),.ref q]) hB
    have le:=congrArg cy ee
    rw[ae,aN] at le
    obtain⟨xs,z1,z2,z3⟩:=(hE.up (S5.trans SB)).push (m:=g.2) Ac ((hq5.to λa h=>B6 (Sf.trans S4) h).up SB) oT (by omega)
    exact⟨xs,z1,z2,⟨_,rfl⟩,(S4.trans (S5.trans SB)).set hD,_,z3,by rw[aw,ee,aY,hg];show _++[(vkT T,g.2)]=_;rw[vT];rfl⟩
   .rintro σ H4 ⟨_,S4,es,hE,ee⟩
    rw[ae,aK] at ee
    have S04:=Sf.trans S4
    have le:=congrArg cy ee
    rw[ae] at le
    have em:(es.map λe=>(e.1.1,V.ref e.2.1,e.2.2)).map (λr=>V.ref r.2.2)=es.map λe=>V.ref e.2.2:=by rw[aC];rfl
    have hr2:∀p∈prA A rs,p.2≠0/\∀j,p.2.testBit j=true->j∈ns/\f j=p.1:=λp hp=>by
     obtain⟨r,h,n0,rfl⟩:=prA_mem.mp hp
     refine⟨n0,λj b=>?_⟩
     have b:(r.1.1 &&& A).testBit j=true:=b
     rw[eV,aV] at b
     exact hr r h j b.1 b.2
    have hn2:∀j∈ns,∃p∈prA A rs,p.2.testBit j=true:=λj h=>by
     obtain⟨_,bA,r,h,b⟩:=hn j h
     have b2:(r.1.1 &&& A).testBit j=true:=by rw[eV,b,bA];rfl
     exact⟨_,prA_mem.mpr ⟨r,h,λz=>(by rw[z,dz] at b2;cases b2),rfl⟩,b2⟩
    have K6:∀e∈es,∀j,e.1.1.testBit j=true↔j∈ns/\f j=vkT e.1.2:=λe h j=>So (λp h=>(hr2 p h).2) hn2 (g:=(vkT e.1.2,e.1.1)) (by rw[<- hgs,<- ee];exact bE h) j
    have nde:(es.map λe=>vkT e.1.2).Nodup:=by rw[<- ee,aC] at ndg;exact ndg
    have st4:=Start.up hst S04
    refine⟨D,es.map λe=>(e.1.1,.ref e.2.1,e.2.2),rfl,st4,by rw[em];exact hE.1.2,by rw[ae];omega,?_,λx hx=>?_,λH5 D5 rs' O5 nD5 pm pw e5=>?_⟩
    .refine List.pairwise_map.mpr ((List.pairwise_map.mp nde).imp_of_mem λ{a b} ha hb ne j ⟨h1,h2⟩=>ne ?_)
     exact((K6 a ha j).mp h1).2.symm.trans ((K6 b hb j).mp h2).2
    .obtain⟨e,h,rfl⟩:=List.mem_map.mp hx
     refine⟨(hE.2 e h).1,λz=>?_,aL (ji (n:=256) _ λj hj=>?_) (iM (by decide) (by decide))⟩
     .obtain⟨p,hp,er⟩:=grp_has.mp (show vkT e.1.2∈(Ef (prA A rs).reverse).map (·.1) by rw[<- hgs,<- ee,aC];exact bE h)
      obtain⟨j,b⟩:=fN (hr2 p hp).1
      have:=(K6 e h j).mpr ⟨((hr2 p hp).2 j b).1,((hr2 p hp).2 j b).2.trans er⟩
      have z:e.1.1=0:=z
      rw[z,dz] at this
      cases this
     .rw[js]
      exact λz=>by have:=(hn j ((K6 e h j).mp z).1).1;omega
    .obtain⟨es',rfl,pm'⟩:=Tj pm rfl
     have nb:=NB.of O5 st4.1
     refine k H5 D5 _ (λb u nb q=>O5 _ _ nb (S04 _ _ q)) ⟨es',⟨⟨B6 S04 nD5,by rw[e5,aC];rfl⟩,λr h=>?_⟩,rfl⟩ (bv6 hr2 hn2 ?_ ?_) (by rw[ae,pm'.length_eq];omega)
     .obtain⟨z1,z2,z3⟩:=hE.2 r (pm'.mem_iff.mp h)
      exact⟨nb.tu z1,z2.nb nb,z3⟩
     .rw[<- hgs,<- ee]
      exact pm'.map _
     .rw[cV] at pw ⊢
      exact pw
def bk3(Z:An K t):OkD K D_zap (Av K t) bl t.f_zap t.d_zap (as2 K t):=by
 refine A5 (b58 K t) λvs H Q E h=>?_
 .obtain⟨b,p,dx,sw,ζ,rfl,eb,hp,k⟩:=h;refine⟨rfl,?_⟩
  refine .inl ⟨_,_,_,eb,Z.bc,Z.bp,(show 0<1000 by decide),?_⟩
  have e1:upd H b (.ins t.c_zce dx [("panel", .ref p)]) b=some (.ins t.c_zce dx [("panel", .ref p)]):=Ac
  have O1:∀a o,a≠b->H a=some o->upd H b (.ins t.c_zce dx [("panel", .ref p)]) a=some o:=λa o n e=>by rw[Ad n];exact e
  have hp1:=hp.mono (Kp.off (o:=.ins t.c_zce dx [("panel", .ref p)]) λz=>z rfl)
  show Ae _ _ _ _ (upd H b (.ins t.c_zce dx [("panel", .ref p)]))
  generalize upd H b (.ins t.c_zce dx [("panel", .ref p)])=H1 at e1 O1 hp1 ⊢
  obtain⟨dxp,d,l,n,s,kk,br,h1⟩:=id hp1
  refine⟨p,dxp,_,⟨t.c_zcc,a06 K t⟩,rfl,.head _,h1.ins.2,rfl,cf7,⟨p,sw,ζ,rfl,hp1.mono Kp.any,?_⟩⟩
  intro a dxa ha hdx ne
  refine⟨a,dxa,rfl,Ac,λd0 hd0 _=>⟨rfl,?_⟩⟩
  refine gp ha hdx ne hd0 λH2 S2 ea2 ed2 _=>?_
  refine⟨cf4,λT hT=>⟨cf3,λL hL=>?_⟩⟩
  rw[Gd] at hL ⊢
  have S3:=Same.upd (o:=.tup [.int ((C1 sw ζ):Int),.ref a]) hT
  have e3:upd H2 T (.tup [.int ((C1 sw ζ):Int),.ref a]) T=some (.tup [.int ((C1 sw ζ):Int),.ref a]):=Ac
  generalize upd H2 T (.tup [.int ((C1 sw ζ):Int),.ref a])=H3 at S3 e3 hL ⊢
  refine gn hL λH4 S4 e4=>?_
  have S14:=S2.trans (S3.trans S4)
  have eb4:=S14 _ _ e1
  refine .inl ⟨_,_,_,eb4,Z.bc,Z.bk,(show 1<1000 by decide),?_⟩
  have off:∀{x o},x≠b->H4 x=some o->upd H4 b (.ins t.c_zce dx (Eo "kept" (.ref L) [("panel", .ref p)])) x=some o:=λnx e=>by rw[Ad nx];exact e
  have nb:∀{x o},(∀C d fs,o=.ins C d fs->fs.lookup ("panel" : Str)=none)->H4 x=some o->x≠b:=λn e z=>by
   rw[z,eb4] at e;cases e
   have:=n _ _ _ rfl
   cases this
  have ea4:=S4 _ _ (S3 _ _ ea2)
  have ed4:=S4 _ _ (S3 _ _ ed2)
  have eT4:=S4 _ _ e3
  refine k _ (λx o nx e=>off nx (S14 _ _ (O1 _ _ nx e))) ⟨dx,L,Ac,[((C1 sw ζ,[]),a,T)],⟨⟨trivial,off (nb (λ_ _ _ z=>by cases z) e4) e4⟩,λr hr=>?_⟩,rfl⟩
  obtain rfl:=List.mem_singleton.mp hr
  exact⟨off (nb (λ_ _ _ z=>by cases z) eT4) eT4,⟨dxa,d0,⟨trivial,off (nb (λ_ _ _ z=>by cases z;rfl) ea4) ea4⟩,[],rfl,⟨trivial,off (nb (λ_ _ _ z=>by cases z) ed4) ed4⟩,λe h=>by cases h⟩,.nil,bu _,λe h=>by cases h⟩
def bl8(Z:An K t):OkD K af4 (Av K t) bl (t.f 5) (t.d 5) (Wr K t):=by
 refine A5 (b72 K t) λvs H Q E h=>?_
 .obtain⟨p,l,sw,ζ,rs,ns,f,rfl,hst,hp,hR,hr,hn,hK,k⟩:=h;refine⟨rfl,?_⟩
  intro b dx hb hdx ne
  have S1:Same H (upd (upd H dx (.own b)) b (.ins t.c_zce dx [])):=(Same.upd hdx).set hb
  have e1:upd (upd H dx (.own b)) b (.ins t.c_zce dx []) b=some (.ins t.c_zce dx []):=Ac
  have K1:Kp (· ≠ 294) H (· ≠ b) (upd (upd H dx (.own b)) b (.ins t.c_zce dx [])):=λa o q=>⟨λz=>(by have q2:=q.2;rw[z,hb] at q2;cases q2),S1 _ _ q.2⟩
  generalize upd (upd H dx (.own b)) b (.ins t.c_zce dx [])=H1 at S1 e1 K1 ⊢
  refine⟨b,p,dx,sw,ζ,rfl,e1,hp.mono K1,λH2 O2 hb2=>⟨rfl,?_⟩⟩
  obtain⟨dx2,l0,e2,_⟩:=hb2
  have S2:Same H H2:=λa o q=>O2 _ _ (λz=>by rw[z,hb] at q;cases q) (S1 _ _ q)
  have hp2:=hp.mono (Kp.same S2)
  obtain⟨dxp,d,l1,n,s,kk,br,h1⟩:=id hp2
  refine⟨p,dxp,_,⟨t.c_zcc,a06 K t⟩,rfl,.head _,h1.ins.2,rfl,cf7,⟨p,sw,ζ,rfl,hp2.mono Kp.any,?_⟩⟩
  rw[Gd]
  refine⟨C1 sw ζ,l,rs,ns,f,rfl,Start.up hst S2,hR.up S2,hr,hn,hK,λH3 D gs O3 hK cn le=>?_⟩
  have hP:=hst.1
  have nb:b≠294:=λz=>by rw[<- z,hb] at hP;cases hP
  have e3:=O3 _ _ nb e2
  refine .inl ⟨_,_,_,e3,Z.bc,Z.bk,(show 2<1000 by decide),?_⟩
  obtain⟨es,⟨⟨nD,eD⟩,he⟩,ee⟩:=hK
  have ni:∀a o,PO o\/(∃l,o=.lst l)->H3 a=some o->upd H3 b (.ins t.c_zce dx2 (Eo "kept" (.ref D) [("panel", .ref p),("kept", .ref l0)])) a=some o:=λa o n e=>by
   rw[Ad λz=>?_];exact e
   rw[z,e3] at e;cases e
   rcases n with n|⟨l,n⟩
   .cases n
   .cases n
  have fin:∀a o,a≠294->H a=some o->upd H3 b (.ins t.c_zce dx2 (Eo "kept" (.ref D) [("panel", .ref p),("kept", .ref l0)])) a=some o:=λa o na q=>by rw[Ad λz=>by rw[z,hb] at q;cases q];exact O3 _ _ na (S2 _ _ q)
  exact k _ b gs fin ⟨dx2,D,Ac,es,⟨⟨B6 S2 nD,ni _ _ (.inr ⟨_,rfl⟩) eD⟩,λe h=>⟨ni _ _ (.inl trivial) (he e h).1,((he e h).2.1.to λa h=>B6 S2 h).kp λa o q=>ni a o (.inl q),(he e h).2.2⟩⟩,ee⟩ cn le
def a77{H:Hp}{l:Addr}{sw:Sw}{E:EK}{R:Hp->Addr->Prop}(h:SwIn any H l sw)(l5:sw.length<=5)(k:∀D H',Same H H'->SwIn any H' D sw->R H' D) :
  ∀D,H D=none->Gk (Itl K l) (gdT K 2 [gdN 0,gdN 1]) Cc (Eh (Ab (Aa 0) (Ab (dFn (λvs H Q _=>(Qr K true) vs H Q) (Ab (Aa 1) Ag)) Ag))) D (λH'=>R H' D) [none,none] (upd H D (.lst [])) E:=by
 intro D hD
 obtain⟨ds,ed,⟨_,ol⟩,hd⟩:=h
 have len:ds.length=sw.length:=by rw[<- ed];simp
 have big:1000<sizeLine:=by decide
 refine De (As (ds.map λx=>V.ref x.2)) (λi σ H'=>(∃v0 v1,σ=[v0,v1])/\Same H H'/\∃fs,fs.map (·.1.1)=sw.take i/\SwL H' D fs) ⟨⟨_,_,rfl⟩,Same.upd hD,[],rfl,Ac,λx hx=>(by cases hx),λx hx=>(by cases hx)⟩ (λ_ _ H' _ q=>q.2.1.seqL (SqL.of ol)) ?_ ?_
 .rintro i x σ H1 hx ⟨⟨v0,v1,rfl⟩,S1,fs,ef,L1⟩
  obtain⟨⟨⟨x',la⟩,ta⟩,hi,rfl⟩:=Am hx
  have hi2:sw[i]?=some x':=by rw[<- ed,al,hi];rfl
  have il:=Aj hi2
  obtain⟨⟨_,h1⟩,_,h2⟩:=hd _ (ak hi)
  have h2:=h2
  refine⟨_,.inl (SqT.of (S1 _ _ h1)),rfl,.inl ⟨_,.inl (SqL.of (S1 _ _ h2)),λM hM=>⟨cf4,λT hT=>?_⟩⟩⟩
  have S2:=Same.upd (o:=Bk x'.2) hM
  have e2:upd H1 M (Bk x'.2) M=some (Bk x'.2):=Ac
  have nM:=(Ai L1.at_ hM).symm
  have L2:=L1.up S2
  have hT:=hT
  generalize upd H1 M (Bk x'.2)=H2 at S2 e2 L2 hT ⊢
  refine gn hT λH3 S3 e3=>?_
  have L3:=L2.up S3
  have lf:fs.length<=5:=by
   have:=congrArg cy ef
   rw[ae,aN] at this
   omega
  refine⟨_,L3.at_,by rw[ae];omega,⟨_,_,rfl⟩,(S1.trans (S2.trans S3)).set hD,_,?_,L3.snoc e3 (S3 _ _ e2) nM⟩
  rw[aw,ef,aY,hi2];rfl
 .rintro σ H1 ⟨_,S1,fs,ef,L1⟩
  rw[ae,len,aK] at ef
  exact k D H1 S1 ⟨fs,ef,⟨trivial,L1.at_⟩,λx hx=>⟨⟨trivial,L1.tup x hx⟩,trivial,(L1.lst x hx).1⟩⟩
def an7{H:Hp}{D k p dx:Addr}{sw:Sw}{ζ:List Sw}{R:Hp->Prop}{E:XK}{x:Array Value}(h6:H 294=some (.tbl x))(hp:H p=none)(hdx:H dx=none)(hs:SwIn any H D sw)(hw:okSw sw)(hr:RulesAt any H k ζ)(okr:∀r∈ζ,E1 sw r)(few:ζ.length<=8)(ne:Ap sw ζ≠[])(q:∀H',Same H H'->PanelAt t.c_zcc (· ≠ 294) H' p sw ζ->R H') :
  (i_zag K t).sp (.ref p::([.ref D,.ref k]++List.drop 1 (i_zag K t).dfs)) (upd (upd H dx (.own p)) p (.ins t.c_zcc dx [])) (λv H2=>v=.non/\R H2) E:=by
 have S1:Same H (upd (upd H dx (.own p)) p (.ins t.c_zcc dx [])):=(Same.upd hdx).set hp
 have K1:Kp any H (· ≠ p) (upd (upd H dx (.own p)) p (.ins t.c_zcc dx [])):=λa o q=>⟨λz=>(by have q2:=q.2;rw[z,hp] at q2;cases q2),S1 _ _ q.2⟩
 refine⟨p,D,dx,.ref k,sw,ζ,rfl,Ac,hs.mono K1,hw,.inr ⟨k,rfl,hr.mono K1⟩,okr,few,a03 ne,λH2 O2 hP=>⟨rfl,q H2 (λb u e=>O2 _ _ (λz=>by rw[z,hp] at e;cases e) (S1 _ _ e)) (hP.mono (Kp.weak λa ha=>?_))⟩⟩
 rintro rfl
 rcases ha with z|z
 .rw[<- z,h6] at hp;cases hp
 .rw[S1 _ _ h6] at z;cases z
def Ko{H:Hp}{p:Addr}{n:Nat}{v:V}{Q:VK}(h:DGet H p (.int (n:Int)) (some v))(q:Q v H):A7 K (.ref p) (.int (n:Int)) H Q:=
 ⟨fO (n+1) v,v,.dk λu e=>by
  rw[Bq (by rw[cL,if_pos (cF n)])] at e
  cases e
  exact h,Bq (by rw[cL,if_pos (cF n)]),q⟩
def b00(Z:An K t):OkD K D_zn (Av K t) bl t.f_zn t.d_zn (bc2 K t):=by
 refine A5 (cd8 K t) λvs H Q E h=>?_
 .obtain⟨H0,a,x,y,rfl,ha,rfl,k⟩:=h;refine⟨rfl,?_⟩
  refine .inr ⟨_,Z.ec,Z.n1,.inl ⟨Ac,λdx hdx ne=>.inr ⟨_,Z.ec,Z.n2,.inr ⟨dx,[("part", x)],ne,Ac,by rw[Ad ne,Ac],(show 1<1000 by decide),?_⟩⟩⟩⟩
  have hd:H0 dx=none:=by rw[Ad ne] at hdx;exact hdx
  refine k _ dx (λb o h=>?_) ne (by rw[Ad (bY ne),Ac]) Ac
  have b1:b≠dx:=λz=>by rw[z,hd] at h;cases h
  have b2:b≠a:=λz=>by rw[z,ha] at h;cases h
  rw[Ad b1,Ad b2,Ad b1,Ad b2]
  exact h
def a63(Z:An K t)(B:NoN t n c H E):mkX t.c_zcb (some (i_zn K t)) 1 [.str n,c] H (Vv K λa H'=>E (.ref a) none H') EE:=by
 intro a ha
 exact⟨H,a,.str n,c,rfl,ha,rfl,λH' dx S ne e1 e2=>⟨rfl,t.c_zcb,some dx,e1,Z.ec,B _ a (S.set ha) ⟨dx,ne,Ac,by rw[Ad ne];exact e2⟩⟩⟩
def NoN.up(B:NoN t n c H E)(S:Same H H'):NoN t n c H' E:=λH2 a S2 f=>B H2 a (S.trans S2) f
def bz9(Z:An K t):OkX K ax9 (Av K t) bl (t.m_zce 3) (t.e_zce 3) (at4 K t):=by
 refine a27 (cd7 K t) λvs H Q E h=>?_
 .obtain⟨b,n,p,gs,rfl,⟨dx,l,eb,rs,hR,er⟩,no,k⟩:=h;refine⟨rfl,?_⟩
  refine eW ⟨_,_,_,_,eb,Z.bc,Z.bk,rfl,(.inl ⟨⟨_,SqL.of hR.1.2⟩,λD hD=>?_⟩)⟩
  refine De (As (rs.map λr=>V.ref r.2.2)) (λi σ H'=>(∃v0 v1,σ=[v0,v1,some (.str n)])/\Same H H'/\H' D=some (.lst [])) ⟨⟨_,_,rfl⟩,Same.upd hD,Ac⟩ (λ_ _ H' _ q=>q.2.1.seqL (SqL.of hR.1.2)) ?_ ?_
  .rintro i x σ H1 hx ⟨⟨v0,v1,rfl⟩,S1,eD⟩
   obtain⟨r,hi,rfl⟩:=Am hx
   have hm:=ak hi
   obtain⟨e1,hP,o1⟩:=hR.2 r hm
   have hP1:=hP.up S1
   obtain⟨dx1,d1,⟨_,ep1⟩,_⟩:=id hP1
   refine⟨_,.inl (SqT.of (S1 _ _ e1)),rfl,⟨r.2.1,dx1,_,⟨t.c_zcd,ak2 K t⟩,rfl,.head _,ep1,rfl,cf7,⟨r.2.1,r.1.2,n,rfl,hP1,o1,?_⟩⟩⟩
   cases c:(stT r.1.2 n).isSome with
   |false=>exact⟨⟨_,_,rfl⟩,S1,eD⟩
   |true=>exact absurd ((Ge o1 n).mpr c) (no (vkT r.1.2,r.1.1) (by rw[<- er];exact bE hm))
  .rintro σ H1 ⟨_,S1,eD⟩
   refine⟨My,λq hq=>?_⟩
   have Sq:=Same.upd (o:=.lst []) hq
   exact .inl ⟨D,q,[],[],rfl,rfl,SqL.of (Sq _ _ eD),SqL.of Ac,rfl,rfl,⟨(show 2<=1000 by decide),a63 Z (NoN.up k (S1.trans Sq))⟩⟩
def bj3(Z:An K t):OkX K W9 (Av K t) bl (t.m_zce 4) (t.e_zce 4) (V9 K t):=by
 refine a27 (b48 K t) λvs H Q E h=>?_
 .obtain⟨b,n,p,gs,rfl,hb,no,k⟩:=h;refine⟨rfl,?_⟩
  obtain⟨dx,l,eb,_⟩:=id hb
  exact⟨b,dx,_,⟨t.c_zce,bx2 K t⟩,rfl,.head _,eb,rfl,cf7,⟨b,n,p,gs,rfl,hb,no,λH1 a S1 f=>⟨a,rfl,k H1 a S1 f⟩⟩⟩
end
def Ga(T:Tr)(zs:List Str)(z p:Str):chz T (zs++[z]) p=chz T zs p++(if(pT T z)=p then [z] else []):=by
 unfold chz
 rw[gY]
 congr 1
 by_cases h:(pT T z)=p <;> simp[h]
structure UnI (T:Tr) (N:Addr->Prop) (H:Hp) (u:Addr) (zs:List Str) (kvs:List (Key×V)):Prop where
 at_:H u=some (.dK kvs)
 no:∀p,Be kvs (.inr p)=none->chz T zs p=[]
 yes:∀p v,Be kvs (.inr p)=some v -> ∃l,v=.ref l/\H l=some (.lst ((chz T zs p).map V.str))/\N l
 inj:∀p p' v,Be kvs (.inr p)=some v->Be kvs (.inr p')=some v->p=p'
 len:kvs.length<=zs.length
section
variable {T:Tr}{N:Addr->Prop}{H:Hp}{u q l:Addr}{zs:List Str}{kvs:List (Key×V)}{z:Str}
def UnI.old(h:UnI T N H u zs kvs)(hq:H q=none)(e:Be kvs (.inr (pT T z))=some (.ref l)) :
  H l=some (.lst ((chz T zs (pT T z)).map V.str))/\UnI T N (upd (upd H q (.lst [])) l (.lst ((chz T zs (pT T z)).map V.str++[.str z]))) u (zs++[z]) kvs:=by
 obtain⟨l',el,hl,h0⟩:=h.yes _ _ e
 cases el
 have lu:u≠l:=λc=>by rw[<- c,h.at_] at hl;cases hl
 have qu:u≠q:=λc=>by rw[<- c,h.at_] at hq;cases hq
 refine⟨hl,by rw[Ad lu,Ad qu];exact h.at_,λp hp=>?_,λp v hp=>?_,h.inj,by have:=h.len;rw[aB];omega⟩
 .rw[Ga,h.no p hp,if_neg (λc=>by rw[c,hp] at e;cases e)]
  rfl
 .obtain⟨l2,rfl,hl2,h2⟩:=h.yes p v hp
  refine⟨l2,rfl,?_,h2⟩
  by_cases c:(pT T z)=p
  .subst c
   rw[hp] at e
   cases e
   rw[Ac,Ga,if_pos rfl,aw]
   rfl
  .have n1:l2≠l:=λc2=>by
    rw[c2] at hp
    exact c (h.inj _ _ _ e hp)
   have n2:l2≠q:=λc2=>by rw[c2,hq] at hl2;cases hl2
   rw[Ad n1,Ad n2,Ga,if_neg c,cu]
   exact hl2
def UnI.new(h:UnI T N H u zs kvs)(hq:H q=none)(h0q:N q)(e:Be kvs (.inr (pT T z))=none) :
  UnI T N (upd (upd (upd H q (.lst [])) u (.dK (Ce kvs (.inr (pT T z)) (.ref q)))) q (.lst ([]++[.str z]))) u (zs++[z]) (Ce kvs (.inr (pT T z)) (.ref q)):=by
 have qu:u≠q:=λc=>by have:=h.at_;rw[c,hq] at this;cases this
 have vq:∀p v,Be kvs (.inr p)=some v->v≠.ref q:=λp v hp c=>by
  obtain⟨l2,rfl,hl2,_⟩:=h.yes p v hp
  cases c
  rw[hq] at hl2
  cases hl2
 refine⟨by rw[Ad qu,Ac],λp hp=>?_,λp v hp=>?_,λp p' v hp hp'=>?_,?_⟩
 .rw[M4] at hp
  split at hp
  .cases hp
  .rename_i c
   rw[Ga,h.no p hp,if_neg (λc2=>c (by rw[c2]))]
   rfl
 .rw[M4] at hp
  split at hp
  .rename_i c
   have c:=jU c
   subst c
   cases hp
   refine⟨q,rfl,?_,h0q⟩
   rw[Ac,Ga,h.no _ e,if_pos rfl]
   rfl
  .rename_i c
   obtain⟨l2,rfl,hl2,h2⟩:=h.yes p v hp
   have n2:l2≠q:=λc2=>by rw[c2,hq] at hl2;cases hl2
   have n3:l2≠u:=λc2=>by rw[c2,h.at_] at hl2;cases hl2
   refine⟨l2,rfl,?_,h2⟩
   rw[Ad n2,Ad n3,Ad n2,Ga,if_neg (λc2=>c (by rw[c2])),cu]
   exact hl2
 .rw[M4] at hp hp'
  split at hp
  .rename_i c
   split at hp'
   .rename_i c'
    exact(jU c).trans (jU c').symm
   .exact absurd (aG hp).symm (vq p' v hp')
  .split at hp'
   .exact absurd (aG hp').symm (vq p v hp)
   .exact h.inj p p' v hp hp'
 .have:=Co kvs (.inr (pT T z)) (.ref q)
  have:=h.len
  rw[aB,bS]
  omega
end
section
variable {P:aO}{w:bw}{K:ac}{mg:Str->Option Value}{base:Heap}{t:Adr}
def X8{T:Tr}{z:Str}(h:z∈T.map (·.1))(o:okTr T):∃x,T.lookup z=some x/\pT T z=x.p/\rkT T z=x.r:=by
 obtain⟨x,e,_⟩:=Gv o h
 exact⟨x,e,by unfold pT;rw[e];rfl,by unfold rkT;rw[e];rfl⟩
def ord_mem{T:Tr}{z:Str}:z∈Fs T↔z∈T.map (·.1):=(Au _ _).mem_iff
def bz2(Z:An K t):OkD K ax4 (Av K t) bl (t.m_zcd 0) (t.e_zcd 0) (as6 K t):=by
 refine A5 (cc9 K t) λvs H Q E h=>?_
 .obtain⟨p,T,rfl,hP,o,k⟩:=h;refine⟨rfl,?_⟩
  refine λu hu=>.inl ?_
  refine gn hu λH1 S1 e1=>?_
  have hP1:=hP.up S1
  obtain⟨dx,d,⟨_,e⟩,es,et,⟨_,ed⟩,_⟩:=id hP1
  have l8:(T.map (·.1)).length<=8:=by rw[ae];exact o.2.1
  have ek:(es.map kT).map (·.1)=(T.map (·.1)).map cK:=by rw[<- et,aC,aC,aC];rfl
  refine eW ⟨_,_,_,.ref d,e,Z.pc,Z.pr,rfl,⟨d,p,dx,_,⟨t.c_zcd,bx0 K t⟩,T.map (·.1),rkT T,rfl,.inr ⟨_,.inl ed,ek⟩,o.1,by omega,rfl,.head _,e,rfl,(λz hz H3 S3=>?_),λH3 D S3 hD eD=>.inl ⟨⟨_,SqL.of eD⟩,?_⟩⟩⟩
  .obtain⟨x,ex,_,er⟩:=X8 hz o
   exact⟨p,T,z,x,rfl,hP1.up S3,o,ex,λq hq=>⟨q,rfl,Same.upd hq,by rw[er];exact Ac⟩⟩
  have hD0:=S1.free hD
  have uD:D≠u:=λc=>by rw[c,e1] at hD;cases hD
  have lo:(Fs T).length=(T.map (·.1)).length:=(Au _ _).length_eq
  have eD:=eD
  show ag6 (Itl K D) _ _ _ [some (.ref p),some (.ref u),none] H3
  refine Az (As ((Fs T).map V.str)) (λi σ H'=>(∃v,σ=[some (.ref p),some (.ref u),v])/\Same H H'/\H' D=some (.lst ((Fs T).map V.str))/\∃kvs,UnI T (λl=>H l=none/\l≠D) H' u ((Fs T).take i) kvs)
   ⟨⟨_,rfl⟩,S1.trans S3,eD,[],S3 _ _ e1,(λ_ _=>rfl),(λp v hp=>by cases hp),(λp p' v hp=>by cases hp),bu _⟩ (λi σ' H' _ h=>SqL.of h.2.2.1) ?_ ?_
  .rintro i x σ H4 hx ⟨⟨v,rfl⟩,S4,eD4,kvs,U⟩
   obtain⟨z,hz,rfl⟩:=Am hx
   have hi:=Aj hz
   have hP4:=hP.up S4
   obtain⟨dx4,d4,⟨_,e4⟩,_⟩:=id hP4
   obtain⟨x,ex,ep,_⟩:=X8 (ord_mem.mp (ak hz)) o
   have tk:(Fs T).take (i+1)=(Fs T).take i++[z]:=by rw[aY,hz];rfl
   have kl:kvs.length<1000:=by have:=U.len;rw[aN] at this;omega
   refine⟨.inr (.inr (.inl ⟨rfl,.inl ⟨kvs,U.at_⟩⟩)),⟨p,dx4,_,⟨t.c_zcd,bw9 K t⟩,rfl,.head _,e4,rfl,cf7,⟨p,T,z,x,rfl,hP4,o,ex,?_⟩⟩⟩
   rw[<- ep]
   refine⟨My,λq hq=>?_⟩
   have S5:=Same.upd (o:=.lst []) hq
   refine .inr ⟨u,.inr (pT T z),.ref q,kvs,rfl,rfl,S5 _ _ U.at_,fj kl (by decide),?_⟩
   have hq3:H q=none/\q≠D:=⟨S4.free hq,λc=>by rw[c,eD4] at hq;cases hq⟩
   cases ev:Be kvs (.inr (pT T z)) with
   |some v=>
    obtain⟨l,rfl,hl,h0⟩:=U.yes _ _ ev
    obtain⟨hl,U2⟩:=U.old (z:=z) hq ev
    refine⟨.inl ⟨rfl,_,SqL.of (S5 _ _ hl)⟩,l,_,_,rfl,rfl,S5 _ _ hl,?_,⟨⟨_,rfl⟩,(S4.trans S5).set h0.1,?_,kvs,by rw[tk];exact U2⟩⟩
    .rw[ae]
     have:(chz T ((Fs T).take i) (pT T z)).length<=((Fs T).take i).length:=df _ _
     rw[aN] at this
     exact a_ (show _<=10 by omega) (by decide)
    .rw[Ad (bY h0.2)]
     exact S5 _ _ eD4
   |none=>
    have U2:=U.new (z:=z) hq hq3 ev
    have qu:q≠u:=λc=>by have:=U.at_;rw[<- c,hq] at this;cases this
    refine⟨.inl ⟨rfl,[],SqL.of ?_⟩,q,[],_,rfl,rfl,?_,by decide,⟨⟨_,rfl⟩,((S4.trans S5).set hu).set hq3.1,?_,_,by rw[tk];exact U2⟩⟩
    .rw[Ad qu,Ac]
    .rw[Ad qu,Ac]
    .rw[Ad (bY hq3.2),Ad uD,Ad (bY hq3.2)]
     exact eD4
  .rintro σ H4 ⟨⟨v,rfl⟩,S4,eD4,kvs,U⟩
   rw[ae,aK] at U
   refine .inl (k H4 u S4 ⟨kvs,U.at_,λp=>?_⟩)
   split
   .rename_i c;exact U.no p c
   .rename_i v' c
    obtain⟨l,e1,e2,_⟩:=U.yes p v' c
    exact⟨l,e1,e2⟩
def UnAt.up{H H':Hp}{u:Addr}{T:Tr}(h:UnAt H u T)(S:Same H H'):UnAt H' u T:=by
 obtain⟨kvs,e,g⟩:=h
 refine⟨kvs,S _ _ e,λp=>?_⟩
 have:=g p
 split at this
 .exact this
 .obtain⟨l,e1,e2⟩:=this
  exact⟨l,e1,S _ _ e2⟩
def UnAt.get{H:Hp}{u:Addr}{T:Tr}(h:UnAt H u T)(p:Str){q:Addr}(hq:H q=some (.lst [])):∃o l,DGet H u (.str p) o/\o.getD (.ref q)=.ref l/\H l=some (Bk (chz T (Fs T) p)):=by
 obtain⟨kvs,e,g⟩:=h
 have:=g p
 split at this
 .rename_i ev
  refine⟨none,q,.inl ⟨kvs,.inr p,.inl e,rfl,ev.symm⟩,rfl,?_⟩
  rw[this]
  exact hq
 .rename_i v ev
  obtain⟨l,rfl,hl⟩:=this
  exact⟨some (.ref l),l,.inl ⟨kvs,.inr p,.inl e,rfl,ev.symm⟩,rfl,hl⟩
def a98{T:Tr}(o:okTr T)(p:Str):(chz T (Fs T) p).reverse.Nodup/\(∀z,z∈(chz T (Fs T) p).reverse↔Ch T p z)/\(chz T (Fs T) p).length<=8:=by
 have pm:=Au (ltK (rkT T)) (T.map (·.1))
 refine⟨?_,λz=>?_,?_⟩
 .exact (List.reverse_perm _).nodup_iff.mpr ((pm.nodup_iff.mpr o.1).sublist gL)
 .unfold chz
  rw[dw,cw,decide_eq_true_iff,ord_mem]
  constructor
  .rintro⟨hz,e⟩
   obtain⟨x,ex,ep,_⟩:=X8 hz o
   exact⟨x,ex,ep▸e⟩
  .rintro⟨x,ex,e⟩
   have hz:z∈T.map (·.1):=List.mem_map.mpr ⟨_,Cu ex,rfl⟩
   obtain⟨x',ex',ep,_⟩:=X8 hz o
   rw[ex] at ex'
   cases ex'
   exact⟨hz,ep.trans e⟩
 .have:=df (λz=>decide (pT T z=p)) (Fs T)
  have l:=pm.length_eq
  have:=o.2.1
  unfold chz
  unfold Fs at *
  rw[ae] at l
  omega
theorem Sx{H:Hp}{c:Int}:∀{zs}{vs:List V},vs.length=zs.length->(∀(i:Nat) v,vs[i]?=some v -> ∀z,zs[i]?=some z -> ∃q,v=.ref q/\H q=some (.tup [.int c,.str z])) -> ∃es:List ((Int×Str)×Addr),es.map (·.1.2)=zs/\vs=es.map (λe=>.ref e.2)/\∀e∈es,H e.2=some (.tup [.int e.1.1,.str e.1.2])
 |[],[],_,_=>⟨[],rfl,rfl,λe h=>by cases h⟩
 |[],_::_,h,_=>by simp at h
 |_::_,[],h,_=>by simp at h
 | z::zs,v::vs,h,g=>by
  obtain⟨q,rfl,hq⟩:=g 0 v rfl z rfl
  obtain⟨es,e1,e2,e3⟩:=Sx (by simpa using h) λi v h1 z h2=>g (i+1) v h1 z h2
  exact⟨((c,z),q)::es,by rw[aX,e1],by rw[aX,<- e2],λe he=>(List.mem_cons.mp he).elim (λc=>by rw[c];exact hq) (e3 e)⟩
def ah8{a:Addr}{zs:List Str}{H:Hp}{c:Int}{te:DE}{rest:St}{R:Hp->Addr->Prop}{E:EK}(ha:H a=some (Bk zs))(hz:zs.length<=8)(he:∀z (H1:Hp) (Q1:VK),Same H H1->(∀q,H1 q=none->Q1 (.ref q) (upd H1 q (.tup [.int c,.str z])))->te (some (.str z)::rest) H1 Q1 E)(k:∀D H' (es:List ((Int×Str)×Addr)),Same H H'->H D=none->H' D=some (.lst (es.map λe=>.ref e.2))->es.map (·.1.2)=zs.reverse->(∀e∈es,H' e.2=some (.tup [.int e.1.1,.str e.1.2]))->R H' D) :
  ∀D,H D=none->Gk (Rq K a (zs.map V.str).length) (gdN 0) Cc te D (λH'=>R H' D) (none::rest) (upd H D (.lst [])) E:=by
 refine He (P:=λi v H'=>∀z,zs.reverse[i]?=some z -> ∃q,v=.ref q/\H' q=some (.tup [.int c,.str z])) (λi v _ _ S q z hz=>let⟨b,e,h⟩:=q z hz;⟨b,e,S.tup _ _ h⟩) (aw9 (zs.map V.str)) (λH1 S=>S.seqL (SqL.of ha)) (by rw[bj,ae];omega) (λi x H1 Q1 hx S q=>?_) λD H' vs S hD eD lv hv=>?_
 .rw[<- fM] at hx
  obtain⟨z,hz,rfl⟩:=Am hx
  exact he z H1 Q1 S λb hb=>q _ _ (Same.upd hb) λz' hz'=>by rw[hz] at hz';cases hz';exact⟨b,rfl,Ac⟩
 .obtain⟨es,e1,e2,e3⟩:=Sx (by rw[lv,bj,ae,bj]) hv
  exact k D H' es S hD (by rw[eD,e2]) e1 e3
abbrev Ln:=(Int×Str)×Addr
abbrev lnO(es:List Ln):HO:=.lst (es.map λe=>.ref e.2)
structure WkI (T:Tr) (n:Str) (H1:Hp) (f wt:Addr) (fs ws:List Ln) (H:Hp):Prop where
 sm:Same H1 H
 hf:H f=some (lnO fs)
 hw:H wt=some (lnO ws)
 tu:∀e∈fs++ws,H e.2=some (.tup [.int e.1.1,.str e.1.2])
 wi:WInv T n (fs.map (·.1.2)) (ws.map (·.1.2))
def bj9(Z:An K t):OkD K Xd (Av K t) bl (t.m_zcd 12) (t.e_zcd 12) (Wd K t):=by
 refine A5 (b54 K t) λvs H Q E h=>?_
 .obtain⟨p,T,n,rfl,hP,o,up,ne,k⟩:=h;refine⟨rfl,?_⟩
  obtain⟨dx,d,⟨_,e⟩,_⟩:=id hP
  have t8:=o.2.1
  refine⟨p,dx,_,⟨t.c_zcd,bw6 K t⟩,rfl,.head _,e,rfl,cf7,⟨p,T,rfl,hP,o,λH1 u S1 hU=>?_⟩⟩
  refine⟨My,λf hf=>?_⟩
  refine gn hf λH2 S2 ef=>?_
  obtain⟨kvs,eu,_⟩:=(hU.up S2)
  refine⟨.inr (.inr (.inl ⟨rfl,.inl ⟨kvs,eu⟩⟩)),⟨My,λq hq=>?_⟩⟩
  refine gn hq λH3 S3 eq=>?_
  obtain⟨o1,l,h1,h2,h3⟩:=((hU.up S2).up S3).get n eq
  refine⟨o1,h1,?_⟩
  rw[h2]
  obtain⟨c1,c2,c3⟩:=a98 o n
  refine⟨_,SqL.of h3,?_⟩
  refine ah8 (c:=1) (rest:=[]) h3 c3 (λz H4 Q1 S4 q=>⟨cf4,q⟩) λL H4 ws S4 hL eL el ht=>?_
  have fL:f≠L:=λc=>by rw[<- c,S3 _ _ ef] at hL;cases hL
  have hL1:H1 L=none:=(S2.trans S3).free hL
  have I0:WkI T n H1 f L [] ws H4:=⟨(S2.trans S3).trans S4,S4 _ _ (S3 _ _ ef),eL,ht,by rw[el];exact WInv.first c1 c2⟩
  refine⟨λm σ H'=>∃fs ws v,m=8-fs.length/\σ=[some (.ref p),some (.str n),some (.ref u),some (.ref f),some (.ref L),v]/\WkI T n H1 f L fs ws H',⟨_,_,_,_,rfl,rfl,I0⟩,?_⟩
  clear I0 S4 eL ht hL S3 eq h1 h2 h3 S2 ef el c1 c2 c3
  rintro m σ H5 ⟨fs,ws,v,rfl,rfl,I⟩
  have hl:=I.wi.len
  rw[ae,ae] at hl
  refine⟨My,λq hq=>?_⟩
  refine gn hq λH6 S6 eq=>?_
  have I:WkI T n H1 f L fs ws H6:=⟨I.sm.trans S6,S6 _ _ I.hf,S6 _ _ I.hw,λe h=>S6 _ _ (I.tu e h),I.wi⟩
  rcases List.eq_nil_or_concat ws with rfl|⟨ws',x,rfl⟩
  .refine .inl ⟨L,q,[],[],rfl,rfl,SqL.of I.hw,SqL.of eq,rfl,rfl,?_⟩
   have w:=I.wi
   rw[iz] at w
   exact k H6 f (fs.map (·.1.2)) (S1.trans I.sm) ⟨fs,rfl,I.hf,λe h=>I.tu e (bn _ h)⟩ w.last.1 w.last.2 (by rw[ae];omega)
  .rw[List.concat_eq_append] at I hl
   have w:=I.wi
   rw[aw] at w
   obtain⟨c1,c2,c3⟩:=a98 o x.1.2
   rw[aB,bS] at hl
   refine .inr (.inr (.inl (.inr (.inr ⟨_,_,SqL.of I.hw,SqL.of eq,by simp,?_⟩))))
   refine⟨λσ H'=>∃fs2 ws2 v2,fs2.length=fs.length+1/\σ=[some (.ref p),some (.str n),some (.ref u),some (.ref f),some (.ref L),v2]/\WkI T n H1 f L fs2 ws2 H',?_,?_⟩
   .rintro σ' H' ⟨fs2,ws2,v2,e1,e2,e3⟩
    exact⟨8-fs2.length,by omega,fs2,ws2,v2,rfl,e2,e3⟩
   .have hw:H6 L=some (.lst ((ws'.map λe=>V.ref e.2)++[.ref x.2])):=by have:=I.hw;rw[lnO,aw] at this;exact this
    refine .inl ⟨.inl ⟨rfl,_,SqL.of hw⟩,.inl ⟨L,_,_,rfl,rfl,hw,by rw[aB,bS,Nat.add_sub_cancel];exact List.getElem?_concat_length,?_⟩⟩
    rw[List.dropLast_concat]
    have k7:=NL.upd (m:=ws'.map λe=>V.ref e.2) hw
    have s7:Same H1 (upd H6 L (lnO ws')):=I.sm.set hL1
    have f7:upd H6 L (lnO ws') f=some (lnO fs):=by rw[Ad fL];exact I.hf
    have e7:upd H6 L (lnO ws') L=some (lnO ws'):=Ac
    generalize upd H6 L (lnO ws')=H7 at k7 s7 f7 e7 ⊢
    refine⟨.inl ⟨rfl,_,SqL.of f7⟩,f,_,_,rfl,rfl,f7,a_ (show(fs.map λe=>V.ref e.2).length<=10 by rw[ae];omega) (by decide),?_⟩
    have k8:=NL.upd (m:=(fs.map λe=>V.ref e.2)++[.ref x.2]) f7
    have s8:Same H1 (upd H7 f (.lst ((fs.map λe=>V.ref e.2)++[.ref x.2]))):=s7.set hf
    have f8:upd H7 f (.lst ((fs.map λe=>V.ref e.2)++[.ref x.2])) f=some (lnO (fs++[x])):=by rw[Ac,lnO,aw];rfl
    have e8:upd H7 f (.lst ((fs.map λe=>V.ref e.2)++[.ref x.2])) L=some (lnO ws'):=by rw[Ad (bY fL)];exact e7
    generalize upd H7 f (.lst ((fs.map λe=>V.ref e.2)++[.ref x.2]))=H8 at k8 s8 f8 e8 ⊢
    have t8':∀e∈fs++(ws'++[x]),H8 e.2=some (.tup [.int e.1.1,.str e.1.2]):=λe h=>k8.tup _ _ (k7.tup _ _ (I.tu e h))
    have tx:=t8' x (by simp)
    obtain⟨kvs,eu,_⟩:=id (hU.up s8)
    refine⟨.inl ⟨rfl,_,SqL.of e8⟩,⟨.inr (.inr (.inl ⟨rfl,.inl ⟨kvs,eu⟩⟩)),⟨_,_,.inr (SqT.of tx),rfl,⟨My,λq2 hq2=>?_⟩⟩⟩⟩
    refine gn hq2 λH9 S9 e9=>?_
    obtain⟨o2,l2,g1,g2,g3⟩:=((hU.up s8).up S9).get x.1.2 e9
    refine⟨o2,g1,?_⟩
    rw[g2]
    refine⟨_,SqL.of g3,?_⟩
    refine ah8 (c:=x.1.1+1) (rest:=[some (.ref x.2)]) g3 c3 (λz H10 Q1 S10 q=>⟨_,_,.inr (SqT.of ((S9.trans S10) _ _ tx)),rfl,cf4,q⟩) λL2 H10 vs S10 hL2 eL2 el ht=>?_
    have S10:=S9.trans S10
    have e10:=S10 _ _ e8
    have l3:=congrArg cy el
    rw[ae,bj] at l3
    refine⟨L,L2,_,_,rfl,rfl,e10,eL2,aT (show(ws'.map λe=>V.ref e.2).length+(vs.map λe=>V.ref e.2).length<=20 by rw[ae,ae];omega) (by decide),?_⟩
    have k10:=NL.upd (m:=(ws'.map λe=>V.ref e.2)++vs.map λe=>V.ref e.2) e10
    refine⟨fs++[x],ws'++vs,_,by rw[aB,bS],rfl,(s8.trans S10).set hL1,by rw[Ad fL];exact S10 _ _ f8,by rw[Ac,lnO,aw],λe h=>?_,?_⟩
    .rcases List.mem_append.mp h with h|h
     .refine k10.tup _ _ (S10 _ _ (t8' e ?_))
      rcases List.mem_append.mp h with h|h
      .exact bn _ h
      .exact aE _ (aE _ h)
     .rcases List.mem_append.mp h with h|h
      .exact k10.tup _ _ (S10 _ _ (t8' e (aE _ (bn _ h))))
      .exact k10.tup _ _ (ht e h)
    .rw[aw,aw]
     exact w.step up ne (el▸c1) (el▸c2)
def b02(Z:An K t):OkD K ay1 (Av K t) bl (t.m_zcd 1) (t.e_zcd 1) (at6 K t):=by
 refine A5 (ce0 K t) λvs H Q E h=>?_
 .obtain⟨p,T,n,rfl,hP,o,up,c,k⟩:=h;refine⟨rfl,?_⟩
  have big:1000<sizeLine:=by decide
  obtain⟨dx,d,⟨_,e⟩,_⟩:=id hP
  have ne:n ≠ "" := λz=>by
   obtain⟨x,ex,hx⟩:=Gv o ((Dp o n).mp c)
   obtain⟨rk,u⟩:=up
   exact(u n x ex).1 z
  refine⟨p,dx,_,⟨t.c_zcd,bw7 K t⟩,rfl,.head _,e,rfl,cf7,⟨p,T,n,rfl,hP,o,c,?_⟩⟩
  refine⟨p,dx,_,⟨t.c_zcd,ba6 K t⟩,rfl,.head _,e,rfl,cf7,⟨p,T,n,rfl,hP,o,up,ne,λH1 l zs S1 ⟨es,ee,el,he⟩ nd hz lz=>?_⟩⟩
  have le:es.length=zs.length:=by rw[<- ee,ae]
  refine .inl ⟨⟨_,SqL.of el⟩,λD hD=>?_⟩
  refine De (As (es.map λe=>V.ref e.2)) (λi σ H'=>(∃v0 v1,σ=[v0,v1])/\Same H1 H'/\H' D=some (Bk ((es.take i).map (·.1.2)))) ⟨⟨_,_,rfl⟩,Same.upd hD,Ac⟩ (λ_ _ H' _ q=>q.2.1.seqL (SqL.of el)) ?_ ?_
  .rintro i x σ H2 hx ⟨⟨v0,v1,rfl⟩,S2,eD⟩
   obtain⟨e,hi,rfl⟩:=Am hx
   refine⟨_,.inl (SqT.of (S2 _ _ (he e (ak hi)))),rfl,_,eD,by rw[ae,ae,aN];omega,⟨_,_,rfl⟩,S2.set hD,?_⟩
   rw[Ac,Cg hi,Bk,aw];rfl
  .rintro σ H2 ⟨_,S2,eD⟩
   rw[ae,aK,ee] at eD
   exact k H2 D zs (S1.trans S2) eD nd hz lz
def a09(es:List ((Str×Rc)×Addr))(z:Str):((es.map kT).filter λkv=>decide (kv.1≠(.inr z:Key)))=(es.filter λe=>!decide (e.1.1=z)).map kT:=by
 rw[List.filter_map]
 congr 1
 refine jw λe _=>?_
 simp
def a91(o:okTr T)(u:Up T)(p:Str×Rc->Bool)(h:∀e∈T,p e=true↔e.1≠n /\ ¬ Bel T n e.1):Up (T.filter p):=by
 have nd:((T.filter p).map (·.1)).Nodup:=o.1.sublist (List.filter_sublist.map _)
 obtain⟨rk,u⟩:=u
 refine⟨rk,λm x hm=>?_⟩
 obtain⟨h1,h2⟩:=List.mem_filter.mp (Cu hm)
 have lm:=Gw o.1 h1
 obtain⟨a,b⟩:=u m x lm
 refine⟨a,b.imp id λb=>⟨?_,b.2⟩⟩
 obtain⟨y,hy⟩:=Option.isSome_iff_exists.mp b.1
 have:=(h (m,x) h1).mp h2
 rw[Gw nd (List.mem_filter.mpr ⟨Cu hy,(h (x.p,y) (Cu hy)).mpr ⟨λq=>this.2 (.one lm q),λq=>this.2 (.more lm q)⟩⟩)]
 rfl
def bj7(Z:An K t):OkD K Xc (Av K t) bl (t.m_zcd 3) (t.e_zcd 3) (Wc K t):=by
 refine A5 (b52 K t) λvs H Q E h=>?_
 .obtain⟨p,dx,d,T,n,rfl,ep,hT,o,up,c,k⟩:=h;refine⟨rfl,?_⟩
  have big:1000<sizeLine:=by decide
  have hP:PlAt t.c_zcd any H p T:=⟨dx,d,⟨trivial,ep⟩,hT⟩
  refine⟨p,dx,_,⟨t.c_zcd,ak3 K t⟩,rfl,.head _,ep,rfl,cf7,⟨p,T,n,rfl,hP,o,c,λv hv=>?_⟩⟩
  refine⟨cf3,λa ha=>?_⟩
  refine gn ha λH1 S1 e1=>?_
  refine⟨p,dx,_,⟨t.c_zcd,bx3 K t⟩,rfl,.head _,S1 _ _ ep,rfl,cf7,⟨p,T,n,rfl,hP.up S1,o,up,c,λH2 D zs S2 eD nd mem lz=>?_⟩⟩
  refine .inl ⟨a,D,_,_,rfl,rfl,S2 _ _ e1,eD,by rw[ae];show 1+zs.length<=_;omega,λM hM=>.inl ⟨⟨_,SqL.of Ac⟩,?_⟩⟩
  refine gn hM λH3 ShM e3=>?_
  have S3:=(S1.trans S2).trans ShM
  obtain⟨es,et,⟨_,ed⟩,he⟩:=hT
  have nde:(es.map (·.1.1)).Nodup:=by have:=o.1;rw[<- et,aC] at this;exact this
  have en:es.map (·.1.1)=T.map (·.1):=by rw[<- et,aC];rfl
  have l8:es.length<=8:=by have:=o.2.1;rw[<- et,ae] at this;exact this
  have ne:n ≠ "" := by
   obtain⟨x,ex,_⟩:=Gv o ((Dp o n).mp c)
   obtain⟨rk,u⟩:=up
   exact(u n x ex).1
  have nd':=List.nodup_cons.mpr ⟨λq=>Xr up ne ((mem n).mp q),nd⟩
  have hin:∀z∈n::zs,z∈es.map (·.1.1):=λz hz=>by
   rw[en]
   rcases List.mem_cons.mp hz with rfl|hz
   .exact (Dp o z).mp c
   .obtain⟨y,hy⟩:=Pj ((mem z).mp hz)
    exact List.mem_map.mpr ⟨_,Cu hy,rfl⟩
  have Md:M≠d:=λz=>by rw[z,S3 _ _ ed] at e3;cases e3
  have pd:p≠d:=λz=>by rw[z,ed] at ep;cases ep
  refine Az (As ((n::zs).map V.str)) (λi σ H'=>(∃v2,σ=[some (.ref p),some (.str n),v2])/\(∀a o,a≠d->H3 a=some o->H' a=some o)/\H' d=some (.dK ((es.filter λe=>!decide (e.1.1∈(n::zs).take i)).map kT))) ⟨⟨_,rfl⟩,(λ_ _ _ e=>e),by rw[show(es.filter λe=>!decide (e.1.1∈(n::zs).take 0))=es from List.filter_eq_self.mpr λ_ _=>rfl];exact S3 _ _ ed⟩ (λ_ _ H' _ q=>SqL.of (q.2.1 _ _ Md e3)) ?_ ?_
  .rintro i x σ H4 hx ⟨⟨v2,rfl⟩,O4,e4⟩
   obtain⟨z,hz,rfl⟩:=Am hx
   obtain⟨e,hm,ee⟩:=List.mem_map.mp (hin z (ak hz))
   have nz:=Eu nd' hz
   have hm':e∈es.filter λe=>!decide (e.1.1∈(n::zs).take i):=List.mem_filter.mpr ⟨hm,by rw[ee,decide_eq_false nz];rfl⟩
   obtain⟨j,hj⟩:=List.mem_iff_getElem?.mp hm'
   have hv:=Jc (nde.sublist (List.filter_sublist.map _)) hj
   rw[ee] at hv
   refine eW ⟨_,_,_,.ref d,O4 _ _ pd (S3 _ _ ep),Z.pc,Z.pr,rfl,.inr ⟨.inr (.inr (.inl ⟨rfl,.inl ⟨_,e4⟩⟩)),d,.inr z,_,_,rfl,rfl,e4,hv,⟨_,rfl⟩,λa o na q=>by rw[Ad na];exact O4 _ _ na q,?_⟩⟩
   rw[Ac,a09,List.filter_filter]
   congr 3
   refine jw λe _=>?_
   rw[aY,hz]
   by_cases q1:e.1.1=z
   .rw[decide_eq_true q1,decide_eq_true (aE _ (by rw[q1];simp))];simp
   .by_cases q2:e.1.1∈(n::zs).take i
    .rw[decide_eq_true q2,decide_eq_true (bn _ q2)];simp
    .rw[decide_eq_false q1,decide_eq_false q2,decide_eq_false λq=>(List.mem_append.mp q).elim q2 λq=>q1 (by simpa using q)];rfl
  .rintro σ H4 ⟨⟨v2,rfl⟩,O4,e4⟩
   rw[ae,aK] at e4
   refine .inl ?_
   have eT:(es.filter λe=>!decide (e.1.1∈n::zs)).map (·.1)=T.filter λe=>!decide (e.1∈n::zs):=by rw[<- et,List.filter_map];rfl
   refine k H4 _ (λa u na q=>O4 _ _ na (S3 _ _ q)) ⟨_,eT,⟨trivial,e4⟩,λe h=>(he e (List.mem_filter.mp h).1).up λb ys q=>O4 _ _ (λz=>by rw[z,ed] at q;cases q) (S3 _ _ q)⟩ gL (a91 (n:=n) o up _ λe _=>?_)
   rw[ib,decide_eq_false_iff_not,az,not_or,mem]
def bm0(Z:An K t):OkD K af5 (Av K t) bl (t.f 1) (t.d 1) (Wt K t):=by
 refine A5 (b74 K t) λvs H Q E h=>?_
 .obtain⟨v,rfl,hf,k⟩:=h;refine⟨rfl,?_⟩
  cases v with
  |int i=>exact⟨rfl,rfl,k⟩
  |bl b=>exact⟨rfl,rfl,k⟩
  |str z=>exact⟨rfl,k⟩
  |non=>exact⟨rfl,k⟩
  |_=>exact(hf).elim
def Ir(Z:An K t)(k:NoC t H E):Cb K (dFn (λvs H Q E=>vs.length<=1000/\mkX t.c_zbz none 0 vs H Q E) (Ab (dC (.str z)) Ag)) (X1 Q E) σ H:=
 ⟨(show 1<=1000 by decide),λa ha=>⟨_,none,Ac,Z.en,k _ a (λb o e=>by rw[Ad (Ai e ha),Ad (Ai e ha)];exact e) Ac⟩⟩
def b08(Z:An K t):OkX K ay4 (Av K t) bl (t.m_zce 2) (t.e_zce 2) (au2 K t):=by
 refine a27 (ce6 K t) λvs H Q E h=>?_
 .obtain⟨b,v,p,sw,gs,ns,f,rfl,hb,hp,S,hn,hv,kY,kN⟩:=h;refine⟨rfl,?_⟩
  obtain⟨dx,l,eb,es,⟨⟨_,el⟩,he⟩,ee⟩:=hb
  obtain⟨l1,s1,h1,h2⟩:=hp
  obtain⟨dxp,fs,ep,_,_,hm⟩:=id h1
  refine⟨v,rfl,hv,?_⟩
  cases v with
  |bl b=>exact Ir Z (kN rfl)
  |str z=>exact Ir Z (kN rfl)
  |non=>exact Ir Z (kN rfl)
  |int i=>
   cases i with
   |negSucc i=>exact Ir Z (kN (by unfold Gy;exact if_neg λc=>by have:=c.1;omega))
   |ofNat n=>
    have hN:n∈ns->Gy ns (.int (.ofNat n))=some n:=λh=>if_pos ⟨gW n,h⟩
    have hO:n∉ns->Gy ns (.int (.ofNat n))=none:=λh=>if_neg λc=>h c.2
    refine eW ⟨_,_,_,_,eb,Z.bc,Z.bp,rfl,⟨p,dxp,_,⟨t.c_zcc,ak0 K t⟩,rfl,.head _,ep.2,hm _ (by simp),cf7,⟨p,l1,s1,sw,rfl,h1,h2,?_⟩⟩⟩
    by_cases c1:n<(Al sw).length
    .refine Lk (decide_eq_true (show n<((Al sw).length:Int) by omega)) ?_
     refine eW ⟨_,_,_,_,eb,Z.bc,Z.bk,rfl,(.inl ⟨⟨_,SqL.of el⟩,?_⟩)⟩
     refine Az (As (es.map λe=>V.ref e.2.2)) (λi σ H'=>(∃v2,σ=[some (.ref b),some (.int n),v2])/\H'=H/\∀e∈es.take i,e.1.1.testBit n=false) ⟨⟨_,rfl⟩,rfl,λe h=>by cases h⟩ (λ_ _ H' _ q=>q.2.1▸SqL.of el) ?_ ?_
     .rintro i x σ H1 hx ⟨⟨v2,rfl⟩,rfl,no⟩
      obtain⟨e,hi,rfl⟩:=Am hx
      have hm:=ak hi
      obtain⟨e1,hP,o1⟩:=he e hm
      refine⟨_,_,.inr (SqT.of e1),rfl,e.1.1,n,rfl,?_⟩
      cases c:e.1.1.testBit n with
      |true=>
       obtain⟨hn',ev⟩:=(S.bit (vkT e.1.2,e.1.1) (by rw[<- ee];exact bE hm) n).mp c
       exact kY n (hN hn') e.2.2 _ e.2.1 e.1.2 e1 hP o1 ev.symm
      |false=>
       refine⟨⟨_,rfl⟩,rfl,λx hx=>?_⟩
       rw[aY,hi] at hx
       rcases List.mem_append.mp hx with hx|hx
       .exact no x hx
       .obtain rfl:x=e:=by simpa using hx
        exact c
     .rintro σ H1 ⟨⟨v2,rfl⟩,rfl,no⟩
      rw[ae,aK] at no
      refine .inl (Ir Z (kN (hO λh=>?_)))
      obtain⟨g,hg,e0⟩:=S.cov n h
      have b0:=(S.bit g hg n).mpr ⟨h,e0.symm⟩
      rw[<- ee] at hg
      obtain⟨e,h,rfl⟩:=List.mem_map.mp hg
      have b0:=b0
      rw[no e h] at b0
      cases b0
    .exact E8 (decide_eq_false (show ¬ n<((Al sw).length:Int) by omega)) (Ir Z (kN (hO λh=>c1 (hn n h))))
  |_=>exact(hv).elim
def bj2(Z:An K t):OkX K W8 (Av K t) bl (t.m_zce 1) (t.e_zce 1) (V8 K t):=by
 refine a27 (b47 K t) λvs H Q E h=>?_
 .obtain⟨b,v,p,sw,gs,ns,f,rfl,hb,hp,S,hn,hv,kY,kN⟩:=h;refine⟨rfl,?_⟩
  obtain⟨dx,l,eb,_⟩:=id hb
  refine⟨b,dx,_,⟨t.c_zce,bx5 K t⟩,rfl,.head _,eb,rfl,cf7,⟨b,v,p,sw,gs,ns,f,rfl,hb,hp,S,hn,hv,λn en a m q T ea hP o e=>?_,λen H1 a S1 f=>⟨a,rfl,kN en H1 a S1 f⟩⟩⟩
  obtain⟨dx1,d1,⟨_,ep1⟩,_⟩:=id hP
  exact⟨_,_,.inr (SqT.of ea),rfl,q,dx1,_,⟨t.c_zcd,bh0 K t⟩,rfl,.head _,ep1,rfl,cf7,⟨q,T,rfl,hP,λH' q' S' h'=>kY n en H' q' T S' h' o e⟩⟩
def Lp{kvs:List (Key×V)}{zs:List Str}(ks:kvs.map (·.1)=zs.map cK)(nd:zs.Nodup)(z:Str)(v:V):(Ce kvs (.inr z) v).map (·.1)=(if z∈zs then zs else zs++[z]).map cK/\(if z∈zs then zs else zs++[z]).Nodup:=by
 have e:(cK z)∈kvs.map (·.1)↔z∈zs:=by rw[ks,ar];exact⟨fun⟨x,a,b⟩=>jU b▸a,λa=>⟨z,a,rfl⟩⟩
 rw[Oz]
 by_cases c:z∈zs
 .rw[if_pos (e.mpr c),if_pos c];exact⟨ks,nd⟩
 .rw[if_neg (λq=>c (e.mp q)),if_neg c,ks,aw]
  exact⟨rfl,List.nodup_append.mpr ⟨nd,by simp,λx hx y hy q=>c (by rw[List.mem_singleton.mp hy] at q;exact q▸hx)⟩⟩
def ap0{zs:List Str}{y z:Str}:y∈(if z∈zs then zs else zs++[z])↔y∈zs\/y=z:=by
 split
 .exact⟨.inl,λq=>q.elim id λq=>by rw[q];assumption⟩
 .rw[ax,aJ]
def a45{zs:List Str}{z:Str}:(if z∈zs then zs else zs++[z]).length<=zs.length+1:=by
 split
 .omega
 .rw[aB];exact ag _
def an2(Z:An K t):OkD K W7 (Av K t) bl (t.m_zce 0) (t.e_zce 0) (V7 K t):=by
 refine A5 (b46 K t) λvs H Q E h=>?_
 .obtain⟨b,p,gs,rfl,⟨dx,l,eb,rs,hR,er⟩,few,k⟩:=h;refine⟨rfl,?_⟩
  have big:1000<sizeLine:=by decide
  have lr:rs.length<=5:=by rw[<- er,ae] at few;exact few
  refine λsx hsx=>.inl ?_
  refine gn hsx λH1 S1 e1=>?_
  refine eW ⟨_,_,_,_,S1 _ _ eb,Z.bc,Z.bk,rfl,.inl ⟨⟨_,SqL.of (S1 _ _ hR.1.2)⟩,?_⟩⟩
  refine Az (As (rs.map λr=>V.ref r.2.2)) (λi σ H'=>(∃v2 v3 v4,σ=[some (.ref b),some (.ref sx),v2,v3,v4])/\Same H H'/\∃kvs zs,H' sx=some (.dK kvs)/\kvs.map (·.1)=zs.map cK/\zs.Nodup/\zs.length<=8*i/\∀z,z∈zs ↔ ∃r∈rs.take i,z∈r.1.2.map (·.1))
   ⟨⟨_,_,_,rfl⟩,S1,[],[],e1,rfl,jg,ag _,λz=>⟨(λq=>by cases q),fun⟨r,h,_⟩=>by cases h⟩⟩ (λ_ _ H' _ q=>q.2.1.seqL (SqL.of hR.1.2)) ?_ ?_
  .rintro i x σ H3 hx ⟨⟨v2,v3,v4,rfl⟩,S3,kvs,zs,e3,Fk,Fn,zl,bt⟩
   obtain⟨r,hi,rfl⟩:=Am hx
   have hm:=ak hi
   have il:=Aj hi
   obtain⟨er1,hP,oT⟩:=hR.2 r hm
   have hP3:=hP.up S3
   obtain⟨dx3,d3,⟨_,ep3⟩,_⟩:=id hP3
   refine⟨_,.inl (SqT.of (S3 _ _ er1)),rfl,?_⟩
   refine⟨r.2.1,dx3,_,⟨t.c_zcd,Zq K t⟩,rfl,.head _,ep3,rfl,cf7,⟨r.2.1,r.1.2,rfl,hP3,oT,λD hD=>.inl ⟨⟨_,SqL.of Ac⟩,?_⟩⟩⟩
   have pm:=Au ltS (r.1.2.map (·.1))
   have l8:(Ck ltS (r.1.2.map (·.1))).length<=8:=by rw[pm.length_eq,ae];exact oT.2.1
   have mem:∀z,z∈Ck ltS (r.1.2.map (·.1))↔z∈r.1.2.map (·.1):=λz=>pm.mem_iff
   generalize Ck ltS (r.1.2.map (·.1))=ys at l8 mem
   refine gn hD λH4 S4 eD=>?_
   have Ds:D≠sx:=λz=>by rw[z,S4 _ _ e3] at eD;cases eD
   refine Az (As (ys.map V.str)) (λk σ H'=>(∃v4,σ=[some (.ref b),some (.ref sx),some (.int r.1.1),some (.ref r.2.1),v4])/\Same H H'/\H' D=some (Bk ys)/\∃kvs zs,H' sx=some (.dK kvs)/\kvs.map (·.1)=zs.map cK/\zs.Nodup/\zs.length<=8*i+k/\∀z,z∈zs↔(∃r∈rs.take i,z∈r.1.2.map (·.1))\/z∈ys.take k)
    ⟨⟨_,rfl⟩,S3.trans S4,eD,kvs,zs,S4 _ _ e3,Fk,Fn,zl,λz=>by rw[bt];exact⟨.inl,λq=>q.elim id λq=>by cases q⟩⟩ (λ_ _ H' _ q=>SqL.of q.2.2.1) ?_ ?_
   .rintro k x σ H5 hx ⟨⟨v5,rfl⟩,S5,eD5,kvs,zs,e5,Fk,Fn,zl,bt⟩
    obtain⟨z,hz,rfl⟩:=Am hx
    have kl:=Aj hz
    have len:=congrArg cy Fk
    rw[ae,ae] at len
    refine⟨_,DPut.k (k:=.inr z) e5 (by omega),⟨_,rfl⟩,S5.set hsx,by rw[Ad Ds];exact eD5,_,_,Ac,(Lp Fk Fn z (.bl true)).1,(Lp Fk Fn z (.bl true)).2,aT a45 (by omega),λy=>?_⟩
    rw[ap0,bt,aY,hz,ax,or_assoc]
    refine or_congr mN (or_congr mN ?_)
    show _↔y∈[z]
    rw[aJ]
   .rintro σ H5 ⟨⟨v5,rfl⟩,S5,eD5,kvs,zs,e5,Fk,Fn,zl,bt⟩
    rw[ae] at zl bt
    rw[aK] at bt
    refine .inl ⟨⟨_,_,_,rfl⟩,S5,kvs,zs,e5,Fk,Fn,by omega,λz=>?_⟩
    rw[bt,mem,aY,hi]
    constructor
    .rintro (⟨r',h,q⟩|q)
     .exact⟨r',bn _ h,q⟩
     .exact⟨r,aE _ aP,q⟩
    .rintro⟨r',h,q⟩
     rcases List.mem_append.mp h with h|h
     .exact .inl ⟨r',h,q⟩
     .obtain rfl:r'=r:=by simpa using h
      exact .inr q
  .rintro σ H3 ⟨⟨v2,v3,v4,rfl⟩,S3,kvs,zs,e3,Fk,Fn,zl,bt⟩
   rw[ae] at zl bt
   rw[aK] at bt
   refine .inl ?_
   have pm:=Au ltS zs
   refine .inr ⟨rfl,.inl ⟨sx,zs,rfl,.inr ⟨kvs,.inl e3,Fk⟩,Fn,by omega,λL hL=>k _ L _ (S3.trans (Same.upd hL)) (B6 S3 hL) Ac (C7 (Eb Fn)) (λz=>?_) (by rw[pm.length_eq];omega)⟩⟩
   rw[pm.mem_iff,bt]
   constructor
   .rintro⟨r,hr,q⟩
    refine⟨(vkT r.1.2,r.1.1),by rw[<- er];exact List.mem_map.mpr ⟨r,hr,rfl⟩,(Ge (hR.2 r hr).2.2 z).mpr ((Dp (hR.2 r hr).2.2 z).mpr q)⟩
   .rintro⟨g,hg,q⟩
    rw[<- er] at hg
    obtain⟨r,hr,rfl⟩:=List.mem_map.mp hg
    exact⟨r,hr,(Dp (hR.2 r hr).2.2 z).mp ((Ge (hR.2 r hr).2.2 z).mp q)⟩
def FxAt.ex(f:FxAt C H a fs):ExcAt H a C fs:=by
 obtain⟨dx,ne,e1,e2⟩:=f
 exact .inr ⟨dx,ne,.inr (.inl e1),e2⟩
def Lc(zs:List Str):Nd (zs.map V.str) (zs.map V.str)=true:=by
 unfold Nd
 rw[decide_eq_true rfl,iP,bg]
 intro j hj
 have lt:=List.mem_range.mp hj
 rw[ae] at lt
 rw[av,al,aj lt]
 exact decide_eq_true rfl
def F8(zs:List Str):(zs.map V.str).all B0=true:=by
 rw[bg]
 intro x hx
 obtain⟨z,_,rfl⟩:=List.mem_map.mp hx
 rfl
def aw3(o:okTr T)(o':okTr T')(e:vkT T=vkT T')(z:Str):z∈T.map (·.1)↔z∈T'.map (·.1):=by rw[<- Dp o,<- Dp o',Yy o o' e]
def bm9(Z:An K t):OkD K ag4 (Av K t) bl (t.f 32) (t.d 32) (Mg K t):=by
 refine A5 (b83 K t) λvs H Q E h=>?_
 .obtain⟨p,d,T,T',rfl,hP,o,hT,o',ev,k⟩:=h;refine⟨rfl,?_⟩
  obtain⟨dx,d1,⟨np,ep⟩,es1,et1,⟨nd1,ed1⟩,he1⟩:=id hP
  refine .inl ⟨.ref t.c_zcd,true,.ins rfl ep Z.pc Z.p1 Z.p2 Z.p3 Z.p4 rfl,Z.kp,?_⟩
  refine⟨p,dx,_,⟨t.c_zcd,Zq K t⟩,rfl,.head _,ep,rfl,cf7,⟨p,T,rfl,hP.to λ_ _=>trivial,o,λl hl=>?_⟩⟩
  refine gn hl λH1 S1 e1=>?_
  obtain⟨es,et,⟨_,ed⟩,he⟩:=hT.up S1
  have nde:(es.map (·.1.1)).Nodup:=by have:=o'.1;rw[<- et,aC] at this;exact this
  have en:es.map (·.1.1)=T'.map (·.1):=by rw[<- et,aC];rfl
  have ek:(es.map kT).map (·.1)=(T'.map (·.1)).map cK:=by rw[Ht,<- et,aC];simp[aC,ju]
  refine .inr ⟨rfl,.inl ⟨d,T'.map (·.1),rfl,.inr ⟨_,.inl ed,ek⟩,o'.1,by rw[ae];have:=o'.2.1;omega,λL hL=>?_⟩⟩
  rw[<- au7 o.1 o'.1 (aw3 o o' ev)]
  refine gn hL λH2 S2 e2=>?_
  refine .inl ⟨l,L,_,_,rfl,rfl,SqL.of (S2 _ _ e1),SqL.of e2,F8 _,F8 _,?_⟩
  refine E8 (by rw[Lc];rfl) ?_
  have S:=S1.trans S2
  have ed2:=S2 _ _ ed
  refine .inr (.inr (.inl (.inl ⟨_,ed2,λob=>?_⟩)))
  refine gf (a:=d) λHf ef of=>?_
  have tf:∀b ys,H2 b=some (.tup ys)->Hf b=some (.tup ys):=λb ys e=>of _ _ (λz=>by rw[z,ed2] at e;cases e) e
  have epf:=of _ _ np (S _ _ ep)
  have hPf:PlAt t.c_zcd any Hf p T:=⟨dx,d1,⟨trivial,epf⟩,es1,et1,⟨trivial,of _ _ nd1 (S _ _ ed1)⟩,λe h=>((he1 e h).up (NL.same S).tup).up tf⟩
  refine Az (Ee (es.map kT)) (λi σ H'=>(∃v2 v3,σ=[some (.ref p),some (.ref d),v2,v3])/\H'=Hf) ⟨⟨_,_,rfl⟩,rfl⟩ (λ_ _ H' _ q=>q.2▸ef) ?_ ?_
  .rintro i x σ H3 hx ⟨⟨v2,v3,rfl⟩,rfl⟩
   rw[aC] at hx
   obtain⟨e,hi,rfl⟩:=Am hx
   have hm:=ak hi
   have lk:=Gw o'.1 (by rw[<- et];exact bE hm)
   have st':stT T' e.1.1=some (rcT e.1.2):=by unfold stT;rw[lk];rfl
   have st:=(Yy o o' ev _).trans st'
   refine⟨p,dx,_,⟨t.c_zcd,ak3 K t⟩,rfl,.head _,epf,rfl,cf7,⟨p,T,e.1.1,rfl,hPf,o,by rw[st];rfl,λv hv=>?_⟩⟩
   rw[st] at hv
   obtain⟨⟨a,rfl⟩,tk⟩:=hv
   obtain⟨b,xs,eb,hb,htk⟩:=id tk
   cases eb
   refine⟨_,true,.sqT rfl (SqT.of hb) rfl,rfl,?_⟩
   refine⟨.ref e.2,.inl ⟨_,.inr e.1.1,.inr ⟨ob,ef⟩,rfl,(Jc nde hi).symm⟩,?_⟩
   have tk2:=(((he e hm).up (NL.same S2).tup).up tf).tk
   refine .inr (.inl ⟨_,_,av5 _ tk,av5 _ tk2,by rw[a89];have:=Yn (o'.2.2 e.1 (by rw[<- et];exact bE hm)).1;omega,?_⟩)
   exact E8 (by rw[bt3,decide_eq_true rfl];rfl) ⟨⟨_,_,rfl⟩,rfl⟩
  .rintro σ H3 ⟨⟨v2,v3,rfl⟩,rfl⟩
   refine .inr ⟨d,ob,_,ed2,ef,k _ λb u q=>?_⟩
   by_cases hb:b=d
   .subst hb
    rw[Ac,<- ed2,S _ _ q]
   .rw[Ad hb]
    exact of _ _ hb (S _ _ q)
def bj0(Z:An K t):OkD K ad8 (Av K t) bl (t.f 33) (t.d 33) (V5 K t):=by
 refine A5 (b44 K t) λvs H Q E h=>?_
 .obtain⟨b,v,p,sw,gs,ns,f,rfl,hb,hp,S,hn,hv,no,k⟩:=h;refine⟨rfl,?_⟩
  obtain⟨dx,l,eb,_⟩:=id hb
  refine⟨b,dx,_,⟨t.c_zce,Sr K t⟩,rfl,.head _,eb,rfl,cf7,⟨b,v,p,sw,gs,ns,f,rfl,hb,hp,S,hn,hv,λn en=>(by rw[no] at en;cases en),λen H1 a S1 ea=>?_⟩⟩
  have x:ExcAt H1 a t.c_zbz []:=.inl ⟨rfl,.inr (.inl ea)⟩
  refine⟨a,rfl,t.c_zbz,none,.inl ea,Z.en,true,Z.mc,.inl ⟨.ref t.c_zbz,true,.exc rfl x Z.en rfl,Z.k3,?_⟩⟩
  exact⟨.ref t.c_zbz,true,.exc rfl x Z.en rfl,Z.k5,.inl ⟨.ref t.c_zbz,false,.exc rfl x Z.en rfl,Z.k6,(k H1 S1)⟩⟩
def bi9(Z:An K t):OkD K ad7 (Av K t) bl (t.f 34) (t.d 34) (V4 K t):=by
 refine A5 (b43 K t) λvs H Q E h=>?_
 .obtain⟨b,n,p,gs,rfl,hb,no,k⟩:=h;refine⟨rfl,?_⟩
  obtain⟨dx,l,eb,_⟩:=id hb
  refine⟨b,dx,_,⟨t.c_zce,ba3 K t⟩,rfl,.head _,eb,rfl,cf7,⟨b,n,p,gs,rfl,hb,no,λH1 a S1 f=>?_⟩⟩
  obtain⟨dx,ne,e1,e2⟩:=id f
  refine⟨a,rfl,t.c_zcb,some dx,.inl e1,Z.ec,true,Z.mp,Or.inr ⟨t.c_zcb,_,.str n,f.ex,Z.ec,Z.n1,rfl,Or.inr ⟨t.c_zcb,_,.non,f.ex,Z.ec,Z.n2,rfl,cf4,λT hT=>?_⟩⟩⟩
  refine gn hT λH2 ShT eT=>?_
  have S2:=S1.trans ShT
  refine⟨cf4,λT2 hT2=>?_⟩
  have S3:=Same.upd (o:=.tup [.str n,.non]) hT2
  have tt:∀{a:Addr}{H:Hp},H a=some (.tup [.str n,.non])->At K H (.tup [.at_ (.str n),.at_ .non]) (.ref a):=λh=>be8 (SqT.of h) (Ry (Xp rfl) (Ry (Xp rfl) (by unfold AtL;rfl)))
  refine .inr (.inl ⟨_,_,tt (S3 _ _ eT),tt Ac,by unfold dep Fb Fb Fb dep;decide,?_⟩)
  have:=k _ (S2.trans S3)
  rw[Hj (tt eT)]
  exact this
def Iz(hw:okSw sw)(h:n∈Ap sw ζ):n<256:=aL (Ej h).1 hw.len
def Sm(hw:okSw sw):(Ap sw ζ).length<=256:=aT (df _ _) (by rw[bx];exact hw.len)
theorem T8(m:Nat):∀N,(((aZ N).filter λi=>m.testBit i).map λn:Nat=>(1:Int)*2^((n:Int)).toNat).sum=((m%2^N:Nat):Int)
 |0=>by rw[Nat.pow_zero,Nat.mod_one];rfl
 | N+1=>by
  rw[iZ,gY,aw,List.sum_append,T8 m N,Nat.mod_pow_succ]
  have t:=hV (x:=m) (i:=N)
  cases e:m.testBit N with
  |true=>
   rw[show([N].filter m.testBit)=[N] from by simp[e]]
   show _+(1*2^((N:Int)).toNat+0)=_
   rw[e] at t
   rw[of_decide_eq_true t.symm,aQ,lN,Int.add_zero,Nat.mul_one,Int.natCast_add,Int.natCast_pow]
   rfl
  |false=>
   rw[show([N].filter m.testBit)=[] from by simp[e]]
   rw[e] at t
   have:=of_decide_eq_false t.symm
   rw[show m/2^N%2=0 by omega,Nat.mul_zero,Nat.add_zero]
   exact Int.add_zero _
def av0(sw:Sw)(ζ:List Sw):((Ap sw ζ).map λn:Nat=>(1:Int)*2^((n:Int)).toNat).sum=Gp sw ζ:=by
 rw[P0,T8,Gd,Nat.mod_eq_of_lt]
 refine ji _ λj hj=>?_
 rw[Iy,decide_eq_false (by omega)]
 rfl
def az1(pw:xs.Pairwise λa b=>ltS a b=true)(nd:zs.Nodup)(h:∀z,z∈xs↔z∈zs):xs=Ck ltS zs:=by
 have ir:∀a:Str,ltS a a=false:=λa=>by
  cases e:ltS a a with
  |false=>rfl
  |true=>exact absurd (of_decide_eq_true e) (lH _)
 have ndx:xs.Nodup:=pw.imp λ{a b} h e=>by rw[e,ir] at h;cases h
 have o:=Eb ndx
 rw[Gj o (Au ltS xs).symm pw (C7 o)]
 exact au7 ndx nd h
def bl0(Z:An K t):OkD K ae6 (Av K t) bl (t.f 35) (t.d 35) (Wm K t):=by
 refine A5 (b64 K t) λvs H Q E h=>?_
 .obtain⟨b,l,d,f,p,sw,ζ,gs,ws,kvs,zs,rfl,hb,few,hp,hw,el,ed,ks,nd,lz,mem,ef,k⟩:=h;refine⟨rfl,?_⟩
  have big:1000<sizeLine:=by decide
  obtain⟨dx,lk,eb,hK⟩:=id hb
  have eqs:∀{xs:List Str},(xs.Pairwise λa b=>ltS a b=true)->(∀z,z∈xs ↔ ∃g∈gs,P2 g.1 z)->xs=Ck ltS zs:=λpw m=>az1 pw nd λz=>(m z).trans (mem z).symm
  refine⟨b,dx,_,⟨t.c_zce,X5 K t⟩,rfl,.tail _ (.head _),eb,rfl,cf7,⟨b,p,gs,rfl,hb,few,λH1 D xs S1 hD eD pw mx lx=>?_⟩⟩
  refine⟨_,true,.sqL rfl (SqL.of eD) rfl,rfl,?_⟩
  refine .inr ⟨rfl,.inl ⟨d,zs,rfl,.inr ⟨kvs,.inl (S1 _ _ ed),ks⟩,nd,by omega,λL hL=>?_⟩⟩
  rw[<- eqs pw mx]
  refine gn hL λH2 S2 e2=>?_
  have eD2:=S2 _ _ eD
  refine .inl ⟨D,L,_,_,rfl,rfl,SqL.of eD2,SqL.of e2,F8 _,F8 _,?_⟩
  refine E8 (by rw[Lc];rfl) ?_
  refine⟨.inl ⟨rfl,_,SqL.of eD2⟩,D,_,_,rfl,rfl,eD2,by rw[ae];omega,?_⟩
  have S3:Same H (upd H2 D (.lst (xs.map V.str++[.str "x"]))):=(S1.trans S2).set hD
  generalize upd H2 D (.lst (xs.map V.str++[.str "x"]))=H3 at S3 ⊢
  refine .inl ⟨⟨_,SqL.of (S3 _ _ el)⟩,?_⟩
  refine Az (As (ws.map V.str)) (λi σ H'=>(∃v5,σ=[some (.ref b),some (.ref l),some (.ref d),some (.ref f),some (.ref D),v5])/\Same H H') ⟨⟨_,rfl⟩,S3⟩ (λ_ _ H' _ q=>q.2.seqL (SqL.of el)) ?_ ?_
  .rintro i x σ H4 hx ⟨⟨v5,rfl⟩,S4⟩
   obtain⟨z,hz,rfl⟩:=Am hx
   refine .inr ⟨_,.inl ⟨_,.inr z,.inl (S4 _ _ ed),rfl,rfl⟩,?_⟩
   cases c:(Be kvs (.inr z)).isSome with
   |true=>exact⟨⟨_,rfl⟩,S4⟩
   |false=>
    refine⟨b,z,p,gs,rfl,hb.up S4,λg hg hk=>?_,λH5 S5=>⟨⟨_,rfl⟩,S4.trans S5⟩⟩
    have:(cK z)∈kvs.map (·.1):=by rw[ks];exact bE ((mem z).mpr ⟨g,hg,hk⟩)
    rw[<- any_mem,Ev,c] at this
    cases this
  .rintro σ H4 ⟨⟨v5,rfl⟩,S4⟩
   refine .inl ?_
   refine⟨b,dx,_,⟨t.c_zce,X5 K t⟩,rfl,.tail _ (.head _),S4 _ _ eb,rfl,cf7,⟨b,p,gs,rfl,hb.up S4,few,λH5 D5 xs5 S5 _ eD5 pw5 mx5 lx5=>?_⟩⟩
   have S45:=S4.trans S5
   refine .inr ⟨rfl,.inl ⟨d,zs,rfl,.inr ⟨kvs,.inl (S45 _ _ ed),ks⟩,nd,by omega,λL5 hL5=>?_⟩⟩
   rw[<- eqs pw5 mx5]
   refine gn hL5 λH6 S6 e6=>?_
   refine .inl ⟨D5,L5,_,_,rfl,rfl,SqL.of (S6 _ _ eD5),SqL.of e6,F8 _,F8 _,?_⟩
   refine Lk (Lc _) ?_
   have S46:=S45.trans S6
   have hp6:=hp.mono (Kp.same S46)
   obtain⟨dxp,dd,l1,n1,s1,kk,br,h1⟩:=id hp6
   refine eW ⟨_,_,_,_,S46 _ _ eb,Z.bc,Z.bp,rfl,⟨p,dxp,_,⟨t.c_zcc,a06 K t⟩,rfl,.head _,h1.ins.2,rfl,cf7,⟨p,sw,ζ,rfl,hp6.mono Kp.any,?_⟩⟩⟩
   refine .inl ⟨⟨_,SqL.of (S46 _ _ ef)⟩,λM hM=>?_⟩
   refine Ki (As ((Ap sw ζ).map λn:Nat=>V.int n)) (λσ=>∃v,σ=[v]) (λ_=>true) (λv=>match v with | .int n=>.int (1*2^n.toNat)|_=>.non) hM (λH1 S=>S.seqL (SqL.of (S46 _ _ ef))) (by rw[ae];exact a_ (Sm hw) (by decide)) ⟨_,rfl⟩ ?_ ?_
   .rintro x σ H7 hx ⟨v,rfl⟩ S7 Fin Skip hF _
    obtain⟨n,hn,rfl⟩:=List.mem_map.mp hx
    have:=Iz hw hn
    exact⟨⟨by omega,by omega,by decide⟩,hF _ _ _ ⟨_,rfl⟩ (Same.refl _) rfl rfl⟩
   .intro H7 S7 eM
    refine .inl ⟨M,(Ap sw ζ).map λn:Nat=>1*2^((n:Int)).toNat,rfl,SqL.of ?_,?_⟩
    .rw[eM,List.filter_eq_self.mpr λ_ _=>rfl,aC,aC];rfl
    .rw[av0]
     have:=k _ (S46.trans S7)
     rw[<- decide_eq_true (rfl:Gp sw ζ=Gp sw ζ)] at this
     exact this
def sqx{H:Hp}{p:Addr}{n:Nat}{v:V}(h:DGet H p (.int (n:Int)) (some v)):∃xs,SqX K H p (n:Int) xs/\atI xs (n:Int)=some v:=
 have e:=Bq (by rw[cL,if_pos (cF n)])
 ⟨_,.dk λu e2=>by rw[e] at e2;cases e2;exact h,e⟩
def Kr(v:Nat->Nat)(ns:List Nat):(ns.map (kW v)).map (·.1)=ns.map λn:Nat=>(.inl (n:Int):Key):=by rw[aC];rfl
def bx8{v:Nat->Nat}{ns:List Nat}(nd:ns.Nodup):((ns.map (kW v)).map (·.1)).Nodup:=by
 rw[Kr]
 exact List.pairwise_map.mpr (nd.imp λh e=>h (by injection e with e;omega))
def Lm{v:Nat->Nat}{ns:List Nat}{n:Nat}(nd:ns.Nodup)(h:n∈ns):Be (ns.map (kW v)) (.inl (n:Int))=some (.int (v n:Int)):=by
 obtain⟨i,hi⟩:=List.mem_iff_getElem?.mp h
 exact Bs (bx8 nd) (by rw[al,hi];rfl)
def bc6{ok:Addr->Prop}{H:Hp}{d w:Addr}{T:Tr}{v:Nat->Nat}{ns:List Nat}{n:Nat}(hn:n∈ns)(h:TrAt ok H d T)(ew:H w=some (.dK (ns.map (kW v)))):d≠w:=λz=>by
 obtain⟨es,_,⟨_,e⟩,_⟩:=h
 rw[z,ew] at e
 injection e with e
 injection e with e
 have:=congrArg (nA Prod.fst) e
 rw[Ht,Kr] at this
 have h0:(.inl n:Key)∈ns.map λn:Nat=>(.inl n:Key):=List.mem_map.mpr ⟨n,hn,rfl⟩
 rw[this] at h0
 obtain⟨_,_,z⟩:=List.mem_map.mp h0
 cases z
section
variable {w:Addr}{H H':Hp}{v:Nat->Nat}{ns:List Nat}{n:Nat} (hn:n∈ns) (ew:H w=some (.dK (ns.map (kW v)))) (O:∀a o,a≠w->H a=some o->H' a=some o)
include ew O
def PmAt.off{C p:Addr}{sw:Sw}(h:PmAt C H p sw):PmAt C H' p sw:=by
 obtain⟨l,s,⟨dx,fs,⟨_,o⟩,q⟩,ds,e,⟨_,ol⟩,z⟩:=h
 exact⟨l,s,⟨dx,fs,⟨trivial,O _ _ (λz=>by rw[z,ew] at o;cases o) o⟩,q⟩,ds,e,⟨trivial,O _ _ (λz=>by rw[z,ew] at ol;cases ol) ol⟩,λx hx=>⟨trivial,O _ _ (λy=>by have:=(z x hx).2;rw[y,ew] at this;cases this) (z x hx).2⟩⟩
include hn
def TrAt.off{ok:Addr->Prop}{d:Addr}{T:Tr}(h:TrAt ok H d T):TrAt ok H' d T:=by
 have nw:=bc6 hn h ew
 obtain⟨es,e,⟨q,o⟩,z⟩:=h
 exact⟨es,e,⟨q,O _ _ nw o⟩,λx hx=>(z x hx).up λb ys q=>O _ _ (λz=>by rw[z,ew] at q;cases q) q⟩
theorem PlAt.off{C:Addr}{ok:Addr->Prop}{p:Addr}{T:Tr}(h:PlAt C ok H p T):PlAt C ok H' p T:=by
 obtain⟨dx,d,⟨q,o⟩,z⟩:=h
 exact⟨dx,d,⟨q,O _ _ (λz=>by rw[z,ew] at o;cases o) o⟩,TrAt.off hn ew O z⟩
theorem BqAt.off{ok:Addr->Prop}{b p:Addr}{gs:List Mk}(h:BqAt t ok H b p gs):BqAt t ok H' b p gs:=by
 obtain⟨dx,l,e,rs,⟨⟨q,o⟩,z⟩,er⟩:=h
 exact⟨dx,l,O _ _ (λz=>by rw[z,ew] at e;cases e) e,rs,⟨⟨q,O _ _ (λz=>by rw[z,ew] at o;cases o) o⟩,λr hr=>⟨O _ _ (λy=>by have:=(z r hr).1;rw[y,ew] at this;cases this) (z r hr).1,PlAt.off hn ew O (z r hr).2.1,(z r hr).2.2⟩⟩,er⟩
end
def PmAt.up{C p:Addr}{H H':Hp}{sw:Sw}(h:PmAt C H p sw)(S:Same H H'):PmAt C H' p sw:=let⟨l,s,a,b⟩:=h;⟨l,s,a.mono (Kp.same S),b.mono (Kp.same S)⟩
def Emp(C:Addr)(H:Hp)(q d:Addr):Prop:=∃dx T,H q=some (.ins C dx [("records", .ref d)])/\TrAt any H d T/\okTr T/\Up T
def okTr.sub(o:okTr T)(s:T'.Sublist T):okTr T':=⟨o.1.sublist (s.map _),aT s.length_le o.2.1,λx h=>o.2.2 x (s.subset h)⟩
def Sh(Z:An K t){i j:Nat}{D:Outs}{σ:St}{H:Hp}{q d:Addr}(Sg:St->Prop)(h0:Sg σ)(ha:∀ σ,Sg σ -> ∀H Q E,Q (.ref q) H->Aa i σ H Q E)(hj:∀ σ x,Sg σ->Sg (σ.set j (some x))/\∀H Q E,Q x H->Aa j (σ.set j (some x)) H Q E)(e:Emp t.c_zcd H q d)(k:∀ σ' H',Sg σ'->(∀a o,a≠d->H a=some o->H' a=some o)->Emp t.c_zcd H' q d->D.nx σ' H') :
  Bu (Bg K (Bi "names" 0 (Cl K t) (Aa i) Ag)) (gdN j) (Ae (dIf (B9 K (Bi "has" 1 (Qb K t) (Aa i) (Ab (Aa j) Ag))) (Ae (B1 (Bi "drop" 1 (Qa K t) (Aa i) (Ab (Aa j) Ag))) Af) Af) Af) D σ H:=by
 obtain⟨dx,T,eq,hT,o,u⟩:=e
 have ed0:∃kvs,H d=some (.dK kvs):=by obtain⟨es,_,⟨_,e⟩,_⟩:=hT;exact⟨_,e⟩
 unfold Bu Bg Bi
 refine ha σ h0 _ _ _ ?_
 refine⟨q,dx,_,⟨t.c_zcd,Zq K t⟩,rfl,.head _,eq,rfl,cf7,⟨q,T,rfl,⟨dx,d,⟨trivial,eq⟩,hT⟩,o,λl hl=>?_⟩⟩
 have S1:=Same.upd (o:=Bk (Ck ltS (T.map (·.1)))) hl
 have e1:upd H l (Bk (Ck ltS (T.map (·.1)))) l=some (Bk (Ck ltS (T.map (·.1)))):=Ac
 generalize Ck ltS (T.map (·.1))=zs at S1 e1 ⊢
 have nld:l≠d:=λz=>by obtain⟨_,z'⟩:=ed0;rw[<- z,hl] at z';cases z'
 generalize upd H l (Bk zs)=H1 at S1 e1 ⊢
 refine .inl ⟨⟨_,SqL.of e1⟩,?_⟩
 refine Az (As (zs.map V.str)) (λ_ σ H'=>Sg σ/\(∀a o,a≠d->H1 a=some o->H' a=some o)/\Emp t.c_zcd H' q d) ⟨h0,λ_ _ _ e=>e,dx,T,S1 _ _ eq,hT.up S1,o,u⟩ (λ_ _ H' _ r=>SqL.of (r.2.1 _ _ nld e1)) ?_ ?_
 .rintro m x σ H2 hx ⟨hs,O2,dx2,T2,eq2,hT2,o2,u2⟩
  obtain⟨z,hz,rfl⟩:=Am hx
  obtain⟨hs',hz'⟩:=hj σ (.str z) hs
  show Ae _ _ _ (σ.set j (some (.str z))) H2
  generalize σ.set j (some (.str z))=σ2 at hs' hz' ⊢
  have hP2:PlAt t.c_zcd any H2 q T2:=⟨dx2,d,⟨trivial,eq2⟩,hT2⟩
  unfold Ae dIf B9
  refine ha σ2 hs' _ _ _ ?_
  refine⟨q,dx2,_,⟨t.c_zcd,ak2 K t⟩,rfl,.head _,eq2,rfl,cf7,hz' _ _ _ ?_⟩
  refine⟨q,T2,z,rfl,hP2,o2,?_⟩
  cases c:(stT T2 z).isSome with
  |false=>exact⟨hs',O2,dx2,T2,eq2,hT2,o2,u2⟩
  |true=>
   simp only[ac6,↓reduceIte,B1]
   refine ha σ2 hs' _ _ _ ?_
   refine⟨q,dx2,_,⟨t.c_zcd,ba5 K t⟩,rfl,.head _,eq2,rfl,cf7,hz' _ _ _ ?_⟩
   refine⟨q,dx2,d,T2,z,rfl,eq2,hT2,o2,u2,c,λH3 T3 O3 hT3 s3 u3=>?_⟩
   have nqd:q≠d:=λz=>by obtain⟨es,_,⟨_,e⟩,_⟩:=hT2;rw[z,e] at eq2;cases eq2
   exact⟨hs',λa o n e=>O3 _ _ n (O2 _ _ n e),dx2,T3,O3 _ _ nqd eq2,hT3,o2.sub s3,u3⟩
 .rintro σ H2 ⟨hs,O2,h2⟩
  exact .inl (k σ H2 hs (λa o n e=>O2 _ _ n (S1 _ _ e)) h2)
def b89{T T':Tr}(o:okTr T)(o':okTr T')(e:vkT T=vkT T')(u:Up T'):Up T:=by
 obtain⟨rk,u⟩:=u
 have st:=λn=>Yy o o' e n
 refine⟨rk,λn x h=>?_⟩
 have s:=st n
 unfold stT at s
 rw[h] at s
 cases h':T'.lookup n with
 |none=>rw[h'] at s;cases s
 |some y=>
  rw[h'] at s
  have s:=aG s
  have xp:x.p=y.p:=by unfold rcT at s;injection s with s;injection s with _ s;injection s with s _;injection s with s;injection s
  obtain⟨a,b⟩:=u n y h'
  rw[xp]
  refine⟨a,b.imp id λb=>⟨?_,b.2⟩⟩
  have s2:=st y.p
  unfold stT at s2
  have:=congrArg Option.isSome s2
  rw[jz,jz] at this
  rw[this]
  exact b.1
def bl3(Z:An K t):OkD K ae9 (Av K t) bl (t.f 38) (t.d 38) (Qy K t):=by
 refine A5 (b67 K t) λvs H Q E h=>?_
 .obtain⟨b,tl,w,p,sw,gs,ns,f,ds,v,rfl,hb,hp,cn,hn,hT,ew,nd,hv,k⟩:=h;refine⟨rfl,?_⟩
  refine .inr (.inr (.inl (.inl ⟨_,ew,λob=>?_⟩)))
  refine gf (a:=w) λHf ef of=>?_
  refine Az (Ee (ns.map (kW v))) (λi σ H'=>(∃v3 v4 v5,σ=[some (.ref b),some (.ref tl),some (.ref w),v3,v4,v5])/\Same Hf H') ⟨⟨_,_,_,rfl⟩,Same.refl _⟩ (λ_ _ H' _ q=>q.2 _ _ ef) ?_ ?_
  .rintro i x σ H3 hx ⟨⟨v3,v4,v5,rfl⟩,S3⟩
   rw[aC] at hx
   obtain⟨n,hi,rfl⟩:=Am hx
   have hm:=ak hi
   have O3:∀a o,a≠w->H a=some o->H3 a=some o:=λa o n e=>S3 _ _ (of _ _ n e)
   have hb3:=BqAt.off hm ew O3 hb
   have hp3:=PmAt.off ew O3 hp
   obtain⟨e,he,fe⟩:=hv n hm
   obtain⟨hTe,oe,ue⟩:=hT.2 e (ak he)
   have hTe3:=TrAt.off hm ew O3 hTe
   have etl:=O3 _ _ (λz=>by have:=hT.1;rw[z,ew] at this;cases this) hT.1
   have eN:Gy ns (.int n)=some n:=if_pos ⟨gW n,hm⟩
   obtain⟨dx,l,eb,_⟩:=id hb3
   have ed:∃kvs,H3 e.2=some (.dK kvs):=by obtain⟨es,_,⟨_,e⟩,_⟩:=hTe3;exact⟨_,e⟩
   have ix:∀{H4:Hp}{Q:VK},Same H3 H4->Q (.ref e.2) H4->A7 K (.ref w) (.int n) H4 λy H5=>A7 K (.ref tl) y H5 Q:=λ{H4 Q} S q=>Ko (.inl ⟨_,.inl n,.inr ⟨ob,S _ _ (S3 _ _ ef)⟩,rfl,(Lm nd hm).symm⟩) ⟨_,_,.inl (SqL.of (S _ _ etl)),Bq (by rw[al,he];rfl),q⟩
   have is:∀{H4 H5:Hp}{q:Addr}{T:Tr},Same H3 H4->PlAt t.c_zcd (fresh H4) H5 q T->PlAt t.c_zcd (· ≠ e.2) H5 q T:=λ{H4 H5 q T} S hq=>hq.to λa h z=>by obtain⟨_,ed⟩:=ed;have h:H4 e.2=none:=z▸h;rw[S _ _ ed] at h;cases h
   refine⟨b,dx,_,⟨t.c_zce,Sr K t⟩,rfl,.head _,eb,rfl,cf7,⟨b,_,p,sw,gs,ns,f,rfl,hb3,hp3,cn,hn,trivial,λm em H4 q T S4 hq oT eT=>?_,λen=>(by have:=eN.symm.trans en;cases this)⟩⟩
   cases eN.symm.trans em
   refine ix S4 ⟨q,e.2,T,e.1,rfl,is (Same.refl _) hq,oT,hTe3.up S4,oe,eT.trans fe,λH5 S5=>?_⟩
   obtain⟨dxq,d,⟨_,eq⟩,hd⟩:=(hq.up S5)
   have fd:H3 d=none:=by obtain⟨es,_,⟨z,_⟩,_⟩:=hd;exact z
   have S35:=S4.trans S5
   refine Sh (i:=4) Z (λσ=>∃v5,σ=[some (.ref b),some (.ref tl),some (.ref w),some (.int n),some (.ref q),v5]) ⟨_,rfl⟩ (λσ ⟨_,e⟩ H Q E h=>by subst e;exact h) (λσ x ⟨_,e⟩=>by subst e;exact⟨⟨_,rfl⟩,λH Q E h=>h⟩) ⟨dxq,T,eq,let⟨es,a,⟨_,b⟩,c⟩:=hd;⟨es,a,⟨trivial,b⟩,c⟩,oT,b89 oT oe (eT.trans fe) ue⟩ ?_
   rintro σ H6 ⟨v6,rfl⟩ O6 _
   have S36:Same H3 H6:=λa o e=>O6 _ _ (λz=>by rw[z,fd] at e;cases e) (S35 _ _ e)
   refine⟨b,dx,_,⟨t.c_zce,Sr K t⟩,rfl,.head _,S36 _ _ eb,rfl,cf7,⟨b,_,p,sw,gs,ns,f,rfl,hb3.up S36,hp3.up S36,cn,hn,trivial,λm em H7 q7 T7 S7 hq7 oT7 eT7=>?_,λen=>(by have:=eN.symm.trans en;cases this)⟩⟩
   cases eN.symm.trans em
   exact ix (S36.trans S7) ⟨q7,e.2,T7,e.1,rfl,is S36 hq7,oT7,hTe3.up (S36.trans S7),oe,eT7.trans fe,λH8 S8=>⟨⟨_,_,_,rfl⟩,((S3.trans S36).trans S7).trans S8⟩⟩
  .rintro σ H3 ⟨⟨v3,v4,v5,rfl⟩,S3⟩
   refine .inr ⟨w,ob,_,ew,S3 _ _ ef,k _ λb u q=>?_⟩
   by_cases hb:b=w
   .subst hb
    rw[Ac,<- ew,q]
   .rw[Ad hb]
    exact S3 _ _ (of _ _ hb q)
end
section
variable {P:aO}{w:bw}{K:ac}{mg:Str->Option Value}{base:Heap}{t:Adr}
def by4{α:Type}{l:List α}{i j:Nat}{x:α}(nd:l.Nodup)(h:l[i]?=some x)(g:l[j]?=some x):i=j:=by
 have l1:=Aj h
 have l2:=Aj g
 rw[aj l1] at h
 rw[aj l2] at g
 exact(du nd).mp ((aG h).trans (aG g).symm)
def K3(m:Nat×Nat)(s b:Nat):Nat×Nat:=if s=0 then(m.1+b,m.2) else(m.1,m.2+b)
structure MsI (free:List Nat) (v:Nat->Nat) (N:Nat) (mp:List (Nat×Nat)):Prop where
 lt:∀{k:Nat}{m:Nat×Nat},mp[k]?=some m->m.1<2^N/\m.2<2^N
 own:∀{k:Nat}{m:Nat×Nat},mp[k]?=some m -> ∀j∈free,(m.1.testBit j=true\/m.2.testBit j=true)->v j=k
 cov:∀j∈free,j<N -> ∃m,mp[v j]?=some m/\(m.1.testBit j=true\/m.2.testBit j=true)
def Xt(h:m<2^N):(m+2^N).testBit j=(decide (N=j)||m.testBit j):=by
 have:=Nat.two_pow_add_eq_or_of_lt h 1
 rw[Nat.mul_one] at this
 rw[mC,this,iq,lP]
def al2(h:m<2^N):m+2^N<2^(N+1):=by rw[Nat.pow_succ];omega
def R1(h:m.1<2^N/\m.2<2^N):((K3 m s (2^N)).1.testBit j=true\/(K3 m s (2^N)).2.testBit j=true)↔N=j\/(m.1.testBit j=true\/m.2.testBit j=true):=by
 unfold K3
 split
 .rw[Xt h.1,cB,decide_eq_true_iff,or_assoc]
 .rw[Xt h.2,cB,decide_eq_true_iff]
  constructor
  .rintro (a|a|a) <;> simp[a]
  .rintro (a|a|a) <;> simp[a]
def MsI.skip{free:List Nat}{v:Nat->Nat}{N:Nat}{mp:List (Nat×Nat)}(h:MsI free v N mp)(n:N∉free):MsI free v (N+1) mp:=
 ⟨λe=>⟨fj (h.lt e).1 (gy (by decide) (by omega)),fj (h.lt e).2 (gy (by decide) (by omega))⟩,h.own,λj hj lj=>h.cov j hj (by
  have:j≠N:=λz=>n (z▸hj)
  omega)⟩
def MsI.step{free:List Nat}{v:Nat->Nat}{N k:Nat}{mp:List (Nat×Nat)}{m:Nat×Nat}(h:MsI free v N mp)(hm:mp[k]?=some m)(s:Nat)(hk:N∈free->v N=k):MsI free v (N+1) (mp.set k (K3 m s (2^N))):=by
 have lk:=Aj hm
 have at_:∀{i x},(mp.set k (K3 m s (2^N)))[i]?=some x->(i=k/\x=K3 m s (2^N))\/mp[i]?=some x:=λ{i x} e=>by
  by_cases z:i=k
  .rw[z,cS lk] at e
   exact .inl ⟨z,(aG e).symm⟩
  .rw[dA (bY z)] at e
   exact .inr e
 refine⟨λ{i x} e=>?_,λ{i x} e j hj b=>?_,λj hj lj=>?_⟩
 .rcases at_ e with⟨_,rfl⟩|e
  .have l:=h.lt hm
   have p:2^N<2^(N+1):=gy (by decide) (by omega)
   unfold K3
   split
   .exact⟨al2 l.1,fj l.2 p⟩
   .exact⟨fj l.1 p,al2 l.2⟩
  .have l:=h.lt e
   have p:2^N<2^(N+1):=gy (by decide) (by omega)
   exact⟨fj l.1 p,fj l.2 p⟩
 .rcases at_ e with⟨rfl,rfl⟩|e
  .rcases (R1 (h.lt hm)).mp b with z|b
   .subst z;exact hk hj
   .exact h.own hm j hj b
  .exact h.own e j hj b
 .by_cases c:v j=k
  .refine⟨_,by rw[c,cS lk],(R1 (h.lt hm)).mpr ?_⟩
   by_cases z:N=j
   .exact .inl z
   .obtain⟨x,ex,b⟩:=h.cov j hj (by omega)
    rw[c,hm] at ex
    cases ex
    exact .inr b
  .have z:j≠N:=λz=>c (hk (z▸hj)▸(by rw[z]))
   obtain⟨x,ex,b⟩:=h.cov j hj (by omega)
   exact⟨x,by rw[dA (bY c)];exact ex,b⟩
structure MkAt (H:Hp) (M:Addr) (as:List Addr) (mp:List (Nat×Nat)):Prop where
 at_:H M=some (.lst (as.map V.ref))
 nd:as.Nodup
 len:as.length=mp.length
 one:∀{k:Nat}{a:Addr}{m:Nat×Nat},as[k]?=some a->mp[k]?=some m->H a=some (.lst [.int (m.1:Int),.int (m.2:Int)])
def MkAt.up{H H':Hp}{M:Addr}{as:List Addr}{mp:List (Nat×Nat)}(h:MkAt H M as mp)(S:Same H H'):MkAt H' M as mp:=⟨S _ _ h.at_,h.nd,h.len,λa b=>S _ _ (h.one a b)⟩
def MkAt.get{H:Hp}{M:Addr}{as:List Addr}{mp:List (Nat×Nat)}{k:Nat}(h:MkAt H M as mp)(l:k<mp.length):∃a m,as[k]?=some a/\mp[k]?=some m:=⟨_,_,aj (by rw[h.len];exact l),aj l⟩
def MkAt.bump{H:Hp}{M a:Addr}{as:List Addr}{mp:List (Nat×Nat)}{m:Nat×Nat}{k s:Nat}(b:Nat)(h:MkAt H M as mp)(ha:as[k]?=some a)(hm:mp[k]?=some m)(hs:s<2) :
  ∃x:Int,[V.int (m.1:Int),V.int (m.2:Int)][s]?=some (.int x)/\MkAt (upd H a (.lst ([V.int (m.1:Int),V.int (m.2:Int)].set s (.int (x+(b:Int)))))) M as (mp.set k (K3 m s b)):=by
 have ea:=h.one ha hm
 have nM:M≠a:=λz=>by
  have e:=h.at_
  rw[z,ea] at e
  injection e with e
  injection e with e
  have:V.int m.1∈as.map V.ref:=by rw[<- e];exact aP
  obtain⟨_,_,q⟩:=List.mem_map.mp this
  cases q
 have set:∀{l},l=[V.int ((K3 m s b).1:Int),V.int ((K3 m s b).2:Int)]->MkAt (upd H a (.lst l)) M as (mp.set k (K3 m s b)):=λ{l} e=>by
  subst e
  refine⟨by rw[Ad nM];exact h.at_,h.nd,by rw[fZ];exact h.len,λ{i c y} h1 h2=>?_⟩
  by_cases z:i=k
  .subst z
   rw[ha] at h1
   cases h1
   rw[cS (Aj hm)] at h2
   cases h2
   exact Ac
  .rw[dA (bY z)] at h2
   rw[Ad λq=>z ?_]
   .exact h.one h1 h2
   .subst q
    exact by4 h.nd h1 ha
 obtain rfl|rfl:s=0\/s=1:=by omega
 .exact⟨_,rfl,set rfl⟩
 .exact⟨_,rfl,set rfl⟩
def ins_mem{α:Type}{rs:List α}{k:Nat}{y x:α}:x∈rs.take k++[y]++rs.drop k↔x∈rs\/x=y:=by
 have:=iA k rs
 rw[ax,ax,aJ]
 constructor
 .rintro ((h|h)|h)
  .exact .inl (eI h)
  .exact .inr h
  .exact .inl (lh h)
 .rintro (h|h)
  .rw[<- this] at h
   rcases List.mem_append.mp h with h|h
   .exact .inl (.inl h)
   .exact .inr h
  .exact .inl (.inr h)
abbrev sR(c:Int)(W tl w l kk f:Addr)(r:St):St:=some (.int c)::some (.ref W)::some (.ref tl)::some (.ref w)::some (.ref l)::some (.ref kk)::some (.ref f)::r
def bm2(Z:An K t):OkD K af7 (Av K t) bl (t.f 37) (t.d 37) (Wu K t):=by
 refine A5 (b76 K t) λvs H Q E h=>?_
 .obtain⟨c,W,tl,w,sw,ζ,l,kk,f,ds,v,rfl,hW,hT,d1,d4,ew,hv,k⟩:=h;refine⟨rfl,?_⟩
  have big:1000<sizeLine:=by decide
  have ndf:=(Sk sw ζ).imp aR
  have l256:=hW.ok.len
  refine⟨_,.inr (SqL.of hW.at_),rfl,?_⟩
  refine .inl ⟨⟨_,SqL.of hT.1⟩,λM hM=>?_⟩
  refine De (As (ds.map λe=>V.ref e.2)) (λi σ H'=>(∃v0,σ=[v0])/\Same H H'/\∃as,H' M=some (.lst (as.map V.ref))/\as.Nodup/\as.length=i/\∀a∈as,H a=none/\H' a=some (.lst [.int 0,.int 0])) ⟨⟨_,rfl⟩,Same.upd hM,[],Ac,.nil,rfl,λa h=>by cases h⟩ (λ_ _ H' _ q=>q.2.1.seqL (SqL.of hT.1)) ?_ ?_
  .rintro i x σ H1 hx ⟨⟨v0,rfl⟩,S1,as,eM,nda,la,ha⟩
   obtain⟨e,hi,rfl⟩:=Am hx
   have il:=Aj hi
   refine⟨cf4,λa fa=>?_⟩
   have na:a∉as:=λq=>by have:=(ha a q).2;rw[fa] at this;cases this
   have nM:=Ai eM fa
   refine⟨_,by rw[Ad nM];exact eM,by rw[ae];omega,⟨_,rfl⟩,(S1.trans (Same.upd fa)).set hM,as++[a],by rw[Ac,aw];rfl,List.nodup_append.mpr ⟨nda,by simp,λx hx y hy q=>na (by rw[List.mem_singleton.mp hy] at q;exact q▸hx)⟩,by rw[aB,la];rfl,λb hb=>?_⟩
   rcases List.mem_append.mp hb with hb|hb
   .have nb:b≠M:=λz=>by
     have:=(ha b hb).2
     rw[z,eM] at this
     injection this with this
     injection this with this
     have h0:V.int 0∈as.map V.ref:=by rw[this];exact aP
     obtain⟨_,_,q⟩:=List.mem_map.mp h0
     cases q
    exact⟨(ha b hb).1,by rw[Ad nb,Ad (show b≠a from λz=>na (z▸hb))];exact(ha b hb).2⟩
   .obtain rfl:=List.mem_singleton.mp hb
    exact⟨B6 S1 fa,by rw[Ad nM.symm,Ac]⟩
  rintro σ H1 ⟨_,S1,as,eM,nda,la,ha⟩
  rw[ae] at la
  have fr:∀a∈as,H a=none:=λa h=>(ha a h).1
  have mk1:MkAt H1 M as (fO ds.length (0,0)):=⟨eM,nda,by rw[la,iy],λ{k a m} h1 h2=>by
   rw[cL] at h2
   split at h2
   .cases h2;exact(ha a (ak h1)).2
   .cases h2⟩
  have rep:∀{k:Nat}{m:Nat×Nat},(fO ds.length ((0,0):Nat×Nat))[k]?=some m->m=(0,0):=λ{k m} h=>by
   rw[cL] at h
   split at h
   .cases h;rfl
   .cases h
  have mi1:MsI (Ap sw ζ) v 0 (fO ds.length (0,0)):=by
   refine⟨λ{k m} h=>?_,λ{k m} h j hj b=>?_,λj hj lj=>absurd lj (Nat.not_lt_zero _)⟩
   .rw[rep h];exact⟨by decide,by decide⟩
   .rw[rep h,dz] at b
    exact b.elim (λb=>by cases b) λb=>by cases b
  refine⟨l,sw,rfl,hW.sws.mono (Kp.same S1),hW.ok,⟨by omega,by omega⟩,?_⟩
  refine Az (Bt 0 (((Al sw).length:Nat):Int).toNat) (λi σ H'=>(∃v7 v9 v10 v11 v12 v13 v14,σ=sR c W tl w l kk f [v7,some (.ref M),v9,v10,v11,v12,v13,v14])/\Same H H'/\∃mp,mp.length=ds.length/\MkAt H' M as mp/\MsI (Ap sw ζ) v i mp) ⟨⟨_,_,_,_,_,_,_,rfl⟩,S1,_,iy,mk1,mi1⟩ (λ_ _ _ _ _=>aM) ?_ ?_
  .rintro i x σ H2 hx ⟨⟨v7,v9,v10,v11,v12,v13,v14,rfl⟩,S2,mp,lm,mk,mi⟩
   obtain⟨hi,rfl⟩:=Cv hx
   have pw:(1*2^(i:Int).toNat:Int)=((2^i:Nat):Int):=by rw[lN,aQ,Int.natCast_pow];rfl
   have i256:i<256:=by omega
   have aug:∀{k s:Nat} {a m},as[k]?=some a->mp[k]?=some m->s<2->(i∈Ap sw ζ->v i=k) -> ∃xs x,H2 a=some (.lst xs)/\xs[s]?=some (.int x)/\s<xs.length/\Same H (upd H2 a (.lst (xs.set s (.int (x+1*2^(i:Int).toNat)))))/\∃mp,mp.length=ds.length/\MkAt (upd H2 a (.lst (xs.set s (.int (x+1*2^(i:Int).toNat))))) M as mp/\MsI (Ap sw ζ) v (i+1) mp:=λ{k s a m} h1 h2 hs hk=>by
    obtain⟨x,ex,hm⟩:=mk.bump (2^i) h1 h2 hs
    exact⟨_,x,mk.one h1 h2,ex,hs,S2.set (fr a (ak h1)),_,by rw[fZ];exact lm,by rw[pw];exact hm,mi.step h2 s hk⟩
   refine⟨c,900+i,rfl,by omega,?_⟩
   generalize Bw c (900+i)=sd
   refine .inr ⟨_,.inl ⟨_,.inl i,.inl (S2 _ _ ew),rfl,rfl⟩,?_⟩
   by_cases hf:i∈Ap sw ζ
   .rw[Lm ndf hf]
    obtain⟨a,m,h1,h2⟩:=mk.get (by rw[lm];exact hv i hf)
    obtain⟨xs,x,e1,e2,e3,S3,hh⟩:=aug (s:=(sd%2).toNat) h1 h2 (by omega) λ_=>rfl
    refine Lk rfl ?_
    obtain⟨xi,sx,ai⟩:=sqx (K:=K) (H:=H2) (p:=w) (n:=i) (v:=.int (v i:Int)) (.inl ⟨_,.inl i,.inl (S2 _ _ ew),rfl,(Lm ndf hf).symm⟩)
    refine⟨xi,_,sx,ai,_,_,.inl (SqL.of mk.at_),Bq (by rw[al,h1];rfl),by decide,a,xs,x,(sd%2).toNat,rfl,by rw[iV (by omega)],e1,e2,⟨by omega,by omega,by decide⟩,_,xs,rfl,e1,e3,?_⟩
    exact⟨⟨_,_,_,_,_,_,_,rfl⟩,S3,hh⟩
   .have hv0:Be ((Ap sw ζ).map (kW v)) (.inl i)=none:=Ci λq=>by
     rw[Kr] at q
     obtain⟨j,hj,e⟩:=List.mem_map.mp q
     injection e with e
     exact hf (by rw[show i=j by omega];exact hj)
    rw[hv0]
    refine⟨by decide,Jb (λ_=>?_) (λ_=>⟨⟨_,_,_,_,_,_,_,rfl⟩,S2,mp,lm,mk,mi.skip hf⟩)⟩
    obtain⟨q,eq⟩:∃q:Nat,sd%((ds.map λe=>V.ref e.2).length:Nat)=q:=⟨(sd%((ds.map λe=>V.ref e.2).length:Nat)).toNat,by rw[ae];have:=cr sd (show(ds.length:Int)≠0 by omega);omega⟩
    have lq:q<ds.length:=by
     rw[ae] at eq
     have:=cg sd (show(0:Int)<((ds.length:Nat):Int) by omega)
     omega
    obtain⟨a,m,h1,h2⟩:=mk.get (k:=q) (by rw[lm];exact lq)
    obtain⟨xs,x,e1,e2,e3,S3,hh⟩:=aug (s:=(sd/7%2).toNat) h1 h2 (by omega) λz=>absurd z hf
    refine .inl ⟨_,.inl (SqL.of (S2 _ _ hT.1)),by rw[ae];omega,?_⟩
    rw[eq]
    refine⟨_,_,.inl (SqL.of mk.at_),Bq (by rw[al,h1];rfl),⟨by decide,by decide⟩,by decide,a,xs,x,(sd/7%2).toNat,rfl,by rw[iV (by omega)],e1,e2,⟨by omega,by omega,by decide⟩,_,xs,rfl,e1,e3,?_⟩
    exact⟨⟨_,_,_,_,_,_,_,rfl⟩,S3,hh⟩
  .rintro σ H2 ⟨⟨v7,v9,v10,v11,v12,v13,v14,rfl⟩,S2,mp,lm,mk,mi⟩
   rw[Ay,aQ] at mi
   refine .inl ⟨My,λR0 hR0=>?_⟩
   have S3:=S2.trans (Same.upd (o:=.lst []) hR0)
   have e3:upd H2 R0 (.lst []) R0=some (.lst []):=Ac
   have mk3:=mk.up (Same.upd (o:=.lst []) hR0)
   have fR0:=B6 S2 hR0
   show Ae _ _ _ _ (upd H2 R0 (.lst []))
   generalize upd H2 R0 (.lst [])=H3 at S3 e3 mk3 ⊢
   refine .inl ⟨⟨_,SqL.of (S3 _ _ hT.1)⟩,?_⟩
   refine Ho (E5 (ds.map λe=>V.ref e.2)) (λi σ H'=>∃R rs,(∃v7 v9 v10 v12 v13 v14,σ=sR c W tl w l kk f [v7,some (.ref M),v9,v10,some (.ref R),v12,v13,v14])/\Same H H'/\MkAt H' M as mp/\RwAt t.c_zcd (fresh H) H' R rs/\rs.length<=2*i/\∀x,x∈rs.map (·.1) ↔ ∃(k:Nat)(m:Nat×Nat)(e:Tr×Addr),k<i/\mp[k]?=some m/\ds[k]?=some e/\(x=(m.1,e.1)\/x=(m.2,e.1)))
    ⟨R0,[],⟨_,_,_,_,_,_,rfl⟩,S3,mk3,⟨⟨fR0,e3⟩,λr h=>by cases h⟩,ag _,λx=>⟨(λq=>by cases q),fun⟨_,_,_,h,_⟩=>absurd h (Nat.not_lt_zero _)⟩⟩ (λ_ _ H' _ ⟨_,_,_,q,_⟩=>q.seqL (SqL.of hT.1)) ?_ ?_
   .rintro i x y T σ H4 hx hTn ⟨R,rs,⟨v7,v9,v10,v12,v13,v14,rfl⟩,S4,mk4,hR,lr,mem⟩
    obtain⟨rfl,hy⟩:=Lb hx
    obtain⟨e,he,rfl⟩:=Am hy
    have il:=Aj he
    obtain⟨a,m,h1,h2⟩:=mk4.get (k:=i) (by rw[lm];exact il)
    have ST:=Same.upd (o:=.tup [.int (i:Int),.ref e.2]) hTn
    refine⟨_,.inl (SqT.of Ac),rfl,?_⟩
    have S5:=S4.trans ST
    have mk5:=mk4.up ST
    have hR5:=hR.up ST
    generalize upd H4 T (.tup [.int (i:Int),.ref e.2])=H5 at S5 mk5 hR5 ⊢
    refine⟨_,_,.inl (SqL.of mk5.at_),Bq (by rw[al,h1];rfl),?_⟩
    refine eW ⟨⟨_,SqL.of (mk5.one h1 h2)⟩,?_⟩
    refine Az (As [V.int (m.1:Int),V.int (m.2:Int)]) (λj σ H'=>∃R rs,(∃v9 v10 v13 v14,σ=sR c W tl w l kk f [some (.ref e.2),some (.ref M),v9,v10,some (.ref R),some (.int (i:Int)),v13,v14])/\Same H H'/\MkAt H' M as mp/\RwAt t.c_zcd (fresh H) H' R rs/\rs.length<=2*i+j/\∀x,x∈rs.map (·.1)↔(∃(k:Nat)(m:Nat×Nat)(e:Tr×Addr),k<i/\mp[k]?=some m/\ds[k]?=some e/\(x=(m.1,e.1)\/x=(m.2,e.1)))\/x∈[(m.1,e.1),(m.2,e.1)].take j)
     ⟨R,rs,⟨_,_,_,_,rfl⟩,S5,mk5,hR5,lr,λx=>by rw[mem];exact⟨.inl,λq=>q.elim id λq=>by cases q⟩⟩ (λ_ _ H' _ ⟨_,_,_,_,q,_⟩=>SqL.of (q.one h1 h2)) ?_ ?_
    .rintro j x σ H6 hx ⟨R,rs,⟨v9,v10,v13,v14,rfl⟩,S6,mk6,hR6,lr,mem⟩
     obtain⟨mm,rfl,hmm⟩:∃mm:Nat,x=.int (mm:Int)/\[(m.1,e.1),(m.2,e.1)][j]?=some (mm,e.1):=by
      match j,hx with
      |0,hx=>cases hx;exact⟨m.1,rfl,rfl⟩
      |1,hx=>cases hx;exact⟨m.2,rfl,rfl⟩
      |j+2,hx=>cases hx
     obtain⟨hTe,oe,ue⟩:=hT.2 e (ak he)
     have j2:j<2:=Aj hmm
     obtain⟨vr,hvr⟩:∃vr,vr=rs.map λr=>V.ref r.2.2:=⟨_,rfl⟩
     have lv:vr.length=rs.length:=by rw[hvr,ae]
     have sq6:SqL K H6 R vr:=hvr▸SqL.of hR6.1.2
     refine .inl ⟨_,.inl sq6,c,80+_,rfl,by omega,.inl ⟨_,.inl sq6,by omega,?_⟩⟩
     obtain⟨q,eq⟩:∃q:Nat,Bw c (80+vr.length)%(vr.length+1)=(q:Int):=⟨_,(iV (cr _ (by omega))).symm⟩
     rw[eq]
     refine⟨_,q,sq6,.inl ⟨rfl,rfl,λA fA=>?_⟩⟩
     refine gn fA λH7 SA eA=>?_
     refine⟨e.2,e.1,rfl,hTe.up (S6.trans SA),oe,λH8 p S8 hp8=>⟨cf4,λB fB=>?_⟩⟩
     refine gn fB λH9 SB eB=>?_
     refine⟨cf3,λL fL=>?_⟩
     refine gn fL λH10 SL eL=>?_
     have lt:(vr.take q).length<=8:=by rw[aN];omega
     refine .inl ⟨A,L,_,_,rfl,rfl,SL _ _ (SB _ _ (S8 _ _ eA)),eL,by show _+1<=_;omega,λC fC=>?_⟩
     refine gn fC λH11 SC eC=>?_
     have S6b:=SA.trans (S8.trans (SB.trans (SL.trans SC)))
     refine⟨_,q,S6b.seqL sq6,.inr ⟨rfl,rfl,λG fG=>?_⟩⟩
     refine gn fG λH12 SG eG=>?_
     have ld:(vr.drop q).length<=8:=by rw[j1];omega
     refine .inl ⟨C,G,_,_,rfl,rfl,SG _ _ eC,eG,by rw[aB];show _+1+_<=_;omega,λR' fR'=>?_⟩
     refine gn fR' λH13 SX eX=>?_
     have S12:=S6b.trans SG
     have SR:=S12.trans SX
     have SBR:=((SL.trans SC).trans SG).trans SX
     refine⟨R',rs.take q++[((mm,e.1),p,B)]++rs.drop q,⟨_,_,_,_,rfl⟩,S6.trans SR,mk6.up SR,⟨⟨B6 (S6.trans S12) fR',by rw[eX,hvr,aw,aw,gZ,List.map_drop];rfl⟩,λr hr=>?_⟩,?_,λx=>?_⟩
     .rcases ins_mem.mp hr with hr|rfl
      .have z:=hR6.2 r hr
       exact⟨SR _ _ z.1,z.2.1.up SR,z.2.2⟩
      .exact⟨SBR _ _ eB,((hp8.to λa h=>B6 (S6.trans SA) h).up SB).up SBR,oe⟩
     .have:=congrArg cy (iA q rs)
      rw[aB] at this
      rw[aB,aB]
      show _+1+_<=_
      omega
     .rw[aw,aw,gZ,List.map_drop]
      show x∈(rs.map (·.1)).take q++[(mm,e.1)]++(rs.map (·.1)).drop q↔_
      rw[ins_mem,mem,aY,hmm,ax,or_assoc]
      refine or_congr mN (or_congr mN ?_)
      show _↔x∈[(mm,e.1)]
      rw[aJ]
    .rintro σ H6 ⟨R,rs,⟨v9,v10,v13,v14,rfl⟩,S6,mk6,hR6,lr,mem⟩
     refine .inl ⟨R,rs,⟨_,_,_,_,_,_,rfl⟩,S6,mk6,hR6,lr,λx=>?_⟩
     rw[mem]
     constructor
     .rintro (⟨k,m',e',hk,q1,q2,q3⟩|q)
      .exact⟨k,m',e',by omega,q1,q2,q3⟩
      .have q:x∈[(m.1,e.1),(m.2,e.1)]:=q
       exact⟨i,m,e,by omega,h2,he,by simpa using q⟩
     .rintro⟨k,m',e',hk,q1,q2,q3⟩
      by_cases z:k=i
      .subst z
       rw[h2] at q1
       rw[he] at q2
       cases q1
       cases q2
       refine .inr ?_
       show x∈[(m.1,e.1),(m.2,e.1)]
       simpa using q3
      .exact .inl ⟨k,m',e',by omega,q1,q2,q3⟩
   .rintro σ H4 ⟨R,rs,⟨v7,v9,v10,v12,v13,v14,rfl⟩,S4,mk4,hR,lr,mem⟩
    have ln:(D9 0 (ds.map λe=>V.ref e.2)).length=ds.length:=by rw[Bp,ae]
    rw[ln] at lr mem
    have of:∀r∈rs,∃(k:Nat)(m:Nat×Nat)(e:Tr×Addr),mp[k]?=some m/\ds[k]?=some e/\(r.1=(m.1,e.1)\/r.1=(m.2,e.1)):=λr hr=>by
     obtain⟨k,m,e,_,h⟩:=(mem r.1).mp (bE hr)
     exact⟨k,m,e,h⟩
    refine .inl (k H4 R rs S4 hR (λr hr=>?_) (λr hr j hj b=>?_) (λj hj=>?_) (by omega))
    .obtain⟨k,m,e,_,h2,h3⟩:=of r hr
     exact⟨e,ak h2,by rcases h3 with h3|h3 <;> rw[h3]⟩
    .obtain⟨k,m,e,h1,h2,h3⟩:=of r hr
     refine⟨e,?_,by rcases h3 with h3|h3 <;> rw[h3]⟩
     rw[mi.own h1 j hj (h3.imp (λh3=>by rw[h3] at b;exact b) λh3=>by rw[h3] at b;exact b)]
     exact h2
    .obtain⟨m,h1,b⟩:=mi.cov j hj (Ej hj).1
     obtain⟨e,h2⟩:∃e,ds[v j]?=some e:=⟨_,aj (hv j hj)⟩
     rcases b with b|b
     .obtain⟨r,hr,er⟩:=List.mem_map.mp ((mem (m.1,e.1)).mpr ⟨v j,m,e,hv j hj,h1,h2,.inl rfl⟩)
      exact⟨r,hr,by rw[er];exact b⟩
     .obtain⟨r,hr,er⟩:=List.mem_map.mp ((mem (m.2,e.1)).mpr ⟨v j,m,e,hv j hj,h1,h2,.inr rfl⟩)
      exact⟨r,hr,by rw[er];exact b⟩
def WorldAt.up(h:WorldAt H W sw ζ l k f)(S:Same H H'):WorldAt H' W sw ζ l k f:=⟨S _ _ h.at_,h.sws.mono (Kp.same S),h.ok,h.rl.mono (Kp.same S),h.rok,h.few,S _ _ h.fr,h.ne⟩
def TsAt.kp(h:TsAt H l ds)(n:∀a o,(∀x,o≠.tbl x)->H a=some o->H' a=some o):TsAt H' l ds:=⟨n _ _ (λ_ z=>by cases z) h.1,λe he=>⟨let⟨es,a,⟨_,b⟩,c⟩:=(h.2 e he).1;⟨es,a,⟨trivial,n _ _ (λ_ z=>by cases z) b⟩,λx hx=>(c x hx).up λb ys=>n _ _ λ_ z=>by cases z⟩,(h.2 e he).2⟩⟩
def ak7{v:Nat->Nat}{ns:List Nat}{n:Nat}(h:n∉ns):Be (ns.map (kW v)) (.inl (n:Int))=none:=Ci λq=>h (by
 rw[Kr] at q
 obtain⟨m,hm,e⟩:=List.mem_map.mp q
 injection e with e
 rw[show n=m by omega]
 exact hm)
def PanelAt.pm(h:PanelAt C ok H p sw ζ):PmAt C H p sw:=
 let⟨_,_,l,_,s,_,_,h⟩:=h.mono Kp.any
 ⟨l,s,⟨_,_,h.ins,rfl,rfl,λm hm=>by simp only[az,cP,or_false] at hm;rcases hm with rfl|rfl|rfl|rfl|rfl|rfl <;> rfl⟩,h.tps⟩
def X3(h:(C1 sw ζ).testBit j=true):j∈Ap sw ζ:=by
 rw[P0,cw,cf]
 refine⟨?_,h⟩
 rw[Iy,aV] at h
 exact of_decide_eq_true h.1
theorem Sv:∀(es:List ((Str×Rc)×Addr)) {kvs:List (Key×V)}{zs:List Str},kvs.map (·.1)=zs.map cK->zs.Nodup -> ∃zs':List Str,(Z4 kvs (es.map kT)).map (·.1)=zs'.map cK/\zs'.Nodup/\∀z,z∈zs'↔z∈zs\/z∈es.map (·.1.1)
 |[],kvs,zs,ks,nd=>⟨zs,ks,nd,λz=>⟨.inl,λq=>q.elim id λq=>by cases q⟩⟩
 | e::es,kvs,zs,ks,nd=>by
  obtain⟨a,b⟩:=Lp ks nd e.1.1 (.ref e.2)
  obtain⟨zs',c1,c2,c3⟩:=Sv es a b
  refine⟨zs',c1,c2,λz=>?_⟩
  rw[c3,ap0,aX,az,or_assoc]
theorem X2:∀{ds:List (Tr×Addr)},(∀e∈ds,okTr e.1)->(ds.flatMap λe=>e.1.map (·.1)).length<=8*ds.length
 |[],_=>ag _
 | d::ds,h=>by
  have:=X2 λe he=>h e (ay _ he)
  have:=(h d aP).2.1
  rw[ie,aB,ae,aI]
  omega
def BqAt.but(h:BqAt t ok H b p gs)(nd:¬ ok d)(hd:(∃l,H d=some (.dK l)) \/ ∃l,H d=some (.lst l))(O:∀a o,a≠d->H a=some o->H' a=some o):BqAt t ok H' b p gs:=by
 have ne:∀{a o},H a=some o->(∀l,o≠.dK l)->(∀l,o≠.lst l)->a≠d:=λe n1 n2 z=>by
  rw[z] at e
  rcases hd with⟨l,q⟩|⟨l,q⟩
  .rw[q] at e;cases e;exact n1 _ rfl
  .rw[q] at e;cases e;exact n2 _ rfl
 have nk:∀{a},ok a->a≠d:=λh z=>nd (z▸h)
 obtain⟨dx,l,e,rs,⟨⟨q,o⟩,z⟩,er⟩:=h
 refine⟨dx,l,O _ _ (ne e (λ_ z=>by cases z) λ_ z=>by cases z) e,rs,⟨⟨q,O _ _ (nk q) o⟩,λr hr=>?_⟩,er⟩
 obtain⟨z1,⟨dx2,d2,⟨q2,o2⟩,es,ee,⟨q3,o3⟩,z3⟩,z4⟩:=z r hr
 have tu:∀b ys,H b=some (.tup ys)->H' b=some (.tup ys):=λb ys e=>O _ _ (ne e (λ_ z=>by cases z) λ_ z=>by cases z) e
 exact⟨tu _ _ z1,⟨dx2,d2,⟨q2,O _ _ (nk q2) o2⟩,es,ee,⟨q3,O _ _ (nk q3) o3⟩,λx hx=>(z3 x hx).up tu⟩,z4⟩
def Emp.but(h:Emp C H q2 d2)(hd:∃l,H d=some (.dK l))(O:∀a o,a≠d->H a=some o->H' a=some o)(h2:Emp C H' q d):Emp C H' q2 d2:=by
 obtain⟨dx,T,e,hT,o,u⟩:=h
 obtain⟨l,hd⟩:=hd
 have e':=O _ _ (λz=>by rw[z,hd] at e;cases e) e
 by_cases c:d2=d
 .subst c
  obtain⟨dx3,T3,_,hT3,o3,u3⟩:=h2
  exact⟨dx,T3,e',hT3,o3,u3⟩
 .obtain⟨es,ee,⟨_,ed⟩,z⟩:=hT
  exact⟨dx,T,e',⟨es,ee,⟨trivial,O _ _ c ed⟩,λx hx=>(z x hx).up λb ys q=>O _ _ (λz=>by rw[z,hd] at q;cases q) q⟩,o,u⟩
def Emp.dk(h:Emp C H q d):∃l,H d=some (.dK l):=let⟨_,_,_,⟨_,_,⟨_,e⟩,_⟩,_⟩:=h;⟨_,e⟩
def Ti:okTr []:=⟨.nil,bu _,λx h=>by cases h⟩
def bi7:¬ P2 (vkT []) z:=λh=>by have:=(Ge Ti z).mp h;cases this
def bf5(ne:Ap sw ζ≠[]):Cn (Ap sw ζ) (λ_=>vkT []) [(vkT [],C1 sw ζ)]:=by
 refine⟨jP _ _,λg hg j=>?_,λg hg=>?_,λn h=>⟨_,List.mem_singleton.mpr rfl,rfl⟩⟩
 .obtain rfl:=List.mem_singleton.mp hg
  exact⟨λh=>⟨X3 h,rfl⟩,λh=>(Ej h.1).2⟩
 .obtain rfl:=List.mem_singleton.mp hg
  obtain⟨n,hn⟩:=jf _ ne
  exact⟨n,hn,rfl⟩
def PlAt.ne(h:PlAt C ok H p T)(hd:H d=none):PlAt C (· ≠ d) H p T:=
 let⟨dx,d1,⟨_,o⟩,es,e,⟨_,q⟩,z⟩:=h
 ⟨dx,d1,⟨Ai o hd,o⟩,es,e,⟨Ai q hd,q⟩,z⟩
def SwIn.kp(h:SwIn any H l sw)(n:∀a o,(∀x,o≠.tbl x)->H a=some o->H' a=some o):SwIn any H' l sw:=
 let⟨ds,e,⟨_,o⟩,z⟩:=h
 ⟨ds,e,⟨trivial,n _ _ (λ_ z=>by cases z) o⟩,λx hx=>⟨⟨trivial,n _ _ (λ_ z=>by cases z) (z x hx).1.2⟩,trivial,n _ _ (λ_ z=>by cases z) (z x hx).2.2⟩⟩
abbrev sL(a:Addr)(ns:List Int)(W l kk f nm D F:Addr)(r:St):St:=some (.ref a)::some (.bl (decide (Bf ns 0%8=1)))::some (.ref W)::some (.ref l)::some (.ref kk)::some (.ref f)::some (.ref nm)::some (.int (1+Bf ns 2/8%4))::some (.ref D)::some (.ref F)::r
def bn1(Z:An K t):OkD K D_zbr (Av K t) bl (t.f 39) (t.d 39) (Q4 K t):=by
 refine A5 (b85 K t) λvs H Q E h=>?_
 .obtain⟨a,ns,rfl,hS,ls,st,k⟩:=h;refine⟨rfl,?_⟩
  have big:1000<sizeLine:=by decide
  refine⟨a,ns,0,rfl,hS,by decide,?_⟩
  refine⟨a,ns,0,rfl,hS,⟨by decide,by decide⟩,cf4,λq hq=>⟨_,_,.inl (SqL.of Ac),ao1 (decide (Bf ns 0%8=1)) _ _,?_⟩⟩
  refine gn hq λH1 S1 _=>?_
  refine⟨Bf ns 0/8,if(decide (Bf ns 0%8=1))=true then 256 else 24,by cases(decide (Bf ns 0%8=1)) <;> rfl,by cases(decide (Bf ns 0%8=1)) <;> decide,by cases(decide (Bf ns 0%8=1)) <;> decide,λH2 W sw ζ l kk f S2 hW=>?_⟩
  have S02:=S1.trans S2
  refine⟨_,.inr (SqL.of hW.at_),rfl,?_⟩
  refine⟨a,ns,1,rfl,S02.seqL hS,a,ns,2,rfl,S02.seqL hS,cf4,λq2 hq2=>⟨_,_,.inl (SqL.of Ac),ao1 (decide (Bf ns 0%8=1)) _ _,?_⟩⟩
  refine gn hq2 λH3 S3 _=>?_
  obtain⟨m2,lm2,em2⟩:∃m:Nat,(1<=m/\m<=8)/\1+Bf ns 2%(if(decide (Bf ns 0%8=1))=true then 3 else 8)=m:=by
   cases(decide (Bf ns 0%8=1))
   .exact⟨(1+Bf ns 2%8).toNat,by omega,by show 1+Bf ns 2%8=_;omega⟩
   .exact⟨(1+Bf ns 2%3).toNat,by omega,by show 1+Bf ns 2%3=_;omega⟩
  have ev:(if(decide (Bf ns 0%8=1))=true then V.int 3 else V.int 8)=V.int (if(decide (Bf ns 0%8=1))=true then 3 else 8):=by cases(decide (Bf ns 0%8=1)) <;> rfl
  rw[ev]
  refine⟨by cases(decide (Bf ns 0%8=1)) <;> decide,Bf ns 1,m2,by rw[<- em2];rfl,lm2.2,λH4 nm ws S4 enm lws ndw z12=>?_⟩
  have S04:=S02.trans (S3.trans S4)
  have hW:=hW.up (S3.trans S4)
  obtain⟨m4,l4,em4⟩:∃m:Nat,(1<=m/\m<=4)/\1+Bf ns 2/8%4=m:=⟨(1+Bf ns 2/8%4).toNat,by omega,by omega⟩
  refine⟨a,ns,2,rfl,S04.seqL hS,⟨by decide,by decide⟩,by decide,?_⟩
  have em5:(1+Bf ns 2/8%4).toNat=m4:=by omega
  refine⟨⟨by omega,by omega⟩,?_⟩
  refine He (P:=λ_ v H'=>∃d T,v=.ref d/\TrAt any H' d T/\okTr T/\Up T) (λ_ _ _ _ S ⟨d,T,e,h,o⟩=>⟨d,T,e,h.nl S,o⟩) (Bt 0 (1+Bf ns 2/8%4).toNat) (λ_ _=>aM) (by rw[Ay];omega) (λj x H5 Q1 hj S5 q=>?_) λD H5 vs S5 hD eD lv hv=>?_
  .obtain⟨hj,rfl⟩:=Cv hj
   exact⟨a,ns,3,rfl,(S04.trans S5).seqL hS,Bf ns 3,j,nm,ws,rfl,S5 _ _ enm,ndw,by omega,λz hz=>(z12 z hz).2,λH6 d T S6 hT okT uT=>q _ H6 S6 ⟨d,T,rfl,hT,okT,uT⟩⟩
  rw[Ay,em5] at lv
  obtain⟨ds,rfl,he⟩:=Yp λv hm=>by
   obtain⟨j,hj⟩:=List.mem_iff_getElem?.mp hm
   exact hv j v hj
  rw[ae] at lv
  have hT:TsAt H5 D ds:=⟨eD,he⟩
  have S05:=S04.trans S5
  have hW:=hW.up S5
  have enm:=S5 _ _ enm
  clear hv he eD S1 S2 S3 S4 S5 hD S02 S04
  intro F hF
  refine .inl (.inl ⟨⟨_,SqL.of ((Same.upd hF) _ _ hW.fr)⟩,?_⟩)
  refine gn hF λH6 S6 e6=>?_
  have ndf:=(Sk sw ζ).imp aR
  have le256:=Sm (ζ:=ζ) hW.ok
  refine Az (As ((Ap sw ζ).map λn:Nat=>V.int n)) (λi σ H'=>(∃v10,σ=sL a ns W l kk f nm D F [v10,none,none,none,none,none,none,none,none,none])/\Same H5 H'/\∃u:Nat->Nat,(∀n∈(Ap sw ζ).take i,u n<m4)/\H' F=some (.dK (((Ap sw ζ).take i).map (kW u))))
   ⟨⟨_,rfl⟩,S6,λ_=>0,(λn hn=>by cases hn),e6⟩ (λ_ _ H' _ q=>q.2.1.seqL (SqL.of hW.fr)) ?_ ?_
  .rintro i x σ H7 hx ⟨⟨v7,rfl⟩,S7,u,hu,eF⟩
   obtain⟨n,hn,rfl⟩:=Am hx
   refine⟨a,ns,4,rfl,(S05.trans S7).seqL hS,Bf ns 4,l,sw,n,m4,by rw[<- em4];rfl,hW.sws.mono (Kp.same S7),hW.ok,l4.1,λH8 v S8 hv2=>?_⟩
   have nn:=Eu ndf hn
   refine .inr ⟨_,DPut.k (k:=.inl n) (S8 _ _ eF) (by rw[ae,aN];omega),?_⟩
   rw[Ft _ (ak7 nn)]
   refine⟨⟨_,rfl⟩,(S7.trans S8).set hF,λm=>if m=n then v else u m,λm hm=>?_,?_⟩
   .show (if m=n then v else u m)<_
    rw[aY,hn] at hm
    rcases List.mem_append.mp hm with hm|hm
    .rw[if_neg (λz:m=n=>nn (z▸hm))];exact hu m hm
    .obtain rfl:m=n:=by simpa using hm
     rw[if_pos rfl];exact hv2
   .rw[Ac,Cg hn]
    congr 3
    .refine cU λm hm=>?_
     show(_,V.int (u m))=(_,V.int (((if m=n then v else u m):Nat):Int))
     rw[if_neg (λz:m=n=>nn (z▸hm))]
    .show [((.inl n:Key),V.int (v:Int))]=[(_,V.int (((if n=n then v else u n):Nat):Int))]
     rw[if_pos rfl]
  rintro σ H7 ⟨⟨v10,rfl⟩,S7,u,hu,eF⟩
  rw[ae,aK] at hu eF
  have S07:=S05.trans S7
  have hW:=hW.up S7
  have enm:=S7 _ _ enm
  have hT:TsAt H7 D ds:=hT.kp λa o _=>S7 a o
  clear S6 e6 S7 S05 hF
  refine .inl ?_
  obtain⟨ds0,_,⟨_,ol⟩,_⟩:=hW.sws
  refine .inl ⟨⟨_,SqL.of ol⟩,a77 hW.sws hW.ok.2.1 λD1 H8 S8 hD1=>?_⟩
  intro p dx hp0 hdx nep
  refine an7 (S8 _ _ (S07 _ _ st.1)) hp0 hdx hD1 hW.ok (hW.rl.mono (Kp.same S8)) hW.rok hW.few hW.ne λHa S9 hP=>?_
  have SA:=S8.trans S9
  have S0a:=S07.trans SA
  have hW:=hW.up SA
  have enm:=SA _ _ enm
  have eF:=SA _ _ eF
  have hT:TsAt Ha D ds:=hT.kp λa o _=>SA a o
  clear S8 S9 SA S07 hD1 hp0 hdx ol
  have st:=Start.up st S0a
  have hd4:ds.length<=4:=by omega
  refine⟨a,ns,5,rfl,S0a.seqL hS,?_⟩
  refine⟨Bf ns 5,W,D,F,sw,ζ,l,kk,f,ds,u,rfl,hW,hT,by omega,hd4,eF,λn hn=>by rw[lv];exact hu n hn,λHb R rs Sb hR hr1 hr2 hr3 lr=>?_⟩
  have hB:∀n∈Ap sw ζ,n<(Al sw).length:=λn h=>(Ej h).1
  obtain⟨d0,hd0⟩:∃d0,d0∈ds:=⟨ds[0]'(by omega),dv _⟩
  obtain⟨fk,hfk⟩:∃fk:Nat->TK,∀n∈Ap sw ζ,∃e,ds[u n]?=some e/\fk n=vkT e.1:=⟨λn=>vkT (ds.getD (u n) d0).1,λn hn=>⟨_,aj (by rw[lv];exact hu n hn),by show vkT (ds.getD (u n) d0).1=_;rw[av,aj (by rw[lv];exact hu n hn)];rfl⟩⟩
  refine⟨p,R,sw,ζ,rs,Ap sw ζ,fk,rfl,Start.up st Sb,hP.mono (Kp.same Sb),hR.to λ_ _=>trivial,λr hr j b1 b2=>?_,λj hj=>⟨Iz hW.ok hj,(Ej hj).2,hr3 j hj⟩,⟨ds.map λe=>vkT e.1,by rw[ae];omega,λr hr=>?_⟩,λH1 bk gs O1 hb cn lg=>?_⟩
  .have hj:=X3 b2
   obtain⟨e,e1,e2⟩:=hr2 r hr j hj b1
   obtain⟨e',e3,e4⟩:=hfk j hj
   rw[e1] at e3
   cases e3
   exact⟨hj,by rw[e4,e2]⟩
  .obtain⟨e,h1,h2⟩:=hr1 r hr
   rw[h2]
   exact bE h1
  have Oa:Dd 294 Ha H1:=λa o n e=>O1 _ _ n (Sb _ _ e)
  have h294:∀{a o},Ha a=some o->(∀x,o≠.tbl x)->a≠294:=λe n z=>by rw[z,st.1] at e;cases e;exact n _ rfl
  have nbl:∀{H'},Dd 294 Ha H' -> ∀a o,(∀x,o≠.tbl x)->Ha a=some o->H' a=some o:=λO a o n e=>O _ _ (h294 e n) e
  have hS1:∀{H'},Dd 294 Ha H'->SqL K H' a (ns.map V.int):=λO=>by
   rcases S0a.seqL hS with h|h
   .rcases h with h|⟨o,h⟩
    .exact .inl (.inl (O _ _ (h294 h (λ_ z=>by cases z)) h))
    .exact .inl (.inr ⟨o,O _ _ (h294 h (λ_ z=>by cases z)) h⟩)
   .exact .inr h
  intro kn hkn
  refine .inl ?_
  have S2:=Same.upd (o:=.dK []) hkn
  have e2:upd H1 kn (.dK []) kn=some (.dK []):=Ac
  have eF2:upd H1 kn (.dK []) F=some (.dK ((Ap sw ζ).map (kW u))):=S2 _ _ (nbl Oa _ _ (λ_ z=>by cases z) eF)
  have hT2:TsAt (upd H1 kn (.dK [])) D ds:=hT.kp λa o n e=>S2 _ _ (nbl Oa _ _ n e)
  generalize upd H1 kn (.dK [])=H2 at S2 e2 eF2 hT2 ⊢
  have nkF:kn≠F:=λz=>by have:=nbl Oa _ _ (λ_ z=>by cases z) eF;rw[<- z,hkn] at this;cases this
  refine .inr (.inr (.inl (.inl ⟨_,eF2,λob=>?_⟩)))
  refine gf (a:=F) λHf ef of=>?_
  refine Az (Ee ((Ap sw ζ).map (kW u))) (λi σ H'=>(∃v10,σ=sL a ns W l kk f nm D F [v10,some (.ref p),some (.ref R),some (.ref bk),some (.ref kn),none,none,none,none,none])/\(∀a o,a≠kn->Hf a=some o->H' a=some o)/\∃kvs zs,H' kn=some (.dK kvs)/\kvs.map (·.1)=zs.map cK/\zs.Nodup/\kvs.length<=8*i/\∀z,z∈zs ↔ ∃n∈(Ap sw ζ).take i,∃e,ds[u n]?=some e/\z∈e.1.map (·.1))
   ⟨⟨_,rfl⟩,(λ_ _ _ e=>e),[],[],of _ _ nkF e2,rfl,.nil,ag _,λz=>⟨(λq=>by cases q),fun⟨_,h,_⟩=>by cases h⟩⟩ (λ_ _ H' _ q=>q.2.1 _ _ nkF.symm ef) ?_ ?_
  .rintro i x σ H3 hx ⟨⟨v10,rfl⟩,O3,kvs,zs,e3,ks,nd,lk,mem⟩
   rw[aC] at hx
   obtain⟨n,hi,rfl⟩:=Am hx
   have hm:=ak hi
   have il:=Aj hi
   obtain⟨e,he,_⟩:=hfk n hm
   obtain⟨hTe,oe,ue⟩:=hT2.2 e (ak he)
   have nF:e.2≠F:=bc6 hm hTe eF2
   have nk:kn≠e.2:=λz=>by
    obtain⟨es,_,⟨_,q⟩,_⟩:=(hT.2 e (ak he)).1
    have:=nbl Oa _ _ (λ_ z=>by cases z) q
    rw[<- z,hkn] at this
    cases this
   obtain⟨es,ee,⟨_,ed⟩,_⟩:=hTe
   have en:es.map (·.1.1)=e.1.map (·.1):=by rw[<- ee,aC];rfl
   have l8:es.length<=8:=by have:=oe.2.1;rw[<- ee,ae] at this;exact this
   have eDl:H3 D=some (.lst (ds.map λe=>.ref e.2)):=O3 _ _ (λz=>by have:=hT2.1;rw[z,e2] at this;cases this) (of _ _ (λz=>by have:=hT2.1;rw[z,eF2] at this;cases this) hT2.1)
   refine⟨.inr (.inr (.inl ⟨rfl,.inl ⟨_,e3⟩⟩)),?_⟩
   obtain⟨xi,sx,ai⟩:=sqx (K:=K) (H:=H3) (p:=F) (n:=n) (v:=.int (u n:Int)) (.inl ⟨_,.inl (n:Int),.inr ⟨ob,O3 _ _ nkF.symm ef⟩,rfl,(Lm ndf hm).symm⟩)
   refine⟨xi,_,sx,ai,?_⟩
   refine⟨_,_,.inl (SqL.of eDl),Bq (by rw[al,he];rfl),?_⟩
   refine⟨kn,e.2,kvs,es.map kT,rfl,rfl,nk,e3,.inl (O3 _ _ nk.symm (of _ _ nF ed)),by rw[ae];have:(4096:Nat)<sizeLine:=(by decide);omega,?_⟩
   obtain⟨zs',c1,c2,c3⟩:=Sv es ks nd
   refine⟨⟨_,rfl⟩,λa o n e=>by rw[Ad n];exact O3 _ _ n e,_,zs',Ac,c1,c2,?_,λz=>?_⟩
   .have:=Lv (es.map kT) kvs
    rw[ae] at this
    omega
   .rw[c3,mem,en,aY,hi]
    constructor
    .rintro (⟨m,h,q⟩|q)
     .exact⟨m,bn _ h,q⟩
     .exact⟨n,aE _ aP,e,he,q⟩
    .rintro⟨m,h,e',he',q⟩
     rcases List.mem_append.mp h with h|h
     .exact .inl ⟨m,h,e',he',q⟩
     .obtain rfl:m=n:=by simpa using h
      rw[he] at he'
      cases he'
      exact .inr q
  rintro σ H3 ⟨⟨v10,rfl⟩,O3,kvs,zs,e3,ks,nd,_,mem⟩
  rw[ae,ae,aK] at mem
  refine .inr ⟨F,ob,_,eF2,O3 _ _ nkF.symm ef,?_⟩
  have S14:Same H1 (upd H3 F (.dK ((Ap sw ζ).map (kW u)))):=λb o e=>by
   by_cases c:b=F
   .subst c
    rw[Ac,<- eF2,S2 _ _ e]
   .rw[Ad c]
    exact O3 _ _ (λz=>by rw[z,hkn] at e;cases e) (of _ _ c (S2 _ _ e))
  have e4:upd H3 F (.dK ((Ap sw ζ).map (kW u))) kn=some (.dK kvs):=by rw[Ad nkF];exact e3
  show Ae _ _ _ _ (upd H3 F (.dK ((Ap sw ζ).map (kW u))))
  generalize upd H3 F (.dK ((Ap sw ζ).map (kW u)))=H4 at S14 e4 ⊢
  clear O3 e3 of ef S2 e2 eF2 hT2 hkn Hf H2 H3 ob
  have lz:zs.length<=40:=by
   have:=Mc (x:=ds.flatMap λe=>e.1.map (·.1)) nd λz hz=>by
    obtain⟨n,_,e,he,q⟩:=(mem z).mp hz
    exact List.mem_flatMap.mpr ⟨e,ak he,q⟩
   have:=X2 λe he=>(hT.2 e he).2.1
   omega
  have mem2:∀z,z∈zs ↔ ∃g∈gs,P2 g.1 z:=λz=>by
   rw[mem]
   constructor
   .rintro⟨n,hn,e,he,q⟩
    obtain⟨g,hg,eg⟩:=cn.cov n hn
    obtain⟨e',he',fe⟩:=hfk n hn
    rw[he] at he'
    cases he'
    have oe:=(hT.2 e (ak he)).2.1
    exact⟨g,hg,by rw[eg,fe];exact(Ge oe z).mpr ((Dp oe z).mpr q)⟩
   .rintro⟨g,hg,q⟩
    obtain⟨n,hn,eg⟩:=cn.pos g hg
    obtain⟨e,he,fe⟩:=hfk n hn
    have oe:=(hT.2 e (ak he)).2.1
    rw[<- eg,fe] at q
    exact⟨n,hn,e,he,(Dp oe z).mp ((Ge oe z).mp q)⟩
  have O4:Dd 294 Ha H4:=λa o n e=>S14 _ _ (Oa _ _ n e)
  have pan:∀{H'},Dd 294 Ha H'->PanelAt t.c_zcc any H' p sw ζ:=λO=>hP.mono λa o q=>⟨trivial,O _ _ q.1 q.2⟩
  refine⟨bk,nm,kn,f,p,sw,ζ,gs,ws,kvs,zs,rfl,(hb.to λ_ _=>trivial).up S14,lg,pan O4,hW.ok,nbl O4 _ _ (λ_ z=>by cases z) enm,e4,ks,nd,lz,mem2,nbl O4 _ _ (λ_ z=>by cases z) hW.fr,λH5 S5=>?_⟩
  have O5:Dd 294 Ha H5:=λa o n e=>S5 _ _ (O4 _ _ n e)
  have S15:=S14.trans S5
  refine⟨bk,D,F,p,sw,gs,Ap sw ζ,fk,ds,u,rfl,(hb.to λ_ _=>trivial).up S15,PanelAt.pm (pan O5),cn,hB,hT.kp (nbl O5),nbl O5 _ _ (λ_ z=>by cases z) eF,ndf,hfk,λH6 S6=>?_⟩
  have O6:Dd 294 Ha H6:=λa o n e=>S6 _ _ (O5 _ _ n e)
  have hb6:BqAt t (fresh Hb) H6 bk p gs:=hb.up (S15.trans S6)
  have eRb:=hR.1.2
  have eR6:H6 R=some (.lst (rs.map λr=>.ref r.2.2)):=(S15.trans S6) _ _ (O1 _ _ (λz=>by have:=Sb _ _ st.1;rw[<- z,eRb] at this;cases this) eRb)
  have nl4:∀{a o},Hb a=some o->(∀x,o≠.tbl x)->H6 a=some o:=λe n=>(S15.trans S6) _ _ (O1 _ _ (λz=>by have:=Sb _ _ st.1;rw[<- z,e] at this;cases this;exact n _ rfl) e)
  have hr6:∀r∈rs,H6 r.2.2=some (.tup [.int (r.1.1:Int),.ref r.2.1])/\∃d,Emp t.c_zcd H6 r.2.1 d/\Ha d=none/\Hb d≠none:=λr hr=>by
   obtain⟨z1,⟨dx2,d2,⟨q2,o2⟩,es,ee,⟨q3,o3⟩,z3⟩,z4⟩:=hR.2 r hr
   obtain⟨e,he1,he2⟩:=hr1 r hr
   refine⟨nl4 z1 (λ_ z=>by cases z),d2,⟨dx2,r.1.2,nl4 o2 (λ_ z=>by cases z),⟨es,ee,⟨trivial,nl4 o3 (λ_ z=>by cases z)⟩,λx hx=>(z3 x hx).up λb ys q=>nl4 q (λ_ z=>by cases z)⟩,z4,by rw[he2];exact(hT.2 e he1).2.2⟩,q3,λz=>by rw[o3] at z;cases z⟩
  refine .inl ⟨⟨_,SqL.of eR6⟩,?_⟩
  clear mem mem2 lz ks nd e4 hr2 hr3 nl4 S6 S5 S15 S14 O4 O5
  refine Az (As (rs.map λr=>V.ref r.2.2)) (λi σ H'=>(∃v10 v15 v16 v17,σ=sL a ns W l kk f nm D F [v10,some (.ref p),some (.ref R),some (.ref bk),some (.ref kn),v15,v16,v17,none,none])/\Dd 294 Ha H'/\BqAt t (fresh Hb) H' bk p gs/\H' R=some (.lst (rs.map λr=>.ref r.2.2))/\∀r∈rs,H' r.2.2=some (.tup [.int (r.1.1:Int),.ref r.2.1])/\∃d,Emp t.c_zcd H' r.2.1 d/\Ha d=none/\Hb d≠none)
   ⟨⟨_,_,_,_,rfl⟩,O6,hb6,eR6,hr6⟩ (λ_ _ H' _ q=>SqL.of q.2.2.2.1) ?_ ?_
  .rintro i x σ H7 hx ⟨⟨v10,v15,v16,v17,rfl⟩,O7,hb7,eR7,hr7⟩
   obtain⟨r,hi,rfl⟩:=Am hx
   obtain⟨er,d,hE,fa,fb⟩:=hr7 r (ak hi)
   refine⟨_,.inl (SqT.of er),rfl,?_⟩
   refine Sh (i:=16) (j:=17) (q:=r.2.1) (d:=d) Z (λσ=>∃v17,σ=sL a ns W l kk f nm D F [v10,some (.ref p),some (.ref R),some (.ref bk),some (.ref kn),some (.int (r.1.1:Int)),some (.ref r.2.1),v17,none,none]) ⟨_,rfl⟩ (λσ ⟨_,e⟩ H Q E h=>by subst e;exact h) (λσ x ⟨_,e⟩=>by subst e;exact⟨⟨_,rfl⟩,λH Q E h=>h⟩) hE ?_
   rintro σ H8 ⟨v17,rfl⟩ O8 hE8
   obtain⟨ld,ed⟩:=hE.dk
   have ne:∀{a o},H7 a=some o->(∀l,o≠.dK l)->H8 a=some o:=λe n=>O8 _ _ (λz=>by rw[z,ed] at e;cases e;exact n _ rfl) e
   exact⟨⟨_,_,_,_,rfl⟩,λa o n e=>O8 _ _ (λz=>by rw[z,fa] at e;cases e) (O7 _ _ n e),hb7.but fb (.inl ⟨_,ed⟩) O8,ne eR7 (λ_ z=>by cases z),λr' hr'=>let⟨a,d',b,c⟩:=hr7 r' hr';⟨ne a (λ_ z=>by cases z),d',b.but ⟨_,ed⟩ O8 hE8,c⟩⟩
  rintro σ H7 ⟨⟨v10,v15,v16,v17,rfl⟩,O7,hb7,eR7,_⟩
  refine .inl ?_
  refine⟨.inl ⟨rfl,_,SqL.of eR7⟩,R,_,rfl,rfl,eR7,?_⟩
  have O8:Dd 294 Ha (upd H7 R (.lst [])):=λa o n e=>by rw[Ad λz=>by have:=hR.1.1;rw[<- z] at this;have this:Ha a=none:=this;rw[e] at this;cases this];exact O7 _ _ n e
  have hb8:BqAt t (fresh Hb) (upd H7 R (.lst [])) bk p gs:=hb7.but (λz=>by have z:Hb R=none:=z;rw[eRb] at z;cases z) (.inr ⟨_,eR7⟩) λa o n e=>by rw[Ad n];exact e
  show Ae _ _ _ _ (upd H7 R (.lst []))
  generalize upd H7 R (.lst [])=H8 at O8 hb8 ⊢
  have hb8:BqAt t any H8 bk p gs:=hb8.to λ_ _=>trivial
  clear hb7 hb6 hb O7 O6 eR7 eR6 hr6 eRb hR O1 Oa Sb hr1 lr S0a
  refine⟨bk,D,F,p,sw,gs,Ap sw ζ,fk,ds,u,rfl,hb8,PanelAt.pm (pan O8),cn,hB,hT.kp (nbl O8),nbl O8 _ _ (λ_ z=>by cases z) eF,ndf,hfk,λH9 S9=>?_⟩
  have O9:Dd 294 Ha H9:=λa o n e=>S9 _ _ (O8 _ _ n e)
  have new:∀{H' b2 dx2},Dd 294 Ha H'->H' b2=none->H' dx2=none->Dd 294 Ha (upd (upd H' dx2 (.own b2)) b2 (.ins t.c_zce dx2 []))/\PanelAt t.c_zcc (· ≠ b2) (upd (upd H' dx2 (.own b2)) b2 (.ins t.c_zce dx2 [])) p sw ζ/\∀H2,(∀a o,a≠b2->upd (upd H' dx2 (.own b2)) b2 (.ins t.c_zce dx2 []) a=some o->H2 a=some o)->Same H' H2:=λ{H' b2 dx2} O hb2 hdx2=>by
   have S:Same H' (upd (upd H' dx2 (.own b2)) b2 (.ins t.c_zce dx2 [])):=(Same.upd hdx2).set hb2
   exact⟨λa o n e=>S _ _ (O _ _ n e),hP.mono λa o q=>⟨λz=>(by have:=O _ _ q.1 q.2;rw[z,hb2] at this;cases this),S _ _ (O _ _ q.1 q.2)⟩,λH2 h a o e=>h _ _ (λz=>by rw[z,hb2] at e;cases e) (S _ _ e)⟩
  intro b2 dx2 hb2 hdx2 ne2
  obtain⟨_,hp2,s2⟩:=new O9 hb2 hdx2
  refine⟨b2,p,dx2,sw,ζ,rfl,Ac,hp2,λH10 Ob hB2=>⟨rfl,?_⟩⟩
  have S10:=s2 _ Ob
  obtain⟨dxb,lb,eb,_⟩:=id hB2
  refine⟨b2,dxb,_,⟨t.c_zce,X5 K t⟩,rfl,.tail _ (.head _),eb,rfl,cf7,⟨b2,p,_,rfl,hB2,by show 1<=5;decide,λH11 D11 zs11 S11 _ e11 _ mem11 _=>?_⟩⟩
  obtain rfl:zs11=[]:=by
   cases zs11 with
   |nil=>rfl
   |cons z zs=>
    obtain⟨g,hg,q⟩:=(mem11 z).mp aP
    obtain rfl:=List.mem_singleton.mp hg
    exact absurd q bi7
  refine⟨My,λq12 hq12=>?_⟩
  have S12:=Same.upd (o:=.lst []) hq12
  refine .inl ⟨D11,q12,[],[],rfl,rfl,SqL.of (S12 _ _ e11),SqL.of Ac,rfl,rfl,?_⟩
  have S912:=(S10.trans S11).trans S12
  have O12:Dd 294 Ha (upd H11 q12 (.lst [])):=λa o n e=>S912 _ _ (O9 _ _ n e)
  clear hq12
  generalize upd H11 q12 (.lst [])=H12 at S12 S912 O12 ⊢
  intro b3 dx3 hb3 hdx3 ne3
  obtain⟨_,hp3,s3⟩:=new O12 hb3 hdx3
  refine⟨b3,p,dx3,sw,ζ,rfl,Ac,hp3,λH13 Ob3 hB3=>⟨rfl,?_⟩⟩
  have S13:=s3 _ Ob3
  have O13:Dd 294 Ha H13:=λa o n e=>S13 _ _ (O12 _ _ n e)
  obtain⟨dxb3,lb3,eb3,_⟩:=id hB3
  have efr:∀{H'},Dd 294 Ha H'->H' f=some (nO (Ap sw ζ)):=λO=>nbl O _ _ (λ_ z=>by cases z) hW.fr
  obtain⟨n0,fr0,ef0⟩:∃n0 fr0,Ap sw ζ=n0::fr0:=by
   cases e:Ap sw ζ with
   |nil=>exact absurd e hW.ne
   |cons n r=>exact⟨n,r,rfl⟩
  have at0:atI ((Ap sw ζ).map λn:Nat=>V.int (n:Int)) 0=some (.int (n0:Int)):=Bq (j:=0) (by rw[ef0];rfl)
  have hn0:n0∈Ap sw ζ:=by rw[ef0];exact aP
  have eN0:Gy (Ap sw ζ) (.int (n0:Int))=some n0:=if_pos ⟨gW n0,hn0⟩
  refine⟨b3,dxb3,_,⟨t.c_zce,Sr K t⟩,rfl,.head _,eb3,rfl,cf7,_,_,.inl (SqL.of (efr O13)),at0,⟨b3,_,p,sw,_,Ap sw ζ,λ_=>vkT [],rfl,hB3,PanelAt.pm (pan O13),bf5 hW.ne,hB,trivial,λm em H14 q14 T14 S14 hq14 oT14 eT14=>?_,λen=>(by have:=eN0.symm.trans en;cases this)⟩⟩
  intro d15 hd15
  refine .inl ?_
  have S15:=Same.upd (o:=.dK []) hd15
  refine⟨q14,d15,T14,[],rfl,(hq14.ne hd15).up S15,oT14,⟨[],rfl,⟨trivial,Ac⟩,λe h=>by cases h⟩,Ti,eT14,λH16 S16=>?_⟩
  have S916:=((S912.trans S13).trans S14).trans (S15.trans S16)
  have O16:Dd 294 Ha H16:=λa o n e=>S916 _ _ (O9 _ _ n e)
  have hb16:=hb8.up (S9.trans S916)
  refine⟨l,sw,rfl,SwIn.kp hW.sws (nbl O16),hW.ok,?_⟩
  have l256:=hW.ok.len
  refine⟨⟨by omega,by omega⟩,λD19 h19=>?_⟩
  refine De (Bt 0 (((Al sw).length:Nat):Int).toNat) (λi σ H'=>(∃v0,σ=[v0,some (.ref F)])/\Same H16 H'/\∃xs,H' D19=some (.lst xs)/\xs.length<=i/\∀x∈xs,flV x/\Gy (Ap sw ζ) x=none) ⟨⟨_,rfl⟩,Same.upd h19,[],Ac,ag _,λx h=>by cases h⟩ (λ_ _ _ _ _=>aM) ?_ ?_
  .rintro i x σ H17 hx ⟨⟨v0,rfl⟩,S17,xs,ex,lx,hxs⟩
   obtain⟨hi,rfl⟩:=Cv hx
   rw[aQ] at hi
   refine .inr ⟨_,.inl ⟨_,.inl (i:Int),.inl (S17 _ _ (nbl O16 _ _ (λ_ z=>by cases z) eF)),rfl,rfl⟩,?_⟩
   by_cases c:i∈Ap sw ζ
   .rw[Lm ndf c]
    exact⟨⟨_,rfl⟩,S17,xs,ex,by omega,hxs⟩
   .rw[ak7 c]
    refine⟨_,ex,by omega,⟨_,rfl⟩,S17.set h19,_,Ac,by rw[aB];show _+1<=_;omega,λx hx=>?_⟩
    rcases List.mem_append.mp hx with hx|hx
    .exact hxs x hx
    .obtain rfl:=List.mem_singleton.mp hx
     exact⟨trivial,if_neg λq=>c q.2⟩
  rintro σ H17 ⟨_,S17,xs,ex,lx,hxs⟩
  rw[Ay,aQ] at lx
  have O17:Dd 294 Ha H17:=λa o n e=>S17 _ _ (O16 _ _ n e)
  refine⟨a,ns,6,rfl,hS1 O17,⟨by decide,by decide,by decide⟩,by decide,?_⟩
  have ln0:((n0:Int)).natAbs.log2<1920:=by
   rw[Int.natAbs_natCast]
   have:=Iz hW.ok hn0
   by_cases z:n0=0
   .rw[z];decide
   .exact (Nat.log2_lt z).mpr (aL this (iM (n:=2) (i:=8) (by decide) (by decide)))
  refine⟨_,_,.inl (SqL.of (efr O17)),at0,ln0,(show 6<=sizeLine by decide),λL hL=>?_⟩
  obtain⟨six,hsix⟩:∃six,six=[V.int ((Al sw).length:Nat),V.int (((Al sw).length:Nat)+Bf ns 6%10^Int.toNat 9),V.int (-1),V.bl true,V.non,V.str (toString (n0:Int))]:=⟨_,rfl⟩
  have h6:∀x∈six,flV x/\Gy (Ap sw ζ) x=none:=λx hx=>by
   have big:∀{i:Int},((Al sw).length:Nat)<=i->Gy (Ap sw ζ) (.int i)=none:=λ{i} h=>if_neg λq=>by have:=hB _ q.2;omega
   rw[hsix] at hx
   simp only[az,cP,or_false] at hx
   rcases hx with rfl|rfl|rfl|rfl|rfl|rfl
   .exact⟨trivial,big (Int.le_refl _)⟩
   .exact⟨trivial,big (by have:=cr (Bf ns 6) (show(10:Int)^Int.toNat 9≠0 by decide);omega)⟩
   .exact⟨trivial,by unfold Gy;exact if_neg λq=>absurd q.1 (by decide)⟩
   .exact⟨trivial,rfl⟩
   .exact⟨trivial,rfl⟩
   .exact⟨trivial,rfl⟩
  have l6:six.length=6:=by rw[hsix];rfl
  have SL:=Same.upd (o:=.lst six) hL
  have eL:upd H17 L (.lst six) L=some (.lst six):=Ac
  rw[<- hsix]
  generalize upd H17 L (.lst six)=H18 at SL eL ⊢
  refine .inl ⟨D19,L,xs,six,rfl,rfl,SL _ _ ex,eL,by omega,λM hM=>.inl ⟨⟨_,SqL.of Ac⟩,?_⟩⟩
  show ag6 (Itl K M) _ _ _ _ (upd H18 M (.lst (xs++six)))
  refine gn hM λH19 SM eM=>?_
  have S19:=S17.trans (SL.trans SM)
  have O19:Dd 294 Ha H19:=λa o n e=>S19 _ _ (O16 _ _ n e)
  refine Az (As (xs++six)) (λi σ H'=>(∃v10 v15 v16 v17 v18 v19,σ=sL a ns W l kk f nm D F [v10,some (.ref p),some (.ref R),some (.ref bk),some (.ref kn),v15,v16,v17,v18,v19])/\Same H19 H') ⟨⟨_,_,_,_,_,_,rfl⟩,Same.refl _⟩ (λ_ _ H' _ q=>q.2.seqL (SqL.of eM)) ?_ ?_
  .rintro i x σ H20 hx ⟨⟨v10,v15,v16,v17,v18,v19,rfl⟩,S20⟩
   have hx:=ak hx
   obtain⟨fx,nx⟩:flV x/\Gy (Ap sw ζ) x=none:=(List.mem_append.mp hx).elim (hxs x) (h6 x)
   exact⟨bk,x,p,sw,gs,Ap sw ζ,fk,rfl,hb16.up (S19.trans S20),PmAt.up (PanelAt.pm (pan O19)) S20,cn,hB,fx,nx,λH21 S21=>⟨⟨_,_,_,_,_,_,rfl⟩,S20.trans S21⟩⟩
  .rintro σ H20 ⟨⟨v10,v15,v16,v17,v18,v19,rfl⟩,_⟩
   exact .inl (k _)
end
end K31
namespace K31
open PySem L2
def bt4:List Df:=[ag3,af5,bd9,D_zbf,ae5,af4,ag0,ae0,ae3,ag1,bd5,be0,ae4,bd7,bd4,bd3,ag5,bd6,af6,af2,ag2,af1,bd8,af0,ae2,ae1,af3,af8,be1,af9,ae7,ad9,ag4,ad8,ad7,ae6,ae8,af7,ae9,D_zbr]
def al9:List Df:=[ax4,ay1,ay3,Xc,Xf,Xg,ay5,ax5,ax7,ay2,ay6,ax8,Xd,Y2]
def am0:List Df:=[W7,W8,ay4,ax9,W9]
def al8:List Df:=[ax2,ay0,Xe,Xa,ax6,ax3,Xb]
structure a93 (K:ac) (mg:Str->Option Value) (t:Adr):Prop where
 g:AllG K mg t.f t.d 0 bt4
 o_zcd:Rr K "Plain" t.c_zcd t.f_zak
 m_zcd:AllM K t.c_zcd t.m_zcd t.e_zcd 0 al9
 o_zce:Rr K "Book" t.c_zce t.f_zap
 m_zce:AllM K t.c_zce t.m_zce t.e_zce 0 am0
 o_zcc:Rr K "Panel" t.c_zcc t.f_zag
 m_zcc:AllM K t.c_zcc t.m_zcc t.e_zcc 0 al8
 i_zn:J4 K D_zn t.f_zn t.d_zn [.non] [.none]
 i_zak:J4 K D_zak t.f_zak t.d_zak [] []
 i_zap:J4 K D_zap t.f_zap t.d_zap [] []
 i_zag:J4 K D_zag t.f_zag t.d_zag [.non] [.none]
 a_zby:bK K mainGlobals "LeafError"=some (some (.ref t.c_zby))
 kp_zby:be K (.ref t.c_zby)=true
 ec_zby:ECls K t.c_zby
 in_zby:aU K (.ref t.c_zby) "__init__"=some (some (.builtin "ValueError.__init__"))
 a_zbz:bK K mainGlobals "NoChoice"=some (some (.ref t.c_zbz))
 kp_zbz:be K (.ref t.c_zbz)=true
 ec_zbz:ECls K t.c_zbz
 in_zbz:aU K (.ref t.c_zbz) "__init__"=some (some (.builtin "ValueError.__init__"))
 a_zca:bK K mainGlobals "BadCond"=some (some (.ref t.c_zca))
 a_zbx:bK K mainGlobals "EditError"=some (some (.ref t.c_zbx))
 x_zcb:be2 K "NoPart" t.c_zcb t.f_zn (.ref t.c_zbx::.ref t.c_zby::valTail)
 c:AllC mg t.u 0 cons
 z:∀x∈bl,mg x=none
 Z:An K t
def bi0{P:aO}{w:bw}{K:ac}{mg:Str->Option Value}{h base:Heap}{t:Adr}(X:K.In h)(G:h.Ns mainGlobals mg)(A:a93 K mg t):FnOk P w K mg base CX0 14 (t.f 39) (t.d 39) D_zbr.ps (Q4 K t):=by
  have Z:=A.Z
  have g:∀(j:Nat) {D:Df},bt4[j]?=some D->DOk K mg D.q D.st (t.f (0+j)) (t.d (0+j)) D.ps:=λj _ e=>(A.g.get j e).1
  have O:ad1 P w K mg base (Av K t) bl t.f t.d 0 (fns K t):=⟨(bm8 Z).g (g 0 rfl),(bm0 Z).g (g 1 rfl),(b07 Z).g (g 2 rfl),(bl9 Z).g (g 3 rfl),(bk9 Z).g (g 4 rfl),(bl8 Z).g (g 5 rfl),(bm5 Z).g (g 6 rfl),(bk0 Z).g (g 7 rfl),(bk7 Z).g (g 8 rfl),(bm6 Z).g (g 9 rfl),(bz4 Z).g (g 10 rfl),(b11 Z).g (g 11 rfl),(bk8 Z).g (g 12 rfl),(b04 Z).g (g 13 rfl),(by9 Z).g (g 14 rfl),(by8 Z).g (g 15 rfl),(bn0 Z).g (g 16 rfl),(bz5 Z).g (g 17 rfl),(bm1 Z).g (g 18 rfl),(bl6 Z).g (g 19 rfl),(bm7 Z).g (g 20 rfl),(bl5 Z).g (g 21 rfl),(b06 Z).g (g 22 rfl),(bl4 Z).g (g 23 rfl),(bk2 Z).g (g 24 rfl),(bk1 Z).g (g 25 rfl),(bl7 Z).g (g 26 rfl),(bm3 Z).g (g 27 rfl),(b13 Z).g (g 28 rfl),(bm4 Z).g (g 29 rfl),(bl1 Z).g (g 30 rfl),(bj1 Z).g (g 31 rfl),(bm9 Z).g (g 32 rfl),(bj0 Z).g (g 33 rfl),(bi9 Z).g (g 34 rfl),(bl0 Z).g (g 35 rfl),(bl2 Z).g (g 36 rfl),(bm2 Z).g (g 37 rfl),(bl3 Z).g (g 38 rfl),aM⟩
  have E:AllE P w K mg base (Av K t) bl (Av K t):=AllE.app ⟨(Uu X G A.o_zcd A.i_zak (bj8 Z)),(Uu X G A.o_zce A.i_zap (bk3 Z)),(Uu X G A.o_zcc A.i_zag (bj4 Z)),(λ_=>⟨d9 X G A.a_zby,A.kp_zby,A.ec_zby,A.in_zby⟩),(λ_=>⟨d9 X G A.a_zbz,A.kp_zbz,A.ec_zbz,A.in_zbz⟩),(λ_=>aw2 X G A.a_zca),(λ_=>aw2 X G A.a_zbx),(bg4 X G A.x_zcb Z.ec A.i_zn (b00 Z)),(λT mi hm=>by
    simp only[Cl,az,cP,or_false] at hm
    rcases hm with rfl|rfl
    . exact P9 A.o_zcd.cl (A.m_zcd.get 6 rfl) (bb3 Z).m (aF rfl) T
    . exact P9 A.o_zce.cl (A.m_zce.get 0 rfl) (an2 Z).m (aF rfl) T
   ),(λT mi hm=>by
    rcases List.mem_singleton.mp hm with rfl
    exact⟨P9 A.o_zcd.cl (A.m_zcd.get 13 rfl) (bb2 Z).m (aF rfl) T,Z.ks_place_key,Z.kt_place_key,by decide +kernel,aF rfl⟩
   ),aM⟩ (AllE.app (Rs A.c) (AllE.app (G8 A.o_zcd.cl A.m_zcd ⟨(bz2 Z).m,(b02 Z).m,(b05 Z).m,(bj7 Z).m,(bk5 Z).m,(bk6 Z).m,(bb3 Z).m,(bz3 Z).m,(bz7 Z).m,(b03 Z).m,(b09 Z).m,(bz8 Z).m,(bj9 Z).m,(bb2 Z).m,aM⟩) (AllE.app (G8 A.o_zce.cl A.m_zce ⟨(an2 Z).m,(bj2 Z).m,(b08 Z).m,(bz9 Z).m,(bj3 Z).m,aM⟩) (AllE.app (G8 A.o_zcc.cl A.m_zcc ⟨(bz0 Z).m,(b01 Z).m,(bk4 Z).m,(bj5 Z).m,(bz6 Z).m,(bz1 Z).m,(bj6 Z).m,aM⟩) (Xl (AllG.pre (b:=[D_zbr]) A.g) O)))))
  exact bn1 Z _ _ _ _ _ (g 39 rfl).F λm _=>a88 A.z E m
def ca4{K:ac}{C:Addr}(h:cN K C (.type "ValueError")=some true):cD K (.ref C) (.type "ValueError")=some true:=by
 unfold cD PySem.W.kitCls
 rw[if_neg (λz=>by have:=b9 z;cases this)]
 show(if PySem.W.kitMeta "ValueError"=true then PySem.W.subIn K (.ref C) (.type "ValueError") else none)=_
 rw[if_pos (by decide +kernel)]
 exact h
def all_mk{l:kH}{w:bw}{K:ac}{h:Heap}{mg:Str->Option Value}{fa c_zcd c_zce c_zcc c_zby c_zbz c_zca c_zbx c_zcb f_zn f_zak f_zap f_zag f_io f_pk:Addr}(X:K.In h)(G:h.Ns mainGlobals mg)(hfa:mg "law"=some (.ref fa))(o_zcd:Rr K "Plain" c_zcd f_zak)(o_zce:Rr K "Book" c_zce f_zap)(o_zcc:Rr K "Panel" c_zcc f_zag)(a_zby:bK K mainGlobals "LeafError"=some (some (.ref c_zby)))(kp_zby:be K (.ref c_zby)=true)(in_zby:aU K (.ref c_zby) "__init__"=some (some (.builtin "ValueError.__init__")))(y_zby:XC K c_zby (valTail))(a_zbz:bK K mainGlobals "NoChoice"=some (some (.ref c_zbz)))(kp_zbz:be K (.ref c_zbz)=true)(in_zbz:aU K (.ref c_zbz) "__init__"=some (some (.builtin "ValueError.__init__")))(y_zbz:XC K c_zbz (.ref c_zby::valTail))(a_zca:bK K mainGlobals "BadCond"=some (some (.ref c_zca)))(y_zca:XC K c_zca (.ref c_zby::valTail))(a_zbx:bK K mainGlobals "EditError"=some (some (.ref c_zbx)))(y_zbx:XC K c_zbx (.ref c_zby::valTail))(x_zcb:be2 K "NoPart" c_zcb f_zn (.ref c_zbx::.ref c_zby::valTail))(i_zn:∃d,J4 K D_zn f_zn d [.non] [.none])(i_zak:∃d,J4 K D_zak f_zak d [] [])(i_zap:∃d,J4 K D_zap f_zap d [] [])(i_zag:∃d,J4 K D_zag f_zag d [.non] [.none])(nP:AllN K c_zcc ["settings","tuples","numbers","sets","kept_rules","bars","free"])(nL:AllN K c_zcd ["records"])(nB:AllN K c_zce ["panel","kept"])(nN:AllN K c_zcb ["part","choice"])(a_io:bK K mainGlobals "in_order"=some (some (.ref f_io)))(mp:cN K c_zcb (.ref c_zcb)=some true)(mc:cN K c_zbz (.ref c_zby)=some true)(k5:cN K c_zbz (.type "ValueError")=some true)(p1:aU K (.ref c_zcd) "__class__"=some (some (.builtin "object.__class__")))(p4:cN K c_zcd (.type "object")=some true)(a_pk:aU K (.ref c_zcd) "place_key"=some (some (.ref f_pk)))(s_pk:cI K (.ref f_pk) "__get__"=some (some (.builtin "function.__get__")))(t_pk:dO K (.ref f_pk)=some false)(kz:(ba c_zbz::.ref c_zby::valTail).contains (.ref c_zca)=false)(lm_io:Lq K f_io=true)(qT:bd1 K bt4)(qM_zcd:Rp K c_zcd al9)(qM_zce:Rp K c_zce am0)(qM_zcc:Rp K c_zcc al8)(qC:ad3 K cons)(qZ:bd2 K bl)
  : ∃(t:Adr)(fd:bb),(∀(s:am)(v:Value),mj s fd ⟨[v],[]⟩ [("_law_script", v)])/\∀base:Heap,K.In base->base.Ns mainGlobals mg->FnOk l.prog w K mg base CX0 14 fa fd ["_law_script"] (Q4 K t):=by
 obtain⟨_,_,d₀,_⟩:=qT.1
 obtain⟨f,d,g⟩:=Xm d₀ X G 0 qT (by(repeat' first|exact aM|refine⟨⟨rfl,λ_ _ _ _ _ _ us hl=>?_⟩,?_⟩|fail) <;> first|exact aM|exact len1 (λ_=>rfl) us hl|exact len2 (λ_ _=>rfl) us hl|exact len3 (λ_ _ _=>rfl) us hl|exact a12 (λ_ _ _ _=>rfl) us hl|exact len5 (λ_ _ _ _ _=>rfl) us hl|exact a13 (λ_ _ _ _ _ _=>rfl) us hl)
 obtain⟨m_zcd,e_zcd,g_zcd⟩:=Kh d₀ 0 qM_zcd (by(repeat' first|exact aM|refine⟨λ_ _ _ _ _ _ us hl=>?_,?_⟩|fail) <;> first|exact aM|exact len1 (λ_=>rfl) us hl|exact len2 (λ_ _=>rfl) us hl|exact len3 (λ_ _ _=>rfl) us hl|exact a12 (λ_ _ _ _=>rfl) us hl|exact len5 (λ_ _ _ _ _=>rfl) us hl|exact a13 (λ_ _ _ _ _ _=>rfl) us hl)
 obtain⟨m_zce,e_zce,g_zce⟩:=Kh d₀ 0 qM_zce (by(repeat' first|exact aM|refine⟨λ_ _ _ _ _ _ us hl=>?_,?_⟩|fail) <;> first|exact aM|exact len1 (λ_=>rfl) us hl|exact len2 (λ_ _=>rfl) us hl|exact len3 (λ_ _ _=>rfl) us hl|exact a12 (λ_ _ _ _=>rfl) us hl|exact len5 (λ_ _ _ _ _=>rfl) us hl|exact a13 (λ_ _ _ _ _ _=>rfl) us hl)
 obtain⟨m_zcc,e_zcc,g_zcc⟩:=Kh d₀ 0 qM_zcc (by(repeat' first|exact aM|refine⟨λ_ _ _ _ _ _ us hl=>?_,?_⟩|fail) <;> first|exact aM|exact len1 (λ_=>rfl) us hl|exact len2 (λ_ _=>rfl) us hl|exact len3 (λ_ _ _=>rfl) us hl|exact a12 (λ_ _ _ _=>rfl) us hl|exact len5 (λ_ _ _ _ _=>rfl) us hl|exact a13 (λ_ _ _ _ _ _=>rfl) us hl)
 obtain⟨u,gc⟩:=Xk X G 0 qC
 obtain⟨d_zn,i_zn⟩:=i_zn
 obtain⟨d_zak,i_zak⟩:=i_zak
 obtain⟨d_zap,i_zap⟩:=i_zap
 obtain⟨d_zag,i_zag⟩:=i_zag
 have tl_1:∀{a:Addr},Bc (.ref a::valTail)=true:=λ{a}=>by show Bc valTail=true;decide +kernel
 have tl_2:∀{a b:Addr},Bc (.ref a::.ref b::valTail)=true:=λ{a b}=>by show Bc valTail=true;decide +kernel
 have AO:a93 K mg ⟨f,d,u,f_zn,d_zn,f_zak,d_zak,f_zap,d_zap,f_zag,d_zag,c_zcd,m_zcd,e_zcd,c_zce,m_zce,e_zce,c_zcc,m_zcc,e_zcc,c_zby,c_zbz,c_zca,c_zbx,c_zcb⟩:=⟨g,o_zcd,g_zcd,o_zce,g_zce,o_zcc,g_zcc,i_zn,i_zak,i_zap,i_zag,a_zby,kp_zby,y_zby.ecls (by decide +kernel),in_zby,a_zbz,kp_zbz,y_zbz.ecls tl_1,in_zbz,a_zca,a_zbx,x_zcb,gc,Xn X G qZ,⟨⟨o_zcc.cl,nP.all⟩,o_zcd.cl,nL.1,o_zce.cl,nB.1,nB.2.1,x_zcb.x.ecls tl_2,nN.1,nN.2.1,y_zbz.ecls tl_1,mp,mc,y_zbz.kit y_zbz (by rw[b5,beq_self_eq_true,Bool.true_or]),ca4 k5,y_zbz.kit y_zca kz,if_pos (beq_self_eq_true _),p1,y_zbz.hn,y_zbz.htk,p4,(by
  have m:some (some (ba (m_zcd (0+13))))=some (some (.ref f_pk)):=(g_zcd.get 13 (D:=Y2) rfl).2.at_.symm.trans a_pk
  injection m with m
  injection m with m
  show cI K (.ref (m_zcd (0+13))) "__get__"=_
  rw[m]
  exact s_pk),(by
  have m:some (some (ba (m_zcd (0+13))))=some (some (.ref f_pk)):=(g_zcd.get 13 (D:=Y2) rfl).2.at_.symm.trans a_pk
  injection m with m
  injection m with m
  show dO K (.ref (m_zcd (0+13)))=_
  rw[m]
  exact t_pk),(by
  have m:=(g.get 3 (D:=D_zbf) rfl).1.m
  have m2:=d9 X G a_io
  have m3:some (ba (f (0+3)))=some (.ref f_io):=m.symm.trans m2
  injection m3 with m3
  injection m3 with m3
  show Lq K (f (0+3))=true
  rw[m3]
  exact lm_io)⟩⟩
 have gl:=g.get 39 (D:=D_zbr) rfl
 have e:fa=f (0+39):=by
  have m:=gl.1.m
  rw[hfa] at m
  injection m with m
  injection m
 subst e
 exact⟨_,_,λs v=>gl.2 s [v] rfl,λbase _ _=>bi0 X G AO⟩
def by2{K:ac}{f:Addr}(h:Lq K f=true):∃c,dW K c 294=true:=by
 unfold Lq at h
 split at h
 .split at h
  .exact⟨_,h⟩
  .cases h
 .cases h
def sp0(K:ac):Sp:=λvs H Q _=>∃(a:Addr)(ns:List Int),vs=[.ref a]/\SqL K H a (ns.map V.int)/\ns.length<=63/\St0 H/\∀H',Q (.bl true) H'
def walk{l:kH}{q:aO}{loose:List Str}{XP:(Str->Option Value)->Heap->Prop}{YP:bw->Heap->Prop}{d:DefRec}{K:Params->ac}{fo:Addr}(hn:l.most=some 63)(hdf:d.params.defaults=[])(hY:∀(w:bw)(h:Heap),YP w h->(K w.params).In h/\h.get? 294=some (jk #[]))(h1:∀w:bw,bK (K w.params) mainGlobals "in_order"=some (some (.ref fo)))(h2:∀w:bw,bK (K w.params) mainGlobals "__builtins__"=some (some (.ref 4)))(h3:∀w:bw,Lq (K w.params) fo=true)(h4:∀w:bw,(K w.params).lookup 294=none)(h5:∀w:bw,(K w.params).lookup 4=none)(h6:∀w:bw,((K w.params).all λp=>!(p.2.cls==jF "list"))=true)(F:∀(w:bw)(mg:Str->Option Value)(fa:Addr)(h:Heap),(K w.params).In h->h.Ns mainGlobals mg->mg d.name=some (.ref fa) ->
   ∃(t:Adr)(fd:bb),(∀(s:am)(u:Value),mj s fd ⟨[u],[]⟩ [("_law_script", u)])/\∀base:Heap,(K w.params).In base->base.Ns mainGlobals mg->FnOk l.prog w (K w.params) mg base CX0 14 fa fd ["_law_script"] (Q4 (K w.params) t)) :
  PySem.W.WalkO q loose XP YP l.row.toRowW d [] (λf vs=>PySem.call f vs):=
 L2.walk_ofT (n:=63) (k:=14) (x := "_law_script") (Pt:=294) (bm:=4) (sp:=λw=>sp0 (K w.params)) (λ_ _=>aM) hn (by decide) hdf ⟨rfl,by decide,by decide⟩ hY (λw=>⟨by2 (h3 w),h4 w,h5 w,h2 w,h6 w⟩) (λw mg fa h a b c=>let⟨t,fd,h1,h2⟩:=F w mg fa h a b c;⟨fd,h1,λbase x y=>(h2 base x y).imp λvs H Q E z=>z⟩) λw H a ns hl hs hS=>⟨a,ns,rfl,hS,hl,hs,λ_=>rfl⟩
end K31
open PySem PySem.W PyProof.Rows
end
set_option maxRecDepth 100000 in
theorem PySem.Challenge.cw_manyleaf_k31_gathered_and_picked_holds : PySem.Challenge.rw_manyleaf_k31_gathered_and_picked.Holds := by
 refine head_k31 ?_
 k_fill
 refine' K31.walk (l:=PySem.Challenge.rw_manyleaf_k31_gathered_and_picked) rfl rfl (λw h Y=>⟨PySem.W.km_in_of Y,PySem.W.km_tabs_of Y 294 (by decide)⟩) ?h1 ?h2 ?h3 ?h4 ?h5 ?h6 ?F
 case h1|h2=>intro w;k_is
 case h3|h4|h5|h6=>intro w;kernel_rfl
 case F=>
  intro w mg fa h KX G hmg
  refine' K31.all_mk KX G hmg ?o_zcd ?o_zce ?o_zcc ?a_zby ?kp_zby ?in_zby ?y_zby ?a_zbz ?kp_zbz ?in_zbz ?y_zbz ?a_zca ?y_zca ?a_zbx ?y_zbx ?x_zcb ?i_zn ?i_zak ?i_zap ?i_zag ?nP ?nL ?nB ?nN ?a_io ?mp ?mc ?k5 ?p1 ?p4 ?a_pk ?s_pk ?t_pk ?kz ?lm_io ?qT ?qM_zcd ?qM_zce ?qM_zcc ?qC ?qZ
  case o_zcd|o_zce|o_zcc=>refine' L2.own_mk ?_ ?_ ?_ ?_ ?_ ?_ ?_ ?_ <;> try k_is
  case a_zby|kp_zby|in_zby=>k_is
  case y_zby=>refine' L2.xc_mk ?_ ?_ ?_ ?_ ?_ ?_ ?_ ?_ <;> try k_is
  case a_zbz|kp_zbz|in_zbz=>k_is
  case y_zbz=>refine' L2.xc_mk ?_ ?_ ?_ ?_ ?_ ?_ ?_ ?_ <;> try k_is
  case a_zca=>k_is
  case y_zca=>refine' L2.xc_mk ?_ ?_ ?_ ?_ ?_ ?_ ?_ ?_ <;> try k_is
  case a_zbx=>k_is
  case y_zbx=>refine' L2.xc_mk ?_ ?_ ?_ ?_ ?_ ?_ ?_ ?_ <;> try k_is
  case x_zcb=>refine' ⟨?_,?_,?_,L2.xc_mk ?_ ?_ ?_ ?_ ?_ ?_ ?_ ?_⟩ <;> try k_is
  case i_zn=>refine' L2.ini1 (λ_ _ _ _ _ _ _ us hl=>L2.len3 (λ_ _ _=>⟨_,rfl,rfl⟩) us hl) (λ_ _ _ _ _ _ _ us hl=>L2.len2 (λ_ _=>⟨_,rfl,rfl⟩) us (Nat.succ.inj hl)) (by decide) ?_ ?_ ?_ ?_ ?_ <;> try k_is
  case i_zak=>refine' L2.ini0 (λ_ _ _ _ _ _ us hl=>L2.len1 (λ_=>rfl) us hl) ?_ ?_ ?_ ?_ <;> try k_is
  case i_zap=>refine' L2.ini0 (λ_ _ _ _ _ _ us hl=>L2.len2 (λ_ _=>rfl) us hl) ?_ ?_ ?_ ?_ <;> try k_is
  case i_zag=>refine' L2.ini1 (λ_ _ _ _ _ _ _ us hl=>L2.len3 (λ_ _ _=>⟨_,rfl,rfl⟩) us hl) (λ_ _ _ _ _ _ _ us hl=>L2.len2 (λ_ _=>⟨_,rfl,rfl⟩) us (Nat.succ.inj hl)) (by decide) ?_ ?_ ?_ ?_ ?_ <;> try k_is
  case nP|nL|nB|nN=>(repeat' first|exact True.intro|refine' ⟨?_,?_⟩|fail) <;> try k_is
  case a_io|mp|mc|k5|p1|p4|a_pk|s_pk|t_pk=>k_is
  case kz=>decide +kernel
  case lm_io=>kernel_rfl
  case qT=>(repeat' first|exact True.intro|refine' ⟨⟨_,L2.top_mk ?_ ?_ ?_ ?_⟩,?_⟩|fail) <;> try k_is
  case qM_zcd|qM_zce|qM_zcc=>(repeat' first|exact True.intro|refine' ⟨⟨_,?_,L2.met_mk ?_ ?_ ?_ ?_⟩,?_⟩|fail) <;> try k_is
  case qC=>(repeat' first|exact True.intro|refine' ⟨L2.con_mk ?_ ?_,?_⟩|fail) <;> first|k_is|exact⟨_,rfl⟩|exact rfl|skip
  case qZ=>(repeat' first|exact True.intro|refine' ⟨?_,?_⟩|fail) <;> try k_is
#print axioms PySem.Challenge.cw_manyleaf_k31_gathered_and_picked_holds
