import PyProof.Rows.All
import Wide.All
import OpenK.AllK
import Wide.FinOn
import PyProof.ToksMono
import Lean
import PyProof.EqAt
import PyProof.EqKinds
import PyProof.TupleCall
import PyProof.NeKinds
import PyProof.ZipIter
import PyProof.StrWalks
import PyProof.ConsumeWalk
import PyProof.ExcArgs
import PyProof.ExcBaseAll.ValueError
import KE.KIsAll
import PyProof.EnumFor
import PyProof.EnumMake
import PyProof.EnumStmt
import PyProof.Rows.EnumRows
import PyProof.DictWalks
import PyProof.Rows.SetFrom
import PyProof.DictItems
import KE.KDictList
import PyProof.TupleIter
import PyProof.RulesRaise
import PyProof.RulesTry
import PyProof.MeetsIn
import KE.KEqDict
import PyProof.StrOps2
import PyProof.StrCalls6
import PyProof.ListMulRoad
import PyProof.FactsAll.tuple
import KE.KDictOf
import KE.KSortTup
import KE.KSortKey
import PyProof.Rows.Range3
import PyProof.Rows.ChunkLeaf
import KE.KRevIter
import PyProof.StationsW
import PyProof.PassesOwn
import PyProof.NsDelKeeps
import PySem.Challenge.RW_manyleaf_k71_one_side
set_option Elab.async false
set_option linter.all false
set_option maxRecDepth 100000
section
open PySem PySem.W PyProof.Rows
set_option maxRecDepth 100000
set_option maxHeartbeats 0
noncomputable def PySem.W.Fast.tw10346760936273749094:Unit:=()
noncomputable def PySem.W.Fast.tw10514849051918060432:Unit:=()
noncomputable def PySem.W.Fast.tw10583189360961617686:Unit:=()
noncomputable def PySem.W.Fast.tw10690551125609941101:Unit:=()
noncomputable def PySem.W.Fast.tw10692848507138411222:Unit:=()
noncomputable def PySem.W.Fast.tw10919858864780866755:Unit:=()
noncomputable def PySem.W.Fast.tw11232237625302397219:Unit:=()
noncomputable def PySem.W.Fast.tw11437294431011507114:Unit:=()
noncomputable def PySem.W.Fast.tw11613006720955586785:Unit:=()
noncomputable def PySem.W.Fast.tw12508748538737508599:Unit:=()
noncomputable def PySem.W.Fast.tw12562542113083651126:Unit:=()
noncomputable def PySem.W.Fast.tw13084107177751059905:Unit:=()
noncomputable def PySem.W.Fast.tw13594684582358347732:Unit:=()
noncomputable def PySem.W.Fast.tw14136183512964914136:Unit:=()
noncomputable def PySem.W.Fast.tw14234763547543380811:Unit:=()
noncomputable def PySem.W.Fast.tw14362843129465492507:Unit:=()
noncomputable def PySem.W.Fast.tw14583137873553141594:Unit:=()
noncomputable def PySem.W.Fast.tw14876263980027561773:Unit:=()
noncomputable def PySem.W.Fast.tw1601226995427915171:Unit:=()
noncomputable def PySem.W.Fast.tw16209062103432029358:Unit:=()
noncomputable def PySem.W.Fast.tw16249778679761584769:Unit:=()
noncomputable def PySem.W.Fast.tw16644304122967437863:Unit:=()
noncomputable def PySem.W.Fast.tw16973158498925961996:Unit:=()
noncomputable def PySem.W.Fast.tw17099799843846883985:Unit:=()
noncomputable def PySem.W.Fast.tw17202872688268716139:Unit:=()
noncomputable def PySem.W.Fast.tw17648016067281491978:Unit:=()
noncomputable def PySem.W.Fast.tw1765060408067965863:Unit:=()
noncomputable def PySem.W.Fast.tw1984467490610095819:Unit:=()
noncomputable def PySem.W.Fast.tw1996594563087658773:Unit:=()
noncomputable def PySem.W.Fast.tw2143691900800840099:Unit:=()
noncomputable def PySem.W.Fast.tw2445403704771567047:Unit:=()
noncomputable def PySem.W.Fast.tw2677245160117942697:Unit:=()
noncomputable def PySem.W.Fast.tw3538210298220302147:Unit:=()
noncomputable def PySem.W.Fast.tw3941350801356566388:Unit:=()
noncomputable def PySem.W.Fast.tw3948742957528362949:Unit:=()
noncomputable def PySem.W.Fast.tw4117933097736107138:Unit:=()
noncomputable def PySem.W.Fast.tw4124225440956014827:Unit:=()
noncomputable def PySem.W.Fast.tw4186404898080307949:Unit:=()
noncomputable def PySem.W.Fast.tw4282892931188201101:Unit:=()
noncomputable def PySem.W.Fast.tw4305789609194842533:Unit:=()
noncomputable def PySem.W.Fast.tw436718803114504158:Unit:=()
noncomputable def PySem.W.Fast.tw4497686287600172855:Unit:=()
noncomputable def PySem.W.Fast.tw4670759621504017474:Unit:=()
noncomputable def PySem.W.Fast.tw4916218847507500558:Unit:=()
noncomputable def PySem.W.Fast.tw5007941067196619118:Unit:=()
noncomputable def PySem.W.Fast.tw5093694250609089546:Unit:=()
noncomputable def PySem.W.Fast.tw5520457917167933848:Unit:=()
noncomputable def PySem.W.Fast.tw5534233704746231467:Unit:=()
noncomputable def PySem.W.Fast.tw5682109743350120043:Unit:=()
noncomputable def PySem.W.Fast.tw6157671566632202808:Unit:=()
noncomputable def PySem.W.Fast.tw6313831772694599736:Unit:=()
noncomputable def PySem.W.Fast.tw633370157747519004:Unit:=()
noncomputable def PySem.W.Fast.tw6748972466730996830:Unit:=()
noncomputable def PySem.W.Fast.tw7131584234784303516:Unit:=()
noncomputable def PySem.W.Fast.tw7132111720901727294:Unit:=()
noncomputable def PySem.W.Fast.tw716945391136150863:Unit:=()
noncomputable def PySem.W.Fast.tw7246187209005202878:Unit:=()
noncomputable def PySem.W.Fast.tw7287887124798602320:Unit:=()
noncomputable def PySem.W.Fast.tw7393684391081459556:Unit:=()
noncomputable def PySem.W.Fast.tw7530142582228312671:Unit:=()
noncomputable def PySem.W.Fast.tw7680305569595173482:Unit:=()
noncomputable def PySem.W.Fast.tw769718999701435268:Unit:=()
noncomputable def PySem.W.Fast.tw777602035294144977:Unit:=()
noncomputable def PySem.W.Fast.tw81479881742709753:Unit:=()
noncomputable def PySem.W.Fast.tw8685386471501579412:Unit:=()
noncomputable def PySem.W.Fast.tw8879993701907473884:Unit:=()
noncomputable def PySem.W.Fast.tw912972197814171971:Unit:=()
noncomputable def PySem.W.Fast.tw9241912404404697062:Unit:=()
noncomputable def PySem.W.Fast.tw9438244317944348379:Unit:=()
noncomputable def PySem.W.Fast.tw9846362684213352309:Unit:=()
noncomputable def PySem.W.Fast.tw16267548858449860835:Unit:=()
noncomputable def PySem.W.Fast.tw565412879818246350:Unit:=()
noncomputable def PySem.W.Fast.tw11477572884866496918:Unit:=()
noncomputable def PySem.W.Fast.tw16585873857077632489:Unit:=()
noncomputable def PySem.W.Fast.tw16256580232504978708:Unit:=()
noncomputable def PySem.W.Fast.tw4853397275367721574:Unit:=()
noncomputable def PySem.W.Fast.tw10875071727995551358:Unit:=()
noncomputable def PySem.W.Fast.tw5229097306830527017:Unit:=()
noncomputable def PySem.W.Fast.tw14951193078190693907:Unit:=()
noncomputable def PySem.W.Fast.tw12855072875134660027:Unit:=()
noncomputable def PySem.W.Fast.tw15856479647087707375:Unit:=()
noncomputable def PySem.W.Fast.tw73457385194050803:Unit:=()
noncomputable def PySem.W.Fast.tw2415356314543973886:Unit:=()
noncomputable def PySem.W.Fast.tw6119101215432857310:Unit:=()
noncomputable def PySem.W.Fast.tw8268965814575606916:Unit:=()
noncomputable def PySem.W.Fast.tw16639336314457968946:Unit:=()
noncomputable def PySem.W.Fast.tw4976834161761393370:Unit:=()
noncomputable def PySem.W.Fast.tw4658700837534629374:Unit:=()
noncomputable def PySem.W.Fast.tw15363480518638576063:Unit:=()
noncomputable def PySem.W.Fast.tw5940191164954040538:Unit:=()
noncomputable def PySem.W.Fast.tw4255210295015549957:Unit:=()
noncomputable def PySem.W.Fast.tw12379176484623057647:Unit:=()
noncomputable def PySem.W.Fast.tw9284369599050601284:Unit:=()
noncomputable def PySem.W.Fast.tw12802027762004357703:Unit:=()
noncomputable def PySem.W.Fast.tw13127920334333956463:Unit:=()
noncomputable def PySem.W.Fast.tw7574184896968315260:Unit:=()
noncomputable def PySem.W.Fast.tw15045749966607478340:Unit:=()
noncomputable def PySem.W.Fast.tw18401226325745515918:Unit:=()
noncomputable def PySem.W.Fast.tw10435107105842220203:Unit:=()
noncomputable def PySem.W.Fast.tw2898644274127204637:Unit:=()
noncomputable def PySem.W.Fast.tw14956271694462961421:Unit:=()
noncomputable def PySem.W.Fast.tw3792053294100413375:Unit:=()
noncomputable def PySem.W.Fast.tw10390197893386129333:Unit:=()
noncomputable def PySem.W.Fast.tw3277467447087035486:Unit:=()
noncomputable def PySem.W.Fast.tw8490435242144282636:Unit:=()
noncomputable def PySem.W.Fast.tw324377780865323615:Unit:=()
noncomputable def PySem.W.Fast.tw11290746197964076974:Unit:=()
noncomputable def PySem.W.Fast.tw8878024132185930894:Unit:=()
noncomputable def PySem.W.Fast.tw16705398889980363395:Unit:=()
noncomputable def PySem.W.Fast.tw14057086615657176540:Unit:=()
noncomputable def PySem.W.Fast.tw16220924053133983914:Unit:=()
noncomputable def PySem.W.Fast.tw2787753223326487557:Unit:=()
noncomputable def PySem.W.Fast.tw14635484925796396622:Unit:=()
noncomputable def PySem.W.Fast.tw920118466897433431:Unit:=()
noncomputable def PySem.W.Fast.tw48676366183186027:Unit:=()
noncomputable def PySem.W.Fast.tw8029610607038581171:Unit:=()
noncomputable def PySem.W.Fast.tw9038202020219011470:Unit:=()
noncomputable def PySem.W.Fast.tw16012458700803540979:Unit:=()
noncomputable def PySem.W.Fast.tw5096405378084211772:Unit:=()
noncomputable def PySem.W.Fast.tw2955506937140912166:Unit:=()
noncomputable def PySem.W.Fast.tw3501978284395626259:Unit:=()
noncomputable def PySem.W.Fast.tw15864937490022899769:Unit:=()
noncomputable def PySem.W.Fast.tw5792617631562001342:Unit:=()
noncomputable def PySem.W.Fast.tw11479656419497430168:Unit:=()
noncomputable def PySem.W.Fast.tw10054007029408713406:Unit:=()
noncomputable def PySem.W.Fast.tw17071334647250162158:Unit:=()
noncomputable def PySem.W.Fast.tw7324243855140224407:Unit:=()
noncomputable def PySem.W.Fast.tw13091748503748421003:Unit:=()
noncomputable def PySem.W.Fast.tw9939145936442744389:Unit:=()
noncomputable def PySem.W.Fast.tw18049436749509886435:Unit:=()
noncomputable def PySem.W.Fast.tw3899908049468886879:Unit:=()
noncomputable def PySem.W.Fast.tw319076606062975006:Unit:=()
noncomputable def PySem.W.Fast.tw1858845723377548909:Unit:=()
noncomputable def PySem.W.Fast.tw1256592041443523018:Unit:=()
noncomputable def PySem.W.Fast.tw7918160474947484062:Unit:=()
noncomputable def PySem.W.Fast.tw8413322791830490262:Unit:=()
noncomputable def PySem.W.Fast.tw16396299016700448077:Unit:=()
noncomputable def PySem.W.Fast.tw3618584740021491857:Unit:=()
noncomputable def PySem.W.Fast.tw7526580316270414139:Unit:=()
noncomputable def PySem.W.Fast.tw850568217367341970:Unit:=()
noncomputable def PySem.W.Fast.tw15885082939092809722:Unit:=()
noncomputable def PySem.W.Fast.tw13995046406974643122:Unit:=()
noncomputable def PySem.W.Fast.tw10638229507172725708:Unit:=()
noncomputable def PySem.W.Fast.tw237478188652673858:Unit:=()
noncomputable def PySem.W.Fast.tw1553443951217534955:Unit:=()
noncomputable def PySem.W.Fast.tw6504058161285831519:Unit:=()
noncomputable def PySem.W.Fast.tw13511227319195774824:Unit:=()
noncomputable def PySem.W.Fast.tw3876465764644291773:Unit:=()
noncomputable def PySem.W.Fast.tw2317197477033745312:Unit:=()
noncomputable def PySem.W.Fast.tw12068117360024198819:Unit:=()
noncomputable def PySem.W.Fast.tw14180391629400374969:Unit:=()
noncomputable def PySem.W.Fast.tw13639873146258759259:Unit:=()
noncomputable def PySem.W.Fast.tw6182995111321951314:Unit:=()
noncomputable def PySem.W.Fast.tw6834003433378515942:Unit:=()
noncomputable def PySem.W.Fast.tw15472012862592128416:Unit:=()
noncomputable def PySem.W.Fast.tw10001927437283622916:Unit:=()
noncomputable def PySem.W.Fast.tw5183597813751954762:Unit:=()
noncomputable def PySem.W.Fast.tw17252047837331593760:Unit:=()
noncomputable def PySem.W.Fast.tw17687557482665157746:Unit:=()
noncomputable def PySem.W.Fast.tw2435959219457015923:Unit:=()
noncomputable def PySem.W.Fast.tw14714225301942496751:Unit:=()
noncomputable def PySem.W.Fast.tw14174514992682600217:Unit:=()
noncomputable def PySem.W.Fast.tw15927847373167216261:Unit:=()
noncomputable def PySem.W.Fast.tw9683549707939456839:Unit:=()
noncomputable def PySem.W.Fast.tw17629865292735623420:Unit:=()
noncomputable def PySem.W.Fast.tw6013708814511198090:Unit:=()
noncomputable def PySem.W.Fast.tw6281025344232308312:Unit:=()
noncomputable def PySem.W.Fast.tw14351415234176619399:Unit:=()
noncomputable def PySem.W.Fast.tw5539279837205448555:Unit:=()
noncomputable def PySem.W.Fast.tw622664536412141585:Unit:=()
noncomputable def PySem.W.Fast.tw7670844984415445749:Unit:=()
noncomputable def PySem.W.Fast.tw15552931226174880944:Unit:=()
noncomputable def PySem.W.Fast.tw16048905519224944659:Unit:=()
noncomputable def PySem.W.Fast.tw5028005547523781015:Unit:=()
noncomputable def PySem.W.Fast.tw18243495666323539495:Unit:=()
noncomputable def PySem.W.Fast.tw18440883869696760033:Unit:=()
noncomputable def PySem.W.Fast.tw14268322446355483390:Unit:=()
noncomputable def PySem.W.Fast.tw12237845635039930603:Unit:=()
noncomputable def PySem.W.Fast.tw12919537245408743968:Unit:=()
noncomputable def PySem.W.Fast.tw5850298896208908307:Unit:=()
noncomputable def PySem.W.Fast.tw15210676588781246496:Unit:=()
noncomputable def PySem.W.Fast.tw15613020938999355039:Unit:=()
noncomputable def PySem.W.Fast.tw2285607033368102723:Unit:=()
noncomputable def PySem.W.Fast.tw4259578720655650782:Unit:=()
noncomputable def PySem.W.Fast.tw10606548305856783323:Unit:=()
noncomputable def PySem.W.Fast.tw4696133259854924877:Unit:=()
noncomputable def PySem.W.Fast.tw2519361426154502128:Unit:=()
noncomputable def PySem.W.Fast.tw6592943810371128373:Unit:=()
noncomputable def PySem.W.Fast.tw18125271227062642861:Unit:=()
noncomputable def PySem.W.Fast.tw5789173986580227890:Unit:=()
noncomputable def PySem.W.Fast.tw16095090472913440396:Unit:=()
noncomputable def PySem.W.Fast.tw14236678647047178446:Unit:=()
noncomputable def PySem.W.Fast.tw6539397016450383045:Unit:=()
noncomputable def PySem.W.Fast.tw3712800886932366333:Unit:=()
noncomputable def PySem.W.Fast.tw3707359021043154470:Unit:=()
noncomputable def PySem.W.Fast.tw15550207316256178018:Unit:=()
noncomputable def PySem.W.Fast.tw7350510260528800730:Unit:=()
noncomputable def PySem.W.Fast.tw4742087328676625682:Unit:=()
noncomputable def PySem.W.Fast.tw13013789225288611261:Unit:=()
noncomputable def PySem.W.Fast.tw13387902682663754184:Unit:=()
noncomputable def PySem.W.Fast.tw14231518056659008499:Unit:=()
noncomputable def PySem.W.Fast.tw6752288376759946730:Unit:=()
noncomputable def PySem.W.Fast.tw9093212949716729158:Unit:=()
noncomputable def PySem.W.Fast.tw8947433855403211725:Unit:=()
noncomputable def PySem.W.Fast.tw12969107849355825111:Unit:=()
noncomputable def PySem.W.Fast.tw9863600327018561071:Unit:=()
noncomputable def PySem.W.Fast.tw15130676295195258181:Unit:=()
noncomputable def PySem.W.Fast.tw15585363960776696047:Unit:=()
noncomputable def PySem.W.Fast.tw2611555220805103460:Unit:=()
noncomputable def PySem.W.Fast.tw2425139922478075551:Unit:=()
noncomputable def PySem.W.Fast.tw1485263039102969227:Unit:=()
noncomputable def PySem.W.Fast.tw12172124397762899758:Unit:=()
noncomputable def PySem.W.Fast.tw8061095182151443143:Unit:=()
noncomputable def PySem.W.Fast.tw13510179543406100595:Unit:=()
noncomputable def PySem.W.Fast.tw11095690872552577948:Unit:=()
noncomputable def PySem.W.Fast.tw3502484610739248626:Unit:=()
noncomputable def PySem.W.Fast.tw15674377537326668714:Unit:=()
noncomputable def PySem.W.Fast.tw9317243551940734946:Unit:=()
noncomputable def PySem.W.Fast.tw15697714518938078981:Unit:=()
noncomputable def PySem.W.Fast.tw5157362634756347833:Unit:=()
noncomputable def PySem.W.Fast.tw1357531065305738726:Unit:=()
noncomputable def PySem.W.Fast.tw8743913348189098537:Unit:=()
noncomputable def PySem.W.Fast.tw14530287180328878832:Unit:=()
noncomputable def PySem.W.Fast.tw9975306586010628880:Unit:=()
noncomputable def PySem.W.Fast.tw5623829979567077756:Unit:=()
open_top head_k71 for PySem.Challenge.rw_manyleaf_k71_one_side
end
section
open Array renaming length_toList→aU,getElem?_eq_getElem→bu,getElem?_toList→bP,getD_eq_getD_getElem?→dz,getElem?_setIfInBounds_self_of_lt→fg,getElem?_eq_some_iff→fN,perm_iff_toList_perm→iw,map→iZ,getElem?_eq_none→jG
open Bool renaming false_ne_true→ar,and_eq_true→aA,false_eq_true→cC,or_eq_true→dA,beq_eq_decide_eq→fh,eq_false_iff→fG,eq_iff_iff→g_,or_true→iD,and_false→iK,not_eq_true'→i0,or_eq_false_iff→kj,and_true→lh,false_or→lj,or_false→lm
open Classical renaming byContradiction→iL
open False renaming elim→b_
open ForInStep renaming yield→fq
open Int renaming toNat_natCast→bK,natCast_add→cv,emod_lt_of_pos→cE,emod_nonneg→cQ,eq_ofNat_of_zero_le→c_,natCast_mul→d7,toNat→gO,mul_le_mul_of_nonneg_left→gT,toNat_of_nonneg→h8,fdiv_eq_ediv_of_nonneg→iB,natCast_nonneg→lq
open LawfulBEq renaming eq_of_beq→cI
open List renaming length_map→ai,getElem?_eq_getElem→am,size_toArray→ao,length_append→av,getD_eq_getElem?_getD→aB,mem_cons_of_mem→aC,getElem?_map→aE,mem_cons→aG,map_cons→aK,length_cons→aP,getElem?_eq_some_iff→aQ,mem_singleton→aT,mem_of_getElem?→aX,mem_append→a_,map_append→bg,replicate→bh,length_take→bj,mem_append_right→bo,mem_cons_self→bv,mem_map_of_mem→bB,range→bC,nodup_cons→bL,all_cons→bN,length_singleton→bQ,mem_map→b5,not_mem_nil→cf,map_map→cr,find?_cons→cw,cons_append→cx,length_reverse→cy,take_add_one→cz,contains_cons→cF,getElem?_cons_succ→cG,all_eq_true→cJ,getElem?_append_right→cM,append_assoc→cN,eq_nil_of_length_eq_zero→cX,getElem_mem→cY,mem_of_mem_take→c7,append_nil→dB,map_congr_left→dD,take_length→dH,pairwise_cons→dL,getElem?_append_left→dS,mem_range→dU,nodup_nil→dW,length_range→d8,toArray→eE,lookup→eK,replicate_succ→eO,length_drop→eX,getElem?_eq_none→ft,drop_eq_getElem_cons→fP,map_flatMap→fT,mem_flatMap→fU,any_cons→gn,getElem?_cons_zero→gp,drop_of_length_le→gE,take_of_length_le→gG,eraseIdxIfInBounds_toArray→gI,flatten_cons→gJ,nodup_append→gK,mem_append_left→gY,Pairwise→g6,Perm→h9,filterMap_cons→h_,length→ia,mem_filter→ib,nil_append→ic,range_succ→ie,length_eraseIdx_of_lt→iC,map→iG,map_nil→iH,mem_filterMap→iI,flatMap_cons→i7,foldl→i8,length_erase_of_mem→i9,any_eq_true→jw,map_reverse→jx,getElem?_set_self→jH,range_succ_eq_map→jI,getElem?_toArray→jR,length_filter_le→jS,length_nil→jT,of_mem_zip→jU,pairwise_flatMap→jV,getElem?_set_ne→km,getLast?_concat→ko,mem_erase_of_ne→kr,reverse_reverse→ku,lt_irrefl→kD,filter_sublist→kM,flatMap_append→kN,length_pos_iff→kO,reverse_append→kP,map_take→lw
open List.Pairwise renaming imp_of_mem→i5,nil→i6
open List.Perm renaming refl→iM
open Nat renaming le_refl→ah,ne_of_lt→aH,le_trans→aL,lt_of_lt_of_le→aO,le_add_right→ba,zero_le→bA,lt_of_le_of_lt→bX,le_succ→cq,lt_succ_self→cK,succ_le_succ→dI,ne_of_gt→dM,lt_irrefl→eQ,le_of_lt→fu,lt_succ_of_lt→fH,lt_trans→f_,exists_eq_add_of_le→jj,lt_of_succ_lt_succ→jJ,le_of_ble_eq_true→jW,le_of_eq→jX,zero_add→jY,max_le→ke,mul_le_mul→kE,max→mI
open Ne renaming symm→bZ
open Option renaming map_eq_some_iff→aY,some→be,bind_some→cZ,isSome_iff_exists→gc,map_some→gr,isSome_map→ja
open Option.some renaming inj→aV
open Or renaming inl→mD
open PyProof renaming noPylong_small→jL
open PyProof.Rows renaming seqObj→bn,slot_tuple_getitem→bU,callWith_type1→cH,get?_update_seq→eh,listUpdate_at→eV,callWith_builtin1→gP,seqEpoch_at→iq,tail_of_ItemOn→iT,size_push'→jf,boot_tuple→jk,boot_list→jK,subscriptTail_builtinR→jN,AllBare→jQ,boot_int→jZ,listItems_at→j9,entry_proto_collect'→kB,subscriptTail→lK,collect_list→lX,envOfC→lZ,keyKind'→mf,bubble→mE,IntsAre→mG,IsTup→mH,general'→mO,tail_any→mT
open PyProof.Rows.F renaming plain_set_update_loop→gj,entry_set_update_loop→ji
open PyProof.Rows.IsTup renaming new→mj
open PyProof.Rows.SortSt renaming mk'→lO
open PySem renaming wpAny_bind→af,Shared→aj,wpAny_pure→ak,FuncData→au,Program→aI,wpAny→aJ,Builtin→aS,mainGlobals→aZ,sizeLine_eq→bb,Around→bi,World→bp,Spec→bq,wpAny_holding→bw,wpAny_with_toks→bI,wpAny_Call_Name_kw→bS,SetTable→bT,wpAny_loadPart_at→bW,wpAny_mono→b6,mem_of_lookup→b7,wpAny_loadPart'→ce,wpAny_newObj_type→cj,compareOp→cm,NameKind→cu,starEach→cO,wpAny_setField→cP,bootBuiltins→cS,binaryOp→cU,sysModules→cV,tupleKind_room_in1→cW,wpAny_call_entry→c6,codeAny_call_builtin→c9,assignEach→dy,codeAny_builtin→dE,wpAny_isSubtype_exc→dF,wpAny_call→dJ,behindInMarks→dP,wpAny_passesOwn→eA,wpAny_setState_of→eB,wpAny_truthy_bool→eC,Within→eI,codeAny_mono→eJ,codeAny→eU,wpAny_callSpecial?_slot→eW,wpAny_askSetting→eY,call_meetsIn→fB,excClassObj→fC,rawInt→fE,wpAny_field→fF,call_meets→fI,foldedSetIterable→fJ,wpAny_newList→fK,wpAny_standAt→fM,pickOrder→fS,checkBuiltinCall→fW,typeLookup→gh,wpAny_attempt→gx,wpAny_ite_false→gy,wpAny_ite_split→gA,atKey_none_of_get→gM,sliceBounds→gN,Paired→gZ,wpAny_rule→g9,codeAny_of_tree→il,letOwnedTupleGo→ip,tupleKind→ir,wpAny_setEntries_of→iu,GenState→iF,wpAny_typeOf→iJ,codeAny_call_builtin_code→iR,relabel→iS,valueAt→iU,wpAny_binaryOp_repeat_ref→iV,wpAny_check_type_call_sub→iW,wpAny_loadPart→iX,wpAny_newTuple→iY,isInstance→je,swapsWith→jg,wpAny_pyIter_slot→jh,attributeBase→jq,bindSpecial→jr,codeAny_call_builtin_at→js,plainId_quiet→jt,wpAny_Call_method0_late→ju,backTo→jA,noFill_tuple_add→jB,pastItsLine_dict→jC,wpAny_eqBool_str→jD,wpAny_lookBehind→jE,wpAny_madeBy_exc→jF,wpAny_pyIter_rangeiter→jO,wpAny_pyNext_range_end→jP,builtinLookup_eq_fast→j7,wpAny_execs_nil→kb,wpAny_isTrue_Compare1→kc,relayAll→kg,typeIs_int→kh,wpAny_pyIter_revIter→kC,Result→kG,dictSetDefault→kH,isSubtype_type→kI,wpAny_notIn_of→kJ,wpAny_runValue→kK,IsRangeIter→kL,evalArgs_none→kU,collect→k6,getAttr→k9,getItem→k_,keywordEach→la,seqIndex_of→lg,IsPart→lv,PassesOwn→lA,bindArgs→lH,seq_tuple_add→lJ,swapsWithSole→lL,wpAny_pyIter_range→lN,callerA→lQ,notedBy→lR,setsByText→lS,wpAny_load→lT,assign→lW,concat_meets→lY,pyNext→l5,seqIndex_neg→l6,wpAny_nsSet1→l_,CmpOp→md,atKey→me,BindsTo→mh,Keyword→mk,Fin→ml,onTheHeap→mo,seqItems?→mq,setAttr→mr,storedH_new→mx,wpAny_in_of→my,wpAny_of_eq→mC,pyIter→mF,Operator→mJ,Walks→mK,backToKw→mL,compEnvC→mM,frameOf→mN,holding→mP,setField→mR,standAt→mS,unaryOp→mU
open PySem.Around renaming under_plainId→dX,under→lU
open PySem.Builtin.List renaming listFitsIndex→cL,listTooLong→dY,listExtendWith→fj,listLengthHint→hJ,listSameRef→i3
open PySem.Builtin.Range renaming rangeSize→bJ,small→fX
open PySem.Builtin.Slice renaming slicePlaces→dQ,sliceAdjust→fO,sliceApplied→iy
open PySem.Builtin.Tuple renaming tupleExact→dZ,tupleItemsOf→iz
open PySem.Calls renaming callWith_builtin→gC,Name_function_global→iA,spliced_cons→iE,spliced_nil→i4
open PySem.Code renaming quiet_builtin→cT,isFrame→lV
open PySem.EntryCells renaming newEntry→hV
open PySem.F renaming plainAttrs_list→dj,excBase_ValueError→dG,slot_dict_get→dN,plainAttrs_dict→eR,entry_dict_get→e_,slot_dict_setdefault→ff,called_set→fm,slot_dict_itemiterator_iter→fY,args_tuple_add_2→gd,entry_tuple_add→gu,slot_tuple_add→gH,args_dict_setdefault_3→gQ,entry_dict_setdefault→gU,slot_int_rmul→hW,plain_extend_loop→iN,slot_dict_getitem→iO,slot_list_insert→jb,args_dict_get_2→jl,args_dict_get_3→jm,plain_list_iadd→jn,slot_dict_items→jo,slot_list_index→jp,slot_tuple_mul→jv,slot_dict_pop→j0
open PySem.Heap renaming get?_push_of_some→ag,get?_push_size→aw,lt_size→aF,get?_update_other→aW,SameBut→br,get?_update_self→bz,size_push→cB,size_update→gS,get?_none_of_le→gX,get?_update_ne→hX
open PySem.Heap.SameBut renaming update→bH
open PySem.NameKind renaming free→eP
open PySem.Obj renaming mapSeq→a9,mapFields→bO,data_mapFields→bY,isFreed_of_fields→cA,cls_mapFields→i_,data_mapDictKeys→ky
open PySem.Paired renaming length→g7
open PySem.SeqAt renaming EqAt→bx,RcNeAt→ge,RcAt→jd
open PySem.SeqAt.EqAt renaming int_none→kW,none_int→kX,none_str→kY,str_none→kZ,int_str→lF,str_int→lG
open PySem.SetTable renaming below→dr,grown→eZ
open PySem.Str renaming empty→ck,ofString→fz
open PySem.Value renaming ref→aR,none→bG,builtin→dm,type→d_,isStrOf_shape→f9,str→gR,isStrOf→g8,int→j6,bool→lP,isInt→mn
open PySem.W renaming Frag→ae,findIn→aq,keepIn→aN,nsIn→bt,emptyDict→bE,makesIn→bM,instObj→bR,kia_one→bV,fnOf→b8,methodObj→cg,mg_of→ci,isFn→cR,plainGet→c5,looks_findIn→c8,codeIn→dq,hasDictIn→du,specialIn→dw,callWith_K→dO,plainOver→d9,plainGet_of→eT,KatTups→fv,takesIn→fw,InstAt→fQ,kitOne→fR,handedIn→fV,callWith_K0→fZ,Looks→gw,kat_cons→gW,copiedNames→ig,kat_yes→ii,kas_place→im,kat_go→iP,lookIn→iQ,kitx_list→jc,kdl_dict→jy,makes_of→jz,cellsFrom_some→jM,OpenLaw→j3,kas_ask→j4,takerIn→j5,kas_rev→j8,handedOut_of→kA,kat_no→kF,findObj_own→kR,looks_mroIn→kT,kitx_tuple→lB,looks_find→lC,mroIn→lE,kas_desc→lI,kas_asc→mQ
open PySem.W.KatTups renaming cons→kz,nil→kQ
open PySem.pickOrder renaming go→j_
open Sum renaming inr→fA,inl→k4
open Sum.inr renaming inj→gL
open True renaming intro→bD
namespace L2
open PySem PySem.Spec PyProof.Rows
noncomputable abbrev Key:=Sum Int Str
noncomputable def F4:Key->Value->Bool
 | .inl k,v=>mn k v
 | .inr x,v=>g8 x v
noncomputable def bu7 (w:bp):Key->Int
 | .inl k=>hashInt k
 | .inr x=>hashStr w x
theorem Aw:∀ {k:Key} {v:Value},F4 k v=true->(∃ i t,k=k4 i/\v=j6 i t)\/(∃ x t,k=fA x/\v=gR x t)
 | .inl i,v,h=>by
  obtain⟨t,e⟩:=Value.isInt_shape (k:=i) (v:=v) h
  exact .inl ⟨i,t,rfl,e⟩
 | .inr x,v,h=>by
  obtain⟨t,e⟩:=f9 (x:=x) (v:=v) h
  exact .inr ⟨x,t,rfl,e⟩
theorem Vz (i:Int) (t:Tok):F4 (.inl i) (.int i t)=true:=by simp [F4,mn]
theorem V0 (x:Str) (t:Tok):F4 (.inr x) (.str x t)=true:=by simp [F4,g8]
theorem a76 (a b:Int):decide ((k4 a:Key)=k4 b)=(a==b):=by
 by_cases e:a=b
 ·subst e;simp
 ·have h:¬ (k4 a:Key)=k4 b:=fun q=>e (Sum.inl.inj q)
  rw [decide_eq_false h]
  exact (beq_eq_false_iff_ne.mpr e).symm
theorem a80 (a b:Str):decide ((fA a:Key)=fA b)=decide (a=b):=by
 by_cases e:a=b
 ·subst e;simp
 ·have h:¬ (fA a:Key)=fA b:=fun q=>e (gL q)
  rw [decide_eq_false h,decide_eq_false e]
theorem a77 (a:Int) (b:Str):decide ((k4 a:Key)=fA b)=false:=decide_eq_false (fun q=>nomatch q)
theorem a79 (a:Str) (b:Int):decide ((fA a:Key)=k4 b)=false:=decide_eq_false (fun q=>nomatch q)
noncomputable def Ao (prog:aI) (w:bp):PySem.KeyKind prog w Key where
 is:=F4
 hash:=bu7 w
 inj:=fun v a b ha hb=>by
  rcases Aw ha with ⟨i,t,rfl,rfl⟩|⟨x,t,rfl,rfl⟩
  ·rcases Aw hb with ⟨j,u,rfl,e⟩|⟨y,u,rfl,e⟩
   ·injection e with e1 _;rw [e1]
   ·exact nomatch e
  ·rcases Aw hb with ⟨j,u,rfl,e⟩|⟨y,u,rfl,e⟩
   ·exact nomatch e
   ·injection e with e1 _;rw [e1]
 byValue:=fun k v h=>by
  rcases Aw h with ⟨i,t,rfl,rfl⟩|⟨x,t,rfl,rfl⟩ <;> rfl
 pyHash:=fun hv h=>by
  rcases Aw hv with ⟨i,t,rfl,rfl⟩|⟨x,t,rfl,rfl⟩
  ·exact wpAny_pyHash_int h
  ·exact wpAny_pyHash_str h
 eqBool:=fun hu hv h=>by
  rcases Aw hu with ⟨i,t,rfl,rfl⟩|⟨x,t,rfl,rfl⟩
  ·rcases Aw hv with ⟨j,u,rfl,rfl⟩|⟨y,u,rfl,rfl⟩
   ·rw [a76] at h;exact wpAny_eqBool_int h
   ·rw [a77] at h;exact lF i t y u _ _ _ _ h
  ·rcases Aw hv with ⟨j,u,rfl,rfl⟩|⟨y,u,rfl,rfl⟩
   ·rw [a79] at h;exact lG x t j u _ _ _ _ h
   ·rw [a80] at h;exact jD h
 «strs»:=fun k x t v h=>by
  rcases Aw h with ⟨i,u,rfl,e⟩|⟨y,u,rfl,e⟩
  ·exact nomatch e
  ·injection e with e1 _
   subst e1
   cases v <;> rfl
theorem Ox (prog:aI) (w:bp) (i:Int) (t:Tok):(Ao prog w).is (.inl i) (.int i t)=true:=Vz i t
theorem Oy (prog:aI) (w:bp) (x:Str) (t:Tok):(Ao prog w).is (.inr x) (.str x t)=true:=V0 x t
inductive V where
 | non|bl (b:Bool)|int (i:Int)|str (x:Str)|byt (b:Array UInt8)|stk (x:Str) (n:Nat) (ex:Bool)|ref (a:Addr)|ty (n:String)
 deriving DecidableEq
noncomputable def RelV:V->Value->Prop
 | .non,u=>u=bG
 | .bl b,u=>u=lP b
 | .int i,u=>∃ t,u=j6 i t
 | .str x,u=>∃ t,u=gR x t
 | .byt b,u=>∃ t,u=Value.bytes b t
 | .stk x n ex,u=>∃ t,u=gR x t/\(if ex=true then t=n else n<=t)
 | .ref a,u=>u=aR a
 | .ty n,u=>u=d_ n
noncomputable def V.pl:V->Bool
 | .stk _ _ _=>false
 | _=>true
noncomputable abbrev Vals:List V->List Value->Prop:=gZ RelV
theorem Vals.length {xs:List V} {us:List Value} (r:Vals xs us):xs.length=us.length:=g7 r
theorem Vals.get:∀ {xs:List V} {us:List Value} {i:Nat} {x:V},Vals xs us->xs[i]? = some x -> ∃ u,us[i]? = some u/\RelV x u
 | _,_,_,_,.nil,e=>by simp at e
 | _,_,0,_,.cons r _,e=>by simp at e;subst e;exact⟨_,rfl,r⟩
 | _,_,i+1,x,.cons _ t,e=>by
  obtain⟨u,h1,h2⟩:=Vals.get (i:=i) (x:=x) t (by simpa using e)
  exact⟨u,by simpa using h1,h2⟩
theorem Vals.set {x:V} {u:Value} (r:RelV x u):∀ {xs:List V} {us:List Value} (i:Nat),Vals xs us->Vals (xs.set i x) (us.set i u)
 | _,_,_,.nil=>.nil
 | _,_,0,.cons _ t=>.cons r t
 | _,_,i+1,.cons q t=>.cons q (Vals.set r i t)
theorem Vals.append:∀ {xs ys:List V} {us ws:List Value},Vals xs us->Vals ys ws->Vals (xs++ys) (us++ws)
 | _,_,_,_,.nil,s=>s
 | _,_,_,_,.cons r t,s=>.cons r (Vals.append t s)
theorem Vals.take:∀ {xs:List V} {us:List Value} (n:Nat),Vals xs us->Vals (xs.take n) (us.take n)
 | _,_,0,_=>.nil
 | _,_,_+1,.nil=>.nil
 | _,_,n+1,.cons r t=>.cons r (Vals.take n t)
theorem Vals.drop:∀ {xs:List V} {us:List Value} (n:Nat),Vals xs us->Vals (xs.drop n) (us.drop n)
 | _,_,0,r=>r
 | _,_,_+1,.nil=>.nil
 | _,_,n+1,.cons _ t=>Vals.drop n t
noncomputable def RelO:Option V->Option Value->Prop
 | some v,some u=>RelV v u
 | none,none=>True
 | _,_=>False
noncomputable def KV {κ:Type}:List (κ×V)->List (κ×Value)->Prop:=gZ fun (p:κ×V) (q:κ×Value)=>p.1=q.1/\RelV p.2 q.2
noncomputable def kV:Key->V
 | .inl i=>.int i
 | .inr x=>.str x
inductive HO where
 | lst (xs:List V)
 | tup (xs:List V)
 | dK (kvs:List (Key×V))|dT (kvs:List (List Key×V))
 | set (S:Int->Bool) (n:Nat)
 | ins (C dx:Addr) (fs:List (Str×V))
 | own (x:Addr)
 | xd (fs:List (Str×V))
 | met (f x:Addr)
 | rng (lo hi:Int)
 | frz (o:Obj) (u:HO)
 | tbl (ps:Array Value)
 | ext (φ:Heap->Prop)
noncomputable abbrev Hp:=Addr->Option HO
noncomputable def upd (H:Hp) (a:Addr) (o:HO):Hp:=fun b=>if b=a then some o else H b
theorem Ad {H:Hp} {a:Addr} {o:HO}:upd H a o a=some o:=by unfold upd;rw [if_pos rfl]
theorem Ah {H:Hp} {a b:Addr} {o:HO} (h:b≠a):upd H a o b=H b:=by unfold upd;rw [if_neg h]
theorem ax5 {H:Hp} {a b:Addr} {o u:HO} (h:H a=some o) (h':H b=some u) (d:o≠u):a≠b:=by
 intro e;subst e;rw [h] at h';exact d (aV h')
theorem Az {H:Hp} {a b:Addr} {o:HO} (h:H a=some o) (h':H b=none):a≠b:=by
 intro e;subst e;rw [h] at h';cases h'
section
variable (P:aI) (w:bp)
noncomputable def ObjOk (H:Hp) (h:Heap) (a:Addr):HO->Prop
 | .lst xs=>xs.length<=sizeLine /\ ∃ (its:List Value) (n:Nat),Vals xs its/\h.get? a=some { cls:=.type "list", data:=.seq its.toArray n }
 | .tup xs=>xs.length<=sizeLine /\ ∃ its:List Value,Vals xs its/\mH h a its.toArray
 | .dK kvs=>kvs.length<=sizeLine/\(a==cV)=false /\ ∃ vs,KV kvs vs/\h.DictOf (Ao P w) a vs
 | .dT kvs=>kvs.length<=sizeLine/\(a==cV)=false /\ ∃ xs:List (List Key×Addr×Value),
   gZ (fun (p:List Key×V) (q:List Key×Addr×Value)=>p.1=q.1/\H q.2.1=some (.tup (p.1.map kV))/\RelV p.2 q.2.2) kvs xs /\
   ∃ o es ep,h.get? a=some o/\o.ExactDict/\o.data=.dict es ep/\es.toList=xs.map (entryOfKey (ir (Ao P w)))/\(xs.map (·.1)).Nodup
 | .set S n=>h.SetOf (intKind P w) a S n
 | .ins C dx fs=>H dx=some (.own a)/\fs.length<=1000/\dx≠a/\h.get? a=some (bR C dx) /\
   ∃ mA,h.Ns1 dx mA/\(∀ f,RelO (fs.lookup f) (mA f))/\eI mA (fs.map (·.1))
 | .own _=>∃ o,h.get? a=some o
 | .xd fs=>∃ mA,h.Ns1 a mA /\ ∀ f,RelO (fs.lookup f) (mA f)
 | .rng lo hi=>∃ t u v,h.get? a=some { cls:=.type "range", data:=.fields #[.int lo t,.int hi u,.int 1 v] }
 | .frz o u=>h.get? a=some o/\ObjOk H h a u
 | .tbl ps=>h.get? a=some { cls:=.none,data:=.fields ps }
 | .met f x=>h.get? a=some (cg (.ref f) (.ref x))
 | .ext φ=>φ h/\(∃ o,h.get? a=some o) /\ ∀ h1 h2:Heap,φ h1->(∀ o,h1.get? a=some o->h2.get? a=some o)->φ h2
noncomputable def HOk (H:Hp) (h:Heap):Prop:=∀ a o,H a=some o->ObjOk P w H h a o
end
section
variable {P:aI} {w:bp} {H H':Hp} {h h':Heap} {a:Addr} {o:HO}
theorem ObjOk.lt (x:ObjOk P w H h a o):a<h.objs.size:=by
 cases o with
 | lst xs=>obtain⟨_,_,_,_,e⟩:=x;exact aF e
 | tup xs=>obtain⟨_,_,_,p⟩:=x;exact p.lt
 | dK kvs=>obtain⟨_,_,_,_,o,_,_,e,_⟩:=x;exact aF e
 | dT kvs=>obtain⟨_,_,_,_,o,_,_,e,_⟩:=x;exact aF e
 | set S n=>obtain⟨o,_,_,_,e,_⟩:=x;exact aF e
 | ins C dx fs=>obtain⟨_,_,_,e,_⟩:=x;exact aF e
 | own y=>obtain⟨_,e⟩:=x;exact aF e
 | xd fs=>obtain⟨_,⟨_,_,_,e,_⟩,_⟩:=x;exact aF e
 | rng lo hi=>obtain⟨_,_,_,e⟩:=x;exact aF e
 | frz ob u=>obtain⟨e,_⟩:=x;exact aF e
 | tbl ps=>exact aF (show h.get? a=some _ from x)
 | met f y=>exact aF (show h.get? a=some _ from x)
 | ext φ=>obtain⟨_,⟨_,e⟩,_⟩:=x;exact aF e
theorem Paired.mapP {α β:Type} {F G:α->β->Prop}:∀ {l₁:List α} {l₂:List β},gZ F l₁ l₂->(∀ a b,F a b->G a b)->gZ G l₁ l₂
 | _,_,.nil,_=>.nil
 | _,_,.cons r t,f=>.cons (f _ _ r) (Paired.mapP t f)
theorem ObjOk.stay (x:ObjOk P w H h a o) (k:∀ b u,(b=a\/H b=some (.own a))->h.get? b=some u->h'.get? b=some u)
  (ho:∀ b,H b=some (.own a)->H' b=some (.own a)) (ht:∀ b xs,H b=some (.tup xs)->H' b=some (.tup xs)):ObjOk P w H' h' a o:=by
 induction o with
 | lst xs=>obtain⟨z,its,n,r,e⟩:=x;exact⟨z,its,n,r,k _ _ (.inl rfl) e⟩
 | tup xs=>obtain⟨z,its,r,ob,e,c⟩:=x;exact⟨z,its,r,ob,k _ _ (.inl rfl) e,c⟩
 | dK kvs=>obtain⟨z,y,vs,r,ob,es,ep,e,c⟩:=x;exact⟨z,y,vs,r,ob,es,ep,k _ _ (.inl rfl) e,c⟩
 | dT kvs=>
  obtain⟨z,y,xs,r,ob,es,ep,e,c⟩:=x
  exact⟨z,y,xs,Paired.mapP r fun p q z=>⟨z.1,ht _ _ z.2.1,z.2.2⟩,ob,es,ep,k _ _ (.inl rfl) e,c⟩
 | set S n=>obtain⟨ob,es,ep,t,e,c⟩:=x;exact⟨ob,es,ep,t,k _ _ (.inl rfl) e,c⟩
 | ins C dx fs=>
  obtain⟨d,z,ne,e,mA,⟨od,es,ep,e2,c⟩,r⟩:=x
  exact⟨ho _ d,z,ne,k _ _ (.inl rfl) e,mA,⟨od,es,ep,k _ _ (.inr d) e2,c⟩,r⟩
 | own y=>obtain⟨ob,e⟩:=x;exact⟨ob,k _ _ (.inl rfl) e⟩
 | xd fs=>obtain⟨mA,⟨od,es,ep,e,c⟩,r⟩:=x;exact⟨mA,⟨od,es,ep,k _ _ (.inl rfl) e,c⟩,r⟩
 | rng lo hi=>obtain⟨t,u,v,e⟩:=x;exact⟨t,u,v,k _ _ (.inl rfl) e⟩
 | frz ob u ih=>obtain⟨e,q⟩:=x;exact⟨k _ _ (.inl rfl) e,ih q⟩
 | tbl ps=>
  have e:h.get? a=some { cls:=.none,data:=.fields ps }:=x
  show h'.get? a=some { cls:=.none,data:=.fields ps }
  exact k a _ (.inl rfl) e
 | met f y=>
  have e:h.get? a=some (cg (.ref f) (.ref y)):=x
  show h'.get? a=some (cg (.ref f) (.ref y))
  exact k a _ (.inl rfl) e
 | ext φ=>obtain⟨p,⟨o,e⟩,st⟩:=x;exact⟨st _ _ p fun o q=>k _ _ (.inl rfl) q,⟨o,k _ _ (.inl rfl) e⟩,st⟩
theorem HOk.lt (x:HOk P w H h) (e:H a=some o):a<h.objs.size:=(x a o e).lt
theorem HOk.fresh (x:HOk P w H h) (e:h.objs.size<=a):H a=none:=by
 cases q:H a with
 | none=>rfl
 | some u=>exact absurd (aO (x.lt q) e) (eQ _)
theorem HOk.kept (x:HOk P w H h) (k:∀ b u,h.get? b=some u->h'.get? b=some u):HOk P w H h':=fun a o e=>
 (x a o e).stay (fun b u _ q=>k b u q) (fun _ q=>q) fun _ _ q=>q
theorem HOk.laid (x:HOk P w H h) (k:∀ b u,h.get? b=some u->h'.get? b=some u) (hp:h.objs.size<=a) (new:ObjOk P w (upd H a o) h' a o):HOk P w (upd H a o) h':=fun b u e=>by
 have hn:=x.fresh hp
 by_cases hb:b=a
 ·subst hb;rw [Ad] at e;cases e;exact new
 ·rw [Ah hb] at e
  exact (x b u e).stay (fun c v _ q=>k c v q) (fun c q=>by rw [Ah (Az q hn)];exact q) fun c xs q=>by rw [Ah (Az q hn)];exact q
end
noncomputable def Rd (H:Hp) (a:Addr) (u:HO):Prop:=H a=some u \/ ∃ o,H a=some (.frz o u)
theorem Rd.ok {P:aI} {w:bp} {H:Hp} {h:Heap} {a:Addr} {u:HO} (r:Rd H a u) (x:HOk P w H h):ObjOk P w H h a u:=by
 rcases r with r|⟨o,r⟩
 ·exact x a u r
 ·obtain⟨_,q⟩:=x a _ r
  exact q
noncomputable def Mut:Option HO->Prop
 | some (.lst _)=>True
 | some (.dK _)=>True
 | some (.dT _)=>True
 | some (.set _ _)=>True
 | some (.ins _ _ _)=>True
 | some (.ext _)=>True
 | _=>False
section
variable {P:aI} {w:bp} {H:Hp} {h h':Heap} {x e:Addr} {o':HO}
theorem HOk.write (ok:HOk P w H h) (mu:Mut (H x)) (he:e=x\/H e=some (.own x)) (k:∀ b u,b≠e->h.get? b=some u->h'.get? b=some u) (heo:∃ u,h'.get? e=some u)
  (new:ObjOk P w (upd H x o') h' x o'):HOk P w (upd H x o') h':=fun b u q=>by
 have nown:∀ c y,H c=some (.own y)->c≠x:=fun c y r z=>by subst z;rw [r] at mu;exact mu
 have ntup:∀ c xs,H c=some (.tup xs)->c≠x:=fun c xs r z=>by subst z;rw [r] at mu;exact mu
 by_cases hb:b=x
 ·subst hb;rw [Ad] at q;cases q;exact new
 ·rw [Ah hb] at q
  by_cases hbe:b=e
  ·have q':H b=some (.own x):=by
    rcases he with z|z
    ·exact absurd (hbe.trans z) hb
    ·rw [hbe];exact z
   rw [q] at q';cases q'
   obtain⟨v,hv⟩:=heo
   exact⟨v,by rw [hbe];exact hv⟩
  ·refine (ok b u q).stay (fun c v hc r=>k c v ?_ r) (fun c r=>by rw [Ah (nown c b r)];exact r) fun c xs r=>by rw [Ah (ntup c xs r)];exact r
   rcases hc with rfl|hc
   ·exact hbe
   ·rintro rfl
    rcases he with z|z
    ·exact nown c b hc z
    ·rw [hc] at z;cases z;exact hb rfl
end
structure Un (fs ex:List Addr) (H H':Hp) (h h':Heap):Prop where
 keep:∀ b o,h.get? b=some o->H b=none->b∉fs->b∉ex->h'.get? b=some o
 slot:∀ b o,h.get? b=some o->H b=none->b∈fs->b∉ex -> ∃ sl,h'.get? b=some { o with slots:=sl }
 free:∀ b o,h.get? b=some o->H b=none->b∉ex->H' b=none
 there:∀ b o,h.get? b=some o->b∉ex -> ∃ o',h'.get? b=some o'
 tups:∀ b xs,H b=some (.tup xs)->H' b=some (.tup xs)
 frzs:∀ b o u,H b=some (.frz o u)->H' b=some (.frz o u)
 tbls:∀ b ps,H b=some (.tbl ps) -> ∃ more,H' b=some (.tbl (ps++more))
section
variable {fs fs' ex ex':List Addr} {H H1 H2:Hp} {h h1 h2 h':Heap} {a x e:Addr} {o:HO}
theorem Un.any (u:Un fs ex H H1 h h1) {b:Addr} {ob:Obj} (q:h.get? b=some ob) (n:H b=none) (hx:b∉ex):∃ sl,h1.get? b=some { ob with slots:=sl }:=by
 by_cases hb:b∈fs
 ·exact u.slot b ob q n hb hx
 ·exact⟨ob.slots,u.keep b ob q n hb hx⟩
theorem Un.kept (k:∀ b u,h.get? b=some u->h'.get? b=some u):Un fs ex H H h h':=
 ⟨fun b ob q _ _ _=>k b ob q,fun b ob q _ _ _=>⟨ob.slots,k b ob q⟩,fun _ _ _ n _=>n,fun b ob q _=>⟨ob,k b ob q⟩,fun _ _ q=>q,fun _ _ _ q=>q,fun _ ps q=>⟨#[],by rw [q];simp⟩⟩
theorem Un.refl:Un fs ex H H h h:=Un.kept fun _ _ q=>q
theorem Un.laid (k:∀ b u,h.get? b=some u->h'.get? b=some u) (hp:h.objs.size<=a) (hn:H a=none):Un fs ex H (upd H a o) h h' where
 keep:=fun b u q _ _ _=>k b u q
 slot:=fun b u q _ _ _=>⟨u.slots,k b u q⟩
 free:=fun b u q n _=>by rw [Ah (aH (aO (aF q) hp))];exact n
 there:=fun b u q _=>⟨u,k b u q⟩
 tups:=fun b xs q=>by rw [Ah (Az q hn)];exact q
 frzs:=fun b u xs q=>by rw [Ah (Az q hn)];exact q
 tbls:=fun b ps q=>⟨#[],by rw [Ah (Az q hn),q];simp⟩
theorem Un.write (mu:Mut (H x)) (he:e=x\/H e=some (.own x)) (k:∀ b u,b≠e->h.get? b=some u->h'.get? b=some u) (heo:∃ u,h'.get? e=some u):Un fs ex H (upd H x o) h h':=by
 have hx:∀ b,H b=none->b≠x:=fun b n z=>by subst z;rw [n] at mu;exact mu
 have hb:∀ b,H b=none->b≠e:=fun b n z=>by
  subst z
  rcases he with r|r
  ·exact hx b n r
  ·rw [n] at r;cases r
 have hm:∀ b u,H b=some u -> ¬ Mut (some u)->b≠x:=fun b u q nm z=>by subst z;rw [q] at mu;exact nm mu
 refine⟨fun b u q n _ _=>k b u (hb b n) q,fun b u q n _ _=>⟨u.slots,k b u (hb b n) q⟩,fun b u q n _=>by rw [Ah (hx b n)];exact n,fun b u q _=>?_,
  fun b xs q=>by rw [Ah (hm b _ q fun z=>z)];exact q,fun b u xs q=>by rw [Ah (hm b _ q fun z=>z)];exact q,fun b ps q=>⟨#[],by rw [Ah (hm b _ q fun z=>z),q];simp⟩⟩
 by_cases hbe:b=e
 ·subst hbe;exact heo
 ·exact⟨u,k b u hbe q⟩
end
noncomputable def trk (h:Heap) (H:Hp):List Addr:=(bC h.objs.size).filter fun a=>(H a).isSome
noncomputable def L8 (h:Heap) (H:Hp):Heap:=PySem.W.hideAll h (trk h H)
theorem Vw (h:Heap) (H:Hp):(L8 h H).objs.size=h.objs.size:=PySem.W.hideAll_size _ _
theorem Yv {h:Heap} {H:Hp} {b:Addr} {o:Obj} (e:h.get? b=some o) (n:H b=none):(L8 h H).get? b=some o:=
 PySem.W.hideAll_get _ e fun hm=>by
  have q:(H b).isSome=true:=(List.mem_filter.mp hm).2
  rw [n] at q;simp at q
theorem an1 {h:Heap} {H:Hp} {b:Addr} {o:Obj} (e:(L8 h H).get? b=some o):h.get? b=some o/\H b=none:=by
 have e':h.get? b=some o:=PySem.W.of_hideAll (trk h H) e
 refine⟨e',?_⟩
 cases q:H b with
 | none=>rfl
 | some x=>
  have hm:b∈trk h H:=List.mem_filter.mpr ⟨List.mem_range.mpr (aF e'),by simp [q]⟩
  have z:(L8 h H).get? b=none:=PySem.W.hideAll_none (trk h H) hm
  rw [z] at e;cases e
structure Mod (K:ae) (mg:Str->Option Value) (base:Heap):Prop where
 kin:K.In base
 glob:base.Ns aZ mg
 blt:∃ mb,base.Ns builtinsNs mb /\ ∀ x:Str,x ≠ "__name__" -> mb x=cS x
 nolimit:base.NoLimit
structure Cx where
 prog:aI
 w:bp
 K:ae
 mg:Str->Option Value
 base:Heap
 A:bi
 N:List Str
 s₀:aj
 H₀:Hp
 env:Env
 outer:List Env
 stack:List Env
 ex:List Addr
 fn:Str->Bool
 calm:Bool
 pn:List (Addr×Obj)
 xe:Value->aj->Prop
noncomputable def frs (l:List Env):List Addr:=l.filterMap (·.frame)
noncomputable abbrev Cx.fs (X:Cx):List Addr:=frs X.outer
noncomputable def Vis (sc:Scope) (x:Str):Prop:=sc.names.lookup x=some .local\/sc.names.lookup x=some .cell\/sc.names.lookup x=some .free
noncomputable def Loc (sc:Scope) (x:Str):Prop:=sc.names.lookup x=some .local\/sc.names.lookup x=some .cell
noncomputable def b90 (env:Env) (h:Heap) (m:Str->Option Value) (x:Str) (u:Value):Prop:=
 (env.kindOf x=some .local/\m x=some u)\/((env.kindOf x=some .cell\/env.kindOf x=some .free) /\ ∃ c,env.cells.lookup x=some c/\h.IsCell c (some u))
noncomputable def Tl (_:ae) (_:Nat):Prop:=True
structure Cx.Ok (X:Cx):Prop where
 mod:Mod X.K X.mg X.base
 kind:X.env.scope.kind=.function
 glob:X.env.globals=aZ
 blt:X.env.builtins=builtinsNs
 above:X.s₀.heap.objs.size<=X.env.locals
 inj:∀ x y c,X.env.cells.lookup x=some c->X.env.cells.lookup y=some c->x=y
 has:∀ x,(X.env.kindOf x=some .cell\/X.env.kindOf x=some .free) -> ∃ c,X.env.cells.lookup x=some c
 cab:∀ x c,X.fn x=true->X.env.cells.lookup x=some c->X.s₀.heap.objs.size<=c
 hd:X.calm=true->X.A.handled=none
 frames:X.A.frames=some X.stack
 stk:X.stack=X.outer\/(X.stack=X.env::X.outer/\X.env.frame=some X.env.locals)
 exf:∀ b∈X.ex,b≠X.env.locals /\ ∀ x c,X.env.cells.lookup x=some c->c≠b
 bs:∀ b o,X.base.get? b=some o->X.s₀.heap.get? b=some o/\X.H₀ b=none
 bsz:X.base.objs.size<=X.s₀.heap.objs.size
 noex:∀ b o,X.base.get? b=some o->b∉X.ex
 exfs:∀ b∈X.ex,b∉X.fs
 funs:X.s₀.heap.FunFrames X.base X.outer
 frf:∀ b∈X.fs,X.H₀ b=none
 tk:Tl X.K X.s₀.toks
structure Inv (X:Cx) (pins:List (Addr×Obj)) (σ:List (Option V)) (H:Hp) (s:aj):Prop where
 ok:X.Ok
 os:s.os=X.s₀.os/\X.s₀.toks<=s.toks
 bare:jQ s.gens
 base:Un X.fs X.ex X.H₀ H X.s₀.heap s.heap
 loc:∃ m,s.heap.Ns X.env.locals m /\ ∀ (i:Nat) (x:Str) (v:V),X.N[i]? = some x->σ[i]? = some (some v)->Vis X.env.scope x -> ∃ u,RelV v u/\b90 X.env s.heap m x u
 cell:∀ x c,X.env.cells.lookup x=some c -> ∃ v,s.heap.IsCell c v
 free:H X.env.locals=none
 freeC:∀ x c,X.env.cells.lookup x=some c->H c=none
 pin:∀ p∈X.pn++pins,s.heap.get? p.1=some p.2/\H p.1=none/\p.1≠X.env.locals/\p.1∉X.fs /\ ∀ v,p.2.data≠.cell v
 hok:HOk X.prog X.w H s.heap
 len:σ.length=X.N.length
section
variable {X:Cx} {pins:List (Addr×Obj)} {σ:List (Option V)} {H H':Hp} {s:aj} {h':Heap}
theorem Cx.Ok.nofr (ok:X.Ok) {b:Addr} {o:Obj} (e:X.base.get? b=some o):b∉X.fs:=fun hb=>by
 have:=(ok.funs.mem hb).1
 rw [e] at this;cases this
theorem Inv.bs (I:Inv X pins σ H s):∀ b o,X.base.get? b=some o->s.heap.get? b=some o/\H b=none:=fun b o e=>
 ⟨I.base.keep b o (I.ok.bs b o e).1 (I.ok.bs b o e).2 (I.ok.nofr e) (I.ok.noex b o e),I.base.free b o (I.ok.bs b o e).1 (I.ok.bs b o e).2 (I.ok.noex b o e)⟩
theorem Inv.bk (I:Inv X pins σ H s):∀ b o,X.base.get? b=some o->s.heap.get? b=some o:=fun b o e=>(I.bs b o e).1
theorem Inv.mod (I:Inv X pins σ H s):Mod X.K X.mg X.base:=I.ok.mod
theorem Inv.kIn (I:Inv X pins σ H s):X.K.In s.heap:=I.ok.mod.kin.keeps I.bk
theorem Inv.lt (I:Inv X pins σ H s):X.env.locals<s.heap.objs.size:=let ⟨_,hn,_⟩:=I.loc;hn.lt
theorem Inv.sz (I:Inv X pins σ H s):X.s₀.heap.objs.size<=s.heap.objs.size:=aL I.ok.above (fu I.lt)
theorem Inv.nofs (I:Inv X pins σ H s) {a:Addr} (h:s.heap.objs.size<=a):a∉X.fs:=fun hb=>by
 obtain⟨_,o,ho,_⟩:=I.ok.funs.mem hb
 exact absurd (aO (aF ho) (aL I.sz h)) (eQ _)
theorem Inv.cne (I:Inv X pins σ H s):∀ x c,X.env.cells.lookup x=some c->c≠X.env.locals:=fun x c e z=>by
 obtain⟨v,o,ho,hd⟩:=I.cell x c e
 obtain⟨m,⟨o',es,ep,ho',hd',_⟩,_⟩:=I.loc
 rw [z,ho'] at ho;cases ho;rw [hd'] at hd;cases hd
theorem Inv.funs (I:Inv X pins σ H s):s.heap.FunFrames X.base X.outer:=by
 have all:∀ (l:List Env),(∀ b∈frs l,b∈X.fs)->X.s₀.heap.FunFrames X.base l->s.heap.FunFrames X.base l:=by
  intro l
  induction l with
  | nil=>intro _ _;trivial
  | cons env r ih=>
   intro hs hl
   obtain⟨hk,⟨L,o,hf,hn,ho,hd⟩,hr⟩:=hl
   have hL:L∈X.fs:=hs L (by unfold frs;rw [h_,hf];exact bv)
   obtain⟨sl,e⟩:=I.base.slot L o ho (I.ok.frf L hL) hL fun z=>I.ok.exfs L z hL
   exact⟨hk,⟨L,_,hf,hn,e,hd⟩,ih (fun b hb=>hs b (by unfold frs;rw [h_,hf];exact aC _ hb)) hr⟩
 exact all X.outer (fun _ hb=>hb) I.ok.funs
theorem Inv.stack (I:Inv X pins σ H s):s.heap.FunFrames X.base X.stack:=by
 rcases I.ok.stk with e|⟨e,hf⟩
 ·rw [e];exact I.funs
 ·rw [e]
  obtain⟨m,hn,_⟩:=I.loc
  refine .cons (by rw [I.ok.kind];decide) hf hn ?_ I.funs
  exact gX (aL I.ok.bsz I.ok.above)
theorem Inv.stkSub (I:Inv X pins σ H s):∀ b∈frs X.stack,b∈X.env.locals::X.fs:=fun b hb=>by
 rcases I.ok.stk with e|⟨e,hf⟩
 ·rw [e] at hb;exact aC _ hb
 ·rw [e] at hb
  unfold frs at hb
  rw [h_,hf] at hb
  exact hb
theorem Inv.stkFree (I:Inv X pins σ H s):∀ b∈frs X.stack,H b=none:=fun b hb=>by
 rcases List.mem_cons.mp (I.stkSub b hb) with e|hb
 ·rw [e];exact I.free
 ·obtain⟨_,o,ho,_⟩:=I.ok.funs.mem hb
  exact I.base.free b o ho (I.ok.frf b hb) fun z=>I.ok.exfs b z hb
theorem Inv.step {g':Array iF} {t':Nat} {d':Drawn} {ch:List Addr} (I:Inv X pins σ H s)
  (hch:∀ b∈ch,(b∈X.ex\/X.s₀.heap.objs.size<=b)/\b≠X.env.locals/\(∀ x c,X.env.cells.lookup x=some c->c≠b) /\ ∀ p∈X.pn++pins,p.1≠b)
  (keep:∀ b o,b≠X.env.locals->b∉X.fs->b∉ch->s.heap.get? b=some o->H b=none->h'.get? b=some o)
  (slot:∀ b o,b≠X.env.locals->b∈X.fs->b∉ch->s.heap.get? b=some o->H b=none -> ∃ sl,h'.get? b=some { o with slots:=sl }) (free:∀ b o,b∉ch->s.heap.get? b=some o->H b=none->H' b=none)
  (there:∀ b o,b∉ch->s.heap.get? b=some o -> ∃ o',h'.get? b=some o')
  (tups:∀ b xs,H b=some (.tup xs)->H' b=some (.tup xs)) (frzs:∀ b o u,H b=some (.frz o u)->H' b=some (.frz o u)) (tbls:∀ b ps,H b=some (.tbl ps) -> ∃ more,H' b=some (.tbl (ps++more)))
  (ns:∀ m,s.heap.Ns X.env.locals m->h'.Ns X.env.locals m) (hok:HOk X.prog X.w H' h') (hg:jQ g') (ht:s.toks<=t':=by first|exact ah _|exact ba _ _|assumption|omega|(dsimp only;omega)) :
  Inv X pins σ H' { s with heap:=h',gens:=g',drawn:=d',toks:=t' }:=by
 have neL:∀ b o,X.s₀.heap.get? b=some o->b≠X.env.locals:=fun b o e=>aH (aO (aF e) I.ok.above)
 have neC:∀ b o,X.s₀.heap.get? b=some o->b∉X.ex->b∉ch:=fun b o e hx hb=>by
  rcases (hch b hb).1 with z|z
  ·exact hx z
  ·exact absurd (aO (aF e) z) (eQ _)
 have cellK:∀ x c,X.env.cells.lookup x=some c -> ∀ v,s.heap.IsCell c v->h'.IsCell c v:=fun x c e v ⟨o,ho,hd⟩=>by
  have nch:c∉ch:=fun z=>(hch c z).2.2.1 x c e rfl
  by_cases hc:c∈X.fs
  ·obtain⟨sl,q⟩:=slot c o (I.cne x c e) hc nch ho (I.freeC x c e)
   exact⟨_,q,hd⟩
  ·exact⟨o,keep c o (I.cne x c e) hc nch ho (I.freeC x c e),hd⟩
 refine⟨I.ok,⟨I.os.1,aL I.os.2 ht⟩,hg,⟨fun b o e n hb hx=>?_,fun b o e n hb hx=>?_,fun b o e n hx=>?_,fun b o e hx=>?_,fun b xs e=>tups b xs (I.base.tups b xs e),fun b o xs e=>frzs b o xs (I.base.frzs b o xs e),fun b ps e=>?_⟩,?_,fun x c e=>?_,?_,fun x c e=>?_,fun p hp=>?_,hok,I.len⟩
 ·exact keep b o (neL b o e) hb (neC b o e hx) (I.base.keep b o e n hb hx) (I.base.free b o e n hx)
 ·obtain⟨sl,e1⟩:=I.base.slot b o e n hb hx
  obtain⟨sl',e2⟩:=slot b _ (neL b o e) hb (neC b o e hx) e1 (I.base.free b o e n hx)
  exact⟨sl',e2⟩
 ·obtain⟨o',e1⟩:=I.base.there b o e hx
  exact free b o' (neC b o e hx) e1 (I.base.free b o e n hx)
 ·obtain⟨o',e1⟩:=I.base.there b o e hx
  exact there b o' (neC b o e hx) e1
 ·obtain⟨m1,e1⟩:=I.base.tbls b ps e
  obtain⟨m2,e2⟩:=tbls b _ e1
  exact⟨m1++m2,by rw [e2,Array.append_assoc]⟩
 ·obtain⟨m,hn,hl⟩:=I.loc
  refine⟨m,ns m hn,fun i x v e1 e2 e3=>?_⟩
  obtain⟨u,r,l⟩:=hl i x v e1 e2 e3
  refine⟨u,r,?_⟩
  rcases l with l|⟨k,c,e,z⟩
  ·exact .inl l
  ·exact .inr ⟨k,c,e,cellK x c e _ z⟩
 ·obtain⟨v,z⟩:=I.cell x c e
  exact⟨v,cellK x c e v z⟩
 ·obtain⟨m,⟨o,_,_,ho,_⟩,_⟩:=I.loc
  exact free _ o (fun z=>(hch _ z).2.1 rfl) ho I.free
 ·obtain⟨v,o,ho,hd⟩:=I.cell x c e
  exact free c o (fun z=>(hch c z).2.2.1 x c e rfl) ho (I.freeC x c e)
 ·obtain⟨e,n,ne,nf,d⟩:=I.pin p hp
  have nch:p.1∉ch:=fun z=>(hch p.1 z).2.2.2 p hp rfl
  exact⟨keep p.1 p.2 ne nf nch e n,free p.1 p.2 nch e n,ne,nf,d⟩
theorem Inv.un {t':Nat} (I:Inv X pins σ H s) (u:Un X.fs [] H H' s.heap h') (hok:HOk X.prog X.w H' h') (ht:s.toks<=t':=by first|exact ah _|exact ba _ _|assumption|omega|(dsimp only;omega)):Inv X pins σ H' { s with heap:=h',toks:=t' }:=by
 obtain⟨m,⟨o,es,ep,ho,r⟩,_⟩:=id I.loc
 obtain⟨sl,hL⟩:=u.any ho I.free (by simp)
 exact I.step (g':=s.gens) (d':=s.drawn) (ch:=[]) (fun _ z=>nomatch z) (fun b o _ hb _ e n=>u.keep b o e n hb (by simp)) (fun b o _ hb _ e n=>u.slot b o e n hb (by simp)) (fun b o _ e n=>u.free b o e n (by simp)) (fun b o _ e=>u.there b o e (by simp)) u.tups u.frzs u.tbls (fun m' hm=>by
  obtain⟨o',es',ep',ho',r'⟩:=hm
  rw [ho] at ho';cases ho'
  exact⟨_,es',ep',hL,r'⟩) hok I.bare
theorem Inv.call {g':Array iF} {t':Nat} {d':Drawn} {ch:List Addr} (I:Inv X pins σ H s) (u:Un (frs X.stack) ch H H' s.heap h') (hok:HOk X.prog X.w H' h') (hg:jQ g')
  (hch:∀ b∈ch,(b∈X.ex\/X.s₀.heap.objs.size<=b)/\b≠X.env.locals/\(∀ x c,X.env.cells.lookup x=some c->c≠b) /\ ∀ p∈X.pn++pins,p.1≠b) (ht:s.toks<=t':=by first|exact ah _|exact ba _ _|assumption|omega|(dsimp only;omega)) :
  Inv X pins σ H' { s with heap:=h',gens:=g',drawn:=d',toks:=t' }:=by
 obtain⟨m,⟨o,es,ep,ho,r⟩,_⟩:=id I.loc
 obtain⟨sl,hL⟩:=u.any ho I.free fun z=>(hch _ z).2.1 rfl
 exact I.step (ch:=ch) hch (fun b o hL hb hc e n=>u.keep b o e n (fun z=>(List.mem_cons.mp (I.stkSub b z)).elim hL hb) hc) (fun b o _ _ hc e n=>u.any e n hc) (fun b o hc e n=>u.free b o e n hc) (fun b o hc e=>u.there b o e hc) u.tups u.frzs u.tbls (fun m' hm=>by
  obtain⟨o',es',ep',ho',r'⟩:=hm
  rw [ho] at ho';cases ho'
  exact⟨_,es',ep',hL,r'⟩) hok hg
theorem Inv.turned {t':Nat} {it:Addr} (I:Inv X pins σ H s) (k:∀ b o,b≠it->s.heap.get? b=some o->h'.get? b=some o) (hn:H it=none) (hL:it≠X.env.locals)
  (h1:it∈X.ex\/X.s₀.heap.objs.size<=it) (h2:∀ x c,X.env.cells.lookup x=some c->c≠it) (h3:∀ p∈X.pn++pins,p.1≠it) (ht:s.toks<=t':=by first|exact ah _|exact ba _ _|assumption|omega|(dsimp only;omega)):Inv X pins σ H { s with heap:=h',toks:=t' }:=by
 have nit:∀ b u,H b=some u->b≠it:=fun b u e z=>by rw [z,hn] at e;cases e
 refine I.step (g':=s.gens) (d':=s.drawn) (ch:=[it]) (fun b hb=>?_) (fun b o _ _ hc e _=>k b o (fun z=>hc (by simp [z])) e) (fun b o _ _ hc e _=>⟨o.slots,k b o (fun z=>hc (by simp [z])) e⟩) (fun _ _ _ _ n=>n)
  (fun b o hc e=>⟨o,k b o (fun z=>hc (by simp [z])) e⟩) (fun _ _ e=>e) (fun _ _ _ e=>e) (fun b ps e=>⟨#[],by rw [e];simp⟩) (fun m hm=>?_) (fun b u e=>?_) I.bare
 ·have e:b=it:=by simpa using hb
  subst e
  exact⟨h1,hL,h2,h3⟩
 ·obtain⟨o,es,ep,ho,r⟩:=hm
  exact⟨o,es,ep,k _ o (bZ hL) ho,r⟩
 ·refine (I.hok b u e).stay (fun c v hc q=>k c v ?_ q) (fun _ q=>q) fun _ _ q=>q
  rcases hc with z|z
  ·rw [z];exact nit b u e
  ·exact nit c _ z
theorem Inv.tok (I:Inv X pins σ H s) (t:Nat) (ht:s.toks<=t:=by first|exact ah _|exact ba _ _|assumption|omega|(dsimp only;omega)):Inv X pins σ H { s with toks:=t }:=I.un (h':=s.heap) (t':=t) Un.refl I.hok ht
theorem Inv.kept {t':Nat} (I:Inv X pins σ H s) (k:∀ b u,s.heap.get? b=some u->h'.get? b=some u) (ht:s.toks<=t':=by first|exact ah _|exact ba _ _|assumption|omega|(dsimp only;omega)):Inv X pins σ H { s with heap:=h',toks:=t' }:=I.un (Un.kept k) (I.hok.kept k) ht
theorem Inv.laid {a:Addr} {o:HO} {t':Nat} (I:Inv X pins σ H s) (k:∀ b u,s.heap.get? b=some u->h'.get? b=some u) (hp:s.heap.objs.size<=a) (new:ObjOk X.prog X.w (upd H a o) h' a o) (ht:s.toks<=t':=by first|exact ah _|exact ba _ _|assumption|omega|(dsimp only;omega)) :
  Inv X pins σ (upd H a o) { s with heap:=h',toks:=t' }:=I.un (Un.laid k hp (I.hok.fresh hp)) (I.hok.laid k hp new) ht
theorem Inv.write {x e:Addr} {o:HO} {t':Nat} (I:Inv X pins σ H s) (mu:Mut (H x)) (he:e=x\/H e=some (.own x)) (k:∀ b u,b≠e->s.heap.get? b=some u->h'.get? b=some u) (heo:∃ u,h'.get? e=some u)
  (new:ObjOk X.prog X.w (upd H x o) h' x o) (ht:s.toks<=t':=by first|exact ah _|exact ba _ _|assumption|omega|(dsimp only;omega)):Inv X pins σ (upd H x o) { s with heap:=h',toks:=t' }:=I.un (Un.write mu he k heo) (I.hok.write mu he k heo new) ht
theorem Inv.pins_of {pins':List (Addr×Obj)} (I:Inv X pins σ H s) (h:∀ p∈pins',s.heap.get? p.1=some p.2/\H p.1=none/\p.1≠X.env.locals/\p.1∉X.fs /\ ∀ v,p.2.data≠.cell v):Inv X pins' σ H s:=
 ⟨I.ok,I.os,I.bare,I.base,I.loc,I.cell,I.free,I.freeC,fun p hp=>(List.mem_append.mp hp).elim (fun z=>I.pin p (gY _ z)) (h p),I.hok,I.len⟩
theorem Oz {N:List Str} (hN:N.Nodup) {i j:Nat} {x:Str} (a:N[i]? = some x) (b:N[j]? = some x):i=j:=by
 obtain⟨h1,e1⟩:=List.getElem?_eq_some_iff.mp a
 obtain⟨h2,e2⟩:=List.getElem?_eq_some_iff.mp b
 exact (List.getElem_inj hN).mp (e1.trans e2.symm)
theorem Wm {M:Model} {A:bi} {E:Value->aj->Prop} {i:Nat} {x:Str} {v:V} {u:Value} {Q:Unit->aj->Prop} (I:Inv X pins σ H s) (hN:X.N.Nodup) (hi:X.N[i]? = some x) (hx:Loc X.env.scope x) (r:RelV v u)
  (h:∀ s',Inv X pins (σ.set i (some v)) H s'->(∃ a,br a s.heap s'.heap/\(a=X.env.locals\/X.env.cells.lookup x=some a))->Q () s') (hf:X.fn x=true\/X.env.scope.names.lookup x=some .local:=by first|exact .inl rfl|exact .inr rfl|assumption):aJ M A (storeName X.env x u) Q E s:=by
 obtain⟨m,hn,hl⟩:=id I.loc
 have hcls:(X.env.scope.kind==.class||(X.env.scope.kind==.module&&X.env.locals != X.env.globals))=false:=by rw [I.ok.kind];rfl
 have hiσ:i<σ.length:=by rw [I.len];exact (List.getElem?_eq_some_iff.mp hi).1
 have cne:=I.cne
 have tracked:∀ {a:Addr} {h':Heap},(∃ o,s.heap.get? a=some o/\H a=none)->br a s.heap h'->HOk X.prog X.w H h':=fun {a h'} ha hs b ob e=>by
  obtain⟨_,_,hfree⟩:=ha
  refine (I.hok b ob e).stay (fun c w' hc q=>(hs.2 c ?_).trans q) (fun _ q=>q) fun _ _ q=>q
  rintro rfl
  rcases hc with rfl|hc
  ·rw [hfree] at e;cases e
  ·rw [hfree] at hc;cases hc
 rcases hx with hk|hk
 ·refine wpAny_storeName_local hk hn (fun h' hn' hs=>?_) hcls
  obtain⟨oL,_,_,hoL,_⟩:=id hn
  refine h _ ⟨I.ok,⟨I.os.1,aL I.os.2 (by first|exact ah _|exact ba _ _)⟩,I.bare,⟨fun b o e n hb hx=>?_,fun b o e n hb hx=>?_,I.base.free,fun b o e hx=>?_,I.base.tups,I.base.frzs,I.base.tbls⟩,⟨_,hn',fun j y v' e1 e2 e3=>?_⟩,fun y c e=>?_,I.free,I.freeC,fun p hp=>?_,tracked ⟨oL,hoL,I.free⟩ hs,by simpa using I.len⟩ ⟨_,hs,.inl rfl⟩
  ·exact (hs.2 b (aH (aO (aF e) I.ok.above))).trans (I.base.keep b o e n hb hx)
  ·obtain⟨sl,e1⟩:=I.base.slot b o e n hb hx
   exact⟨sl,(hs.2 b (aH (aO (aF e) I.ok.above))).trans e1⟩
  ·obtain⟨o',e1⟩:=I.base.there b o e hx
   exact⟨o',(hs.2 b (aH (aO (aF e) I.ok.above))).trans e1⟩
  ·by_cases hj:j=i
   ·subst hj
    rw [hi] at e1;cases e1
    rw [jH hiσ] at e2
    cases e2
    exact⟨u,r,.inl ⟨hk,by simp⟩⟩
   ·rw [km (bZ hj)] at e2
    obtain⟨u',r',q⟩:=hl j y v' e1 e2 e3
    refine⟨u',r',?_⟩
    rcases q with ⟨k,e⟩|⟨k,c,e,z⟩
    ·refine .inl ⟨k,?_⟩
     have:y≠x:=fun e=>hj (Oz hN e1 (e▸hi))
     simp [this,e]
    ·exact .inr ⟨k,c,e,z.sameBut hs (cne y c e)⟩
  ·obtain⟨w',z⟩:=I.cell y c e
   exact⟨w',z.sameBut hs (cne y c e)⟩
  ·obtain⟨e,n,ne,nf,d⟩:=I.pin p hp
   exact⟨(hs.2 p.1 ne).trans e,n,ne,nf,d⟩
 ·have hfn:X.fn x=true:=by
   rcases hf with z|z
   ·exact z
   ·rw [z] at hk;cases hk
  obtain⟨c,hc⟩:=I.ok.has x (.inl hk)
  obtain⟨w',z⟩:=I.cell x c hc
  refine wpAny_storeName_cell I.ok.kind hk hc z (fun h' hc' hs=>?_)
  obtain⟨oc,hoc,hocd⟩:=id z
  refine h { s with heap:=h' } ⟨I.ok,I.os,I.bare,⟨fun b o e n hb hx=>?_,fun b o e n hb hx=>?_,I.base.free,fun b o e hx=>?_,I.base.tups,I.base.frzs,I.base.tbls⟩,⟨m,hn.sameBut hs (bZ (cne x c hc)),fun j y v' e1 e2 e3=>?_⟩,fun y c' e=>?_,I.free,I.freeC,fun p hp=>?_,tracked ⟨oc,hoc,I.freeC x c hc⟩ hs,by simpa using I.len⟩ ⟨c,hs,.inr hc⟩
  ·exact (hs.2 b (aH (aO (aF e) (I.ok.cab x c hfn hc)))).trans (I.base.keep b o e n hb hx)
  ·obtain⟨sl,e1⟩:=I.base.slot b o e n hb hx
   exact⟨sl,(hs.2 b (aH (aO (aF e) (I.ok.cab x c hfn hc)))).trans e1⟩
  ·obtain⟨o',e1⟩:=I.base.there b o e hx
   exact⟨o',(hs.2 b (aH (aO (aF e) (I.ok.cab x c hfn hc)))).trans e1⟩
  ·by_cases hj:j=i
   ·subst hj
    rw [hi] at e1;cases e1
    rw [jH hiσ] at e2
    cases e2
    exact⟨u,r,.inr ⟨.inl hk,c,hc,hc'⟩⟩
   ·rw [km (bZ hj)] at e2
    obtain⟨u',r',q⟩:=hl j y v' e1 e2 e3
    refine⟨u',r',?_⟩
    rcases q with q|⟨k,c',e,z'⟩
    ·exact .inl q
    ·refine .inr ⟨k,c',e,z'.sameBut hs ?_⟩
     rintro rfl
     exact hj (Oz hN e1 (I.ok.inj _ _ _ e hc▸hi))
  ·by_cases hcc:c'=c
   ·subst hcc;exact⟨_,hc'⟩
   ·obtain⟨w2,z2⟩:=I.cell y c' e
    exact⟨w2,z2.sameBut hs hcc⟩
  ·obtain⟨e,n,ne,nf,d⟩:=I.pin p hp
   refine⟨(hs.2 p.1 ?_).trans e,n,ne,nf,d⟩
   intro q
   rw [q,hoc] at e
   have q':oc=p.2:=aV e
   exact d w' (by rw [<- q'];exact hocd)
theorem J8 {M:Model} {A:bi} {E:Value->aj->Prop} {i:Nat} {x:Str} {v:V} {u:Value} {Q:Unit->aj->Prop} (I:Inv X pins σ H s) (hN:X.N.Nodup) (hi:X.N[i]? = some x) (hx:Loc X.env.scope x) (r:RelV v u)
  (h:∀ s',Inv X pins (σ.set i (some v)) H s'->Q () s') (hf:X.fn x=true\/X.env.scope.names.lookup x=some .local:=by first|exact .inl rfl|exact .inr rfl|assumption):aJ M A (storeName X.env x u) Q E s:=
 Wm I hN hi hx r (fun s' I' _=>h s' I') hf
theorem Inv.call' {s':aj} {ch:List Addr} (I:Inv X pins σ H s) (ho:s'.os=s.os/\s.toks<=s'.toks) (u:Un (frs X.stack) ch H H' s.heap s'.heap) (hok:HOk X.prog X.w H' s'.heap) (hg:jQ s'.gens)
  (hch:∀ b∈ch,(b∈X.ex\/X.s₀.heap.objs.size<=b)/\b≠X.env.locals/\(∀ x c,X.env.cells.lookup x=some c->c≠b) /\ ∀ p∈X.pn++pins,p.1≠b):Inv X pins σ H' s':=by
 obtain⟨h',g',d',t',o'⟩:=s'
 have e:o'=s.os:=ho.1
 subst e
 exact I.call (g':=g') (t':=t') (d':=d') u hok hg hch ho.2
end
noncomputable abbrev XK:=Value->Option Addr->Hp->Prop
noncomputable abbrev St:=List (Option V)
noncomputable abbrev VK:=V->Hp->Prop
noncomputable abbrev TE:=St->Hp->VK->Prop
noncomputable abbrev TT:=St->Hp->(Bool->Hp->Prop)->Prop
noncomputable abbrev TA:=St->Hp->(List V->Hp->Prop)->Prop
structure Pq where
 nx:St->Hp->Prop
 rt:VK
 bk:St->Hp->Prop:=fun _ _=>False
 ct:St->Hp->Prop:=fun _ _=>False
noncomputable abbrev TS:=Pq->St->Hp->Prop
noncomputable def EP (X:Cx) (pins:List (Addr×Obj)) (σ:St) (Q:VK) (u:Value) (s':aj):Prop:=∃ v H',Inv X pins σ H' s'/\RelV v u/\Q v H'
noncomputable def TP (X:Cx) (pins:List (Addr×Obj)) (σ:St) (Q:Bool->Hp->Prop) (b:Bool) (s':aj):Prop:=∃ H',Inv X pins σ H' s'/\Q b H'
noncomputable def AP (X:Cx) (pins:List (Addr×Obj)) (σ:St) (Q:List V->Hp->Prop) (us:List Value) (s':aj):Prop:=∃ vs H',Inv X pins σ H' s'/\Vals vs us/\Q vs H'
noncomputable def SP (X:Cx) (pins:List (Addr×Obj)) (D:Pq) (f:Flow) (s':aj):Prop:=
 match f with
 | .next=>∃ σ' H',Inv X pins σ' H' s'/\D.nx σ' H'
 | .brk=>∃ σ' H',Inv X pins σ' H' s'/\D.bk σ' H'
 | .cont=>∃ σ' H',Inv X pins σ' H' s'/\D.ct σ' H'
 | .ret u=>∃ v σ' H',Inv X pins σ' H' s'/\RelV v u/\D.rt v H'
noncomputable def PE (X:Cx) (e:Expr) (t:TE):Prop:=
 ∀ (pins:List (Addr×Obj)) (s:aj) (σ:St) (H:Hp) (Q:VK),Inv X pins σ H s->t σ H Q->aJ (model X.prog X.w) X.A (eval e X.env) (EP X pins σ Q) X.xe s
noncomputable def PT (X:Cx) (e:Expr) (t:TT):Prop:=
 ∀ (pins:List (Addr×Obj)) (s:aj) (σ:St) (H:Hp) (Q:Bool->Hp->Prop),Inv X pins σ H s->t σ H Q->aJ (model X.prog X.w) X.A (isTrue e X.env (eval e X.env)) (TP X pins σ Q) X.xe s
noncomputable def PW (X:Cx) (e:Expr) (t:TT):Prop:=
 ∀ (whole:Sem Value) (pins:List (Addr×Obj)) (s:aj) (σ:St) (H:Hp) (Q:Bool->Hp->Prop),Inv X pins σ H s->t σ H Q->aJ (model X.prog X.w) X.A (isTrue e X.env whole) (TP X pins σ Q) X.xe s
theorem PW.pt {X:Cx} {e:Expr} {t:TT} (h:PW X e t):PT X e t:=h _
noncomputable def PA (X:Cx) (es:List Expr) (t:TA):Prop:=
 ∀ (pos:Pos) (pins:List (Addr×Obj)) (s:aj) (σ:St) (H:Hp) (Q:List V->Hp->Prop),Inv X pins σ H s->t σ H Q->aJ (model X.prog X.w) X.A (spliced (jA pos (cO es X.env))) (AP X pins σ Q) X.xe s
noncomputable def PS (X:Cx) (st:Stmt) (t:TS):Prop:=
 ∀ (pins:List (Addr×Obj)) (s:aj) (σ:St) (H:Hp) (D:Pq),Inv X pins σ H s->t D σ H->aJ (model X.prog X.w) X.A (exec st X.env) (SP X pins D) X.xe s
noncomputable def PSs (X:Cx) (st:List Stmt) (t:TS):Prop:=
 ∀ (pins:List (Addr×Obj)) (s:aj) (σ:St) (H:Hp) (D:Pq),Inv X pins σ H s->t D σ H->aJ (model X.prog X.w) X.A (execs st X.env) (SP X pins D) X.xe s
theorem thn {α:Type} {t:Sem α} {Q Q':α->aj->Prop} {M:Model} {A:bi} {E:Value->aj->Prop} {s:aj} (h:aJ M A t Q E s) (hQ:∀ a s,Q a s->Q' a s):aJ M A t Q' E s:=b6 h hQ fun _ _ x=>x
section
variable {X:Cx}
noncomputable def cc4 (i:Nat):TE:=fun σ H Q=>∃ v,σ[i]? = some (some v)/\Q v H
noncomputable def tC (v:V):TE:=fun _ H Q=>Q v H
theorem bd9 {i:Nat} {x:Str} {pos:Pos} (hN:X.N[i]? = some x) (hv:Vis X.env.scope x) (hd:(x==("__debug__" : Str))=false:=by decide) (hcd:(x==("__classdict__" : Str))=false:=by decide):PE X (.Name x pos) (cc4 i):=by
 intro pins s σ H Q I h
 obtain⟨v,e,h⟩:=h
 obtain⟨m,hn,hl⟩:=I.loc
 obtain⟨u,r,l⟩:=hl i x v hN e hv
 have fin:EP X pins σ Q u s:=⟨v,H,I,r,h⟩
 rcases l with ⟨hk,hm⟩|⟨hk,c,hc,hcell⟩
 ·exact wpAny_Name (wpAny_loadName_local I.ok.kind hk hn hm fin) hd
 ·rcases hk with hk|hk
  ·exact wpAny_Name (wpAny_loadName_cell I.ok.kind hk hc hcell fin) hd
  ·exact wpAny_Name (wpAny_loadName_free I.ok.kind hk hc hcell fin hcd) hd
theorem bd3 {i j pos}:PE X (.Constant (.int i) j pos) (tC (.int i)):=fun _ _ _ H _ I h=>wpAny_Constant_int ⟨.int i,H,I.tok _,⟨_,rfl⟩,h⟩
theorem by2 {b j pos}:PE X (.Constant (.bool b) j pos) (tC (.bl b)):=fun _ _ _ H _ I h=>Constant_bool ⟨.bl b,H,I,rfl,h⟩
theorem bd5 {j pos}:PE X (.Constant .none j pos) (tC .non):=fun _ _ _ H _ I h=>Constant_none ⟨.non,H,I,rfl,h⟩
theorem bd7 {x j pos}:PE X (.Constant (.str x) j pos) (tC (.str x)):=fun _ _ _ H _ I h=>Calls.Constant_str ⟨.str x,H,I.tok _,⟨_,rfl⟩,h⟩
noncomputable def Gl (X:Cx) (x:Str):Prop:=X.env.kindOf x=some .globalImplicit
theorem Dz {E:Value->aj->Prop} {pins:List (Addr×Obj)} {s:aj} {σ:St} {H:Hp} {x:Str} {u:Value} {pos:Pos} {Q:Value->aj->Prop} (I:Inv X pins σ H s) (hg:Gl X x) (hm:X.mg x=some u) (h:Q u s)
  (hd:(x==("__debug__" : Str))=false:=by decide):aJ (model X.prog X.w) X.A (eval (.Name x pos) X.env) Q E s:=
 iA I.ok.kind hg (Calls.loadGlobal_global (by rw [I.ok.glob];exact I.mod.glob.keeps I.bk) hm h) hd
theorem Dy {E:Value->aj->Prop} {pins:List (Addr×Obj)} {s:aj} {σ:St} {H:Hp} {x:Str} {u:Value} {pos:Pos} {Q:Value->aj->Prop} (I:Inv X pins σ H s) (hg:Gl X x) (hm:X.mg x=none) (hv:cS x=some u) (h:Q u s)
  (hn:x ≠ "__name__" := by decide) (hd:(x==("__debug__" : Str))=false:=by decide):aJ (model X.prog X.w) X.A (eval (.Name x pos) X.env) Q E s:=by
 obtain⟨mb,h1,h2⟩:=I.mod.blt
 exact iA I.ok.kind hg (Calls.loadGlobal_builtin (by rw [I.ok.glob];exact I.mod.glob.keeps I.bk) hm (by rw [I.ok.blt];exact h1.keeps I.bk) ((h2 x hn).trans hv) h) hd
theorem Ge {x:Str} {v:V} {u:Value} {pos:Pos} (hg:Gl X x) (hm:X.mg x=some u) (r:RelV v u) (hd:(x==("__debug__" : Str))=false:=by decide):PE X (.Name x pos) (tC v):=
 fun _ _ _ H _ I h=>Dz I hg hm ⟨v,H,I,r,h⟩ hd
theorem ao1 {x:Str} {v:V} {u:Value} {pos:Pos} (hg:Gl X x) (hm:X.mg x=none) (hv:cS x=some u) (r:RelV v u) (hn:x ≠ "__name__" := by decide) (hd:(x==("__debug__" : Str))=false:=by decide):PE X (.Name x pos) (tC v):=
 fun _ _ _ H _ I h=>Dy I hg hm hv ⟨v,H,I,r,h⟩ hn hd
variable {a b:Expr} {ta tb:TE} {pos:Pos}
variable {tA tB':TT} {rest:List Expr}
noncomputable def cb5 (t u:TT):TT:=fun σ H Q=>t σ H fun c H1=>if c=true then u σ H1 Q else Q false H1
noncomputable def tOr (t u:TT):TT:=fun σ H Q=>t σ H fun c H1=>if c=true then Q true H1 else u σ H1 Q
noncomputable def cc0 (t:TT):TT:=fun σ H Q=>t σ H fun c H1=>Q (!c) H1
theorem ap3 (ha:PT X a tA):PW X (.BoolOp .And [a] pos) tA:=by
 intro wh pins s σ H Q I h
 refine isTrue_and (thn (ha pins s σ H Q I h) fun c s1 e=>?_)
 cases c with
 | true=>exact isTrue_and_nil e
 | false=>exact e
theorem be8 (ha:PT X a tA):PW X (.BoolOp .Or [a] pos) tA:=by
 intro wh pins s σ H Q I h
 refine isTrue_or (thn (ha pins s σ H Q I h) fun c s1 e=>?_)
 cases c with
 | false=>exact isTrue_or_nil e
 | true=>exact e
theorem be7 (ha:PT X a tA) (hb:PW X (.BoolOp .And (b::rest) pos) tB'):PW X (.BoolOp .And (a::b::rest) pos) (cb5 tA tB'):=by
 intro wh pins s σ H Q I h
 refine isTrue_and (thn (ha pins s σ H _ I h) fun c s1 ⟨H1,I1,q1⟩=>?_)
 cases c with
 | true=>exact hb wh pins s1 σ H1 Q I1 q1
 | false=>exact⟨H1,I1,q1⟩
theorem by9 (ha:PT X a tA) (hb:PW X (.BoolOp .Or (b::rest) pos) tB'):PW X (.BoolOp .Or (a::b::rest) pos) (tOr tA tB'):=by
 intro wh pins s σ H Q I h
 refine isTrue_or (thn (ha pins s σ H _ I h) fun c s1 ⟨H1,I1,q1⟩=>?_)
 cases c with
 | true=>exact⟨H1,I1,q1⟩
 | false=>exact hb wh pins s1 σ H1 Q I1 q1
theorem be5 (ha:PT X a tA):PT X (.UnaryOp .Not a pos) (cc0 tA):=by
 intro pins s σ H Q I h
 exact isTrue_not (ha pins s σ H (fun c H1=>Q (!c) H1) I h)
theorem bd6 {op} {t:TE} (h:PE X a t):PE X (.BoolOp op [a] pos) t:=fun pins s σ H Q I hw=>BoolOp_one (h pins s σ H Q I hw)
noncomputable def tIf (t:TT) (ta tb:TE):TE:=fun σ H Q=>t σ H fun c H1=>if c=true then ta σ H1 Q else tb σ H1 Q
theorem Zp {c:Expr} (hc:PT X c tA) (ha:PE X a ta) (hb:PE X b tb):PE X (.IfExp c a b pos) (tIf tA ta tb):=by
 intro pins s σ H Q I h
 refine wpAny_IfExp (thn (hc pins s σ H _ I h) fun d s1 ⟨H1,I1,q1⟩=>?_)
 cases d with
 | true=>exact ha pins s1 σ H1 Q I1 q1
 | false=>exact hb pins s1 σ H1 Q I1 q1
end
noncomputable def SqL (K:ae) (H:Hp) (a:Addr) (xs:List V):Prop:=
 Rd H a (.lst xs) \/
  ∃ (o:Obj) (its:Array Value) (n:Nat),K.lookup a=some o/\o.cls=.type "list" /\ o.dict=none/\o.data=.seq its n/\its.size<=sizeLine/\xs.all V.pl=true/\Vals xs its.toList
noncomputable def SqT (K:ae) (H:Hp) (a:Addr) (xs:List V):Prop:=
 Rd H a (.tup xs) \/
  ∃ (o:Obj) (its:Array Value) (n:Nat),K.lookup a=some o/\o.cls=.type "tuple" /\ o.data=.seq its n/\its.size<=sizeLine/\xs.all V.pl=true/\Vals xs its.toList
noncomputable def a51:Value->Option V
 | .none=>some .non
 | .bool b=>some (.bl b)
 | .int i _=>some (.int i)
 | .str x _=>some (.str x)
 | .bytes b _=>some (.byt b)
 | .ref a=>some (.ref a)
 | .type n=>some (.ty n)
 | _=>none
theorem RelV.abs {x:V} {u:Value} (r:RelV x u) (p:x.pl=true):a51 u=some x:=by
 cases x with
 | non=>cases r;rfl
 | bl _=>cases r;rfl
 | int _=>obtain⟨t,rfl⟩:=r;rfl
 | str _=>obtain⟨t,rfl⟩:=r;rfl
 | byt _=>obtain⟨t,rfl⟩:=r;rfl
 | stk _ _ _=>cases p
 | ref _=>cases r;rfl
 | ty _=>cases r;rfl
theorem RelV.inj {x y:V} {u:Value} (r:RelV x u) (q:RelV y u) (p:x.pl=true) (p':y.pl=true):x=y:=aV ((r.abs p).symm.trans (q.abs p'))
theorem Vals.inj:∀ {xs ys:List V} {us:List Value},Vals xs us->Vals ys us->xs.all V.pl=true->ys.all V.pl=true->xs=ys
 | _,_,_,.nil,.nil,_,_=>rfl
 | _,_,_,.cons r t,.cons r' t',p,q=>by
  simp only [bN,aA] at p q
  rw [r.inj r' p.1 q.1,Vals.inj t t' p.2 q.2]
section
variable {X:Cx} {pins:List (Addr×Obj)} {σ:St} {H:Hp} {s:aj} {a:Addr} {xs ys:List V}
theorem SqL.of {K:ae} (h:H a=some (.lst xs)):SqL K H a xs:=.inl (.inl h)
theorem SqT.of {K:ae} (h:H a=some (.tup xs)):SqT K H a xs:=.inl (.inl h)
theorem Inv.list (I:Inv X pins σ H s) (h:SqL X.K H a xs):∃ its:List Value,Vals xs its/\PlainL s.heap a its.toArray/\xs.length<=sizeLine:=by
 rcases h with h|⟨o,its,n,hk,hc,hd,hs,hz,_,r⟩
 ·obtain⟨z,its,n,r,e⟩:=h.ok I.hok
  exact⟨its,r,⟨_,n,e,rfl,rfl,rfl⟩,z⟩
 ·refine⟨its.toList,r,⟨o,n,I.kIn a o hk,hc,hd,by simpa using hs⟩,?_⟩
  have e:=r.length
  simp only [aU] at e
  omega
theorem Inv.tuple (I:Inv X pins σ H s) (h:SqT X.K H a xs):∃ its:List Value,Vals xs its/\mH s.heap a its.toArray/\xs.length<=sizeLine:=by
 rcases h with h|⟨o,its,n,hk,hc,hs,hz,_,r⟩
 ·obtain⟨z,its,r,p⟩:=h.ok I.hok
  exact⟨its,r,p,z⟩
 ·refine⟨its.toList,r,⟨o,I.kIn a o hk,hc,n,by simpa using hs⟩,?_⟩
  have e:=r.length
  simp only [aU] at e
  omega
theorem Inv.notK (I:Inv X pins σ H s) {o:HO} {ob:Obj} (h:Rd H a o) (e:X.K.lookup a=some ob):False:=by
 have n:=(I.bs a ob (I.mod.kin a ob e)).2
 rcases h with h|⟨u,h⟩
 ·rw [n] at h;cases h
 ·rw [n] at h;cases h
theorem Inv.list_inj (I:Inv X pins σ H s) (h:SqL X.K H a xs) (h':SqL X.K H a ys):xs=ys:=by
 rcases h with h|⟨o,its,n,hk,hc,hd,hs,hz,p,r⟩
 ·rcases h' with h'|⟨o',its',n',hk',hc',hd',hs',hz',p',r'⟩
  ·rcases h with h|⟨u,h⟩ <;> rcases h' with h'|⟨u',h'⟩ <;> (rw [h] at h';first|(cases h';rfl)|cases h')
  ·exact (I.notK h hk').elim
 ·rcases h' with h'|⟨o',its',n',hk',hc',hd',hs',hz',p',r'⟩
  ·exact (I.notK h' hk).elim
  ·rw [hk] at hk';cases hk'
   rw [hs] at hs';cases hs'
   exact r.inj r' p p'
theorem Inv.tuple_inj (I:Inv X pins σ H s) (h:SqT X.K H a xs) (h':SqT X.K H a ys):xs=ys:=by
 rcases h with h|⟨o,its,n,hk,hc,hs,hz,p,r⟩
 ·rcases h' with h'|⟨o',its',n',hk',hc',hs',hz',p',r'⟩
  ·rcases h with h|⟨u,h⟩ <;> rcases h' with h'|⟨u',h'⟩ <;> (rw [h] at h';first|(cases h';rfl)|cases h')
  ·exact (I.notK h hk').elim
 ·rcases h' with h'|⟨o',its',n',hk',hc',hs',hz',p',r'⟩
  ·exact (I.notK h' hk).elim
  ·rw [hk] at hk';cases hk'
   rw [hs] at hs';cases hs'
   exact r.inj r' p p'
end
noncomputable abbrev Cx.wish (X:Cx) (E:Value->aj->Prop):Cx:={ X with xe:=E }
noncomputable abbrev Cx.nox (X:Cx):Cx:=X.wish fun _ _=>False
theorem Cx.Ok.wish {X:Cx} (ok:X.Ok) (E:Value->aj->Prop):(X.wish E).Ok:=
 ⟨ok.mod,ok.kind,ok.glob,ok.blt,ok.above,ok.inj,ok.has,ok.cab,ok.hd,ok.frames,ok.stk,ok.exf,ok.bs,ok.bsz,ok.noex,ok.exfs,ok.funs,ok.frf,ok.tk⟩
theorem Cx.Ok.unwish {X:Cx} {E:Value->aj->Prop} (ok:(X.wish E).Ok):X.Ok:=
 ⟨ok.mod,ok.kind,ok.glob,ok.blt,ok.above,ok.inj,ok.has,ok.cab,ok.hd,ok.frames,ok.stk,ok.exf,ok.bs,ok.bsz,ok.noex,ok.exfs,ok.funs,ok.frf,ok.tk⟩
section
variable {X:Cx} {pins:List (Addr×Obj)} {σ:St} {H:Hp} {s:aj} {E:Value->aj->Prop}
theorem Inv.wish (I:Inv X pins σ H s) (E:Value->aj->Prop):Inv (X.wish E) pins σ H s:=⟨I.ok.wish E,I.os,I.bare,I.base,I.loc,I.cell,I.free,I.freeC,I.pin,I.hok,I.len⟩
theorem Inv.unwish (I:Inv (X.wish E) pins σ H s):Inv X pins σ H s:=⟨I.ok.unwish,I.os,I.bare,I.base,I.loc,I.cell,I.free,I.freeC,I.pin,I.hok,I.len⟩
theorem SP.unwish {D:Pq} {f:Flow} {s':aj} (h:SP (X.wish E) pins D f s'):SP X pins D f s':=by
 cases f with
 | next=>obtain⟨σ',H',I,q⟩:=h;exact⟨σ',H',I.unwish,q⟩
 | brk=>obtain⟨σ',H',I,q⟩:=h;exact⟨σ',H',I.unwish,q⟩
 | cont=>obtain⟨σ',H',I,q⟩:=h;exact⟨σ',H',I.unwish,q⟩
 | ret u=>obtain⟨v,σ',H',I,r,q⟩:=h;exact⟨v,σ',H',I.unwish,r,q⟩
theorem PSs.nox {st:List Stmt} {t:TS} (h:PSs X.nox st t):PSs X st t:=fun pins s σ H D I hw=>
 b6 (h pins s σ H D (I.wish _) hw) (fun _ _ q=>q.unwish) fun _ _ z=>b_ z
end
section
variable {X:Cx} {st:Stmt} {rest:List Stmt} {t u:TS} {e:Expr} {te:TE} {pos:Pos}
noncomputable def a20:TS:=fun D σ H=>D.nx σ H
noncomputable def cc2 (t u:TS):TS:=fun D σ H=>t { D with nx:=u D } σ H
theorem ap0:PSs X [] a20:=fun _ _ σ H _ I h=>kb ⟨σ,H,I,h⟩
theorem Z2 (h1:PS X st t) (h2:PSs X rest u):PSs X (st::rest) (cc2 t u):=by
 intro pins s σ H D I h
 refine wpAny_execs_cons (thn (h1 pins s σ H { D with nx:=u D } I h) fun f s1 q=>?_)
 cases f with
 | next=>
  obtain⟨σ',H',I',q⟩:=q
  exact h2 pins s1 σ' H' D I' q
 | ret v=>exact q
 | brk=>exact q
 | cont=>exact q
noncomputable def bo9:TS:=fun D σ H=>D.bk σ H
noncomputable def b46:TS:=fun D σ H=>D.ct σ H
theorem ao7:PS X (.Pass pos) a20:=fun _ _ σ H _ I h=>wpAny_Pass ⟨σ,H,I,h⟩
theorem Zz:PS X (.Break pos) bo9:=fun _ _ σ H _ I h=>wpAny_Break ⟨σ,H,I,h⟩
theorem O5:PS X (.Continue pos) b46:=fun _ _ σ H _ I h=>wpAny_Continue ⟨σ,H,I,h⟩
theorem Inv.quiet {pins:List (Addr×Obj)} {σ:St} {H:Hp} {s:aj} (I:Inv X pins σ H s):interactive X.env=false:=by simp [interactive,I.ok.kind]
noncomputable def b47 (te:TE):TS:=fun D σ H=>te σ H fun _ H1=>D.nx σ H1
theorem ao6 (he:PE X e te) (hs:jg e none pos.line X.env=pure false:=by rfl):PS X (.Expr e pos) (b47 te):=by
 intro pins s σ H D I h
 exact wpAny_Expr_any (thn (he pins s σ H _ I h) fun v s1 ⟨x,H1,I1,r1,q1⟩=>⟨σ,H1,I1,q1⟩) I.quiet hs
noncomputable def cc1 (te:TE):TS:=fun D σ H=>te σ H D.rt
theorem be3 (he:PE X e te):PS X (.Return (some e) pos) (cc1 te):=by
 intro pins s σ H D I h
 exact wpAny_Return_some (thn (he pins s σ H _ I h) fun v s1 ⟨x,H1,I1,r1,q1⟩=>⟨x,σ,H1,I1,r1,q1⟩)
noncomputable def b48:TS:=fun D _ H=>D.rt .non H
theorem ao8:PS X (.Return none pos) b48:=fun _ _ σ H _ I h=>wpAny_Return_none ⟨.non,σ,H,I,rfl,h⟩
noncomputable def cb7 (c:TT) (t u:TS):TS:=fun D σ H=>c σ H fun b H1=>if b=true then t D σ H1 else u D σ H1
theorem by8 {c:Expr} {a b:List Stmt} {tc:TT} (hc:PT X c tc) (ha:PSs X a t) (hb:PSs X b u):PS X (.If c a b pos) (cb7 tc t u):=by
 intro pins s σ H D I h
 refine wpAny_If (thn (hc pins s σ H _ I h) fun d s1 ⟨H1,I1,q1⟩=>?_)
 cases d with
 | true=>exact ha pins s1 σ H1 D I1 q1
 | false=>exact hb pins s1 σ H1 D I1 q1
end
noncomputable abbrev TG:=V->St->Hp->(St->Hp->Prop)->Prop
noncomputable abbrev TGs:=List V->St->Hp->(St->Hp->Prop)->Prop
noncomputable def PG (X:Cx) (target:Expr) (t:TG):Prop:=
 ∀ (pins:List (Addr×Obj)) (s:aj) (σ:St) (H:Hp) (v:V) (u:Value) (Q:St->Hp->Prop),Inv X pins σ H s->RelV v u->t v σ H Q ->
  aJ (model X.prog X.w) X.A (lW target X.env u) (fun _ s'=>∃ σ' H',Inv X pins σ' H' s'/\Q σ' H') X.xe s
noncomputable def PGs (X:Cx) (ts:List Expr) (t:TGs):Prop:=
 ∀ (pins:List (Addr×Obj)) (s:aj) (σ:St) (H:Hp) (vs:List V) (us:List Value) (Q:St->Hp->Prop),Inv X pins σ H s->Vals vs us->t vs σ H Q ->
  aJ (model X.prog X.w) X.A (assignInOrder ((dy ts X.env).map (·.2)) us) (fun _ s'=>∃ σ' H',Inv X pins σ' H' s'/\Q σ' H') X.xe s
noncomputable abbrev a50:=V->V->V->Hp->(Hp->Prop)->Prop
noncomputable def a48 (X:Cx) (t:a50):Prop:=
 ∀ (pins:List (Addr×Obj)) (s:aj) (σ:St) (H:Hp) (o i v:V) (ov iv u:Value) (Q:Hp->Prop),Inv X pins σ H s->RelV o ov->RelV i iv->RelV v u->t o i v H Q ->
  aJ (model X.prog X.w) X.A (setItem ov iv u) (fun _ s'=>∃ H',Inv X pins σ H' s'/\Q H') X.xe s
section
variable {X:Cx} {pos:Pos}
noncomputable def Yq (i:Nat):TG:=fun v σ H Q=>Q (σ.set i (some v)) H
theorem ao3 {i:Nat} {x:Str} (hN:X.N.Nodup) (hi:X.N[i]? = some x) (hx:Loc X.env.scope x) (hf:X.fn x=true\/X.env.scope.names.lookup x=some .local:=by first|exact .inl rfl|exact .inr rfl|assumption):PG X (.Name x pos) (Yq i):=by
 intro pins s σ H v u Q I r h
 exact wpAny_assign_Name (J8 I hN hi hx r (fun s' I'=>⟨_,H,I',h⟩) hf)
noncomputable def b94:TGs:=fun vs σ H Q=>vs=[]/\Q σ H
noncomputable def bt5 (t:TG) (u:TGs):TGs:=fun vs σ H Q=>∃ v r,vs=v::r/\t v σ H fun σ' H'=>u r σ' H' Q
theorem ao4:PGs X [] b94:=by
 intro pins s σ H vs us Q I r h
 obtain⟨e,h⟩:=h
 subst e
 cases r
 exact assignInOrder_nil ⟨σ,H,I,h⟩
theorem Zq {e:Expr} {es:List Expr} {t:TG} {u:TGs} (h1:PG X e t) (h2:PGs X es u)
  (hs:(dy (e::es) X.env).map (·.2)=lW e X.env::(dy es X.env).map (·.2):=by rfl):PGs X (e::es) (bt5 t u):=by
 intro pins s σ H vs us Q I r h
 obtain⟨v,vr,e1,h⟩:=h
 subst e1
 cases r with
 | cons r rr=>
  rw [hs]
  refine assignInOrder_cons (thn (h1 pins s σ H _ _ _ I r h) fun _ s1 ⟨σ1,H1,I1,q1⟩=>?_)
  exact h2 pins s1 σ1 H1 _ _ Q I1 rr q1
noncomputable def b96 (K:ae) (n:Nat) (t:TGs):TG:=fun v σ H Q=>∃ a xs,v=.ref a/\SqT K H a xs/\xs.length=n/\t xs σ H Q
theorem be1 {es:List Expr} {k:Nat} {t:TGs} {n:Nat} (hc:X.calm=true) (h:PGs X es t)
  (hn:(dy es X.env).length=n:=by rfl) (hst:(dy es X.env).findIdx? (·.1)=none:=by rfl):PG X (.Tuple es k pos) (b96 X.K n t):=by
 intro pins s σ H v u Q I r hw
 obtain⟨a,xs,e1,hq,hl,hw⟩:=hw
 subst e1
 cases r
 obtain⟨its,rv,ht,hz⟩:=I.tuple hq
 refine assign_Tuple_tuple (I.ok.hd hc) ht (by simp [hn,<- hl,rv.length]) hst fun h' hx=>?_
 have I1:Inv X pins σ H { s with heap:=h' }:=I.kept (t':=s.toks) fun b o e=>hx b o (aH (aF e)) e
 exact h pins _ σ H xs _ Q I1 (by simpa using rv) hw
noncomputable def b95 (to ti:TE) (t:a50):TG:=fun v σ H Q=>to σ H fun o H1=>ti σ H1 fun i H2=>t o i v H2 fun H3=>Q σ H3
theorem be0 {o i:Expr} {to ti:TE} {t:a50} (ho:PE X o to) (hi:PE X i ti) (hs:a48 X t)
  (ha:∀ v,lW (.Subscript o i pos) X.env v=(do
   let ov <- mP [v] (eval o X.env)
   let iv <- mP [v,ov] (eval i X.env)
   mS pos
   mP [v,ov,iv] (setItem ov iv v)
   release [v,ov,iv] []):=by intro _;rfl):PG X (.Subscript o i pos) (b95 to ti t):=by
 intro pins s σ H v u Q I r h
 rw [ha]
 refine af (bw (thn (ho pins s σ H _ I h) fun ov s1 ⟨x,H1,I1,r1,q1⟩=>?_))
 refine af (bw (thn (hi pins s1 σ H1 _ I1 q1) fun iv s2 ⟨y,H2,I2,r2,q2⟩=>?_))
 refine af (fM (af (bw (thn (hs pins s2 σ H2 x y v ov iv u _ I2 r1 r2 r q2) fun _ s3 ⟨H3,I3,q3⟩=>?_))))
 exact wpAny_release ⟨σ,H3,I3,q3⟩
noncomputable def bo8 (te:TE) (g:TG):TS:=fun D σ H=>te σ H fun x H1=>g x σ H1 D.nx
theorem Zy {tg e:Expr} {te:TE} {g:TG} (he:PE X e te) (hg:PG X tg g) (hs:lL [tg] e pos.line X.env=pure false:=by rfl) (hw:swappedStores [tg] e X.env=pure none:=by rfl)
  (h1:(dy [tg] X.env).map (·.2)=[lW tg X.env]:=by rfl):PS X (.Assign [tg] e pos) (bo8 te g):=by
 intro pins s σ H D I h
 refine wpAny_Assign_stores (thn (he pins s σ H _ I h) fun v s1 ⟨x,H1,I1,r1,q1⟩=>?_) hs hw
 rw [h1]
 exact thn (hg pins s1 σ H1 x v _ I1 r1 q1) fun _ s2 q=>q
theorem be4 {i:Nat} {x:Str} {e:Expr} {te:TE} {pos':Pos} (hN:X.N.Nodup) (hi:X.N[i]? = some x) (hx:Loc X.env.scope x) (he:PE X e te) (hs:jg e (some (.Name x pos')) pos.line X.env=pure false:=by rfl) (hf:X.fn x=true\/X.env.scope.names.lookup x=some .local:=by first|exact .inl rfl|exact .inr rfl|assumption) :
  PS X (.Assign [.Name x pos'] e pos) (bo8 te (Yq i)):=by
 intro pins s σ H D I h
 refine wpAny_Assign_Name (thn (he pins s σ H _ I h) fun v s1 ⟨y,H1,I1,r1,q1⟩=>?_) hs
 exact J8 I1 hN hi hx r1 (fun s2 I2=>⟨_,H1,I2,q1⟩) hf
noncomputable def bp0 (c:TT) (tb:TS):TS:=fun D σ H=>∃ W:Nat->St->Hp->Prop,(∃ m,W m σ H) /\ ∀ m σ H,W m σ H ->
 c σ H fun b H1=>if b=true then ∃ N:St->Hp->Prop,(∀ σ' H',N σ' H' -> ∃ m',m'<m/\W m' σ' H')/\tb { D with nx:=N,ct:=N,bk:=D.nx } σ H1 else D.nx σ H1
theorem Z1 {c:Expr} {body:List Stmt} {tc:TT} {tb:TS} (hp:lA (model X.prog X.w) X.A X.env X.xe) (hc:PT X c tc) (hb:PSs X body tb):PS X (.While c body [] pos) (bp0 tc tb):=by
 intro pins s σ H D I h
 obtain⟨W,⟨m0,w0⟩,turn⟩:=h
 refine wpAny_While (codeAny_whileLoop (fun n s'=>∃ σ' H',Inv X pins σ' H' s'/\W n σ' H') ?_ m0 ⟨σ,H,I,w0⟩)
 rintro n s1 ⟨σ1,H1,I1,w1⟩
 refine eA hp (thn (hc pins s1 σ1 H1 _ I1 (turn n σ1 H1 w1)) fun b s2 ⟨H2,I2,q2⟩=>?_)
 cases b with
 | true=>
  obtain⟨N,hN,q2⟩:=q2
  rw [if_pos rfl]
  refine eA hp (thn (hb pins s2 σ1 H2 _ I2 q2) fun f s3 q3=>?_)
  cases f with
  | next=>
   obtain⟨σ3,H3,I3,n3⟩:=q3
   obtain⟨m',hm,w3⟩:=hN σ3 H3 n3
   exact⟨m',hm,σ3,H3,I3,w3⟩
  | cont=>
   obtain⟨σ3,H3,I3,n3⟩:=q3
   obtain⟨m',hm,w3⟩:=hN σ3 H3 n3
   exact⟨m',hm,σ3,H3,I3,w3⟩
  | brk=>exact q3
  | ret v=>exact q3
 | false=>
  rw [if_neg ar]
  exact kb ⟨σ1,H2,I2,q2⟩
end
structure It where
 go:Nat->Hp->Prop
 yld:Nat->Hp->V->Hp->Prop
 stop:Nat->Hp->Prop
noncomputable def Cr (X:Cx) (pins:List (Addr×Obj)) (H:Hp) (b:Addr):Prop:=
 H b=none/\b≠X.env.locals/\b∉X.fs/\(b∈X.ex\/X.s₀.heap.objs.size<=b)/\(∀ x c,X.env.cells.lookup x=some c->c≠b) /\ ∀ p∈X.pn++pins,p.1≠b
theorem Inv.fpOk {X:Cx} {pins:List (Addr×Obj)} {σ:St} {H H':Hp} {s:aj} {b:Addr} (I:Inv X pins σ H s) (hb:s.heap.objs.size<=b) (hn:H' b=none):Cr X pins H' b:=by
 refine⟨hn,dM (aO I.lt hb),I.nofs hb,.inr (aL I.sz hb),fun x c e z=>?_,fun p hp z=>?_⟩
 ·obtain⟨v,q⟩:=I.cell x c e
  exact absurd (aO q.lt (by rw [z];exact hb)) (eQ _)
 ·exact absurd (aO (aF (I.pin p hp).1) (by rw [z];exact hb)) (eQ _)
structure Ka (P:aI) (w:bp) (K:ae) (tg:Expr) (J:It) (fp:List Addr) (it:Addr) (tn:Nat->Heap->Prop):Prop where
 mem:it∈fp
 obj:∀ i h,tn i h -> ∀ b∈fp,∃ o,h.get? b=some o /\ ∀ v,o.data≠.cell v
 keep:∀ i h h',tn i h->(∀ b∈fp,∀ o,h.get? b=some o->h'.get? b=some o)->tn i h'
 item:∀ (X:Cx),X.prog=P->X.w=w->X.K=K->X.calm=true -> ∀ (i:Nat) (pins:List (Addr×Obj)) (s:aj) (σ:St) (H:Hp) (E:Value->aj->Prop),Inv X pins σ H s->(∀ b∈fp,Cr X pins H b)->tn i s.heap->J.go i H ->
  aJ (model P w) X.A (l5 (.ref it)) (fun r s1=>∃ u,r=some u /\
   aJ (model P w) X.A (ip tg (.ref it) u) (fun _ s2=>∃ x H',Inv X pins σ H' s2/\RelV x u/\J.yld i H x H'/\tn (i+1) s2.heap /\ ∀ b∈fp,H' b=none) E s1) E s
 done:∀ (X:Cx),X.prog=P->X.w=w->X.K=K->X.calm=true -> ∀ (i:Nat) (pins:List (Addr×Obj)) (s:aj) (σ:St) (H:Hp) (E:Value->aj->Prop),Inv X pins σ H s->(∀ b∈fp,Cr X pins H b)->tn i s.heap->J.stop i H ->
  aJ (model P w) X.A (l5 (.ref it)) (fun r s1=>r=none/\Inv X pins σ H s1) E s
 self:∀ (A:bi) (i:Nat) (s:aj) (Q:Value->aj->Prop) (E:Value->aj->Prop),tn i s.heap->Q (.ref it) s->aJ (model P w) A (mF (.ref it)) Q E s
noncomputable abbrev TI:=St->Hp->(It->Hp->Prop)->Prop
noncomputable def PIE (X:Cx) (pins:List (Addr×Obj)) (σ:St) (tg:Expr) (R:It->Hp->Prop) (itv:Value) (s2:aj):Prop:=
 ∃ (it:Addr) (fp:List Addr) (tn:Nat->Heap->Prop) (J:It) (H':Hp),itv=.ref it/\Inv X pins σ H' s2/\Ka X.prog X.w X.K tg J fp it tn/\tn 0 s2.heap/\(∀ b∈fp,Cr X pins H' b)/\R J H'
noncomputable def PI (X:Cx) (tg iter:Expr) (wi:TI):Prop:=
 ∀ (pins:List (Addr×Obj)) (s:aj) (σ:St) (H:Hp) (R:It->Hp->Prop),Inv X pins σ H s->wi σ H R ->
  aJ (model X.prog X.w) X.A (eval iter X.env) (fun v s1=>aJ (model X.prog X.w) X.A (mF v) (PIE X pins σ tg R) X.xe s1) X.xe s
theorem Ih {M:Model} {A:bi} {E:Value->aj->Prop} {s:aj} {tg:Expr} {it:Addr} {u:Value} {o:Obj} {n:String} {vs:Array Value} {Q:Unit->aj->Prop} (ho:s.heap.get? it=some o) (hc:o.cls=.type n) (hd:o.data=.fields vs)
    (hn:["enumerate", "zip", "dict_itemiterator", "dict_reverseitemiterator", "odict_iterator", "itertools.zip_longest", "itertools.pairwise"].contains n=false) (hQ:Q () s):aJ M A (ip tg (.ref it) u) Q E s:=by
  unfold ip
  cases tg <;> first
    | exact ak hQ
    | (cases u <;> first
        | exact ak hQ
        | (refine af (lT ho ?_)
           rw [hc,hd]
           show aJ M A (if (["enumerate", "zip", "dict_itemiterator", "dict_reverseitemiterator", "odict_iterator", "itertools.zip_longest", "itertools.pairwise"].contains n&&vs[0]? == some (fE _))=true then _ else _) Q E s
           rw [if_neg (by intro h;rw [hn,Bool.false_and] at h;cases h)]
           exact ak hQ))
noncomputable def Itl (K:ae) (a:Addr):It:=
 ⟨fun i H=>∃ xs x,SqL K H a xs/\xs[i]? = some x,fun i H x H'=>H'=H /\ ∀ xs,SqL K H a xs->xs[i]? = some x,fun i H=>∃ xs,SqL K H a xs/\xs.length<=i⟩
noncomputable def Itt (K:ae) (a:Addr):It:=
 ⟨fun i H=>∃ xs x,SqT K H a xs/\xs[i]? = some x,fun i H x H'=>H'=H /\ ∀ xs,SqT K H a xs->xs[i]? = some x,fun i H=>∃ xs,SqT K H a xs/\xs.length<=i⟩
noncomputable def Itr (lo:Int) (n:Nat):It:=⟨fun i _=>i<n,fun i H x H'=>H'=H/\x=.int (lo+i),fun i _=>n<=i⟩
theorem Ws {P:aI} {w:bp} {K:ae} {tg:Expr} (a it:Addr):Ka P w K tg (Itl K a) [it] it (fun i h=>h.IsListIter it a i) where
 mem:=by simp
 obj:=fun i h st b hb=>by
  have e:b=it:=by simpa using hb
  subst e
  obtain⟨o,e,c,d⟩:=st
  exact⟨o,e,fun v z=>by rw [d] at z;cases z⟩
 keep:=fun i h h' st k=>st.at fun o e=>k it (by simp) o e
 item:=by
  intro X hP hw hK hc i pins s σ H E I hf st hg
  subst hP hw hK
  obtain⟨xs,x,hq,hx⟩:=hg
  obtain⟨its,rv,p,hz⟩:=I.list hq
  obtain⟨u,hu,ru⟩:=rv.get hx
  obtain⟨f0,f1,f2,f3,f4,f5⟩:=hf it (by simp)
  refine wpAny_pyNext_list_item st p.isList (x:=u) (by simpa using hu) fun h' st' sb=>?_
  have I1:Inv X pins σ H { s with heap:=h' }:=I.turned (t':=s.toks) (fun b o hb e=>(sb.2 b hb).trans e) f0 f1 f3 f4 f5
  obtain⟨o,e,c,d⟩:=id st'
  exact⟨u,rfl,Ih (s:={ s with heap:=h' }) e c d (by decide) ⟨x,H,I1,ru,⟨rfl,fun ys hy=>by rw [I.list_inj hy hq];exact hx⟩,st',fun b hb=>(hf b hb).1⟩⟩
 done:=by
  intro X hP hw hK hc i pins s σ H E I hf st hg
  subst hP hw hK
  obtain⟨xs,hq,hx⟩:=hg
  obtain⟨its,rv,p,hz⟩:=I.list hq
  obtain⟨f0,f1,f2,f3,f4,f5⟩:=hf it (by simp)
  have hl:=rv.length
  exact wpAny_pyNext_list_end (I.ok.hd hc) st p.isList (by simp;omega) fun h' eb=>⟨rfl,I.turned (t':=s.toks) (fun b o hb e=>eb b o hb e) f0 f1 f3 f4 f5⟩
 self:=fun _ _ _ _ _ st h=>wpAny_pyIter_listiter st h
theorem Sv {P:aI} {w:bp} {K:ae} {tg:Expr} (a it:Addr):Ka P w K tg (Itt K a) [it] it (fun i h=>h.IsTupleIter it a i) where
 mem:=by simp
 obj:=fun i h st b hb=>by
  have e:b=it:=by simpa using hb
  subst e
  obtain⟨o,e,c,d⟩:=st
  exact⟨o,e,fun v z=>by rw [d] at z;cases z⟩
 keep:=fun i h h' st k=>st.at fun o e=>k it (by simp) o e
 item:=by
  intro X hP hw hK hc i pins s σ H E I hf st hg
  subst hP hw hK
  obtain⟨xs,x,hq,hx⟩:=hg
  obtain⟨its,rv,p,hz⟩:=I.tuple hq
  obtain⟨u,hu,ru⟩:=rv.get hx
  obtain⟨f0,f1,f2,f3,f4,f5⟩:=hf it (by simp)
  refine wpAny_pyNext_tuple_item st (show s.heap.IsTuple a its.toArray from p) (x:=u) (by simpa using hu) fun h' st' sb=>?_
  have I1:Inv X pins σ H { s with heap:=h' }:=I.turned (t':=s.toks) (fun b o hb e=>(sb.2 b hb).trans e) f0 f1 f3 f4 f5
  obtain⟨o,e,c,d⟩:=id st'
  exact⟨u,rfl,Ih (s:={ s with heap:=h' }) e c d (by decide) ⟨x,H,I1,ru,⟨rfl,fun ys hy=>by rw [I.tuple_inj hy hq];exact hx⟩,st',fun b hb=>(hf b hb).1⟩⟩
 done:=by
  intro X hP hw hK hc i pins s σ H E I hf st hg
  subst hP hw hK
  obtain⟨xs,hq,hx⟩:=hg
  obtain⟨its,rv,p,hz⟩:=I.tuple hq
  obtain⟨f0,f1,f2,f3,f4,f5⟩:=hf it (by simp)
  have hl:=rv.length
  exact wpAny_pyNext_tuple_end (I.ok.hd hc) st (show s.heap.IsTuple a its.toArray from p) (by simp;omega) fun h' eb=>⟨rfl,I.turned (t':=s.toks) (fun b o hb e=>eb b o hb e) f0 f1 f3 f4 f5⟩
 self:=fun _ _ _ _ _ st h=>wpAny_pyIter_tupleiter st h
theorem Su {P:aI} {w:bp} {K:ae} {tg:Expr} (it:Addr) (lo:Int) (n:Nat):Ka P w K tg (Itr lo n) [it] it (fun i h=>kL h it (lo+(i:Nat) * 1) ((n:Int) - (i:Nat)) 1) where
 mem:=by simp
 obj:=fun i h st b hb=>by
  have e:b=it:=by simpa using hb
  subst e
  exact⟨_,st,fun v z=>by
   have z':Data.fields _=Data.cell v:=z
   cases z'⟩
 keep:=fun i h h' st k=>k it (by simp) _ st
 item:=by
  intro X hP hw hK hc i pins s σ H E I hf st hg
  subst hP hw hK
  obtain⟨f0,f1,f2,f3,f4,f5⟩:=hf it (by simp)
  have W:=Walks.range (prog:=X.prog) (w:=X.w) (I.ok.hd hc) it lo 1 n
  refine bI (ah _) (W.item i s _ _ hg st fun v h' tk hv st' kk htk=>?_)
  obtain⟨t,rfl⟩:=hv
  have I1:Inv X pins σ H { s with heap:=h',toks:=tk }:=I.turned (fun b o hb e=>kk b o (by simpa using hb) e) f0 f1 f3 f4 f5
  refine⟨_,rfl,Ih (s:={ s with heap:=h',toks:=tk }) (n := "range_iterator") st' rfl rfl (by decide) ⟨.int (lo+i),H,I1,⟨t,?_⟩,⟨rfl,rfl⟩,st',fun b hb=>(hf b hb).1⟩⟩
  rw [Int.mul_one]
 done:=by
  intro X hP hw hK hc i pins s σ H E I hf st hg
  subst hP hw hK
  obtain⟨f0,f1,f2,f3,f4,f5⟩:=hf it (by simp)
  exact jP (I.ok.hd hc) st (by have:n<=i:=hg;omega) fun h' eb=>⟨rfl,I.turned (t':=s.toks) (fun b o hb e=>eb b o hb e) f0 f1 f3 f4 f5⟩
 self:=fun _ _ _ _ _ st h=>jO st h
section
variable {X:Cx} {tg:Expr}
theorem O9 {pins:List (Addr×Obj)} {σ:St} {H:Hp} {s:aj} {R:It->Hp->Prop} {E:Value->aj->Prop} {lo hi:Int} {t u v:Tok} {tk:Nat} (I:Inv X pins σ H s) (htk:s.toks<=tk) (h1:-(2 ^ 62)<=lo) (h2:lo<2 ^ 62) (h3:-(2 ^ 62)<=hi) (h4:hi<2 ^ 62)
  (q:R (Itr lo (hi - lo).toNat) H):aJ (model X.prog X.w) X.A (mF (.ref s.heap.objs.size)) (PIE X pins σ tg R) E { s with heap:=s.heap.push { cls:=.type "range", data:=.fields #[.int lo t,.int hi u,.int 1 v] },toks:=tk }:=by
 refine lN (IsRange.new ..) (small_one h1 h2 h3 h4) ?_
 have I1:Inv X pins σ H { s with heap:=s.heap.push { cls:=.type "range", data:=.fields #[.int lo t,.int hi u,.int 1 v] },toks:=tk }:=I.kept fun b o e=>ag _ e
 refine⟨(s.heap.push { cls:=.type "range", data:=.fields #[.int lo t,.int hi u,.int 1 v] }).objs.size,[(s.heap.push { cls:=.type "range", data:=.fields #[.int lo t,.int hi u,.int 1 v] }).objs.size],_,_,H,rfl,
  I1.kept (t':=tk) fun b o e=>ag _ e,Su _ lo (hi - lo).toNat,?_,fun b hb=>?_,q⟩
 ·have e1:lo+((0:Nat):Int) * 1=lo:=by simp
  have e2:(((hi - lo).toNat:Nat):Int) - ((0:Nat):Int)=bJ lo hi 1:=by rw [rangeSize_one];split <;> omega
  show kL _ _ (lo+((0:Nat):Int) * 1) ((((hi - lo).toNat:Nat):Int) - ((0:Nat):Int)) 1
  rw [e1,e2]
  exact aw _ rfl
 ·have e:b=(s.heap.push { cls:=.type "range", data:=.fields #[.int lo t,.int hi u,.int 1 v] }).objs.size:=by simpa using hb
  subst e
  exact I1.fpOk (ah _) (I1.hok.fresh (ah _))
noncomputable def cb6 (wi:TI) (g:TG) (tb:TS):TS:=fun D σ H=>wi σ H fun J H1=>∃ W:Nat->Nat->St->Hp->Prop,(∃ m,W 0 m σ H1) /\ ∀ i m σ H,W i m σ H ->
 (J.stop i H/\D.nx σ H)\/(J.go i H /\ ∃ N:St->Hp->Prop,(∀ σ' H',N σ' H' -> ∃ m',m'<m/\W (i+1) m' σ' H') /\ ∀ x H',J.yld i H x H'->g x σ H' fun σ2 H2=>tb { D with nx:=N,ct:=N,bk:=D.nx } σ2 H2)
noncomputable def Gx (fp:List Addr) (h:Heap):List (Addr×Obj):=fp.filterMap fun b=>(h.get? b).map fun o=>(b,o)
theorem D1 {fp:List Addr} {h:Heap} {b:Addr} {o:Obj} (hb:b∈fp) (e:h.get? b=some o):(b,o)∈Gx fp h:=List.mem_filterMap.mpr ⟨b,hb,by rw [e];rfl⟩
theorem V9 {fp:List Addr} {h:Heap} {p:Addr×Obj} (hp:p∈Gx fp h):p.1∈fp/\h.get? p.1=some p.2:=by
 obtain⟨b,hb,e⟩:=List.mem_filterMap.mp hp
 cases q:h.get? b with
 | none=>rw [q] at e;cases e
 | some o=>
  rw [q] at e
  have e':(b,o)=p:=aV e
  subst e'
  exact⟨hb,q⟩
theorem Inv.pinned {pins:List (Addr×Obj)} {σ:St} {H:Hp} {s:aj} {fp:List Addr} (I:Inv X pins σ H s) (hf:∀ b∈fp,Cr X pins H b) (ho:∀ b∈fp,∃ o,s.heap.get? b=some o /\ ∀ v,o.data≠.cell v):Inv X (pins++Gx fp s.heap) σ H s:=
 I.pins_of fun p hp=>(List.mem_append.mp hp).elim (fun z=>I.pin p (bo _ z)) fun z=>by
  obtain⟨hb,e⟩:=V9 z
  obtain⟨f0,f1,f2,_⟩:=hf p.1 hb
  obtain⟨o,e',d⟩:=ho p.1 hb
  rw [e] at e';cases e'
  exact⟨e,f0,f1,f2,d⟩
theorem Inv.unpinned {pins pl:List (Addr×Obj)} {σ:St} {H:Hp} {s:aj} (I:Inv X (pins++pl) σ H s):Inv X pins σ H s:=I.pins_of fun p hp=>I.pin p (bo _ (gY _ hp))
theorem be2 {iter:Expr} {body:List Stmt} {wi:TI} {g:TG} {tb:TS} {pos:Pos} (hp:lA (model X.prog X.w) X.A X.env X.xe) (hc:X.calm=true) (hi:PI X tg iter wi) (hg:PG X tg g) (hb:PSs X body tb)
  (hs:∀ x,fJ iter X.env x=pure x:=by intro _;rfl):PS X (.For tg iter body [] pos) (cb6 wi g tb):=by
 intro pins s σ H D I h
 refine wpAny_For (thn (hi pins s σ H _ I h) fun v s1 h1=>thn h1 fun itv s2 h2=>?_) hs
 obtain⟨it,fp,tn,J,H2,e,I2,T,st2,f2,W,⟨m0,w0⟩,turn⟩:=h2
 subst e
 have stat:∀ {H':Hp},(∀ b∈fp,H' b=none) -> ∀ b∈fp,Cr X pins H' b:=fun hn b hb=>⟨hn b hb,(f2 b hb).2⟩
 refine codeAny_forLoop_any (fun n s'=>∃ i σ' H',Inv X pins σ' H' s'/\tn i s'.heap/\(∀ b∈fp,H' b=none)/\W i n σ' H') ?_ m0 ⟨0,σ,H2,I2,st2,fun b hb=>(f2 b hb).1,w0⟩
 rintro n s3 ⟨i,σ3,H3,I3,st3,fr3,w3⟩
 rcases turn i n σ3 H3 w3 with ⟨stop,qn⟩|⟨go,N,hN,step⟩
 ·refine eA hp (thn (T.done X rfl rfl rfl hc i pins s3 σ3 H3 X.xe I3 (stat fr3) st3 stop) fun r s4 ⟨hr,I4⟩=>?_)
  subst hr
  exact kb ⟨σ3,H3,I4,qn⟩
 ·refine eA hp (thn (T.item X rfl rfl rfl hc i pins s3 σ3 H3 X.xe I3 (stat fr3) st3 go) fun r s4 ⟨u,hr,h4⟩=>?_)
  subst hr
  refine eA hp (thn h4 fun _ s5 ⟨x,H5,I5,r5,y5,st5,fr5⟩=>?_)
  have I5':=I5.pinned (stat fr5) (T.obj _ _ st5)
  refine eA hp (thn (hg _ s5 σ3 H5 x u _ I5' r5 (step x H5 y5)) fun _ s6 ⟨σ6,H6,I6,q6⟩=>?_)
  refine eA hp (thn (hb _ s6 σ6 H6 _ I6 q6) fun f s7 q7=>?_)
  have again:∀ {σ7:St} {H7:Hp},Inv X (pins++Gx fp s5.heap) σ7 H7 s7->N σ7 H7 -> ∃ m,m<n /\ ∃ i σ' H',Inv X pins σ' H' s7/\tn i s7.heap/\(∀ b∈fp,H' b=none)/\W i m σ' H':=fun {σ7 H7} I7 n7=>by
   obtain⟨m',hm,w7⟩:=hN σ7 H7 n7
   refine⟨m',hm,i+1,σ7,H7,I7.unpinned,T.keep _ _ _ st5 fun b hb o e=>(I7.pin (b,o) (bo _ (bo _ (D1 hb e)))).1,fun b hb=>?_,w7⟩
   obtain⟨o,e,d⟩:=T.obj _ _ st5 b hb
   exact (I7.pin (b,o) (bo _ (bo _ (D1 hb e)))).2.1
  cases f with
  | next=>obtain⟨σ7,H7,I7,n7⟩:=q7;exact again I7 n7
  | cont=>obtain⟨σ7,H7,I7,n7⟩:=q7;exact again I7 n7
  | brk=>obtain⟨σ7,H7,I7,q7⟩:=q7;exact⟨σ7,H7,I7.unpinned,q7⟩
  | ret v=>obtain⟨x7,σ7,H7,I7,r7,q7⟩:=q7;exact⟨x7,σ7,H7,I7.unpinned,r7,q7⟩
end
noncomputable abbrev R2:=V->V->Hp->VK->Prop
noncomputable def OpR (X:Cx) (f:Value->Value->Sem Value) (r:R2):Prop:=
 ∀ (pins:List (Addr×Obj)) (s:aj) (σ:St) (H:Hp) (x y:V) (v u:Value) (Q:VK),Inv X pins σ H s->RelV x v->RelV y u->r x y H Q ->
  aJ (model X.prog X.w) X.A (f v u) (EP X pins σ Q) X.xe s
noncomputable def UnR (X:Cx) (f:Value->Sem Value) (r:V->Hp->VK->Prop):Prop:=
 ∀ (pins:List (Addr×Obj)) (s:aj) (σ:St) (H:Hp) (x:V) (v:Value) (Q:VK),Inv X pins σ H s->RelV x v->r x H Q ->
  aJ (model X.prog X.w) X.A (f v) (EP X pins σ Q) X.xe s
noncomputable def Bw (X:Cx) (f:Value) (r:List V->Hp->VK->Prop):Prop:=
 ∀ (pins:List (Addr×Obj)) (s:aj) (σ:St) (H:Hp) (xs:List V) (us:List Value) (Q:VK),Inv X pins σ H s->Vals xs us->r xs H Q ->
  aJ (model X.prog X.w) X.A (call f us) (EP X pins σ Q) X.xe s
noncomputable def bs5 (X:Cx) (r:V->Hp->(Bool->Hp->Prop)->Prop):Prop:=
 ∀ (pins:List (Addr×Obj)) (s:aj) (σ:St) (H:Hp) (x:V) (v:Value) (Q:Bool->Hp->Prop),Inv X pins σ H s->RelV x v->r x H Q ->
  aJ (model X.prog X.w) X.A (truthy v) (TP X pins σ Q) X.xe s
noncomputable def tOp (r:R2) (ta tb:TE):TE:=fun σ H Q=>ta σ H fun x H1=>tb σ H1 fun y H2=>r x y H2 Q
noncomputable def tUn (r:V->Hp->VK->Prop) (ta:TE):TE:=fun σ H Q=>ta σ H fun x H1=>r x H1 Q
noncomputable def rI (C:Int->Int->Prop) (g:Int->Int->V):R2:=fun x y H Q=>∃ i j,x=.int i/\y=.int j/\C i j/\Q (g i j) H
noncomputable def rI0 (g:Int->Int->V):R2:=fun x y H Q=>∃ i j,x=.int i/\y=.int j/\Q (g i j) H
noncomputable def rU (g:Int->V):V->Hp->VK->Prop:=fun x H Q=>∃ i,x=.int i/\Q (g i) H
section
variable {X:Cx} {a b c:Expr} {ta tb tc:TE} {pos:Pos}
theorem a53 (ha:PE X a ta) (hb:PE X b tb) {pins:List (Addr×Obj)} {s:aj} {σ:St} {H:Hp} {R:V->V->Hp->Prop} (I:Inv X pins σ H s)
  (h:ta σ H fun x H1=>tb σ H1 fun y H2=>R x y H2) {Q:Value->aj->Prop} {f:Value->Value->Sem Value}
  (hf:∀ v u s2 x y H2,Inv X pins σ H2 s2->RelV x v->RelV y u->R x y H2->aJ (model X.prog X.w) X.A (f v u) Q X.xe s2) :
  aJ (model X.prog X.w) X.A (eval a X.env) (fun v s₁=>aJ (model X.prog X.w) X.A (eval b X.env) (fun u s₂=>aJ (model X.prog X.w) X.A (f v u) Q X.xe s₂) X.xe s₁) X.xe s:=by
 refine thn (ha pins s σ H _ I h) fun v s1 ⟨x,H1,I1,r1,q1⟩=>?_
 refine thn (hb pins s1 σ H1 _ I1 q1) fun u s2 ⟨y,H2,I2,r2,q2⟩=>?_
 exact hf v u s2 x y H2 I2 r1 r2 q2
theorem by4 {op:mJ} {r:R2} (ho:OpR X (cU op) r) (ha:PE X a ta) (hb:PE X b tb):PE X (.BinOp a op b pos) (tOp r ta tb):=by
 intro pins s σ H Q I h
 exact wpAny_BinOp (a53 ha hb I h fun v u s2 x y H2 I2 rx ry q=>ho pins s2 σ H2 x y v u Q I2 rx ry q)
theorem ay2 {op:UnaryOp} {r:V->Hp->VK->Prop} (ho:UnR X (mU op) r) (ha:PE X a ta):PE X (.UnaryOp op a pos) (tUn r ta):=by
 intro pins s σ H Q I h
 exact UnaryOp_ (thn (ha pins s σ H _ I h) fun v s1 ⟨x,H1,I1,r1,q1⟩=>ho pins s1 σ H1 x v Q I1 r1 q1)
theorem opI {f:Value->Value->Sem Value} {C:Int->Int->Prop} {g:Int->Int->Int}
  (rule:∀ (i j:Int) (t u:Tok) (s:aj) (Q:Value->aj->Prop) (E:Value->aj->Prop),C i j->Q (.int (g i j) s.toks) { s with toks:=s.toks+1 }->aJ (model X.prog X.w) X.A (f (.int i t) (.int j u)) Q E s) :
  OpR X f (rI C fun i j=>.int (g i j)):=by
 intro pins s σ H x y v u Q I rx ry h
 obtain⟨i,j,rfl,rfl,hc,q⟩:=h
 obtain⟨t,rfl⟩:=rx
 obtain⟨t',rfl⟩:=ry
 exact rule i j t t' s _ _ hc ⟨.int (g i j),H,I.tok _,⟨_,rfl⟩,q⟩
theorem Zn {f:Value->Value->Sem Value} {g:Int->Int->Int}
  (rule:∀ (i j:Int) (t u:Tok) (s:aj) (Q:Value->aj->Prop) (E:Value->aj->Prop),Q (.int (g i j) s.toks) { s with toks:=s.toks+1 }->aJ (model X.prog X.w) X.A (f (.int i t) (.int j u)) Q E s) :
  OpR X f (rI0 fun i j=>.int (g i j)):=by
 intro pins s σ H x y v u Q I rx ry h
 obtain⟨i,j,rfl,rfl,q⟩:=h
 obtain⟨t,rfl⟩:=rx
 obtain⟨t',rfl⟩:=ry
 exact rule i j t t' s _ _ ⟨.int (g i j),H,I.tok _,⟨_,rfl⟩,q⟩
theorem an2 {f:Value->Value->Sem Value} {g:Int->Int->Bool}
  (rule:∀ (i j:Int) (t u:Tok) (s:aj) (Q:Value->aj->Prop) (E:Value->aj->Prop),Q (.bool (g i j)) s->aJ (model X.prog X.w) X.A (f (.int i t) (.int j u)) Q E s) :
  OpR X f (rI0 fun i j=>.bl (g i j)):=by
 intro pins s σ H x y v u Q I rx ry h
 obtain⟨i,j,rfl,rfl,q⟩:=h
 obtain⟨t,rfl⟩:=rx
 obtain⟨t',rfl⟩:=ry
 exact rule i j t t' s _ _ ⟨.bl (g i j),H,I,rfl,q⟩
noncomputable def a25 (i j:Int):Prop:=0<j/\j<1073741824
noncomputable def Ww (i j:Int):Prop:=0<=j/\j<=1000000/\i.natAbs<2 ^ 64
noncomputable def CMul (i j:Int):Prop:=(-(2 ^ 64)<i/\i<2 ^ 64)\/(-(2 ^ 64)<j/\j<2 ^ 64)
theorem CMul.ok {i j:Int} (h:CMul i j):IntMulOk i j:=by
 rcases h with ⟨h1,h2⟩|⟨h1,h2⟩
 ·exact .of_left (intBits_le_64 h1 h2)
 ·exact .of_right (intBits_le_64 h1 h2)
theorem Sw (k:Nat):(0:Int)<=2 ^ k:=by
 rw [two_pow_cast]
 exact lq _
theorem bb9:OpR X (cU .Add) (rI0 fun i j=>.int (i+j)):=Zn fun _ _ _ _ _ _ _ q=>add_int q
theorem bc9:OpR X (cU .Sub) (rI0 fun i j=>.int (i - j)):=Zn fun _ _ _ _ _ _ _ q=>sub_int q
theorem bc4:OpR X (cU .Mult) (rI CMul fun i j=>.int (i * j)):=opI fun _ _ _ _ _ _ _ hc q=>mul_int q hc.ok
theorem an4:OpR X (cU .FloorDiv) (rI a25 fun i j=>.int (i / j)):=opI fun i j _ _ _ _ _ hc q=>by
 have h1:(0:Int)<j:=hc.1
 have h2:j<1073741824:=hc.2
 exact floordiv_int (by omega) (by rw [iB i (by omega)];exact q) (.inl (jL (by omega)))
theorem bc3:OpR X (cU .Mod) (rI (fun _ j=>0<j) fun i j=>.int (i % j)):=opI fun i j _ _ _ _ _ hc q=>by
 have h1:(0:Int)<j:=hc
 exact mod_int' (by omega) (by rw [Int.fmod_eq_emod_of_nonneg i (by omega)];exact q)
theorem bc6:OpR X (cU .Pow) (rI Ww fun i j=>.int (i ^ j.toNat)):=opI fun _ _ _ _ _ _ _ hc q=>pow_int_small hc.1 hc.2.1 hc.2.2 q
theorem bc7:OpR X (cU .LShift) (rI Ww fun i j=>.int (i * 2 ^ j.toNat)):=opI fun _ _ _ _ _ _ _ hc q=>lshift_int_small hc.1 hc.2.1 hc.2.2 q
theorem bc8:OpR X (cU .RShift) (rI (fun _ j=>0<=j) fun i j=>.int (i / 2 ^ j.toNat)):=opI fun i j _ _ _ _ _ hc q=>
 rshift_int hc (by rw [iB i (Sw _)];exact q)
theorem bc0:OpR X (cU .BitAnd) (rI0 fun i j=>.int (Builtin.bitAnd i j)):=Zn fun _ _ _ _ _ _ _ q=>and_int q
theorem by0:OpR X (cU .BitOr) (rI0 fun i j=>.int (Builtin.bitOr i j)):=Zn fun _ _ _ _ _ _ _ q=>or_int q
theorem bd0:OpR X (cU .BitXor) (rI0 fun i j=>.int (Builtin.bitXor i j)):=Zn fun _ _ _ _ _ _ _ q=>xor_int q
theorem unI {f:Value->Sem Value} {g:Int->Int}
  (rule:∀ (i:Int) (t:Tok) (s:aj) (Q:Value->aj->Prop) (E:Value->aj->Prop),Q (.int (g i) s.toks) { s with toks:=s.toks+1 }->aJ (model X.prog X.w) X.A (f (.int i t)) Q E s) :
  UnR X f (rU fun i=>.int (g i)):=by
 intro pins s σ H x v Q I rx h
 obtain⟨i,rfl,q⟩:=h
 obtain⟨t,rfl⟩:=rx
 exact rule i t s _ _ ⟨.int (g i),H,I.tok _,⟨_,rfl⟩,q⟩
theorem bp3:UnR X (mU .USub) (rU fun i=>.int (-i)):=unI fun _ _ _ _ _ q=>neg_int q
theorem bp2:UnR X (mU .Invert) (rU fun i=>.int (Builtin.bitNot i)):=unI fun _ _ _ _ _ q=>invert_int q
end
noncomputable def bo0:V->V->Bool
 | .non,.non=>true | .non,.int _=>true | .int _,.non=>true | .non,.bl _=>true | .bl _,.non=>true | .non,.str _=>true | .str _,.non=>true
 | .int _,.int _=>true | .bl _,.bl _=>true | .str _,.str _=>true | .byt _,.byt _=>true
 | .int _,.str _=>true | .str _,.int _=>true | .bl _,.str _=>true | .str _,.bl _=>true
 | _,_=>false
noncomputable def rEq:R2:=fun x y H Q=>bo0 x y=true/\Q (.bl (decide (x=y))) H
noncomputable def rNe:R2:=fun x y H Q=>bo0 x y=true/\Q (.bl (!decide (x=y))) H
theorem Hc {i j:Int}:decide (V.int i=V.int j)=(i==j):=by
 rw [g_]
 simp
theorem Ly {i j:Bool}:decide (V.bl i=V.bl j)=(i==j):=by
 rw [g_]
 simp
theorem Hd {i j:Str}:decide (V.str i=V.str j)=(i==j):=by
 rw [g_]
 simp
theorem Tw {i j:Array UInt8}:decide (V.byt i=V.byt j)=(i.toList==j.toList):=by
 rw [g_]
 cases i
 cases j
 simp
section
variable {X:Cx} {a b c:Expr} {ta tb tc:TE} {pos:Pos}
theorem Au {pins:List (Addr×Obj)} {σ:St} {H:Hp} {s:aj} {Q:VK} {k k':Bool} (I:Inv X pins σ H s) (q:Q (.bl k) H) (e:k=k'):EP X pins σ Q (.bool k') s:=by
 subst e
 exact⟨.bl k,H,I,rfl,q⟩
theorem Fa:OpR X (cm .Eq) rEq:=by
 intro pins s σ H x y v u Q I rx ry h
 obtain⟨hs,q⟩:=h
 cases x with
 | non=>
  cases rx
  cases y with
  | non=>cases ry;exact PySem.EqNone.eq_none_none (Au I q (by simp))
  | bl j=>cases ry;exact PySem.EqNone.eq_none_bool (Au I q (by simp))
  | int j=>obtain⟨t',rfl⟩:=ry;exact PySem.EqNone.eq_none_int (Au I q (by simp))
  | str j=>obtain⟨t',rfl⟩:=ry;exact PySem.EqNone.eq_none_str (Au I q (by simp))
  | _=>exact absurd (show false=true from hs) ar
 | bl i=>
  cases rx
  cases y with
  | non=>cases ry;exact PySem.EqNone.eq_bool_none (Au I q (by simp))
  | bl j=>cases ry;exact eq_bool (Au I q Ly)
  | str j=>obtain⟨t',rfl⟩:=ry;exact PySem.EqMixed.eq_bool_str (Au I q (by simp))
  | _=>exact absurd (show false=true from hs) ar
 | int i=>
  obtain⟨t,rfl⟩:=rx
  cases y with
  | non=>cases ry;exact PySem.EqNone.eq_int_none (Au I q (by simp))
  | int j=>obtain⟨t',rfl⟩:=ry;exact eq_int (Au I q Hc)
  | str j=>obtain⟨t',rfl⟩:=ry;exact PySem.EqMixed.eq_int_str (Au I q (by simp))
  | _=>exact absurd (show false=true from hs) ar
 | str i=>
  obtain⟨t,rfl⟩:=rx
  cases y with
  | non=>cases ry;exact PySem.EqNone.eq_str_none (Au I q (by simp))
  | bl j=>cases ry;exact PySem.EqMixed.eq_str_bool (Au I q (by simp))
  | int j=>obtain⟨t',rfl⟩:=ry;exact PySem.EqMixed.eq_str_int (Au I q (by simp))
  | str j=>obtain⟨t',rfl⟩:=ry;exact eq_str (Au I q Hd)
  | _=>exact absurd (show false=true from hs) ar
 | byt i=>
  obtain⟨t,rfl⟩:=rx
  cases y with
  | byt j=>obtain⟨t',rfl⟩:=ry;exact PySem.W.eq_bytes (Au I q Tw)
  | _=>exact absurd (show false=true from hs) ar
 | _=>cases y <;> exact absurd (show false=true from hs) ar
theorem Uj:OpR X (cm .NotEq) rNe:=by
 intro pins s σ H x y v u Q I rx ry h
 obtain⟨hs,q⟩:=h
 cases x with
 | non=>
  cases rx
  cases y with
  | non=>cases ry;exact PySem.EqNone.ne_none_none (Au I q (by simp))
  | bl j=>cases ry;exact PySem.EqNone.ne_none_bool (Au I q (by simp))
  | int j=>obtain⟨t',rfl⟩:=ry;exact PySem.EqNone.ne_none_int (Au I q (by simp))
  | str j=>obtain⟨t',rfl⟩:=ry;exact PySem.EqNone.ne_none_str (Au I q (by simp))
  | _=>exact absurd (show false=true from hs) ar
 | bl i=>
  cases rx
  cases y with
  | non=>cases ry;exact PySem.EqNone.ne_bool_none (Au I q (by simp))
  | bl j=>cases ry;exact ne_bool (Au I q (congrArg not Ly))
  | str j=>obtain⟨t',rfl⟩:=ry;exact PySem.EqMixed.ne_bool_str (Au I q (by simp))
  | _=>exact absurd (show false=true from hs) ar
 | int i=>
  obtain⟨t,rfl⟩:=rx
  cases y with
  | non=>cases ry;exact PySem.EqNone.ne_int_none (Au I q (by simp))
  | int j=>obtain⟨t',rfl⟩:=ry;exact ne_int (Au I q (congrArg not Hc))
  | str j=>obtain⟨t',rfl⟩:=ry;exact PySem.EqMixed.ne_int_str (Au I q (by simp))
  | _=>exact absurd (show false=true from hs) ar
 | str i=>
  obtain⟨t,rfl⟩:=rx
  cases y with
  | non=>cases ry;exact PySem.EqNone.ne_str_none (Au I q (by simp))
  | bl j=>cases ry;exact PySem.EqMixed.ne_str_bool (Au I q (by simp))
  | int j=>obtain⟨t',rfl⟩:=ry;exact PySem.EqMixed.ne_str_int (Au I q (by simp))
  | str j=>obtain⟨t',rfl⟩:=ry;exact ne_str (Au I q (congrArg not Hd))
  | _=>exact absurd (show false=true from hs) ar
 | byt i=>
  obtain⟨t,rfl⟩:=rx
  cases y with
  | byt j=>obtain⟨t',rfl⟩:=ry;exact PySem.W.ne_bytes (Au I q (congrArg not Tw))
  | _=>exact absurd (show false=true from hs) ar
 | _=>cases y <;> exact absurd (show false=true from hs) ar
theorem bx9:OpR X (cm .Lt) (rI0 fun i j=>.bl (decide (i<j))):=an2 fun _ _ _ _ _ _ _ q=>lt_int q
theorem bx8:OpR X (cm .LtE) (rI0 fun i j=>.bl (decide (i<=j))):=an2 fun _ _ _ _ _ _ _ q=>le_int q
theorem bx7:OpR X (cm .Gt) (rI0 fun i j=>.bl (decide (j<i))):=an2 fun _ _ _ _ _ _ _ q=>gt_int q
theorem bx6:OpR X (cm .GtE) (rI0 fun i j=>.bl (decide (j<=i))):=an2 fun _ _ _ _ _ _ _ q=>ge_int q
theorem Wb:OpR X (cm .Lt) (fun x y H Q=>∃ i j,x=.str i/\y=.str j/\Q (.bl (decide (i.cps.toList<j.cps.toList))) H):=by
 intro pins s σ H x y v u Q I rx ry h
 obtain⟨i,j,rfl,rfl,q⟩:=h
 obtain⟨t,rfl⟩:=rx
 obtain⟨t',rfl⟩:=ry
 exact lt_str (Au I q rfl)
theorem bc2:OpR X (cm .Is) (fun x y H Q=>y=.non/\Q (.bl (decide (x=.non))) H):=by
 intro pins s σ H x y v u Q I rx ry h
 obtain⟨rfl,q⟩:=h
 cases ry
 refine is_none_gen (Au I q ?_)
 cases x <;> first
  | (cases rx;rfl)
  | (obtain⟨t,rfl⟩:=rx;rfl)
  | (obtain⟨t,rfl,_⟩:=rx;rfl)
theorem an6:OpR X (cm .IsNot) (fun x y H Q=>y=.non/\Q (.bl (!decide (x=.non))) H):=by
 intro pins s σ H x y v u Q I rx ry h
 obtain⟨rfl,q⟩:=h
 cases ry
 refine isnot_none_gen (Au I q ?_)
 cases x <;> first
  | (cases rx;rfl)
  | (obtain⟨t,rfl⟩:=rx;rfl)
  | (obtain⟨t,rfl,_⟩:=rx;rfl)
theorem OpR.or {f:Value->Value->Sem Value} {r r':R2} (h:OpR X f r) (h':OpR X f r'):OpR X f (fun x y H Q=>r x y H Q\/r' x y H Q):=by
 intro pins s σ H x y v u Q I rx ry q
 rcases q with q|q
 ·exact h pins s σ H x y v u Q I rx ry q
 ·exact h' pins s σ H x y v u Q I rx ry q
theorem ao2 {op:md} {r:R2} (ho:OpR X (cm op) r) (ha:PE X a ta) (hb:PE X b tb) (hm:dP op b=false):PE X (.Compare a [op] [b] pos) (tOp r ta tb):=by
 intro pins s σ H Q I h
 exact wpAny_Compare1 (a53 ha hb I h fun v u s2 x y H2 I2 rx ry q=>ho pins s2 σ H2 x y v u Q I2 rx ry q) hm
noncomputable def bs6 (K:ae) (x:V) (H:Hp) (k:Bool):Prop:=
 match x with
 | .non=>k=false
 | .bl b=>k=b
 | .int i=>k=(i != 0)
 | .str y=>y.length<=sizeLine/\k=((y.length:Int) != 0)
 | .byt y=>y.size<=sizeLine/\k=((y.size:Int) != 0)
 | .ref p=>(∃ xs,SqL K H p xs/\k = !xs.isEmpty)\/(∃ xs,SqT K H p xs/\k = !xs.isEmpty) \/ ∃ kvs,H p=some (.dK kvs)/\k = !kvs.isEmpty
 | _=>False
theorem Qk {κ:Type} {kvs:List (κ×V)} {vs:List (κ×Value)} (r:KV kvs vs):(!vs.isEmpty) = !kvs.isEmpty:=by
 cases r <;> rfl
theorem Ii {xs:List V} {its:List Value} (r:Vals xs its):(!its.toArray.isEmpty) = !xs.isEmpty:=by
 cases r <;> simp
theorem Fi:(sizeLine:Nat)<2 ^ 63:=by rw [bb];decide
theorem J9:bs5 X (fun x H Q=>∃ k,bs6 X.K x H k/\Q k H):=by
 intro pins s σ H x v Q I rx h
 obtain⟨k,e,q⟩:=h
 have hl:=Fi
 have hs:sizeLine=16777216:=bb
 cases x with
 | non=>
  cases rx
  have e':k=false:=e
  subst e'
  exact truthy_none ⟨H,I,q⟩
 | bl b=>
  cases rx
  have e':k=b:=e
  subst e'
  exact eC ⟨H,I,q⟩
 | int i=>
  obtain⟨t,rfl⟩:=rx
  have e':k=(i != 0):=e
  subst e'
  exact PySem.P.truthy_int ⟨H,I,q⟩
 | str y=>
  obtain⟨t,rfl⟩:=rx
  obtain⟨hy,e'⟩:y.length<=sizeLine/\k=((y.length:Int) != 0):=e
  subst e'
  exact PySem.P.truthy_str (by omega) ⟨H,I.tok _,q⟩
 | byt y=>
  obtain⟨t,rfl⟩:=rx
  obtain⟨hy,e'⟩:y.size<=sizeLine/\k=((y.size:Int) != 0):=e
  subst e'
  exact PySem.W.truthy_bytes (by omega) ⟨H,I.tok _,q⟩
 | ref p=>
  cases rx
  have e':(∃ xs,SqL X.K H p xs/\k = !xs.isEmpty)\/(∃ xs,SqT X.K H p xs/\k = !xs.isEmpty) \/ ∃ kvs,H p=some (.dK kvs)/\k = !kvs.isEmpty:=e
  rcases e' with ⟨xs,hx,e'⟩|⟨xs,hx,e'⟩|⟨kvs,hx,e'⟩
  ·subst e'
   obtain⟨its,r,pl,hz⟩:=I.list hx
   have hlen:=r.length
   exact wpAny_truthy_list pl.isList (by simp only [ao];omega) ⟨H,I.tok _,by rw [Ii r];exact q⟩
  ·subst e'
   obtain⟨its,r,pl,hz⟩:=I.tuple hx
   have hlen:=r.length
   exact truthy_tuple pl (by simp only [ao];omega) ⟨H,I.tok _,by rw [Ii r];exact q⟩
  ·subst e'
   obtain⟨hz,hS,vs,r,m⟩:kvs.length<=sizeLine/\(p==cV)=false /\ ∃ vs,KV kvs vs/\s.heap.DictOf (Ao X.prog X.w) p vs:=I.hok p _ hx
   have hlen:kvs.length=vs.length:=g7 r
   exact wpAny_truthy_dict hS m (by omega) ⟨H,I.tok _,by rw [Qk r];exact q⟩
 | _=>exact (show False from e).elim
theorem Qw:OpR X (cU .Add) (fun x y H Q=>∃ i j,x=.str i/\y=.str j/\i.length+j.length<=sizeLine/\Q (.str (i++j)) H):=by
 intro pins s σ H x y v u Q I rx ry h
 obtain⟨i,j,rfl,rfl,hz,q⟩:=h
 obtain⟨t,rfl⟩:=rx
 obtain⟨t',rfl⟩:=ry
 exact bI (ah _) (add_str (fun t' tk htk=>⟨.str (i++j),H,I.tok _ htk,⟨_,rfl⟩,q⟩) hz)
theorem Dv {x:V} {us:List Value} (r:Vals [x] us):∃ u,us=[u]/\RelV x u:=by
 cases r with
 | cons r1 r2=>cases r2;exact⟨_,rfl,r1⟩
theorem ah1 {x y:V} {us:List Value} (r:Vals [x,y] us):∃ u w',us=[u,w']/\RelV x u/\RelV y w':=by
 cases r with
 | cons r1 r2=>
  cases r2 with
  | cons r3 r4=>cases r4;exact⟨_,_,rfl,r1,r3⟩
theorem Vf (hc:X.calm=true):Bw X (.builtin "max") (fun xs H Q=>∃ i j,xs=[.int i,.int j]/\Q (.int (if j > i then j else i)) H):=by
 intro pins s σ H xs us Q I r h
 obtain⟨i,j,rfl,q⟩:=h
 obtain⟨u,w',rfl,⟨t,rfl⟩,⟨t',rfl⟩⟩:=ah1 r
 refine bI (ah _) (max_two_ints (I.ok.hd hc) fun h' tk k htk=>⟨_,H,I.kept k htk,?_,q⟩)
 by_cases hj:j > i
 ·rw [if_pos hj,if_pos hj];exact⟨_,rfl⟩
 ·rw [if_neg hj,if_neg hj];exact⟨_,rfl⟩
theorem Vh (hc:X.calm=true):Bw X (.builtin "min") (fun xs H Q=>∃ i j,xs=[.int i,.int j]/\Q (.int (if j<i then j else i)) H):=by
 intro pins s σ H xs us Q I r h
 obtain⟨i,j,rfl,q⟩:=h
 obtain⟨u,w',rfl,⟨t,rfl⟩,⟨t',rfl⟩⟩:=ah1 r
 refine bI (ah _) (min_two_ints (I.ok.hd hc) fun h' tk k htk=>⟨_,H,I.kept k htk,?_,q⟩)
 by_cases hj:j<i
 ·rw [if_pos hj,if_pos hj];exact⟨_,rfl⟩
 ·rw [if_neg hj,if_neg hj];exact⟨_,rfl⟩
theorem Kq:Bw X (.type "int") (fun xs H Q=>(∃ i,xs=[.int i]/\Q (.int i) H) \/ ∃ k,xs=[.bl k]/\Q (.int (if k then 1 else 0)) H):=by
 intro pins s σ H xs us Q I r h
 rcases h with ⟨i,rfl,q⟩|⟨k,rfl,q⟩
 ·obtain⟨u,rfl,t,rfl⟩:=Dv r
  exact call_int_int ⟨.int i,H,I,⟨_,rfl⟩,q⟩
 ·obtain⟨u,rfl,r1⟩:=Dv r
  cases r1
  exact call_int_bool ⟨.int (if k then 1 else 0),H,I.tok _,⟨_,rfl⟩,q⟩
end
structure ObjM (h:Heap) (x dx C:Addr) (mA:Str->Option Value):Prop where
 obj:h.get? x=some (bR C dx)
 ns:h.Ns1 dx mA
 ne:dx≠x
theorem Gr {h:Heap} {dx:Addr} {mA:Str->Option Value} (n:h.Ns1 dx mA):∃ od,h.get? dx=some od /\ ∀ name,iQ name od=some (mA name):=by
 obtain⟨o,es,ep,ho,hd,hk,_,hm⟩:=n
 refine⟨o,ho,fun name=>?_⟩
 have e:=hm name
 unfold nsFind findBy at e
 rw [<- Array.find?_toList] at e
 unfold iQ
 rw [hd]
 dsimp only
 split
 ·rename_i y q
  rw [q] at e
  exact congrArg some e
 ·rename_i q
  rw [q] at e
  have a:es.toList.any (·.refKey)=false:=by
   rw [List.any_eq_false]
   intro y hy
   obtain⟨z,t,hkey⟩:=hk y (Array.mem_toList_iff.mp hy)
   simp [DictEntry.refKey,hkey]
  have a':¬ es.toList.any (·.refKey)=true:=by rw [a];exact ar
  rw [if_neg a']
  exact congrArg some e
theorem ObjM.look {h:Heap} {x dx C:Addr} {mA:Str->Option Value} (I:ObjM h x dx C mA):∃ od,fQ h x (bR C dx) C (some od) /\ ∀ name,iQ name od=some (mA name):=
 let ⟨od,ho,hl⟩:=Gr I.ns
 ⟨od,⟨I.obj,rfl,rfl,ho⟩,hl⟩
section
variable {prog:aI} {w:bp} {A:bi} {E:Value->aj->Prop} {s:aj} {K:ae} {x dx C f:Addr} {mA:Str->Option Value} {name:Str} {v:Value}
theorem al0 {expr:Bool} {Q:Value->aj->Prop} (X:K.In s.heap) (I:ObjM s.heap x dx C mA) (hg:c5 K C name=true) (hh:du K C=true)
  (ha:aq K (.ref C) name=some none) (hv:mA name=some v) (hv':fV v=true) (h:Q v { s with toks:=s.toks+1 }) :
  aJ (model prog w) A (k9 (.ref x) name expr) Q E s:=by
 obtain⟨od,J,hl⟩:=I.look
 exact PySem.W.get_value X J (eT hg).1 (kR hh ha rfl (by rw [hl,hv])) hv' h
theorem Yu {pl:Sem Bool} {Q:Value×List Value->aj->Prop} (X:K.In s.heap) (I:ObjM s.heap x dx C mA) (hg:c5 K C name=true)
  (hf:aq K (.ref C) name=some (some (.ref f))) (ht:cR K (.ref f)=true) (hv:mA name=none) (h:Q (.ref f,[.ref x]) s) :
  aJ (model prog w) A (getMethod (.ref x) name pl) Q E s:=by
 obtain⟨od,J,hl⟩:=I.look
 exact PySem.W.method_fn X J (eT hg).1 (eT hg).2 hf (beq_iff_eq.mp ht) (by show (iQ name od).map (·.isSome)=some false;rw [hl,hv];rfl) h
theorem ar8 {ns:List Str} {Q:Unit->aj->Prop} (X:K.In s.heap) (I:ObjM s.heap x dx C mA)
  (hs:aq K (.ref C) "__setattr__" = some (some (.builtin "object.__setattr__"))) (hp:d9 K C=true) (ht:j5 K C name=some none) (hh:du K C=true)
  (hw:eI mA ns) (hsz:ns.length<=sizeLine)
  (h:∀ h',ObjM h' x dx C (fun y=>if y=name then some v else mA y)->br dx s.heap h'->Q () { s with heap:=h',toks:=s.toks+2 }) :
  aJ (model prog w) A (mr (.ref x) name v) Q E s:=by
 obtain⟨od,J,hl⟩:=I.look
 refine PySem.W.set_plain X J hs (PySem.W.osa_open (s:={ s with toks:=s.toks+1 }) (r:=none) X J hp ht fun b=>?_)
 obtain⟨cd,hc,hd'⟩:=PySem.W.any_some hh
 have hx:s.heap.get? x=some ⟨.ref C,some dx,.plain,#[]⟩:=I.obj
 refine af (ak (af (af (iX hx (af (PySem.W.Looks.here (s:={ s with toks:=s.toks+1 }) (PySem.W.looks_clsIn X hc) ?_))))))
 rw [hd']
 refine ak (a:=some dx) (af (ak (af ?_)))
 refine l_ (s:={ s with toks:=s.toks+1 }) I.ns fun h' hn2 hs2=>?_
 obtain⟨oD,esD,epD,hoD,hdD,hcD⟩:=hn2.count (PySem.Within.cons name v hw)
 refine af (jE hoD (by rw [hdD];exact jC (aL hcD (by rw [aP];omega))) ?_)
 exact ak (h _ ⟨(hs2.2 _ (bZ I.ne)).trans I.obj,hn2,I.ne⟩ hs2)
theorem Y9 {R:kG->aj->Prop} {vs:List Value} {kw:List (Str×Value)} (X:K.In s.heap) (hm:bM K C=true)
  (hi:aq K (.ref C) "__init__" = some (some (.ref f))) (hf:PySem.W.typeIn K (.ref f)=some (.type "function"))
  (h:eU (model prog w) (A.under (.builtin "type.__call__" ⟨.ref C::vs,kw⟩)) (.call (.ref f) ⟨.ref (s.heap.objs.size+1)::vs,kw⟩) (PySem.W.InitBack (s.heap.objs.size+1) R)
   {s with heap:=(s.heap.push bE).push (bR C s.heap.objs.size) }) :
  eU (model prog w) A (.call (.ref C) ⟨vs,kw⟩) R s:=by
 obtain⟨hh,g,d,t,os⟩:=s
 exact PySem.W.make_core (jz X hm) (c8 X hi) (fun self=>PySem.W.bind_fn X self hf) (.inl rfl) h
theorem V4 {R:kG->aj->Prop} (X:K.In s.heap) (hm:bM K C=true)
  (hi:aq K (.ref C) "__init__" = some (some (.builtin "object.__init__")))
  (hb:∀ self,gw (model prog w) s.heap (jr (.builtin "object.__init__") self) (.builtin "object.__init__", [self]))
  (h:eU (model prog w) (A.under (.builtin "type.__call__" ⟨[.ref C],[]⟩)) (.call (.builtin "object.__init__") ⟨[.ref (s.heap.objs.size+1)],[]⟩) (PySem.W.InitBack (s.heap.objs.size+1) R)
   {s with heap:=(s.heap.push bE).push (bR C s.heap.objs.size) }) :
  eU (model prog w) A (.call (.ref C) ⟨[],[]⟩) R s:=by
 obtain⟨hh,g,d,t,os⟩:=s
 exact PySem.W.make_core (jz X hm) (c8 X hi) hb (.inr ⟨rfl,rfl⟩) h
end
noncomputable def D6 (f:Str) (v:V):List (Str×V)->List (Str×V)
 | []=>[(f,v)]
 | (g,x)::r=>if g=f then (g,v)::r else (g,x)::D6 f v r
theorem Ej (f g:Str) (v:V):∀ fs:List (Str×V),(D6 f v fs).lookup g=if g=f then some v else fs.lookup g
 | []=>by
  show eK g [(f,v)]=_
  by_cases h:g=f
  ·have hb:(g==f)=true:=beq_iff_eq.mpr h
   simp only [eK,hb,if_pos h]
  ·have hb:(g==f)=false:=beq_eq_false_iff_ne.mpr h
   simp only [eK,hb,if_neg h]
 | (k,x)::r=>by
  have ih:=Ej f g v r
  rw [show D6 f v ((k,x)::r)=(if k=f then (k,v)::r else (k,x)::D6 f v r) from rfl]
  by_cases hk:k=f
  ·rw [if_pos hk]
   by_cases h:g=k
   ·have hb:(g==k)=true:=beq_iff_eq.mpr h
    simp only [eK,hb,if_pos (h.trans hk)]
   ·have hb:(g==k)=false:=beq_eq_false_iff_ne.mpr h
    simp only [eK,hb,if_neg (fun e:g=f=>h (e.trans hk.symm))]
  ·rw [if_neg hk]
   by_cases h:g=k
   ·have hb:(g==k)=true:=beq_iff_eq.mpr h
    simp only [eK,hb,if_neg (fun e:g=f=>hk (h.symm.trans e))]
   ·have hb:(g==k)=false:=beq_eq_false_iff_ne.mpr h
    simp only [eK,hb]
    exact ih
theorem Dq (f:Str) (v:V):∀ fs:List (Str×V),f∈(D6 f v fs).map (·.1) /\ ∀ g,g∈fs.map (·.1)->g∈(D6 f v fs).map (·.1)
 | []=>⟨by simp [D6],fun g h=>by simp at h⟩
 | (k,x)::r=>by
  obtain⟨i1,i2⟩:=Dq f v r
  rw [show D6 f v ((k,x)::r)=(if k=f then (k,v)::r else (k,x)::D6 f v r) from rfl]
  by_cases hk:k=f
  ·rw [if_pos hk]
   subst hk
   exact⟨by simp,fun g h=>by simpa using h⟩
  ·rw [if_neg hk]
   refine⟨?_,fun g h=>?_⟩
   ·rw [aK]
    exact aC _ i1
   ·rw [aK] at h ⊢
    rcases List.mem_cons.mp h with e|e
    ·exact List.mem_cons.mpr (.inl e)
    ·exact aC _ (i2 g e)
theorem Ei (f:Str) (v:V):∀ fs:List (Str×V),(D6 f v fs).length<=fs.length+1
 | []=>by simp [D6]
 | (k,x)::r=>by
  have ih:=Ei f v r
  rw [show D6 f v ((k,x)::r)=(if k=f then (k,v)::r else (k,x)::D6 f v r) from rfl]
  by_cases hk:k=f
  ·rw [if_pos hk,aP,aP];omega
  ·rw [if_neg hk,aP,aP];omega
theorem RelO.some_of {v:V} {o:Option Value} (r:RelO (some v) o):∃ u,o=some u/\RelV v u:=by
 cases o with
 | none=>exact (show False from r).elim
 | some u=>exact⟨u,rfl,r⟩
theorem RelO.none_of {o:Option Value} (r:RelO none o):o=none:=by
 cases o with
 | none=>rfl
 | some u=>exact (show False from r).elim
theorem Kz {v:V} {u:Value} (r:RelV v u):fV u=true:=by
 cases v with
 | non=>cases (show u=bG from r);rfl
 | bl b=>cases (show u=lP b from r);rfl
 | int i=>obtain⟨t,e⟩:=(show ∃ t,u=j6 i t from r);cases e;rfl
 | str x=>obtain⟨t,e⟩:=(show ∃ t,u=gR x t from r);cases e;rfl
 | byt b=>obtain⟨t,e⟩:=(show ∃ t,u=Value.bytes b t from r);cases e;rfl
 | stk y n ex=>obtain⟨t,e,_⟩:=(show ∃ t,u=gR y t/\(if ex=true then t=n else n<=t) from r);cases e;rfl
 | ref a=>cases (show u=aR a from r);rfl
 | ty n=>cases (show u=d_ n from r);rfl
section
variable {P:aI} {w:bp} {H H':Hp} {h h':Heap} {a C dx:Addr} {fs fs':List (Str×V)}
theorem F2 (hok:HOk P w H h) (e:H a=some (.ins C dx fs)):∃ mA,ObjM h a dx C mA/\(∀ f,RelO (fs.lookup f) (mA f))/\eI mA (fs.map (·.1))/\fs.length<=1000/\H dx=some (.own a):=by
 obtain⟨d,z,ne,ob,mA,n,r,q⟩:=(show ObjOk P w H h a (.ins C dx fs) from hok a _ e)
 exact⟨mA,⟨ob,n,ne⟩,r,q,z,d⟩
end
structure Cls (K:ae) (C:Addr):Prop where
 pg:c5 K C ck=true
 hd:du K C=true
 po:d9 K C=true
 sa:aq K (.ref C) "__setattr__" = some (some (.builtin "object.__setattr__"))
theorem Cls.get {K:ae} {C:Addr} (c:Cls K C) (f:Str):c5 K C f=true:=c.pg
noncomputable def NoAttr (K:ae) (C:Addr) (f:Str):Prop:=aq K (.ref C) f=some none
theorem NoAttr.taker {K:ae} {C:Addr} {f:Str} (n:NoAttr K C f):j5 K C f=some none:=by
 unfold j5
 rw [show aq K (.ref C) f=some none from n]
 rfl
structure Bs (K:ae) (C:Addr) (m:Str) (f:Addr):Prop where
 at_:aq K (.ref C) m=some (some (.ref f))
 fn:cR K (.ref f)=true
 kp:aN K (.ref f)=true
section
variable {X:Cx} {pins:List (Addr×Obj)} {σ:St} {H:Hp} {s:aj} {a C dx:Addr} {fs:List (Str×V)} {f:Str} {v:V} {A:bi} {E:Value->aj->Prop}
theorem Qj {b:Bool} {Q:Value->aj->Prop} (I:Inv X pins σ H s) (e:H a=some (.ins C dx fs)) (c:Cls X.K C) (n:NoAttr X.K C f) (l:fs.lookup f=some v)
  (h:∀ u s',Inv X pins σ H s'->RelV v u->Q u s'):aJ (model X.prog X.w) A (k9 (.ref a) f b) Q E s:=by
 obtain⟨mA,O,r,_,_,_⟩:=F2 I.hok e
 obtain⟨u,hu,ru⟩:=RelO.some_of (v:=v) (o:=mA f) (by rw [<- l];exact r f)
 exact al0 I.kIn O (c.get f) c.hd n hu (Kz ru) (h u _ (I.tok _) ru)
theorem Ig {m:Str} {g:Addr} {pl:Sem Bool} {Q:Value×List Value->aj->Prop} (I:Inv X pins σ H s) (e:H a=some (.ins C dx fs)) (c:Cls X.K C) (k:Bs X.K C m g) (l:fs.lookup m=none)
  (h:Q (.ref g,[.ref a]) s):aJ (model X.prog X.w) A (getMethod (.ref a) m pl) Q E s:=by
 obtain⟨mA,O,r,_,_,_⟩:=F2 I.hok e
 have hn:mA m=none:=RelO.none_of (by rw [<- l];exact r m)
 exact Yu I.kIn O (c.get m) k.at_ k.fn hn h
theorem Rx {y:V} {u:Value} {Q:Unit->aj->Prop} (I:Inv X pins σ H s) (e:H a=some (.ins C dx fs)) (c:Cls X.K C) (n:NoAttr X.K C f) (hl:fs.length<1000) (ry:RelV y u)
  (h:∀ s',Inv X pins σ (upd H a (.ins C dx (D6 f y fs))) s'->Q () s'):aJ (model X.prog X.w) A (mr (.ref a) f u) Q E s:=by
 obtain⟨mA,O,r,wi,_,ho⟩:=F2 I.hok e
 have hz:(fs.map (·.1)).length<=sizeLine:=by rw [ai,bb];omega
 refine ar8 I.kIn O c.sa c.po n.taker c.hd wi hz fun h' O' sb=>h _ ?_
 have hd:∃ o,h'.get? dx=some o:=let ⟨o,_,_,e',_⟩:=O'.ns;⟨o,e'⟩
 refine I.write (x:=a) (e:=dx) (by rw [e];exact bD) (.inr ho) (fun b q hb z=>(sb.2 b hb).trans z) hd ?_
 refine⟨by rw [Ah O.ne];exact ho,?_,O.ne,O'.obj,_,O'.ns,fun g=>?_,fun g hg=>?_⟩
 ·have:=Ei f y fs;omega
 ·show RelO ((D6 f y fs).lookup g) (if g=f then some u else mA g)
  rw [Ej]
  by_cases q:g=f
  ·rw [if_pos q,if_pos q];exact ry
  ·rw [if_neg q,if_neg q];exact r g
 ·by_cases q:g=f
  ·rw [q];exact (Dq f y fs).1
  ·refine (Dq f y fs).2 g (wi g fun z=>hg ?_)
   show (if g=f then some u else mA g)=none
   rw [if_neg q];exact z
theorem Inv.made (I:Inv X pins σ H s):Inv X pins σ (upd (upd H s.heap.objs.size (.own (s.heap.objs.size+1))) (s.heap.objs.size+1) (.ins C s.heap.objs.size []))
  {s with heap:=(s.heap.push bE).push (bR C s.heap.objs.size) }:=by
 have e1:(s.heap.push bE).get? s.heap.objs.size=some bE:=aw s.heap rfl
 have e2:((s.heap.push bE).push (bR C s.heap.objs.size)).get? (s.heap.objs.size+1)=some (bR C s.heap.objs.size):=by
  have:=aw (s.heap.push bE) (o:=bR C s.heap.objs.size) rfl
  rwa [cB] at this
 have e3:(s.heap.push bE).Ns s.heap.objs.size (fun _=>none):=⟨bE,#[],_,e1,rfl,(fun e he=>absurd he (by simp)),fun _=>rfl⟩
 have I1:=I.laid (a:=s.heap.objs.size) (o:=.own (s.heap.objs.size+1)) (h':=s.heap.push bE) (t':=s.toks) (fun b u q=>ag _ q) (ah _) ⟨_,e1⟩
 refine I1.laid (a:=s.heap.objs.size+1) (o:=.ins C s.heap.objs.size []) (t':=s.toks) (fun b u q=>ag _ q) (jX (cB _ _)) ?_
 have ne:s.heap.objs.size≠s.heap.objs.size+1:=aH (cK _)
 refine⟨by rw [Ah ne,Ad],bA _,ne,e2,fun _=>none,(Heap.Ns1.of_empty e3).at fun o q=>ag _ q,fun _=>bD,fun y hy=>absurd rfl hy⟩
theorem Tm {prog:aI} {w:bp} {env:Env} {e:Expr} {f:Str} {pos:Pos} {s:aj} {Q:Value->aj->Prop} (hb:jq e f env (eval e env)=eval e env)
  (h:aJ (model prog w) A (eval e env) (fun o s₁=>aJ (model prog w) A (k9 o f true) Q E s₁) E s):aJ (model prog w) A (eval (.Attribute e f pos) env) Q E s:=
 Attribute_any_ h (by rw [arm_eval_Attribute,hb])
end
section
variable {X:Cx} {o e value:Expr} {f:Str} {pos pos' tpos:Pos} {ta tv:TE}
end
section
variable {X:Cx} {pins:List (Addr×Obj)} {σ:St} {H:Hp} {s:aj} {A:bi} {E:Value->aj->Prop} {Q:Value->aj->Prop} {c:Value} {b:Bool}
inductive TyOf (K:ae) (H:Hp):V->Value->Prop where
 | non:TyOf K H .non (.type "NoneType")
 | bl (x:Bool):TyOf K H (.bl x) (.type "bool")
 | int (i:Int):TyOf K H (.int i) (.type "int")
 | str (x:Str):TyOf K H (.str x) (.type "str")
 | stk (x:Str) (n:Nat) (ex:Bool):TyOf K H (.stk x n ex) (.type "str")
 | lst {a:Addr} {xs:List V} (e:H a=some (.lst xs)):TyOf K H (.ref a) (.type "list")
 | frz {a:Addr} {o:Obj} {xs:List V} (e:H a=some (.frz o (.lst xs))):TyOf K H (.ref a) (.type "list")
 | tup {a:Addr} {xs:List V} (e:H a=some (.tup xs)):TyOf K H (.ref a) (.type "tuple")
 | dK {a:Addr} {kvs:List (Key×V)} (e:H a=some (.dK kvs)):TyOf K H (.ref a) (.type "dict")
 | dT {a:Addr} {kvs:List (List Key×V)} (e:H a=some (.dT kvs)):TyOf K H (.ref a) (.type "dict")
 | ins {a C dx:Addr} {fs:List (Str×V)} (e:H a=some (.ins C dx fs)) (cl:Cls K C) (ha:aq K (.ref C) "__class__" = some (some (.builtin "object.__class__")))
   (hn:dw K (.builtin "object.__class__") "__get__" = some (some (.builtin "getset_descriptor.__get__"))) (htk:fw K (.builtin "object.__class__")=some true)
   (hm:lE K C (.type "object")=some true):TyOf K H (.ref a) (.ref C)
theorem K2 {x:V} {u t:Value} (I:Inv X pins σ H s) (rx:RelV x u) (ty:TyOf X.K H x t) (e:fR X.K t c=some b) (h:∀ tk,Q (.bool b) { s with toks:=tk }) :
  aJ (model X.prog X.w) A (call (.builtin "isinstance") [u,c]) Q E s:=by
 cases ty with
 | non=>cases (show u=bG from rx);exact bV PySem.W.kitx_none I.kIn bD e (fun z=>nomatch z) h
 | bl y=>cases (show u=lP y from rx);exact bV PySem.W.kitx_bool I.kIn bD e (fun z=>nomatch z) h
 | int i=>obtain⟨t,q⟩:=(show ∃ t,u=j6 i t from rx);cases q;exact bV PySem.W.kitx_int I.kIn bD e (fun z=>nomatch z) h
 | str y=>obtain⟨t,q⟩:=(show ∃ t,u=gR y t from rx);cases q;exact bV PySem.W.kitx_str I.kIn bD e (fun z=>nomatch z) h
 | stk y n ex=>obtain⟨t,q,_⟩:=(show ∃ t,u=gR y t/\(if ex=true then t=n else n<=t) from rx);cases q;exact bV PySem.W.kitx_str I.kIn bD e (fun z=>nomatch z) h
 | @lst a xs ea=>
  cases (show u=aR a from rx)
  obtain⟨_,_,n,_,h1⟩:=(show ObjOk X.prog X.w H s.heap a (.lst xs) from I.hok a _ ea)
  exact bV jc I.kIn ⟨_,h1,rfl⟩ e (fun z=>nomatch z) h
 | @frz a ob xs ea=>
  cases (show u=aR a from rx)
  obtain⟨_,_,_,n,_,h1⟩:=(show ObjOk X.prog X.w H s.heap a (.frz ob (.lst xs)) from I.hok a _ ea)
  exact bV jc I.kIn ⟨_,h1,rfl⟩ e (fun z=>nomatch z) h
 | @tup a xs ea=>
  cases (show u=aR a from rx)
  obtain⟨_,_,_,p⟩:=(show ObjOk X.prog X.w H s.heap a (.tup xs) from I.hok a _ ea)
  obtain⟨o,h1,h2,_⟩:=p
  exact bV lB I.kIn ⟨o,h1,h2⟩ e (fun z=>nomatch z) h
 | @dK a kvs ea=>
  cases (show u=aR a from rx)
  obtain⟨_,_,vs,_,p⟩:=(show ObjOk X.prog X.w H s.heap a (.dK kvs) from I.hok a _ ea)
  obtain⟨o,es,ep,h1,h2,_⟩:=p
  exact bV PySem.W.kitx_dict I.kIn ⟨o,h1,h2.1⟩ e (fun z=>nomatch z) h
 | @dT a kvs ea=>
  cases (show u=aR a from rx)
  obtain⟨_,_,xs,_,o,es,ep,h1,h2,_⟩:=(show ObjOk X.prog X.w H s.heap a (.dT kvs) from I.hok a _ ea)
  exact bV PySem.W.kitx_dict I.kIn ⟨o,h1,h2.1⟩ e (fun z=>nomatch z) h
 | @ins a C dx fs ea cl ha hn htk hm=>
  cases (show u=aR a from rx)
  obtain⟨mA,O,_⟩:=F2 I.hok ea
  obtain⟨od,J,_⟩:=O.look
  exact bV (PySem.W.kitx_own (cl.get _) cl.hd ha hn htk hm) I.kIn J e (fun z=>nomatch z) h
end
structure Room (k:Nat) (A:bi):Prop where
 hd:A.handled=none
 dp:A.depth+3 * k+5<recursionLimit
 un:A.units+16 * k+200<cLine
theorem Room.mono {j k:Nat} {A:bi} (r:Room k A) (h:j<=k):Room j A:=⟨r.hd,by have:=r.dp;omega,by have:=r.un;omega⟩
theorem Room.deeper {k:Nat} {A:bi} (r:Room (k+1) A) (env:Env):Room k (A.deeper env):=
 ⟨r.hd,by have:=r.dp;show A.depth+1+3 * k+5<_;omega,by have:=r.un;show A.units+3+16 * k+200<_;omega⟩
theorem Room.in1 {k:Nat} {A:bi} (r:Room (k+1) A):Room k A.in1:=
 ⟨r.hd,by have:=r.dp;show A.depth+3 * k+5<_;omega,by have:=r.un;show A.units+1+16 * k+200<_;omega⟩
theorem Qp {A:bi} {C:Addr} {us:List Value} {kw:List (Str×Value)}:(A.under (.builtin "type.__call__" ⟨.ref C::us,kw⟩)).depth=A.depth+1:=by
 first|rfl|simp [lU,Code.weight,Code.isCreation,Code.isGuard,Code.isCaller,Code.frames,lV,guardIds]
theorem Qq {A:bi} {C:Addr} {us:List Value} {kw:List (Str×Value)}:(A.under (.builtin "type.__call__" ⟨.ref C::us,kw⟩)).units=A.units+1:=by
 first|rfl|simp [lU,Code.cUnits,Code.frames,lV]
theorem Room.make {k:Nat} {A:bi} (r:Room (k+1) A) (C:Addr) (us:List Value) (kw:List (Str×Value)):Room k (A.under (.builtin "type.__call__" ⟨.ref C::us,kw⟩)):=
 ⟨r.hd,by have:=r.dp;rw [Qp];omega,by have:=r.un;rw [Qq];omega⟩
theorem Room.depth {k:Nat} {A:bi} (r:Room k A):A.depth<recursionLimit:=by have:=r.dp;omega
theorem Room.units {k:Nat} {A:bi} (r:Room k A):A.units+64<cLine:=by have:=r.un;omega
noncomputable def cb9:TA:=fun _ H Q=>Q [] H
noncomputable def b45 (ta:TE) (tr:TA):TA:=fun σ H Q=>ta σ H fun x H1=>tr σ H1 fun xs H2=>Q (x::xs) H2
section
variable {X:Cx} {e:Expr} {es:List Expr} {te:TE} {t:TA} {pos:Pos}
theorem bd2:PA X [] cb9:=fun _ _ _ _ H Q I h=>i4 ⟨[],H,I,.nil,h⟩
theorem an9 (ha:PE X e te) (hr:PA X es t) (hs:cO (e::es) X.env=(false,eval e X.env)::cO es X.env:=by rfl):PA X (e::es) (b45 te t):=by
 intro pos pins s σ H Q I h
 rw [hs]
 show aJ _ _ (spliced ((false,eval e X.env)::jA pos (cO es X.env))) _ _ s
 refine iE (thn (ha pins s σ H _ I h) fun u s1 ⟨x,H1,I1,r1,q1⟩=>?_)
 exact thn (hr pos pins s1 σ H1 _ I1 q1) fun us s2 ⟨xs,H2,I2,r2,q2⟩=>⟨x::xs,H2,I2,.cons r1 r2,q2⟩
noncomputable def cc3 (t:TA):TE:=fun σ H Q=>t σ H fun xs H1=>xs.length<=sizeLine /\ ∀ p,H1 p=none->Q (.ref p) (upd H1 p (.tup xs))
noncomputable def cb8 (t:TA):TE:=fun σ H Q=>t σ H fun xs H1=>xs.length<=sizeLine /\ ∀ p,H1 p=none->Q (.ref p) (upd H1 p (.lst xs))
theorem bd8 {x1} (h:PA X es t):PE X (.Tuple es x1 pos) (cc3 t):=by
 intro pins s σ H Q I hq
 refine wpAny_Tuple_spliced (thn (h pos pins s σ H _ I hq) fun us s1 ⟨xs,H1,I1,r,z,q⟩=>⟨by rw [<- r.length];exact z,?_⟩)
 have hf:H1 s1.heap.objs.size=none:=I1.hok.fresh (ah _)
 refine⟨.ref s1.heap.objs.size,upd H1 s1.heap.objs.size (.tup xs),I1.laid (t':=s1.toks) (fun b u e=>ag _ e) (ah _) ?_,rfl,q _ hf⟩
 exact⟨z,us,r,⟨_,aw _ rfl,rfl,_,rfl⟩⟩
theorem bd4 (h:PA X es t):PE X (.List es pos) (cb8 t):=by
 intro pins s σ H Q I hq
 refine wpAny_List_spliced (thn (h pos pins s σ H _ I hq) fun us s1 ⟨xs,H1,I1,r,z,q⟩=>⟨by rw [<- r.length];exact z,?_⟩)
 have hf:H1 s1.heap.objs.size=none:=I1.hok.fresh (ah _)
 refine⟨.ref s1.heap.objs.size,upd H1 s1.heap.objs.size (.lst xs),I1.laid (t':=s1.toks) (fun b u e=>ag _ e) (ah _) ?_,rfl,q _ hf⟩
 exact⟨z,us,0,r,aw _ rfl⟩
end
noncomputable abbrev Sp:=List V->Hp->VK->XK->Prop
noncomputable abbrev CXT:=List Env->Hp->aj->XK->Value->aj->Prop
structure Env0 (P:aI) (w:bp) (K:ae) (mg:Str->Option Value) (base:Heap) (A:bi) (outer:List Env) (s:aj) (H:Hp):Prop where
 frames:A.frames=some outer
 mod:Mod K mg base
 bs:∀ b o,base.get? b=some o->s.heap.get? b=some o/\H b=none
 bsz:base.objs.size<=s.heap.objs.size
 funs:s.heap.FunFrames base outer
 frf:∀ b∈frs outer,H b=none
 hok:HOk P w H s.heap
 bare:jQ s.gens
 tk:Tl K s.toks
noncomputable def CE (outer:List Env) (P:aI) (w:bp) (H:Hp) (s:aj) (Q:VK) (u:Value) (s':aj):Prop:=
 ∃ v H',(s'.os=s.os/\s.toks<=s'.toks)/\jQ s'.gens/\Un (frs outer) [] H H' s.heap s'.heap/\HOk P w H' s'.heap/\RelV v u/\Q v H'
noncomputable def CR (CX:CXT) (outer:List Env) (P:aI) (w:bp) (H:Hp) (s:aj) (Q:VK) (E:XK) (r:kG) (s':aj):Prop:=
 match r with
 | .ok (.ret u)=>CE outer P w H s Q u s'
 | .ok _=>False
 | .error e=>CX outer H s E e s'
structure FnOk (P:aI) (w:bp) (K:ae) (mg:Str->Option Value) (base:Heap) (CX:CXT) (k:Nat) (f:Addr) (fd:au) (ps:List Str) (sp:Sp):Prop where
 len:∀ vs H Q E,sp vs H Q E->vs.length=ps.length
 run:∀ (A:bi) (outer:List Env) (s:aj) (H:Hp) (args:Args) (us:List Value) (vs:List V) (Q:VK) (E:XK),Room k A->Env0 P w K mg base A outer s H->mh s fd args (ps.zip us)->Vals vs us->sp vs H Q E ->
  eU (model P w) A (.call (.ref f) args) (CR CX outer P w H s Q E) s
theorem FnOk.imp {P:aI} {w:bp} {K:ae} {mg:Str->Option Value} {base:Heap} {CX:CXT} {k:Nat} {f:Addr} {fd:au} {ps:List Str} {sp sp':Sp} (F:FnOk P w K mg base CX k f fd ps sp)
  (h:∀ vs H Q E,sp' vs H Q E->sp vs H Q E):FnOk P w K mg base CX k f fd ps sp':=
 ⟨fun vs H Q E q=>F.len vs H Q E (h _ _ _ _ q),fun A outer s H args us vs Q E hr he hb hv hs=>F.run A outer s H args us vs Q E hr he hb hv (h _ _ _ _ hs)⟩
theorem Env0.make {P:aI} {w:bp} {K:ae} {mg:Str->Option Value} {base:Heap} {A:bi} {outer:List Env} {s:aj} {H:Hp} (e:Env0 P w K mg base A outer s H) (C:Addr) (us:List Value) (kw:List (Str×Value)) :
  Env0 P w K mg base (A.under (.builtin "type.__call__" ⟨.ref C::us,kw⟩)) outer s H:=⟨by first|exact e.frames|(simpa [lU,Code.envs,lV,pushEnvs] using e.frames),e.mod,e.bs,e.bsz,e.funs,e.frf,e.hok,e.bare,e.tk⟩
theorem Env0.in1 {P:aI} {w:bp} {K:ae} {mg:Str->Option Value} {base:Heap} {A:bi} {outer:List Env} {s:aj} {H:Hp} (e:Env0 P w K mg base A outer s H) :
  Env0 P w K mg base A.in1 outer s H:=⟨e.frames,e.mod,e.bs,e.bsz,e.funs,e.frf,e.hok,e.bare,e.tk⟩
section
variable {X:Cx} {pins:List (Addr×Obj)} {σ:St} {H:Hp} {s s':aj}
theorem Inv.env0 (I:Inv X pins σ H s):Env0 X.prog X.w X.K X.mg X.base X.A X.stack s H:=
 ⟨I.ok.frames,I.ok.mod,I.bs,aL I.ok.bsz I.sz,I.stack,I.stkFree,I.hok,I.bare,bD⟩
theorem Inv.after {Q:VK} {u:Value} (I:Inv X pins σ H s) (h:CE X.stack X.prog X.w H s Q u s'):EP X pins σ Q u s':=by
 obtain⟨v,H',os,bare,un,hok,r,q⟩:=h
 obtain⟨hh,g,d,t,os'⟩:=s'
 obtain rfl:os'=s.os:=os.1
 exact⟨v,H',I.call (h':=hh) (g':=g) (d':=d) (t':=t) (ch:=[]) un hok bare (fun b z=>absurd z (by simp)) os.2,r,q⟩
end
noncomputable def Binds (K:ae) (fd:au) (ps:List Str) (ds:List Value):Prop:=
 ∀ (s:aj) (us:List Value),K.In s.heap->(us++ds).length=ps.length->mh s fd ⟨us,[]⟩ (ps.zip (us++ds))
theorem Binds.all {K:ae} {fd:au} {ps:List Str} (h:∀ us:List Value,us.length=ps.length->lH fd ⟨us,[]⟩=pure (ps.zip us)):Binds K fd ps []:=fun s us _ hl=>by
 rw [dB] at hl ⊢
 exact .of_eq (h us hl)
section
variable {X:Cx} {CX:CXT} {k:Nat} {f C:Addr} {fd:au} {ps:List Str} {sp:Sp} {dvs:List V} {ds:List Value} {E:XK} {x m:Str} {p pos apos:Pos} {e o:Expr} {es:List Expr} {ta:TE} {t:TA}
structure Mk (K:ae) (C f:Addr):Prop where
 makes:bM K C=true
 init:aq K (.ref C) "__init__" = some (some (.ref f))
 fn:cR K (.ref f)=true
 kp:aN K (.ref C)=true
end
section
variable {X:Cx} {CX:CXT} {k:Nat} {f C:Addr} {fd:au} {ps ks:List Str} {sp:Sp} {E:XK} {x m:Str} {p pos apos kpos:Pos} {e o:Expr} {es:List Expr} {kws:List mk} {te ta:TE} {t tk:TA} {nm:Option Str}
variable {g:List Value->List Value->List Value} {gV:List V->List V->List V}
end
structure Al (N P:List Str) (sc:Scope):Prop where
 kind:sc.kind=.function
 co:sc.isCoroutine=false
 gen:sc.isGenerator=false
 nd:N.Nodup
 pre:N.take P.length=P
 par:∀ x∈P,sc.names.lookup x=some .local\/sc.names.lookup x=some .cell
 nofree:∀ y∈sc.names,y.2≠.free
theorem Kp {kindOf:Str->Option cu} {x:Str}:∀ {binds:List (Str×Value)} {m:Str->Option Value},(∀ v,(x,v)∉binds)->bindL kindOf binds m x=m x
 | [],_,_=>rfl
 | (n,v)::r,m,h=>by
  unfold bindL
  rw [Kp fun w hw=>h w (aC _ hw)]
  split
  ·have:x≠n:=by rintro rfl;exact h v bv
   simp [this]
  ·rfl
theorem Kn {kindOf:Str->Option cu} {x:Str}:∀ {binds:List (Str×Value)} {m:Str->Option Value},(∀ v,(x,v)∉binds)->bindC kindOf binds m x=m x
 | [],_,_=>rfl
 | (n,v)::r,m,h=>by
  unfold bindC
  rw [Kn fun w hw=>h w (aC _ hw)]
  split
  ·rfl
  ·have:x≠n:=by rintro rfl;exact h v bv
   simp [this]
theorem Ko {kindOf:Str->Option cu} {x:Str} {v:Value}:∀ {P:List Str} {vs:List Value} {i:Nat} {m:Str->Option Value},P.Nodup->P[i]? = some x->vs[i]? = some v->kindOf x=some .local ->
  bindL kindOf (P.zip vs) m x=some v
 | [],_,_,_,_,h,_,_=>by simp at h
 | _::_,[],_,_,_,_,h,_=>by simp at h
 | p::P,w::vs,0,m,nd,h1,h2,hk=>by
  simp at h1 h2;subst h1;subst h2
  show bindL kindOf ((p,w)::P.zip vs) m p=_
  unfold bindL
  rw [Kp fun v hv=>(List.nodup_cons.mp nd).1 (jU hv).1,if_pos hk]
  simp
 | p::P,w::vs,i+1,m,nd,h1,h2,hk=>by
  show bindL kindOf ((p,w)::P.zip vs) m x=_
  unfold bindL
  exact Ko (i:=i) (List.nodup_cons.mp nd).2 (by simpa using h1) (by simpa using h2) hk
theorem Km {kindOf:Str->Option cu} {x:Str} {v:Value}:∀ {P:List Str} {vs:List Value} {i:Nat} {m:Str->Option Value},P.Nodup->P[i]? = some x->vs[i]? = some v->kindOf x≠some .local ->
  bindC kindOf (P.zip vs) m x=some v
 | [],_,_,_,_,h,_,_=>by simp at h
 | _::_,[],_,_,_,_,h,_=>by simp at h
 | p::P,w::vs,0,m,nd,h1,h2,hk=>by
  simp at h1 h2;subst h1;subst h2
  show bindC kindOf ((p,w)::P.zip vs) m p=_
  unfold bindC
  rw [Kn fun v hv=>(List.nodup_cons.mp nd).1 (jU hv).1,if_neg hk]
  simp
 | p::P,w::vs,i+1,m,nd,h1,h2,hk=>by
  show bindC kindOf ((p,w)::P.zip vs) m x=_
  unfold bindC
  exact Km (i:=i) (List.nodup_cons.mp nd).2 (by simpa using h1) (by simpa using h2) hk
noncomputable def start (N:List Str) (vs:List V):St:=vs.map some++bh (N.length - vs.length) none
noncomputable def Od (CX:CXT) (P:aI) (w:bp) (K:ae) (mg:Str->Option Value) (base:Heap) (N:List Str) (qual:Str) (scope:Scope) (f:Addr) (cd:Value) (A:bi) (outer:List Env) (s:aj) (H:Hp) (E:XK):Cx where
 prog:=P
 w:=w
 K:=K
 mg:=mg
 base:=base
 A:=A.deeper (lZ qual scope s.heap.objs.size f cd)
 N:=N
 s₀:=s
 H₀:=H
 env:=lZ qual scope s.heap.objs.size f cd
 outer:=outer
 stack:=lZ qual scope s.heap.objs.size f cd::outer
 ex:=[]
 calm:=true
 fn:=fun _=>true
 pn:=[]
 xe:=fun e s'=>aJ (model P w) (A.deeper (lZ qual scope s.heap.objs.size f cd)) (leaving (lZ qual scope s.heap.objs.size f cd) e) (fun _ s''=>CX outer H s E e s'') (fun e' s''=>CX outer H s E e' s'') s'
theorem Ft {sc:Scope} {n:Nat} {x:Str} (h:sc.names.lookup x=some .cell):∃ c,(cellsFrom n sc.names []).lookup x=some c:=by
 have q:=jM sc.names n [] (.inl h)
 exact Option.isSome_iff_exists.mp q
theorem Vy {CX:CXT} {P:aI} {w:bp} {K:ae} {mg:Str->Option Value} {base:Heap} {N ps:List Str} {qual:Str} {scope:Scope} {f:Addr} {cd:Value} {A:bi} {outer:List Env} {s s1:aj} {H:Hp} {E:XK} {us:List Value} {vs:List V}
  (S:Al N ps scope) (hd:A.handled=none) (e0:Env0 P w K mg base A outer s H) (htk:s.toks<=s1.toks) (hl:vs.length=ps.length) (r:Vals vs us)
  (x:InCallC s s.heap.objs.size (bindL (lZ qual scope s.heap.objs.size f cd).kindOf (ps.zip us) fun _=>none) (cellsFrom (s.heap.objs.size+1) scope.names []) (bindC (lZ qual scope s.heap.objs.size f cd).kindOf (ps.zip us) fun _=>none) s1) :
  Inv (Od CX P w K mg base N qual scope f cd A outer s H E) [] (start N vs) H s1:=by
 have hpl:ps.length<=N.length:=by have:=congrArg ia S.pre;rw [bj] at this;omega
 obtain⟨h1,tk,rfl,hk⟩:=x.done
 have noA:∀ b:Addr,b∉(Od CX P w K mg base N qual scope f cd A outer s H E).ex:=fun b z=>absurd (show b∈([]:List Addr) from z) (by simp)
 refine⟨⟨e0.mod,S.kind,rfl,rfl,ah _,fun y z c h1 h2=>?_,fun y hy=>?_,fun y c _ h=>?_,fun _=>hd,Around.frames_deeper e0.frames,.inr ⟨rfl,rfl⟩,fun b z=>absurd z (noA b),e0.bs,e0.bsz,fun b _ _=>noA b,fun b z=>absurd z (noA b),e0.funs,e0.frf,e0.tk⟩,
  ⟨rfl,htk⟩,e0.bare,Un.kept hk,⟨_,x.toInCall.ns,fun i y v h1 h2 h3=>?_⟩,fun y c h=>⟨_,x.cell y c h⟩,e0.hok.fresh (ah _),fun y c h=>?_,fun p hp=>absurd (show p∈([]:List (Addr×Obj)) from hp) (by simp),e0.hok.kept hk,?_⟩
 ·exact name_of_addr x.apart (b7 h1) (b7 h2)
 ·have hy:scope.names.lookup y=some .cell\/scope.names.lookup y=some .free:=hy
  rcases hy with hy|hy
  ·exact Ft hy
  ·exact absurd rfl (S.nofree _ (b7 hy))
 ·exact fu (x.above y c (b7 h))
 ·have hi:i<vs.length:=by
   unfold start at h2
   by_cases hi:i<vs.length
   ·exact hi
   ·rw [cM (by simpa using hi)] at h2
    rw [List.getElem?_replicate] at h2
    split at h2 <;> cases h2
  have ha:vs[i]? = some v:=by
   unfold start at h2
   rw [dS (by simpa using hi),aE] at h2
   cases e:vs[i]? with
   | none=>rw [e] at h2;cases h2
   | some a=>rw [e] at h2;cases h2;rfl
  obtain⟨u,hu,rv⟩:=r.get ha
  have hp:ps[i]? = some y:=by
   rw [<- S.pre,List.getElem?_take_of_lt (by omega)];exact h1
  have ndP:ps.Nodup:=by rw [<- S.pre];exact S.nd.sublist (List.take_sublist _ _)
  refine⟨u,rv,?_⟩
  rcases S.par y (aX hp) with k|k
  ·exact .inl ⟨k,Ko ndP hp hu k⟩
  ·obtain⟨c,e⟩:=Ft (n:=s.heap.objs.size+1) k
   refine .inr ⟨.inl k,c,e,?_⟩
   have q:=x.cell y c e
   rw [Km ndP hp hu (by show scope.names.lookup y≠_;rw [k];decide)] at q
   exact q
 ·exact e0.hok.fresh (fu (x.above y c (b7 h)))
 ·unfold start
  show _=N.length
  rw [av,ai,List.length_replicate]
  omega
theorem bt3 {CX:CXT} {P:aI} {w:bp} {K:ae} {mg:Str->Option Value} {base:Heap} {k:Nat} {f:Addr} {name qual:Str} {params:Arguments} {body:List Stmt} {scope:Scope} {dV kV doc pm cdv ct oc:Value} {an od:Option Addr}
  {osl:Array (Option Value)} {N ps:List Str} {sp:Sp} (lk:K.lookup f=some ⟨oc,od,.func (b8 name qual params body scope dV kV doc pm an cdv ct),osl⟩) (hcd:dq K cdv qual=true) (S:Al N ps scope)
  (len:∀ vs H Q E,sp vs H Q E->vs.length=ps.length)
  (hbody:∀ (A:bi) (outer:List Env) (s:aj) (H:Hp) (vs:List V) (Q:VK) (E:XK),Room k (A.deeper (lZ qual scope s.heap.objs.size f cdv))->sp vs H Q E ->
   ∃ t,PSs (Od CX P w K mg base N qual scope f cdv A outer s H E) body t/\t { nx:=fun _ H'=>Q .non H',rt:=Q } (start N vs) H) :
  FnOk P w K mg base CX (k+1) f (b8 name qual params body scope dV kV doc pm an cdv ct) ps sp:=by
 refine⟨len,fun A outer s H args us vs Q E hr e0 hb r hsp=>?_⟩
 have hl:=len _ _ _ _ hsp
 have KX:K.In s.heap:=e0.mod.kin.keeps fun b o e=>(e0.bs b o e).1
 have lim:s.heap.NoLimit:=e0.mod.nolimit.keeps fun b o e=>(e0.bs b o e).1
 have hkind:∀ y∈ps.zip us,scope.names.lookup y.1=some .local\/(scope.names.lookup y.1=some .cell/\((cellsFrom (s.heap.objs.size+1) scope.names []).lookup y.1).isSome=true):=fun⟨n,v⟩ hy=>by
  rcases S.par n (jU hy).1 with q|q
  ·exact .inl q
  ·exact .inr ⟨q,jM _ _ _ (.inl q)⟩
 refine codeAny_call_function hr.depth (KX _ _ lk) rfl S.co S.gen rfl (PySem.W.codeRec_of KX hcd) (hb _ _ _ _ ?_)
 refine bI (ah _) (wpAny_newFunctionEnv_cells S.kind hkind fun env he s1 x htk=>?_)
 subst he
 refine⟨lim.keeps x.toInCall.keep,codeAny_func ?_⟩
 obtain⟨t,ht,hq⟩:=hbody A outer s H vs Q E (hr.deeper _) hsp
 have I:Inv (Od CX P w K mg base N qual scope f cdv A outer s H E) [] (start N vs) H s1:=Vy S hr.hd e0 htk hl r x
 refine b6 (ht [] s1 (start N vs) H _ I hq) (fun fl s' hs=>?_) fun e s' hs=>hs
 have fin:∀ {σ':St} {H':Hp} {v:V} {u:Value},Inv (Od CX P w K mg base N qual scope f cdv A outer s H E) [] σ' H' s'->RelV v u->Q v H'->CE outer P w H s Q u s':=
  fun {σ' H' v u} J rv q=>⟨v,H',J.os,J.bare,J.base,J.hok,rv,q⟩
 cases fl with
 | ret u=>
  obtain⟨v,σ',H',J,rv,q⟩:=hs
  exact fin J rv q
 | next=>
  obtain⟨σ',H',J,q⟩:=hs
  exact fin (v:=V.non) (u:=bG) J rfl q
 | brk=>
  obtain⟨_,_,_,q⟩:=hs
  exact b_ q
 | cont=>
  obtain⟨_,_,_,q⟩:=hs
  exact b_ q
section
variable {X:Cx} {x:Str} {p pos:Pos} {e:Expr} {es:List Expr} {t:TA} {id T:String} {r:List V->Hp->VK->Prop}
noncomputable def tCB (r:List V->Hp->VK->Prop) (t:TA):TE:=fun σ H Q=>t σ H fun vs H1=>r vs H1 Q
theorem Zo (hc:Bw X (.builtin id) r) (hg:Gl X x) (hm:X.mg x=none) (hv:cS x=some (.builtin id)) (ha:PA X (e::es) t) (hn:x ≠ "__name__" := by decide) (hdb:(x==("__debug__" : Str))=false:=by decide)
  (he:cO (e::es) X.env=(false,eval e X.env)::cO es X.env:=by rfl) (hpl:(jA pos (cO es X.env)).any (·.1)=false:=by rfl):PE X (.Call (.Name x p) (e::es) [] pos) (tCB r t):=by
 intro pins s σ H Q I h
 refine bS (Dy I hg hm hv ?_ hn hdb)
 exact gP (thn (ha pos pins s σ H _ I h) fun us s1 ⟨vs,H1,I1,r1,q1⟩=>hc pins s1 σ H1 vs us Q I1 r1 q1) he hpl
theorem Wc (hc:Bw X (.type T) r) (hg:Gl X x) (hm:X.mg x=none) (hv:cS x=some (.type T)) (ha:PA X (e::es) t) (hn:x ≠ "__name__" := by decide) (hdb:(x==("__debug__" : Str))=false:=by decide)
  (he:cO (e::es) X.env=(false,eval e X.env)::cO es X.env:=by rfl) (hpl:(jA pos (cO es X.env)).any (·.1)=false:=by rfl):PE X (.Call (.Name x p) (e::es) [] pos) (tCB r t):=by
 intro pins s σ H Q I h
 refine bS (Dy I hg hm hv ?_ hn hdb)
 exact cH (thn (ha pos pins s σ H _ I h) fun us s1 ⟨vs,H1,I1,r1,q1⟩=>hc pins s1 σ H1 vs us Q I1 r1 q1) he hpl
end
end L2
namespace HT
open PySem PyProof.Rows
section
open PySem.SeqAt
open PySem.AutoSeq1 (wpAny_loadPart')
open PySem.MeetsSeq PySem.MeetsSeq2 PySem.MeetsSeq3
end
section
variable {prog:aI} {w:bp} {A:bi} {E:Value->aj->Prop} {s:aj}
theorem cat_tup {t b:Addr} {vs ws:List Value} {Q:Value->aj->Prop} (ht:mH s.heap t vs.toArray) (hb:mH s.heap b ws.toArray) (hv:vs≠[])
  (h1:ws=[]->Q (.ref t) s) (h2:ws≠[]->Q (.ref s.heap.objs.size) { s with heap:=s.heap.push { cls:=.type "tuple", data:=.seq (vs++ws).toArray } })
  (hsz:vs.length+ws.length<=sizeLine):aJ (model prog w) A (cU .Add (.ref t) (.ref b)) Q E s:=by
 obtain⟨⟨cls,dd,data,sl⟩,ho,hc,n,hd⟩:=id ht
 obtain⟨⟨cls2,dd2,data2,sl2⟩,ho2,hc2,n2,hd2⟩:=id hb
 simp only at hc hd hc2 hd2
 subst hc hd hc2 hd2
 have e:vs.toArray++ws.toArray=(vs++ws).toArray:=by simp
 by_cases hw:ws=[]
 ·exact lY ⟨_,ho,rfl⟩ ⟨_,ho2,rfl⟩ jB lJ gH gu (gd _ _)
   (tuple_addW1 t b vs.toArray ws.toArray n n2 dd dd2 sl sl2 (by simpa using hv) (by simp [hw])) ⟨ho,ho2,h1 hw⟩
 ·refine lY ⟨_,ho,rfl⟩ ⟨_,ho2,rfl⟩ jB lJ gH gu (gd _ _)
   (tuple_addW2 t b vs.toArray ws.toArray n n2 dd dd2 sl sl2 (by simpa using hv) (by simpa using hw) (by rw [ao,ao];exact hsz)) ⟨ho,ho2,?_⟩
  rw [e]
  exact h2 hw
noncomputable def sIx (n d:Nat):Option Int->Nat
 | none=>d
 | some v=>if v<0 then (v+(n:Int)).toNat else min v.toNat n
theorem sIx_none (n d:Nat):sIx n d none=d:=rfl
theorem sIx_nat (n d k:Nat):sIx n d (some (k:Int))=min k n:=by
 show (if (k:Int)<0 then ((k:Int)+(n:Int)).toNat else min (k:Int).toNat n)=min k n
 rw [if_neg (by omega),bK]
theorem bk8 (n d:Nat) (hd:d<=n) (o:Option Int):sIx n d o<=n:=by
 cases o with
 | none=>exact hd
 | some v=>
  show (if v<0 then (v+(n:Int)).toNat else min v.toNat n)<=n
  by_cases hv:v<0
  ·rw [if_pos hv];omega
  ·rw [if_neg hv];exact Nat.min_le_right _ _
theorem Tq (v:Int) (n d:Nat):(if v<0 then max (v+(n:Int)) 0 else min v (n:Int))=((sIx n d (some v):Nat):Int):=by
 show (if v<0 then max (v+(n:Int)) 0 else min v (n:Int))=(((if v<0 then (v+(n:Int)).toNat else min v.toNat n):Nat):Int)
 by_cases hv:v<0
 ·simp only [if_pos hv];omega
 ·simp only [if_neg hv];omega
theorem Pt (lo hi:Option Int) (n:Nat):fO lo hi 1 (n:Int)=(((sIx n 0 lo:Nat):Int),((sIx n n hi:Nat):Int)):=by
 have h1:¬ ((1:Int)<0):=by omega
 unfold fO
 simp only [h1,if_false]
 refine Prod.ext ?_ ?_
 ·cases lo with
  | none=>rfl
  | some v=>exact Tq v n 0
 ·cases hi with
  | none=>rfl
  | some v=>exact Tq v n n
theorem Qz (i j:Nat):dQ (i:Int) (j:Int) 1=j - i:=by
 unfold dQ
 have h1:(1:Int) > 0:=by omega
 simp only [h1,if_true,Int.ediv_one]
 split <;> omega
theorem J3 {v:Value} {o:Option Int} {Q:Option Int->aj->Prop} (p:lv v o) (h:Q o s):aJ (model prog w) A (Builtin.Slice.slicePartIndex v) Q E s:=by
 cases p with
 | none=>exact slicePart_none h
 | int i t=>exact slicePart_int h
theorem sliceApplied_gen {sl:Addr} {vl vu:Value} {lo hi:Option Int} {n:Nat} {Q:Int×Int×Nat->aj->Prop} (hs:s.heap.IsSliceOf sl vl vu .none) (pl:lv vl lo) (pu:lv vu hi)
  (h:Q (((sIx n 0 lo:Nat):Int),1,sIx n n hi - sIx n 0 lo) s):aJ (model prog w) A (iy (.ref sl) (pure (n:Int))) Q E s:=by
 obtain⟨os,hos,hcs,hds⟩:=id hs
 unfold iy Builtin.Slice.sliceFields
 refine af (af (fF hos hds (x:=vl) rfl (af (fF hos hds (x:=vu) rfl (af (fF hos hds (x:=.none) rfl (ak ?_)))))))
 refine af (slicePart_none ?_)
 show aJ _ _ (if ((1:Int)==0)=true then _ else _) _ _ s
 rw [if_neg (by decide)]
 refine af (J3 pl (af (J3 pu (af (ak ?_)))))
 show aJ _ _ (match fO lo hi 1 (n:Int) with|(lo,hi)=>pure (lo,(1:Int),dQ lo hi 1)) _ _ s
 rw [Pt lo hi n]
 show aJ _ _ (pure (((sIx n 0 lo:Nat):Int),(1:Int),dQ ((sIx n 0 lo:Nat):Int) ((sIx n n hi:Nat):Int) 1)) _ _ s
 rw [Qz]
 exact ak h
theorem Zr (xs:Array Value) (i k:Nat):((bC k).filterMap fun (m:Nat)=>xs[((i:Int)+(m:Int) * 1).toNat]?).toArray=((xs.toList.drop i).take k).toArray:=by
 have e:(fun (m:Nat)=>xs[((i:Int)+(m:Int) * 1).toNat]?)=fun m=>xs[i+m]?:=by
  funext m
  have:((i:Int)+(m:Int) * 1).toNat=i+m:=by omega
  rw [this]
 rw [e]
 have:=pick_run xs i k
 rw [List.filterMap_map] at this
 have e2:((fun x=>xs[x]?)∘fun x=>i+x)=fun m=>xs[i+m]?:=rfl
 rw [e2] at this
 rw [this]
theorem getItem_tuple_cut {t sl:Addr} {items:Array Value} {vl vu:Value} {lo hi:Option Int} {Q:Value->aj->Prop} (ht:mH s.heap t items) (hs:s.heap.IsSliceOf sl vl vu .none) (pl:lv vl lo) (pu:lv vu hi)
  (hw:¬ (sIx items.size 0 lo=0/\sIx items.size items.size hi=items.size))
  (h:Q (.ref s.heap.objs.size) { s with heap:=s.heap.push { cls:=.type "tuple", data:=.seq ((items.toList.drop (sIx items.size 0 lo)).take (sIx items.size items.size hi - sIx items.size 0 lo)).toArray } })
  (hsz:items.size<=sizeLine):aJ (model prog w) A (k_ (.ref t) (.ref sl)) Q E s:=by
 have htake:sizeOk (.seq ((items.toList.drop (sIx items.size 0 lo)).take (sIx items.size items.size hi - sIx items.size 0 lo)).toArray):=by
  show ((items.toList.drop (sIx items.size 0 lo)).take (sIx items.size items.size hi - sIx items.size 0 lo)).toArray.size<=sizeLine
  rw [ao,bj,eX,aU]
  omega
 have hj:sIx items.size items.size hi<=items.size:=bk8 _ _ (ah _) hi
 obtain⟨os,hos,hcs,hds⟩:=id hs
 have hTs:s.TypeIs (.ref sl) "slice" := ⟨os,hos,hcs⟩
 unfold k_
 try with_reducible refine bw ?_
 first|refine af (ak ?_)|skip
 refine af (wpAny_sequenceKey ht.typeIs (by decide) ?_)
 refine af (eW (name:=fz "__getitem__") ht.typeIs bU
  (c6 bU ht.typeIs entry_tuple_getitem ?_ (args_tuple_getitem _ _)))
 show aJ _ _ (iz (.ref t) >>= _) _ _ s
 refine af (tupleItemsOf_ ht ?_)
 refine af (iJ hTs ?_)
 rw [if_pos (by decide)]
 refine af (sliceApplied_gen hs pl pu ?_)
 have hno:¬ ((((sIx items.size 0 lo:Nat):Int)==0&&(1:Int)==1&&(sIx items.size items.size hi - sIx items.size 0 lo)==items.size)=true):=by
  intro q
  rw [aA,aA] at q
  have q1:((sIx items.size 0 lo:Nat):Int)=0:=cI q.1.1
  have q2:sIx items.size items.size hi - sIx items.size 0 lo=items.size:=cI q.2
  exact hw ⟨by omega,by omega⟩
 show aJ _ _ (if (((sIx items.size 0 lo:Nat):Int)==0&&(1:Int)==1&&(sIx items.size items.size hi - sIx items.size 0 lo)==items.size)=true then _ else _) _ _ s
 rw [if_neg hno,Zr]
 first
  | exact af (m:=dZ _) (cj (ak ⟨_,rfl,ak h⟩) htake)
  | exact af (m:=dZ _) (cj (af (ak (ak ⟨_,rfl,ak h⟩))) htake)
  | exact af (af (m:=dZ _) (cj (ak (ak ⟨_,rfl,ak h⟩)) htake))
  | exact af (af (m:=dZ _) (cj (ak ⟨_,rfl,ak h⟩) htake))
end
end HT
namespace L2
open PySem PySem.Spec PyProof.Rows
noncomputable abbrev TO:=St->Hp->(Option Int->Hp->Prop)->Prop
noncomputable def PO (X:Cx) (e:Option Expr) (t:TO):Prop:=
 ∀ (pins:List (Addr×Obj)) (s:aj) (σ:St) (H:Hp) (Q:Option Int->Hp->Prop),Inv X pins σ H s->t σ H Q ->
  aJ (model X.prog X.w) X.A (evalPart e X.env) (fun u s'=>∃ o H',Inv X pins σ H' s'/\lv u o/\Q o H') X.xe s
noncomputable def at0:TO:=fun _ H Q=>Q none H
section
variable {X:Cx} {e:Expr} {te:TE} {lo hi:Option Expr} {tl th:TO} {pos p2:Pos}
theorem ao5:PO X none at0:=by
 intro pins s σ H Q I h
 rw [evalPart_none]
 exact ak ⟨none,H,I,.none,h⟩
noncomputable def SlR (X:Cx) (r:V->Option Int->Option Int->Hp->VK->Prop):Prop:=
 ∀ (pins:List (Addr×Obj)) (s:aj) (σ:St) (H:Hp) (x:V) (v vl vu:Value) (lo hi:Option Int) (sl:Addr) (Q:VK),Inv X pins σ H s->RelV x v->s.heap.IsSliceOf sl vl vu .none->lv vl lo->lv vu hi->r x lo hi H Q ->
  ∃ T id,gh (.type T) "__getitem__" = pure (some (.builtin id))/\s.TypeIs v T/\aJ (model X.prog X.w) X.A (k_ v (.ref sl)) (EP X pins σ Q) X.xe s
noncomputable def Fv (xs:List V) (lo hi:Option Int):List V:=(xs.drop (HT.sIx xs.length 0 lo)).take (HT.sIx xs.length xs.length hi - HT.sIx xs.length 0 lo)
theorem G4 (xs:List V) (lo hi:Option Int):(Fv xs lo hi).length<=xs.length:=by
 unfold Fv
 rw [bj,eX]
 omega
noncomputable def cb3 (K:ae):V->Option Int->Option Int->Hp->VK->Prop:=fun x lo hi H Q=>∃ a xs,x=.ref a/\SqT K H a xs /\
 ¬ (HT.sIx xs.length 0 lo=0/\HT.sIx xs.length xs.length hi=xs.length) /\ ∀ p,H p=none->Q (.ref p) (upd H p (.tup (Fv xs lo hi)))
theorem bo2:SlR X (cb3 X.K):=by
 intro pins s σ H x v vl vu lo hi sl Q I rx hs pl pu h
 obtain⟨a,xs,rfl,hx,hw,q⟩:=h
 cases rx
 obtain⟨its,r,ht,hz⟩:=I.tuple hx
 have hlen:its.toArray.size=xs.length:=by rw [ao];exact r.length.symm
 refine⟨"tuple", _,PyProof.Rows.slot_tuple_getitem.lookup,ht.typeIs,?_⟩
 refine HT.getItem_tuple_cut ht hs pl pu (by rw [hlen];exact hw) ?_ (by rw [hlen];exact hz)
 rw [hlen]
 refine⟨.ref s.heap.objs.size,_,I.laid (t':=s.toks) (o:=.tup (Fv xs lo hi)) (fun b ob q=>ag _ q) (ah _) ?_,rfl,q _ (I.hok.fresh (ah _))⟩
 exact⟨aL (G4 xs lo hi) hz,_,(r.drop (HT.sIx xs.length 0 lo)).take (HT.sIx xs.length xs.length hi - HT.sIx xs.length 0 lo),mj _ _⟩
noncomputable def ay8 (K:ae):R2:=fun x y H Q=>∃ a b xs ys,x=.ref a/\y=.ref b/\SqT K H a xs/\SqT K H b ys/\xs≠[]/\xs.length+ys.length<=sizeLine /\
 (ys=[]->Q (.ref a) H)/\(ys≠[] -> ∀ p,H p=none->Q (.ref p) (upd H p (.tup (xs++ys))))
theorem Vals.nil_iff {xs:List V} {us:List Value} (r:Vals xs us):us=[] ↔ xs=[]:=by
 cases r with
 | nil=>simp
 | cons _ _=>simp
theorem op_catT:OpR X (cU .Add) (ay8 X.K):=by
 intro pins s σ H x y v u Q I rx ry h
 obtain⟨a,b,xs,ys,rfl,rfl,ha,hb,hx,hz,q1,q2⟩:=h
 cases rx
 cases ry
 obtain⟨its,r1,p1,_⟩:=I.tuple ha
 obtain⟨its2,r2,p2,_⟩:=I.tuple hb
 refine HT.cat_tup p1 p2 (fun z=>hx (r1.nil_iff.mp z)) (fun z=>⟨.ref a,H,I,rfl,q1 (r2.nil_iff.mp z)⟩) (fun z=>?_) (by rw [<- r1.length,<- r2.length];exact hz)
 refine⟨.ref s.heap.objs.size,_,I.laid (t':=s.toks) (o:=.tup (xs++ys)) (fun b ob q=>ag _ q) (ah _) ?_,rfl,q2 (fun w=>z (r2.nil_iff.mpr w)) _ (I.hok.fresh (ah _))⟩
 exact⟨by rw [av];exact hz,_,r1.append r2,mj _ _⟩
end
noncomputable def ixN (n:Nat) (i:Int):Option Nat:=if 0<=i then (if i<n then some i.toNat else none) else if -(n:Int)<=i then some (i+n).toNat else none
noncomputable def atI {α:Type} (xs:List α) (i:Int):Option α:=(ixN xs.length i).bind fun j=>xs[j]?
theorem Uc {n:Nat} {i:Int} {j:Nat} (h:ixN n i=some j):seqIndex? i n=some j/\j<n /\ -(n:Int)<=i/\i<n:=by
 unfold ixN at h
 by_cases h0:0<=i
 ·rw [if_pos h0] at h
  by_cases h1:i<n
  ·rw [if_pos h1] at h
   have e:i.toNat=j:=aV h
   exact⟨by rw [lg h0 h1,e],by omega,by omega,h1⟩
  ·rw [if_neg h1] at h;cases h
 ·rw [if_neg h0] at h
  by_cases h1:-(n:Int)<=i
  ·rw [if_pos h1] at h
   have e:(i+n).toNat=j:=aV h
   exact⟨by rw [l6 (by omega) h1,e],by omega,h1,by omega⟩
  ·rw [if_neg h1] at h;cases h
theorem Ln {α:Type} {xs:List α} {i:Int} {v:α} (h:atI xs i=some v):∃ j,seqIndex? i xs.length=some j/\xs[j]? = some v/\j<xs.length /\ -(xs.length:Int)<=i/\i<xs.length:=by
 unfold atI at h
 cases e:ixN xs.length i with
 | none=>rw [e] at h;cases h
 | some j=>
  rw [e] at h
  obtain⟨h1,h2,h3,h4⟩:=Uc e
  exact⟨j,h1,h,h2,h3,h4⟩
noncomputable def Tj (b:Expr):Prop:=∀ o i,subscripted b false o i=operate [o,i] (k_ o i)
noncomputable def IxR (X:Cx) (r:R2):Prop:=
 ∀ (value slice:Expr) (pins:List (Addr×Obj)) (s:aj) (σ:St) (H:Hp) (x y:V) (v u:Value) (Q:VK),Inv X pins σ H s->RelV x v->RelV y u->r x y H Q ->
  subscripted slice false v u=operate [v,u] (k_ v u)->aJ (model X.prog X.w) X.A (lK value slice v u) (EP X pins σ Q) X.xe s
noncomputable def MtR (X:Cx) (id:String) (r:V->List V->Hp->VK->Prop):Prop:=
 ∀ (pins:List (Addr×Obj)) (s:aj) (σ:St) (H:Hp) (x:V) (xs:List V) (v:Value) (us:List Value) (Q:VK),Inv X pins σ H s->RelV x v->Vals xs us->r x xs H Q ->
  aJ (model X.prog X.w) X.A (call (.builtin id) (v::us)) (EP X pins σ Q) X.xe s
section
variable {X:Cx} {a b:Expr} {ta tb:TE} {pos:Pos}
theorem by3 {r:R2} (hr:IxR X r) (ha:PE X a ta) (hb:PE X b tb) (hs:Tj b):PE X (.Subscript a b pos) (tOp r ta tb):=by
 intro pins s σ H Q I h
 exact Subscript_ (a53 ha hb I h fun v u s2 x y H2 I2 rx ry q=>hr a b pins s2 σ H2 x y v u Q I2 rx ry q (hs _ _))
noncomputable def ca5 (K:ae):R2:=fun x y H Q=>∃ p xs i v,x=.ref p/\y=.int i/\SqL K H p xs/\atI xs i=some v/\Q v H
noncomputable def ca7 (K:ae):R2:=fun x y H Q=>∃ p xs i v,x=.ref p/\y=.int i/\SqT K H p xs/\atI xs i=some v/\Q v H
noncomputable def ca6:R2:=fun x y H Q=>∃ z i c,x=.str z/\y=.int i/\z.length<=sizeLine/\atI z.cps.toList i=some c/\Q (.str ⟨#[c]⟩) H
theorem am1:IxR X (ca5 X.K):=by
 intro value slice pins s σ H x y v u Q I rx ry h hs
 obtain⟨p,xs,i,z,rfl,rfl,hq,he,q⟩:=h
 cases rx
 obtain⟨t,rfl⟩:=ry
 obtain⟨its,r,pl,hz⟩:=I.list hq
 obtain⟨j,h1,h2,h3,h4,h5⟩:=Ln he
 obtain⟨w,ew,rw'⟩:=r.get h2
 have hl:=r.length
 have hn:=Fi
 have fin:EP X pins σ Q w s:=⟨z,H,I,rw',q⟩
 by_cases h0:0<=i
 ·have hj:i.toNat=j:=by
   rw [lg h0 h5] at h1
   exact aV h1
  exact item_listR pl.isList h0 (by omega) (by rw [hj];simpa using ew) fin hs
 ·have hj:(i+(its.toArray.size:Int)).toNat=j:=by
   rw [l6 (by omega) h4] at h1
   rw [ao,<- hl]
   exact aV h1
  exact jN (x:=w) pl.isList.typeIs slot_list_getitem.lookup
   (wpAny_getItem_list_neg (Q:=fun r s'=>r=w/\EP X pins σ Q r s') pl.isList (by omega) (by rw [ao] <;> omega) (by omega) (by rw [hj];simpa using ew) ⟨rfl,fin⟩) hs
theorem a75:IxR X (ca7 X.K):=by
 intro value slice pins s σ H x y v u Q I rx ry h hs
 obtain⟨p,xs,i,z,rfl,rfl,hq,he,q⟩:=h
 cases rx
 obtain⟨t,rfl⟩:=ry
 obtain⟨its,r,pl,hz⟩:=I.tuple hq
 obtain⟨j,h1,h2,h3,h4,h5⟩:=Ln he
 obtain⟨w,ew,rw'⟩:=r.get h2
 have hl:=r.length
 have hn:=Fi
 have fin:EP X pins σ Q w s:=⟨z,H,I,rw',q⟩
 exact jN (x:=w) pl.typeIs slot_tuple_getitem.lookup
  (getItem_tuple (j:=j) (Q:=fun r s'=>r=w/\EP X pins σ Q r s') pl (by omega) (by omega) (by rw [ao,<- hl];exact h1) (by simpa using ew) ⟨rfl,fin⟩) hs
theorem a74:IxR X ca6:=by
 intro value slice pins s σ H x y v u Q I rx ry h hs
 obtain⟨z,i,c,rfl,rfl,hz,he,q⟩:=h
 obtain⟨t,rfl⟩:=rx
 obtain⟨t',rfl⟩:=ry
 obtain⟨j,h1,h2,h3,h4,h5⟩:=Ln he
 have hl:z.cps.toList.length=z.length:=by simp [Str.length]
 rw [hl] at h1 h4 h5
 have hn:=Fi
 exact mT (typeIs_str s z t) slot_str_getitem.lookup (getItem_str (c:=c) (by
  have e1:decide (i < -(2 ^ 63:Int))=false:=decide_eq_false (by omega)
  have e2:decide (i ≥ 2 ^ 63)=false:=decide_eq_false (by omega)
  rw [e1,e2,lm]) (by rw [h1];simpa using h2) ⟨.str ⟨#[c]⟩,H,I.tok _,⟨_,rfl⟩,q⟩) hs
theorem Qr (its:List Value) (n j:Nat) (u:Value):a9 (·.setIfInBounds j u) { cls:=.type "list", data:=.seq its.toArray n }={ cls:=.type "list", data:=.seq (its.set j u).toArray n }:=by
 simp [a9]
theorem Inv.lst {pins:List (Addr×Obj)} {σ:St} {H:Hp} {s:aj} {p:Addr} {xs:List V} (I:Inv X pins σ H s) (h:H p=some (.lst xs)) :
  ∃ (its:List Value) (n:Nat),Vals xs its/\s.heap.get? p=some { cls:=.type "list", data:=.seq its.toArray n }/\xs.length<=sizeLine:=by
 obtain⟨z,its,n,r,e⟩:=I.hok p _ h
 exact⟨its,n,r,e,z⟩
theorem Inv.lstUpd {pins:List (Addr×Obj)} {σ:St} {H:Hp} {s:aj} {p:Addr} {xs ys:List V} {its its':List Value} {n n':Nat} {f:Obj->Obj} (I:Inv X pins σ H s) (h:H p=some (.lst xs))
  (ho:s.heap.get? p=some { cls:=.type "list", data:=.seq its.toArray n }) (hf:f { cls:=.type "list", data:=.seq its.toArray n }={ cls:=.type "list", data:=.seq its'.toArray n' }) (r:Vals ys its') (hz:ys.length<=sizeLine) (t:Nat) (ht:s.toks<=t:=by first|exact ah _|exact ba _ _|assumption|omega|(dsimp only;omega)) :
  Inv X pins σ (upd H p (.lst ys)) { s with heap:=s.heap.update p f,toks:=t }:=by
 have e:(s.heap.update p f).get? p=some { cls:=.type "list", data:=.seq its'.toArray n' }:=by
  rw [bz f ho (by rw [hf] <;> rfl),hf]
 refine I.write (x:=p) (e:=p) (by rw [h];trivial) (.inl rfl) (fun b u hb q=>(aW _ _ (bZ hb)).trans q) ⟨_,e⟩ ?_
 exact⟨hz,its',n',r,e⟩
noncomputable def bz9:V->V->V->Hp->(Hp->Prop)->Prop:=fun o i v H Q=>∃ p xs k j,o=.ref p/\i=.int k/\H p=some (.lst xs)/\ixN xs.length k=some j/\Q (upd H p (.lst (xs.set j v)))
theorem ad9:a48 X bz9:=by
 intro pins s σ H o i v ov iv u Q I ro ri rv h
 obtain⟨p,xs,k,j,rfl,rfl,hp,hj,q⟩:=h
 cases ro
 obtain⟨t,rfl⟩:=ri
 obtain⟨its,n,r,ho,hz⟩:=I.lst hp
 obtain⟨h1,h2,h3,h4⟩:=Uc hj
 have hl:=r.length
 have hn:=Fi
 have I':Inv X pins σ (upd H p (.lst (xs.set j v))) { s with heap:=s.heap.update p (a9 (·.setIfInBounds j u)) }:=
  I.lstUpd hp ho (Qr its n j u) (r.set rv j) (by rw [List.length_set];exact hz) s.toks
 by_cases h0:0<=k
 ·have hk:k.toNat=j:=by
   rw [lg h0 h4] at h1
   exact aV h1
  exact PySem.W.ki_setAt ho h0 (by omega) (by rw [ao,<- hl];exact h4) (by rw [hk];exact⟨_,I',q⟩)
 ·have hk:(k+(its.toArray.size:Int)).toNat=j:=by
   rw [l6 (by omega) h3] at h1
   rw [ao,<- hl]
   exact aV h1
  exact PySem.W.ki_setBack ho (by omega) (by rw [ao,<- hl];exact h3) (by omega) (by rw [hk];exact⟨_,I',q⟩)
theorem Mw (lo hi:Option Int) (n:Nat):(gN lo hi none n).1=((HT.sIx n 0 lo:Nat):Int)/\(gN lo hi none n).2.1=((HT.sIx n n hi:Nat):Int)/\(gN lo hi none n).2.2=1:=by
 refine⟨?_,?_,rfl⟩
 ·cases lo with
  | none=>simp [gN,HT.sIx]
  | some i=>
   simp only [gN,HT.sIx,Option.getD_none,show (1:Int) > 0 by decide,if_true]
   by_cases h:i<0
   ·simp only [h,if_true] <;> omega
   ·simp only [h,if_false] <;> omega
 ·cases hi with
  | none=>simp [gN,HT.sIx]
  | some i=>
   simp only [gN,HT.sIx,Option.getD_none,show (1:Int) > 0 by decide,if_true]
   by_cases h:i<0
   ·simp only [h,if_true] <;> omega
   ·simp only [h,if_false] <;> omega
theorem Kj (its:List Value) (lo hi:Option Int):slicePick its.toArray lo hi none=((its.drop (HT.sIx its.length 0 lo)).take (HT.sIx its.length its.length hi - HT.sIx its.length 0 lo)).toArray:=by
 obtain⟨h1,h2,h3⟩:=Mw lo hi its.toArray.size
 unfold slicePick
 rw [h1,h2,h3]
 simp only [sliceRange_one,pick_run,ao] <;> rfl
noncomputable def cb2 (K:ae):V->Option Int->Option Int->Hp->VK->Prop:=fun x lo hi H Q=>∃ a xs,x=.ref a/\SqL K H a xs /\ ∀ p,H p=none->Q (.ref p) (upd H p (.lst (Fv xs lo hi)))
theorem as0:SlR X (cb2 X.K):=by
 intro pins s σ H x v vl vu lo hi sl Q I rx hs pl pu h
 obtain⟨a,xs,rfl,hx,q⟩:=h
 cases rx
 obtain⟨its,r,ht,hz⟩:=I.list hx
 have hlen:=r.length
 refine⟨"list", _,slot_list_getitem.lookup,ht.isList.typeIs,?_⟩
 refine wpAny_getItem_list_slice ht.isList hs pl pu .none (by simp) ?_ (by rw [ao] <;> omega)
 rw [Kj,<- hlen]
 refine⟨.ref s.heap.objs.size,_,I.laid (t':=s.toks) (o:=.lst (Fv xs lo hi)) (fun b ob q=>ag _ q) (ah _) ?_,rfl,q _ (I.hok.fresh (ah _))⟩
 exact⟨aL (G4 xs lo hi) hz,_,0,(r.drop (HT.sIx xs.length 0 lo)).take (HT.sIx xs.length xs.length hi - HT.sIx xs.length 0 lo),aw _ rfl⟩
noncomputable def Bd:V->Bool
 | .non=>true
 | .bl _=>true
 | .int _=>true
 | .str _=>true
 | _=>false
noncomputable def eqV:V->V->Bool
 | .non,.non=>true
 | .bl a,.bl b=>a==b
 | .bl a,.int b=>(if a then 1 else 0)==b
 | .int a,.bl b=>a==(if b then 1 else 0)
 | .int a,.int b=>a==b
 | .str a,.str b=>a==b
 | _,_=>false
theorem L5 {A:bi} {s:aj} {y x:V} {u v:Value} (ry:RelV y u) (rx:RelV x v) (fy:Bd y=true) (fx:Bd x=true):bx A s u v (eqV y x):=by
 cases y with
 | non=>
  cases ry
  cases x with
  | non=>cases rx;exact SeqAt.EqAt.same _
  | bl b=>cases rx;exact SeqAt.EqAt.none_bool b
  | int b=>obtain⟨t,rfl⟩:=rx;exact kX b t
  | str b=>obtain⟨t,rfl⟩:=rx;exact kY b t
  | _=>exact absurd (show false=true from fx) ar
 | bl a=>
  cases ry
  cases x with
  | non=>cases rx;exact SeqAt.EqAt.bool_none a
  | bl b=>cases rx;exact SeqAt.EqAt.bool_bool a b
  | int b=>obtain⟨t,rfl⟩:=rx;exact SeqAt.EqAt.bool_int a b t
  | str b=>obtain⟨t,rfl⟩:=rx;exact SeqAt.EqAt.bool_str a b t
  | _=>exact absurd (show false=true from fx) ar
 | int a=>
  obtain⟨t',rfl⟩:=ry
  cases x with
  | non=>cases rx;exact kW a t'
  | bl b=>cases rx;exact SeqAt.EqAt.int_bool a t' b
  | int b=>obtain⟨t,rfl⟩:=rx;exact SeqAt.EqAt.int_int a t' b t
  | str b=>obtain⟨t,rfl⟩:=rx;exact lF a t' b t
  | _=>exact absurd (show false=true from fx) ar
 | str a=>
  obtain⟨t',rfl⟩:=ry
  cases x with
  | non=>cases rx;exact kZ a t'
  | bl b=>cases rx;exact SeqAt.EqAt.str_bool a t' b
  | int b=>obtain⟨t,rfl⟩:=rx;exact lG a t' b t
  | str b=>obtain⟨t,rfl⟩:=rx;exact SeqAt.EqAt.str_str a t' b t
  | _=>exact absurd (show false=true from fx) ar
 | _=>exact absurd (show false=true from fy) ar
noncomputable def eqU (x:V) (u:Value):Bool:=match u with
 | .none=>eqV .non x
 | .bool b=>eqV (.bl b) x
 | .int i _=>eqV (.int i) x
 | .str z _=>eqV (.str z) x
 | _=>false
theorem Yn {x y:V} {u:Value} (r:RelV y u) (f:Bd y=true):eqU x u=eqV y x:=by
 cases y with
 | non=>cases r;rfl
 | bl b=>cases r;rfl
 | int i=>obtain⟨t,rfl⟩:=r;rfl
 | str z=>obtain⟨t,rfl⟩:=r;rfl
 | _=>exact absurd (show false=true from f) ar
theorem Fq {x:V}:∀ {xs:List V} {us:List Value},Vals xs us->xs.all Bd=true->us.any (eqU x)=xs.any fun y=>eqV y x
 | _,_,.nil,_=>rfl
 | y::xs,u::us,.cons r t,f=>by
  rw [bN,aA] at f
  rw [gn,gn,Yn r f.1,Fq t f.2]
theorem Ek {A:bi} {s:aj} {x:V} {v:Value} (rx:RelV x v) (fx:Bd x=true):∀ {xs:List V} {us:List Value},Vals xs us->xs.all Bd=true -> ∀ u∈us,bx A s u v (eqU x u)
 | _,_,.nil,_=>fun u hu=>by cases hu
 | y::xs,u::us,.cons r t,f=>fun u' hu=>by
  rw [bN,aA] at f
  rcases List.mem_cons.mp hu with rfl|hu
  ·rw [Yn r f.1];exact L5 r rx f.1 fx
  ·exact Ek rx fx t f.2 u' hu
noncomputable def inV (x:V) (xs:List V):Bool:=xs.any fun y=>eqV y x
noncomputable def rIn (K:ae) (neg:Bool):R2:=fun x y H Q=>∃ p xs,y=.ref p/\(SqL K H p xs\/SqT K H p xs)/\Bd x=true/\xs.all Bd=true/\Q (.bl (if neg then !inV x xs else inV x xs)) H
theorem K7:OpR X (cm .In) (rIn X.K false):=by
 intro pins s σ H x y v u Q I rx ry h
 obtain⟨p,xs,rfl,hq,fx,fs,q⟩:=h
 cases ry
 rcases hq with hq|hq
 ·obtain⟨its,r,pl,hz⟩:=I.list hq
  refine SeqAt.in_listAt (eqU x) pl.isList (fun w hw=>Ek rx fx r fs w (by simpa using hw)) ⟨.bl _,H,I,rfl,?_⟩
  rw [show its.toArray.any (eqU x)=its.any (eqU x) by simp,Fq r fs]
  exact q
 ·obtain⟨its,r,pl,hz⟩:=I.tuple hq
  refine SeqAt.in_tupleAt (eqU x) pl (fun w hw=>Ek rx fx r fs w (by simpa using hw)) ⟨.bl _,H,I,rfl,?_⟩
  rw [show its.toArray.any (eqU x)=its.any (eqU x) by simp,Fq r fs]
  exact q
theorem Gc:OpR X (cm .NotIn) (rIn X.K true):=by
 intro pins s σ H x y v u Q I rx ry h
 obtain⟨p,xs,rfl,hq,fx,fs,q⟩:=h
 cases ry
 rcases hq with hq|hq
 ·obtain⟨its,r,pl,hz⟩:=I.list hq
  refine SeqAt.notIn_listAt (eqU x) pl.isList (fun w hw=>Ek rx fx r fs w (by simpa using hw)) ⟨.bl _,H,I,rfl,?_⟩
  rw [show its.toArray.any (eqU x)=its.any (eqU x) by simp,Fq r fs]
  exact q
 ·obtain⟨its,r,pl,hz⟩:=I.tuple hq
  refine SeqAt.notIn_tupleAt (eqU x) pl (fun w hw=>Ek rx fx r fs w (by simpa using hw)) ⟨.bl _,H,I,rfl,?_⟩
  rw [show its.toArray.any (eqU x)=its.any (eqU x) by simp,Fq r fs]
  exact q
theorem Lp:Bw X (.builtin "len") (fun xs H Q=>∃ p ys,xs=[.ref p]/\(SqL X.K H p ys\/SqT X.K H p ys)/\Q (.int ys.length) H):=by
 intro pins s σ H xs us Q I r h
 obtain⟨p,ys,rfl,hq,q⟩:=h
 obtain⟨u,rfl,rx⟩:=Dv r
 cases rx
 have hn:=Fi
 rcases hq with hq|hq
 ·obtain⟨its,r',pl,hz⟩:=I.list hq
  have hlen:=r'.length
  exact Calls.call_len_list pl.isList (by simp only [ao] <;> omega) ⟨.int ys.length,H,I.tok _,⟨s.toks+1,by rw [ao,hlen]⟩,q⟩
 ·obtain⟨its,r',pl,hz⟩:=I.tuple hq
  have hlen:=r'.length
  exact len_tuple pl (by simp only [ao] <;> omega) ⟨.int ys.length,H,I.tok _,⟨s.toks+1,by rw [ao,hlen]⟩,q⟩
theorem Lq:Bw X (.builtin "len") (fun xs H Q=>∃ z,xs=[.str z]/\z.length<=sizeLine/\Q (.int z.length) H):=by
 intro pins s σ H xs us Q I r h
 obtain⟨z,rfl,hz,q⟩:=h
 obtain⟨u,rfl,t,rfl⟩:=Dv r
 have hn:=Fi
 exact len_str (by omega) ⟨.int z.length,H,I.tok _,⟨_,rfl⟩,q⟩
theorem Lr:Bw X (.type "list") (fun xs H Q=>∃ p ys,xs=[.ref p]/\(SqL X.K H p ys\/SqT X.K H p ys) /\ ∀ l,H l=none->Q (.ref l) (upd H l (.lst ys))):=by
 intro pins s σ H xs us Q I r h
 obtain⟨p,ys,rfl,hq,q⟩:=h
 obtain⟨u,rfl,rx⟩:=Dv r
 cases rx
 have fin:∀ (its:List Value),Vals ys its->ys.length<=sizeLine -> ∀ (h':Heap) (c':Nat),(∀ b o',s.heap.get? b=some o'->h'.get? b=some o') ->
   h'.get? s.heap.objs.size=some { cls:=.type "list", dict:=none,data:=.seq its.toArray c',slots:=#[] }->EP X pins σ Q (.ref s.heap.objs.size) { s with heap:=h' }:=fun its r' hz h' c' kp e=>
  ⟨.ref s.heap.objs.size,_,I.laid (t':=s.toks) kp (ah _) (show ObjOk X.prog X.w _ h' _ (.lst ys) from⟨hz,its,c',r',e⟩),rfl,q _ (I.hok.fresh (ah _))⟩
 rcases hq with hq|hq
 ·obtain⟨its,r',pl,hz⟩:=I.list hq
  have hlen:=r'.length
  obtain⟨o,ho,hc,n,hd⟩:=pl.isList
  exact call_list_seq p (.inl rfl) ho hc hd (fun h' c' kp e=>fin its r' hz h' c' kp e) (by simp only [ao] <;> omega)
 ·obtain⟨its,r',pl,hz⟩:=I.tuple hq
  have hlen:=r'.length
  obtain⟨o,ho,hc,n,hd⟩:=pl
  exact call_list_seq p (.inr rfl) ho hc hd (fun h' c' kp e=>fin its r' hz h' c' kp e) (by simp only [ao] <;> omega)
theorem Kb:Bw X (.type "tuple") (fun xs H Q=>∃ p ys,xs=[.ref p]/\((SqL X.K H p ys /\ ∀ l,H l=none->Q (.ref l) (upd H l (.tup ys)))\/(SqT X.K H p ys/\Q (.ref p) H))):=by
 intro pins s σ H xs us Q I r h
 obtain⟨p,ys,rfl,h⟩:=h
 obtain⟨u,rfl,rx⟩:=Dv r
 cases rx
 rcases h with ⟨hq,q⟩|⟨hq,q⟩
 ·obtain⟨its,r',pl,hz⟩:=I.list hq
  have hlen:=r'.length
  refine call_tuple_list pl.isList (fun h' kp=>?_) (by simp only [ao] <;> omega)
  have I1:Inv X pins σ H { s with heap:=h' }:=I.kept (t':=s.toks) kp
  have I2:Inv X pins σ (upd H h'.objs.size (.tup ys)) { s with heap:=h'.push { cls:=.type "tuple", data:=.seq its.toArray } }:=
   I1.laid (t':=s.toks) (fun b o e=>ag _ e) (ah _) (show ObjOk X.prog X.w _ _ _ (.tup ys) from⟨hz,its,r',mj _ _⟩)
  exact⟨.ref h'.objs.size,_,I2,rfl,q _ (I1.hok.fresh (ah _))⟩
 ·obtain⟨its,r',pl,hz⟩:=I.tuple hq
  exact call_tuple_same pl ⟨.ref p,H,I,rfl,q⟩
noncomputable def tyV (K:ae) (T:String) (x:V) (H:Hp):Prop:=match x with
 | .str _=>T = "str"
 | .int _=>T = "int"
 | .ref p=>(T = "list" /\ ∃ xs,SqL K H p xs)\/(T = "tuple" /\ ∃ o,K.lookup p=some o/\o.cls=.type "tuple" /\ o.dict=none) \/
   (T = "dict" /\ ((∃ kvs,H p=some (.dK kvs)) \/ ∃ kvs,H p=some (.dT kvs)))\/(T = "set" /\ ∃ S n,H p=some (.set S n))
 | _=>False
theorem ag9 {pins:List (Addr×Obj)} {σ:St} {H:Hp} {s:aj} {T:String} {x:V} {v:Value} (I:Inv X pins σ H s) (r:RelV x v) (ty:tyV X.K T x H) :
  s.TypeIs v T /\ ∀ a,v=.ref a -> ∃ ob,s.heap.get? a=some ob/\ob.dict=none:=by
 cases x with
 | str z=>
  obtain⟨t,rfl⟩:=r
  cases (show T = "str" from ty)
  exact⟨typeIs_str s z t,fun _ e=>nomatch e⟩
 | int i=>
  obtain⟨t,rfl⟩:=r
  cases (show T = "int" from ty)
  exact⟨kh s i t,fun _ e=>nomatch e⟩
 | ref p=>
  cases r
  rcases ty with ⟨rfl,xs,hq⟩|⟨rfl,o,hk,hc,hd⟩|⟨rfl,hk⟩|⟨rfl,S,n,hk⟩
  ·obtain⟨its,_,pl,_⟩:=I.list hq
   refine⟨pl.isList.typeIs,fun a e=>?_⟩
   cases e
   obtain⟨o,n,e,c,hd,_⟩:=pl
   exact⟨o,e,hd⟩
  ·refine⟨⟨o,I.kIn p o hk,hc⟩,fun a e=>?_⟩
   cases e
   exact⟨o,I.kIn _ o hk,hd⟩
  ·have z:∃ o,s.heap.get? p=some o/\o.ExactDict:=by
    rcases hk with ⟨kvs,hk⟩|⟨kvs,hk⟩
    ·obtain⟨_,_,_,_,o,_,_,e,ex,_⟩:=I.hok p _ hk
     exact⟨o,e,ex⟩
    ·obtain⟨_,_,_,_,o,_,_,e,ex,_⟩:=I.hok p _ hk
     exact⟨o,e,ex⟩
   obtain⟨o,e,ex⟩:=z
   refine⟨⟨o,e,ex.1⟩,fun a e2=>?_⟩
   cases e2
   exact⟨o,e,ex.2.1⟩
  ·obtain⟨o,_,_,_,e,ex,_⟩:=I.hok p _ hk
   refine⟨⟨o,e,ex.1⟩,fun a e2=>?_⟩
   cases e2
   exact⟨o,e,ex.2.1⟩
 | _=>exact b_ ty
variable {o e:Expr} {es:List Expr} {to:TE} {t:TA} {name:Str} {apos cpos:Pos} {T id:String} {r:V->List V->Hp->VK->Prop}
end
noncomputable def MtM (X:Cx) (id:String) (r:V->List V->Hp->VK->Prop):Prop:=
 ∀ (pins:List (Addr×Obj)) (s:aj) (σ:St) (H:Hp) (x:V) (xs:List V) (v:Value) (us:List Value) (Q:VK),Inv X pins σ H s->RelV x v->Vals xs us->r x xs H Q ->
  aJ (model X.prog X.w) X.A (call (.builtin id) (v::us)) (EP X pins σ Q) X.xe s
theorem Vals.one:∀ {x:V} {us:List Value},Vals [x] us -> ∃ u,us=[u]/\RelV x u
 | _,_,.cons r .nil=>⟨_,rfl,r⟩
theorem Vals.two:∀ {x y:V} {us:List Value},Vals [x,y] us -> ∃ u v,us=[u,v]/\RelV x u/\RelV y v
 | _,_,_,.cons r (.cons q .nil)=>⟨_,_,rfl,r,q⟩
theorem Vals.zero:∀ {us:List Value},Vals [] us->us=[]
 | _,.nil=>rfl
theorem Vals.dropLast {xs:List V} {us:List Value} (h:Vals xs us):Vals xs.dropLast us.dropLast:=by
 induction h with
 | nil=>exact .nil
 | cons r t ih=>
  cases t with
  | nil=>exact .nil
  | cons q t'=>exact .cons r ih
theorem Vals.eraseIdx:∀ {xs:List V} {us:List Value} (i:Nat),Vals xs us->Vals (xs.eraseIdx i) (us.eraseIdx i)
 | _,_,_,.nil=>.nil
 | _,_,0,.cons _ t=>t
 | _,_,i+1,.cons r t=>.cons r (Vals.eraseIdx i t)
theorem Vals.rep {xs:List V} {us:List Value} (h:Vals xs us):∀ k:Nat,Vals (bh k xs).flatten (bh k us).flatten
 | 0=>.nil
 | k+1=>by
  rw [eO,eO,gJ,gJ]
  exact Vals.append h (Vals.rep h k)
theorem Qd {α:Type} (l:List α):l.eraseIdx (l.length - 1)=l.dropLast:=by
 induction l with
 | nil=>rfl
 | cons a r ih=>
  cases r with
  | nil=>rfl
  | cons b r=>
   have e:(a::b::r).length - 1=((b::r).length - 1)+1:=by
    have h1:(a::b::r).length=r.length+2:=rfl
    have h2:(b::r).length=r.length+1:=rfl
    omega
   rw [e,List.eraseIdx_cons_succ,ih]
   all_goals rfl
theorem K4 {α:Type}:∀ (l:List α) (i:Nat),(l.eraseIdx i).length<=l.length
 | [],_=>ah _
 | _::_,0=>cq _
 | _::r,i+1=>dI (K4 r i)
theorem Eu (its:List Value):∀ (k:Nat) (acc:List Value),
  i8 (fun x1 x2=>x1++x2) acc.toArray (bh k its.toArray)=(acc++(bh k its).flatten).toArray
 | 0,acc=>by simp
 | k+1,acc=>by
  have e:acc.toArray++its.toArray=(acc++its).toArray:=by simp
  have e2:(acc++its)++(bh k its).flatten=acc++(bh (k+1) its).flatten:=by
   rw [eO,gJ,cN]
  rw [<- e2,<- Eu its k (acc++its),<- e,eO,List.foldl_cons]
section
variable {X:Cx} {pins:List (Addr×Obj)} {σ:St} {H:Hp} {s:aj} {l b:Addr} {xs ys zs:List V}
theorem Inv.lset {its its':List Value} {n:Nat} {f:Array Value->Array Value} {t':Nat} (I:Inv X pins σ H s) (hH:H l=some (.lst xs))
  (e:s.heap.get? l=some { cls:=.type "list", data:=.seq its.toArray n }) (hf:f its.toArray=its'.toArray) (hv:Vals ys its') (hz:ys.length<=sizeLine) (ht:s.toks<=t':=by first|exact ah _|exact ba _ _|assumption|omega|(dsimp only;omega)) :
  Inv X pins σ (upd H l (.lst ys)) { s with heap:=s.heap.update l (a9 f),toks:=t' }:=by
 have q:=PySem.IsL.update e f
 rw [hf] at q
 refine I.write (x:=l) (e:=l) (by rw [hH];exact trivial) (.inl rfl) (fun b' u hb hu=>(aW s.heap (a9 f) (bZ hb)).trans hu) ⟨_,q⟩ ?_
 exact⟨hz,its',_,hv,q⟩
theorem Inv.lnew {its:List Value} {t':Nat} (I:Inv X pins σ H s) (hv:Vals ys its) (hz:ys.length<=sizeLine) (ht:s.toks<=t':=by first|exact ah _|exact ba _ _|assumption|omega|(dsimp only;omega)) :
  Inv X pins σ (upd H s.heap.objs.size (.lst ys)) { s with heap:=s.heap.push { cls:=.type "list", data:=.seq its.toArray },toks:=t' }:=
 I.laid (fun _ _ q=>ag _ q) (ah _) ⟨hz,its,0,hv,aw _ rfl⟩ ht
theorem Inv.fresh (I:Inv X pins σ H s):H s.heap.objs.size=none:=I.hok.fresh (ah _)
theorem Inv.lstM (I:Inv X pins σ H s) (hH:H l=some (.lst xs)):xs.length<=sizeLine /\ ∃ (its:List Value) (n:Nat),Vals xs its/\xs.length=its.length/\s.heap.get? l=some { cls:=.type "list", data:=.seq its.toArray n }:=by
 obtain⟨z,its,n,r,e⟩:=I.hok l _ hH
 exact⟨z,its,n,r,r.length,e⟩
theorem O0 {n:Nat} (h:n<=sizeLine):dY n=false:=by
 unfold dY
 exact decide_eq_false (by omega)
end
section
variable {X:Cx}
noncomputable def Cw:V->List V->Hp->VK->Prop:=fun x vs H Q=>∃ l xs y,x=.ref l/\vs=[y]/\H l=some (.lst xs)/\xs.length<sizeLine/\Q .non (upd H l (.lst (xs++[y])))
theorem K6:MtM X "list.append" Cw:=by
 intro pins s σ H x vs v us Q I rx rv h
 obtain⟨l,xs,y,rfl,rfl,hH,hz,q⟩:=h
 cases rx
 obtain⟨u,rfl,ru⟩:=rv.one
 obtain⟨z,its,n,r,hl,e⟩:=I.lstM hH
 refine fI F.slot_list_append ⟨_,e,rfl⟩ F.entry_list_append (F.args_list_append_2 _ _) (PySem.list_append l its.toArray n u (by rw [ao];omega)) ⟨e,?_⟩
 refine⟨.non,_,I.lset (its':=its++[u]) hH e (by simp) (r.append (.cons ru .nil)) ?_,rfl,q⟩
 rw [av,bQ]
 omega
noncomputable def E0:V->List V->Hp->VK->Prop:=fun x vs H Q=>∃ l b xs zs,x=.ref l/\vs=[.ref b]/\H l=some (.lst xs)/\H b=some (.lst zs)/\xs.length+zs.length<=sizeLine/\Q .non (upd H l (.lst (xs++zs)))
theorem V5:MtM X "list.extend" E0:=by
 intro pins s σ H x vs v us Q I rx rv h
 obtain⟨l,b,xs,zs,rfl,rfl,hH,hB,hz,q⟩:=h
 cases rx
 obtain⟨u,rfl,ru⟩:=rv.one
 cases ru
 obtain⟨z,its,n,r,hl,e⟩:=I.lstM hH
 obtain⟨z2,its2,n2,r2,hl2,e2⟩:=I.lstM hB
 have hsz:its.toArray.size+its2.toArray.size<=sizeLine:=by rw [ao,ao];omega
 have hlong:¬ (!its.toArray.isEmpty&&dY (its.toArray.size+its2.toArray.size))=true:=by
  rw [O0 hsz,iK]
  exact ar
 refine fI F.slot_list_extend ⟨_,e,rfl⟩ F.entry_list_extend (F.args_list_extend_2 _ _)
  (AutoSeq1.list_extend_list_list_0 l its.toArray n b its2.toArray n2 hlong (by rw [ao];omega) (by omega)) ⟨e,e2,?_⟩
 refine⟨.non,_,I.lset (its':=its++its2) hH e (by simp) (r.append r2) ?_,rfl,q⟩
 rw [av]
 omega
noncomputable def bz7:V->List V->Hp->VK->Prop:=fun x vs H Q=>∃ l xs y,x=.ref l/\vs=[]/\H l=some (.lst xs)/\xs[xs.length - 1]? = some y/\Q y (upd H l (.lst xs.dropLast))
theorem a83:MtM X "list.pop" bz7:=by
 intro pins s σ H x vs v us Q I rx rv h
 obtain⟨l,xs,y,rfl,rfl,hH,hy,q⟩:=h
 cases rx
 have hus:=rv.zero
 subst hus
 obtain⟨z,its,n,r,hl,e⟩:=I.lstM hH
 obtain⟨u,hu,ru⟩:=r.get hy
 have hy':its.toArray[its.toArray.size - 1]? = some u:=by
  show its.toArray[its.length - 1]? = some u
  rw [<- bP,<- hl]
  exact hu
 refine fI F.slot_list_pop ⟨_,e,rfl⟩ F.entry_list_pop (F.args_list_pop_1 _) (MeetsSeq.list_pop_last l its.toArray n u hy' (by rw [ao];omega)) ⟨e,?_⟩
 refine⟨y,_,I.lset (its':=its.dropLast) hH e ?_ r.dropLast ?_,ru,q⟩
 ·show its.toArray.eraseIdxIfInBounds (its.toArray.size - 1)=its.dropLast.toArray
  rw [ao,gI,Qd]
 ·rw [List.length_dropLast]
  omega
noncomputable def ab9:V->List V->Hp->VK->Prop:=fun x vs H Q=>∃ l xs i k y,x=.ref l/\vs=[.int i]/\H l=some (.lst xs) /\ -(2 ^ 63)<=i/\i<2 ^ 63/\seqIndex? i xs.length=some k/\xs[k]? = some y/\Q y (upd H l (.lst (xs.eraseIdx k)))
theorem Zf:MtM X "list.pop" ab9:=by
 intro pins s σ H x vs v us Q I rx rv h
 obtain⟨l,xs,i,k,y,rfl,rfl,hH,h1,h2,hk,hy,q⟩:=h
 cases rx
 obtain⟨u,rfl,ru⟩:=rv.one
 obtain⟨t,rfl⟩:=ru
 obtain⟨z,its,n,r,hl,e⟩:=I.lstM hH
 obtain⟨w,hw,rw'⟩:=r.get hy
 refine fI F.slot_list_pop ⟨_,e,rfl⟩ F.entry_list_pop (F.args_list_pop_2 _ _)
  (MeetsSeq.list_pop_at l its.toArray n i t k w (fitsIndex_both h1 h2) (by rw [ao,<- hl];exact hk) (by rw [<- bP];exact hw) (by rw [ao];omega)) ⟨e,?_⟩
 refine⟨y,_,I.lset (its':=its.eraseIdx k) hH e ?_ (r.eraseIdx k) ?_,rw',q⟩
 ·show its.toArray.eraseIdxIfInBounds k=(its.eraseIdx k).toArray
  rw [gI]
 ·have:=K4 xs k
  omega
noncomputable def bz6:R2:=fun x y H Q=>∃ l b xs zs,x=.ref l/\y=.ref b/\H l=some (.lst xs)/\H b=some (.lst zs)/\xs.length+zs.length<=sizeLine /\ ∀ p,H p=none->Q (.ref p) (upd H p (.lst (xs++zs)))
theorem op_cat:OpR X (cU .Add) bz6:=by
 intro pins s σ H x y v u Q I rx ry h
 obtain⟨l,b,xs,zs,rfl,rfl,hH,hB,hz,q⟩:=h
 cases rx
 cases ry
 obtain⟨z,its,n,r,hl,e⟩:=I.lstM hH
 obtain⟨z2,its2,n2,r2,hl2,e2⟩:=I.lstM hB
 refine PySem.P.add_list e e2 ?_ (by rw [ao,ao];omega)
 have ea:its.toArray++its2.toArray=(its++its2).toArray:=by simp
 rw [ea]
 exact⟨.ref _,_,I.lnew (t':=s.toks) (r.append r2) (by rw [av];omega),rfl,q _ I.fresh⟩
noncomputable def bz8:R2:=fun x y H Q=>∃ l k xs,x=.ref l/\y=.int k/\H l=some (.lst xs) /\ -(2 ^ 63)<=k/\k<2 ^ 63/\xs.length * k.toNat<=sizeLine /\
 ∀ p,H p=none->Q (.ref p) (upd H p (.lst (bh k.toNat xs).flatten))
theorem Ma {α:Type} (xs:List α) (k:Nat):(bh k xs).flatten.length=k * xs.length:=by
 induction k with
 | zero=>simp
 | succ k ih=>rw [eO,gJ,av,ih,Nat.succ_mul,Nat.add_comm]
theorem op_rep:OpR X (cU .Mult) bz8:=by
 intro pins s σ H x y v u Q I rx ry h
 obtain⟨l,k,xs,rfl,rfl,hH,h1,h2,hz,q⟩:=h
 cases rx
 obtain⟨t,rfl⟩:=ry
 obtain⟨z,its,n,r,hl,e⟩:=I.lstM hH
 have hlen:its.toArray.size * k.toNat<=sizeLine:=by rw [ao,<- hl];exact hz
 have hcap:¬ its.toArray.size * k.toNat > (2 ^ 63 - 1) / 8:=by
  have:(sizeLine:Nat)<=(2 ^ 63 - 1) / 8:=by decide
  omega
 have hfit:¬ (!cL k)=true:=by
  rw [fitsIndex_both h1 h2]
  exact ar
 have hlong:¬ dY (its.toArray.size * k.toNat)=true:=by
  rw [O0 hlen]
  exact ar
 have hnew:i8 (fun x1 x2=>x1++x2) #[] (bh (if its.toArray.isEmpty=true then 0 else k.toNat) its.toArray)=(bh k.toNat its).flatten.toArray:=by
  have f0:∀ m:Nat,i8 (fun x1 x2=>x1++x2) #[] (bh m its.toArray)=(bh m its).flatten.toArray:=fun m=>by
   have:=Eu its m []
   rw [ic] at this
   exact this
  rw [f0]
  cases its with
  | nil=>simp
  | cons a r'=>rw [if_neg (by simp)]
 refine iV (T := "list") (U := "int") (by decide) ⟨_,e,rfl⟩ (fun s'=>kh s' k t) noFill_list_mul F.fills_int_mul hW repeat_list F.slot_int_index.lookup
  (fI hW (kh s k t) F.entry_int_rmul (F.args_int_rmul_2 _ _) (int___rmul___int_list k t l its.toArray n)
   ⟨e,rfl,⟨_,e,rfl⟩,fI F.slot_list_mul ⟨_,e,rfl⟩ F.entry_list_mul (F.args_list_mul_2 _ _) (AutoListH.list___mul___list_int_3 l its.toArray n k t hfit hcap hlong) ⟨e,?_⟩⟩)
 rw [hnew]
 exact⟨.ref _,_,I.lnew (t':=s.toks) (r.rep k.toNat) (by rw [Ma,Nat.mul_comm];exact hz),rfl,q _ I.fresh⟩
end
section
variable {prog:aI} {w:bp} {A:bi} {E:Value->aj->Prop} {s:aj}
set_option maxRecDepth 100000 in
end
section
variable {X:Cx}
end
end L2
namespace Att
open PySem PySem.W PySem.Calls PyProof.Rows
theorem G9 {P:Params} {h:Heap}:∀ (ns:List Int) (vs:List Value),WellAll P h vs (ns.map WData.int)->mG vs ns:=by
 intro ns
 induction ns with
 | nil=>
  intro vs w
  rw [iH] at w
  cases w
  exact .nil
 | cons n ns ih=>
  intro vs w
  rw [aK] at w
  cases w with
  | cons a b=>
   cases a
   exact .cons _ _ (ih _ b)
theorem Wk {l:OpenLaw} {n:Nat} (hn:l.most=some n) {P:Params} {h:Heap} {args:List WData} {vals:List Value}
  (hpre:l.row.toRowW.claim.pre args=true) (hwl:WellAll P h vals args) :
  ∃ a vs ns,vals=[aR a]/\args=[WData.list (ns.map WData.int)]/\h.get? a=some { cls:=.type "list", data:=.seq vs.toArray }/\mG vs ns/\ns.length<=n:=by
 have hsh:WShape.hasAll [] args [.list .int]=true:=(pre_splitW hpre).1
 have hc:l.pre.holds [] { args:=args }=true:=(pre_splitW hpre).2
 obtain⟨d,r,rfl,h1,h2⟩:=hasAllW_cons hsh
 obtain rfl:=hasAllW_nil h2
 obtain⟨xs,rfl,h3⟩:=hasW_list h1
 obtain⟨ns,rfl⟩:=items_int h3
 have hlen:ns.length<=n:=by
  unfold OpenLaw.pre at hc
  have h4:(WTm.not (.lt (.lit (.int (n:Int))) (.len (.arg 0)))).holds [] { args:=[.list (ns.map .int)] }=true:=by
   have h4:=(holds_andW hc).1
   rw [hn] at h4
   exact h4
  have h5:=condW_of h4 (w_not (w_lt w_lit (w_len_list (w_arg rfl))))
  rw [ai] at h5
  refine Nat.le_of_not_lt fun q=>?_
  have q':(n:Int)<((ns.length:Nat):Int):=by omega
  first
   | (rw [decide_eq_true q'] at h5;exact absurd h5 (by decide))
   | (simp at h5;omega)
 cases hwl with
 | cons w1 w2=>
  cases w2
  cases w1 with
  | list ho hall=>exact⟨_,_,ns,rfl,rfl,ho,G9 ns _ hall,hlen⟩
theorem We (l:OpenLaw) (args:List WData):l.row.toRowW.claim.post args (.bool true) args=true:=
 postW_of (r:=l.row.toRowW) (X:=(true==true))
  (show WShape.has [] (.bool true) .bool=true by first|rfl|decide|simp [WShape.has,WShape.arms,WShape.armsAll])
  (show (WTm.eq .res (.lit (.bool true))).value [] { args:=args,res:=some (.bool true),after:=args }=some (.bool (true==true)) from w_eq_bool (w_res rfl) w_lit) rfl
theorem attach_call {l:OpenLaw} {n:Nat} {q:aI} {loose:List Str} {XP:(Str->Option Value)->Heap->Prop} {YP:bp->Heap->Prop} {d:DefRec}
  (hn:l.most=some n) (hdf:d.params.defaults=[])
  (call:∀ (w:bp) (s₀ s₁:aj) (mg mb:Str->Option Value) (fa:Addr) (o:Obj) (pm cd doc:Value) (a:Addr) (vs:List Value) (ns:List Int),
   Ground q loose [] XP w s₀ mg mb s₁.heap->YP w s₁.heap ->
   s₁.heap.get? fa=some o->o.data=.func (docDef d.name d.params d.body d.scope pm cd doc)->s₁.heap.CodeRec cd d.name->mg d.name=some (.ref fa) ->
   s₁.heap.get? a=some { cls:=.type "list", data:=.seq vs.toArray }->mG vs ns->ns.length<=n->s₁.gens = #[] ->
   eU (model l.prog w) lQ (.call (.ref fa) ⟨[.ref a],[]⟩) (fun r s'=>r=.ok (.ret (.bool true))/\OldK s₁.heap s'.heap/\s'.os=s₁.os/\jQ s'.gens) s₁) :
  WalkO q loose XP YP l.row.toRowW d [] (fun f vs=>PySem.call f vs):=by
 intro w s₀ s₁ mg mb G Y fa o pm cd doc dV kV ho hd hcd hD hmg hg args vals as hpre hlay hrd hwl hlo
 obtain rfl:dV=.none:=Dflts.none hD hdf
 obtain rfl:kV=.none:=Dflts.noKw hD
 obtain⟨a,vs,ns,rfl,rfl,hobj,hints,hlen⟩:=Wk hn hpre hwl
 refine enter_call (eJ (call w s₀ s₁ mg mb fa o pm cd doc a vs ns G Y ho (fd_plain hd) hcd hmg hobj hints hlen hg) fun r s' hq=>?_)
 obtain⟨rfl,h2,h3,h4⟩:=hq
 exact⟨.inl ⟨.bool true,.bool true,[],rfl,fun _=>rfl,.bool true,We l _,fun _=>⟨i6,fun _ hm=>(nomatch hm)⟩⟩,h2,h3,h4⟩
section
variable {prog:aI} {w:bp} {A:bi} {E:Value->aj->Prop} {s:aj} {K:Frag}
end
end Att
namespace L2
open PySem PySem.Spec PyProof.Rows
theorem Lj:∀ {vs:List Value} {ns:List Int},mG vs ns->Vals (ns.map V.int) vs
 | _,_,.nil=>.nil
 | _,_,.cons n t h=>.cons ⟨t,rfl⟩ (Lj h)
noncomputable def a47 (H:Hp):Prop:=∀ b,H b=none \/ ∃ o xs,H b=some (.frz o (.lst xs))
theorem Y5 {P:aI} {w:bp} {K:ae} {mg mb:Str->Option Value} {CX:CXT} {k:Nat} {fa a:Addr} {fd:au} {x:Str} {sp:Sp} {s₁:aj} {vs:List Value} {ns:List Int}
  (KX:K.In s₁.heap) (hns:s₁.heap.Ns aZ mg) (hb:s₁.heap.Ns builtinsNs mb) (hbb:∀ x:Str,x ≠ "__name__" -> mb x=cS x) (htk:Tl K s₁.toks) (hlim:s₁.heap.NoLimit) (hg:s₁.gens = #[])
  (ha:s₁.heap.get? a=some { cls:=.type "list", data:=.seq vs.toArray }) (hi:mG vs ns) (hl:ns.length<=sizeLine) (hr:Room k lQ)
  (F:∀ base:Heap,K.In base->base.Ns aZ mg->FnOk P w K mg base CX k fa fd [x] sp) (hbind:∀ (s:aj) (u:Value),mh s fd ⟨[u],[]⟩ [(x,u)])
  (hsp:∀ H:Hp,a47 H->SqL K H a (ns.map V.int)->sp [.ref a] H (fun v _=>v=.bl true) fun _ _ _=>False)
  (hCX:∀ H e s',CX [] H s₁ (fun _ _ _=>False) e s'->False) :
  eU (model P w) lQ (.call (.ref fa) ⟨[.ref a],[]⟩) (fun r s'=>r=.ok (.ret (.bool true))/\OldK s₁.heap s'.heap/\s'.os=s₁.os/\jQ s'.gens) s₁:=by
 have rv:=Lj hi
 have lenV:=hi.length
 have core:∀ H:Hp,a47 H->SqL K H a (ns.map V.int)->HOk P w H s₁.heap->(∀ b,H b≠none->b=a)->(H a≠none->K.lookup a=none) ->
   eU (model P w) lQ (.call (.ref fa) ⟨[.ref a],[]⟩) (fun r s'=>r=.ok (.ret (.bool true))/\OldK s₁.heap s'.heap/\s'.os=s₁.os/\jQ s'.gens) s₁:=by
  intro H hO hS hok hA hK
  have base_of:∀ {b:Addr} {o:Obj},s₁.heap.get? b=some o->H b=none->(L8 s₁.heap H).get? b=some o:=fun e n=>Yv e n
  have noA:∀ {b:Addr} {o:Obj} {es:Array DictEntry} {ep:Nat},s₁.heap.get? b=some o->o.data=.dict es ep->H b=none:=fun {b o es ep} e d=>by
   cases q:H b with
   | none=>rfl
   | some u=>
    have e':b=a:=hA b (by rw [q];simp)
    subst e'
    rw [ha] at e;cases e
    have d':Data.seq vs.toArray _=Data.dict es ep:=d
    cases d'
  have nsK:∀ {b:Addr} {m:Str->Option Value},s₁.heap.Ns b m->(L8 s₁.heap H).Ns b m:=fun {b m} ⟨o,es,ep,e,d,r⟩=>⟨o,es,ep,base_of e (noA e d),d,r⟩
  have hKb:K.In (L8 s₁.heap H):=fun b o e=>base_of (KX b o e) (by
   cases q:H b with
   | none=>rfl
   | some u=>
    have e':b=a:=hA b (by rw [q];simp)
    subst e'
    rw [hK (by rw [q];simp)] at e;cases e)
  have hM:Mod K mg (L8 s₁.heap H):=⟨hKb,nsK hns,⟨mb,nsK hb,hbb⟩,let ⟨mc,h1,h2⟩:=hlim;⟨mc,nsK h1,h2⟩⟩
  have e0:Env0 P w K mg (L8 s₁.heap H) lQ [] s₁ H:=⟨rfl,hM,fun b o e=>an1 e,jX (Vw _ _),trivial,fun b hb=>absurd (show b∈([]:List Addr) from hb) (by simp),hok,.of_eq hg,htk⟩
  refine eJ ((F _ hKb (nsK hns)).run lQ [] s₁ H ⟨[.ref a],[]⟩ [.ref a] [.ref a] _ _ hr e0 (hbind s₁ (.ref a)) (.cons rfl .nil) (hsp H hO hS)) fun r s' h=>?_
  cases r with
  | error e=>exact (hCX H e s' h).elim
  | ok fl=>
   cases fl with
   | next=>exact b_ h
   | brk=>exact b_ h
   | cont=>exact b_ h
   | ret u=>
    obtain⟨v,H',os,bare,un,hok',r',q⟩:=h
    have q':v=.bl true:=q
    subst q'
    obtain rfl:u=lP true:=r'
    refine⟨rfl,OldK.of_keep fun b o e=>?_,os.1,bare⟩
    cases q:H b with
    | none=>exact un.keep b o e q (by intro z;exact absurd (show b∈([]:List Addr) from z) (by simp)) (by simp)
    | some u=>
     rcases hO b with z|⟨ob,xs,z⟩
     ·rw [q] at z;cases z
     ·have z2:=un.frzs b ob _ z
      obtain⟨e1,_⟩:=hok b _ z
      obtain⟨e2,_⟩:=hok' b _ z2
      rw [e] at e1;cases e1
      exact e2
 cases hk:K.lookup a with
 | some o=>
  have e:=KX a o hk
  rw [ha] at e
  cases e
  refine core (fun _=>none) (fun _=>.inl rfl) (.inr ⟨_,vs.toArray,_,hk,rfl,rfl,rfl,by rw [ao,lenV];exact hl,by rw [cJ];intro v hv;obtain⟨i,_,rfl⟩:=List.mem_map.mp hv;rfl,by simpa using rv⟩) (fun b u z=>by have z':(none:Option HO)=some u:=z;cases z') (fun b z=>absurd rfl z) fun z=>absurd rfl z
 | none=>
  refine core (fun b=>if b=a then some (.frz { cls:=.type "list", data:=.seq vs.toArray } (.lst (ns.map V.int))) else none) (fun b=>?_) (.inl (.inr ⟨{ cls:=.type "list", data:=.seq vs.toArray },if_pos rfl⟩)) (fun b u z=>?_) (fun b z=>?_) fun _=>hk
  ·by_cases hb:b=a
   ·exact .inr ⟨_,_,if_pos hb⟩
   ·exact .inl (if_neg hb)
  ·by_cases hb:b=a
   ·have z':=(if_pos hb).symm.trans z
    cases z'
    subst hb
    exact⟨ha,by rw [ai];exact hl,vs,_,rv,ha⟩
   ·have z':=(if_neg hb).symm.trans z
    cases z'
  ·by_cases hb:b=a
   ·exact hb
   ·exact absurd (if_neg hb) z
theorem walk_of {l:j3} {n k:Nat} {q:aI} {loose:List Str} {XP:(Str->Option Value)->Heap->Prop} {YP:bp->Heap->Prop} {d:DefRec} {K:Params->ae} {CX:bp->CXT} {sp:bp->Sp} {x:Str}
  (hT:∀ (w:bp) (m:Nat),Tl (K w.params) m) (hn:l.most=some n) (hn2:n<=sizeLine) (hdf:d.params.defaults=[]) (hr:Room k lQ)
  (hY:∀ (w:bp) (h:Heap),YP w h->(K w.params).In h)
  (F:∀ (w:bp) (mg:Str->Option Value) (fa:Addr) (h:Heap),(K w.params).In h->h.Ns aZ mg->mg d.name=some (.ref fa) ->
   ∃ fd:au,(∀ (s:aj) (u:Value),mh s fd ⟨[u],[]⟩ [(x,u)]) /\
    ∀ base:Heap,(K w.params).In base->base.Ns aZ mg->FnOk l.prog w (K w.params) mg base (CX w) k fa fd [x] (sp w))
  (hsp:∀ (w:bp) (H:Hp) (a:Addr) (ns:List Int),ns.length<=n->a47 H->SqL (K w.params) H a (ns.map V.int)->sp w [.ref a] H (fun v _=>v=.bl true) fun _ _ _=>False)
  (hCX:∀ (w:bp) (H:Hp) (s:aj) (e:Value) (s':aj),CX w [] H s (fun _ _ _=>False) e s'->False) :
  PySem.W.WalkO q loose XP YP l.row.toRowW d [] (fun f vs=>PySem.call f vs):=by
 refine Att.attach_call hn hdf fun w s₀ s₁ mg mb fa o pm cd doc a vs ns G Y ho hd hcd hmg hobj hints hlen hg=>?_
 have KX:=hY w _ Y
 obtain⟨fd,hb,hF⟩:=F w mg fa _ KX G.T.g hmg
 exact Y5 KX G.T.g G.T.b G.T.builtins (hT _ _) G.T.nolimit hg hobj hints (aL hlen hn2) hr hF hb (fun H hO hS=>hsp w H a ns hlen hO hS) fun H e s'=>hCX w H s₁ e s'
end L2
namespace L2
open PySem PySem.Spec PyProof.Rows
noncomputable def Ax (s:Stmt) (j:Nat):Stmt:=match s with
 | .ClassDef _ _ _ body _ _ _ _ _ _ _=>body.getD j (.Pass ⟨0,0,0,0⟩)
 | _=>.Pass ⟨0,0,0,0⟩
noncomputable def Bk (s:Stmt):Arguments:=match s with
 | .FunctionDef _ a _ _ _ _ _ _ _ _=>a
 | _=>{ posonlyargs:=[],args:=[],vararg:=none,kwonlyargs:=[],kw_defaults:=[],kwarg:=none,defaults:=[] }
noncomputable def Aj (s:Stmt):List Stmt:=match s with
 | .FunctionDef _ _ b _ _ _ _ _ _ _=>b
 | _=>[]
noncomputable def Ab (s:Stmt):Scope:=match s with
 | .FunctionDef _ _ _ _ _ _ sc _ _ _=>sc
 | _=>{ kind:=.function,names:=[],isGenerator:=false,isCoroutine:=false }
noncomputable abbrev CX0:CXT:=fun _ _ _ _ _ _=>False
structure Fun (K:ae) (x qual:Str) (st:Stmt) (f:Addr) (fd:au):Prop where
 ex:∃ (oc:Value) (od:Option Addr) (kV doc pm:Value) (an:Option Addr) (cdv ct:Value) (osl:Array (Option Value)),
  fd=b8 x qual (Bk st) (Aj st) (Ab st) .none kV doc pm an cdv ct/\K.lookup f=some ⟨oc,od,.func fd,osl⟩/\dq K cdv qual=true
 kp:aN K (.ref f)=true
section
variable {P:aI} {w:bp} {K:ae} {mg:Str->Option Value} {base:Heap}
theorem Fun.binds {x qual:Str} {st:Stmt} {f:Addr} {fd:au} {ps:List Str} (F:Fun K x qual st f fd)
  (h:∀ (kV doc pm:Value) (an:Option Addr) (cdv ct:Value) (us:List Value),us.length=ps.length->lH (b8 x qual (Bk st) (Aj st) (Ab st) .none kV doc pm an cdv ct) ⟨us,[]⟩=pure (ps.zip us)):Binds K fd ps []:=by
 obtain⟨oc,od,kV,doc,pm,an,cdv,ct,osl,rfl,lk,hcd⟩:=F.ex
 exact .all (h kV doc pm an cdv ct)
theorem Qg {x qual:Str} {st:Stmt} {f:Addr} {oc:Value} {od an:Option Addr} {osl:Array (Option Value)} {kV doc pm cdv ct:Value} (l:K.lookup f=some ⟨oc,od,.func (b8 x qual (Bk st) (Aj st) (Ab st) .none kV doc pm an cdv ct),osl⟩)
  (c:dq K cdv qual=true) (k:aN K (.ref f)=true):Fun K x qual st f (b8 x qual (Bk st) (Aj st) (Ab st) .none kV doc pm an cdv ct):=⟨⟨oc,od,kV,doc,pm,an,cdv,ct,osl,rfl,l,c⟩,k⟩
end
section
variable {X:Cx}
end
theorem E8 {c A B:Prop} [Decidable c] (h1:c->A) (h2:¬ c->B):if c then A else B:=by
 by_cases h:c
 ·rw [if_pos h]
  exact h1 h
 ·rw [if_neg h]
  exact h2 h
noncomputable def Same (H H':Hp):Prop:=∀ b o,H b=some o->H' b=some o
theorem Same.refl (H:Hp):Same H H:=fun _ _ h=>h
theorem Same.trans {H H1 H2:Hp} (a:Same H H1) (b:Same H1 H2):Same H H2:=fun c o h=>b c o (a c o h)
theorem Same.free {H H':Hp} (e:Same H H') {l:Addr} (h:H' l=Option.none):H l=Option.none:=by
 cases q:H l with
 | none=>rfl
 | some o=>
  rw [e l o q] at h
  cases h
noncomputable def Cx.comp (X:Cx) (N':List Str) (scope:Scope) (cl:List (Str×Addr)) (fp:List Addr) (C:Addr) (s:aj) (H:Hp) (xe:Value->aj->Prop):Cx:=
 {prog:=X.prog,w:=X.w,K:=X.K,mg:=X.mg,base:=X.base,A:=X.A,N:=N',s₀:=s,H₀:=H,env:=mM scope cl C X.env,outer:=X.stack,stack:=X.stack,
  ex:=fp,fn:=fun x=>(cl.lookup x).isNone,calm:=X.calm,pn:=[],xe:=xe }
noncomputable def Vk (srcs:List (Option Nat)) (σ:St):St:=srcs.map fun o=>o.bind fun j=>(σ[j]?).join
structure Hq (X:Cx) (N':List Str) (srcs:List (Option Nat)) (scope:Scope) (cl:List (Str×Addr)):Prop where
 clos:closureFor scope X.env=pure cl
 nocell:∀ y∈scope.names,y.2≠.cell
 kind:scope.kind=.function
 names:∀ y∈scope.names,y.2=.local->scope.names.lookup y.1=some .local
 sub:∀ x c,cl.lookup x=some c->X.env.cells.lookup x=some c
 has:∀ x,((iS scope X.env).names.lookup x=some .cell\/(iS scope X.env).names.lookup x=some .free) -> ∃ c,cl.lookup x=some c
 len:srcs.length=N'.length
 src:∀ (k j:Nat) (x:Str),N'[k]? = some x->srcs[k]? = some (some j)->X.N[j]? = some x/\(X.env.scope.names.lookup x=some .cell\/X.env.scope.names.lookup x=some .free) /\
  ((iS scope X.env).names.lookup x=some .cell\/(iS scope X.env).names.lookup x=some .free)
noncomputable def Vb (X:Cx) (ifs:List Expr) (t:TT):Prop:=
 ∀ (pins:List (Addr×Obj)) (s:aj) (σ:St) (H:Hp) (Q:Bool->Hp->Prop),Inv X pins σ H s->t σ H Q ->
  aJ (model X.prog X.w) X.A (forIn ifs true fun c r=>if r=true then do let ok <- isTrue c X.env (eval c X.env);pure (fq ok) else pure (fq r)) (TP X pins σ Q) X.xe s
noncomputable def cc5:TT:=fun _ H Q=>Q true H
theorem Zs {X:Cx}:Vb X [] cc5:=fun _ _ _ H _ I h=>wpAny_tests_nil ⟨H,I,h⟩
theorem Zt {X:Cx} {c:Expr} {t:TT} (h:PT X c t):Vb X [c] t:=fun pins s σ H Q I q=>wpAny_tests_one (h pins s σ H Q I q)
noncomputable def ag4 (srcs:List (Option Nat)) (wi:TI) (g:TG) (tc:TT) (te:TE):TE:=fun σ H Q=>wi σ H fun J H1=>∀ D,H1 D=none ->
 ∃ W:Nat->Nat->St->Hp->Prop,(∃ m,W 0 m (Vk srcs σ) (upd H1 D (.lst []))) /\ ∀ i m σ' H',W i m σ' H' ->
  (J.stop i H'/\Q (.ref D) H')\/(J.go i H' /\ ∃ N:St->Hp->Prop,(∀ σ2 H2,N σ2 H2 -> ∃ m',m'<m/\W (i+1) m' σ2 H2) /\ ∀ x H2,J.yld i H' x H2->g x σ' H2 fun σ3 H3=>tc σ3 H3 fun b H4=>if b=true then
    te σ3 H4 fun v H5=>∃ ys,H5 D=some (.lst ys)/\ys.length<sizeLine/\N σ3 (upd H5 D (.lst (ys++[v])))
   else N σ3 H4)
section
variable {g:TG} {tc:TT} {te:TE} {D:Addr} {R:Hp->Prop} {σ:St} {H:Hp}
end
section
variable {prog:aI} {w:bp} {A:bi} {E:Value->aj->Prop} {R:kG->aj->Prop} {s:aj}
theorem Ls {elt target iter:Expr} {ifs:List Expr} {scope:Scope} {pos:Pos} {it acc:Value} {env:Env} (I:Nat->aj->Prop)
  (turn:∀ n s,I n s->aJ (model prog w) A (l5 it) (fun r s₁=>match r with
   | none=>R (.ok .next) s₁
   | some v=>aJ (model prog w) A (ip target it v) (fun _ s₀=>aJ (model prog w) A (lW target env v) (fun _ s₂=>
     aJ (model prog w) A (forIn ifs true fun c r=>if r=true then do let ok <- isTrue c env (eval c env);pure (fq ok) else pure (fq r)) (fun ok s₃=>
      if ok=true then aJ (model prog w) A (eval elt env) (fun x s₄=>
       aJ (model prog w) A (call (.builtin "list.append") [acc,x]) (fun _ s₅=>∃ m,m<n/\I m s₅) (lR (model prog w) A env fun e s'=>R (.error e) s') s₄) (lR (model prog w) A env fun e s'=>R (.error e) s') s₃
      else ∃ m,m<n/\I m s₃) (lR (model prog w) A env fun e s'=>R (.error e) s') s₂) (lR (model prog w) A env fun e s'=>R (.error e) s') s₀) (lR (model prog w) A env fun e s'=>R (.error e) s') s₁) (lR (model prog w) A env fun e s'=>R (.error e) s') s)
  (n:Nat) (h:I n s) :
  eU (model prog w) A (.compLoop (.ListComp elt [⟨target,iter,ifs,0⟩] scope pos) 0 it acc env) R s:=by
 refine codeAny_loop rfl I (fun n s hI=>?_) n h
 show aJ _ A ((compTurn (.ListComp elt [⟨target,iter,ifs,0⟩] scope pos) 0 it acc env).onRaise (fun x=>do noteFrame x env;theTreesLotGoes x)) _ _ s
 refine wpAny_noted ?_
 rw [compTurn_list]
 refine af (fM (af (b6 (turn n s hI) (fun r s₁ h₁=>?_) fun _ _ h'=>h')))
 cases r with
 | none=>exact ak h₁
 | some v=>
  refine af (b6 h₁ (fun _ s₀ h₀=>?_) fun _ _ h'=>h')
  refine af (b6 h₀ (fun _ s₂ h₂=>af (b6 h₂ (fun ok s₃ h₃=>?_) fun _ _ h'=>h')) fun _ _ h'=>h')
  cases ok with
  | false=>exact ak ⟨rfl,h₃⟩
  | true=>
   exact af (af (b6 h₃ (fun x s₄ h₄=>af (b6 h₄ (fun _ s₅ h₅=>ak (ak ⟨rfl,h₅⟩)) fun _ _ h'=>h')) fun _ _ h'=>h'))
end
section
variable {X:Cx} {elt tg iter:Expr} {ifs:List Expr} {scope:Scope} {pos:Pos} {N':List Str} {srcs:List (Option Nat)} {cl:List (Str×Addr)} {wi:TI} {g:TG} {tc:TT} {te:TE}
theorem P6 {xe:Value->aj->Prop} {pins:List (Addr×Obj)} {σ:St} {H:Hp} {s:aj} {fp:List Addr} {C D:Addr} {h₁:Heap} {tk:Nat} (S:Hq X N' srcs scope cl) (I:Inv X pins σ H s) (f:∀ b∈fp,Cr X pins H b) (fo:∀ b∈fp,b<s.heap.objs.size)
  (hD:s.heap.objs.size<=D) (hC:s.heap.objs.size<=C) (hDC:C≠D) (hns:∃ m,h₁.Ns C m) (old:∀ b o,s.heap.get? b=some o->h₁.get? b=some o) (hacc:∃ n,h₁.get? D=some { cls:=.type "list", data:=.seq ([]:List Value).toArray n }) (ht:s.toks<=tk:=by first|exact ah _|exact ba _ _|assumption|omega|(dsimp only;omega)) :
  Inv (X.comp N' scope cl fp C s H xe) [] (Vk srcs σ) (upd H D (.lst [])) { s with heap:=h₁,toks:=tk }:=by
 have hfD:=I.hok.fresh hD
 have ok:(X.comp N' scope cl fp C s H xe).Ok:=by
  refine⟨I.ok.mod,S.kind,I.ok.glob,I.ok.blt,hC,fun x y c a b=>I.ok.inj x y c (S.sub x c a) (S.sub y c b),S.has,fun x c hf hl=>?_,I.ok.hd,I.ok.frames,.inl rfl,fun b hb=>⟨?_,fun x c hl=>?_⟩,I.bs,aL I.ok.bsz I.sz,fun b o e hb=>?_,fun b hb hfs=>?_,I.stack,I.stkFree,bD⟩
  ·have hl':cl.lookup x=some c:=hl
   have hf':(cl.lookup x).isNone=true:=hf
   rw [hl'] at hf'
   cases hf'
  ·exact aH (aO (fo b hb) hC)
  ·exact (f b hb).2.2.2.2.1 x c (S.sub x c hl)
  ·rcases (f b hb).2.2.2.1 with z|z
   ·exact I.ok.noex b o e z
   ·exact absurd (aO (aF e) (aL I.ok.bsz z)) (eQ _)
  ·rcases List.mem_cons.mp (I.stkSub b hfs) with z|z
   ·exact (f b hb).2.1 z
   ·exact (f b hb).2.2.1 z
 obtain⟨m0,hns⟩:=hns
 obtain⟨nn,hacc⟩:=hacc
 refine⟨ok,⟨rfl,ht⟩,I.bare,Un.laid old hD hfD,⟨m0,hns,fun k x v e1 e2 e3=>?_⟩,fun x c hl=>?_,?_,fun x c hl=>?_,fun p hp=>absurd (show p∈([]:List (Addr×Obj)) from hp) (by simp),I.hok.laid old hD ⟨bA _,[],nn,.nil,hacc⟩,?_⟩
 ·-- the captured names
  have e1:N'[k]? = some x:=e1
  have e2:(srcs.map fun o=>o.bind fun j=>(σ[j]?).join)[k]? = some (some v):=e2
  rw [aE] at e2
  cases hk:srcs[k]? with
  | none=>rw [hk] at e2;cases e2
  | some o=>
   rw [hk] at e2
   cases o with
   | none=>cases e2
   | some j=>
    have e2':(σ[j]?).join=some v:=aV e2
    have e3':σ[j]? = some (some v):=by
     cases hj:σ[j]? with
     | none=>rw [hj] at e2';cases e2'
     | some y=>rw [hj] at e2';exact congrArg some e2'
    obtain⟨a1,a2,a3⟩:=S.src k j x e1 hk
    obtain⟨m,hn,hl⟩:=I.loc
    obtain⟨u,r,l⟩:=hl j x v a1 e3' (a2.elim (fun z=>.inr (.inl z)) fun z=>.inr (.inr z))
    refine⟨u,r,.inr ⟨a3,?_⟩⟩
    obtain⟨c,hc⟩:=S.has x a3
    refine⟨c,hc,?_⟩
    rcases l with ⟨z,_⟩|⟨_,c',hc',o,ho,hd⟩
    ·have z':X.env.scope.names.lookup x=some .local:=z
     rcases a2 with q|q <;> rw [q] at z' <;> cases z'
    ·have e:=S.sub x c hc
     rw [hc'] at e
     cases e
     exact⟨o,old _ o ho,hd⟩
 ·obtain⟨v,o,ho,hd⟩:=I.cell x c (S.sub x c hl)
  exact⟨v,o,old _ o ho,hd⟩
 ·show upd H D (.lst []) C=none
  rw [Ah hDC]
  exact I.hok.fresh hC
 ·have hx:=S.sub x c hl
  obtain⟨v,o,ho,hd⟩:=I.cell x c hx
  rw [Ah (aH (aO (aF ho) hD))]
  exact I.freeC x c hx
 ·show (Vk srcs σ).length=N'.length
  unfold Vk
  rw [ai,S.len]
noncomputable def Bc (X:Cx) (scope:Scope) (cl:List (Str×Addr)) (use:Option (Value->Sem Unit)) (Q2:Value->aj->Prop) (D C:Addr):Value->aj->Prop:=
 lR (model X.prog X.w) X.A (mM scope cl C X.env) fun e s'=>compPost (model X.prog X.w) X.A X.xe use Q2 (.ref D) C (.error e) s'
theorem Kt {pins:List (Addr×Obj)} {s:aj} {σ:St} {H:Hp} {Q:VK} {use:Option (Value->Sem Unit)} {Q2:Value->aj->Prop} (hc:X.calm=true) (S:Hq X N' srcs scope cl) (hi:PI X tg iter wi)
  (hb:∀ fp C D s2 H2,Inv X pins σ H2 s2->(∀ b∈fp,Cr X pins H2 b)->s2.heap.objs.size<=C->PG (X.comp N' scope cl fp C s2 H2 (Bc X scope cl use Q2 D C)) tg g/\Vb (X.comp N' scope cl fp C s2 H2 (Bc X scope cl use Q2 D C)) ifs tc/\PE (X.comp N' scope cl fp C s2 H2 (Bc X scope cl use Q2 D C)) elt te)
  (I:Inv X pins σ H s) (h:ag4 srcs wi g tc te σ H Q)
  (fin:∀ (D C:Addr) (H':Hp) (s':aj),Inv X pins σ H' s'->(∃ m,s'.heap.Ns C m)->Cr X pins H' C->Q (.ref D) H'->compPost (model X.prog X.w) X.A X.xe use Q2 (.ref D) C (.ok .next) s')
  (hs:∀ x,fJ iter X.env x=pure x) :
  aJ (model X.prog X.w) X.A (comprehension (.ListComp elt [⟨tg,iter,ifs,0⟩] scope pos) scope X.env (firstIterPos [⟨tg,iter,ifs,0⟩] pos) (newList []) false (eval iter X.env) use) Q2 X.xe s:=by
 refine wpAny_comprehension_free rfl hs S.clos S.kind S.names (thn (hi pins s σ H _ I h) fun v s1 h1=>thn h1 fun itv s2 h2=>?_)
 obtain⟨it,fp,tn,J,H2,e,I2,T,st2,f2,q2⟩:=h2
 subst e
 refine cj (wpAny_newFunctionEnv S.nocell (by intro y hy;simp at hy) (fun h₁ hns₁ hsb₁=>?_) S.kind)
 dsimp only at hns₁ hsb₁ ⊢
 generalize hH2:s2.heap.push { cls:=.type "list", dict:=none,data:=.seq ([]:List Value).toArray }=G2 at hns₁ hsb₁ ⊢
 have hCe:G2.objs.size=s2.heap.objs.size+1:=by rw [<- hH2,cB]
 have hDC:G2.objs.size≠s2.heap.objs.size:=by rw [hCe];exact dM (cK _)
 have hCle:s2.heap.objs.size<=G2.objs.size:=by rw [hCe];exact cq _
 have old:∀ b o,s2.heap.get? b=some o->h₁.get? b=some o:=fun b o e=>
  hsb₁.extBut b o (aH (aO (aF e) hCle)) (ag _ (hH2▸ag _ e))
 have hacc:∃ n,h₁.get? s2.heap.objs.size=some { cls:=.type "list", data:=.seq ([]:List Value).toArray n }:=⟨_,hsb₁.extBut _ _ (bZ hDC) (ag _ (hH2▸aw _ rfl))⟩
 have fo:∀ b∈fp,b<s2.heap.objs.size:=fun b hb=>by
  obtain⟨o,ho,_⟩:=T.obj _ _ st2 b hb
  exact aF ho
 have st3:tn 0 h₁:=T.keep _ _ _ st2 fun b _ o e=>old b o e
 obtain⟨hg,ht,he⟩:=hb fp G2.objs.size s2.heap.objs.size s2 H2 I2 f2 hCle
 obtain⟨W,⟨m0,w0⟩,turn⟩:=q2 s2.heap.objs.size (I2.hok.fresh (ah _))
 have loop:∀ s3:aj,s3={ s2 with heap:=h₁,toks:=s2.toks+([]:List (Str×Value)).length } ->
   eU (model X.prog X.w) X.A (.compLoop (.ListComp elt [⟨tg,iter,ifs,0⟩] scope pos) 0 (.ref it) (.ref s2.heap.objs.size) (mM scope cl G2.objs.size X.env))
    (compPost (model X.prog X.w) X.A X.xe use Q2 (.ref s2.heap.objs.size) G2.objs.size) s3:=by
  rintro s3 rfl
  have I3:Inv (X.comp N' scope cl fp G2.objs.size s2 H2 (Bc X scope cl use Q2 s2.heap.objs.size G2.objs.size)) [] (Vk srcs σ) (upd H2 s2.heap.objs.size (.lst [])) { s2 with heap:=h₁,toks:=s2.toks+([]:List (Str×Value)).length }:=
   P6 S I2 f2 fo (ah _) hCle hDC ⟨_,hns₁⟩ old hacc
  have stat:∀ {H':Hp},(∀ b∈fp,H' b=none) -> ∀ b∈fp,Cr (X.comp N' scope cl fp G2.objs.size s2 H2 (Bc X scope cl use Q2 s2.heap.objs.size G2.objs.size)) [] H' b:=fun hn b hb=>
   ⟨hn b hb,aH (aO (fo b hb) hCle),(fun z=>(List.mem_cons.mp (I2.stkSub b z)).elim (f2 b hb).2.1 (f2 b hb).2.2.1),.inl hb,fun x c hl=>(f2 b hb).2.2.2.2.1 x c (S.sub x c hl),fun p hp=>absurd (show p∈([]:List (Addr×Obj)) from hp) (by simp)⟩
  refine Ls (fun n s'=>∃ i σ' H',Inv (X.comp N' scope cl fp G2.objs.size s2 H2 (Bc X scope cl use Q2 s2.heap.objs.size G2.objs.size)) [] σ' H' s'/\tn i s'.heap/\(∀ b∈fp,H' b=none)/\W i n σ' H') ?_ m0
   ⟨0,_,_,I3,st3,fun b hb=>by rw [Ah (aH (fo b hb))];exact (f2 b hb).1,w0⟩
  rintro n s4 ⟨i,σ4,H4,I4,st4,fr4,w4⟩
  rcases turn i n σ4 H4 w4 with ⟨stop,qn⟩|⟨go,NN,hNN,step⟩
  ·refine thn (T.done (X.comp N' scope cl fp G2.objs.size s2 H2 (Bc X scope cl use Q2 s2.heap.objs.size G2.objs.size)) rfl rfl rfl hc i [] s4 σ4 H4 _ I4 (stat fr4) st4 stop) fun r s5 ⟨hr,I5⟩=>?_
   subst hr
   obtain⟨m5,hn5,_⟩:=id I5.loc
   have I6:Inv X pins σ H4 s5:=I2.call' (ch:=fp) I5.os I5.base I5.hok I5.bare fun b hb=>⟨(f2 b hb).2.2.2.1,(f2 b hb).2.1,(f2 b hb).2.2.2.2.1,(f2 b hb).2.2.2.2.2⟩
   exact fin _ _ H4 s5 I6 ⟨m5,hn5⟩ (I2.fpOk hCle I5.free) qn
  ·refine thn (T.item (X.comp N' scope cl fp G2.objs.size s2 H2 (Bc X scope cl use Q2 s2.heap.objs.size G2.objs.size)) rfl rfl rfl hc i [] s4 σ4 H4 _ I4 (stat fr4) st4 go) fun r s5 ⟨u,hr,h5⟩=>?_
   subst hr
   refine thn h5 fun _ s6 ⟨x,H6,I6,r6,y6,st6,fr6⟩=>?_
   have I6':=I6.pinned (stat fr6) (T.obj _ _ st6)
   refine thn (hg _ s6 σ4 H6 x u _ I6' r6 (step x H6 y6)) fun _ s7 ⟨σ7,H7,I7,q7⟩=>?_
   have again:∀ {s9:aj} {H9:Hp},Inv (X.comp N' scope cl fp G2.objs.size s2 H2 (Bc X scope cl use Q2 s2.heap.objs.size G2.objs.size)) ([]++Gx fp s6.heap) σ7 H9 s9->NN σ7 H9 ->
     ∃ m,m<n /\ ∃ i σ' H',Inv (X.comp N' scope cl fp G2.objs.size s2 H2 (Bc X scope cl use Q2 s2.heap.objs.size G2.objs.size)) [] σ' H' s9/\tn i s9.heap/\(∀ b∈fp,H' b=none)/\W i m σ' H':=fun {s9 H9} I9 n9=>by
    obtain⟨m',hm,w9⟩:=hNN σ7 H9 n9
    refine⟨m',hm,i+1,σ7,H9,I9.unpinned,T.keep _ _ _ st6 fun b hb o e=>(I9.pin (b,o) (bo _ (bo _ (D1 hb e)))).1,fun b hb=>?_,w9⟩
    obtain⟨o,e,d⟩:=T.obj _ _ st6 b hb
    exact (I9.pin (b,o) (bo _ (bo _ (D1 hb e)))).2.1
   refine thn (ht _ s7 σ7 H7 _ I7 q7) fun b s8 ⟨H8,I8,q8⟩=>?_
   cases b with
   | false=>
    rw [if_neg ar] at q8
    exact again I8 q8
   | true=>
    rw [if_pos rfl] at q8
    refine thn (he _ s8 σ7 H8 _ I8 q8) fun y s9 ⟨v9,H9,I9,r9,ys,hD,hlen,w9⟩=>?_
    refine thn (K6 (X:=X.comp N' scope cl fp G2.objs.size s2 H2 (Bc X scope cl use Q2 s2.heap.objs.size G2.objs.size)) ([]++Gx fp s6.heap) s9 σ7 H9 (.ref s2.heap.objs.size) [v9] (.ref s2.heap.objs.size) [y] (fun _ H'=>H'=upd H9 s2.heap.objs.size (.lst (ys++[v9]))) I9 rfl (.cons r9 .nil)
     ⟨_,ys,v9,rfl,rfl,hD,hlen,rfl⟩) fun _ s10 ⟨_,H10,I10,_,e10⟩=>?_
    subst e10
    exact again I10 w9
 exact codeAny_compStart_list (loop _ rfl) (T.self X.A 0 _ _ _ st3 (loop _ rfl))
theorem Yc {pins:List (Addr×Obj)} {s:aj} {σ:St} {H:Hp} {Q:VK} (hc:X.calm=true) (S:Hq X N' srcs scope cl) (hi:PI X tg iter wi)
  (hb:∀ Q2 fp C D s2 H2,Inv X pins σ H2 s2->(∀ b∈fp,Cr X pins H2 b)->s2.heap.objs.size<=C->PG (X.comp N' scope cl fp C s2 H2 (Bc X scope cl none Q2 D C)) tg g/\Vb (X.comp N' scope cl fp C s2 H2 (Bc X scope cl none Q2 D C)) ifs tc/\PE (X.comp N' scope cl fp C s2 H2 (Bc X scope cl none Q2 D C)) elt te)
  (I:Inv X pins σ H s) (h:ag4 srcs wi g tc te σ H Q) (hs:∀ x,fJ iter X.env x=pure x) :
  aJ (model X.prog X.w) X.A (eval (.ListComp elt [⟨tg,iter,ifs,0⟩] scope pos) X.env) (EP X pins σ Q) X.xe s:=by
 rw [eval_ListComp]
 refine Kt (use:=none) hc S hi (fun fp C D s2 H2=>hb _ fp C D s2 H2) I h (fun D C H' s' I' ns fo q=>?_) hs
 obtain⟨m,hn⟩:=ns
 obtain⟨f0,f1,f2,f3,f4,f5⟩:=fo
 exact⟨m,hn,fun h' sb=>⟨.ref D,H',I'.turned (t':=s'.toks) (fun b o hb e=>(sb.2 b hb).trans e) f0 f1 f3 f4 f5,rfl,q⟩⟩
theorem Yb {i:Nat} {x:Str} {pos' spos:Pos} {pins:List (Addr×Obj)} {s:aj} {σ:St} {H:Hp} {D:Pq} (hc:X.calm=true) (hN:X.N.Nodup) (hx:X.N[i]? = some x) (hl:X.env.scope.names.lookup x=some .local) (S:Hq X N' srcs scope cl) (hi:PI X tg iter wi)
  (hb:∀ us Q2 fp C D s2 H2,Inv X pins σ H2 s2->(∀ b∈fp,Cr X pins H2 b)->s2.heap.objs.size<=C->PG (X.comp N' scope cl fp C s2 H2 (Bc X scope cl us Q2 D C)) tg g/\Vb (X.comp N' scope cl fp C s2 H2 (Bc X scope cl us Q2 D C)) ifs tc/\PE (X.comp N' scope cl fp C s2 H2 (Bc X scope cl us Q2 D C)) elt te)
  (I:Inv X pins σ H s) (h:bo8 (ag4 srcs wi g tc te) (Yq i) D σ H)
  (hsw:jg (.ListComp elt [⟨tg,iter,ifs,0⟩] scope pos) (some (.Name x pos')) spos.line X.env=pure true) (hs:∀ x,fJ iter X.env x=pure x) :
  aJ (model X.prog X.w) X.A (exec (.Assign [.Name x pos'] (.ListComp elt [⟨tg,iter,ifs,0⟩] scope pos) spos) X.env) (SP X pins D) X.xe s:=by
 rw [exec_Assign_Name_used _ _ _ _ hsw]
 refine af (fM (af ?_))
 show aJ _ X.A (do let _ <- comprehension (.ListComp elt [⟨tg,iter,ifs,0⟩] scope pos) scope X.env _ (newList []) false (eval iter X.env) (some (lW (.Name x pos') X.env))) _ _ s
 refine af (thn (Kt (use:=some (lW (.Name x pos') X.env)) (Q:=fun v H'=>D.nx (σ.set i (some v)) H') (Q2:=fun _ s'=>SP X pins D .next s') hc S hi (fun fp C D s2 H2=>hb _ _ fp C D s2 H2) I h (fun L C H' s' I' ns fo q=>?_) hs) fun _ s' hq=>ak (ak hq))
 obtain⟨m,hn⟩:=ns
 obtain⟨f0,f1,f2,f3,f4,f5⟩:=fo
 obtain⟨oC,es,ep,hoC,hd,hr⟩:=id hn
 have I2:Inv X (pins++[(C,oC)]) σ H' s':=I'.pins_of fun p hp=>(List.mem_append.mp hp).elim (fun z=>I'.pin p (bo _ z)) fun z=>by
  have z':p=(C,oC):=by simpa using z
  subst z'
  exact⟨hoC,f0,f1,f2,fun v e=>by rw [hd] at e;cases e⟩
 refine wpAny_assign_Name (J8 (i:=i) (v:=.ref L) I2 hN hx (.inl hl) rfl (fun s2 I3=>?_) (.inr hl))
 have hoC':=(I3.pin (C,oC) (bo _ (bo _ (by simp)))).1
 refine⟨m,⟨oC,es,ep,hoC',hd,hr⟩,fun h' sb=>?_⟩
 exact⟨_,H',(I3.unpinned).turned (t':=s2.toks) (fun b o hb e=>(sb.2 b hb).trans e) f0 f1 f3 f4 f5,q⟩
end
noncomputable def Its (x:Str):It:=⟨fun i _=>i<x.cps.size,fun i H v H'=>H'=H /\ ∃ c,x.cps[i]? = some c/\v=.str ⟨#[c]⟩,fun i _=>i=x.cps.size⟩
theorem ag7 {P:aI} {w:bp} {K:ae} {tg:Expr} (it:Addr) (x:Str) (t:Tok) (ty:String) (hty:ty = "str_ascii_iterator" \/ ty = "str_iterator") :
  Ka P w K tg (Its x) [it] it (fun i h=>h.IsStrIter it ty x t i) where
 mem:=by simp
 obj:=fun i h st b hb=>by
  have e:b=it:=by simpa using hb
  subst e
  obtain⟨o,e,c,d⟩:=st
  exact⟨o,e,fun v z=>by rw [d] at z;cases z⟩
 keep:=fun i h h' st k=>by
  obtain⟨o,e,r⟩:=st
  exact⟨o,k it (by simp) o e,r⟩
 item:=by
  intro X hP hw hK hc i pins s σ H E I hf st hg
  subst hP hw hK
  obtain⟨f0,f1,f2,f3,f4,f5⟩:=hf it (by simp)
  have W:mK X.prog X.w X.A it [it] [it] x.cps.size (SignAt x) (fun i h=>h.IsStrIter it ty x t i):=by
   rcases hty with rfl|rfl
   ·exact Walks.strAscii (I.ok.hd hc) it x t
   ·exact Walks.strWide (I.ok.hd hc) it x t
  refine bI (ah _) (W.item i s _ _ hg st fun v h' tk hv st' kk htk=>?_)
  obtain⟨c,u,hcp,rfl⟩:=hv
  have I1:Inv X pins σ H { s with heap:=h',toks:=tk }:=I.turned (fun b o hb e=>kk b o (by simpa using hb) e) f0 f1 f3 f4 f5
  obtain⟨o,e,cc,d⟩:=id st'
  exact⟨_,rfl,Ih (s:={ s with heap:=h',toks:=tk }) e cc d (by rcases hty with rfl|rfl <;> decide) ⟨.str ⟨#[c]⟩,H,I1,⟨_,rfl⟩,⟨rfl,c,hcp,rfl⟩,st',fun b hb=>(hf b hb).1⟩⟩
 done:=by
  intro X hP hw hK hc i pins s σ H E I hf st hg
  subst hP hw hK
  obtain⟨f0,f1,f2,f3,f4,f5⟩:=hf it (by simp)
  have hg:i=x.cps.size:=hg
  subst hg
  have W:mK X.prog X.w X.A it [it] [it] x.cps.size (SignAt x) (fun i h=>h.IsStrIter it ty x t i):=by
   rcases hty with rfl|rfl
   ·exact Walks.strAscii (I.ok.hd hc) it x t
   ·exact Walks.strWide (I.ok.hd hc) it x t
  exact bI (ah _) (W.done s _ _ st fun h' tk kk htk=>⟨rfl,I.turned (fun b o hb e=>kk b o (by simpa using hb) e) f0 f1 f3 f4 f5⟩)
 self:=by
  intro A i s Q E st h
  rcases hty with rfl|rfl
  ·exact wpAny_pyIter_striter_ascii st h
  ·exact wpAny_pyIter_striter_wide st h
section
variable {X:Cx} {tg:Expr}
end
section
variable {X:Cx} {pins:List (Addr×Obj)} {σ:St} {H:Hp} {s:aj} {h':Heap} {ch:List Addr} {t':Nat}
theorem Inv.turnedL (I:Inv X pins σ H s) (hf:∀ b∈ch,Cr X pins H b) (k:∀ b o,b∉ch->s.heap.get? b=some o->h'.get? b=some o) (ht:s.toks<=t':=by first|exact ah _|exact ba _ _|assumption|omega|(dsimp only;omega)):Inv X pins σ H { s with heap:=h',toks:=t' }:=by
 have tr:∀ b ob,H b=some ob->b∉ch:=fun b ob e hb=>by rw [(hf b hb).1] at e;cases e
 refine I.step (g':=s.gens) (d':=s.drawn) (ch:=ch) (fun b hb=>⟨(hf b hb).2.2.2.1,(hf b hb).2.1,(hf b hb).2.2.2.2.1,(hf b hb).2.2.2.2.2⟩) (fun b o _ _ hb e _=>k b o hb e) (fun b o _ _ hb e _=>⟨o.slots,k b o hb e⟩) (fun _ _ _ _ n=>n) (fun b o hb e=>⟨o,k b o hb e⟩)
  (fun _ _ e=>e) (fun _ _ _ e=>e) (fun b ps e=>⟨#[],by rw [e];simp⟩) (fun m hm=>?_) (fun b ob e=>?_) I.bare
 ·obtain⟨o,es,ep,ho,r⟩:=hm
  exact⟨o,es,ep,k _ o (fun z=>(hf _ z).2.1 rfl) ho,r⟩
 ·refine (I.hok b ob e).stay (fun b' w' hc' q=>k b' w' ?_ q) (fun _ q=>q) fun _ _ q=>q
  rcases hc' with rfl|hc'
  ·exact tr _ _ e
  ·exact tr _ _ hc'
theorem Inv.turnedN {T:Addr} {o:HO} (I:Inv X pins σ H s) (hf:∀ b∈ch,Cr X pins H b) (k:∀ b o,b∉ch->s.heap.get? b=some o->h'.get? b=some o) (hT:s.heap.objs.size<=T) (new:ObjOk X.prog X.w (upd H T o) h' T o) (ht:s.toks<=t':=by first|exact ah _|exact ba _ _|assumption|omega|(dsimp only;omega)) :
  Inv X pins σ (upd H T o) { s with heap:=h',toks:=t' }:=by
 have tr:∀ b ob,H b=some ob->b∉ch:=fun b ob e hb=>by rw [(hf b hb).1] at e;cases e
 have hn:=I.hok.fresh hT
 have nT:∀ {b o},s.heap.get? b=some o->b≠T:=fun e=>aH (aO (aF e) hT)
 refine I.step (g':=s.gens) (d':=s.drawn) (ch:=ch) (fun b hb=>⟨(hf b hb).2.2.2.1,(hf b hb).2.1,(hf b hb).2.2.2.2.1,(hf b hb).2.2.2.2.2⟩) (fun b o _ _ hb e _=>k b o hb e) (fun b o _ _ hb e _=>⟨o.slots,k b o hb e⟩) (fun b o _ e n=>by rw [Ah (nT e)];exact n) (fun b o hb e=>⟨o,k b o hb e⟩)
  (fun b zs e=>by rw [Ah (Az e hn)];exact e) (fun b o zs e=>by rw [Ah (Az e hn)];exact e) (fun b ps e=>⟨#[],by rw [Ah (Az e hn),e];simp⟩) (fun m hm=>?_) (fun b ob e=>?_) I.bare
 ·obtain⟨o,es,ep,ho,r⟩:=hm
  exact⟨o,es,ep,k _ o (fun z=>(hf _ z).2.1 rfl) ho,r⟩
 ·by_cases hb:b=T
  ·subst hb
   rw [Ad] at e
   cases e
   exact new
  ·rw [Ah hb] at e
   refine (I.hok b ob e).stay (fun b' w' hc' q=>k b' w' ?_ q) (fun b' q=>by rw [Ah (Az q hn)];exact q) fun b' zs q=>by rw [Ah (Az q hn)];exact q
   rcases hc' with rfl|hc'
   ·exact tr _ _ e
   ·exact tr _ _ hc'
end
noncomputable def Itz (K:ae) (l1 l2:Addr):It:=
  ⟨fun i H=>∃ xs ys x y,SqL K H l1 xs/\SqL K H l2 ys/\xs[i]? = some x/\ys[i]? = some y,
   fun i H v H'=>∃ T x y,H T=none/\v=.ref T/\(∀ xs,SqL K H l1 xs->xs[i]? = some x)/\(∀ ys,SqL K H l2 ys->ys[i]? = some y)/\H'=upd H T (.tup [x,y]),
   fun i H=>∃ xs ys,SqL K H l1 xs/\SqL K H l2 ys/\(xs.length<=i\/ys.length<=i)⟩
theorem ag8 {P:aI} {w:bp} {K:ae} {elts:List Expr} {kt:Nat} {pt:Pos} {z TI TO i1 i2 l1 l2:Addr} (D:ZipApart z TI TO i1 i2 l1 l2) :
  Ka P w K (.Tuple elts kt pt) (Itz K l1 l2) [z,TI,TO,i1,i2] z
   (fun i h=>IsZip h z TI TO .none/\IsPair h TI (.ref i1) (.ref i2)/\(∃ a b,IsPair h TO a b)/\h.IsListIter i1 l1 i/\h.IsListIter i2 l2 i) where
 mem:=by simp
 obj:=fun i h st b hb=>by
  obtain⟨hz,hTI,⟨a,c,hTO⟩,⟨o1,e1,c1,d1⟩,⟨o2,e2,c2,d2⟩⟩:=st
  have hb:b=z\/b=TI\/b=TO\/b=i1\/b=i2:=by simpa using hb
  rcases hb with rfl|rfl|rfl|rfl|rfl
  ·exact⟨_,hz,fun v q=>nomatch q⟩
  ·exact⟨_,hTI,fun v q=>nomatch q⟩
  ·exact⟨_,hTO,fun v q=>nomatch q⟩
  ·exact⟨o1,e1,fun v q=>by rw [d1] at q;cases q⟩
  ·exact⟨o2,e2,fun v q=>by rw [d2] at q;cases q⟩
 keep:=fun i h h' st k=>by
  obtain⟨hz,hTI,⟨a,c,hTO⟩,h1,h2⟩:=st
  exact⟨k z (by simp) _ hz,k TI (by simp) _ hTI,⟨a,c,k TO (by simp) _ hTO⟩,h1.at fun o e=>k i1 (by simp) o e,h2.at fun o e=>k i2 (by simp) o e⟩
 item:=by
  intro X hP hw hK hc i pins s σ H E I hf st hg
  subst hP hw hK
  obtain⟨xs,ys,x,y,q1,q2,hx,hy⟩:=hg
  obtain⟨its1,r1,p1,z1⟩:=I.list q1
  obtain⟨its2,r2,p2,z2⟩:=I.list q2
  obtain⟨u,hu,ru⟩:=r1.get hx
  obtain⟨v,hv,rv⟩:=r2.get hy
  obtain⟨hz,hTI,⟨a,c,hTO⟩,h1,h2⟩:=st
  refine wpAny_pyNext_zip_item D hz hTI hTO h1 h2 p1.isList p2.isList (x:=u) (y:=v) (by simpa using hu) (by simpa using hv) fun h' a1 a2 a3 a4 a5 a6 hk=>?_
  refine⟨_,rfl,wpAny_letOwnedTupleGo_zip a1 fun h'' hz' hs'=>?_⟩
  have hT:=I.hok.fresh (ah s.heap.objs.size)
  have up':∀ b o,b∉[z,TO,i1,i2]->s.heap.get? b=some o->h''.get? b=some o:=fun b o hb e=>by
   have b1:b≠z:=by rintro rfl;exact hb (by simp)
   have b2:b≠TO:=by rintro rfl;exact hb (by simp)
   have b3:b≠i1:=by rintro rfl;exact hb (by simp)
   have b4:b≠i2:=by rintro rfl;exact hb (by simp)
   exact hs'.extBut b o b1 (hk b o b1 b2 b3 b4 e)
  have nT:∀ {b o},s.heap.get? b=some o->b≠s.heap.objs.size:=fun e=>aH (aF e)
  have Tnew:h''.get? s.heap.objs.size=some { cls:=.type "tuple", data:=.seq #[u,v] }:=hs'.extBut _ _ (bZ (nT hz)) a5
  have I1:Inv X pins σ (upd H s.heap.objs.size (.tup [x,y])) { s with heap:=h'' }:=
   I.turnedN (t':=s.toks) (ch:=[z,TO,i1,i2]) (fun b hb=>hf b (by
    have hb:b=z\/b=TO\/b=i1\/b=i2:=by simpa using hb
    rcases hb with rfl|rfl|rfl|rfl <;> simp)) up' (ah _) ⟨by show 2<=sizeLine;decide,[u,v],.cons ru (.cons rv .nil),⟨_,Tnew,rfl,_,rfl⟩⟩
  refine⟨.ref s.heap.objs.size,_,I1,rfl,⟨s.heap.objs.size,x,y,hT,rfl,fun xs' h'=>by rw [I.list_inj h' q1];exact hx,fun ys' h'=>by rw [I.list_inj h' q2];exact hy,rfl⟩,
   ⟨hz',hs'.extBut _ _ D.TIz (hk _ _ D.TIz D.TITO D.TIi1 D.TIi2 hTI),⟨_,_,hs'.extBut _ _ D.TOz a2⟩,a3.at fun o e=>hs'.extBut _ o D.i1z e,a4.at fun o e=>hs'.extBut _ o D.i2z e⟩,fun b hb=>?_⟩
  have q:=(hf b hb).1
  rw [Ah ?_]
  ·exact q
  ·have hb:b=z\/b=TI\/b=TO\/b=i1\/b=i2:=by simpa using hb
   rcases hb with rfl|rfl|rfl|rfl|rfl
   ·exact nT hz
   ·exact nT hTI
   ·exact nT hTO
   ·obtain⟨_,e,_⟩:=h1;exact nT e
   ·obtain⟨_,e,_⟩:=h2;exact nT e
 done:=by
  intro X hP hw hK hc i pins s σ H E I hf st hg
  subst hP hw hK
  obtain⟨xs,ys,q1,q2,hx⟩:=hg
  obtain⟨its1,r1,p1,z1⟩:=I.list q1
  obtain⟨its2,r2,p2,z2⟩:=I.list q2
  have e1:=r1.length
  have e2:=r2.length
  obtain⟨hz,hTI,⟨a,c,hTO⟩,h1,h2⟩:=st
  have hend:its1.toArray[i]? = none\/its2.toArray[i]? = none:=by
   rcases hx with hx|hx
   ·exact .inl (by simp;omega)
   ·exact .inr (by simp;omega)
  refine wpAny_pyNext_zip_end (I.ok.hd hc) D hz hTI hTO h1 h2 p1.isList p2.isList hend fun h' hk=>⟨rfl,?_⟩
  refine I.turnedL (t':=s.toks) (ch:=[z,TO,i1,i2]) (fun b hb=>hf b (by
    have hb:b=z\/b=TO\/b=i1\/b=i2:=by simpa using hb
    rcases hb with rfl|rfl|rfl|rfl <;> simp)) fun b o hb e=>?_
  have b1:b≠z:=by rintro rfl;exact hb (by simp)
  have b2:b≠TO:=by rintro rfl;exact hb (by simp)
  have b3:b≠i1:=by rintro rfl;exact hb (by simp)
  have b4:b≠i2:=by rintro rfl;exact hb (by simp)
  exact hk b o b1 b2 b3 b4 e
 self:=fun A i s Q E st h=>wpAny_pyIter_zip st.1 h
section
variable {X:Cx}
end
theorem bs0 {K:ae} {l1 l2:Addr} {xs ys:List V} {H:Hp} {i:Nat} (h1:SqL K H l1 xs) (h2:SqL K H l2 ys) (hi:i<min xs.length ys.length):(Itz K l1 l2).go i H:=
 ⟨xs,ys,xs[i]'(by omega),ys[i]'(by omega),h1,h2,by simp,by simp⟩
section
variable {X:Cx}
theorem X7:Bw X (.builtin "isinstance") (fun xs H Q=>∃ x T t b,xs=[x,.ty T]/\TyOf X.K H x t/\fR X.K t (.type T)=some b/\Q (.bl b) H):=by
 intro pins s σ H xs us Q I r h
 obtain⟨x,T,t,b,rfl,ty,e,q⟩:=h
 obtain⟨u,v,rfl,ru,rv⟩:=r.two
 cases rv
 exact bI (ah _) (K2 I ru ty e fun tk htk=>⟨.bl b,H,I.tok tk htk,rfl,q⟩)
theorem Wa:OpR X (cm .LtE) (fun x y H Q=>∃ i j,x=.str i/\y=.str j/\Q (.bl (!decide (j.cps.toList<i.cps.toList))) H):=by
 intro pins s σ H x y v u Q I rx ry h
 obtain⟨i,j,rfl,rfl,q⟩:=h
 obtain⟨t,rfl⟩:=rx
 obtain⟨t',rfl⟩:=ry
 exact PySem.P.le_str ⟨.bl _,H,I,rfl,q⟩
end
noncomputable def Oj (xs ys:List V):Bool:=decide (xs.length=ys.length)&&(bC xs.length).all fun j=>eqV (xs.getD j .non) (ys.getD j .non)
theorem Ol {xs ys:List V} (h:xs.length≠ys.length):Oj xs ys=false:=by
 unfold Oj
 rw [decide_eq_false h]
 rfl
noncomputable def bi2 (K:ae) (neg:Bool):R2:=fun x y H Q=>∃ a b xs ys,x=.ref a/\y=.ref b/\SqL K H a xs/\SqL K H b ys/\xs.all Bd=true/\ys.all Bd=true/\Q (.bl (if neg then !Oj xs ys else Oj xs ys)) H
section
variable {X:Cx}
theorem Ik {A:bi} {s:aj} {xs ys:List V} {us ws:List Value} (rx:Vals xs us) (ry:Vals ys ws) (fx:xs.all Bd=true) (fy:ys.all Bd=true) (j:Nat) (h1:j<us.toArray.size) (h2:j<ws.toArray.size) :
  bx A s us.toArray[j] ws.toArray[j] (eqV (xs.getD j .non) (ys.getD j .non)):=by
 have e1:=rx.length
 have e2:=ry.length
 have h1':j<us.length:=by simpa using h1
 have h2':j<ws.length:=by simpa using h2
 have a1:xs[j]? = some (xs[j]'(by omega)):=by simp
 have a2:ys[j]? = some (ys[j]'(by omega)):=by simp
 obtain⟨u,hu,ru⟩:=rx.get a1
 obtain⟨v,hv,rv⟩:=ry.get a2
 have b1:us.toArray[j]=u:=by
  have:us[j]? = some us[j]:=by simp
  rw [this] at hu
  simpa using aV hu
 have b2:ws.toArray[j]=v:=by
  have:ws[j]? = some ws[j]:=by simp
  rw [this] at hv
  simpa using aV hv
 have c1:xs.getD j .non=xs[j]'(by omega):=by rw [aB,a1];rfl
 have c2:ys.getD j .non=ys[j]'(by omega):=by rw [aB,a2];rfl
 rw [b1,b2,c1,c2]
 exact L5 ru rv (List.all_eq_true.mp fx _ (cY _)) (List.all_eq_true.mp fy _ (cY _))
theorem bc1 (hu:X.A.units<cLine):OpR X (cm .Eq) (bi2 X.K false):=by
 intro pins s σ H x y v u Q I rx ry h
 obtain⟨a,b,xs,ys,rfl,rfl,qa,qb,fx,fy,q⟩:=h
 cases rx
 cases ry
 obtain⟨its,r,pl,hz⟩:=I.list qa
 obtain⟨its2,r2,pl2,hz2⟩:=I.list qb
 have e1:=r.length
 have e2:=r2.length
 by_cases hl:xs.length=ys.length
 ·refine SeqAt.eq_listAt (e:=fun j=>eqV (xs.getD j .non) (ys.getD j .non)) pl.isList pl2.isList (by simp;omega) hu (fun j h1 h2=>Ik r r2 fx fy j h1 h2) ⟨.bl _,H,I,rfl,?_⟩
  have e:Oj xs ys=(bC its.toArray.size).all fun j=>eqV (xs.getD j .non) (ys.getD j .non):=by
   unfold Oj
   rw [decide_eq_true hl,ao,<- e1]
   rfl
  rw [<- e]
  exact q
 ·refine SeqAt.eq_list_lengthsAt pl.isList pl2.isList (by simp;omega) hu ⟨.bl _,H,I,rfl,?_⟩
  rw [Ol hl] at q
  exact q
theorem bc5 (hu:X.A.units<cLine):OpR X (cm .NotEq) (bi2 X.K true):=by
 intro pins s σ H x y v u Q I rx ry h
 obtain⟨a,b,xs,ys,rfl,rfl,qa,qb,fx,fy,q⟩:=h
 cases rx
 cases ry
 obtain⟨its,r,pl,hz⟩:=I.list qa
 obtain⟨its2,r2,pl2,hz2⟩:=I.list qb
 have e1:=r.length
 have e2:=r2.length
 by_cases hl:xs.length=ys.length
 ·refine SeqAt.RcNeAt.lists (e:=fun j=>eqV (xs.getD j .non) (ys.getD j .non)) pl.isList pl2.isList (by simp;omega) hu (fun j h1 h2=>Ik r r2 fx fy j h1 h2) _ _ _ _ ⟨.bl _,H,I,rfl,?_⟩
  have e:Oj xs ys=(bC its.toArray.size).all fun j=>eqV (xs.getD j .non) (ys.getD j .non):=by
   unfold Oj
   rw [decide_eq_true hl,ao,<- e1]
   rfl
  rw [<- e]
  exact q
 ·refine SeqAt.RcNeAt.lists_lengths pl.isList pl2.isList (by simp;omega) hu _ _ _ _ ⟨.bl _,H,I,rfl,?_⟩
  rw [Ol hl] at q
  exact q
end
theorem Za {cl:List (Str×Addr)} {x:Str} (h:x∈cl.map (·.1)):∃ c,cl.lookup x=some c:=by
 induction cl with
 | nil=>simp at h
 | cons p r ih=>
  obtain⟨n,a⟩:=p
  rw [List.lookup_cons]
  cases e:x==n with
  | true=>exact⟨a,rfl⟩
  | false=>
   refine ih ?_
   rcases List.mem_cons.mp h with q|q
   ·rw [show x=n from q] at e;simp at e
   ·exact q
section
variable {X:Cx} {e:Expr} {te:TE} {lo hi:Option Expr} {tl th:TO} {pos p2:Pos}
theorem Sj {ys:List Str}:∀ {us:List Value},Vals (ys.map V.str) us->StrsAre us ys:=by
 induction ys with
 | nil=>intro us r;rw [iH] at r;cases r;exact .nil
 | cons y ys ih=>
  intro us r
  rw [aK] at r
  cases r with
  | cons r1 r2=>
   obtain⟨t,e⟩:=r1
   subst e
   exact .cons y t (ih r2)
theorem am8:MtR X "str.join" (fun x xs H Q=>∃ z p ys,x=.str z/\xs=[.ref p]/\SqL X.K H p (ys.map V.str)/\(ys.map (·.length)).sum+ys.length * z.length<=16777216/\Q (.str (Txt.join z ys)) H):=by
 intro pins s σ H x xs v us Q I rx rs h
 obtain⟨z,p,ys,rfl,rfl,hq,hz,q⟩:=h
 obtain⟨t,rfl⟩:=rx
 obtain⟨u,rfl,ru⟩:=rs.one
 cases ru
 obtain⟨its,rv,pl,_⟩:=I.list hq
 exact bI (ah _) (PyProof.Rows.join_list pl.isList (by simpa using Sj rv) hz fun t' k htk=>⟨.str _,H,I.tok k htk,⟨_,rfl⟩,q⟩)
end
end L2
set_option maxHeartbeats 4000000
namespace L2
open PySem PySem.Spec PyProof.Rows
section
variable {κ:Type} [DecidableEq κ]
noncomputable def A6 (kvs:List (κ×V)) (k:κ):Option V:=(kvs.find? fun kv=>decide (kv.1=k)).map (·.2)
noncomputable def Cf (kvs:List (κ×V)) (k:κ) (v:V):List (κ×V):=
 if (kvs.any fun kv=>decide (kv.1=k))=true then kvs.map (fun kv=>if kv.1=k then (kv.1,v) else kv) else kvs++[(k,v)]
noncomputable def Oi (kvs:List (κ×V)) (k:κ):List (κ×V):=kvs.filter fun kv=>decide (kv.1≠k)
theorem ah0 {k:κ}:A6 ([]:List (κ×V)) k=none:=rfl
theorem Bn {p:κ×V} {r:List (κ×V)} {k:κ} (e:p.1=k):A6 (p::r) k=some p.2:=by simp [A6,cw,e]
theorem Bm {p:κ×V} {r:List (κ×V)} {k:κ} (e:¬ p.1=k):A6 (p::r) k=A6 r k:=by simp [A6,cw,e]
theorem Ep (k:κ):∀ kvs:List (κ×V),(kvs.any fun kv=>decide (kv.1=k))=(A6 kvs k).isSome
 | []=>rfl
 | p::r=>by
  rw [gn]
  by_cases e:p.1=k
  ·simp only [Bn e,decide_eq_true e,Bool.true_or,Option.isSome_some]
  ·rw [Bm e,decide_eq_false e,lj];exact Ep k r
theorem Pk (k j:κ) (y:V):∀ kvs:List (κ×V),A6 (kvs.map fun kv=>if kv.1=k then (kv.1,y) else kv) j=(A6 kvs j).map fun x=>if j=k then y else x
 | []=>rfl
 | p::r=>by
  have ih:=Pk k j y r
  rw [aK]
  by_cases h:p.1=k
  ·rw [if_pos h]
   by_cases e:p.1=j
   ·rw [Bn (p:=(p.1,y)) e,Bn e,gr,if_pos (e.symm.trans h)]
   ·rw [Bm (p:=(p.1,y)) e,Bm e,ih]
  ·rw [if_neg h]
   by_cases e:p.1=j
   ·rw [Bn (p:=p) e,Bn e,gr,if_neg (fun z=>h (e.trans z))]
   ·rw [Bm (p:=p) e,Bm e,ih]
theorem Li (k j:κ) (y:V):∀ kvs:List (κ×V),A6 kvs k=none->A6 (kvs++[(k,y)]) j=if j=k then some y else A6 kvs j
 | [],_=>by
  by_cases e:k=j
  ·rw [if_pos e.symm];exact Bn (p:=(k,y)) e
  ·rw [if_neg (fun z=>e z.symm)];exact Bm (p:=(k,y)) e
 | p::r,hn=>by
  rw [cx]
  have hk:¬ p.1=k:=fun z=>by rw [Bn z] at hn;cases hn
  rw [Bm hk] at hn
  have ih:=Li k j y r hn
  by_cases e:p.1=j
  ·rw [Bn e,Bn e,if_neg (fun z=>hk (e.trans z))]
  ·rw [Bm e,Bm e,ih]
theorem Gh (kvs:List (κ×V)) (k j:κ) (y:V):A6 (Cf kvs k y) j=if j=k then some y else A6 kvs j:=by
 unfold Cf
 by_cases a:(kvs.any fun kv=>decide (kv.1=k))=true
 ·rw [if_pos a,Pk]
  rw [Ep] at a
  by_cases e:j=k
  ·obtain⟨x,hx⟩:=Option.isSome_iff_exists.mp a
   rw [if_pos e,e,hx,gr,if_pos rfl]
  ·rw [if_neg e]
   cases A6 kvs j with
   | none=>rfl
   | some x=>rw [gr,if_neg e]
 ·rw [if_neg a]
  refine Li k j y kvs ?_
  rw [Ep] at a
  cases q:A6 kvs k with
  | none=>rfl
  | some x=>rw [q] at a;exact (a rfl).elim
theorem Ce (kvs:List (κ×V)) (k:κ) (v:V):(Cf kvs k v).length<=kvs.length+1:=by
 unfold Cf
 split
 ·rw [ai];omega
 ·rw [av,aP,jT];omega
theorem RelO.isSome_eq {o:Option V} {u:Option Value} (r:RelO o u):o.isSome=u.isSome:=by
 cases o with
 | none=>cases u with
  | none=>rfl
  | some _=>exact (show False from r).elim
 | some _=>cases u with
  | none=>exact (show False from r).elim
  | some _=>rfl
theorem RelO.getD {o:Option V} {u:Option Value} {d:V} {d':Value} (r:RelO o u) (rd:RelV d d'):RelV (o.getD d) (u.getD d'):=by
 cases o with
 | none=>cases u with
  | none=>exact rd
  | some _=>exact (show False from r).elim
 | some _=>cases u with
  | none=>exact (show False from r).elim
  | some _=>exact r
theorem KV.val {kvs:List (κ×V)} {vs:List (κ×Value)} (r:KV kvs vs) (k:κ):RelO (A6 kvs k) (iU vs k):=by
 unfold KV at r
 induction r with
 | nil=>exact bD
 | @cons p q ps qs h t ih=>
  obtain⟨h1,h2⟩:=h
  by_cases e:p.1=k
  ·have e':q.1=k:=h1.symm.trans e
   have b:iU (q::qs) k=some q.2:=by simp [iU,cw,e']
   rw [Bn e,b];exact h2
  ·have e':¬ q.1=k:=fun z=>e (h1.trans z)
   have b:iU (q::qs) k=iU qs k:=by simp [iU,cw,e']
   rw [Bm e,b];exact ih
theorem KV.any {kvs:List (κ×V)} {vs:List (κ×Value)} (r:KV kvs vs) (k:κ):(kvs.any fun kv=>decide (kv.1=k))=vs.any fun kv=>decide (kv.1=k):=by
 unfold KV at r
 induction r with
 | nil=>rfl
 | cons h t ih=>rw [gn,gn,ih,h.1]
theorem KV.repl {kvs:List (κ×V)} {vs:List (κ×Value)} (r:KV kvs vs) (k:κ) {y:V} {u:Value} (ry:RelV y u) :
  KV (kvs.map fun kv=>if kv.1=k then (kv.1,y) else kv) (vs.map fun kv=>if kv.1=k then (kv.1,u) else kv):=by
 unfold KV at r ⊢
 induction r with
 | nil=>exact .nil
 | @cons p q ps qs h t ih=>
  rw [aK,aK]
  refine .cons ?_ ih
  obtain⟨h1,h2⟩:=h
  by_cases e:p.1=k
  ·rw [if_pos e,if_pos (h1.symm.trans e)];exact⟨h1,ry⟩
  ·rw [if_neg e,if_neg (fun z=>e (h1.trans z))];exact⟨h1,h2⟩
theorem KV.put {kvs:List (κ×V)} {vs:List (κ×Value)} (r:KV kvs vs) (k:κ) {y:V} {u:Value} (ry:RelV y u):KV (Cf kvs k y) (stored vs k u):=by
 unfold Cf stored
 rw [r.any k]
 by_cases e:(vs.any fun kv=>decide (kv.1=k))=true
 ·rw [if_pos e,if_pos e];exact r.repl k ry
 ·rw [if_neg e,if_neg e];exact Paired.snoc r ⟨rfl,ry⟩
theorem KV.drop {kvs:List (κ×V)} {vs:List (κ×Value)} (r:KV kvs vs) (k:κ):KV (Oi kvs k) (without vs k):=by
 unfold KV at r ⊢
 unfold Oi without
 induction r with
 | nil=>exact .nil
 | @cons p q ps qs h t ih=>
  obtain⟨h1,h2⟩:=h
  rw [List.filter_cons,List.filter_cons]
  by_cases e:p.1=k
  ·have a:¬ decide (p.1≠k)=true:=by simp [e]
   have b:¬ decide (q.1≠k)=true:=by simp [h1.symm.trans e]
   rw [if_neg a,if_neg b];exact ih
  ·have e':¬ q.1=k:=fun z=>e (h1.trans z)
   have a:decide (p.1≠k)=true:=by simp [e]
   have b:decide (q.1≠k)=true:=by simp [e']
   rw [if_pos a,if_pos b];exact .cons ⟨h1,h2⟩ ih
theorem KV.keys {kvs:List (κ×V)} {vs:List (κ×Value)} (r:KV kvs vs):kvs.map (·.1)=vs.map (·.1):=by
 unfold KV at r
 induction r with
 | nil=>rfl
 | cons h t ih=>rw [aK,aK,ih,h.1]
theorem KV.length {kvs:List (κ×V)} {vs:List (κ×Value)} (r:KV kvs vs):kvs.length=vs.length:=g7 r
theorem Yj (kvs:List (κ×V)) (k:κ):(Oi kvs k).length<=kvs.length:=jS _ _
end
theorem D4 {P:aI} {w:bp} {k:Key} {u:Value} (r:RelV (kV k) u):(Ao P w).is k u=true:=by
 cases k with
 | inl i=>obtain⟨t,e⟩:=(show ∃ t,u=j6 i t from r);subst e;exact Ox P w i t
 | inr x=>obtain⟨t,e⟩:=(show ∃ t,u=gR x t from r);subst e;exact Oy P w x t
theorem K3 {P:aI} {w:bp}:∀ {ks:List Key} {us:List Value},Vals (ks.map kV) us->ItemsAre (Ao P w) ks us
 | [],_,r=>by rw [iH] at r;cases r;exact .nil
 | k::ks,_,r=>by
  rw [aK] at r
  cases r with
  | cons h t=>exact .cons (D4 h) (K3 t)
noncomputable abbrev KT (H:Hp):List (List Key×V)->List (List Key×Addr×Value)->Prop:=gZ fun p q=>p.1=q.1/\H q.2.1=some (.tup (p.1.map kV))/\RelV p.2 q.2.2
theorem KT.val {H:Hp} {kvs:List (List Key×V)} {xs:List (List Key×Addr×Value)} (r:KT H kvs xs) (k:List Key):RelO (A6 kvs k) ((me xs k).map (·.2)):=by
 induction r with
 | nil=>exact bD
 | @cons p q ps qs h t ih=>
  obtain⟨h1,_,h2⟩:=h
  by_cases e:p.1=k
  ·have e':q.1=k:=h1.symm.trans e
   have b:me (q::qs) k=some q.2:=by simp [me,cw,e']
   rw [Bn e,b];exact h2
  ·have e':¬ q.1=k:=fun z=>e (h1.trans z)
   have b:me (q::qs) k=me qs k:=by simp [me,cw,e']
   rw [Bm e,b];exact ih
theorem KT.repl {H:Hp} {kvs:List (List Key×V)} {xs:List (List Key×Addr×Value)} (r:KT H kvs xs) (k:List Key) {y:V} {u:Value} (ry:RelV y u) :
  KT H (kvs.map fun kv=>if kv.1=k then (kv.1,y) else kv) (xs.map (putAt k u)):=by
 induction r with
 | nil=>exact .nil
 | @cons p q ps qs h t ih=>
  rw [aK,aK]
  refine .cons ?_ ih
  obtain⟨h1,h2,h3⟩:=h
  unfold putAt
  by_cases e:p.1=k
  ·rw [if_pos e,if_pos (h1.symm.trans e)];exact⟨h1,h2,ry⟩
  ·rw [if_neg e,if_neg (fun z=>e (h1.trans z))];exact⟨h1,h2,h3⟩
theorem KT.put {H:Hp} {kvs:List (List Key×V)} {xs:List (List Key×Addr×Value)} (r:KT H kvs xs) (k:List Key) {b:Addr} {y:V} {u:Value} (hb:H b=some (.tup (k.map kV))) (ry:RelV y u) :
  KT H (Cf kvs k y) (storedH xs k b u):=by
 have e:(kvs.any fun kv=>decide (kv.1=k))=(me xs k).isSome:=by
  rw [Ep,(r.val k).isSome_eq,ja]
 unfold Cf storedH
 rw [e]
 by_cases q:(me xs k).isSome=true
 ·rw [if_pos q,if_pos q];exact r.repl k ry
 ·rw [if_neg q,if_neg q];exact Paired.snoc r ⟨rfl,hb,ry⟩
theorem KT.keeps {H H':Hp} {kvs:List (List Key×V)} {xs:List (List Key×Addr×Value)} (r:KT H kvs xs) (ht:∀ b ys,H b=some (.tup ys)->H' b=some (.tup ys)):KT H' kvs xs:=
 Paired.mapP r fun _ _ z=>⟨z.1,ht _ _ z.2.1,z.2.2⟩
section
variable {P:aI} {w:bp} {H:Hp} {h:Heap} {a:Addr}
theorem az3 {u:HO} (ok:HOk P w H h) (e:Rd H a u):ObjOk P w H h a u:=e.ok ok
theorem Di {kvs:List (Key×V)} (ok:HOk P w H h) (e:Rd H a (.dK kvs)):kvs.length<=sizeLine/\(a==cV)=false /\ ∃ vs,KV kvs vs/\h.DictOf (Ao P w) a vs:=
 show ObjOk P w H h a (.dK kvs) from az3 ok e
theorem Yi {kvs:List (Key×V)} (ok:HOk P w H h) (e:H a=some (.dK kvs)):kvs.length<=sizeLine/\(a==cV)=false /\ ∃ vs,KV kvs vs/\h.DictOf (Ao P w) a vs:=Di ok (.inl e)
theorem Eh {ks:List Key} (ok:HOk P w H h) (e:H a=some (.tup (ks.map kV))):(ir (Ao P w)).is h ks a:=by
 obtain⟨_,its,r,o,h1,h2,n,h3⟩:=(show ObjOk P w H h a (.tup (ks.map kV)) from ok a _ e)
 exact⟨o,its.toArray,n,h1,h2,h3,by simpa using K3 r⟩
theorem Ib {kvs:List (List Key×V)} (ok:HOk P w H h) (e:Rd H a (.dT kvs)):kvs.length<=sizeLine/\(a==cV)=false /\
  ∃ xs,KT H kvs xs/\h.DictOfH (ir (Ao P w)) a xs:=by
 obtain⟨z,y,xs,r,o,es,ep,h1,h2,h3,h4,h5⟩:=(show ObjOk P w H h a (.dT kvs) from az3 ok e)
 refine⟨z,y,xs,r,o,es,ep,h1,h2,h3,h4,fun x hx=>?_,h5⟩
 have all:∀ {l:List (List Key×V)} {m:List (List Key×Addr×Value)},KT H l m -> ∀ x∈m,(ir (Ao P w)).is h x.1 x.2.1:=by
  intro l m q
  induction q with
  | nil=>intro x hx;exact nomatch hx
  | @cons p q ps qs hq t ih=>
   intro x hx
   rcases List.mem_cons.mp hx with e|hx
   ·subst e
    exact Eh ok (by rw [<- hq.1];exact hq.2.1)
   ·exact ih x hx
 exact all r x hx
theorem au2 {kvs:List (List Key×V)} (ok:HOk P w H h) (e:H a=some (.dT kvs)):kvs.length<=sizeLine/\(a==cV)=false /\
  ∃ xs,KT H kvs xs/\h.DictOfH (ir (Ao P w)) a xs:=Ib ok (.inl e)
end
noncomputable def D7 (H:Hp) (a:Addr) (y:V) (r:Option V):Prop:=
 (∃ kvs k,Rd H a (.dK kvs)/\y=kV k/\r=A6 kvs k) \/ ∃ kvs k b,Rd H a (.dT kvs)/\y=.ref b/\H b=some (.tup (k.map kV))/\r=A6 kvs k
noncomputable def DPut (H:Hp) (a:Addr) (y v:V) (H':Hp):Prop:=
 (∃ kvs k,H a=some (.dK kvs)/\y=kV k/\kvs.length<sizeLine/\H'=upd H a (.dK (Cf kvs k v))) \/
 ∃ kvs k b,H a=some (.dT kvs)/\y=.ref b/\H b=some (.tup (k.map kV))/\kvs.length<sizeLine/\H'=upd H a (.dT (Cf kvs k v))
theorem DPut.k {H:Hp} {a:Addr} {kvs:List (Key×V)} {k:Key} {v:V} (e:H a=some (.dK kvs)) (hl:kvs.length<sizeLine):DPut H a (kV k) v (upd H a (.dK (Cf kvs k v))):=.inl ⟨kvs,k,e,rfl,hl,rfl⟩
section
variable {X:Cx} {pins:List (Addr×Obj)} {σ:St} {H:Hp} {s:aj} {a:Addr} {y v:V} {u r:Value} {o:Option V} {A:bi} {E:Value->aj->Prop}
theorem Inv.big (I:Inv X pins σ H s):cV<s.heap.objs.size:=by
 have h:aZ<s.heap.objs.size:=(I.mod.glob.keeps I.bk).lt
 exact f_ (by decide) h
theorem Vm {Q:Value->aj->Prop} (hu:A.units+1<cLine) (I:Inv X pins σ H s) (g:D7 H a y (some v)) (ry:RelV y u) (h:∀ w' s',Inv X pins σ H s'->RelV v w'->Q w' s') :
  aJ (model X.prog X.w) A (k_ (.ref a) u) Q E s:=by
 rcases g with ⟨kvs,k,e,ey,l⟩|⟨kvs,k,b,e,ey,eb,l⟩
 ·subst ey
  obtain⟨z,hd,vs,rel,dd⟩:=Di I.hok e
  obtain⟨w',hw,rw'⟩:=RelO.some_of (v:=v) (o:=iU vs k) (by rw [l];exact rel.val k)
  exact wpAny_getItem_of (D4 ry) dd.mapOf hw (h w' _ (I.tok _) rw')
 ·subst ey
  cases (show u=aR b from ry)
  obtain⟨z,hd,xs,rel,dd⟩:=Ib I.hok e
  obtain⟨w',hw,rw'⟩:=RelO.some_of (v:=v) (o:=(me xs k).map (·.2)) (by rw [l];exact rel.val k)
  obtain⟨p,hp,hp2⟩:=Option.map_eq_some_iff.mp hw
  refine wpAny_getItem_heap (cW hu) (Eh I.hok eb) dd hp ?_
  rw [hp2]
  exact h w' _ (I.tok _) rw'
theorem b93 {Q:Value->aj->Prop} (hu:A.units+1<cLine) (I:Inv X pins σ H s) (g:D7 H a y o) (ry:RelV y u) (h:∀ s',Inv X pins σ H s'->Q (.bool o.isSome) s') :
  aJ (model X.prog X.w) A (cm .In u (.ref a)) Q E s:=by
 rcases g with ⟨kvs,k,e,ey,l⟩|⟨kvs,k,b,e,ey,eb,l⟩
 ·subst ey
  obtain⟨z,hd,vs,rel,dd⟩:=Di I.hok e
  refine my (D4 ry) hd dd.mapOf ?_
  rw [<- (rel.val k).isSome_eq,<- l]
  exact h _ (I.tok _)
 ·subst ey
  cases (show u=aR b from ry)
  obtain⟨z,hd,xs,rel,dd⟩:=Ib I.hok e
  refine wpAny_in_heap (cW hu) (Eh I.hok eb) hd dd ?_
  have q:=(rel.val k).isSome_eq
  rw [ja] at q
  rw [<- q,<- l]
  exact h _ (I.tok _)
theorem ak0 {Q:Value->aj->Prop} (hu:A.units+1<cLine) (I:Inv X pins σ H s) (g:D7 H a y o) (ry:RelV y u) (h:∀ s',Inv X pins σ H s'->Q (.bool (!o.isSome)) s') :
  aJ (model X.prog X.w) A (cm .NotIn u (.ref a)) Q E s:=by
 rcases g with ⟨kvs,k,e,ey,l⟩|⟨kvs,k,b,e,ey,eb,l⟩
 ·subst ey
  obtain⟨z,hd,vs,rel,dd⟩:=Di I.hok e
  refine kJ (D4 ry) hd dd.mapOf ?_
  rw [<- (rel.val k).isSome_eq,<- l]
  exact h _ (I.tok _)
 ·subst ey
  cases (show u=aR b from ry)
  obtain⟨z,hd,xs,rel,dd⟩:=Ib I.hok e
  refine wpAny_notIn_heap (cW hu) (Eh I.hok eb) hd dd ?_
  have q:=(rel.val k).isSome_eq
  rw [ja] at q
  rw [<- q,<- l]
  exact h _ (I.tok _)
theorem Fw {h':Heap} {t':Nat} {ob:HO} (I:Inv X pins σ H s) (mu:Mut (H a)) (hs:br a s.heap h') (he:∃ q,h'.get? a=some q) (new:ObjOk X.prog X.w (upd H a ob) h' a ob) (ht:s.toks<=t':=by first|exact ah _|exact ba _ _|assumption|omega|(dsimp only;omega)) :
  Inv X pins σ (upd H a ob) { s with heap:=h',toks:=t' }:=
 I.write (x:=a) (e:=a) mu (.inl rfl) (fun b q hb z=>(hs.2 b hb).trans z) he new
theorem Qa {P:aI} {w:bp} {H':Hp} {h':Heap} {kvs:List (Key×V)} {vs:List (Key×Value)} (z:kvs.length<=sizeLine) (hd:(a==cV)=false) (rel:KV kvs vs) (dd:h'.DictOf (Ao P w) a vs) :
  ObjOk P w H' h' a (.dK kvs):=⟨z,hd,vs,rel,dd⟩
theorem Vn {H':Hp} {Q:Unit->aj->Prop} (hu:A.units+1<cLine) (I:Inv X pins σ H s) (g:DPut H a y v H') (ry:RelV y u) (rv:RelV v r) (h:∀ s',Inv X pins σ H' s'->Q () s') :
  aJ (model X.prog X.w) A (setItem (.ref a) u r) Q E s:=by
 rcases g with ⟨kvs,k,e,ey,l,eH⟩|⟨kvs,k,b,e,ey,eb,l,eH⟩
 ·subst ey eH
  obtain⟨z,hd,vs,rel,dd⟩:=Yi I.hok e
  have hz:vs.length<=sizeLine:=by rw [<- rel.length];exact z
  have hl:(Cf kvs k v).length<=sizeLine:=by have:=Ce kvs k v;omega
  refine wpAny_setItem_pairs (hsz:=hz) (D4 ry) dd fun h' dd' hs=>h _ ?_
  have he:∃ q,h'.get? a=some q:=let ⟨q,_,_,hq,_⟩:=dd';⟨q,hq⟩
  exact Fw I (by rw [e];exact bD) hs he (Qa hl hd (rel.put k rv) dd')
 ·subst ey eH
  cases (show u=aR b from ry)
  obtain⟨z,hd,xs,rel,dd⟩:=au2 I.hok e
  have hz:xs.length<=sizeLine:=by rw [<- g7 rel];exact z
  have hl:(Cf kvs k v).length<=sizeLine:=by have:=Ce kvs k v;omega
  refine wpAny_setItem_heap (hsz:=hz) (cW hu) (Eh I.hok eb) dd fun h' dd' hs=>h _ ?_
  obtain⟨q,es,ep,hq,h2,h3,h4,_,h5⟩:=dd'
  refine Fw I (by rw [e];exact bD) hs ⟨q,hq⟩ ⟨hl,hd,_,(rel.put k eb rv).keeps fun c ys ec=>?_,q,es,ep,hq,h2,h3,h4,h5⟩
  rw [Ah (ax5 ec e (fun z=>nomatch z))]
  exact ec
end
section
variable {X:Cx} {pins:List (Addr×Obj)} {σ:St} {H:Hp} {s:aj} {a:Addr} {kvs:List (Key×V)} {k:Key} {u:Value} {A:bi} {E:Value->aj->Prop}
theorem bt1 {v:V} {more:List Value} {Q:Value->aj->Prop} (I:Inv X pins σ H s) (e:H a=some (.dK kvs)) (ry:RelV (kV k) u) (l:A6 kvs k=some v) (hm:more=[] \/ ∃ x,more=[x])
  (h:∀ w' s',Inv X pins σ (upd H a (.dK (Oi kvs k))) s'->RelV v w'->Q w' s'):aJ (model X.prog X.w) A (call (.builtin "dict.pop") (.ref a::u::more)) Q E s:=by
 obtain⟨z,hd,vs,rel,dd⟩:=Yi I.hok e
 obtain⟨w',hw,rw'⟩:=RelO.some_of (v:=v) (o:=iU vs k) (by rw [<- l];exact rel.val k)
 have hp:(keyPart u).isSome=true:=by
  cases k with
  | inl i=>obtain⟨t,q⟩:=(show ∃ t,u=j6 i t from ry);subst q;rfl
  | inr x=>obtain⟨t,q⟩:=(show ∃ t,u=gR x t from ry);subst q;rfl
 have ha:argsOk "dict.pop" ⟨.ref a::u::more,[]⟩:=by
  rcases hm with q|⟨x,q⟩
  ·subst q;exact PySem.F.args_dict_pop_2 _ _
  ·subst q;exact PySem.F.args_dict_pop_3 _ _ _
 refine fB j0 dd.typeIs PySem.F.entry_dict_pop ha (meets_dict_pop_there (Ao X.prog X.w) a (D4 ry) more hm hp)
  ⟨vs,w',dd,by rw [<- rel.length];exact z,hw,fun h' dd' hs=>h w' _ ?_ rw'⟩
 have he:∃ q,h'.get? a=some q:=let ⟨q,_,_,hq,_⟩:=dd';⟨q,hq⟩
 exact Fw I (by rw [e];exact bD) hs he (Qa (aL (Yj kvs k) z) hd (rel.drop k) dd')
theorem bt0 {Q:Value->aj->Prop} (I:Inv X pins σ H s) (e:Rd H a (.dK kvs)) (h:∀ t s',Inv X pins σ H s'->Q (.int kvs.length t) s'):aJ (model X.prog X.w) A (call (.builtin "len") [.ref a]) Q E s:=by
 obtain⟨z,hd,vs,rel,dd⟩:=Di I.hok e
 refine call_len_dict hd dd (by rw [<- rel.length];rw [bb] at z;omega) ?_
 rw [<- rel.length]
 exact h _ _ (I.tok _)
end
theorem Oh {X:Cx} {pins:List (Addr×Obj)} {σ:St} {H:Hp} {s:aj} {a:Addr} {y:V} {o:Option V} (I:Inv X pins σ H s) (g:D7 H a y o):s.TypeIs (.ref a) "dict" := by
 rcases g with ⟨kvs,k,e,_,_⟩|⟨kvs,k,b,e,_,_,_⟩
 ·obtain⟨_,_,vs,_,dd⟩:=Di I.hok e
  exact dd.typeIs
 ·obtain⟨_,_,xs,_,dd⟩:=Ib I.hok e
  exact dd.typeIs
section
variable {X:Cx} {o i e value:Expr} {pos pos' tpos:Pos} {td ty tv:TE}
end
theorem Yh {P:aI} {w:bp} {H:Hp} (h:Heap) (hb:cV<h.objs.size):ObjOk P w H (h.push { cls:=.type "dict", data:=.dict #[] }) h.objs.size (.dK []):=
 ⟨bA _,beq_eq_false_iff_ne.mpr (bZ (aH hb)),[],.nil,Heap.DictOf.new h⟩
theorem Yk {P:aI} {w:bp} {H:Hp} (h:Heap) (hb:cV<h.objs.size):ObjOk P w H (h.push { cls:=.type "dict", data:=.dict #[] }) h.objs.size (.dT []):=
 ⟨bA _,beq_eq_false_iff_ne.mpr (bZ (aH hb)),[],.nil,_,#[],0,aw _ rfl,⟨rfl,rfl,rfl⟩,rfl,rfl,dW⟩
section
variable {X:Cx} {pos:Pos}
end
section
variable {X:Cx} {pins:List (Addr×Obj)} {σ:St} {H:Hp} {s:aj} {a:Addr} {y d:V} {u r:Value} {o:Option V} {A:bi} {E:Value->aj->Prop}
theorem a62 {Q:Value->aj->Prop} (hu:A.units+1<cLine) (I:Inv X pins σ H s) (g:D7 H a y o) (ry:RelV y u) (h:∀ w' s',Inv X pins σ H s'->RelV (o.getD .non) w'->Q w' s') :
  aJ (model X.prog X.w) A (call (.builtin "dict.get") [.ref a,u]) Q E s:=by
 rcases g with ⟨kvs,k,e,ey,l⟩|⟨kvs,k,b,e,ey,eb,l⟩
 ·subst ey
  obtain⟨z,hd,vs,rel,dd⟩:=Di I.hok e
  refine fB dN dd.typeIs e_ (jl _ _) (meets_dict_get (Ao X.prog X.w) a (D4 ry) hd) ⟨_,dd.mapOf,h _ _ (I.tok _) ?_⟩
  rw [l]
  exact (rel.val k).getD rfl
 ·subst ey
  cases (show u=aR b from ry)
  obtain⟨z,hd,xs,rel,dd⟩:=Ib I.hok e
  refine fB dN dd.typeIs e_ (jl _ _) (meetsH_dict_get (ir (Ao X.prog X.w)) a b hd) ⟨cW hu,k,xs,Eh I.hok eb,dd,h _ _ (I.tok _) ?_⟩
  rw [l]
  exact (rel.val k).getD rfl
theorem a63 {Q:Value->aj->Prop} (hu:A.units+1<cLine) (I:Inv X pins σ H s) (g:D7 H a y o) (ry:RelV y u) (rd:RelV d r) (h:∀ w' s',Inv X pins σ H s'->RelV (o.getD d) w'->Q w' s') :
  aJ (model X.prog X.w) A (call (.builtin "dict.get") [.ref a,u,r]) Q E s:=by
 rcases g with ⟨kvs,k,e,ey,l⟩|⟨kvs,k,b,e,ey,eb,l⟩
 ·subst ey
  obtain⟨z,hd,vs,rel,dd⟩:=Di I.hok e
  refine fB dN dd.typeIs e_ (jm _ _ _) (meets_dict_get_default (Ao X.prog X.w) a (D4 ry) hd r) ⟨_,dd.mapOf,h _ _ (I.tok _) ?_⟩
  rw [l]
  exact (rel.val k).getD rd
 ·subst ey
  cases (show u=aR b from ry)
  obtain⟨z,hd,xs,rel,dd⟩:=Ib I.hok e
  refine fB dN dd.typeIs e_ (jm _ _ _) (meetsH_dict_get_default (ir (Ao X.prog X.w)) a b hd r) ⟨cW hu,k,xs,Eh I.hok eb,dd,h _ _ (I.tok _) ?_⟩
  rw [l]
  exact (rel.val k).getD rd
end
section
variable {X:Cx} {o e f:Expr} {apos cpos:Pos} {td ty tx:TE}
end
section
variable {X:Cx} {pins:List (Addr×Obj)} {σ:St} {H:Hp} {s:aj} {a:Addr} {kvs:List (Key×V)} {A:bi} {E:Value->aj->Prop}
end
section
variable {X:Cx} {pins:List (Addr×Obj)} {σ:St} {H:Hp} {s:aj} {a:Addr} {y:V} {u:Value} {A:bi} {E:Value->aj->Prop}
end
noncomputable abbrev EK:=Addr->Hp->Prop
noncomputable abbrev DE:=St->Hp->VK->EK->Prop
noncomputable abbrev DT:=St->Hp->(Bool->Hp->Prop)->EK->Prop
noncomputable abbrev DA:=St->Hp->(List V->Hp->Prop)->EK->Prop
structure Ll where
 nx:St->Hp->Prop
 rt:VK
 bk:St->Hp->Prop
 ct:St->Hp->Prop
 ex:St->EK
noncomputable abbrev DS:=Ll->St->Hp->Prop
noncomputable abbrev Ar (C:Addr) (dx:Option Addr) (vs:Array Value):Obj:={ cls:=.ref C,dict:=dx,data:=.fields vs }
noncomputable def Ff (a C:Addr) (dx:Option Addr):HO:=.ext fun h=>∃ vs:Array Value,h.get? a=some (Ar C dx vs)/\vs.size=6/\vs[1]? = some .none/\vs[2]? = some .none
noncomputable def flO (a C:Addr) (dx:Option Addr):HO:=.ext fun h=>∃ vs:Array Value,h.get? a=some (Ar C dx vs)/\vs.size=6/\vs[2]? = some .none
noncomputable def fcO (a C:Addr) (dx:Option Addr):HO:=.ext fun h=>∃ vs:Array Value,h.get? a=some (Ar C dx vs)/\vs.size=6
noncomputable def FlO (H:Hp) (a C:Addr) (dx:Option Addr):Prop:=H a=some (flO a C dx)\/H a=some (fcO a C dx)
noncomputable def xdO (dx:Addr) (fs:List (Str×V)):HO:=.ext fun h=>fs.length<=1000 /\ ∃ mA,h.Ns1 dx mA/\(∀ f,RelO (fs.lookup f) (mA f))/\eI mA (fs.map (·.1))
noncomputable def Wx (X:Cx) (pins:List (Addr×Obj)) (H:Hp) (a:Addr) (s:aj):Prop:=
 ∃ (C:Addr) (dx:Option Addr) (vs:Array Value),FlO H a C dx/\s.heap.get? a=some (Ar C dx vs)/\vs.size=6 /\
  (vs[1]? = some .none \/ ∃ (T:Addr) (oT:Obj) (ts:Array Value),vs[1]? = some (.ref T)/\T≠a/\s.heap.get? T=some oT/\oT.data=.fields ts/\(∃ z,ts[3]? = some z)/\Cr X pins H T)
noncomputable def Meets (X:Cx) (Ex:St->EK):Prop:=
 ∀ (pins:List (Addr×Obj)) (σ:St) (H:Hp) (s:aj) (a:Addr),Inv X pins σ H s->Wx X pins H a s->Ex σ a H->X.xe (.ref a) s
noncomputable def QE (X:Cx) (e:Expr) (t:DE):Prop:=∀ Ex,Meets X Ex->PE X e (fun σ H Q=>t σ H Q (Ex σ))
noncomputable def QT (X:Cx) (e:Expr) (t:DT):Prop:=∀ Ex,Meets X Ex->PT X e (fun σ H Q=>t σ H Q (Ex σ))
noncomputable def QW (X:Cx) (e:Expr) (t:DT):Prop:=∀ Ex,Meets X Ex->PW X e (fun σ H Q=>t σ H Q (Ex σ))
noncomputable def QA (X:Cx) (es:List Expr) (t:DA):Prop:=∀ Ex,Meets X Ex->PA X es (fun σ H Q=>t σ H Q (Ex σ))
noncomputable def by1 (Ex:St->EK) (D:Pq):Ll:=⟨D.nx,D.rt,D.bk,D.ct,Ex⟩
noncomputable def QS (X:Cx) (st:Stmt) (t:DS):Prop:=∀ Ex,Meets X Ex->PS X st (fun D σ H=>t (by1 Ex D) σ H)
noncomputable def QSs (X:Cx) (st:List Stmt) (t:DS):Prop:=∀ Ex,Meets X Ex->PSs X st (fun D σ H=>t (by1 Ex D) σ H)
noncomputable def dNo:DE:=fun _ _ _ _=>False
noncomputable def Ac (i:Nat):DE:=fun σ H Q _=>match σ[i]? with
 | some (some v)=>Q v H
 | _=>False
noncomputable def dC (v:V):DE:=fun _ H Q _=>Q v H
noncomputable def Af (r:R2) (a b:DE):DE:=fun σ H Q E=>a σ H (fun x H1=>b σ H1 (fun y H2=>r x y H2 Q) E) E
noncomputable def dUn (r:V->Hp->VK->Prop) (a:DE):DE:=fun σ H Q E=>a σ H (fun x H1=>r x H1 Q) E
noncomputable def P8 (r r':R2) (a b c:DE):DE:=fun σ H Q E=>a σ H (fun x H1=>b σ H1 (fun y H2=>r x y H2 fun z H3=>match z with
 | .bl k=>if k=true then c σ H3 (fun w H4=>r' y w H4 Q) E else Q (.bl false) H3
 | _=>False) E) E
noncomputable def Hu (a b:DT):DT:=fun σ H Q E=>a σ H (fun k H1=>if k=true then b σ H1 Q E else Q false H1) E
noncomputable def dOr (a b:DT):DT:=fun σ H Q E=>a σ H (fun k H1=>if k=true then Q true H1 else b σ H1 Q E) E
noncomputable def Lx (a:DT):DT:=fun σ H Q E=>a σ H (fun k H1=>Q (!k) H1) E
noncomputable def a61 (t:DT) (a b:DE):DE:=fun σ H Q E=>t σ H (fun k H1=>if k=true then a σ H1 Q E else b σ H1 Q E) E
noncomputable def ag5 (K:ae) (x:V) (H:Hp) (Q:Bool->Hp->Prop):Prop:=match x with
 | .bl k=>Q k H
 | .non=>Q false H
 | .int i=>Q (i != 0) H
 | .str y=>y.length<=sizeLine/\Q ((y.length:Int) != 0) H
 | .ref p=>∃ k,bs6 K (.ref p) H k/\Q k H
 | _=>False
noncomputable def Ku (K:ae) (a b:DE):DE:=fun σ H Q E=>a σ H (fun x H1=>ag5 K x H1 fun k H2=>if k=true then b σ H2 Q E else Q x H2) E
noncomputable def aj9 (K:ae) (a b:DE):DE:=fun σ H Q E=>a σ H (fun x H1=>ag5 K x H1 fun k H2=>if k=true then Q x H2 else b σ H2 Q E) E
noncomputable def at9 (K:ae) (a:DE):DE:=fun σ H Q E=>a σ H (fun x H1=>ag5 K x H1 fun k H2=>Q (.bl (!k)) H2) E
noncomputable def E6 (K:ae) (a:DE):DT:=fun σ H Q E=>a σ H (fun x H1=>ag5 K x H1 Q) E
noncomputable def Bi (a:DE):DT:=fun σ H Q E=>a σ H (fun x H1=>match x with
 | .bl k=>Q k H1
 | _=>False) E
noncomputable def Ae:DA:=fun _ H Q _=>Q [] H
noncomputable def Aa (a:DE) (r:DA):DA:=fun σ H Q E=>a σ H (fun x H1=>r σ H1 (fun xs H2=>Q (x::xs) H2) E) E
noncomputable def Cz (t:DA):DE:=fun σ H Q E=>t σ H (fun xs H1=>xs.length<=sizeLine /\ ∀ p,H1 p=none->Q (.ref p) (upd H1 p (.tup xs))) E
noncomputable def Bt (t:DA):DE:=fun σ H Q E=>t σ H (fun xs H1=>xs.length<=sizeLine /\ ∀ p,H1 p=none->Q (.ref p) (upd H1 p (.lst xs))) E
noncomputable def dFn (r:List V->Hp->VK->EK->Prop) (t:DA):DE:=fun σ H Q E=>t σ H (fun vs H1=>r vs H1 Q E) E
noncomputable def dMt (r:V->Hp->(Hp->(List V->Hp->Prop)->Prop)->VK->Prop) (o:DE) (t:DA):DE:=fun σ H Q E=>o σ H (fun x H1=>r x H1 (fun H2 R=>t σ H2 R E) Q) E
noncomputable def Ai:DS:=fun D σ H=>D.nx σ H
noncomputable def Cg:DS:=fun _ _ _=>False
noncomputable def Ag (t u:DS):DS:=fun D σ H=>t { D with nx:=u D } σ H
noncomputable def A4 (e:DE):DS:=fun D σ H=>e σ H D.rt (D.ex σ)
noncomputable def au0:DS:=fun D _ H=>D.rt .non H
noncomputable def Cc (e:DE):DS:=fun D σ H=>e σ H (fun _ H1=>D.nx σ H1) (D.ex σ)
noncomputable def dIf (c:DT) (t u:DS):DS:=fun D σ H=>c σ H (fun b H1=>if b=true then t D σ H1 else u D σ H1) (D.ex σ)
noncomputable def bs7:DS:=fun D σ H=>D.bk σ H
noncomputable def bs9:DS:=fun D σ H=>D.ct σ H
noncomputable def A3 (i:Nat) (e:DE):DS:=fun D σ H=>e σ H (fun v H1=>D.nx (σ.set i (some v)) H1) (D.ex σ)
noncomputable abbrev DG:=TG
noncomputable def Ed (e:DE) (g:DG):DS:=fun D σ H=>e σ H (fun v H1=>g v σ H1 D.nx) (D.ex σ)
noncomputable abbrev DI:=St->Hp->(It->Hp->Prop)->EK->Prop
noncomputable def Hy (c:DT) (tb:DS):DS:=fun D σ H=>∃ W:Nat->St->Hp->Prop,(∃ m,W m σ H) /\ ∀ m σ H,W m σ H ->
 c σ H (fun b H1=>if b=true then ∃ N:St->Hp->Prop,(∀ σ' H',N σ' H' -> ∃ m',m'<m/\W m' σ' H')/\tb { D with nx:=N,ct:=N,bk:=D.nx } σ H1 else D.nx σ H1) (D.ex σ)
noncomputable def a26 (J:It) (g:DG) (tb:DS) (D:Ll) (σ:St) (H:Hp):Prop:=∃ W:Nat->Nat->St->Hp->Prop,(∃ m,W 0 m σ H) /\ ∀ i m σ H,W i m σ H ->
 (J.stop i H/\D.nx σ H)\/(J.go i H /\ ∃ N:St->Hp->Prop,(∀ σ' H',N σ' H' -> ∃ m',m'<m/\W (i+1) m' σ' H') /\ ∀ x H',J.yld i H x H'->g x σ H' (fun σ2 H2=>tb { D with nx:=N,ct:=N,bk:=D.nx } σ2 H2))
noncomputable def Thaw (H0 H:Hp) (P:Hp->Prop):Prop:=P H \/ ∃ p o kvs,H0 p=some (.dK kvs)/\H p=some (.frz o (.dK kvs))/\P (upd H p (.dK kvs))
noncomputable def E5 (wi:DI) (g:DG) (tb:DS):DS:=fun D σ H=>wi σ H (fun J H1=>a26 J g tb { D with nx:=fun σ' H'=>Thaw H H' (D.nx σ') } σ H1) (D.ex σ)
noncomputable def ah8 (J:It) (g:DG) (tc:DT) (te:DE) (D:Addr) (R:Hp->Prop) (σ:St) (H:Hp) (E:EK):Prop:=
 ∃ W:Nat->Nat->St->Hp->Prop,(∃ m,W 0 m σ H) /\ ∀ i m σ' H',W i m σ' H' ->
  (J.stop i H'/\R H')\/(J.go i H' /\ ∃ N:St->Hp->Prop,(∀ σ2 H2,N σ2 H2 -> ∃ m',m'<m/\W (i+1) m' σ2 H2) /\ ∀ x H2,J.yld i H' x H2->g x σ' H2 (fun σ3 H3=>tc σ3 H3 (fun b H4=>if b=true then
    te σ3 H4 (fun v H5=>∃ ys,H5 D=some (.lst ys)/\ys.length<sizeLine/\N σ3 (upd H5 D (.lst (ys++[v])))) E
   else N σ3 H4) E))
noncomputable def Cy (srcs:List (Option Nat)) (wi:DI) (g:DG) (tc:DT) (te:DE):DE:=fun σ H Q E=>wi σ H (fun J H1=>∀ D,H1 D=none->ah8 J g tc te D (fun H'=>Q (.ref D) H') (Vk srcs σ) (upd H1 D (.lst [])) E) E
noncomputable def E7:DT:=fun _ H Q _=>Q true H
noncomputable def gdN (i:Nat):DG:=fun v σ H Q=>Q (σ.set i (some v)) H
end L2
namespace L2
open PySem PySem.Spec PyProof.Rows PySem.W
section
variable {prog:aI} {w:bp} {A:bi} {E:Value->aj->Prop} {s:aj} {K:ae} {x C:Addr} {ox:Obj} {od:Option Obj} {name:Str} {expr:Bool} {Q:Value->aj->Prop}
theorem Oa (self:Value):jr (.builtin "BaseException.__getattribute__") self=pure (.builtin "BaseException.__getattribute__", [self]):=by
 have hop:withoutEnding? "BaseException.__getattribute__" "#opaque" = none:=by decide +kernel
 have hdat:withoutEnding? "BaseException.__getattribute__" "#data" = none:=by decide +kernel
 have hk:builtinKind "BaseException.__getattribute__" = some .slot:=by decide +kernel
 simp only [jr,typeOf,builtinType,hop,hdat,hk];rfl
theorem ak9 {v:Value} (X:K.In s.heap) (I:fQ s.heap x ox C od) (hga:aq K (.ref C) "__getattribute__" = some (some (.builtin "BaseException.__getattribute__"))) (hgt:aq K (.ref C) "__getattr__" = some none)
  (hB:lE K C (.type "BaseException")=some true) (hf:PySem.W.findObj K C od name=some (.value v)) (hh:fV v=true) (h:Q v { s with toks:=s.toks+1 }) :
  aJ (model prog w) A (k9 (.ref x) name expr) Q E s:=by
 obtain⟨hp,g,d,t,os⟩:=s
 have L0:=I.type (M:=model prog w)
 have L1:=c8 (M:=model prog w) X hga
 have L2:=c8 (M:=model prog w) X hgt
 have L3:=lC (M:=model prog w) X I hf
 have L4:=kT (M:=model prog w) X hB
 unfold k9 getAttrBy
 refine af (wpAny_mkText (bw (af (L0.at (af (L1.at ?_))))))
 have hx2:(dm "BaseException.__getattribute__" == dm "object.__getattribute__")=false:=by decide +kernel
 have hx1:(mo (aR C)&&dm "BaseException.__getattribute__" == dm "object.__getattribute__")=false:=by rw [hx2];rfl
 dsimp only
 rw [hx1,if_neg ar]
 unfold getAttrByItsOwn
 refine af (show aJ _ _ (gh (.ref C) "__getattr__") _ _ _ from L2.at ?_)
 refine af (gx (bw ?_))
 have hx0:(expr&&mo (dm "BaseException.__getattribute__"))=false:=by cases expr <;> rfl
 unfold callGetattribute
 rw [hx0,if_neg ar]
 unfold boundAndCalled
 rw [Oa]
 refine af (ak ?_)
 refine dJ (c9 (by decide +kernel) F.entry_bexc_ga (check_slot (i := "BaseException.__getattribute__") (owner := "BaseException") (n := "__getattribute__") (by decide +kernel) (by decide +kernel) (L0.andThen L4) (F.args_bexc_ga _ _) ?_))
 unfold aS.«object.__getattribute__»
 refine af (ak (af (ak (af (L0.at (af (L3.at ?_)))))))
 refine ak ?_
 show aJ _ _ (handedOut v) _ _ _
 rw [kA hh]
 exact ak h
end
end L2
namespace L2
open PySem PySem.Spec PyProof.Rows PySem.W Builtin Builtin.ObjectAttr
noncomputable def A2:List Value->Bool
 | [.type a,.type b,.type c,.type d]=>a == "ValueError" && b == "Exception" && c == "BaseException" && d == "object"
 | .ref _::r=>A2 r
 | _=>false
noncomputable def valTail:List Value:=[.type "ValueError", .type "Exception", .type "BaseException", .type "object"]
theorem Q9 (self:Value):refuseLoop self "__setattr__" valTail=pure ():=by kernel_rfl
theorem C9:∀ {l:List Value},A2 l=true -> ∃ rs:List Addr,l=rs.map aR++valTail
 | [.type a,.type b,.type c,.type d],e=>by
  have e:(a == "ValueError" && b == "Exception" && c == "BaseException" && d == "object")=true:=e
  simp only [aA,beq_iff_eq] at e
  obtain⟨⟨⟨rfl,rfl⟩,rfl⟩,rfl⟩:=e
  exact⟨[],rfl⟩
 | .ref a::r,e=>by
  have e:A2 r=true:=by cases r <;> first|exact e|cases e
  obtain⟨rs,h⟩:=C9 e
  exact⟨a::rs,by rw [h];rfl⟩
theorem Q8 (self:Value) (rs:List Addr):refuseLoop self "__setattr__" (rs.map aR++valTail)=pure ():=by
 induction rs with
 | nil=>exact Q9 self
 | cons a r ih=>rw [aK,cx,refuseLoop_ref];exact ih
theorem Pj (rs:List Addr) {T:String} (h:valTail.contains (.type T)=true):(rs.map aR++valTail).contains (.type T)=true:=by
 induction rs with
 | nil=>exact h
 | cons a r ih=>rw [aK,cx,cF,ih,iD]
section
variable {prog:aI} {w:bp} {A:bi} {s:aj} {K:ae} {x C:Addr} {R:kG->aj->Prop}
theorem K8 {ox:Obj} {od:Option Obj} {name:Str} {tk:Tok} {v:Value} {cd:ClassData} (X:K.In s.heap) (I:fQ s.heap x ox C od) (hc:clsIn K C=some cd) (hp:A2 cd.mro=true) (ht:findIn K (.ref C) name=some none)
  (h:aJ (model prog w) A.in1 (storeInOwnDict (.ref x) (.ref C) (.str name tk) name v false)
   (fun fin s'=>match fin with | .done f=>R (.ok f) s' | .again c'=>c'.quiet=true/\eU (model prog w) A c' R s') (fun e s'=>R (.error e) s') s) :
  eU (model prog w) A (.call (.builtin "object.__setattr__") ⟨[.ref x,.str name tk,v],[]⟩) R s:=by
 have SF:=PySem.F.store_object
 obtain⟨rs,hm⟩:=C9 hp
 have ne:cd.mro.isEmpty=false:=by rw [hm];cases rs <;> rfl
 have sub:Looks (model prog w) s.heap (je (.ref x) (.type "object")) true:=I.type.andThen (looks_mroIn X (by unfold mroIn;rw [hc,cZ,if_neg (by rw [ne];decide),hm,Pj rs (by decide +kernel)]))
 refine c9 SF.slot.plain SF.entry (@check_slot (model prog w) _ _ s "object.__setattr__" "object" "__setattr__" (.ref x) [.str name tk,v] [] _ SF.kind SF.split sub (SF.args (.ref x) (.str name tk) v) ?_)
 have hmr:Looks (model prog w) s.heap (mroOf (.ref C)) cd.mro:=(looks_clsIn X hc).andThen .now
 rw [osa_eq,refuse_eq]
 refine af (af (I.type.here (af (hmr.here ?_))))
 rw [hm,Q8]
 refine ak (af (I.type.here (af ((looks_findIn X ht).here (af (ak ?_))))))
 exact h
end
section
variable {prog:aI} {w:bp} {A:bi} {E:Value->aj->Prop} {s:aj} {K:ae} {x dx C f:Addr} {mA:Str->Option Value} {name:Str} {v:Value} {vs:Array Value}
theorem ar7 {ns:List Str} {Q:Unit->aj->Prop} {cd:ClassData} (X:K.In s.heap) (hx:s.heap.get? x=some (Ar C (some dx) vs)) (hn:s.heap.Ns1 dx mA) (hne:dx≠x)
  (hs:findIn K (.ref C) "__setattr__" = some (some (.builtin "object.__setattr__"))) (hc:clsIn K C=some cd) (hp:A2 cd.mro=true) (hd':cd.hasDict=true) (ht:findIn K (.ref C) name=some none)
  (hw:eI mA ns) (hsz:ns.length<=sizeLine)
  (h:∀ h',h'.get? x=some (Ar C (some dx) vs)->h'.Ns1 dx (fun y=>if y=name then some v else mA y)->br dx s.heap h'->Q () { s with heap:=h',toks:=s.toks+2 }) :
  aJ (model prog w) A (mr (.ref x) name v) Q E s:=by
 obtain⟨od,ho,hl⟩:=Gr hn
 have J:fQ s.heap x (Ar C (some dx) vs) C (some od):=⟨hx,rfl,rfl,ho⟩
 refine set_plain X J hs (K8 (s:={ s with toks:=s.toks+1 }) X J hc hp ht ?_)
 refine af (ak (af (af (iX hx (af (Looks.here (s:={ s with toks:=s.toks+1 }) (looks_clsIn X hc) ?_))))))
 rw [hd']
 refine ak (a:=some dx) (af (ak (af ?_)))
 refine l_ (s:={ s with toks:=s.toks+1 }) hn fun h' hn2 hs2=>?_
 obtain⟨oD,esD,epD,hoD,hdD,hcD⟩:=hn2.count (PySem.Within.cons name v hw)
 refine af (jE hoD (by rw [hdD];exact jC (aL hcD (by rw [aP];omega))) ?_)
 exact ak (h _ ((hs2.2 _ (bZ hne)).trans hx) hn2 hs2)
theorem ad8 {Q:Unit->aj->Prop} {cd:ClassData} (X:K.In s.heap) (hx:s.heap.get? x=some (Ar C none vs))
  (hs:findIn K (.ref C) "__setattr__" = some (some (.builtin "object.__setattr__"))) (hc:clsIn K C=some cd) (hp:A2 cd.mro=true) (hd':cd.hasDict=true) (ht:findIn K (.ref C) name=some none)
  (h:∀ h',h'.get? x=some (Ar C (some s.heap.objs.size) vs)->h'.Ns1 s.heap.objs.size (fun y=>if y=name then some v else none)->(∀ b o,b≠x->s.heap.get? b=some o->h'.get? b=some o)->Q () { s with heap:=h',toks:=s.toks+2 }) :
  aJ (model prog w) A (mr (.ref x) name v) Q E s:=by
 have J:fQ s.heap x (Ar C none vs) C none:=⟨hx,rfl,rfl,bD⟩
 refine set_plain X J hs (K8 (s:={ s with toks:=s.toks+1 }) X J hc hp ht ?_)
 refine af (ak (af (af (iX hx (af (Looks.here (s:={ s with toks:=s.toks+1 }) (looks_clsIn X hc) ?_))))))
 rw [hd']
 rw [if_neg (by decide)]
 refine af (wpAny_alloc (af (wpAny_update (ag _ hx) ?_)))
 refine ak (a:=some s.heap.objs.size) (af (ak (af ?_)))
 have e1:(s.heap.push emptyDict).get? s.heap.objs.size=some emptyDict:=aw s.heap rfl
 have hne:x≠s.heap.objs.size:=aH (aF hx)
 have e2:((s.heap.push emptyDict).update x fun o=>{ o with dict:=some s.heap.objs.size }).get? s.heap.objs.size=some emptyDict:=by rw [aW _ _ hne];exact e1
 have e3:((s.heap.push emptyDict).update x fun o=>{ o with dict:=some s.heap.objs.size }).get? x=some (Ar C (some s.heap.objs.size) vs):=bz _ (ag _ hx) rfl
 have n0:((s.heap.push emptyDict).update x fun o=>{ o with dict:=some s.heap.objs.size }).Ns s.heap.objs.size (fun _=>none):=⟨emptyDict,#[],_,e2,rfl,(fun e he=>absurd he (by simp)),fun _=>rfl⟩
 refine l_ (s:={ s with heap:=(s.heap.push emptyDict).update x fun o=>{ o with dict:=some s.heap.objs.size },toks:=s.toks+1 }) (Heap.Ns1.of_empty n0) fun h' hn2 hs2=>?_
 obtain⟨oD,esD,epD,hoD,hdD,hcD⟩:=hn2.count (ns:=[name]) (fun y hy=>by
  by_cases e:y=name
  ·rw [e];simp
  ·exact absurd (by rw [if_neg e]) hy)
 refine af (jE hoD (by rw [hdD];exact jC (aL hcD (by show 1<=sizeLine+1;decide))) ?_)
 refine ak (h _ ((hs2.2 _ hne).trans e3) hn2 fun b o hb e=>?_)
 have hbs:b≠s.heap.objs.size:=aH (aF e)
 refine (hs2.2 b hbs).trans ?_
 show ((s.heap.push emptyDict).update x _).get? b=some o
 rw [aW _ _ (bZ hb)]
 exact ag _ e
end
end L2
namespace L2
open PySem PySem.Spec PySem.W Builtin Builtin.ObjectAttr
open Sem (wp)
structure ECls (K:ae) (C:Addr):Prop where
 obj:∃ nm q N bs bm hdct sn sub ab col dd k0 k1 k2 k3 k5,K.lookup C=some (fC nm q C N bs bm hdct sn sub ab col dd k0 k1 k2 k3 k5 "ValueError.__new__")/\A2 bm=true/\hdct=true
 sa:findIn K (.ref C) "__setattr__" = some (some (.builtin "object.__setattr__"))
 ga:findIn K (.ref C) "__getattribute__" = some (some (.builtin "BaseException.__getattribute__"))
 gt:findIn K (.ref C) "__getattr__" = some none
 ca:findIn K (.ref C) "__class__" = some (some (.builtin "object.__class__"))
 hn:specialIn K (.builtin "object.__class__") "__get__" = some (some (.builtin "getset_descriptor.__get__"))
 htk:takesIn K (.builtin "object.__class__")=some true
theorem Cd {bm:List Value} (h:A2 bm=true) {T:String} {b:Bool} (hb:valTail.contains (.type T)=b):bm.contains (.type T)=b:=by
 obtain⟨rs,rfl⟩:=C9 h
 induction rs with
 | nil=>exact hb
 | cons a r ih=>
  have h':A2 (r.map aR++valTail)=true:=by
   cases r <;> exact h
  rw [aK,cx,cF,ih h']
  rfl
section
variable {M:Model} {A:bi} {E:Value->aj->Prop} {h:Heap} {g:Array iF} {d:Drawn} {t:Nat} {os:OsState}
variable {nm q:Str} {C N:Addr} {bs bm:List Value} {hdct:Bool} {sn:List Str} {sub:List Value} {ab:Bool} {col:Option Bool} {dd:Option Addr} {k0 k1 k2 k3 k5:Option Value}
theorem Dk (T:A2 bm=true) {rest:List Value} {Q:Unit->aj->Prop} (hC:h.get? C=some (fC nm q C N bs bm hdct sn sub ab col dd k0 k1 k2 k3 k5 "ValueError.__new__"))
  (hq:Q () ⟨h,g,d,t,os⟩):aJ M A (fW "ValueError.__new__" ⟨.ref C::rest,[]⟩) Q E ⟨h,g,d,t,os⟩:=by
 have F:=dG
 have hcont:(aR C::bm).contains (.type "ValueError")=true:=by rw [cF,Cd T (show valTail.contains (.type "ValueError")=true by decide +kernel),iD]
 have hstar:=F.noStar
 simp only [fW,F.newKind,F.newSplit,F.newRow]
 repeat (first|refine bW hC ?_|(refine dF hC ?_;rw [hcont])|refine wpAny_staticBase_exc hC ?_|refine jF hC ?_|simp only [bne_self_eq_false,cC,if_false] | wp_step)
 exact hq
end
section
variable {prog:aI} {w:bp} {A:bi} {R:kG->aj->Prop} {h:Heap} {g:Array iF} {d:Drawn} {t:Nat} {os:OsState}
variable {nm q:Str} {C N:Addr} {bs bm:List Value} {hdct:Bool} {sn:List Str} {sub:List Value} {ab:Bool} {col:Option Bool} {dd:Option Addr} {k0 k1 k2 k3 k5:Option Value}
theorem Dh (T:A2 bm=true) {rest:List Value} (hC:h.get? C=some (fC nm q C N bs bm hdct sn sub ab col dd k0 k1 k2 k3 k5 "ValueError.__new__"))
  (hq:R (.ok (.ret (.ref (h.objs.size+1)))) ⟨(h.push { cls:=.type "tuple", data:=.seq rest.toArray }).push
   {cls:=.ref C,data:=.fields #[.ref h.objs.size,.none,.none,.none,.bool false,.none] },g,d,t,os⟩) (hrest:rest.length<=sizeLine) :
  eU (model prog w) A (.builtin "ValueError.__new__" ⟨.ref C::rest,[]⟩) R ⟨h,g,d,t,os⟩:=by
 have F:=dG
 have hends:=F.ends
 have hcB:(aR C::bm).contains (.type "ValueError")=true:=by rw [cF,Cd T (show valTail.contains (.type "ValueError")=true by decide +kernel),iD]
 have hcA:(aR C::bm).contains (.type "AttributeError")=false:=by rw [cF,Cd T (show valTail.contains (.type "AttributeError")=false by decide +kernel)];rfl
 have hcN:(aR C::bm).contains (.type "NameError")=false:=by rw [cF,Cd T (show valTail.contains (.type "NameError")=false by decide +kernel)];rfl
 refine codeAny_builtinAt F.entry ?_
 unfold aS.«BaseException.__new__»
 refine wpAt_bind ?_
 show wpAt _ _ _ (stack >>= _) _ _ _
 refine wpAt_bind (wpAt_stack fun p below=>wpAt_of_wpAny ?_)
 wp_walk
 refine wpAt_of_wpAny ?_
 rw [F.owner]
 repeat (first|with_reducible refine wpAny_madeHere_exc F.canon hC ?_|with_reducible refine bW hC ?_|(with_reducible refine dF hC ?_;first|rw [hcB] | rw [hcA] | rw [hcN])|wp_step)
 show R _ _
 rw [cB]
 exact hq
end
end L2
namespace L2
open PySem PySem.Spec PySem.W Builtin Builtin.ObjectAttr
open Sem (wp)
section
variable {prog:aI} {w:bp} {A:bi} {E:Value->aj->Prop} {h:Heap} {g:Array iF} {d:Drawn} {t:Nat} {os:OsState}
variable {nm q:Str} {C N f:Addr} {bs bm:List Value} {hdct:Bool} {sn:List Str} {sub:List Value} {ab:Bool} {col:Option Bool} {dd:Option Addr} {k0 k1 k2 k3 k5:Option Value}
noncomputable abbrev Ch (h:Heap) (C:Addr) (rest:List Value):Heap:=(h.push { cls:=.type "tuple", data:=.seq rest.toArray }).push { cls:=.ref C,data:=.fields #[.ref h.objs.size,.none,.none,.none,.bool false,.none] }
theorem Gi (T:A2 bm=true) {rest:List Value} {Q:Fin->aj->Prop}
  (hC:h.get? C=some (fC nm q C N bs bm hdct sn sub ab col dd k0 k1 k2 k3 k5 "ValueError.__new__"))
  (hi:Looks (model prog w) h (gh (.ref C) "__init__") (some (.ref f))) (hb:∀ self,Looks (model prog w) h (jr (.ref f) self) (.ref f,[self]))
  (hq:aJ (model prog w) A (call (.ref f) (.ref (h.objs.size+1)::rest)) (fun v s'=>v=.none/\Q (.done (.ret (.ref (h.objs.size+1)))) s') E ⟨Ch h C rest,g,d,t,os⟩) (hrest:rest.length<=sizeLine) :
  aJ (model prog w) A (aS.«type.__call__» ⟨.ref C::rest,[]⟩) Q E ⟨h,g,d,t,os⟩:=by
 have F:=dG
 repeat (first|with_reducible refine bW hC ?_|with_reducible refine jF hC ?_|wp_step)
 refine iR (cT _ F.quiet) (Dk T hC ?_)
 refine Dh T hC ?_ hrest
 show aJ _ _ _ _ _ _
 have kp:∀ b o,h.get? b=some o->(Ch h C rest).get? b=some o:=fun b o e=>ag _ (ag _ e)
 have hC₁:=kp _ _ hC
 have hget:(Ch h C rest).get? (h.objs.size+1)=some { cls:=.ref C,data:=.fields #[.ref h.objs.size,.none,.none,.none,.bool false,.none] }:=by heap_get
 have hcC:(aR C::bm).contains (.ref C)=true:=by simp
 unfold je
 repeat (first|with_reducible refine bW hget ?_|(with_reducible refine dF hC₁ ?_;rw [hcC])|wp_step)
 show aJ _ _ (gh (.ref C) _) _ _ _
 refine (hi.keeps kp).at ?_
 refine bw (af (((hb _).keeps kp).at ?_))
 refine af (b6 hq (fun v s' z=>?_) fun _ _ z=>z)
 obtain⟨rfl,z⟩:=z
 exact ak (ak z)
theorem Y8 (T:A2 bm=true) {rest:List Value} {R:kG->aj->Prop}
  (hC:h.get? C=some (fC nm q C N bs bm hdct sn sub ab col dd k0 k1 k2 k3 k5 "ValueError.__new__"))
  (hi:Looks (model prog w) h (gh (.ref C) "__init__") (some (.ref f))) (hb:∀ self,Looks (model prog w) h (jr (.ref f) self) (.ref f,[self]))
  (hq:eU (model prog w) (A.under (.builtin "type.__call__" ⟨.ref C::rest,[]⟩)) (.call (.ref f) ⟨.ref (h.objs.size+1)::rest,[]⟩) (InitBack (h.objs.size+1) R) ⟨Ch h C rest,g,d,t,os⟩) (hrest:rest.length<=sizeLine) :
  eU (model prog w) A (.call (.ref C) ⟨rest,[]⟩) R ⟨h,g,d,t,os⟩:=by
 have f1:=tc_lookup
 have f2:=tc_bind (.ref C)
 have hT:(⟨h,g,d,t,os⟩:aj).TypeIs (.ref C) "type" := ⟨_,hC,rfl⟩
 refine il ?_
 show aJ _ _ (callAny (.ref C) _) _ _ _
 repeat (any_goals (first|assumption|with_reducible refine bW hC ?_|wp_step))
 refine⟨rfl,?_⟩
 refine js (cT _ (by decide +kernel)) entry_typeCall (iW hC (Gi T hC hi hb (dJ (eJ hq fun r s' z=>?_)) hrest))
 rcases r with e|(v|_|_|_) <;> first|exact z|exact z.elim
theorem Fp (T:A2 bm=true) {rest:List Value} {Q:Fin->aj->Prop}
  (hC:h.get? C=some (fC nm q C N bs bm hdct sn sub ab col dd k0 k1 k2 k3 k5 "ValueError.__new__"))
  (hi:Looks (model prog w) h (gh (.ref C) "__init__") (some (.builtin "ValueError.__init__")))
  (hq:∀ h' e,Heap.MadeExcOf h h' e (.ref C) rest->e=h.objs.size+1->Q (.done (.ret (.ref e))) ⟨h',g,d,t,os⟩) (hrest:rest.length<=sizeLine) :
  aJ (model prog w) A (aS.«type.__call__» ⟨.ref C::rest,[]⟩) Q E ⟨h,g,d,t,os⟩:=by
 have F:=dG
 repeat (first|with_reducible refine bW hC ?_|with_reducible refine jF hC ?_|wp_step)
 refine iR (cT _ F.quiet) (Dk T hC ?_)
 refine Dh T hC ?_ hrest
 show aJ _ _ _ _ _ _
 have kp:∀ b o,h.get? b=some o->(Ch h C rest).get? b=some o:=fun b o e=>ag _ (ag _ e)
 have hC₁:=kp _ _ hC
 have hget:(Ch h C rest).get? (h.objs.size+1)=some { cls:=.ref C,data:=.fields #[.ref h.objs.size,.none,.none,.none,.bool false,.none] }:=by heap_get
 have hcC:(aR C::bm).contains (.ref C)=true:=by simp
 have hcB:(aR C::bm).contains (.type "ValueError")=true:=by rw [cF,Cd T (show valTail.contains (.type "ValueError")=true by decide +kernel),iD]
 unfold je
 repeat (first|with_reducible refine bW hget ?_|(with_reducible refine dF hC₁ ?_;rw [hcC])|wp_step)
 show aJ _ _ (gh (.ref C) _) _ _ _
 refine (hi.keeps kp).at ?_
 refine bw (af (mC (F.init.bind _) ?_))
 have chk:∀ {Q':Unit->aj->Prop} {E':Value->aj->Prop} {A':bi},Q' () ⟨Ch h C rest,g,d,t,os⟩->aJ (model prog w) A' (fW "ValueError.__init__" ⟨.ref (h.objs.size+1)::rest,[]⟩) Q' E' ⟨Ch h C rest,g,d,t,os⟩:=fun {Q' E' A'} hq'=>by
  have hshort:=F.noStar
  simp only [fW,F.initKind,F.initSplit,F.initRow]
  repeat (first|with_reducible refine bW hget ?_|with_reducible refine bW hC₁ ?_|(with_reducible refine dF hC₁ ?_;rw [hcB])|wp_step)
  refine wpAny_onRaise ?_
  rw [show ∀ (a b:String) (n:Nat),Bind.check ⟨.positional, "*", "ValueError", .self,[⟨"args", .varPos,false⟩]⟩ a b n (iG (fun x=>x.fst) ({ pos:=aR (h.objs.size+1)::rest }:Args).kw)=pure () from
   fun a b n=>check_star_args _ _ _ _ _ _]
  exact ak hq'
 refine af (dJ (c9 F.init.plain F.initEntry (chk ?_)))
 wp_walk
 refine hq _ _ ⟨fun b o hb=>?_,gX (cq _),h.objs.size+2,?_,gX (by omega),?_⟩ rfl
 ·rw [aW _ _ (dM (fH (aF hb)))]
  exact ag _ (ag _ (ag _ hb))
 ·rw [bz _ (ag _ hget) rfl]
  simp only [cB]
  rfl
 ·rw [aW _ _ (show h.objs.size+1≠h.objs.size+2 by omega)]
  exact Heap.get?_push_at (by simp only [cB]) rfl
theorem V3 (T:A2 bm=true) {rest:List Value} {R:kG->aj->Prop}
  (hC:h.get? C=some (fC nm q C N bs bm hdct sn sub ab col dd k0 k1 k2 k3 k5 "ValueError.__new__"))
  (hi:Looks (model prog w) h (gh (.ref C) "__init__") (some (.builtin "ValueError.__init__")))
  (hq:∀ h' e,Heap.MadeExcOf h h' e (.ref C) rest->e=h.objs.size+1->R (.ok (.ret (.ref e))) ⟨h',g,d,t,os⟩) (hrest:rest.length<=sizeLine) :
  eU (model prog w) A (.call (.ref C) ⟨rest,[]⟩) R ⟨h,g,d,t,os⟩:=by
 have f1:=tc_lookup
 have f2:=tc_bind (.ref C)
 have hT:(⟨h,g,d,t,os⟩:aj).TypeIs (.ref C) "type" := ⟨_,hC,rfl⟩
 refine il ?_
 show aJ _ _ (callAny (.ref C) _) _ _ _
 repeat (any_goals (first|assumption|with_reducible refine bW hC ?_|wp_step))
 refine⟨rfl,?_⟩
 exact js (cT _ (by decide +kernel)) entry_typeCall (iW hC (Fp T hC hi hq hrest))
end
end L2
namespace L2
open PySem PySem.Spec PySem.W PyProof.Rows
theorem ECls.cls {K:ae} {C:Addr} (c:ECls K C):∃ cd,clsIn K C=some cd/\A2 cd.mro=true/\cd.hasDict=true:=by
 obtain⟨nm,q,N,bs,bm,hdct,sn,sub,ab,col,dd,k0,k1,k2,k3,k5,hl,ht,hd⟩:=c.obj
 refine⟨_,by unfold clsIn;rw [hl],?_,hd⟩
 obtain⟨rs,e⟩:=C9 ht
 show A2 (aR C::bm)=true
 rw [e]
 clear e
 show A2 (iG aR (C::rs)++valTail)=true
 have:∀ l:List Addr,A2 (iG aR l++valTail)=true:=fun l=>by
  induction l with
  | nil=>decide +kernel
  | cons a r ih=>cases r <;> exact ih
 exact this _
theorem ECls.sub {K:ae} {C:Addr} (c:ECls K C) {T:String} (h:valTail.contains (.type T)=true):mroIn K C (.type T)=some true:=by
 obtain⟨cd,h1,h2,_⟩:=c.cls
 obtain⟨rs,e⟩:=C9 h2
 unfold mroIn
 rw [h1,cZ,e,Pj rs h,if_neg]
 cases rs <;> exact ar
section
variable {prog:aI} {w:bp} {A:bi} {E:Value->aj->Prop} {s:aj} {K:ae} {x C:Addr} {ox:Obj} {od:Option Obj} {name:Str}
theorem Yt {g a v:Value} {Q:Option Value->aj->Prop} (X:K.In s.heap) (I:fQ s.heap x ox C od) (hga:aq K (.ref C) "__getattribute__" = some (some (.builtin "BaseException.__getattribute__"))) (hgt:aq K (.ref C) "__getattr__" = some none)
  (hB:lE K C (.type "BaseException")=some true) (hf:PySem.W.findObj K C od name=some (.bind g a)) (hh:fV v=true)
  (h:∀ {A':bi} {R:kG->aj->Prop},R (.ok (.ret v)) { s with toks:=s.toks+1 }->eU (model prog w) A' (.call g ⟨[a,.ref x,.ref C],[]⟩) R { s with toks:=s.toks+1 }) (hq:Q (some v) { s with toks:=s.toks+1 }) :
  aJ (model prog w) A (getAttr? (.ref x) name) Q E s:=by
 obtain⟨hp,gg,d,t,os⟩:=s
 have L0:=I.type (M:=model prog w)
 have L1:=c8 (M:=model prog w) X hga
 have L2:=c8 (M:=model prog w) X hgt
 have L3:=lC (M:=model prog w) X I hf
 have L4:=kT (M:=model prog w) X hB
 unfold getAttr? getAttrBy? getAttrBy
 refine af (wpAny_mkText (af (gx (bw (af (L0.at (af (L1.at ?_))))))))
 have hx2:(dm "BaseException.__getattribute__" == dm "object.__getattribute__")=false:=by decide +kernel
 have hx1:(mo (aR C)&&dm "BaseException.__getattribute__" == dm "object.__getattribute__")=false:=by rw [hx2];rfl
 dsimp only
 rw [hx1,if_neg ar]
 unfold getAttrByItsOwn
 refine af (show aJ _ _ (gh (.ref C) "__getattr__") _ _ _ from L2.at ?_)
 refine af (gx (bw ?_))
 have hx0:(false&&mo (dm "BaseException.__getattribute__"))=false:=rfl
 unfold callGetattribute
 rw [hx0,if_neg ar]
 unfold boundAndCalled
 rw [Oa]
 refine af (ak ?_)
 refine dJ (c9 (by decide +kernel) F.entry_bexc_ga (check_slot (i := "BaseException.__getattribute__") (owner := "BaseException") (n := "__getattribute__") (by decide +kernel) (by decide +kernel) (L0.andThen L4) (F.args_bexc_ga _ _) ?_))
 unfold aS.«object.__getattribute__»
 refine af (ak (af (ak (af (L0.at (af (L3.at ?_)))))))
 refine af (bw (dJ (h ?_)))
 refine ak ?_
 show aJ _ _ (handedOut v) _ _ _
 rw [kA hh]
 exact ak (ak hq)
theorem Kd {a g:Value} (hc:(clsIn K C).isSome=true) (ha:findIn K (.ref C) name=some (some a)) (hg:specialIn K a "__get__" = some (some g)) (ht:takesIn K a=some true):findObj K C od name=some (.bind g a):=by
 obtain⟨cd,hc⟩:=Option.isSome_iff_exists.mp hc
 unfold findObj
 rw [hc,cZ,ha,cZ]
 simp [hg,ht]
theorem Vp {Q:Option Value->aj->Prop} (c:ECls K C) (X:K.In s.heap) (I:InstAt s.heap x ox C od) (h:Q (some (.ref C)) { s with toks:=s.toks+1 }):aJ (model prog w) A (getAttr? (.ref x) "__class__") Q E s:=by
 have hf:findObj K C od "__class__" = some (.bind (.builtin "getset_descriptor.__get__") (.builtin "object.__class__")):=Kd (by obtain⟨cd,hc,_⟩:=c.cls;rw [hc];rfl) c.ca c.hn c.htk
 exact Yt (v:=.ref C) X I c.ga c.gt (c.sub (by decide +kernel)) hf rfl (fun q=>class_get (s:={ s with toks:=s.toks+1 }) (ox:=ox) (od:=od) X I (c.sub (by decide +kernel)) q) h
end
theorem Y3 {K:ae} {x D:Addr} (c:ECls K D):KitX K (.ref x) (.ref D) (fun h=>∃ ox od,InstAt h x ox D od) where
 ty:=fun _ _ _ ⟨_,_,I⟩=>I.type
 it:=fun _ _ X _=>by
  obtain⟨cdD,hcD,_⟩:=c.cls
  unfold clsIn at hcD
  split at hcD
  ·rename_i c' d' cd' sl' ho
   intro A' Q' E' s' k q
   unfold isType loadHead
   exact af (iX (k _ _ (X _ _ ho)) (ak q))
  ·cases hcD
 ne:=fun h tp dd its n sl X htp=>by
  obtain⟨cdD,hcD,_⟩:=c.cls
  refine Bool.eq_false_iff.mpr fun q=>?_
  have e:D=tp:=Value.ref.inj (beq_iff_eq.mp q)
  subst e
  unfold clsIn at hcD
  split at hcD
  ·rename_i c' d' cd' sl' ho
   have z:=(X _ _ ho).symm.trans htp
   cases z
  ·cases hcD
 ca:=fun X ⟨_,_,I⟩ k=>Vp c X I k
noncomputable def ExcAt (H:Hp) (a C:Addr) (fs:List (Str×V)):Prop:=(fs=[]/\(H a=some (Ff a C none)\/FlO H a C none)) \/ ∃ dx,dx≠a/\(H a=some (Ff a C (some dx))\/FlO H a C (some dx))/\H dx=some (xdO dx fs)
inductive TyX (K:ae) (H:Hp) (x:V) (t:Value):Prop where
 | of (h:TyOf K H x t)
 | exc {a C:Addr} {fs:List (Str×V)} (ex:x=.ref a) (e:ExcAt H a C fs) (c:ECls K C) (et:t=.ref C)
 | sqT {a:Addr} {xs:List V} (ex:x=.ref a) (e:SqT K H a xs) (et:t=.type "tuple")
 | sqL {a:Addr} {xs:List V} (ex:x=.ref a) (e:SqL K H a xs) (et:t=.type "list")
section
variable {X:Cx} {pins:List (Addr×Obj)} {σ:St} {H:Hp} {s:aj} {A:bi} {E:Value->aj->Prop} {a C:Addr} {fs:List (Str×V)}
theorem L7 {dx:Option Addr} (I:Inv X pins σ H s) (e:H a=some (Ff a C dx)):∃ vs:Array Value,s.heap.get? a=some (Ar C dx vs)/\vs.size=6/\vs[1]? = some .none/\vs[2]? = some .none:=(I.hok a _ e).1
theorem au4 {dx:Option Addr} (I:Inv X pins σ H s) (e:H a=some (flO a C dx)):∃ vs:Array Value,s.heap.get? a=some (Ar C dx vs)/\vs.size=6/\vs[2]? = some .none:=(I.hok a _ e).1
theorem au3 {dx:Option Addr} (I:Inv X pins σ H s) (e:H a=some (Ff a C dx)\/FlO H a C dx):∃ vs:Array Value,s.heap.get? a=some (Ar C dx vs)/\vs.size=6:=by
 rcases e with e|e|e
 ·obtain⟨vs,h1,h2,_⟩:=L7 I e;exact⟨vs,h1,h2⟩
 ·obtain⟨vs,h1,h2,_⟩:=au4 I e;exact⟨vs,h1,h2⟩
 ·exact (I.hok a _ e).1
theorem a22 {dx:Addr} (I:Inv X pins σ H s) (e:H dx=some (xdO dx fs)):fs.length<=1000 /\ ∃ mA,s.heap.Ns1 dx mA/\(∀ f,RelO (fs.lookup f) (mA f))/\eI mA (fs.map (·.1)):=(I.hok dx _ e).1
theorem ExcAt.inst (I:Inv X pins σ H s) (e:ExcAt H a C fs):∃ vs dx od,InstAt s.heap a (Ar C dx vs) C od/\(∀ o,od=some o -> ∀ name,∃ v,lookIn name o=some v/\RelO (fs.lookup name) v)/\(od=none->fs=[]):=by
 rcases e with ⟨rfl,e⟩|⟨dx,ne,e,ed⟩
 ·obtain⟨vs,h1,_⟩:=au3 I e
  exact⟨vs,none,none,⟨h1,rfl,rfl,bD⟩,fun o z=>(nomatch z),fun _=>rfl⟩
 ·obtain⟨vs,h1,_⟩:=au3 I e
  obtain⟨_,mA,hn,hr,_⟩:=a22 I ed
  obtain⟨od,ho,hl⟩:=Gr hn
  refine⟨vs,some dx,some od,⟨h1,rfl,rfl,ho⟩,fun o z name=>?_,fun z=>nomatch z⟩
  cases z
  exact⟨_,hl name,hr name⟩
theorem Ij {Q:Value->aj->Prop} {c:Value} {b:Bool} {x:V} {u t:Value} (I:Inv X pins σ H s) (rx:RelV x u) (ty:TyX X.K H x t) (e:fR X.K t c=some b) (h:∀ tk,Q (.bool b) { s with toks:=tk }) :
  aJ (model X.prog X.w) A (call (.builtin "isinstance") [u,c]) Q E s:=by
 cases ty with
 | of ty=>exact K2 I rx ty e h
 | @exc a C fs ex ea cl et=>
  subst ex et
  cases (show u=aR a from rx)
  obtain⟨vs,dx,od,J,_⟩:=ea.inst I
  exact bV (Y3 cl) I.kIn ⟨_,_,J⟩ e (fun z=>nomatch z) h
 | @sqT a xs ex q et=>
  subst ex et
  cases (show u=aR a from rx)
  obtain⟨_,_,⟨o,h1,h2,_⟩,_⟩:=I.tuple q
  exact bV lB I.kIn ⟨o,h1,h2⟩ e (fun z=>nomatch z) h
 | @sqL a xs ex q et=>
  subst ex et
  cases (show u=aR a from rx)
  obtain⟨_,_,⟨o,_,h1,h2,_⟩,_⟩:=I.list q
  exact bV jc I.kIn ⟨o,h1,h2⟩ e (fun z=>nomatch z) h
theorem Vu {b:Bool} {f:Str} {v:V} {Q:Value->aj->Prop} (I:Inv X pins σ H s) (e:ExcAt H a C fs) (c:ECls X.K C) (n:NoAttr X.K C f) (l:fs.lookup f=some v)
  (h:∀ u s',Inv X pins σ H s'->RelV v u->Q u s'):aJ (model X.prog X.w) A (k9 (.ref a) f b) Q E s:=by
 obtain⟨vs,dx,od,J,hl,hn⟩:=e.inst I
 obtain⟨cd,hc,_,hd⟩:=c.cls
 cases od with
 | none=>rw [hn rfl] at l;cases l
 | some o=>
  obtain⟨u?,h1,h2⟩:=hl o rfl f
  rw [l] at h2
  obtain⟨u,hu,ru⟩:=RelO.some_of h2
  subst hu
  refine ak9 I.kIn J c.ga c.gt (c.sub (by decide +kernel)) (kR (by unfold hasDictIn;rw [hc];exact hd) n rfl h1) (Kz ru) (h u _ (I.tok _) ru)
noncomputable def bs3 (H:Hp) (a C:Addr) (f:Str) (y:V) (N:Hp->Prop):Prop:=
 (H a=some (Ff a C none) /\ ∀ dx,H dx=none->dx≠a->N (upd (upd H dx (xdO dx [(f,y)])) a (Ff a C (some dx)))) \/
 ∃ dx fs,dx≠a/\H a=some (Ff a C (some dx))/\H dx=some (xdO dx fs)/\fs.length<1000/\N (upd H dx (xdO dx (D6 f y fs)))
theorem L6 {P:aI} {w:bp} {H:Hp} {h:Heap} {dx:Option Addr} {vs:Array Value} (h1:h.get? a=some (Ar C dx vs)) (h2:vs.size=6) (h3:vs[1]? = some .none) (h4:vs[2]? = some .none):ObjOk P w H h a (Ff a C dx):=
 ⟨⟨vs,h1,h2,h3,h4⟩,⟨_,h1⟩,fun _ _ ⟨vs',q1,q2⟩ k=>⟨vs',k _ q1,q2⟩⟩
theorem Yp {P:aI} {w:bp} {H:Hp} {h:Heap} {dx:Option Addr} {vs:Array Value} (h1:h.get? a=some (Ar C dx vs)) (h2:vs.size=6) (h4:vs[2]? = some .none):ObjOk P w H h a (flO a C dx):=
 ⟨⟨vs,h1,h2,h4⟩,⟨_,h1⟩,fun _ _ ⟨vs',q1,q2⟩ k=>⟨vs',k _ q1,q2⟩⟩
theorem a67 {P:aI} {w:bp} {H:Hp} {h:Heap} {dx:Option Addr} {vs:Array Value} (h1:h.get? a=some (Ar C dx vs)) (h2:vs.size=6):ObjOk P w H h a (fcO a C dx):=
 ⟨⟨vs,h1,h2⟩,⟨_,h1⟩,fun _ _ ⟨vs',q1,q2⟩ k=>⟨vs',k _ q1,q2⟩⟩
theorem ah6 {P:aI} {w:bp} {H:Hp} {h:Heap} {dx:Addr} {mA:Str->Option Value} (z:fs.length<=1000) (h1:h.Ns1 dx mA) (h2:∀ f,RelO (fs.lookup f) (mA f)) (h3:eI mA (fs.map (·.1))):ObjOk P w H h dx (xdO dx fs):=
 ⟨⟨z,mA,h1,h2,h3⟩,(let ⟨o,_,_,e,_⟩:=h1;⟨o,e⟩),fun _ _ ⟨z',mB,q1,q2,q3⟩ k=>⟨z',mB,q1.at k,q2,q3⟩⟩
theorem Wl {f:Str} {y:V} {u:Value} {Q:Unit->aj->Prop} {N:Hp->Prop} (I:Inv X pins σ H s) (c:ECls X.K C) (n:NoAttr X.K C f) (ry:RelV y u) (h0:bs3 H a C f y N)
  (h:∀ H' s',Inv X pins σ H' s'->N H'->Q () s'):aJ (model X.prog X.w) A (mr (.ref a) f u) Q E s:=by
 obtain⟨cd,hc,hp,hd⟩:=c.cls
 rcases h0 with ⟨e,hN⟩|⟨dx,fs,ne,e,ed,hz,hN⟩
 ·obtain⟨vs,h1,h2,h3,h4⟩:=L7 I e
  refine ad8 I.kIn h1 c.sa hc hp hd n fun h' q1 q2 q3=>?_
  have fr:H s.heap.objs.size=none:=I.hok.fresh (ah _)
  have ane:s.heap.objs.size≠a:=fun z=>by rw [z,e] at fr;cases fr
  refine h _ _ ?_ (hN _ fr ane)
  obtain⟨o,es,ep,eo,hrest⟩:=id q2
  have eo1:(s.heap.push o).get? s.heap.objs.size=some o:=aw s.heap (Heap.get?_some_iff.mp eo).2
  have I1:=I.laid (a:=s.heap.objs.size) (o:=xdO s.heap.objs.size [(f,y)]) (h':=s.heap.push o) (t':=s.toks+2) (fun b u e=>ag _ e) (ah _)
   (ah6 (by simp) (q2.at fun o' e'=>by rw [eo] at e';cases e';exact eo1) (fun g=>by
    show RelO (eK g [(f,y)]) (if g=f then some u else none)
    by_cases q:g=f
    ·rw [if_pos q,q];simp only [eK,beq_self_eq_true];exact ry
    ·rw [if_neg q];simp only [eK,beq_eq_false_iff_ne.mpr q];exact bD) (fun g hg=>by
    by_cases q:g=f
    ·rw [q];simp
    ·exact absurd (by show (if g=f then some u else none)=none;rw [if_neg q]) hg))
  exact I1.write (x:=a) (e:=a) (t':=s.toks+2) (by rw [Ah (bZ ane),e];exact bD) (.inl rfl) (fun b u hb eb=>by
   by_cases hs:b=s.heap.objs.size
   ·rw [hs] at eb ⊢
    rw [eo1] at eb
    cases eb
    exact eo
   ·refine q3 b u hb ?_
    rcases Heap.get?_push_cases eb with z|z
    ·exact absurd z.1 hs
    ·exact z) ⟨_,q1⟩ (L6 q1 h2 h3 h4)
 ·obtain⟨vs,h1,h2,h3⟩:=L7 I e
  obtain⟨z,mA,hn,hr,wi⟩:=a22 I ed
  refine ar7 (ns:=fs.map (·.1)) I.kIn h1 hn ne c.sa hc hp hd n wi (by rw [ai,bb];omega) fun h' q1 q2 q3=>?_
  refine h _ _ ?_ hN
  refine I.write (x:=dx) (e:=dx) (by rw [ed];exact bD) (.inl rfl) (fun b q hb z=>(q3.2 b hb).trans z) (let ⟨o,_,_,e',_⟩:=q2;⟨o,e'⟩) ?_
  refine ah6 ?_ q2 (fun g=>?_) (fun g hg=>?_)
  ·have:=Ei f y fs;omega
  ·show RelO ((D6 f y fs).lookup g) (if g=f then some u else mA g)
   rw [Ej]
   by_cases q:g=f
   ·rw [if_pos q,if_pos q];exact ry
   ·rw [if_neg q,if_neg q];exact hr g
  ·by_cases q:g=f
   ·rw [q];exact (Dq f y fs).1
   ·refine (Dq f y fs).2 g (wi g fun z=>hg ?_)
    show (if g=f then some u else mA g)=none
    rw [if_neg q];exact z
theorem Inv.madeX (I:Inv X pins σ H s) (C:Addr) (rest:List Value):Inv X pins σ (upd H (s.heap.objs.size+1) (Ff (s.heap.objs.size+1) C none)) { s with heap:=Ch s.heap C rest }:=by
 have hget:(Ch s.heap C rest).get? (s.heap.objs.size+1)=some (Ar C none #[.ref s.heap.objs.size,.none,.none,.none,.bool false,.none]):=by heap_get
 exact I.laid (t':=s.toks) (fun b u e=>ag _ (ag _ e)) (cq _) (L6 hget rfl rfl rfl)
variable {CX:CXT} {k:Nat} {f:Addr} {fd:au} {ps:List Str} {sp:Sp} {dvs:List V} {ds us:List Value} {vs:List V} {Q:VK}
theorem Re (c:ECls X.K C) (hi:findIn X.K (.ref C) "__init__" = some (some (.builtin "ValueError.__init__"))) (I:Inv X pins σ H s) (r:Vals vs us) (hl:vs.length<=1000) (h:∀ a,H a=none->Q (.ref a) (upd H a (Ff a C none))) :
  aJ (model X.prog X.w) X.A (call (.ref C) us) (EP X pins σ Q) X.xe s:=by
 obtain⟨nm,q,N,bs,bm,hdct,sn,sub,ab,col,dd,k0,k1,k2,k3,k5,hC,ht,_⟩:=c.obj
 obtain⟨hh,g,d,t,os⟩:=s
 refine dJ (V3 ht (I.kIn _ _ hC) (looks_findIn I.kIn hi) (fun h' e M ee=>?_) (by rw [<- r.length,bb];omega))
 subst ee
 obtain⟨kp,_,t0,q1,_,_⟩:=M
 refine⟨.ref (hh.objs.size+1),upd H (hh.objs.size+1) (Ff (hh.objs.size+1) C none),?_,rfl,h _ (I.hok.fresh (cq _))⟩
 exact I.laid (t':=t) kp (cq _) (L6 q1 rfl rfl rfl)
theorem Wj (c:ECls X.K C) (hi:findIn X.K (.ref C) "__init__" = some (some (.ref f))) (hf:isFn X.K (.ref f)=true) (F:FnOk X.prog X.w X.K X.mg X.base CX k f fd ps sp) (hr:Room (k+1) X.A) (hb:Binds X.K fd ps ds) (hd:Vals dvs ds)
  (I:Inv X pins σ H s) (r:Vals vs us) (hl:vs.length<=1000) {EX:XK} (hx:∀ e s1 s' H1,Inv X pins σ H1 s1->CX X.stack H1 s1 EX e s'->X.xe e s')
  (h:∀ a,H a=none->sp (.ref a::(vs++dvs)) (upd H a (Ff a C none)) (fun v H2=>v=.non/\Q (.ref a) H2) EX) :
  aJ (model X.prog X.w) X.A (call (.ref C) us) (EP X pins σ Q) X.xe s:=by
 obtain⟨nm,q,N,bs,bm,hdct,sn,sub,ab,col,dd,k0,k1,k2,k3,k5,hC,ht,_⟩:=c.obj
 have hq:=h (s.heap.objs.size+1) (I.hok.fresh (cq _))
 have I2:=I.madeX C us
 have r2:Vals (V.ref (s.heap.objs.size+1)::(vs++dvs)) (aR (s.heap.objs.size+1)::(us++ds)):=.cons rfl (r.append hd)
 have hlen:(aR (s.heap.objs.size+1)::us++ds).length=ps.length:=by
  have e:=r2.length
  rw [F.len _ _ _ _ hq] at e
  exact e.symm
 refine dJ (Y8 (f:=f) ht (I.kIn _ _ hC) (looks_findIn I.kIn hi) (fun self=>PySem.W.bind_fn I.kIn self (beq_iff_eq.mp hf)) (eJ (F.run _ X.stack { s with heap:=Ch s.heap C us } _ ⟨aR (s.heap.objs.size+1)::us,[]⟩ (aR (s.heap.objs.size+1)::(us++ds)) _ _ EX (hr.make C us [])
  (I2.env0.make C us []) (hb _ (aR (s.heap.objs.size+1)::us) I2.kIn hlen) r2 hq) fun r s' hq'=>?_) (by rw [<- r.length,bb];omega))
 cases r with
 | error e=>exact hx e _ s' _ I2 hq'
 | ok fl=>
  cases fl with
  | ret u=>
   obtain⟨v,H',I3,rv,ev,q3⟩:=I2.after hq'
   subst ev
   exact⟨rv,⟨V.ref (s.heap.objs.size+1),H',I3,rfl,q3⟩⟩
  | next=>exact b_ hq'
  | brk=>exact b_ hq'
  | cont=>exact b_ hq'
end
end L2
namespace L2
open PySem PySem.Spec PyProof.Rows
section
variable {X:Cx} {pins:List (Addr×Obj)} {σ σ0:St} {H H0:Hp} {s s0:aj} {p:Addr} {kvs:List (Key×V)} {o:Obj}
noncomputable def Va (o:Obj) (ep:Nat):Prop:=∃ es,o.data=.dict es ep
theorem Inv.froze (I:Inv X pins σ H s) (h:H p=some (.dK kvs)):∃ ob ep,s.heap.get? p=some ob/\Va ob ep/\Inv X pins σ (upd H p (.frz ob (.dK kvs))) s:=by
 have K:=I.hok p _ h
 obtain⟨z,y,vs,r,ob,es,ep,e,c,d,q⟩:=id K
 refine⟨ob,ep,e,⟨es,d⟩,?_⟩
 exact I.write (x:=p) (e:=p) (t':=s.toks) (h':=s.heap) (by rw [h];trivial) (.inl rfl) (fun b u _ q=>q) ⟨ob,e⟩ ⟨e,K⟩
theorem Inv.thaw (I0:Inv X pins σ0 H0 s0) (h0:H0 p=some (.dK kvs)) (I:Inv X pins σ H s) (h:H p=some (.frz o (.dK kvs))):Inv X pins σ (upd H p (.dK kvs)) s:=by
 have ne:∀ b,H b=none->b≠p:=fun b e z=>by rw [z,h] at e;cases e
 have ntup:∀ b xs,H b=some (.tup xs)->b≠p:=fun b xs e z=>by rw [z,h] at e;cases e
 have nown:∀ b c,H b=some (.own c)->b≠p:=fun b c e z=>by rw [z,h] at e;cases e
 refine⟨I.ok,I.os,I.bare,⟨I.base.keep,I.base.slot,fun b ob e n hx=>?_,I.base.there,fun b xs e=>?_,fun b ob u e=>?_,fun b ps e=>?_⟩,I.loc,I.cell,?_,fun x c e=>?_,fun q hq=>?_,fun b u e=>?_,I.len⟩
 ·have q:=I.base.free b ob e n hx
  rw [Ah (ne b q)];exact q
 ·have q:=I.base.tups b xs e
  rw [Ah (ntup b xs q)];exact q
 ·have q:=I.base.frzs b ob u e
  have n:b≠p:=fun z=>by
   have q0:=I0.base.frzs b ob u e
   rw [z,h0] at q0;cases q0
  rw [Ah n];exact q
 ·obtain⟨more,q⟩:=I.base.tbls b ps e
  have n:b≠p:=fun z=>by rw [z,h] at q;cases q
  exact⟨more,by rw [Ah n];exact q⟩
 ·rw [Ah (ne _ I.free)];exact I.free
 ·have q:=I.freeC x c e
  rw [Ah (ne _ q)];exact q
 ·obtain⟨a,b,c⟩:=I.pin q hq
  exact⟨a,by rw [Ah (ne _ b)];exact b,c⟩
 ·by_cases z:b=p
  ·subst z
   rw [Ad] at e
   cases e
   exact (I.hok b _ h).2
  ·rw [Ah z] at e
   exact (I.hok b u e).stay (fun _ _ _ q=>q) (fun c q=>by rw [Ah (nown c b q)];exact q) fun c xs q=>by rw [Ah (ntup c xs q)];exact q
theorem Thaw.inv {P:Hp->Prop} (I0:Inv X pins σ0 H0 s0) (I:Inv X pins σ H s) (t:Thaw H0 H P):∃ H',Inv X pins σ H' s/\P H':=by
 rcases t with t|⟨p,o,kvs,h0,h,t⟩
 ·exact⟨H,I,t⟩
 ·exact⟨_,I0.thaw h0 I h,t⟩
theorem Inv.kdict (I:Inv X pins σ H s) (h:H p=some (.frz o (.dK kvs))) {ep:Nat} (he:Va o ep):∃ vs,KV kvs vs/\s.heap.DictAt (Ao X.prog X.w) p vs ep/\(p==cV)=false:=by
 obtain⟨e1,z,y,vs,r,ob,es,ep',e,c,d,q⟩:=I.hok p _ h
 obtain⟨es',d'⟩:=he
 rw [e1] at e
 cases e
 have d2:=d
 rw [d'] at d2
 cases d2
 exact⟨vs,r,⟨o,_,e1,c,d,q⟩,y⟩
end
noncomputable def Itd (p:Addr) (o:Obj) (kvs:List (Key×V)):It:=
 ⟨fun i H=>H p=some (.frz o (.dK kvs))/\i<kvs.length,fun i H x H'=>H'=H /\ ∃ k v,kvs[i]? = some (k,v)/\x=kV k,fun i H=>H p=some (.frz o (.dK kvs))/\kvs.length<=i⟩
theorem Y4:∀ {kvs:List (Key×V)} {vs:List (Key×Value)} {i:Nat} {k:Key} {v:V},KV kvs vs->kvs[i]? = some (k,v) -> ∃ u,vs[i]? = some (k,u)/\RelV v u
 | _,_,0,k,v,.cons (b:=q) r _,e=>by
  simp only [gp,Option.some.injEq] at e
  subst e
  exact⟨q.2,congrArg some (Prod.ext r.1.symm rfl),r.2⟩
 | _,_,i+1,k,v,.cons r t,e=>by
  simp only [cG] at e ⊢
  exact Y4 t e
theorem ax2 {P:aI} {w:bp} {k:Key} {u:Value} (h:(Ao P w).is k u=true):RelV (kV k) u:=by
 cases k with
 | inl i=>obtain⟨t,rfl⟩:=Value.isInt_shape (show mn i u=true from h);exact⟨t,rfl⟩
 | inr z=>obtain⟨t,rfl⟩:=f9 (show g8 z u=true from h);exact⟨t,rfl⟩
theorem Wr {P:aI} {w:bp} {K:ae} {tg:Expr} (p it:Addr) (o:Obj) (kvs:List (Key×V)) {ep:Nat} (he:Va o ep):Ka P w K tg (Itd p o kvs) [it] it (fun i h=>h.IsKeyIter it p i kvs.length ep) where
 mem:=by simp
 obj:=fun i h st b hb=>by
  have e:b=it:=by simpa using hb
  subst e
  obtain⟨o,e,c,d⟩:=st
  exact⟨o,e,fun v z=>by rw [d] at z;cases z⟩
 keep:=fun i h h' st k=>st.at fun o e=>k it (by simp) o e
 item:=by
  intro X hP hw hK hc i pins s σ H E I hf st hg
  subst hP hw hK
  obtain⟨hH,hi⟩:=hg
  obtain⟨vs,rel,hd,hm⟩:=I.kdict hH he
  obtain⟨f0,f1,f2,f3,f4,f5⟩:=hf it (by simp)
  obtain⟨⟨k,v⟩,hx⟩:∃ q,kvs[i]? = some q:=⟨kvs[i],by simp [hi]⟩
  obtain⟨u,hu,_⟩:=Y4 rel hx
  have hl:kvs.length=vs.length:=rel.length
  rw [hl] at st
  refine wpAny_pyNext_dict_item st hd hu fun key h' hk st' sb=>?_
  have I1:Inv X pins σ H { s with heap:=h' }:=I.turned (t':=s.toks) (fun b o hb e=>sb.extBut b o hb e) f0 f1 f3 f4 f5
  obtain⟨o1,e,c,d⟩:=id st'
  exact⟨key,rfl,Ih (s:={ s with heap:=h' }) e c d (by decide) ⟨kV k,H,I1,ax2 hk,⟨rfl,k,v,hx,rfl⟩,by rw [hl];exact st',fun b hb=>(hf b hb).1⟩⟩
 done:=by
  intro X hP hw hK hc i pins s σ H E I hf st hg
  subst hP hw hK
  obtain⟨hH,hi⟩:=hg
  obtain⟨vs,rel,hd,hm⟩:=I.kdict hH he
  obtain⟨f0,f1,f2,f3,f4,f5⟩:=hf it (by simp)
  have hl:kvs.length=vs.length:=rel.length
  rw [hl] at st
  exact wpAny_pyNext_dict_end (I.ok.hd hc) st hd (by simp;omega) fun h' eb=>⟨rfl,I.turned (t':=s.toks) (fun b o hb e=>eb b o hb e) f0 f1 f3 f4 f5⟩
 self:=fun _ _ _ _ _ st h=>wpAny_pyIter_keyiter st h
theorem ak1 {X:Cx} {tg:Expr} {pins:List (Addr×Obj)} {σ:St} {H:Hp} {s:aj} {R:It->Hp->Prop} {E:Value->aj->Prop} {p:Addr} {o:Obj} {kvs:List (Key×V)} (I:Inv X pins σ H s) (h:H p=some (.frz o (.dK kvs)))
  (q:R (Itd p o kvs) H):aJ (model X.prog X.w) X.A (mF (.ref p)) (PIE X pins σ tg R) E s:=by
 have he:∃ ep,Va o ep:=by
  obtain⟨e1,z,y,vs,r,ob,es,ep,e,c,d,_⟩:=I.hok p _ h
  rw [e1] at e;cases e
  exact⟨ep,es,d⟩
 obtain⟨ep,he⟩:=he
 obtain⟨vs,rel,hd,hm⟩:=I.kdict h he
 refine wpAny_pyIter_dict hm hd ?_
 refine⟨s.heap.objs.size,[s.heap.objs.size],_,_,H,rfl,I.kept (t':=s.toks) fun b o e=>ag _ e,Wr p _ o kvs he,⟨_,aw _ rfl,rfl,by rw [rel.length];rfl⟩,fun b hb=>?_,q⟩
 have e:b=s.heap.objs.size:=by simpa using hb
 subst e
 exact I.fpOk (ah _) (I.hok.fresh (ah _))
end L2
namespace PySem
open PyProof.Rows
section
variable {κ:Type} [DecidableEq κ]
noncomputable def Ci (xs:List κ):List κ:=xs.foldl (fun σ k=>if σ.any (fun j=>decide (j=k)) then σ else σ++[k]) []
theorem K5 (xs:List κ) (k:κ):Ci (xs++[k])=if (Ci xs).any (fun j=>decide (j=k)) then Ci xs else Ci xs++[k]:=by
 unfold Ci
 rw [List.foldl_append]
 rfl
theorem Zb (xs:List κ) (k j:κ):(Ci (xs++[k])).any (fun i=>decide (i=j))=((Ci xs).any (fun i=>decide (i=j))||decide (j=k)):=by
 rw [K5]
 by_cases h:(Ci xs).any (fun i=>decide (i=k))=true
 ·rw [if_pos h]
  by_cases e:j=k
  ·subst e;rw [h];rfl
  ·simp [e]
 ·rw [if_neg h,List.any_append]
  congr 1
  simp [eq_comm]
theorem Iv (xs:List κ):(Ci xs).length<=xs.length:=by
 have:∀ (ys acc:List κ),(ys.foldl (fun σ k=>if σ.any (fun j=>decide (j=k)) then σ else σ++[k]) acc).length<=acc.length+ys.length:=by
  intro ys
  induction ys with
  | nil=>intro acc;exact ah _
  | cons y ys ih=>
   intro acc
   refine aL (ih _) ?_
   rw [aP]
   dsimp only
   split
   ·omega
   ·rw [av,bQ];omega
 exact aL (this xs []) (by simp)
end
section
variable {prog:aI} {w:bp} {A:bi} {R:kG->aj->Prop} {I:Addr} {fp wr:List Addr} {G:Array iF->Array iF->Prop} {P:Nat->Value->Prop} {St:Nat->aj->Prop} {κ:Type} [DecidableEq κ] {knd:KeyKind prog w κ} {ks:List κ}
end
section
variable {prog:aI} {w:bp} {A:bi} {E:Value->aj->Prop} {s:aj} {κ:Type} [DecidableEq κ] {knd:KeyKind prog w κ} {ks:List κ}
noncomputable abbrev B8 (led:Bool):Obj:={ cls:=.type "set", dict:=none,data:=.set #[] 0 (.fresh 0 0 led) }
end
end PySem
namespace L2
open PySem PySem.Spec PyProof.Rows
section
variable {X:Cx} {e:Expr} {de:DE} {p p2 pos pos2:Pos}
theorem U4:∀ {ys:List Str} {us:List Value} {i:Nat} {v:Value},Vals (ys.map V.str) us->us[i]? = some v -> ∃ k t,ys[i]? = some k/\v=.str k t
 | [],_,i,v,r,e=>by rw [iH] at r;cases r;simp at e
 | y::ys,_,i,v,r,e=>by
  rw [aK] at r
  cases r with
  | cons r1 r2=>
   obtain⟨t,rfl⟩:=r1
   cases i with
   | zero=>simp only [gp,Option.some.injEq] at e;exact⟨y,t,rfl,e.symm⟩
   | succ i=>simp only [cG] at e ⊢;exact U4 r2 e
end
section
variable {X:Cx}
noncomputable def ay7 (K:ae):R2:=fun x y H Q=>∃ a b ys,x=.ref a/\y=.ref b/\SqT K H a []/\SqT K H b ys/\Q (.ref b) H
theorem an3:OpR X (cU .Add) (ay7 X.K):=by
 intro pins s σ H x y v u Q I rx ry h
 obtain⟨a,b,ys,rfl,rfl,ha,hb,q⟩:=h
 cases rx
 cases ry
 obtain⟨its,r1,p1,_⟩:=I.tuple ha
 obtain⟨its2,r2,p2,_⟩:=I.tuple hb
 cases r1
 obtain⟨⟨c1,d1,da1,s1⟩,ho,hc,n,hd⟩:=id p1
 obtain⟨⟨c2,d2,da2,s2⟩,ho2,hc2,n2,hd2⟩:=id p2
 simp only at hc hd hc2 hd2
 subst hc hd hc2 hd2
 exact lY ⟨_,ho,rfl⟩ ⟨_,ho2,rfl⟩ jB lJ gH gu (gd _ _)
   (tuple_addW0 a b _ _ n n2 d1 d2 s1 s2 rfl) ⟨ho,ho2,⟨.ref b,H,I,rfl,q⟩⟩
theorem Ud (hu:X.A.units+64<cLine):IxR X (fun x y H Q=>∃ a v,x=.ref a/\D7 H a y (some v)/\Q v H):=by
 intro value slice pins s σ H x y v u Q I rx ry h hs
 obtain⟨a,w',rfl,g,q⟩:=h
 cases rx
 exact mT (Oh I g) PySem.F.slot_dict_getitem.lookup (Vm (by omega) I g ry fun w1 s' I' r'=>⟨w',H,I',r',q⟩) hs
theorem aj1 {y:V} {v:Value} (r:RelV y v) (f:Bd y=true):a51 v=some y:=by
 cases y with
 | non=>cases r;rfl
 | bl b=>cases r;rfl
 | int i=>obtain⟨t,rfl⟩:=r;rfl
 | str z=>obtain⟨t,rfl⟩:=r;rfl
 | _=>cases f
noncomputable def eqF (y:V) (v:Value):Bool:=match a51 v with
 | some x=>eqV x y
 | none=>false
theorem at3 {ys:List V} {us:List Value} (r:Vals ys us):∀ {i:Nat} {u:Value},us[i]? = some u -> ∃ y,ys[i]? = some y/\RelV y u:=by
 induction r with
 | nil=>intro i u e;simp at e
 | @cons y v ys us h t ih=>
  intro i u e
  cases i with
  | zero=>rw [gp] at e;cases e;exact⟨y,rfl,h⟩
  | succ i=>rw [cG] at e;exact ih e
noncomputable def Mq:V->List V->Hp->VK->Prop:=fun x xs H Q=>∃ p ys y,x=.ref p/\xs=[y]/\H p=some (.lst ys)/\Bd y=true/\ys.all Bd=true /\ ∃ j:Nat,j<ys.length/\eqV (ys.getD j .non) y=true/\(∀ m,m<j->eqV (ys.getD m .non) y=false)/\Q (.int j) H
theorem Ze:MtR X "list.index" Mq:=by
 intro pins s σ H x xs v us Q I rx rs h
 obtain⟨p,ys,y,rfl,rfl,hp,fy,fs,j,hj,e1,e2,q⟩:=h
 cases rx
 obtain⟨u,rfl,ru⟩:=rs.one
 obtain⟨hz,its,n,r,e⟩:=I.hok p _ hp
 have hl:=r.length
 have at_:∀ (m:Nat) (hm:m<its.toArray.size),eqF y its.toArray[m]=eqV (ys.getD m .non) y/\RelV (ys.getD m .non) its.toArray[m]/\Bd (ys.getD m .non)=true:=fun m hm=>by
  have hm':m<its.length:=by simpa using hm
  obtain⟨y',h1,h2⟩:=at3 r (i:=m) (u:=its[m]) (am hm')
  have f':Bd y'=true:=List.all_eq_true.mp fs y' (aX h1)
  have g:ys.getD m .non=y':=by rw [aB,h1];rfl
  rw [g]
  have e3:its.toArray[m]=its[m]:=by simp
  rw [e3]
  refine⟨?_,h2,f'⟩
  unfold eqF
  rw [aj1 h2 f']
 have hs:its.toArray.size=ys.length:=by rw [ao];omega
 refine fI jp ⟨_,e,rfl⟩ PySem.F.entry_list_index (PySem.F.args_list_index_2 _ _)
  (MeetsSeq.list_index p its.toArray n u (eqF y) (fun z hz=>?_) j (by omega) ?_ (by rw [(at_ j (by omega)).1];exact e1) (fun m hm hlt=>by rw [(at_ m hm).1];exact e2 m hlt)) ⟨e,?_⟩
 ·obtain⟨m,hm,rfl⟩:=Array.mem_iff_getElem.mp hz
  obtain⟨a1,a2,a3⟩:=at_ m hm
  rw [a1]
  exact fun prog w A E s Q hq=>L5 (A:=A) (s:=s) a2 ru a3 fy prog w E Q hq
 ·have:=bb
  have h3:(sizeLine:Int)<2 ^ 63 - 1:=by decide
  omega
 ·exact⟨.int j,H,I.tok _,⟨_,rfl⟩,q⟩
end
open Sem (wp)
section
variable {M:Model} {A:bi} {E:Value->aj->Prop} {env:Env}
variable {nm q:Str} {C N:Addr} {bs bm:List Value} {hdct:Bool} {sn:List Str} {sub:List Value} {ab:Bool} {col:Option Bool} {dd:Option Addr} {k0 k1 k2 k3 k5:Option Value} {newId:String}
end
section
variable {X:Cx} {e:Expr} {te:TE} {pos:Pos}
noncomputable def ac1 (K:ae) (R:EK):VK:=fun x H=>match x with
 | .ref a=>∃ C dx,H a=some (Ff a C dx)/\ECls K C/\R a (upd H a (flO a C dx))
 | _=>False
theorem Z0 {Ex:St->EK} (m:Meets X Ex) (hh:X.A.handled=none) (he:PE X e te):PS X (.Raise (some e) none pos) (fun _ σ H=>te σ H (ac1 X.K (Ex σ))):=by
 intro pins s σ H D I h
 rw [arm_exec_Raise]
 show aJ _ _ (do mS pos;raiseStmt X.env (some (do let v <- eval e X.env;mS pos;pure v)) none) _ _ s
 refine af (fM ?_)
 unfold raiseStmt
 refine af (af (thn (he pins s σ H _ I h) fun v s1 ⟨x,H1,I1,r1,q1⟩=>af (fM (ak ?_))))
 cases x with
 | ref a=>
  cases r1
  obtain⟨C,dx,ea,c,q⟩:=q1
  obtain⟨vs,g1,g2,g3,g4⟩:=L7 I1 ea
  obtain⟨nm,qn,N,bs,bm,hdct,sn,sub,ab,col,dd,k0,k1,k2,k3,k5,hl,ht,hd⟩:=c.obj
  have hC:=I1.kIn _ _ hl
  have hb:bm.contains (.type "BaseException")=true:=Cd ht (by decide +kernel)
  have I2:Inv X pins σ (upd H1 a (flO a C dx)) s1:=by
   have:=I1.write (x:=a) (e:=a) (h':=s1.heap) (t':=s1.toks) (o:=flO a C dx) (by rw [ea];exact bD) (.inl rfl) (fun b u _ z=>z) ⟨_,g1⟩ (Yp g1 g2 g4)
   exact this
  have hx:=m pins σ _ s1 a I2 ⟨C,dx,vs,.inl Ad,g1,g2,.inl g3⟩ q
  have hcB:(aR C::bm).contains (.type "BaseException")=true:=by rw [cF,hb,iD]
  obtain⟨hp,g,d,tk,os⟩:=s1
  repeat (first|with_reducible refine fF g1 rfl g3 ?_|with_reducible refine bW g1 ?_|with_reducible refine bW hC ?_|(with_reducible refine dF hC ?_;rw [hcB])|wp_step)
  exact wpAny_raiseNew_none hh hx
 | _=>exact (show False from q1).elim
end
end L2
namespace L2
open PySem PySem.Spec PyProof.Rows
inductive Dt where
 | at_ (v:V)
 | lst (l:List Dt)
 | tup (l:List Dt)
mutual
noncomputable def deq:Dt->Dt->Bool
 | .at_ v,.at_ w=>eqV v w
 | .lst xs,.lst ys=>B0 xs ys
 | .tup xs,.tup ys=>B0 xs ys
 | _,_=>false
noncomputable def B0:List Dt->List Dt->Bool
 | [],[]=>true
 | x::xs,y::ys=>deq x y&&B0 xs ys
 | _,_=>false
end
mutual
noncomputable def dep:Dt->Nat
 | .at_ _=>0
 | .lst l=>Bx l+1
 | .tup l=>Bx l+1
noncomputable def Bx:List Dt->Nat
 | []=>0
 | x::xs=>mI (dep x) (Bx xs)
end
mutual
noncomputable def At (K:ae) (H:Hp):Dt->V->Prop
 | .at_ v,x=>x=v/\Bd v=true
 | .lst ds,x=>∃ a xs,x=.ref a/\SqL K H a xs/\AtL K H ds xs
 | .tup ds,x=>∃ a xs,x=.ref a/\SqT K H a xs/\AtL K H ds xs
noncomputable def AtL (K:ae) (H:Hp):List Dt->List V->Prop
 | [],xs=>xs=[]
 | d::ds,xs=>∃ y ys,xs=y::ys/\At K H d y/\AtL K H ds ys
end
theorem AtL.length {K:ae} {H:Hp}:∀ {ds:List Dt} {xs:List V},AtL K H ds xs->xs.length=ds.length
 | [],xs,h=>by unfold AtL at h;subst h;rfl
 | d::ds,xs,h=>by
  unfold AtL at h
  obtain⟨y,ys,rfl,_,h2⟩:=h
  rw [aP,aP,AtL.length h2]
theorem Yo {v:V} (h:Bd v=true):eqV v v=true:=by
 cases v <;> first|rfl|(exact beq_self_eq_true _)|exact absurd (show false=true from h) ar
mutual
theorem Ee {K:ae} {H:Hp}:∀ {d:Dt} {x:V},At K H d x->deq d d=true
 | .at_ v,x,h=>by unfold At at h;unfold deq;exact Yo h.2
 | .lst l,x,h=>by unfold At at h;obtain⟨a,xs,_,_,h⟩:=h;unfold deq;exact Gm h
 | .tup l,x,h=>by unfold At at h;obtain⟨a,xs,_,_,h⟩:=h;unfold deq;exact Gm h
theorem Gm {K:ae} {H:Hp}:∀ {ds:List Dt} {xs:List V},AtL K H ds xs->B0 ds ds=true
 | [],xs,h=>by unfold B0;rfl
 | d::ds,xs,h=>by
  unfold AtL at h
  obtain⟨y,ys,rfl,h1,h2⟩:=h
  unfold B0
  rw [Ee h1,Gm h2]
  rfl
end
theorem Ef:∀ {xs ys:List Dt},xs.length≠ys.length->B0 xs ys=false
 | [],[],h=>absurd rfl h
 | [],_::_,_=>by unfold B0;rfl
 | _::_,[],_=>by unfold B0;rfl
 | x::xs,y::ys,h=>by
  unfold B0
  rw [Ef (xs:=xs) (ys:=ys) (fun e=>h (by rw [aP,aP,e])),iK]
theorem C8 (z:Dt):∀ {xs ys:List Dt},xs.length=ys.length->B0 xs ys=(bC xs.length).all fun j=>deq (xs.getD j z) (ys.getD j z)
 | [],[],_=>by unfold B0;rfl
 | [],_::_,h=>by simp at h
 | _::_,[],h=>by simp at h
 | x::xs,y::ys,h=>by
  unfold B0
  rw [aP,jI,bN,List.all_map,C8 z (xs:=xs) (ys:=ys) (by simpa using h)]
  rfl
section
variable {X:Cx} {pins:List (Addr×Obj)} {σ:St} {H:Hp} {s:aj}
theorem O2 {a:Addr} {xs ys:List V} (I:Inv X pins σ H s) (h:SqL X.K H a xs) (h':SqT X.K H a ys):False:=by
 obtain⟨its,r,⟨o,n,e,c,_,d⟩,_⟩:=I.list h
 obtain⟨its',r',⟨o',e',c',n',d'⟩,_⟩:=I.tuple h'
 rw [e] at e';cases e'
 rw [c] at c'
 injection c' with c'
 exact absurd c' (by decide)
mutual
theorem Pu (I:Inv X pins σ H s):∀ {d d':Dt} {x:V},At X.K H d x->At X.K H d' x->d=d'
 | .at_ v,.at_ w,x,h,h'=>by unfold At at h h';rw [<- h.1,<- h'.1]
 | .at_ v,.lst l,x,h,h'=>by
  unfold At at h h'
  obtain⟨a,xs,rfl,_⟩:=h'
  rw [<- h.1] at h
  exact absurd (show false=true from h.2) ar
 | .at_ v,.tup l,x,h,h'=>by
  unfold At at h h'
  obtain⟨a,xs,rfl,_⟩:=h'
  rw [<- h.1] at h
  exact absurd (show false=true from h.2) ar
 | .lst l,.at_ v,x,h,h'=>by
  unfold At at h h'
  obtain⟨a,xs,rfl,_⟩:=h
  rw [<- h'.1] at h'
  exact absurd (show false=true from h'.2) ar
 | .tup l,.at_ v,x,h,h'=>by
  unfold At at h h'
  obtain⟨a,xs,rfl,_⟩:=h
  rw [<- h'.1] at h'
  exact absurd (show false=true from h'.2) ar
 | .lst l,.lst l',x,h,h'=>by
  unfold At at h h'
  obtain⟨a,xs,rfl,q,h⟩:=h
  obtain⟨a',xs',e,q',h'⟩:=h'
  cases e
  rw [I.list_inj q q'] at h
  rw [Lo I h h']
 | .tup l,.tup l',x,h,h'=>by
  unfold At at h h'
  obtain⟨a,xs,rfl,q,h⟩:=h
  obtain⟨a',xs',e,q',h'⟩:=h'
  cases e
  rw [I.tuple_inj q q'] at h
  rw [Lo I h h']
 | .lst l,.tup l',x,h,h'=>by
  unfold At at h h'
  obtain⟨a,xs,rfl,q,h⟩:=h
  obtain⟨a',xs',e,q',h'⟩:=h'
  cases e
  exact (O2 I q q').elim
 | .tup l,.lst l',x,h,h'=>by
  unfold At at h h'
  obtain⟨a,xs,rfl,q,h⟩:=h
  obtain⟨a',xs',e,q',h'⟩:=h'
  cases e
  exact (O2 I q' q).elim
theorem Lo (I:Inv X pins σ H s):∀ {ds ds':List Dt} {xs:List V},AtL X.K H ds xs->AtL X.K H ds' xs->ds=ds'
 | [],[],_,_,_=>rfl
 | [],_::_,_,h,h'=>by unfold AtL at h h';obtain⟨y,ys,e,_⟩:=h';rw [h] at e;cases e
 | _::_,[],_,h,h'=>by unfold AtL at h h';obtain⟨y,ys,e,_⟩:=h;rw [h'] at e;cases e
 | d::ds,d'::ds',xs,h,h'=>by
  unfold AtL at h h'
  obtain⟨y,ys,rfl,h1,h2⟩:=h
  obtain⟨y',ys',e,h1',h2'⟩:=h'
  cases e
  rw [Pu I h1 h1',Lo I h2 h2']
end
theorem Ky {A:bi} {v:V} {u:Value} {a:Addr} {its:Array Value} (f:Bd v=true) (r:RelV v u) (hl:s.heap.IsList a its) (hu:A.units<cLine):bx A s u (.ref a) false/\bx A s (.ref a) u false:=by
 cases v with
 | non=>cases r;exact⟨.none_list hl hu,.list_none hl hu⟩
 | bl b=>cases r;exact⟨.bool_list b hl hu,.list_bool b hl hu⟩
 | int i=>obtain⟨t,rfl⟩:=r;exact⟨.int_list i t hl hu,.list_int i t hl hu⟩
 | str i=>obtain⟨t,rfl⟩:=r;exact⟨.str_list i t hl hu,.list_str i t hl hu⟩
 | _=>exact absurd (show false=true from f) ar
theorem Ie {A:bi} {v:V} {u:Value} {a:Addr} {its:Array Value} (f:Bd v=true) (r:RelV v u) (hl:s.heap.IsTuple a its) (hu:A.units<cLine):bx A s u (.ref a) false/\bx A s (.ref a) u false:=by
 cases v with
 | non=>cases r;exact⟨.none_tuple hl hu,.tuple_none hl hu⟩
 | bl b=>cases r;exact⟨.bool_tuple b hl hu,.tuple_bool b hl hu⟩
 | int i=>obtain⟨t,rfl⟩:=r;exact⟨.int_tuple i t hl hu,.tuple_int i t hl hu⟩
 | str i=>obtain⟨t,rfl⟩:=r;exact⟨.str_tuple i t hl hu,.tuple_str i t hl hu⟩
 | _=>exact absurd (show false=true from f) ar
mutual
theorem Ym (I:Inv X pins σ H s):∀ (d d':Dt) (A:bi) (x y:V) (u v:Value),At X.K H d x->At X.K H d' y->RelV x u->RelV y v->A.units+dep d<cLine->bx A s u v (deq d d')
 | .at_ p,.at_ q,A,x,y,u,v,h,h',r,r',hu=>by
  unfold At at h h';unfold deq
  obtain⟨rfl,f⟩:=h
  obtain⟨rfl,f'⟩:=h'
  exact L5 r r' f f'
 | .at_ p,.lst l,A,x,y,u,v,h,h',r,r',hu=>by
  unfold At at h h';unfold deq
  obtain⟨rfl,f⟩:=h
  obtain⟨a,xs,rfl,q,_⟩:=h'
  obtain⟨its,_,pl,_⟩:=I.list q
  cases r'
  exact (Ky f r pl.isList (by omega)).1
 | .at_ p,.tup l,A,x,y,u,v,h,h',r,r',hu=>by
  unfold At at h h';unfold deq
  obtain⟨rfl,f⟩:=h
  obtain⟨a,xs,rfl,q,_⟩:=h'
  obtain⟨its,_,pl,_⟩:=I.tuple q
  cases r'
  exact (Ie f r pl (by omega)).1
 | .lst l,.at_ p,A,x,y,u,v,h,h',r,r',hu=>by
  unfold At at h h';unfold deq
  obtain⟨rfl,f⟩:=h'
  obtain⟨a,xs,rfl,q,_⟩:=h
  obtain⟨its,_,pl,_⟩:=I.list q
  cases r
  exact (Ky f r' pl.isList (by omega)).2
 | .tup l,.at_ p,A,x,y,u,v,h,h',r,r',hu=>by
  unfold At at h h';unfold deq
  obtain⟨rfl,f⟩:=h'
  obtain⟨a,xs,rfl,q,_⟩:=h
  obtain⟨its,_,pl,_⟩:=I.tuple q
  cases r
  exact (Ie f r' pl (by omega)).2
 | .lst l,.tup l',A,x,y,u,v,h,h',r,r',hu=>by
  unfold At at h h';unfold deq
  obtain⟨a,xs,rfl,q,_⟩:=h
  obtain⟨b,ys,rfl,q',_⟩:=h'
  obtain⟨its,_,pl,_⟩:=I.list q
  obtain⟨its',_,pl',_⟩:=I.tuple q'
  cases r;cases r'
  exact .list_tuple pl.isList pl' (by omega)
 | .tup l,.lst l',A,x,y,u,v,h,h',r,r',hu=>by
  unfold At at h h';unfold deq
  obtain⟨a,xs,rfl,q,_⟩:=h
  obtain⟨b,ys,rfl,q',_⟩:=h'
  obtain⟨its,_,pl,_⟩:=I.tuple q
  obtain⟨its',_,pl',_⟩:=I.list q'
  cases r;cases r'
  exact .tuple_list pl pl'.isList (by omega)
 | .lst l,.lst l',A,x,y,u,v,h,h',r,r',hu=>by
  by_cases e:x=y
  ·subst e
   have:=Pu I h h'
   rw [<- this,Ee h]
   have hx:∃ a,x=.ref a:=by unfold At at h;obtain⟨a,_,e,_⟩:=h;exact⟨a,e⟩
   obtain⟨a,rfl⟩:=hx
   cases r;cases r'
   exact .same _
  ·unfold At at h h';unfold deq
   unfold dep at hu
   obtain⟨a,xs,rfl,q,h⟩:=h
   obtain⟨b,ys,rfl,q',h'⟩:=h'
   obtain⟨its,ri,pl,_⟩:=I.list q
   obtain⟨its',ri',pl',_⟩:=I.list q'
   cases r;cases r'
   have ne:a≠b:=fun z=>e (by rw [z])
   have e1:=h.length
   have e2:=h'.length
   have e3:=ri.length
   have e4:=ri'.length
   refine .of_refs ne ?_
   by_cases hl:l.length=l'.length
   ·rw [C8 (.lst []) hl]
    have hsz:its.toArray.size=l.length:=by simp;omega
    rw [<- hsz]
    exact .lists pl.isList pl'.isList (by simp;omega) (by omega) fun j h1 h2=>by
     have:=Et I l l' A.in1 xs ys its its' h h' ri ri' (by show A.units+1+Bx l<cLine;omega) j (by simpa using h1) (by simpa using h2)
     simpa using this
   ·rw [Ef hl]
    exact .lists_lengths pl.isList pl'.isList (by simp;omega) (by omega)
 | .tup l,.tup l',A,x,y,u,v,h,h',r,r',hu=>by
  by_cases e:x=y
  ·subst e
   have:=Pu I h h'
   rw [<- this,Ee h]
   have hx:∃ a,x=.ref a:=by unfold At at h;obtain⟨a,_,e,_⟩:=h;exact⟨a,e⟩
   obtain⟨a,rfl⟩:=hx
   cases r;cases r'
   exact .same _
  ·unfold At at h h';unfold deq
   unfold dep at hu
   obtain⟨a,xs,rfl,q,h⟩:=h
   obtain⟨b,ys,rfl,q',h'⟩:=h'
   obtain⟨its,ri,pl,_⟩:=I.tuple q
   obtain⟨its',ri',pl',_⟩:=I.tuple q'
   cases r;cases r'
   have ne:a≠b:=fun z=>e (by rw [z])
   have e1:=h.length
   have e2:=h'.length
   have e3:=ri.length
   have e4:=ri'.length
   refine .of_refs ne ?_
   have T:=SeqAt.RcAt.tuples (A:=A) (s:=s) (e:=fun j=>deq (l.getD j (.lst [])) (l'.getD j (.lst []))) pl pl' (by omega) fun j h1 h2=>by
     have:=Et I l l' A.in1 xs ys its its' h h' ri ri' (by show A.units+1+Bx l<cLine;omega) j (by simpa using h1) (by simpa using h2)
     simpa using this
   by_cases hl:l.length=l'.length
   ·rw [C8 (.lst []) hl]
    have hsz:its.toArray.size=l.length:=by simp;omega
    have hsz':its'.toArray.size=l.length:=by simp;omega
    rw [hsz,hsz',Nat.min_self,beq_self_eq_true,lh] at T
    exact T
   ·rw [Ef hl]
    have hne:(its.toArray.size==its'.toArray.size)=false:=by
     rw [beq_eq_false_iff_ne];simp;omega
    rw [hne,iK] at T
    exact T
theorem Et (I:Inv X pins σ H s):∀ (ds ds':List Dt) (A:bi) (xs ys:List V) (us vs:List Value),AtL X.K H ds xs->AtL X.K H ds' ys->Vals xs us->Vals ys vs->A.units+Bx ds<cLine ->
  ∀ (j:Nat) (h1:j<us.length) (h2:j<vs.length),bx A s us[j] vs[j] (deq (ds.getD j (.lst [])) (ds'.getD j (.lst [])))
 | [],_,A,xs,ys,us,vs,h,h',r,r',hu=>fun j h1 h2=>by
  unfold AtL at h
  subst h
  cases r
  cases h1
 | _::_,[],A,xs,ys,us,vs,h,h',r,r',hu=>fun j h1 h2=>by
  unfold AtL at h'
  subst h'
  cases r'
  cases h2
 | d::ds,d'::ds',A,xs,ys,us,vs,h,h',r,r',hu=>fun j h1 h2=>by
  unfold AtL at h h'
  obtain⟨y,ys,rfl,q1,q2⟩:=h
  obtain⟨z,zs,rfl,q1',q2'⟩:=h'
  cases r with
  | cons r1 r2=>
   cases r' with
   | cons r1' r2'=>
    unfold Bx at hu
    have m1:dep d<=mI (dep d) (Bx ds):=Nat.le_max_left _ _
    have m2:Bx ds<=mI (dep d) (Bx ds):=Nat.le_max_right _ _
    cases j with
    | zero=>exact Ym I d d' A _ _ _ _ q1 q1' r1 r1' (by omega)
    | succ j=>exact Et I ds ds' A _ _ _ _ q2 q2' r2 r2' (by omega) j (by simpa using h1) (by simpa using h2)
end
theorem Ew {K:ae} {d:Dt} {a:Addr} (h:At K H d (.ref a)):(∃ l xs,d=.lst l/\SqL K H a xs/\AtL K H l xs)\/(∃ l xs,d=.tup l/\SqT K H a xs/\AtL K H l xs):=by
 cases d with
 | at_ v=>
  unfold At at h
  rw [<- h.1] at h
  exact absurd (show false=true from h.2) ar
 | lst l=>unfold At at h;obtain⟨b,xs,e,q,h⟩:=h;cases e;exact .inl ⟨l,xs,rfl,q,h⟩
 | tup l=>unfold At at h;obtain⟨b,xs,e,q,h⟩:=h;cases e;exact .inr ⟨l,xs,rfl,q,h⟩
theorem O1 {K:ae} {d:Dt} {x:V} (h:At K H d x) (f:∀ a,x≠.ref a):d=.at_ x/\Bd x=true:=by
 cases d with
 | at_ v=>unfold At at h;rw [h.1];exact⟨rfl,h.2⟩
 | lst l=>unfold At at h;obtain⟨b,xs,e,_⟩:=h;exact absurd e (f b)
 | tup l=>unfold At at h;obtain⟨b,xs,e,_⟩:=h;exact absurd e (f b)
theorem cb4 (I:Inv X pins σ H s) {A:bi} {d d':Dt} {a b:Addr} (h:At X.K H d (.ref a)) (h':At X.K H d' (.ref b)) (hu:A.units+dep d<cLine):jd A s (.ref a) (.ref b) (deq d d')/\ge A s (.ref a) (.ref b) (!deq d d'):=by
 rcases Ew h with ⟨l,xs,rfl,q,h⟩|⟨l,xs,rfl,q,h⟩
 ·rcases Ew h' with ⟨l',ys,rfl,q',h'⟩|⟨l',ys,rfl,q',h'⟩
  ·unfold deq
   unfold dep at hu
   obtain⟨its,ri,pl,_⟩:=I.list q
   obtain⟨its',ri',pl',_⟩:=I.list q'
   have e1:=h.length
   have e2:=h'.length
   have e3:=ri.length
   have e4:=ri'.length
   have it:∀ j (h1:j<its.toArray.size) (h2:j<its'.toArray.size),bx A.in1 s its.toArray[j] its'.toArray[j] (deq (l.getD j (.lst [])) (l'.getD j (.lst []))):=fun j h1 h2=>by
    have:=Et I l l' A.in1 xs ys its its' h h' ri ri' (by show A.units+1+Bx l<cLine;omega) j (by simpa using h1) (by simpa using h2)
    simpa using this
   by_cases hl:l.length=l'.length
   ·rw [C8 (.lst []) hl]
    have hsz:its.toArray.size=l.length:=by simp;omega
    rw [<- hsz]
    exact⟨.lists pl.isList pl'.isList (by simp;omega) (by omega) it,.lists pl.isList pl'.isList (by simp;omega) (by omega) it⟩
   ·rw [Ef hl]
    exact⟨.lists_lengths pl.isList pl'.isList (by simp;omega) (by omega),.lists_lengths pl.isList pl'.isList (by simp;omega) (by omega)⟩
  ·unfold deq
   obtain⟨its,ri,pl,_⟩:=I.list q
   obtain⟨its',ri',pl',_⟩:=I.tuple q'
   exact⟨.list_tuple pl.isList pl' (by omega),.list_tuple pl.isList pl' (by omega)⟩
 ·rcases Ew h' with ⟨l',ys,rfl,q',h'⟩|⟨l',ys,rfl,q',h'⟩
  ·unfold deq
   obtain⟨its,ri,pl,_⟩:=I.tuple q
   obtain⟨its',ri',pl',_⟩:=I.list q'
   exact⟨.tuple_list pl pl'.isList (by omega),.tuple_list pl pl'.isList (by omega)⟩
  ·unfold deq
   unfold dep at hu
   obtain⟨its,ri,pl,_⟩:=I.tuple q
   obtain⟨its',ri',pl',_⟩:=I.tuple q'
   have e1:=h.length
   have e2:=h'.length
   have e3:=ri.length
   have e4:=ri'.length
   have it:∀ j (h1:j<its.toArray.size) (h2:j<its'.toArray.size),bx A.in1 s its.toArray[j] its'.toArray[j] (deq (l.getD j (.lst [])) (l'.getD j (.lst []))):=fun j h1 h2=>by
    have:=Et I l l' A.in1 xs ys its its' h h' ri ri' (by show A.units+1+Bx l<cLine;omega) j (by simpa using h1) (by simpa using h2)
    simpa using this
   have T:=SeqAt.RcAt.tuples pl pl' (by omega) it
   have T':=SeqAt.RcNeAt.tuples pl pl' (by omega) it
   by_cases hl:l.length=l'.length
   ·rw [C8 (.lst []) hl]
    have hsz:its.toArray.size=l.length:=by simp;omega
    have hsz':its'.toArray.size=l.length:=by simp;omega
    rw [hsz,hsz',Nat.min_self,beq_self_eq_true,lh] at T T'
    exact⟨T,T'⟩
   ·rw [Ef hl]
    have hne:(its.toArray.size==its'.toArray.size)=false:=by
     rw [beq_eq_false_iff_ne];simp;omega
    rw [hne,iK] at T T'
    exact⟨T,T'⟩
theorem Ux (I:Inv X pins σ H s) {A:bi} {d:Dt} {a:Addr} {v:V} {u:Value} (h:At X.K H d (.ref a)) (f:Bd v=true) (r:RelV v u) (hu:A.units<cLine) :
  jd A s (.ref a) u false/\ge A s (.ref a) u true/\jd A s u (.ref a) false/\ge A s u (.ref a) true:=by
 rcases Ew h with ⟨l,xs,rfl,q,h⟩|⟨l,xs,rfl,q,h⟩
 ·obtain⟨its,ri,pl,_⟩:=I.list q
  cases v with
  | non=>cases r;exact⟨.list_none pl.isList hu,.list_none pl.isList hu,.none_list pl.isList hu,.none_list pl.isList hu⟩
  | bl b=>cases r;exact⟨.list_bool b pl.isList hu,.list_bool b pl.isList hu,.bool_list b pl.isList hu,.bool_list b pl.isList hu⟩
  | int b=>obtain⟨t,rfl⟩:=r;exact⟨.list_int b t pl.isList hu,.list_int b t pl.isList hu,.int_list b t pl.isList hu,.int_list b t pl.isList hu⟩
  | str b=>obtain⟨t,rfl⟩:=r;exact⟨.list_str b t pl.isList hu,.list_str b t pl.isList hu,.str_list b t pl.isList hu,.str_list b t pl.isList hu⟩
  | _=>exact absurd (show false=true from f) ar
 ·obtain⟨its,ri,pl,_⟩:=I.tuple q
  cases v with
  | non=>cases r;exact⟨.tuple_none pl hu,.tuple_none pl hu,.none_tuple pl hu,.none_tuple pl hu⟩
  | bl b=>cases r;exact⟨.tuple_bool b pl hu,.tuple_bool b pl hu,.bool_tuple b pl hu,.bool_tuple b pl hu⟩
  | int b=>obtain⟨t,rfl⟩:=r;exact⟨.tuple_int b t pl hu,.tuple_int b t pl hu,.int_tuple b t pl hu,.int_tuple b t pl hu⟩
  | str b=>obtain⟨t,rfl⟩:=r;exact⟨.tuple_str b t pl hu,.tuple_str b t pl hu,.str_tuple b t pl hu,.str_tuple b t pl hu⟩
  | _=>exact absurd (show false=true from f) ar
noncomputable def ab3 (K:ae) (neg:Bool):R2:=fun x y H Q=>∃ d d',At K H d x/\At K H d' y/\dep d<=40/\Q (.bl (if neg then !deq d d' else deq d d')) H
theorem ac7 (I:Inv X pins σ H s) {A:bi} {d d':Dt} {x y:V} {u v:Value} (h:At X.K H d x) (h':At X.K H d' y) (r:RelV x u) (r':RelV y v) (hr:(∃ a,x=.ref a) \/ ∃ b,y=.ref b) (hu:A.units+dep d<cLine) :
  jd A s u v (deq d d')/\ge A s u v (!deq d d'):=by
 by_cases hx:∃ a,x=.ref a
 ·obtain⟨a,rfl⟩:=hx
  cases r
  by_cases hy:∃ b,y=.ref b
  ·obtain⟨b,rfl⟩:=hy
   cases r'
   exact cb4 I h h' hu
  ·obtain⟨rfl,f⟩:=O1 h' (fun b e=>hy ⟨b,e⟩)
   obtain⟨q1,q2,_⟩:=Ux I h f r' (show A.units<cLine by omega)
   have e:deq d (.at_ y)=false:=by
    rcases Ew h with ⟨l,xs,rfl,_⟩|⟨l,xs,rfl,_⟩ <;> (unfold deq;rfl)
   rw [e]
   exact⟨q1,q2⟩
 ·have hy:∃ b,y=.ref b:=hr.resolve_left hx
  obtain⟨b,rfl⟩:=hy
  cases r'
  obtain⟨rfl,f⟩:=O1 h (fun b e=>hx ⟨b,e⟩)
  obtain⟨_,_,q1,q2⟩:=Ux I h' f r (show A.units<cLine by omega)
  have e:deq (.at_ x) d'=false:=by
   rcases Ew h' with ⟨l,xs,rfl,_⟩|⟨l,xs,rfl,_⟩ <;> (unfold deq;rfl)
  rw [e]
  exact⟨q1,q2⟩
theorem Qx (hu:X.A.units+64<cLine) {x y:V} {u v:Value} {Q:VK} (I:Inv X pins σ H s) (rx:RelV x u) (ry:RelV y v) (hr:(∃ a,x=.ref a) \/ ∃ b,y=.ref b) (h:ab3 X.K false x y H Q):aJ (model X.prog X.w) X.A (cm .Eq u v) (EP X pins σ Q) X.xe s:=by
 obtain⟨d,d',h1,h2,hd,q⟩:=h
 exact (ac7 I h1 h2 rx ry hr (A:=X.A) (by omega)).1 _ _ _ _ ⟨.bl _,H,I,rfl,q⟩
theorem Qy (hu:X.A.units+64<cLine) {x y:V} {u v:Value} {Q:VK} (I:Inv X pins σ H s) (rx:RelV x u) (ry:RelV y v) (hr:(∃ a,x=.ref a) \/ ∃ b,y=.ref b) (h:ab3 X.K true x y H Q):aJ (model X.prog X.w) X.A (cm .NotEq u v) (EP X pins σ Q) X.xe s:=by
 obtain⟨d,d',h1,h2,hd,q⟩:=h
 exact (ac7 I h1 h2 rx ry hr (A:=X.A) (by omega)).2 _ _ _ _ ⟨.bl _,H,I,rfl,q⟩
noncomputable def bk7 (a:Str) (k:Nat):Str:=⟨(bh k a.cps).foldl (· ++ ·) #[]⟩
noncomputable def ab8:R2:=fun x y H Q=>match x,y with
 | .str a,.int k=>0<a.length/\2<=k/\k<=1000/\a.length * k.toNat<=16777216/\(bk7 a k.toNat).length<=16777216/\Q (.str (bk7 a k.toNat)) H
 | _,_=>False
theorem an5:OpR X (cU .Mult) ab8:=by
 intro pins s σ H x y v u Q I rx ry h
 unfold ab8 at h
 split at h
 ·rename_i a k
  obtain⟨h1,h2,h3,h4,h5,q⟩:=h
  obtain⟨t,rfl⟩:=rx
  obtain⟨t',rfl⟩:=ry
  have e1:¬ k<1:=by omega
  have e2:(k==1||a.length==0)=false:=by
   rw [kj,beq_eq_false_iff_ne,beq_eq_false_iff_ne];omega
  refine PySem.P.mul_str ?_ (fun _ _=>?_) (fun _ _=>?_) ?_
  ·rw [kj,decide_eq_false_iff_not,decide_eq_false_iff_not];constructor <;> omega
  ·intro z
   have ek:((k.toNat:Nat):Int)=k:=h8 (by omega)
   have z3:(a.length:Int) * k<=16777216:=by rw [<- ek,<- d7];exact Int.ofNat_le.mpr h4
   have z4:(a.length:Int) * 1<=(a.length:Int) * k:=gT (by omega) (lq _)
   have z5:(2 ^ 63 - 1:Int) / 1000<=(2 ^ 63 - 1) / k:=Int.le_ediv_of_mul_le (by omega) (Int.le_trans (gT h3 (by decide)) (by decide))
   have z6:(16777216:Int)<=(2 ^ 63 - 1:Int) / 1000:=by decide
   omega
  ·show decide _=false;rw [bb];exact decide_eq_false (by omega)
  ·rw [if_neg e1,e2]
   exact⟨by rw [bb];exact h5,.str _,H,I.tok _,⟨_,rfl⟩,q⟩
 ·exact h.elim
theorem Gw:fillsNumberSlot (.type "tuple") "mul" = pure false:=
 PySem.fillsNumberSlot_seq (id := "tuple.__mul__") (r:=some (.builtin "tuple.__rmul__")) F.slot_tuple_mul.lookup (by decide +kernel) F.slot_tuple_rmul.lookup (by decide +kernel)
theorem Mu:seqRepeat? (.type "tuple")=pure (some (.builtin "tuple.__mul__")):=by
 unfold seqRepeat?
 rw [PySem.seqSlot_of (T := "tuple") (name := "__mul__") (id := "tuple.__mul__") F.slot_tuple_mul.lookup (by decide +kernel),PySem.seqSlot_of (T := "tuple") (name := "__rmul__") (id := "tuple.__rmul__") F.slot_tuple_rmul.lookup (by decide +kernel)]
 rfl
theorem Jf (a:Int) (t:Tok) (l:Addr) (its:Array Value) (n:Nat) (dd:Option Addr) (sl:Array (Option Value)) :
  PySem.Meets (aS.«int.__rmul__» ⟨[.int a t,.ref l],[]⟩) (fun _ R s=>s.heap.get? l=some { cls:=.type "tuple", dict:=dd,data:=.seq its n,slots:=sl }/\R (.ok (.ret Value.notImplemented)) s):=
 .of_wp fun prog w A R s h=>by obtain⟨hp,g,d,tk,os⟩:=s;obtain⟨hl,h⟩:=h;wp_walk using ce hl;exact⟨_,rfl,h⟩
theorem Kg (l:Addr) (its:Array Value) (n:Nat) (dd:Option Addr) (sl:Array (Option Value)) (k:Int) (t:Tok) (h1:2<=k) (hk:k<=1000) (h2:its.size≠0) (h3:its.size<=1000) :
  PySem.Meets (aS.«tuple.__mul__» ⟨[.ref l,.int k t],[]⟩) (fun _ R s=>s.heap.get? l=some { cls:=.type "tuple", dict:=dd,data:=.seq its n,slots:=sl }/\R (.ok (.ret (aR s.heap.objs.size))) { s with heap:=s.heap.push { cls:=d_ "tuple", data:=Data.seq (i8 (fun x1 x2=>x1++x2) #[] (bh k.toNat its)) },toks:=s.toks }):=
 .of_wp fun prog w A R s h=>by
  obtain⟨hp,g,d,tk,os⟩:=s;obtain⟨hl,h⟩:=h
  have f1:=AutoSeq1.idx_int
  have e0:its.isEmpty=false:=by rw [Array.isEmpty,decide_eq_false_iff_not];exact h2
  have ek:((k.toNat:Nat):Int)=k:=h8 (by omega)
  have hm:(its.size:Int) * k<=1000000:=by
   rw [<- ek,<- d7]
   exact Int.ofNat_le.mpr (kE h3 (show k.toNat<=1000 by omega))
  have hc0:¬ (decide (k < -2 ^ 63)||decide (k ≥ 2 ^ 63))=true:=by
   rw [dA,decide_eq_true_iff,decide_eq_true_iff];omega
  have hc1:¬ (its.isEmpty||k==1)=true:=by rw [e0,lj,beq_iff_eq];omega
  have hc2:¬ (decide (k<=0)||its.isEmpty)=true:=by rw [e0,lm,decide_eq_true_iff];omega
  have hc3:¬ (its.size:Int) * k > (2 ^ 63 - 1) / 8:=by
   have:(1000000:Int)<=(2 ^ 63 - 1) / 8:=by decide
   omega
  have hc4:¬ Builtin.Tuple.tupleTooMany ((its.size:Int) * k)=true:=by
   show ¬ decide _=true
   rw [bb,decide_eq_true_iff];omega
  wp_walk using ce hl
  refine gy (decide_eq_false hc0) ?_
  wp_walk using ce hl
  refine gy (decide_eq_false hc1) ?_
  wp_walk using ce hl
  refine gy (decide_eq_false hc2) ?_
  wp_walk using ce hl
  refine gy (decide_eq_false hc3) ?_
  wp_walk using ce hl
  have hc5:¬ (i8 (fun x1 x2=>x1++x2) #[] (bh k.toNat its)).size > sizeLine:=by
   have e:=Eu its.toList k.toNat []
   rw [ic] at e
   have e':its.toList.toArray=its:=by simp
   rw [e'] at e
   have e2:(#[]:Array Value)=([]:List Value).toArray:=rfl
   rw [e2,e,ao,Ma,bb,aU]
   have:=kE (show k.toNat<=1000 by omega) h3
   omega
  refine gy (decide_eq_false hc5) ?_
  wp_walk using ce hl
  exact⟨_,rfl,h⟩
noncomputable def az0 (K:ae):R2:=fun x y H Q=>∃ l k xs,x=.ref l/\y=.int k/\SqT K H l xs/\2<=k/\k<=1000/\xs.length≠0/\xs.length<=1000 /\ 
 ∀ p,H p=none->Q (.ref p) (upd H p (.tup (bh k.toNat xs).flatten))
theorem an7:OpR X (cU .Mult) (az0 X.K):=by
 intro pins s σ H x y v u Q I rx ry h
 obtain⟨l,k,xs,rfl,rfl,hH,h1,h2,h3,h4,q⟩:=h
 cases rx
 obtain⟨t,rfl⟩:=ry
 obtain⟨its,r,p1,_⟩:=I.tuple hH
 obtain⟨⟨cls,dd,data,sl⟩,ho,hc,n,hd⟩:=id p1
 simp only at hc hd
 subst hc hd
 have hnew:i8 (fun x1 x2=>x1++x2) #[] (bh k.toNat its.toArray)=(bh k.toNat its).flatten.toArray:=by
  have:=Eu its k.toNat []
  rw [ic] at this
  exact this
 have hl:=r.length
 refine iV (T := "tuple") (U := "int") (by decide) ⟨_,ho,rfl⟩ (fun s'=>kh s' k t) Gw F.fills_int_mul hW Mu F.slot_int_index.lookup
  (fI hW (kh s k t) F.entry_int_rmul (F.args_int_rmul_2 _ _) (Jf k t l its.toArray n dd sl)
   ⟨ho,rfl,⟨_,ho,rfl⟩,fI jv ⟨_,ho,rfl⟩ F.entry_tuple_mul (F.args_tuple_mul_2 _ _) (Kg l its.toArray n dd sl k t h1 h2 (by rw [ao,<- hl];exact h3) (by rw [ao,<- hl];exact h4)) ⟨ho,?_⟩⟩)
 rw [hnew]
 refine⟨.ref s.heap.objs.size,_,I.laid (t':=s.toks) (o:=.tup (bh k.toNat xs).flatten) (fun b ob q=>ag _ q) (ah _) ?_,rfl,q _ (I.hok.fresh (ah _))⟩
 exact⟨by rw [Ma,bb];exact aL (kE (show k.toNat<=1000 by omega) h4) (by decide),_,r.rep k.toNat,mj _ _⟩
end
end L2
set_option maxHeartbeats 1000000
namespace L2
open PySem PySem.Spec PyProof.Rows
theorem Vv {prog:aI} {w:bp} {A:bi} {E:Value->aj->Prop} {s:aj} {Q:Int->aj->Prop} (h:Q (reduceHash 4238894112) { s with toks:=s.toks+1 }):aJ (model prog w) A (pyHash .none) Q E s:=by
 show aJ (model prog w) A (pyHashByItsType .none) Q E s
 refine PySem.W.pyHash_slot (T := "NoneType") rfl PySem.F.slot_NoneType_hash PySem.F.entry_NoneType_hash (PySem.F.args_NoneType_hash_1 _) rfl (.inl rfl) ?_
 unfold aS.«NoneType.__hash__»
 refine af (m:=slotArgs "__hash__" 0 _) (ak ?_)
 unfold retInt
 exact af (wpAny_mkInt (ak ⟨_,_,rfl,h⟩))
noncomputable def bv1:Option Key->Value->Bool
 | none,v=>v==.none
 | some k,v=>F4 k v
theorem Ck {k:Option Key} {v:Value} (h:bv1 k v=true):(k=none/\v=.none) \/ ∃ k',k=some k'/\F4 k' v=true:=by
 cases k with
 | none=>exact .inl ⟨rfl,cI h⟩
 | some k=>exact .inr ⟨k,rfl,h⟩
noncomputable def Hk (prog:aI) (w:bp):PySem.KeyKind prog w (Option Key) where
 is:=bv1
 hash:=fun k=>match k with
  | none=>reduceHash 4238894112
  | some k=>bu7 w k
 inj:=fun v a b ha hb=>by
  rcases Ck ha with ⟨rfl,rfl⟩|⟨k,rfl,ha⟩
  ·rcases Ck hb with ⟨rfl,_⟩|⟨k',rfl,hb⟩
   ·rfl
   ·rcases Aw hb with ⟨_,_,_,e⟩|⟨_,_,_,e⟩ <;> cases e
  ·rcases Ck hb with ⟨rfl,rfl⟩|⟨k',rfl,hb⟩
   ·rcases Aw ha with ⟨_,_,_,e⟩|⟨_,_,_,e⟩ <;> cases e
   ·rw [(Ao prog w).inj v k k' ha hb]
 byValue:=fun k v h=>by
  rcases Ck h with ⟨rfl,rfl⟩|⟨k,rfl,h⟩
  ·rfl
  ·exact (Ao prog w).byValue k v h
 pyHash:=fun hv h=>by
  rcases Ck hv with ⟨rfl,rfl⟩|⟨k,rfl,hv⟩
  ·exact Vv h
  ·exact (Ao prog w).pyHash hv h
 eqBool:=fun hu hv h=>by
  rcases Ck hu with ⟨rfl,rfl⟩|⟨k,rfl,hu⟩
  ·rcases Ck hv with ⟨rfl,rfl⟩|⟨k',rfl,hv⟩
   ·exact SeqAt.EqAt.same _ _ _ _ _ (by simpa using h)
   ·rcases Aw hv with ⟨i,t,rfl,rfl⟩|⟨x,t,rfl,rfl⟩
    ·exact kX _ _ _ _ _ _ (by simpa using h)
    ·exact kY _ _ _ _ _ _ (by simpa using h)
  ·rcases Ck hv with ⟨rfl,rfl⟩|⟨k',rfl,hv⟩
   ·rcases Aw hu with ⟨i,t,rfl,rfl⟩|⟨x,t,rfl,rfl⟩
    ·exact kW _ _ _ _ _ _ (by simpa using h)
    ·exact kZ _ _ _ _ _ _ (by simpa using h)
   ·exact (Ao prog w).eqBool hu hv (by
     have e:decide (some k=some k')=decide (k=k'):=by by_cases q:k=k' <;> simp [q]
     rwa [e] at h)
 «strs»:=fun k x t v h=>by
  rcases Ck h with ⟨rfl,e⟩|⟨k,rfl,h⟩
  ·cases e
  ·exact (Ao prog w).strs k x t v h
section
variable {X:Cx} {pins:List (Addr×Obj)} {σ:St} {H:Hp} {s:aj} {A:bi} {E:Value->aj->Prop}
theorem La {prog:aI} {w:bp}:∀ {es:List DictEntry} {kvs:List (Key×Value)},Pairs (Ao prog w) es kvs->Pairs (Hk prog w) es (kvs.map fun kv=>(some kv.1,kv.2))
 | _,_,.nil=>.nil
 | _,_,.cons h1 h2 h3=>.cons (kv:=(some _,_)) h1 h2 (La h3)
theorem Og {prog:aI} {w:bp} {h:Heap} {a:Addr} {kvs:List (Key×Value)} (d:h.DictOf (Ao prog w) a kvs):h.DictOf (Hk prog w) a (kvs.map fun kv=>(some kv.1,kv.2)):=by
 obtain⟨o,es,ep,h1,h2,h3,h4,h5,h6⟩:=d
 refine⟨o,es,ep,h1,h2,h3,fun e he=>?_,La h5,?_⟩
 ·obtain⟨k,q1,q2⟩:=h4 e he
  exact⟨some k,q1,q2⟩
 ·rw [cr]
  have e:(iG ((fun x=>x.1)∘fun kv:Key×Value=>(some kv.1,kv.2)) kvs)=(kvs.map (·.1)).map some:=by rw [cr];rfl
  rw [e]
  exact List.pairwise_map.mpr (h6.imp fun n e=>n (aV e))
theorem Qu:∀ kvs:List (Key×Value),iU (kvs.map fun kv=>(some kv.1,kv.2)) none=none
 | []=>rfl
 | kv::r=>by
  have:=Qu r
  unfold iU at *
  rw [aK,cw]
  simpa using this
theorem ca0 {a:Addr} {kvs:List (Key×V)} {Q:Value->aj->Prop} (I:Inv X pins σ H s) (e:Rd H a (.dK kvs)) (h:∀ s',Inv X pins σ H s'->Q (.bool false) s'):aJ (model X.prog X.w) A (cm .In .none (.ref a)) Q E s:=by
 obtain⟨z,hd,vs,rel,dd⟩:=Di I.hok e
 refine my (knd:=Hk X.prog X.w) (k:=none) rfl hd (Og dd).mapOf ?_
 rw [Qu]
 exact h _ (I.tok _)
theorem am9 {a:Addr} {kvs:List (Key×V)} {Q:Value->aj->Prop} (I:Inv X pins σ H s) (e:Rd H a (.dK kvs)) (h:∀ s',Inv X pins σ H s'->Q (.bool true) s'):aJ (model X.prog X.w) A (cm .NotIn .none (.ref a)) Q E s:=by
 obtain⟨z,hd,vs,rel,dd⟩:=Di I.hok e
 refine kJ (knd:=Hk X.prog X.w) (k:=none) rfl hd (Og dd).mapOf ?_
 rw [Qu]
 exact h _ (I.tok _)
end
end L2
set_option maxHeartbeats 4000000
namespace L2
open PySem PySem.Spec PyProof.Rows
noncomputable def rNo:R2:=fun _ _ _ _=>False
noncomputable def A7 (K:ae):R2:=fun x y H Q=>match x,y with
 | .int i,.int j=>Q (.int (i+j)) H
 | .str a,.str b=>a.length+b.length<=sizeLine/\Q (.str (a++b)) H
 | .ref a,.ref b=>bz6 (.ref a) (.ref b) H Q\/ay8 K (.ref a) (.ref b) H Q\/ay7 K (.ref a) (.ref b) H Q
 | _,_=>False
noncomputable def az2:R2:=fun x y H Q=>match x,y with
 | .int i,.int j=>Q (.int (i - j)) H
 | _,_=>False
noncomputable def Cq (K:ae):R2:=fun x y H Q=>match x,y with
 | .int i,.int j=>CMul i j/\Q (.int (i * j)) H
 | .ref a,.int k=>bz8 (.ref a) (.int k) H Q\/az0 K (.ref a) (.int k) H Q
 | .str a,.int k=>ab8 (.str a) (.int k) H Q
 | _,_=>False
noncomputable def Br:R2:=fun x y H Q=>match x,y with
 | .int i,.int j=>a25 i j/\Q (.int (i / j)) H
 | _,_=>False
noncomputable def Bf:R2:=fun x y H Q=>match x,y with
 | .int i,.int j=>0<j/\Q (.int (i % j)) H
 | _,_=>False
noncomputable def ay9:R2:=fun x y H Q=>match x,y with
 | .int i,.int j=>Ww i j/\Q (.int (i ^ j.toNat)) H
 | _,_=>False
noncomputable def b00:R2:=fun x y H Q=>match x,y with
 | .int i,.int j=>Ww i j/\Q (.int (i * 2 ^ j.toNat)) H
 | _,_=>False
noncomputable def ac3:R2:=fun x y H Q=>match x,y with
 | .int i,.int j=>0<=j/\Q (.int (i / 2 ^ j.toNat)) H
 | _,_=>False
noncomputable def ay6:R2:=fun x y H Q=>match x,y with
 | .int i,.int j=>Q (.int (Builtin.bitAnd i j)) H
 | _,_=>False
noncomputable def ca9:R2:=fun x y H Q=>match x,y with
 | .int i,.int j=>Q (.int (Builtin.bitOr i j)) H
 | _,_=>False
noncomputable def b01:R2:=fun x y H Q=>match x,y with
 | .int i,.int j=>Q (.int (Builtin.bitXor i j)) H
 | _,_=>False
noncomputable def rOp (K:ae):mJ->R2
 | .Add=>A7 K
 | .Sub=>az2
 | .Mult=>Cq K
 | .FloorDiv=>Br
 | .Mod=>Bf
 | .Pow=>ay9
 | .LShift=>b00
 | .RShift=>ac3
 | .BitAnd=>ay6
 | .BitOr=>ca9
 | .BitXor=>b01
 | _=>rNo
section
variable {X:Cx}
theorem ca1 (op:mJ):OpR X (cU op) (rOp X.K op):=by
 intro pins s σ H x y v u Q I rx ry h
 cases op with
 | Add=>
  cases x <;> cases y <;> first
   | exact (show False from h).elim
   | exact bb9 pins s σ H _ _ v u Q I rx ry ⟨_,_,rfl,rfl,h⟩
   | exact Qw pins s σ H _ _ v u Q I rx ry ⟨_,_,rfl,rfl,h⟩
   | exact (op_cat.or (op_catT.or an3)) pins s σ H _ _ v u Q I rx ry h
 | Sub=>cases x <;> cases y <;> first|exact (show False from h).elim|exact bc9 pins s σ H _ _ v u Q I rx ry ⟨_,_,rfl,rfl,h⟩
 | Mult=>cases x <;> cases y <;> first|exact (show False from h).elim|exact bc4 pins s σ H _ _ v u Q I rx ry ⟨_,_,rfl,rfl,h⟩|exact (op_rep.or an7) pins s σ H _ _ v u Q I rx ry h|exact an5 pins s σ H _ _ v u Q I rx ry h
 | FloorDiv=>cases x <;> cases y <;> first|exact (show False from h).elim|exact an4 pins s σ H _ _ v u Q I rx ry ⟨_,_,rfl,rfl,h⟩
 | Mod=>cases x <;> cases y <;> first|exact (show False from h).elim|exact bc3 pins s σ H _ _ v u Q I rx ry ⟨_,_,rfl,rfl,h⟩
 | Pow=>cases x <;> cases y <;> first|exact (show False from h).elim|exact bc6 pins s σ H _ _ v u Q I rx ry ⟨_,_,rfl,rfl,h⟩
 | LShift=>cases x <;> cases y <;> first|exact (show False from h).elim|exact bc7 pins s σ H _ _ v u Q I rx ry ⟨_,_,rfl,rfl,h⟩
 | RShift=>cases x <;> cases y <;> first|exact (show False from h).elim|exact bc8 pins s σ H _ _ v u Q I rx ry ⟨_,_,rfl,rfl,h⟩
 | BitAnd=>cases x <;> cases y <;> first|exact (show False from h).elim|exact bc0 pins s σ H _ _ v u Q I rx ry ⟨_,_,rfl,rfl,h⟩
 | BitOr=>cases x <;> cases y <;> first|exact (show False from h).elim|exact by0 pins s σ H _ _ v u Q I rx ry ⟨_,_,rfl,rfl,h⟩
 | BitXor=>cases x <;> cases y <;> first|exact (show False from h).elim|exact bd0 pins s σ H _ _ v u Q I rx ry ⟨_,_,rfl,rfl,h⟩
 | _=>exact (show False from h).elim
end
noncomputable def Bz (K:ae) (neg:Bool):R2:=fun x y H Q=>match x,y with
 | .ref a,.ref b=>bi2 K neg (.ref a) (.ref b) H Q\/ab3 K neg (.ref a) (.ref b) H Q\/False\/False\/False
 | .ref a,y=>ab3 K neg (.ref a) y H Q\/False
 | x,.ref b=>ab3 K neg x (.ref b) H Q
 | .int i,.int j=>Q (.bl (if neg then !decide (i=j) else decide (i=j))) H
 | .str i,.str j=>Q (.bl (if neg then !decide (i=j) else decide (i=j))) H
 | .bl i,.bl j=>Q (.bl (if neg then !(i==j) else (i==j))) H
 | x,y=>bo0 x y=true/\Q (.bl (if neg then !decide (x=y) else decide (x=y))) H
noncomputable def Q7:R2:=fun x y H Q=>match x,y with
 | .int i,.int j=>Q (.bl (decide (i<j))) H
 | .str i,.str j=>Q (.bl (decide (i.cps.toList<j.cps.toList))) H
 | _,_=>False
noncomputable def ca8:R2:=fun x y H Q=>match x,y with
 | .int i,.int j=>Q (.bl (decide (i<=j))) H
 | .str i,.str j=>Q (.bl (!decide (j.cps.toList<i.cps.toList))) H
 | _,_=>False
noncomputable def ca4:R2:=fun x y H Q=>match x,y with
 | .int i,.int j=>Q (.bl (decide (j<i))) H
 | _,_=>False
noncomputable def ca3:R2:=fun x y H Q=>match x,y with
 | .int i,.int j=>Q (.bl (decide (j<=i))) H
 | _,_=>False
noncomputable def Q5 (K:ae) (neg:Bool):R2:=fun x y H Q=>match x,y with
 | .non,.ref p=>rIn K neg .non (.ref p) H Q \/ ∃ kvs,Rd H p (.dK kvs)/\Q (.bl neg) H
 | x,.ref p=>rIn K neg x (.ref p) H Q \/ ∃ o,D7 H p x o/\Q (.bl (if neg then !o.isSome else o.isSome)) H
 | _,_=>False
noncomputable def Wg (neg:Bool):R2:=fun x y H Q=>match y with
 | .non=>Q (.bl (if neg then !decide (x=.non) else decide (x=.non))) H
 | .bl d=>(match x with
  | .bl c=>Q (.bl (if neg then !(c==d) else (c==d))) H
  | _=>False)
 | _=>False
noncomputable def Kh (K:ae):md->R2
 | .Eq=>Bz K false
 | .NotEq=>Bz K true
 | .Lt=>Q7
 | .LtE=>ca8
 | .Gt=>ca4
 | .GtE=>ca3
 | .In=>Q5 K false
 | .NotIn=>Q5 K true
 | .Is=>Wg false
 | .IsNot=>Wg true
section
variable {X:Cx}
theorem Ks (hu:X.A.units+64<cLine) (op:md):OpR X (cm op) (Kh X.K op):=by
  intro pins s σ H x y v u Q I rx ry h
  cases op with
  | Eq=>
    cases x <;> cases y <;> first
      | (rcases h with h|h|h|h|h
         . exact bc1 (by omega) pins s σ H _ _ v u Q I rx ry h
         . exact Qx hu I rx ry (.inl ⟨_,rfl⟩) h
         . exact h.elim
         . exact h.elim
         . exact h.elim)
      | (rcases h with h|h
         . exact Qx hu I rx ry (.inl ⟨_,rfl⟩) h
         . exact h.elim)
      | exact Qx hu I rx ry (.inr ⟨_,rfl⟩) h
      | exact Fa pins s σ H _ _ v u Q I rx ry h
      | exact Fa pins s σ H _ _ v u Q I rx ry ⟨rfl,by rw [Hc,fh];exact h⟩
      | exact Fa pins s σ H _ _ v u Q I rx ry ⟨rfl,by rw [Hd,fh];exact h⟩
      | exact Fa pins s σ H _ _ v u Q I rx ry ⟨rfl,by rw [Ly];exact h⟩
  | NotEq=>
    cases x <;> cases y <;> first
      | (rcases h with h|h|h|h|h
         . exact bc5 (by omega) pins s σ H _ _ v u Q I rx ry h
         . exact Qy hu I rx ry (.inl ⟨_,rfl⟩) h
         . exact h.elim
         . exact h.elim
         . exact h.elim)
      | (rcases h with h|h
         . exact Qy hu I rx ry (.inl ⟨_,rfl⟩) h
         . exact h.elim)
      | exact Qy hu I rx ry (.inr ⟨_,rfl⟩) h
      | exact Uj pins s σ H _ _ v u Q I rx ry h
      | exact Uj pins s σ H _ _ v u Q I rx ry ⟨rfl,by rw [Hc,fh];exact h⟩
      | exact Uj pins s σ H _ _ v u Q I rx ry ⟨rfl,by rw [Hd,fh];exact h⟩
      | exact Uj pins s σ H _ _ v u Q I rx ry ⟨rfl,by rw [Ly];exact h⟩
  | Lt=>cases x <;> cases y <;> first|exact (show False from h).elim|exact bx9 pins s σ H _ _ v u Q I rx ry ⟨_,_,rfl,rfl,h⟩|exact Wb pins s σ H _ _ v u Q I rx ry ⟨_,_,rfl,rfl,h⟩
  | LtE=>cases x <;> cases y <;> first|exact (show False from h).elim|exact bx8 pins s σ H _ _ v u Q I rx ry ⟨_,_,rfl,rfl,h⟩|exact Wa pins s σ H _ _ v u Q I rx ry ⟨_,_,rfl,rfl,h⟩
  | Gt=>cases x <;> cases y <;> first|exact (show False from h).elim|exact bx7 pins s σ H _ _ v u Q I rx ry ⟨_,_,rfl,rfl,h⟩
  | GtE=>cases x <;> cases y <;> first|exact (show False from h).elim|exact bx6 pins s σ H _ _ v u Q I rx ry ⟨_,_,rfl,rfl,h⟩
  | In=>cases x <;> cases y <;> first|exact (show False from h).elim|exact h.elim (K7 pins s σ H _ _ v u Q I rx ry) (fun⟨o,g,q⟩=>by cases ry;exact b93 (by omega) I g rx fun s' I'=>⟨.bl _,H,I',rfl,q⟩)|exact h.elim (K7 pins s σ H _ _ v u Q I rx ry) fun⟨kvs,g,q⟩=>by cases rx;cases ry;exact ca0 I g fun s' I'=>⟨.bl _,H,I',rfl,q⟩
  | NotIn=>cases x <;> cases y <;> first|exact (show False from h).elim|exact h.elim (Gc pins s σ H _ _ v u Q I rx ry) (fun⟨o,g,q⟩=>by cases ry;exact ak0 (by omega) I g rx fun s' I'=>⟨.bl _,H,I',rfl,q⟩)|exact h.elim (Gc pins s σ H _ _ v u Q I rx ry) fun⟨kvs,g,q⟩=>by cases rx;cases ry;exact am9 I g fun s' I'=>⟨.bl _,H,I',rfl,q⟩
  | Is=>cases y <;> first|exact (show False from h).elim|exact bc2 pins s σ H _ _ v u Q I rx ry ⟨rfl,h⟩|(cases x <;> first|exact (show False from h).elim|(cases rx;cases ry;exact is_bool ⟨.bl _,H,I,rfl,h⟩))
  | IsNot=>cases y <;> first|exact (show False from h).elim|exact an6 pins s σ H _ _ v u Q I rx ry ⟨rfl,h⟩|(cases x <;> first|exact (show False from h).elim|(cases rx;cases ry;exact isnot_bool ⟨.bl _,H,I,rfl,h⟩))
end
noncomputable def Uv:V->Hp->VK->Prop:=fun x H Q=>match x with
 | .int i=>Q (.int (-i)) H
 | _=>False
theorem ce3 {X:Cx}:UnR X (mU .USub) Uv:=by
 intro pins s σ H x v Q I rx h
 cases x <;> first|exact (show False from h).elim|exact bp3 pins s σ H _ v Q I rx ⟨_,rfl,h⟩
noncomputable def ab4:V->Hp->VK->Prop:=fun x H Q=>match x with
 | .int i=>Q (.int (Builtin.bitNot i)) H
 | _=>False
theorem bu6 {X:Cx}:UnR X (mU .Invert) ab4:=by
 intro pins s σ H x v Q I rx h
 cases x <;> first|exact (show False from h).elim|exact bp2 pins s σ H _ v Q I rx ⟨_,rfl,h⟩
theorem U9 {X:Cx}:bs5 X (ag5 X.K):=by
 intro pins s σ H x v Q I rx h
 cases x with
 | non=>exact J9 pins s σ H _ v Q I rx ⟨_,rfl,h⟩
 | bl b=>exact J9 pins s σ H _ v Q I rx ⟨_,rfl,h⟩
 | int i=>exact J9 pins s σ H _ v Q I rx ⟨_,rfl,h⟩
 | str y=>exact J9 pins s σ H _ v Q I rx ⟨_,⟨h.1,rfl⟩,h.2⟩
 | ref p=>exact J9 pins s σ H _ v Q I rx h
 | _=>exact (show False from h).elim
inductive SqX (K:ae) (H:Hp) (p:Addr) (i:Int) (xs:List V):Prop where
 | inl (h:SqL K H p xs)
 | inr (h:SqT K H p xs)
 | dk (h:∀ v,atI xs i=some v->D7 H p (.int i) (some v))
noncomputable def Av (K:ae):R2:=fun x y H Q=>match x,y with
 | .str z,.int i=>z.length<=sizeLine /\ ∃ c,atI z.cps.toList i=some c/\Q (.str ⟨#[c]⟩) H
 | .ref p,.int i=>∃ xs v,SqX K H p i xs/\atI xs i=some v/\Q v H
 | .ref p,.str k=>∃ v,D7 H p (.str k) (some v)/\Q v H
 | .ref p,.ref b=>∃ v,D7 H p (.ref b) (some v)/\Q v H
 | _,_=>False
theorem b97 {X:Cx} (hu:X.A.units+64<cLine):IxR X (Av X.K):=by
  intro value slice pins s σ H x y v u Q I rx ry h hs
  cases x <;> cases y <;> first
    | exact (show False from h).elim
    | (obtain⟨h1,c,h2,h3⟩:=h;exact a74 value slice pins s σ H _ _ v u Q I rx ry ⟨_,_,c,rfl,rfl,h1,h2,h3⟩ hs)
    | (obtain⟨xs,w,h1|h1|h1,h2,h3⟩:=h
       . exact am1 value slice pins s σ H _ _ v u Q I rx ry ⟨_,_,_,_,rfl,rfl,h1,h2,h3⟩ hs
       . exact a75 value slice pins s σ H _ _ v u Q I rx ry ⟨_,_,_,_,rfl,rfl,h1,h2,h3⟩ hs
       . exact Ud hu value slice pins s σ H _ _ v u Q I rx ry ⟨_,w,rfl,h1 w h2,h3⟩ hs)
    | (obtain⟨w,h1,h2⟩:=h;exact Ud hu value slice pins s σ H _ _ v u Q I rx ry ⟨_,w,rfl,h1,h2⟩ hs)
noncomputable def ac6:V->V->V->Hp->(Hp->Prop)->Prop:=fun o i v H N=>match o,i with
 | .ref p,.int k=>(∃ xs j,H p=some (.lst xs)/\ixN xs.length k=some j/\N (upd H p (.lst (xs.set j v)))) \/ ∃ H',DPut H p (.int k) v H'/\N H'
 | .ref p,i=>∃ H',DPut H p i v H'/\N H'
 | _,_=>False
theorem b42 {X:Cx} (hu:X.A.units+64<cLine):a48 X ac6:=by
 intro pins s σ H o i v ov iv u Q I ro ri rv h
 cases o with
 | ref p=>
  have dp:∀ {H'},DPut H p i v H'->Q H'->aJ (model X.prog X.w) X.A (setItem ov iv u) (fun _ s'=>∃ H',Inv X pins σ H' s'/\Q H') X.xe s:=fun {H'} g q=>by
   cases ro
   exact Vn (by omega) I g ri rv fun s' I'=>⟨H',I',q⟩
  cases i with
  | int k=>
   rcases h with ⟨xs,j,h1,h2,h3⟩|⟨H',g,q⟩
   ·exact ad9 pins s σ H _ _ v ov iv u Q I ro ri rv ⟨p,xs,k,j,rfl,rfl,h1,h2,h3⟩
   ·exact dp g q
  | _=>obtain⟨H',g,q⟩:=h;exact dp g q
 | _=>exact (show False from h).elim
noncomputable def Fb (K:ae) (f:Str):V->Hp->VK->Prop:=fun x H Q=>match x with
 | .ref a=>(∃ C dx fs v,H a=some (.ins C dx fs)/\Cls K C/\NoAttr K C f/\fs.lookup f=some v/\Q v H)\/(∃ C fs v,ExcAt H a C fs/\ECls K C/\NoAttr K C f/\fs.lookup f=some v/\Q v H)
 | _=>False
noncomputable def az1 (K:ae) (f:Str):V->V->Hp->(Hp->Prop)->Prop:=fun x y H N=>match x with
 | .ref a=>(∃ C dx fs,H a=some (.ins C dx fs)/\Cls K C/\NoAttr K C f/\fs.length<1000/\N (upd H a (.ins C dx (D6 f y fs))))\/(∃ C,ECls K C/\NoAttr K C f/\bs3 H a C f y N)
 | _=>False
section
variable {X:Cx} {pins:List (Addr×Obj)} {σ:St} {H:Hp} {s:aj} {A:bi} {E:Value->aj->Prop}
theorem bt6 {f:Str} {x:V} {u:Value} {b:Bool} {Q:VK} (I:Inv X pins σ H s) (rx:RelV x u) (h:Fb X.K f x H Q):aJ (model X.prog X.w) A (k9 u f b) (EP X pins σ Q) E s:=by
 cases x with
 | ref a=>
  cases rx
  rcases h with ⟨C,dx,fs,v,ea,c,n,l,q⟩|⟨C,fs,v,ea,c,n,l,q⟩
  ·exact Qj I ea c n l fun u' s2 I2 ru=>⟨v,H,I2,ru,q⟩
  ·exact Vu I ea c n l fun u' s2 I2 ru=>⟨v,H,I2,ru,q⟩
 | _=>exact (show False from h).elim
theorem b39 {f:Str} {x y:V} {u v:Value} {N:Hp->Prop} {Q:Unit->aj->Prop} (I:Inv X pins σ H s) (rx:RelV x u) (ry:RelV y v) (h:az1 X.K f x y H N) (hQ:∀ H' s',Inv X pins σ H' s'->N H'->Q () s') :
  aJ (model X.prog X.w) A (mr u f v) Q E s:=by
 cases x with
 | ref a=>
  cases rx
  rcases h with ⟨C,dx,fs,ea,c,n,l,q⟩|⟨C,c,n,q⟩
  ·exact Rx I ea c n l ry fun s3 I3=>hQ _ _ I3 q
  ·exact Wl I c n ry q hQ
 | _=>exact (show False from h).elim
end
structure FI where
 f:Addr
 fd:au
 ps:List Str
 k:Nat
 sp:Sp
 dfs:List V
 ds:List Value
structure MI where
 C:Addr
 i:FI
inductive GB where
 | fn (i:FI)
 | cls (C:Addr) (i:Option FI)
 | met (m:Str) (l:List MI)
 | val (v:V) (u:Value)
 | exc (C:Addr) (i:Option FI)
 | ini (C:Addr) (i:FI)
 | dic (a:Addr) (kvs:List (Key×V))
 | key (m:Str) (l:List MI)
noncomputable def au5 (gb:List (Str×GB)):List FI:=gb.filterMap fun p=>match p.2 with
 | .fn i=>some i
 | _=>none
noncomputable def Bu:List (Str×GB)->Str->Option (List MI)
 | [],_=>none
 | (_,.met m l)::r,x=>if m=x then some l else Bu r x
 | _::r,x=>Bu r x
theorem Bb:∀ {gb:List (Str×GB)} {x:Str} {l:List MI},Bu gb x=some l -> ∃ k,(k,GB.met x l)∈gb
 | (k,.met m l')::r,x,l,h=>by
  unfold Bu at h
  by_cases e:m=x
  ·rw [if_pos e] at h;cases h;subst e;exact⟨k,by simp⟩
  ·rw [if_neg e] at h;obtain⟨k,q⟩:=Bb h;exact⟨k,aC _ q⟩
 | (_,.fn _)::r,x,l,h=>by unfold Bu at h;obtain⟨k,q⟩:=Bb h;exact⟨k,aC _ q⟩
 | (_,.cls _ _)::r,x,l,h=>by unfold Bu at h;obtain⟨k,q⟩:=Bb h;exact⟨k,aC _ q⟩
 | (_,.val _ _)::r,x,l,h=>by unfold Bu at h;obtain⟨k,q⟩:=Bb h;exact⟨k,aC _ q⟩
 | (_,.dic _ _)::r,x,l,h=>by unfold Bu at h;obtain⟨k,q⟩:=Bb h;exact⟨k,aC _ q⟩
 | (_,.key _ _)::r,x,l,h=>by unfold Bu at h;obtain⟨k,q⟩:=Bb h;exact⟨k,aC _ q⟩
 | (_,.ini _ _)::r,x,l,h=>by unfold Bu at h;obtain⟨k,q⟩:=Bb h;exact⟨k,aC _ q⟩
 | (_,.exc _ _)::r,x,l,h=>by unfold Bu at h;obtain⟨k,q⟩:=Bb h;exact⟨k,aC _ q⟩
noncomputable def Fy:List (Str×GB)->Str->Option (List MI)
 | [],_=>none
 | (_,g)::r,x=>match g with
  | .key m l=>if m=x then some l else Fy r x
  | _=>Fy r x
theorem Eg:∀ {gb:List (Str×GB)} {x:Str} {l:List MI},Fy gb x=some l -> ∃ k,(k,GB.key x l)∈gb
 | [],_,_,h=>by cases h
 | (k,g)::r,x,l,h=>by
  unfold Fy at h
  split at h
  ·split at h
   ·rename_i e
    cases h
    subst e
    exact⟨k,bv⟩
   ·obtain⟨k,q⟩:=Eg h;exact⟨k,aC _ q⟩
  ·obtain⟨k,q⟩:=Eg h;exact⟨k,aC _ q⟩
structure Sg where
 K:ae
 N:List Str
 sc:List (Str×cu)
 gb:List (Str×GB)
 bl:List Str
 top:Bool
 calm:Bool
noncomputable def C2:List Str->Str->Nat->Option Nat
 | [],_,_=>none
 | y::r,x,i=>if y=x then some i else C2 r x (i+1)
theorem Ld:∀ {N:List Str} {x:Str} {i j:Nat},C2 N x j=some i->j<=i/\N[i - j]? = some x
 | [],_,_,_,h=>by cases h
 | y::r,x,i,j,h=>by
  unfold C2 at h
  by_cases e:y=x
  ·rw [if_pos e] at h
   cases h
   refine⟨ah _,?_⟩
   rw [Nat.sub_self,e]
   rfl
  ·rw [if_neg e] at h
   obtain⟨h1,h2⟩:=Ld h
   refine⟨by omega,?_⟩
   have:i - j=(i - (j+1))+1:=by omega
   rw [this,cG]
   exact h2
theorem Em {N:List Str} {x:Str} {i:Nat} (h:C2 N x 0=some i):N[i]? = some x:=(Ld h).2
noncomputable def Ds (x:Str):Bool:=!(x==("__debug__" : Str)) && !(x==("__classdict__" : Str)) && !(x==("__name__" : Str))
noncomputable def Gp (G:Sg) (x:Str):Bool:=(G.sc.lookup x==some .globalImplicit)&&Ds x
noncomputable def Sx (x:Str):Option String:=
 if x = "int" then some "int" else if x = "bool" then some "bool" else if x = "str" then some "str" else if x = "list" then some "list" else if x = "tuple" then some "tuple" else if x = "dict" then some "dict" else if x = "ValueError" then some "ValueError" else none
theorem aj6:cS "ValueError" = some (.type "ValueError"):=by decide +kernel
theorem Wu {x:Str} {T:String} (h:Sx x=some T):cS x=some (.type T):=by
 unfold Sx at h
 by_cases e1:x = "int"
 ·rw [if_pos e1] at h;cases h;rw [e1];exact jZ
 rw [if_neg e1] at h
 by_cases e2:x = "bool"
 ·rw [if_pos e2] at h;cases h;rw [e2];exact PyProof.Rows.boot_bool
 rw [if_neg e2] at h
 by_cases e3:x = "str"
 ·rw [if_pos e3] at h;cases h;rw [e3];exact PyProof.Rows.boot_str
 rw [if_neg e3] at h
 by_cases e4:x = "list"
 ·rw [if_pos e4] at h;cases h;rw [e4];exact jK
 rw [if_neg e4] at h
 by_cases e5:x = "tuple"
 ·rw [if_pos e5] at h;cases h;rw [e5];exact jk
 rw [if_neg e5] at h
 by_cases e6:x = "dict"
 ·rw [if_pos e6] at h;cases h;rw [e6];exact PyProof.Rows.boot_dict
 rw [if_neg e6] at h
 by_cases e7:x = "ValueError"
 ·rw [if_pos e7] at h;cases h;rw [e7];exact aj6
 rw [if_neg e7] at h
 cases h
noncomputable def N7 (CX:CXT) (X:Cx):Prop:=∀ Ex,Meets X Ex -> ∀ (pins:List (Addr×Obj)) (σ:St) (H:Hp) (s:aj) (e:Value) (s':aj),Inv X pins σ H s->CX X.stack H s (fun v _ H'=>∃ a,v=.ref a/\Ex σ a H') e s'->X.xe e s'
structure D8 (X:Cx) (i:FI):Prop where
 kp:aN X.K (.ref i.f)=true
 ok:∃ CX,(∀ X':Cx,X'.prog=X.prog->X'.w=X.w->N7 CX X')/\FnOk X.prog X.w X.K X.mg X.base CX i.k i.f i.fd i.ps i.sp
 room:Room i.k X.A
 binds:∀ j,j<=i.dfs.length->Binds X.K i.fd i.ps (i.ds.drop j)
 vals:Vals i.dfs i.ds
noncomputable def Hr (X:Cx) (C:Addr):Option FI->Prop
 | none=>aq X.K (.ref C) "__init__" = some (some (.builtin "ValueError.__init__"))
 | some i=>aq X.K (.ref C) "__init__" = some (some (.ref i.f))/\cR X.K (.ref i.f)=true/\D8 X i/\Room (i.k+1) X.A
noncomputable def Wz (X:Cx) (C:Addr):Option FI->Prop
 | none=>bM X.K C=true/\aq X.K (.ref C) "__init__" = some (some (.builtin "object.__init__"))
 | some i=>bM X.K C=true/\aq X.K (.ref C) "__init__" = some (some (.ref i.f))/\cR X.K (.ref i.f)=true/\D8 X i/\Room (i.k+1) X.A
structure X4 (K:ae) (C f:Addr):Prop where
 ga:dw K (.ref C) "__getattribute__" = some (some (.builtin "type.__getattribute__"))
 rd:PySem.W.readsIn K C (.type "type")=true
 fc:PySem.W.findCls K (.ref C) (.type "type") "__init__" = some (.val (.ref f))
 hh:fV (.ref f)=true
noncomputable def Ng (P:aI) (w:bp) (K:ae) (a:Addr) (kvs:List (Key×V)):Prop:=(a==cV)=false /\ ∃ vs,KV kvs vs /\ ∀ h:Heap,K.In h->h.DictOf (Ao P w) a vs
structure ai0 (X:Cx) (m:Str) (mi:MI):Prop where
 c:Cls X.K mi.C
 k:Bs X.K mi.C m mi.i.f
 sg:dw X.K (.ref mi.i.f) "__get__" = some (some (.builtin "function.__get__"))
 tk:fw X.K (.ref mi.i.f)=some false
 cn:PySem.W.copiedNames.contains m=false
 fi:D8 X mi.i
 room:Room (mi.i.k+2) X.A
noncomputable def GBOk (X:Cx) (x:Str):GB->Prop
 | .dic a kvs=>X.mg x=some (.ref a)/\Ng X.prog X.w X.K a kvs
 | .fn i=>X.mg x=some (.ref i.f)/\D8 X i
 | .val v u=>X.mg x=some u/\RelV v u
 | .exc C oi=>X.mg x=some (.ref C)/\aN X.K (.ref C)=true/\ECls X.K C/\Hr X C oi
 | .cls C oi=>X.mg x=some (.ref C)/\aN X.K (.ref C)=true/\Wz X C oi
 | .met m l=>∀ mi∈l,Cls X.K mi.C/\Bs X.K mi.C m mi.i.f/\D8 X mi.i
 | .ini C i=>X.mg x=some (.ref C)/\X4 X.K C i.f/\D8 X i
 | .key m l=>∀ mi∈l,ai0 X m mi
theorem GBOk.to {X X':Cx} (hm:X'.mg=X.mg) (hK:X'.K=X.K) (hP:X'.prog=X.prog) (hw:X'.w=X.w) (hA:∀ k,Room k X.A->Room k X'.A) (hf:∀ i,D8 X i->D8 X' i) {x:Str} {g:GB} (h:GBOk X x g):GBOk X' x g:=by
 cases g with
 | fn i=>exact⟨hm▸h.1,hf i h.2⟩
 | val v u=>exact⟨hm▸h.1,h.2⟩
 | exc C oi=>
  obtain⟨a,b,c,d⟩:=h
  refine⟨hm▸a,hK▸b,hK▸c,?_⟩
  cases oi with
  | none=>unfold Hr at d ⊢;rw [hK];exact d
  | some i=>obtain⟨d1,d2,d3,d4⟩:=d;exact⟨hK▸d1,hK▸d2,hf i d3,hA _ d4⟩
 | cls C oi=>
  obtain⟨a,b,d⟩:=h
  refine⟨hm▸a,hK▸b,?_⟩
  cases oi with
  | none=>unfold Wz at d ⊢;rw [hK];exact d
  | some i=>obtain⟨d1,d2,d3,d4,d5⟩:=d;exact⟨hK▸d1,hK▸d2,hK▸d3,hf i d4,hA _ d5⟩
 | met m l=>exact fun mi hi=>⟨hK▸(h mi hi).1,hK▸(h mi hi).2.1,hf _ (h mi hi).2.2⟩
 | ini C i=>exact⟨hm▸h.1,hK▸h.2.1,hf i h.2.2⟩
 | dic a kvs=>exact⟨hm▸h.1,by rw [hP,hw,hK];exact h.2⟩
 | key m l=>exact fun mi hi=>let q:=h mi hi;⟨hK▸q.c,hK▸q.k,hK▸q.sg,hK▸q.tk,q.cn,hf _ q.fi,hA _ q.room⟩
noncomputable def FrH (X:Cx):Prop:=∃ (e0:Env) (o0:List Env) (L:Addr),X.stack=e0::o0/\e0.frame=some L/\X.env.frame=some L
structure GOk (X:Cx) (G:Sg):Prop where
 K:X.K=G.K
 kind:X.env.scope.kind=.function
 own:G.top=true->lA (model X.prog X.w) X.A X.env X.xe
 N:X.N=G.N
 nd:G.N.Nodup
 sc:∀ x,X.env.scope.names.lookup x=G.sc.lookup x
 vis:∀ x∈G.N,Vis X.env.scope x
 top:G.top=true -> ∀ x,X.fn x=true
 calm:G.calm=X.calm
 hd:X.calm=true->X.A.handled=none
 units:X.A.units+64<cLine
 cel:∀ x,(X.env.scope.names.lookup x=some .cell\/X.env.scope.names.lookup x=some .free) -> ∃ c,X.env.cells.lookup x=some c
 gb:∀ x g,(x,g)∈G.gb->GBOk X x g
 bl:∀ x,G.bl.contains x=true->X.mg x=none
 frm:G.top=true->X.stack=X.env::X.outer/\X.env.frame=some X.env.locals
 fr:FrH X
section
variable {X:Cx} {G:Sg}
theorem GOk.at_ (O:GOk X G) (x:Str) (g:GB) (e:G.gb.lookup x=some g):GBOk X x g:=O.gb x g (b7 e)
theorem GOk.fns (O:GOk X G) {i:FI} (h:i∈au5 G.gb):D8 X i:=by
 obtain⟨⟨x,g⟩,hx,e⟩:=List.mem_filterMap.mp h
 cases g with
 | fn j=>cases e;exact (O.gb x _ hx).2
 | _=>cases e
theorem GOk.met (O:GOk X G) (m:Str) (l:List MI) (e:Bu G.gb m=some l):∀ mi∈l,Cls X.K mi.C/\Bs X.K mi.C m mi.i.f/\D8 X mi.i:=by
 obtain⟨x,hx⟩:=Bb e
 exact O.gb x _ hx
theorem GOk.gl (O:GOk X G) {x:Str} (h:Gp G x=true):Gl X x:=by
 unfold Gp at h
 rw [aA] at h
 have:=cI h.1
 unfold Gl
 show X.env.scope.names.lookup x=_
 rw [O.sc x]
 exact this
theorem Mj {x:Str} (h:Ds x=true):(x==("__debug__" : Str))=false/\(x==("__classdict__" : Str))=false/\x ≠ "__name__" := by
 unfold Ds at h
 simp only [aA,i0] at h
 exact⟨h.1.1,h.1.2,fun e=>by rw [e] at h;simp at h⟩
theorem Ql {x:Str} (h:Gp G x=true):(x==("__debug__" : Str))=false/\(x==("__classdict__" : Str))=false/\x ≠ "__name__" := by
 unfold Gp at h
 rw [aA] at h
 exact Mj h.2
noncomputable def Pn (G:Sg) (x:Str):DE:=
 match C2 G.N x 0 with
 | some i=>if Ds x=true then Ac i else dNo
 | none=>if Gp G x=true then (match G.gb.lookup x with
   | some (.val v _)=>dC v
   | some (.exc C _)=>dC (.ref C)
   | some (.cls C _)=>dC (.ref C)
   | some (.ini C _)=>dC (.ref C)
   | some _=>dNo
   | none=>if G.bl.contains x=true then (match Sx x with
    | some T=>dC (.ty T)
    | none=>dNo) else dNo) else dNo
theorem A8 {e:Expr}:QE X e dNo:=fun _ _ _ _ _ _ _ _ h=>h.elim
theorem bg6 {i:Nat} {x:Str} {pos:Pos} (hN:X.N[i]? = some x) (hv:Vis X.env.scope x) (hp:Ds x=true):QE X (.Name x pos) (Ac i):=by
 intro Ex _ pins s σ H Q I h
 unfold Ac at h
 split at h
 ·rename_i v e
  exact bd9 hN hv (Mj hp).1 (Mj hp).2.1 pins s σ H Q I ⟨v,e,h⟩
 ·exact h.elim
theorem Mo (O:GOk X G) (x:Str) (pos:Pos):QE X (.Name x pos) (Pn G x):=by
 unfold Pn
 split
 ·rename_i i e
  split
  ·rename_i hp
   have hi:=Em e
   exact bg6 (by rw [O.N];exact hi) (O.vis x (aX hi)) hp
  ·exact A8
 ·split
  ·rename_i hg
   have dd:=Ql hg
   split
   ·rename_i v u e
    obtain⟨h1,h2⟩:=O.at_ x _ e
    exact fun _ _=>Ge (O.gl hg) h1 h2 dd.1
   ·rename_i C oi e
    exact fun _ _=>Ge (v:=.ref C) (O.gl hg) (O.at_ x _ e).1 rfl dd.1
   ·rename_i C oi e
    exact fun _ _=>Ge (v:=.ref C) (O.gl hg) (O.at_ x _ e).1 rfl dd.1
   ·rename_i C i e
    exact fun _ _=>Ge (v:=.ref C) (O.gl hg) (O.at_ x _ e).1 rfl dd.1
   ·exact A8
   ·split
    ·rename_i hb
     split
     ·rename_i T e
      exact fun _ _=>ao1 (O.gl hg) (O.bl x hb) (Wu e) rfl dd.2.2 dd.1
     ·exact A8
    ·exact A8
  ·exact A8
noncomputable def ah3:Const->DE
 | .int i=>dC (.int i)
 | .bool b=>dC (.bl b)
 | .none=>dC .non
 | .str x=>dC (.str x)
 | _=>dNo
theorem Z9 (c:Const) (j:Nat) (pos:Pos):QE X (.Constant c j pos) (ah3 c):=by
 cases c with
 | int i=>exact fun _ _=>bd3
 | bool b=>exact fun _ _=>by2
 | none=>exact fun _ _=>bd5
 | str x=>exact fun _ _=>bd7
 | _=>exact A8
variable {a b c:Expr} {da db dc:DE} {ta tb:DT} {es:List Expr} {r:DA} {pos:Pos}
theorem bf0 (op:mJ) (ha:QE X a da) (hb:QE X b db):QE X (.BinOp a op b pos) (Af (rOp X.K op) da db):=fun Ex m=>by4 (ca1 op) (ha Ex m) (hb Ex m)
theorem bg1 (ha:QE X a da):QE X (.UnaryOp .USub a pos) (dUn Uv da):=fun Ex m=>ay2 ce3 (ha Ex m)
theorem bf6 (ha:QE X a da):QE X (.UnaryOp .Invert a pos) (dUn ab4 da):=fun Ex m=>ay2 bu6 (ha Ex m)
theorem bf3 (hu:X.A.units+64<cLine) (op:md) (ha:QE X a da) (hb:QE X b db) (hm:dP op b=false):QE X (.Compare a [op] [b] pos) (Af (Kh X.K op) da db):=fun Ex m=>ao2 (Ks hu op) (ha Ex m) (hb Ex m) hm
theorem bh6 (hu:X.A.units+64<cLine) (op:md) (ha:QE X a da) (hb:QE X b db) (hm:dP op b=false):QT X (.Compare a [op] [b] pos) (Bi (Af (Kh X.K op) da db)):=by
 intro Ex m pins s σ H Q I h
 refine kc (thn (ha Ex m pins s σ H _ I h) fun v s1 ⟨x,H1,I1,r1,q1⟩=>thn (hb Ex m pins s1 σ H1 _ I1 q1) fun u s2 ⟨y,H2,I2,r2,q2⟩=>
  thn (Ks hu op pins s2 σ H2 x y v u _ I2 r1 r2 q2) fun c s3 ⟨z,H3,I3,r3,q3⟩=>?_) hm
 cases z with
 | bl k=>cases r3;exact eC ⟨H3,I3,q3⟩
 | _=>exact (show False from q3).elim
theorem Z8 (hu:X.A.units+64<cLine) (op op':md) (ha:QE X a da) (hb:QE X b db) (hc:QE X c dc) (hm:lastMarks [op,op'] [b,c]=false) :
  QE X (.Compare a [op,op'] [b,c] pos) (P8 (Kh X.K op) (Kh X.K op') da db dc):=by
 intro Ex m pins s σ H Q I h
 refine Compare_chain (thn (ha Ex m pins s σ H _ I h) fun v s1 ⟨x,H1,I1,r1,q1⟩=>chain_link (thn (hb Ex m pins s1 σ H1 _ I1 q1) fun u s2 ⟨y,H2,I2,r2,q2⟩=>
  thn (Ks hu op pins s2 σ H2 x y v u _ I2 r1 r2 q2) fun d s3 ⟨z,H3,I3,r3,q3⟩=>?_)) hm
 cases z with
 | bl k=>
  cases r3
  refine eC ?_
  cases k with
  | false=>exact ite_ff ⟨.bl false,H3,I3,rfl,q3⟩
  | true=>exact ite_tt (chain_last (thn (hc Ex m pins s3 σ H3 _ I3 q3) fun w' s4 ⟨z',H4,I4,r4,q4⟩=>Ks hu op' pins s4 σ H4 y z' u w' Q I4 r2 r4 q4))
 | _=>exact (show False from q3).elim
theorem ab2 (hu:X.A.units+64<cLine) (op op':md) (ha:QE X a da) (hb:QE X b db) (hc:QE X c dc) (hm:lastMarks [op,op'] [b,c]=false) :
  QT X (.Compare a [op,op'] [b,c] pos) (Bi (P8 (Kh X.K op) (Kh X.K op') da db dc)):=by
 intro Ex m pins s σ H Q I h
 refine isTrue_chain (thn (ha Ex m pins s σ H _ I h) fun v s1 ⟨x,H1,I1,r1,q1⟩=>test_link (thn (hb Ex m pins s1 σ H1 _ I1 q1) fun u s2 ⟨y,H2,I2,r2,q2⟩=>
  thn (Ks hu op pins s2 σ H2 x y v u _ I2 r1 r2 q2) fun d s3 ⟨z,H3,I3,r3,q3⟩=>?_)) hm
 cases z with
 | bl k=>
  cases r3
  refine eC ?_
  cases k with
  | false=>exact ite_ff ⟨H3,I3,q3⟩
  | true=>
   refine ite_tt (test_last (thn (hc Ex m pins s3 σ H3 _ I3 q3) fun w' s4 ⟨z',H4,I4,r4,q4⟩=>thn (Ks hu op' pins s4 σ H4 y z' u w' _ I4 r2 r4 q4) fun d' s5 ⟨z2,H5,I5,r5,q5⟩=>?_))
   cases z2 with
   | bl k2=>cases r5;exact eC ⟨H5,I5,q5⟩
   | _=>exact (show False from q5).elim
 | _=>exact (show False from q3).elim
noncomputable def Zu:Expr->Bool
 | .UnaryOp .Not _ _=>false
 | .BoolOp _ _ _=>false
 | .IfExp _ _ _ _=>false
 | .Compare _ _ _ _=>false
 | _=>true
theorem Wd {e:Expr} (h:Zu e=true) (whole:Sem Value):isTrue e X.env whole=(do let v <- whole;mS e.pos;mP [v] (truthy v)):=by
 cases e with
 | UnaryOp op _ _=>cases op <;> first|rfl|cases h
 | BoolOp _ _ _=>cases h
 | IfExp _ _ _ _=>cases h
 | Compare _ _ _ _=>cases h
 | _=>rfl
theorem bh9 (ha:QE X a da) (h:Zu a=true):QT X a (E6 X.K da):=by
 intro Ex m pins s σ H Q I hw
 exact isTrue_plain (thn (ha Ex m pins s σ H _ I hw) fun v s1 ⟨x,H1,I1,r1,q1⟩=>U9 pins s1 σ H1 x v Q I1 r1 q1) (Wd h _)
theorem bh8 (ha:QT X a ta):QT X (.UnaryOp .Not a pos) (Lx ta):=fun Ex m=>be5 (ha Ex m)
theorem aq7 (ha:QT X a ta):QW X (.BoolOp .And [a] pos) ta:=fun Ex m=>ap3 (ha Ex m)
theorem bi1 (ha:QT X a ta):QW X (.BoolOp .Or [a] pos) ta:=fun Ex m=>be8 (ha Ex m)
theorem bi0 (ha:QT X a ta) (hb:QW X (.BoolOp .And (b::es) pos) tb):QW X (.BoolOp .And (a::b::es) pos) (Hu ta tb):=fun Ex m=>be7 (ha Ex m) (hb Ex m)
theorem bz5 (ha:QT X a ta) (hb:QW X (.BoolOp .Or (b::es) pos) tb):QW X (.BoolOp .Or (a::b::es) pos) (dOr ta tb):=fun Ex m=>by9 (ha Ex m) (hb Ex m)
theorem bg3 {op:BoolOp} (ha:QE X a da):QE X (.BoolOp op [a] pos) da:=fun Ex m=>bd6 (ha Ex m)
theorem be9 (ha:QE X a da) (hb:QE X (.BoolOp .And (b::es) pos) db):QE X (.BoolOp .And (a::b::es) pos) (Ku X.K da db):=by
 intro Ex m pins s σ H Q I h
 refine BoolOp_and (thn (ha Ex m pins s σ H _ I h) fun v s1 ⟨x,H1,I1,r1,q1⟩=>thn (U9 pins s1 σ H1 x v _ I1 r1 q1) fun k s2 ⟨H2,I2,q2⟩=>?_)
 cases k with
 | true=>exact hb Ex m pins s2 σ H2 Q I2 q2
 | false=>exact⟨x,H2,I2,r1,q2⟩
theorem bz3 (ha:QE X a da) (hb:QE X (.BoolOp .Or (b::es) pos) db):QE X (.BoolOp .Or (a::b::es) pos) (aj9 X.K da db):=by
 intro Ex m pins s σ H Q I h
 refine BoolOp_or (thn (ha Ex m pins s σ H _ I h) fun v s1 ⟨x,H1,I1,r1,q1⟩=>thn (U9 pins s1 σ H1 x v _ I1 r1 q1) fun k s2 ⟨H2,I2,q2⟩=>?_)
 cases k with
 | false=>exact hb Ex m pins s2 σ H2 Q I2 q2
 | true=>exact⟨x,H2,I2,r1,q2⟩
theorem bg2 (ha:QE X a da):QE X (.UnaryOp .Not a pos) (at9 X.K da):=by
 intro Ex m pins s σ H Q I h
 refine UnaryOp_ (thn (ha Ex m pins s σ H _ I h) fun v s1 ⟨x,H1,I1,r1,q1⟩=>not_of (thn (U9 pins s1 σ H1 x v _ I1 r1 q1) fun k s2 ⟨H2,I2,q2⟩=>?_))
 exact⟨.bl (!k),H2,I2,rfl,q2⟩
theorem bz0 {t:Expr} (ht:QT X t ta) (ha:QE X a da) (hb:QE X b db):QE X (.IfExp t a b pos) (a61 ta da db):=fun Ex m=>Zp (ht Ex m) (ha Ex m) (hb Ex m)
noncomputable def noStar:Expr->Bool
 | .Starred _ _=>false
 | _=>true
theorem As {e:Expr} (h:noStar e=true) (es:List Expr) (env:Env):cO (e::es) env=(false,eval e env)::cO es env:=by
 cases e with
 | Starred _ _=>cases h
 | _=>rfl
theorem A5 {es:List Expr} (h:es.all noStar=true) (env:Env) (pos:Pos):(jA pos (cO es env)).any (·.1)=false:=by
 induction es with
 | nil=>rfl
 | cons e es ih=>
  rw [bN,aA] at h
  rw [As h.1]
  show (false||(jA pos (cO es env)).any (·.1))=false
  rw [ih h.2]
  rfl
theorem G6 {es:List Expr} (h:es.all noStar=true) (env:Env) (pos:Pos):(jA pos (cO es env)).all (fun x=>!x.1)=true:=by
 induction es with
 | nil=>rfl
 | cons e es ih=>
  rw [bN,aA] at h
  rw [As h.1]
  show (true&&(jA pos (cO es env)).all (fun x=>!x.1))=true
  rw [ih h.2]
  rfl
theorem Q0:QA X [] Ae:=fun _ _=>bd2
theorem Mm (ha:QE X a da) (hr:QA X es r) (hs:noStar a=true):QA X (a::es) (Aa da r):=fun Ex m=>an9 (ha Ex m) (hr Ex m) (As hs es X.env)
theorem bg5 {k:Nat} (h:QA X es r):QE X (.Tuple es k pos) (Cz r):=fun Ex m=>bd8 (h Ex m)
theorem bf8 (h:QA X es r):QE X (.List es pos) (Bt r):=fun Ex m=>bd4 (h Ex m)
noncomputable def Ey:Expr->Bool
 | .Slice _ _ _ _=>false
 | _=>true
theorem Ja {e:Expr} (h:Ey e=true):Tj e:=by
 intro o i
 cases e with
 | Slice _ _ _ _=>cases h
 | _=>rfl
theorem bz1 (hu:X.A.units+64<cLine) (ha:QE X a da) (hb:QE X b db) (h:Ey b=true):QE X (.Subscript a b pos) (Af (Av X.K) da db):=fun Ex m=>by3 (b97 hu) (ha Ex m) (hb Ex m) (Ja h)
noncomputable def bi3 (kvs:List (Key×V)):V->Hp->VK->Prop:=fun y H Q=>∃ k v,y=kV k/\A6 kvs k=some v/\Q v H
noncomputable def Q6 (neg:Bool) (kvs:List (Key×V)):V->Hp->VK->Prop:=fun y H Q=>∃ k,y=kV k/\Q (.bl (if neg then !(A6 kvs k).isSome else (A6 kvs k).isSome)) H
theorem bf7 {ka:Addr} {kvs:List (Key×V)} {x:Str} {p:Pos} (k:Ng X.prog X.w X.K ka kvs) (hn:QE X (.Name x p) (dC (.ref ka))) (hb:QE X b db) (hs:Ey b=true):QE X (.Subscript (.Name x p) b pos) (dUn (bi3 kvs) db):=by
 intro Ex m pins s σ H Q I h
 refine Subscript_ (thn (hn Ex m pins s σ H (fun x H1=>x=.ref ka/\db σ H1 (fun y H2=>bi3 kvs y H2 Q) (Ex σ)) I ⟨rfl,h⟩) fun v s1 ⟨x,H1,I1,r1,e,q1⟩=>?_)
 subst e
 cases r1
 refine thn (hb Ex m pins s1 σ H1 _ I1 q1) fun u s2 ⟨y,H2,I2,r2,k',w',e2,l,q2⟩=>?_
 subst e2
 obtain⟨hd,vs,rel,dd⟩:=k
 have d:=dd _ I2.kIn
 obtain⟨w1,hw,rw'⟩:=RelO.some_of (v:=w') (o:=iU vs k') (by rw [<- l];exact rel.val k')
 exact mT d.typeIs PySem.F.slot_dict_getitem.lookup (wpAny_getItem_of (D4 r2) d.mapOf hw ⟨w',H2,I2.tok _,rw',q2⟩) (Ja hs _ _)
theorem Y1 {pins:List (Addr×Obj)} {s:aj} {σ:St} {H:Hp} {ka:Addr} {kvs:List (Key×V)} {y:V} {u:Value} {Q:VK} {neg:Bool} (k:Ng X.prog X.w X.K ka kvs) (I:Inv X pins σ H s) (r:RelV y u) (h:Q6 neg kvs y H Q) :
  aJ (model X.prog X.w) X.A (cm (if neg then .NotIn else .In) u (.ref ka)) (EP X pins σ Q) X.xe s:=by
 obtain⟨k',e2,q⟩:=h
 subst e2
 obtain⟨hd,vs,rel,dd⟩:=k
 have d:=dd _ I.kIn
 cases neg with
 | false=>
  refine my (D4 r) hd d.mapOf ?_
  rw [<- (rel.val k').isSome_eq]
  exact⟨.bl _,H,I.tok _,rfl,q⟩
 | true=>
  refine kJ (D4 r) hd d.mapOf ?_
  rw [<- (rel.val k').isSome_eq]
  exact⟨.bl _,H,I.tok _,rfl,q⟩
theorem bf4 {ka:Addr} {kvs:List (Key×V)} {x:Str} {p:Pos} {neg:Bool} (k:Ng X.prog X.w X.K ka kvs) (hn:QE X (.Name x p) (dC (.ref ka))) (ha:QE X a da) (hm:dP (if neg then .NotIn else .In) (.Name x p)=false):QE X (.Compare a [if neg then .NotIn else .In] [.Name x p] pos) (dUn (Q6 neg kvs) da):=by
 intro Ex m pins s σ H Q I h
 refine wpAny_Compare1 (thn (ha Ex m pins s σ H _ I h) fun v s1 ⟨y,H1,I1,r1,q1⟩=>thn (hn Ex m pins s1 σ H1 (fun x H2=>x=.ref ka/\Q6 neg kvs y H2 Q) I1 ⟨rfl,q1⟩) fun u s2 ⟨x,H2,I2,r2,e,q2⟩=>?_) hm
 subst e
 cases r2
 exact Y1 k I2 r1 q2
theorem bh7 {ka:Addr} {kvs:List (Key×V)} {x:Str} {p:Pos} {neg:Bool} (k:Ng X.prog X.w X.K ka kvs) (hn:QE X (.Name x p) (dC (.ref ka))) (ha:QE X a da) (hm:dP (if neg then .NotIn else .In) (.Name x p)=false):QT X (.Compare a [if neg then .NotIn else .In] [.Name x p] pos) (Bi (dUn (Q6 neg kvs) da)):=by
 intro Ex m pins s σ H Q I h
 refine kc (thn (ha Ex m pins s σ H _ I h) fun v s1 ⟨y,H1,I1,r1,q1⟩=>thn (hn Ex m pins s1 σ H1 (fun x H2=>x=.ref ka/\Q6 neg kvs y H2 (fun x H1=>match x with
  | .bl k=>Q k H1
  | _=>False)) I1 ⟨rfl,q1⟩) fun u s2 ⟨x,H2,I2,r2,e,q2⟩=>?_) hm
 subst e
 cases r2
 refine thn (Y1 k I2 r1 q2) fun c s3 ⟨z,H3,I3,r3,q3⟩=>?_
 cases z with
 | bl k=>cases r3;exact eC ⟨H3,I3,q3⟩
 | _=>exact (show False from q3).elim
theorem ap4 {f:Str} (ha:QE X a da) (h:jq a f X.env (eval a X.env)=eval a X.env):QE X (.Attribute a f pos) (dUn (Fb X.K f) da):=by
 intro Ex m pins s σ H Q I hw
 exact Tm h (thn (ha Ex m pins s σ H _ I hw) fun u s1 ⟨x,H1,I1,rx,q⟩=>bt6 I1 rx q)
end
end L2
namespace PySem.SeqAt
open AutoSeq1 (wpAny_loadPart')
open MeetsSeq MeetsSeq2 MeetsSeq3
end PySem.SeqAt
namespace PySem.W
open PySem PySem.Calls PyProof.Rows
noncomputable def kRun {α:Type} (n:Nat) (lt:Nat->Nat->Bool):KasT α->Option α
 | .ret a=>some a
 | .ask i j k=>if i<n/\j<n then kRun n lt (k (lt i j)) else none
theorem kRun_wp {α:Type} {n:Nat} {lt:Nat->Nat->Bool} {cmp:Nat->Nat->(Bool->aj->Prop)->aj->Prop} {G:α->aj->Prop} {s:aj} (h:∀ i j C,i<n->j<n->C (lt i j) s->cmp i j C s) :
  ∀ {t:KasT α} {a:α},kRun n lt t=some a->G a s->t.kasWp cmp G s
 | .ret b,a,e,g=>by
  have:b=a:=aV e
  subst this
  exact g
 | .ask i j k,a,e,g=>by
  unfold kRun at e
  split at e
  ·rename_i hij
   exact h i j _ hij.1 hij.2 (kRun_wp h e g)
  ·cases e
section
variable {prog:aI} {w:bp} {A:bi} {E:Value->aj->Prop} {s:aj} {vs:List Value}
noncomputable def SoFin (a:Addr) (e:Nat) (out:List Value) (C:aj->Prop) (s:aj):Prop:=
 s.heap.get? a=some (bn "list" #[] e) /\ ∀ h' c,h'.get? a=some (bn "list" (eE out) c)->br a s.heap h'->C { s with heap:=h' }
theorem SoFin.mono {a:Addr} {e:Nat} {out:List Value} {C C':aj->Prop} (h:SoFin a e out C s) (hc:∀ s,C s->C' s):SoFin a e out C' s:=⟨h.1,fun h' c x y=>hc _ (h.2 h' c x y)⟩
theorem Mx {n:Nat} {a:Addr} {P:ml->aj->Prop} (ho:s.heap.get? a=some (bn "list" vs.toArray n)) (h2:2<=vs.length) (h64:vs.length<64)
  (h:∀ e1 h',h'.get? a=some (bn "list" #[] e1)->(∀ b o,b≠a->s.heap.get? b=some o->h'.get? b=some o) ->
   aJ (model prog w) A (mf vs.toArray) (fun κ s'=>(kas_sort vs.length).kasWp (kas_ask prog w A κ vs) (fun p s''=>SoFin a e1 (p.toList.map fun i=>vs.getD i bG) (fun s3=>P (.done (.ret .none)) s3) s'') s') (fun _ _=>False) { s with heap:=h' }) :
  aJ (model prog w) A (aS.«list.sort» ⟨[.ref a],[]⟩) P E s:=by
 have ha:a<s.heap.objs.size:=aF ho
 have s1:=bH s.heap a (a9 fun _=>(#[]:Array Value))
 obtain⟨e1,ho1⟩:∃ e1,(s.heap.update a (a9 fun _=>(#[]:Array Value))).get? a=some (bn "list" #[] e1):=⟨_,eh ho fun _=>#[]⟩
 have ask:=h e1 (((s.heap.update a (a9 fun _=>(#[]:Array Value))).push (bn "tuple" vs.toArray 0)).push (bn "list" #[] 0)) (ag _ (ag _ ho1))
  (fun b o nb e=>ag _ (ag _ ((s1.2 b nb).trans e)))
 rw [list_sort_plain]
 refine af (j9 ho rfl ?_)
 refine af (eV ho rfl ?_ (by rw [ao,bb];omega) (bA _))
 refine af (iq ho1 rfl ?_)
 refine af (iY ?_ (by show vs.length<=_;rw [bb];omega))
 refine af (fK ?_ (bA _))
 refine bw ?_
 show aJ (model prog w) A _ P E { s with heap:=((s.heap.update a (a9 fun _=>(#[]:Array Value))).push (bn "tuple" vs.toArray 0)).push (bn "list" #[] 0) }
 dsimp only
 have hn2:¬ vs.toArray.size<2:=by rw [ao];omega
 rw [if_neg hn2,if_neg hn2]
 refine af (b6 ask (fun κ s0 hk=>?_) fun _ _ x=>x.elim)
 refine af (b6 (kat_run (Q:=fun st' s'=>∃ p:Array Nat,p.size=vs.length/\arrOf st'=p.map (kas_item (vs.toArray.zip vs.toArray))/\failedOf st'=none/\SoFin a e1 (p.toList.map fun i=>vs.getD i bG) (fun s''=>P (.done (.ret .none)) s'') s')
  rfl h2 h64 (fun p' st' s' a1 a2 a3 a4=>⟨p',a1,a2,a3,a4⟩) hk) ?_ fun _ _ e=>e)
 rintro⟨⟨⟩,st'⟩ s' ⟨p,hp,har,hf,na,k⟩
 dsimp only
 have hout:=kat_snds rfl har
 have hsz:(eE (p.toList.map fun i=>vs.getD i bG)).size=vs.length:=by rw [ao,ai,aU,hp]
 rw [hout]
 have s2:=bH s'.heap a (a9 fun _=>eE (p.toList.map fun i=>vs.getD i bG))
 obtain⟨c2,hc2⟩:∃ c2,(s'.heap.update a (a9 fun _=>eE (p.toList.map fun i=>vs.getD i bG))).get? a=some (bn "list" (eE (p.toList.map fun i=>vs.getD i bG)) c2):=⟨_,eh na fun _=>eE (p.toList.map fun i=>vs.getD i bG)⟩
 refine af (iq na rfl ?_)
 refine af (eV na rfl ?_ (bA _) (aL (jX hsz) (by rw [bb];omega)))
 rw [hf]
 simp only [bne_self_eq_false,cC,if_false]
 exact ak (k _ c2 hc2 s2)
end
end PySem.W
namespace L2
open PySem PySem.Spec PyProof.Rows
theorem G7 (n:Nat) (p:Nat->Bool):(bC (n+1)).find? p=if p 0=true then some 0 else ((bC n).find? fun j=>p (j+1)).map (· + 1):=by
 rw [jI,cw]
 cases e:p 0 with
 | true=>simp
 | false=>simp [List.find?_map,Function.comp_def]
section
variable {X:Cx} {pins:List (Addr×Obj)} {σ:St} {H:Hp} {s:aj}
theorem Pl {xs:List V} {us:List Value} (r:Vals xs us) {i:Nat} (h:i<us.length):∃ x,xs[i]? = some x/\RelV x (us.getD i bG):=by
 have hl:=r.length
 obtain⟨u,hu,ru⟩:=r.get (i:=i) (x:=xs[i]'(by omega)) (am (by omega))
 refine⟨_,am (by omega),?_⟩
 rw [aB,hu]
 exact ru
theorem E3 {xs:List V} {us:List Value} (r:Vals xs us):∀ (p:List Nat),(∀ i∈p,i<us.length)->Vals (p.map fun i=>xs.getD i .non) (p.map fun i=>us.getD i bG)
 | [],_=>.nil
 | i::p,h=>by
  obtain⟨x,hx,rx⟩:=Pl r (h i bv)
  refine .cons ?_ (E3 r p fun j hj=>h j (aC _ hj))
  show RelV (xs.getD i .non) _
  rw [aB,hx]
  exact rx
end
theorem Eb:cS "sorted" = some (.builtin "sorted"):=by decide +kernel
end L2
set_option maxHeartbeats 1000000
namespace PySem.W
open PySem PySem.Calls PyProof.Rows
section
variable {n:Nat} {lt:Nat->Nat->Bool}
theorem C6 {α β:Type} {f:α->KasT β}:∀ t:KasT α,kRun n lt (t.bind f)=(kRun n lt t).bind fun a=>kRun n lt (f a)
 | .ret a=>rfl
 | .ask i j k=>by
  show (if i<n/\j<n then kRun n lt ((k (lt i j)).bind f) else none)=(if i<n/\j<n then kRun n lt (k (lt i j)) else none).bind _
  by_cases h:i<n/\j<n
  ·rw [if_pos h,if_pos h,C6 (k (lt i j))]
  ·rw [if_neg h,if_neg h];rfl
structure Tot (n:Nat) (lt:Nat->Nat->Bool):Prop where
 tot:∀ i j,i<n->j<n->i≠j->lt i j = !lt j i
 tr:∀ i j k,i<n->j<n->k<n->lt i j=true->lt j k=true->lt i k=true
noncomputable def pg (p:Array Nat) (i:Nat):Nat:=p.getD i 0
noncomputable def PermN (n:Nat) (p:Array Nat):Prop:=p.toList.Perm (bC n)
theorem PermN.size {p:Array Nat} (h:PermN n p):p.size=n:=by
 have:=h.length_eq
 simpa using this
theorem pg_get {p:Array Nat} {i:Nat} (h:i<p.size):p[i]? = some (pg p i):=by
 unfold pg
 rw [dz,bu h]
 rfl
theorem PermN.bd {p:Array Nat} (h:PermN n p) {i:Nat} (hi:i<n):pg p i<n:=by
 have hs:i<p.size:=by rw [h.size];exact hi
 have hm:pg p i∈p.toList:=by
  have:=pg_get hs
  rw [<- bP] at this
  exact aX this
 exact List.mem_range.mp (h.mem_iff.mp hm)
theorem PermN.inj {p:Array Nat} (h:PermN n p) {i j:Nat} (hi:i<n) (hj:j<n) (e:pg p i=pg p j):i=j:=by
 have nd:p.toList.Nodup:=(h.nodup_iff).mpr List.nodup_range
 have ei:=pg_get (p:=p) (i:=i) (by rw [h.size];exact hi)
 have ej:=pg_get (p:=p) (i:=j) (by rw [h.size];exact hj)
 rw [<- bP] at ei ej
 have li:i<p.toList.length:=by rw [aU,h.size];exact hi
 refine (List.getElem?_inj li nd).mp ?_
 rw [ei,ej,e]
noncomputable def Srt (lt:Nat->Nat->Bool) (p:Array Nat) (m:Nat):Prop:=∀ i j,i<j->j<m->lt (pg p i) (pg p j)=true
noncomputable def Dsc (lt:Nat->Nat->Bool) (p:Array Nat) (m:Nat):Prop:=∀ i j,i<j->j<m->lt (pg p j) (pg p i)=true
theorem Dp {α:Type} {i j:Nat} {k:Bool->KasT α} (hi:i<n) (hj:j<n):kRun n lt (.ask i j k)=kRun n lt (k (lt i j)):=if_pos ⟨hi,hj⟩
variable (T:Tot n lt) {p:Array Nat} (h:PermN n p)
include T h
theorem Fr:∀ f k,1<=k->k+f<=n->Srt lt p k -> ∃ m,kRun n lt (mQ p f k)=some m/\k<=m/\m<=k+f/\Srt lt p m
 | 0,k,h1,h2,hs=>⟨k,rfl,ah _,ah _,hs⟩
 | f+1,k,h1,h2,hs=>by
  have e:kRun n lt (mQ p (f+1) k)=kRun n lt (if lt (pg p k) (pg p (k - 1))=true then .ret k else mQ p f (k+1)):=Dp (h.bd (by omega)) (h.bd (by omega))
  rw [e]
  cases c:lt (pg p k) (pg p (k - 1)) with
  | true=>exact⟨k,rfl,ah _,by omega,hs⟩
  | false=>
   have c1:lt (pg p (k - 1)) (pg p k)=true:=by
    rw [T.tot _ _ (h.bd (by omega)) (h.bd (by omega)) (fun q=>by have:=h.inj (by omega) (by omega) q;omega),c];rfl
   obtain⟨m,r1,r2,r3,r4⟩:=Fr f (k+1) (by omega) (by omega) (fun i j hij hj=>by
    by_cases hk:j<k
    ·exact hs i j hij hk
    ·have:j=k:=by omega
     subst this
     by_cases hi:i=j - 1
     ·subst hi;exact c1
     ·exact T.tr _ _ _ (h.bd (by omega)) (h.bd (by omega)) (h.bd (by omega)) (hs i (j - 1) (by omega) (by omega)) c1)
   exact⟨m,r1,by omega,by omega,r4⟩
theorem Oe:∀ f k,1<=k->k+f<=n->Dsc lt p k -> ∃ m,kRun n lt (lI f p k 0)=some (p,m,0)/\k<=m/\m<=k+f/\Dsc lt p m
 | 0,k,h1,h2,hs=>⟨k,rfl,ah _,ah _,hs⟩
 | f+1,k,h1,h2,hs=>by
  have e:kRun n lt (lI (f+1) p k 0)=kRun n lt (if lt (pg p k) (pg p (k - 1))=true then (if 0 > 0 then lI f (j8 p (k - (0+1)) k) (k+1) 0 else lI f p (k+1) 0) else .ask (pg p (k - 1)) (pg p k) fun d=>if d=true then .ret (p,k,0) else lI f p (k+1) (0+1)):=Dp (h.bd (by omega)) (h.bd (by omega))
  rw [e]
  cases c:lt (pg p k) (pg p (k - 1)) with
  | true=>
   rw [if_pos rfl,if_neg (by omega)]
   obtain⟨m,r1,r2,r3,r4⟩:=Oe f (k+1) (by omega) (by omega) (fun i j hij hj=>by
    by_cases hk:j<k
    ·exact hs i j hij hk
    ·have:j=k:=by omega
     subst this
     by_cases hi:i=j - 1
     ·subst hi;exact c
     ·exact T.tr _ _ _ (h.bd (by omega)) (h.bd (by omega)) (h.bd (by omega)) c (hs i (j - 1) (by omega) (by omega)))
   exact⟨m,r1,by omega,by omega,r4⟩
  | false=>
   have c1:lt (pg p (k - 1)) (pg p k)=true:=by
    rw [T.tot _ _ (h.bd (by omega)) (h.bd (by omega)) (fun q=>by have:=h.inj (by omega) (by omega) q;omega),c];rfl
   rw [if_neg ar,Dp (h.bd (by omega)) (h.bd (by omega)),c1]
   exact⟨k,rfl,ah _,by omega,hs⟩
omit T in
theorem ar2 {m:Nat} (hm:m<=n) (hd:Dsc lt p m):PermN n (j8 p 0 m)/\Srt lt (j8 p 0 m) m:=by
 have hp:PermN n (j8 p 0 m):=by
  have:=mirror_perm p 0 m ((m - 0) / 2)
  exact (Array.perm_iff_toList_perm.mp this).trans h
 have gt:∀ k,k<m->pg (j8 p 0 m) k=pg p (m - 1 - k):=fun k hk=>by
  have e:=getElem?_mirror_all (xs:=p) (i:=0) (j:=m) (by rw [h.size];exact hm) k
  have e1:(j8 p 0 m)[k]? = some (pg (j8 p 0 m) k):=pg_get (by rw [hp.size];omega)
  have e2:p[m - 1 - k]? = some (pg p (m - 1 - k)):=pg_get (by rw [h.size];omega)
  have e':(j8 p 0 m)[k]? = p[m - 1 - k]?:=by
   refine e.trans ?_
   rw [if_pos (by omega)]
   congr 1
   omega
  rw [e1,e2] at e'
  exact aV e'
 refine⟨hp,fun i j hij hj=>?_⟩
 rw [gt i (by omega),gt j hj]
 exact hd _ _ (by omega) (by omega)
theorem Vl (hn:1<=n):∃ m p',kRun n lt (kas_count n p)=some (m,p')/\PermN n p'/\1<=m/\m<=n/\Srt lt p' m:=by
 obtain⟨m,r1,r2,r3,r4⟩:=Fr T h (n - 1) 1 (ah _) (by omega) (fun i j hij hj=>by omega)
 unfold kas_count
 rw [C6,r1,cZ]
 by_cases hm:m=n
 ·have e:(m==n)=true:=by rw [hm];exact beq_self_eq_true n
  rw [if_pos e]
  exact⟨m,p,rfl,h,r2,by omega,r4⟩
 ·have e:¬ (m==n)=true:=fun q=>hm (beq_iff_eq.mp q)
  rw [if_neg e]
  by_cases h1:m > 1
  ·rw [if_pos h1]
   have:=Dp (n:=n) (lt:=lt) (k:=fun c=>if c=true then KasT.ret (m,p) else kas_descPart m n (j8 p 0 m)) (h.bd (i:=0) (by omega)) (h.bd (i:=m - 1) (by omega))
   refine⟨m,p,this.trans ?_,h,r2,by omega,r4⟩
   have e1:lt (pg p 0) (pg p (m - 1))=true:=r4 0 (m - 1) (by omega) (by omega)
   rw [e1]
   rfl
  ·rw [if_neg h1]
   have hm1:m=1:=by omega
   subst hm1
   unfold kas_descPart
   have hd:∃ d,kRun n lt (lI (n - (1+1)) p (1+1) 0)=some (p,d,0)/\1<=d/\d<=n/\Dsc lt p d:=by
    by_cases c:lt (pg p 1) (pg p 0)=true
    ·obtain⟨d,q1,q2,q3,q4⟩:=Oe T h (n - 2) 2 (by omega) (by omega) (fun i j hij hj=>by
      have:i=0:=by omega
      have:j=1:=by omega
      subst i j;exact c)
     exact⟨d,q1,by omega,by omega,q4⟩
    ·exfalso
     have e:=Fr T h (n - 1) 1 (ah _) (by omega) (fun i j hij hj=>by omega)
     obtain⟨m',a1,a2,a3,a4⟩:=e
     obtain⟨f,hf⟩:∃ f,n - 1=f+1:=⟨n - 2,by omega⟩
     rw [hf] at r1
     have e2:kRun n lt (mQ p (f+1) 1)=kRun n lt (if lt (pg p 1) (pg p (1 - 1))=true then .ret 1 else mQ p f (1+1)):=Dp (h.bd (by omega)) (h.bd (by omega))
     rw [e2,if_neg c] at r1
     have c0:lt (pg p 1) (pg p 0)=false:=by simpa using c
     have c1:lt (pg p 0) (pg p 1)=true:=by
      rw [T.tot _ _ (h.bd (by omega)) (h.bd (by omega)) (fun q=>by have:=h.inj (by omega) (by omega) q;omega),c0];rfl
     obtain⟨m2,b1,b2,b3,b4⟩:=Fr T h f 2 (by omega) (by omega) (fun i j hij hj=>by
      have:i=0:=by omega
      have:j=1:=by omega
      subst i j;exact c1)
     rw [r1] at b1
     cases b1
     omega
   obtain⟨d,q1,q2,q3,q4⟩:=hd
   rw [C6,q1,cZ]
   show ∃ m p',kRun n lt (if 0 > 0 then _ else kas_tail3 d n p)=some (m,p')/\_
   rw [if_neg (by omega)]
   unfold kas_tail3
   obtain⟨hp,hs⟩:=ar2 h q3 q4
   obtain⟨m',a1,a2,a3,a4⟩:=Fr T hp (n - d) d q2 (by omega) hs
   rw [C6,a1,cZ]
   exact⟨m',_,rfl,hp,by omega,by omega,a4⟩
theorem Gy {k:Nat} (hk:k<n) (hs:Srt lt p k):∀ f l r,l<=r->r<=k->r - l<=f->(∀ i,i<l->lt (pg p i) (pg p k)=true)->(∀ i,r<=i->i<k->lt (pg p k) (pg p i)=true) ->
  ∃ m,kRun n lt (im p k f l r)=some m/\m<=k/\(∀ i,i<m->lt (pg p i) (pg p k)=true)/\(∀ i,m<=i->i<k->lt (pg p k) (pg p i)=true)
 | 0,l,r,h1,h2,h3,hl,hr=>⟨l,rfl,by omega,hl,fun i a b=>hr i (by omega) b⟩
 | f+1,l,r,h1,h2,h3,hl,hr=>by
  by_cases hlr:l ≥ r
  ·have e:im p k (f+1) l r=.ret l:=by unfold im;rw [if_pos hlr]
   rw [e]
   exact⟨l,rfl,by omega,hl,fun i a b=>hr i (by omega) b⟩
  ·have e:kRun n lt (im p k (f+1) l r)=kRun n lt (if lt (pg p k) (pg p ((l+r) / 2))=true then im p k f l ((l+r) / 2) else im p k f ((l+r) / 2+1) r):=by
    conv=>lhs;unfold im
    rw [if_neg hlr]
    exact Dp (h.bd hk) (h.bd (by omega))
   rw [e]
   have hm1:l<=(l+r) / 2:=by omega
   have hm2:(l+r) / 2<r:=by omega
   generalize (l+r) / 2=mid at hm1 hm2 ⊢
   cases c:lt (pg p k) (pg p mid) with
   | true=>
    rw [if_pos rfl]
    refine Gy hk hs f l mid hm1 (by omega) (by omega) hl fun i a b=>?_
    by_cases hi:i=mid
    ·subst hi;exact c
    ·exact T.tr _ _ _ (h.bd hk) (h.bd (by omega)) (h.bd (by omega)) c (hs mid i (by omega) b)
   | false=>
    rw [if_neg ar]
    have c1:lt (pg p mid) (pg p k)=true:=by
     rw [T.tot _ _ (h.bd (by omega)) (h.bd hk) (fun q=>by have:=h.inj (by omega) hk q;omega),c];rfl
    refine Gy hk hs f (mid+1) r (by omega) h2 (by omega) (fun i a=>?_) hr
    by_cases hi:i=mid
    ·subst hi;exact c1
    ·exact T.tr _ _ _ (h.bd (by omega)) (h.bd (by omega)) (h.bd hk) (hs i mid (by omega) (by omega)) c1
omit T in
theorem Px {k l:Nat} (hk:k<n) (hl:l<=k) (hs:Srt lt p k) (h1:∀ i,i<l->lt (pg p i) (pg p k)=true) (h2:∀ i,l<=i->i<k->lt (pg p k) (pg p i)=true):PermN n (mE p k (k - l))/\Srt lt (mE p k (k - l)) (k+1):=by
 have hp:PermN n (mE p k (k - l)):=(Array.perm_iff_toList_perm.mp (bubble_perm p k (k - l))).trans h
 have hk':k<p.size:=by rw [h.size];exact hk
 have gt:∀ i,i<k+1->pg (mE p k (k - l)) i=if i=l then pg p k else if l<i then pg p (i - 1) else pg p i:=fun i hi=>by
  have e:=getElem?_bubble hk' (k - l) (by omega) i
  have e1:(mE p k (k - l))[i]? = some (pg (mE p k (k - l)) i):=pg_get (by rw [hp.size];omega)
  rw [e1,show k - (k - l)=l by omega] at e
  by_cases a:i=l
  ·rw [if_pos a] at e ⊢
   rw [pg_get hk'] at e
   exact aV e
  ·rw [if_neg a] at e ⊢
   by_cases b:l<i
   ·rw [if_pos ⟨b,by omega⟩] at e
    rw [if_pos b]
    rw [pg_get (by rw [h.size];omega)] at e
    exact aV e
   ·rw [if_neg (fun q=>b q.1)] at e
    rw [if_neg b]
    rw [pg_get (by rw [h.size];omega)] at e
    exact aV e
 refine⟨hp,fun i j hij hj=>?_⟩
 rw [gt i (by omega),gt j hj]
 by_cases a:i=l
 ·rw [if_pos a,if_neg (by omega),if_pos (by omega)]
  exact h2 (j - 1) (by omega) (by omega)
 ·rw [if_neg a]
  by_cases b:l<i
  ·rw [if_pos b,if_neg (by omega),if_pos (by omega)]
   exact hs (i - 1) (j - 1) (by omega) (by omega)
  ·rw [if_neg b]
   by_cases c:j=l
   ·rw [if_pos c];exact h1 i (by omega)
   ·rw [if_neg c]
    by_cases d:l<j
    ·rw [if_pos d]
     exact hs i (j - 1) (by omega) (by omega)
    ·rw [if_neg d];exact hs i j hij (by omega)
end
theorem Tn {n:Nat} {lt:Nat->Nat->Bool} (T:Tot n lt):∀ (f:Nat) (p:Array Nat) (k:Nat),PermN n p->k+f=n->Srt lt p k -> ∃ p',kRun n lt (kas_bin f p k)=some p'/\PermN n p'/\Srt lt p' n
 | 0,p,k,h,e,hs=>⟨p,rfl,h,by rw [<- e];exact hs⟩
 | f+1,p,k,h,e,hs=>by
  obtain⟨l,a1,a2,a3,a4⟩:=Gy T h (k:=k) (by omega) hs k 0 k (bA _) (ah _) (by omega) (fun i hi=>by omega) (fun i a b=>by omega)
  obtain⟨b1,b2⟩:=Px h (by omega) a2 hs a3 a4
  obtain⟨p',c1,c2,c3⟩:=Tn T f _ (k+1) b1 (by omega) b2
  refine⟨p',?_,c2,c3⟩
  show kRun n lt ((im p k k 0 k).bind fun l=>kas_bin f (mE p k (k - l)) (k+1))=some p'
  rw [C6,a1]
  exact c1
theorem sort_run {n:Nat} {lt:Nat->Nat->Bool} (T:Tot n lt) (hn:1<=n):∃ p,kRun n lt (kas_sort n)=some p/\PermN n p/\Srt lt p n:=by
 have h0:PermN n (eE (bC n)):=by show (eE (bC n)).toList.Perm _;exact iM _
 obtain⟨m,p,r1,r2,r3,r4,r5⟩:=Vl T h0 hn
 unfold kas_sort
 rw [C6,r1,cZ]
 show ∃ q,kRun n lt (if m<n then kas_bin (n - max m 1) p (max m 1) else .ret p)=some q/\_
 by_cases h:m<n
 ·rw [if_pos h,Nat.max_eq_left r3]
  exact Tn T (n - m) p m r2 (by omega) r5
 ·rw [if_neg h]
  have:m=n:=by omega
  subst this
  exact⟨p,rfl,r2,r5⟩
end PySem.W
namespace L2
open PySem PySem.Spec PyProof.Rows
section
variable {α:Type}
noncomputable def L9 (lt:α->α->Bool) (z:α):List α->List α
 | []=>[z]
 | y::ys=>if lt z y=true then z::y::ys else y::L9 lt z ys
noncomputable def Ak (lt:α->α->Bool):List α->List α
 | []=>[]
 | z::zs=>L9 lt z (Ak lt zs)
structure OrdL (lt:α->α->Bool) (zs:List α):Prop where
 tot:∀ a∈zs,∀ b∈zs,a≠b->lt a b = !lt b a
 tr:∀ a∈zs,∀ b∈zs,∀ c∈zs,lt a b=true->lt b c=true->lt a c=true
 nd:zs.Nodup
theorem Go (lt:α->α->Bool) (z:α):∀ ys:List α,(L9 lt z ys).Perm (z::ys)
 | []=>iM _
 | y::ys=>by
  unfold L9
  split
  ·exact iM _
  ·exact ((Go lt z ys).cons y).trans (List.Perm.swap z y ys)
theorem Am (lt:α->α->Bool):∀ zs:List α,(Ak lt zs).Perm zs
 | []=>iM _
 | z::zs=>(Go lt z _).trans ((Am lt zs).cons z)
theorem OrdL.of {lt:α->α->Bool} {zs ys:List α} (h:OrdL lt zs) (hs:∀ a∈ys,a∈zs) (nd:ys.Nodup):OrdL lt ys:=⟨fun a ha b hb=>h.tot a (hs a ha) b (hs b hb),fun a ha b hb c hc=>h.tr a (hs a ha) b (hs b hb) c (hs c hc),nd⟩
theorem K0 {lt:α->α->Bool} {z:α}:∀ {ys:List α},OrdL lt (z::ys)->ys.Pairwise (fun a b=>lt a b=true)->(L9 lt z ys).Pairwise (fun a b=>lt a b=true)
 | [],_,_=>List.pairwise_singleton _ _
 | y::ys,h,hp=>by
  rw [dL] at hp
  have nd:=h.nd
  rw [bL] at nd
  have ny:=nd.2
  rw [bL] at ny
  unfold L9
  split
  ·rename_i c
   refine List.pairwise_cons.mpr ⟨fun b hb=>?_,List.pairwise_cons.mpr hp⟩
   rcases List.mem_cons.mp hb with rfl|hb'
   ·exact c
   ·exact h.tr z (.head _) y (.tail _ (.head _)) b (.tail _ hb) c (hp.1 b hb')
  ·rename_i c
   have c:lt z y=false:=by simpa using c
   have c1:lt y z=true:=by rw [h.tot y (.tail _ (.head _)) z (.head _) (fun e=>nd.1 (e▸.head _)),c];rfl
   have hz:OrdL lt (z::ys):=h.of (fun a ha=>by rcases List.mem_cons.mp ha with rfl|q;exact .head _;exact .tail _ (.tail _ q)) (List.nodup_cons.mpr ⟨fun q=>nd.1 (.tail _ q),ny.2⟩)
   refine List.pairwise_cons.mpr ⟨fun b hb=>?_,K0 hz hp.2⟩
   rcases List.mem_cons.mp ((Go lt z ys).mem_iff.mp hb) with rfl|hb'
   ·exact c1
   ·exact hp.1 b hb'
theorem C7 {lt:α->α->Bool}:∀ {zs:List α},OrdL lt zs->(Ak lt zs).Pairwise (fun a b=>lt a b=true)
 | [],_=>i6
 | z::zs,h=>by
  have nd:=List.nodup_cons.mp h.nd
  have hz:OrdL lt zs:=h.of (fun a ha=>.tail _ ha) nd.2
  refine K0 (h.of (fun a ha=>?_) ?_) (C7 hz)
  ·rcases List.mem_cons.mp ha with rfl|q
   ·exact .head _
   ·exact .tail _ ((Am lt zs).mem_iff.mp q)
  ·exact List.nodup_cons.mpr ⟨fun q=>nd.1 ((Am lt zs).mem_iff.mp q),((Am lt zs).nodup_iff).mpr nd.2⟩
theorem E2 {lt:α->α->Bool}:∀ {xs ys:List α},OrdL lt xs->xs.Perm ys->xs.Pairwise (fun a b=>lt a b=true)->ys.Pairwise (fun a b=>lt a b=true)->xs=ys
 | [],ys,_,h,_,_=>(List.Perm.nil_eq h)
 | x::xs,[],_,h,_,_=>absurd h.symm.nil_eq (by simp)
 | x::xs,y::ys,o,h,hx,hy=>by
  rw [dL] at hx hy
  have e:x=y:=by
   apply iL
   intro ne
   have m1:x∈ys:=by
    have:x∈y::ys:=h.mem_iff.mp (.head _)
    rcases List.mem_cons.mp this with q|q
    ·exact absurd q ne
    ·exact q
   have m2:y∈xs:=by
    have:y∈x::xs:=h.mem_iff.mpr (.head _)
    rcases List.mem_cons.mp this with q|q
    ·exact absurd q.symm ne
    ·exact q
   have a:=hx.1 y m2
   have b:=hy.1 x m1
   rw [o.tot x (.head _) y (.tail _ m2) ne,b] at a
   cases a
  subst e
  have nd:=List.nodup_cons.mp o.nd
  rw [E2 (o.of (fun a ha=>.tail _ ha) nd.2) ((List.perm_cons x).mp h) hx.2 hy.2]
theorem Le {lt:α->α->Bool} {xs ys:List α} (h:xs.Perm ys) (o:OrdL lt xs):Ak lt xs=Ak lt ys:=by
 have o2:OrdL lt ys:=o.of (fun a ha=>h.mem_iff.mpr ha) ((h.nodup_iff).mp o.nd)
 exact E2 (o.of (fun a ha=>(Am lt xs).mem_iff.mp ha) (((Am lt xs).nodup_iff).mpr o.nd)) ((Am lt xs).trans (h.trans (Am lt ys).symm)) (C7 o) (C7 o2)
theorem G0 {lt:α->α->Bool} {zs:List α} (d:α) (o:OrdL lt zs) (hn:1<=zs.length) :
  ∃ p,PySem.W.kRun zs.length (fun i j=>lt (zs.getD i d) (zs.getD j d)) (PySem.W.kas_sort zs.length)=some p/\p.toList.length=zs.length/\(∀ i∈p.toList,i<zs.length)/\(p.toList.map fun i=>zs.getD i d)=Ak lt zs:=by
 have gm:∀ i,i<zs.length->zs.getD i d∈zs:=fun i hi=>by rw [aB,am hi];exact cY hi
 have gi:∀ i j,i<zs.length->j<zs.length->zs.getD i d=zs.getD j d->i=j:=fun i j hi hj e=>by
  rw [aB,am hi,aB,am hj] at e
  exact (List.getElem_inj o.nd).mp e
 obtain⟨p,h1,h2,h3⟩:=PySem.W.sort_run (n:=zs.length) (lt:=fun i j=>lt (zs.getD i d) (zs.getD j d)) ⟨fun i j hi hj ne=>o.tot _ (gm i hi) _ (gm j hj) (fun e=>ne (gi i j hi hj e)),fun i j k hi hj hk=>o.tr _ (gm i hi) _ (gm j hj) _ (gm k hk)⟩ hn
 have hp:(p.toList.map fun i=>zs.getD i d).Perm zs:=by
  have q:=h2.map (fun i=>zs.getD i d)
  have e:((bC zs.length).map fun i=>zs.getD i d)=zs:=by
   apply List.ext_getElem?
   intro i
   rw [aE]
   by_cases hi:i<zs.length
   ·rw [List.getElem?_range hi,am hi,gr,aB,am hi];rfl
   ·rw [ft (by simp;omega),ft (by omega)];rfl
  rw [e] at q
  exact q
 refine⟨p,h1,by rw [aU,h2.size],fun i hi=>List.mem_range.mp (h2.mem_iff.mp hi),?_⟩
 refine E2 (o.of (fun a ha=>hp.mem_iff.mp ha) ((hp.nodup_iff).mpr o.nd)) (hp.trans (Am lt zs).symm) ?_ (C7 o)
 rw [List.pairwise_iff_getElem]
 intro i j hi hj hij
 rw [ai,aU,h2.size] at hi hj
 have g:∀ k (hk:k<zs.length),∃ hk',(p.toList.map fun i=>zs.getD i d)[k]'hk'=zs.getD (PySem.W.pg p k) d:=fun k hk=>by
  have e:=PySem.W.pg_get (p:=p) (i:=k) (by rw [h2.size];exact hk)
  rw [<- bP] at e
  obtain⟨a,b⟩:=List.getElem?_eq_some_iff.mp e
  refine⟨by rw [ai];exact a,?_⟩
  rw [List.getElem_map,b]
 obtain⟨a1,b1⟩:=g i hi
 obtain⟨a2,b2⟩:=g j hj
 rw [b1,b2]
 exact h3 i j hij hj
end
noncomputable def ltS (a b:Str):Bool:=decide (a.cps.toList<b.cps.toList)
theorem Hi {zs:List Str} (nd:zs.Nodup):OrdL ltS zs where
 nd:=nd
 tot:=fun a _ b _ ne=>by
  unfold ltS
  rw [<- decide_not]
  refine decide_eq_decide.mpr ⟨fun h q=>kD _ (List.lt_trans h q),fun h=>?_⟩
  apply iL
  intro q
  exact ne (Str.ext' (Array.toList_inj.mp (List.le_antisymm (List.not_lt.mp h) (List.not_lt.mp q))))
 tr:=fun a _ b _ c _ h q=>by
  unfold ltS at h q ⊢
  exact decide_eq_true (List.lt_trans (of_decide_eq_true h) (of_decide_eq_true q))
end L2
namespace PySem.W
open PySem PySem.Calls PyProof.Rows
section
variable {prog:aI} {w:bp} {A:bi} {E:Value->aj->Prop} {s:aj} {vs:List Value}
theorem collect_src {T:String} {r d:Addr} {n:Nat} {P:Nat->Value->Prop} {OK:Heap->Prop} {Q:List Value->aj->Prop} (K:KdlSrc prog w T r d n P OK) (hh:A.handled=none) (hok:OK s.heap) (hn:n<=sizeLine)
  (h:∀ h' tk (us:List Value),(∀ b o,s.heap.get? b=some o->h'.get? b=some o)->s.heap.objs.size<h'.objs.size->us.length=n->(∀ j v,us[j]? = some v->P j v)->Q us { s with heap:=h',toks:=tk }) :
  aJ (model prog w) A (k6 (.ref r)) Q E s:=by
 have hlt:=K.there _ hok
 unfold k6
 refine af (kK (dE kB ?_))
 show aJ _ _ (do again (.builtin "list.__iadd__" ⟨[<- newList [],.ref r],[]⟩)) _ _ s
 refine af (fK (ak ⟨cT _ (by decide +kernel),dE entry_list_iadd' ?_⟩))
 show aJ _ _ (fj (.ref s.heap.objs.size) (.ref r) (.ref s.heap.objs.size)) _ _ { s with heap:=s.heap.push (bn "list" #[] 0) }
 rw [dX jn _]
 refine kdl_extend (A:=A) (R:=wants _ _) (s:={ s with heap:=s.heap.push (bn "list" #[] 0) }) K hh (K.keep _ _ hok fun b _ o e=>ag _ e) s.heap.objs.size (dM hlt.1) (dM hlt.2) _ 0 (aw _ rfl) (fun h' tk acc' c' hk hS' hacc=>?_) hn
 show aJ (model prog w) A (do
   let o <- load s.heap.objs.size
   match o.data with
   | .seq xs _=>pure xs.toList
   | _=>unsupported "internal:collect") Q E { s with heap:=h',toks:=tk }
 refine af (lT hS' ?_)
 exact ak (h h' tk acc'.toList (fun b o e=>hk b o (aH (aF e)) (ag _ e)) (aF hS') (by rw [aU];exact hacc.1) fun j v e=>hacc.2 j v (by rw [<- bP];exact e))
theorem Kk {n:Nat} {a:Addr} {P:ml->aj->Prop} (ho:s.heap.get? a=some (bn "list" vs.toArray n)) (h2:vs.length<2)
  (h:∀ h' c,h'.get? a=some (bn "list" vs.toArray c)->(∀ b o,b≠a->s.heap.get? b=some o->h'.get? b=some o)->P (.done (.ret .none)) { s with heap:=h' }) :
  aJ (model prog w) A (aS.«list.sort» ⟨[.ref a],[]⟩) P E s:=by
 have ha:a<s.heap.objs.size:=aF ho
 have s1:=bH s.heap a (a9 fun _=>(#[]:Array Value))
 obtain⟨e1,ho1⟩:∃ e1,(s.heap.update a (a9 fun _=>(#[]:Array Value))).get? a=some (bn "list" #[] e1):=⟨_,eh ho fun _=>#[]⟩
 rw [list_sort_plain]
 refine af (j9 ho rfl ?_)
 refine af (eV ho rfl ?_ (by rw [ao,bb];omega) (bA _))
 refine af (iq ho1 rfl ?_)
 refine af (iY ?_ (by show vs.length<=_;rw [bb];omega))
 refine af (fK ?_ (bA _))
 refine bw ?_
 show aJ (model prog w) A _ P E { s with heap:=((s.heap.update a (a9 fun _=>(#[]:Array Value))).push (bn "tuple" vs.toArray 0)).push (bn "list" #[] 0) }
 dsimp only
 have hn2:vs.toArray.size<2:=by rw [ao];omega
 rw [if_pos hn2,if_pos hn2]
 refine af (ak ?_)
 rw [StateT.run_pure]
 refine af (ak ?_)
 dsimp only
 have ho6:(((s.heap.update a (a9 fun _=>(#[]:Array Value))).push (bn "tuple" vs.toArray 0)).push (bn "list" #[] 0)).get? a=some (bn "list" #[] e1):=ag _ (ag _ ho1)
 have o6:∀ b o,b≠a->s.heap.get? b=some o->(((s.heap.update a (a9 fun _=>(#[]:Array Value))).push (bn "tuple" vs.toArray 0)).push (bn "list" #[] 0)).get? b=some o:=fun b o nb e=>ag _ (ag _ ((s1.2 b nb).trans e))
 generalize ((s.heap.update a (a9 fun _=>(#[]:Array Value))).push (bn "tuple" vs.toArray 0)).push (bn "list" #[] 0)=h6 at ho6 o6 ⊢
 have hout:iZ (fun x:Keyed=>x.snd) (arrOf (lO mO (vs.toArray.zip vs.toArray) #[] 7 none))=vs.toArray:=by
  show iZ (fun x:Keyed=>x.snd) (vs.toArray.zip vs.toArray)=vs.toArray
  apply Array.ext'
  simp only [Array.toList_map,Array.toList_zip]
  exact List.map_snd_zip (ah _)
 refine af (iq (s:={ s with heap:=h6 }) ho6 rfl ?_)
 refine af (eV (s:={ s with heap:=h6 }) ho6 rfl ?_ (bA _) (by rw [hout,ao,bb];omega))
 have s2:=bH h6 a (a9 fun _=>iZ (fun x:Keyed=>x.snd) (arrOf (lO mO (vs.toArray.zip vs.toArray) #[] 7 none)))
 obtain⟨c2,hc2⟩:∃ c2,(h6.update a (a9 fun _=>iZ (fun x:Keyed=>x.snd) (arrOf (lO mO (vs.toArray.zip vs.toArray) #[] 7 none)))).get? a=some (bn "list" (iZ (fun x:Keyed=>x.snd) (arrOf (lO mO (vs.toArray.zip vs.toArray) #[] 7 none))) c2):=⟨_,eh ho6 fun _=>_⟩
 rw [hout] at hc2 s2 ⊢
 simp only [bne_self_eq_false,cC,if_false]
 exact ak (h _ c2 hc2 fun b o nb e=>(s2.2 b nb).trans (o6 b o nb e))
theorem so_sortedG {x:Value} {OKQ:List Value->aj->Prop} {Q:Value->aj->Prop} (hc:∀ R:List Value->aj->Prop,(∀ us s',OKQ us s'->R us s')->aJ (model prog w) A.in1 (k6 x) R (fun _ _=>False) s)
  (h:∀ us s',OKQ us s'->us.length<64/\((us.length<2 -> ∀ h2 c,h2.get? s'.heap.objs.size=some (bn "list" us.toArray c)->(∀ b o,s'.heap.get? b=some o->h2.get? b=some o)->Q (.ref s'.heap.objs.size) { s' with heap:=h2 })/\(2<=us.length -> ∀ D e1 h2,s'.heap.objs.size<=D->h2.get? D=some (bn "list" #[] e1)->(∀ b o,s'.heap.get? b=some o->h2.get? b=some o) ->
   aJ (model prog w) A.in1.in1 (mf us.toArray) (fun κ s''=>(kas_sort us.length).kasWp (kas_ask prog w A.in1.in1 κ us) (fun p s3=>SoFin D e1 (p.toList.map fun i=>us.getD i bG) (fun s4=>Q (.ref D) s4) s3) s'') (fun _ _=>False) { s' with heap:=h2 }))) :
  aJ (model prog w) A (call (.builtin "sorted") [x]) Q E s:=by
 refine Calls.call_function_entry kind_sorted plain_sorted entry_sorted (args_sorted1 _) ?_
 unfold aS.«sorted»
 refine af (m:=checkCount "sorted" 1 1 _) (ak ?_)
 refine af (b6 (hc _ fun us s' ok=>?_) (fun _ _ z=>z) fun _ _ z=>z.elim)
 obtain⟨h64,hs,hb⟩:=h us s' ok
 refine af (fK ?_ (by rw [bb];omega))
 have hoL:(s'.heap.push (bn "list" us.toArray 0)).get? s'.heap.objs.size=some (bn "list" us.toArray 0):=aw _ rfl
 show aJ _ _ _ _ _ { s' with heap:=s'.heap.push (bn "list" us.toArray 0) }
 refine af (bw (c6 slot_list_sort ⟨_,hoL,rfl⟩ entry_list_sort ?body (args_list_sort _)))
 case body=>
  by_cases h2:2<=us.length
  ·refine Mx (s:={ s' with heap:=s'.heap.push (bn "list" us.toArray 0) }) hoL h2 h64 fun e1 h2' g k=>?_
   refine b6 (hb h2 _ e1 h2' (ah _) g fun b o q=>k b o (aH (aF q)) (ag _ q)) (fun κ s' hk=>?_) fun _ _ x=>x
   rw [kat_ask_eq rfl] at hk ⊢
   exact kas_wp_mono hk fun p s'' hk'=>hk'.mono fun s3 hq=>⟨_,rfl,ak ⟨_,rfl,hq⟩⟩
  ·have h2:us.length<2:=by omega
   refine Kk (s:={ s' with heap:=s'.heap.push (bn "list" us.toArray 0) }) hoL h2 fun h3 c g k=>?_
   exact⟨_,rfl,ak ⟨_,rfl,hs h2 h3 c g fun b o q=>k b o (aH (aF q)) (ag _ q)⟩⟩
theorem so_sortedC {x:Value} {OKQ:List Value->Heap->Nat->Prop} {Q:Value->aj->Prop} (hc:∀ R:List Value->aj->Prop,(∀ us h' tk,OKQ us h' tk->R us { s with heap:=h',toks:=tk })->aJ (model prog w) A.in1 (k6 x) R (fun _ _=>False) s)
  (h:∀ us h' tk,OKQ us h' tk->us.length<64/\((us.length<2 -> ∀ h2 c,h2.get? h'.objs.size=some (bn "list" us.toArray c)->(∀ b o,h'.get? b=some o->h2.get? b=some o)->Q (.ref h'.objs.size) { s with heap:=h2,toks:=tk })/\(2<=us.length -> ∀ D e1 h2,h'.objs.size<=D->h2.get? D=some (bn "list" #[] e1)->(∀ b o,h'.get? b=some o->h2.get? b=some o) ->
   aJ (model prog w) A.in1.in1 (mf us.toArray) (fun κ s'=>(kas_sort us.length).kasWp (kas_ask prog w A.in1.in1 κ us) (fun p s''=>SoFin D e1 (p.toList.map fun i=>us.getD i bG) (fun s3=>Q (.ref D) s3) s'') s') (fun _ _=>False) { s with heap:=h2,toks:=tk }))) :
  aJ (model prog w) A (call (.builtin "sorted") [x]) Q E s:=
 so_sortedG (OKQ:=fun us s'=>∃ h' tk,s'={ s with heap:=h',toks:=tk }/\OKQ us h' tk) (fun R hR=>hc R fun us h' tk ok=>hR us _ ⟨h',tk,rfl,ok⟩) fun us s' ⟨h',tk,e,ok⟩=>by subst e;exact h us h' tk ok
end
end PySem.W
namespace L2
open PySem PySem.Spec PyProof.Rows
theorem Nc:∀ {xs:List V} {us:List Value},xs.length=us.length->(∀ (i:Nat) x u,xs[i]? = some x->us[i]? = some u->RelV x u)->Vals xs us
 | [],[],_,_=>.nil
 | [],_::_,h,_=>by simp at h
 | _::_,[],h,_=>by simp at h
 | x::xs,u::us,h,g=>.cons (g 0 x u rfl rfl) (Nc (by simpa using h) fun i a b ha hb=>g (i+1) a b ha hb)
theorem am2 {P:aI} {w:bp} {k:Key} {v:Value} (h:(Ao P w).is k v=true):RelV (kV k) v:=by
 rcases Aw (show F4 k v=true from h) with ⟨i,t,rfl,rfl⟩|⟨x,t,rfl,rfl⟩
 ·exact⟨t,rfl⟩
 ·exact⟨t,rfl⟩
theorem Gq {P:aI} {w:bp} {kvs:List (Key×V)} {vs:List (Key×Value)} {us:List Value} (rel:KV kvs vs) (hl:us.length=vs.length) (h:∀ (j:Nat) v,us[j]? = some v -> ∃ k x,vs[j]? = some (k,x)/\(Ao P w).is k v=true):Vals (kvs.map fun kv=>kV kv.1) us:=by
 refine Nc (by rw [ai,rel.length,hl]) fun i x u hx hu=>?_
 obtain⟨k,y,hk,his⟩:=h i u hu
 have e:(kvs.map (·.1))[i]? = some k:=by rw [rel.keys,aE,hk];rfl
 rw [aE] at hx e
 obtain⟨kv,hkv,rfl⟩:=Option.map_eq_some_iff.mp hx
 rw [hkv] at e
 cases e
 exact am2 his
section
variable {X:Cx}
noncomputable def ab6:List V->Hp->VK->Prop:=fun xs H Q=>∃ p kvs,xs=[.ref p]/\Rd H p (.dK kvs)/\kvs.length<=1000 /\ ∀ l,H l=none->Q (.ref l) (upd H l (.lst (kvs.map fun kv=>kV kv.1)))
theorem Pz (hc:X.calm=true):Bw X (.type "list") ab6:=by
 intro pins s σ H xs us Q I r h
 obtain⟨p,kvs,rfl,e,few,q⟩:=h
 obtain⟨u,rfl,ru⟩:=Dv r
 cases ru
 obtain⟨z,lo,vs,rel,dof⟩:=Di I.hok e
 obtain⟨ep,dat⟩:=dof.dictAt
 refine bI (ah _) (PySem.W.kdl_call (jy lo) (I.ok.hd hc) dat (by rw [<- rel.length];exact z) fun h' tk acc' c' hk hS' hacc htk=>?_)
 refine⟨.ref s.heap.objs.size,_,I.laid (t':=tk) hk (ah _) (o:=.lst (kvs.map fun kv=>kV kv.1)) ⟨by rw [ai];exact z,acc'.toList,c',?_,by simpa using hS'⟩,rfl,q _ (I.hok.fresh (ah _))⟩
 exact Gq rel (by rw [aU];exact hacc.1) fun j v e=>hacc.2 j v (by rw [<- bP];exact e)
noncomputable def ac5 (K:ae):List V->Hp->VK->Prop:=fun xs H Q=>∃ p zs,xs=[.ref p]/\(SqL K H p (zs.map V.str) \/ ∃ kvs,Rd H p (.dK kvs)/\kvs.map (·.1)=zs.map fA)/\zs.Nodup/\zs.length<64 /\ ∀ D,H D=none->Q (.ref D) (upd H D (.lst ((Ak ltS zs).map V.str)))
theorem U3 {zs:List Str} (h:zs.length<2):Ak ltS zs=zs:=by
 match zs,h with
 | [],_=>rfl
 | [z],_=>rfl
theorem Si {zs:List Str} {us:List Value} (r:Vals (zs.map V.str) us) {i:Nat} (h:i<zs.length):∃ t,us.getD i bG=.str (zs.getD i ck) t:=by
 have hl:us.length=zs.length:=by have:=r.length;simpa using this.symm
 obtain⟨x,hx,rx⟩:=Pl r (i:=i) (by omega)
 rw [aE,am h] at hx
 cases hx
 obtain⟨t,e⟩:=rx
 refine⟨t,?_⟩
 rw [aB (l:=zs),am h]
 exact e
theorem Pc {pins:List (Addr×Obj)} {s:aj} {σ:St} {H:Hp} {Q:VK} {u:Value} {zs:List Str} (I:Inv X pins σ H s) (nd:zs.Nodup) (h64:zs.length<64)
  (hc:∀ R:List Value->aj->Prop,(∀ (us:List Value) (ys:List Str) (h':Heap) (tk:Nat) (d:Drawn),ys.Perm zs->(∀ b o,s.heap.get? b=some o->h'.get? b=some o)->s.heap.objs.size<=h'.objs.size->s.toks<=tk->Vals (ys.map V.str) us->R us { s with heap:=h',toks:=tk,drawn:=d })->aJ (model X.prog X.w) X.A.in1 (k6 u) R (fun _ _=>False) s)
  (q:∀ D,H D=none->Q (.ref D) (upd H D (.lst ((Ak ltS zs).map V.str)))):aJ (model X.prog X.w) X.A (call (.builtin "sorted") [u]) (EP X pins σ Q) X.xe s:=by
 refine PySem.W.so_sortedG (OKQ:=fun us s'=>∃ (ys:List Str) (h':Heap) (tk:Nat) (d:Drawn),s'={ s with heap:=h',toks:=tk,drawn:=d }/\ys.Perm zs/\(∀ b o,s.heap.get? b=some o->h'.get? b=some o)/\s.heap.objs.size<=h'.objs.size/\s.toks<=tk/\Vals (ys.map V.str) us) (fun R hR=>hc R fun us ys h' tk d p k z e r=>hR us _ ⟨ys,h',tk,d,rfl,p,k,z,e,r⟩) fun us s' ⟨ys,h',tk,d,e,perm,keep,hD,htk,rv⟩=>?_
 subst e
 have I1:Inv X pins σ H { s with drawn:=d }:={ I with }
 have nd2:ys.Nodup:=perm.nodup_iff.mpr nd
 have same:Ak ltS ys=Ak ltS zs:=Le perm (Hi nd2)
 have hyz:=perm.length_eq
 rw [<- same] at q
 have hl:us.length=ys.length:=by have:=rv.length;simpa using this.symm
 refine⟨by omega,fun h2 h2' c g k=>?_,fun h2 D e1 h2' hD2 gD k=>?_⟩
 ·refine⟨.ref h'.objs.size,_,I1.laid (t':=tk) (fun b o e=>k b o (keep b o e)) hD (o:=.lst ((Ak ltS ys).map V.str)) ⟨?_,us,c,?_,g⟩,rfl,q _ (I.hok.fresh hD)⟩
  ·rw [U3 (by omega),ai,bb];omega
  ·rw [U3 (by omega)];exact rv
 ·refine PySem.W.kas_kind (T:=.type "str") h2 (fun v hv=>?_) rfl rfl ?_
  ·obtain⟨i,hi,rfl⟩:=List.getElem_of_mem hv
   obtain⟨t,e⟩:=Si rv (i:=i) (by omega)
   rw [aB,am hi] at e
   rw [show us[i]=_ from e]
   exact .now
  ·obtain⟨pp,h1,h3,h4,h5⟩:=G0 (lt:=ltS) (zs:=ys) ck (Hi nd2) (by omega)
   refine PySem.W.kRun_wp (n:=us.length) (lt:=fun i j=>ltS (ys.getD i ck) (ys.getD j ck)) (a:=pp) (fun i j C hi hj hC=>?_) (by rw [hl];exact h1) ⟨gD,fun h3' c g2 sb=>?_⟩
   ·unfold j4
    obtain⟨t1,e1⟩:=Si rv (i:=i) (by omega)
    obtain⟨t2,e2⟩:=Si rv (i:=j) (by omega)
    rw [e1,e2]
    exact PySem.W.kas_lt_str hC
   ·refine⟨.ref D,_,I1.laid (t':=tk) (fun b o e=>(sb.2 b (aH (aO (aF e) (aL hD hD2)))).trans (k b o (keep b o e))) (aL hD hD2) (o:=.lst ((Ak ltS ys).map V.str)) ⟨?_,_,c,?_,g2⟩,rfl,q D (I.hok.fresh (aL hD hD2))⟩
    ·rw [ai,(Am ltS ys).length_eq,bb];omega
    ·have v:=E3 rv pp.toList (fun i hi=>by rw [hl];exact h4 i hi)
     have e:(pp.toList.map fun i=>(ys.map V.str).getD i .non)=(Ak ltS ys).map V.str:=by
      rw [<- h5,cr]
      refine dD fun i hi=>?_
      have:=h4 i hi
      rw [aB,aE,am this]
      show V.str ys[i]=V.str (ys.getD i ck)
      rw [aB,am this]
      rfl
     rwa [e] at v
theorem P4 (hc:X.calm=true):Bw X (.builtin "sorted") (ac5 X.K):=by
 intro pins s σ H xs us Q I r h
 obtain⟨p,zs,rfl,hp,nd,h64,q⟩:=h
 obtain⟨u,rfl,ru⟩:=Dv r
 cases ru
 refine Pc I nd h64 (fun R hR=>?_) q
 rcases hp with hp|⟨kvs,hp,ek⟩
 ·obtain⟨its,ri,pl,hz⟩:=I.list hp
  refine lX pl.isList (hR _ _ _ s.toks s.drawn (.refl _) (fun b o e=>?_) ?_ (ah _) ri) (by have:=ri.length;rw [ai] at this;rw [bb];omega)
  ·have hlt:b<s.heap.objs.size:=aF e
   rw [hX _ _ _ _ (aH hlt)]
   exact ag _ e
  ·rw [gS,jf]
   exact cq _
 ·obtain⟨z,lo,vs,rel,dof⟩:=Di I.hok hp
  obtain⟨ep,dat⟩:=dof.dictAt
  refine bI (ah _) (PySem.W.collect_src (jy lo) (by simp [I.ok.hd hc]) dat (by rw [<- rel.length];exact z) fun h' tk us hk hs hl hi htk=>?_)
  refine hR us zs h' tk s.drawn (.refl _) hk (fu hs) htk ?_
  have v:=Gq rel hl hi
  have e:(kvs.map fun kv=>kV kv.1)=zs.map V.str:=by
   have:=congrArg (iG kV) ek
   rw [cr,cr] at this
   exact this
  rwa [e] at v
end
end L2
set_option maxHeartbeats 400000
namespace PySem
theorem b43 {t:bT} {n:Nat}:(t.orStandIn n).led=t.led/\((t.orStandIn n).plain=true->t.plain=true):=by
 unfold SetTable.orStandIn
 split
 ·exact⟨rfl,fun h=>h⟩
 ·exact⟨rfl,fun h=>by cases h⟩
theorem bo5 (t:bT) (es:Array (Int×Value)) (h:Int) (x:Value):(layNew t es h x).2.1.led=t.led/\((layNew t es h x).2.1.plain=true->t.plain=true):=by
 unfold layNew
 split
 ·exact b43
 ·exact⟨rfl,fun h=>by cases h⟩
theorem Wn {t t':bT} {hs:Array Int} {n:Nat} {o:Array Nat} (h:t.relaid hs n=some (t',o)):t'.led=t.led/\t'.plain=t.plain:=by
 unfold SetTable.relaid SetTable.laid at h
 cases e:SetTable.layClean (SetTable.sizeAbove n - 1) hs with
 | none=>rw [e] at h;cases h
 | some ow=>
  rw [e] at h
  cases h
  exact⟨rfl,rfl⟩
theorem ag0 (t:bT) (es:Array (Int×Value)) (n:Nat):(kg t es n).2.1.led=t.led/\((kg t es n).2.1.plain=true->t.plain=true):=by
 unfold kg
 split
 ·rename_i t' o e
  obtain⟨h1,h2⟩:=Wn e
  dsimp only
  split
  ·exact⟨h1,fun h=>h2▸h⟩
  ·exact⟨rfl,fun h=>by cases h⟩
 ·exact⟨rfl,fun h=>by cases h⟩
section
variable {prog:aI} {w:bp} {κ:Type} [DecidableEq κ] {knd:KeyKind prog w κ} {A:bi} {E:Value->aj->Prop} {s:aj}
structure SetQ (knd:KeyKind prog w κ) (h:Heap) (a:Addr) (S:κ->Bool) (n:Nat) (led:Bool) (o:Obj) (es:Array (Int×Value)) (ep:Nat) (t:bT):Prop where
 at_:h.get? a=some o
 ex:o.ExactSet
 dt:o.data=.set es ep t
 el:ElemsOf knd es.toList
 mem:∀ k,S k=true ↔ ∃ e∈es.toList,knd.is k e.2=true
 few:es.size<scanBound
 fit:t.fits es.size=true
 sz:es.size=n
 led:t.led=led
 pl:t.plain=true->es.size=0
noncomputable def Ps (knd:KeyKind prog w κ) (h:Heap) (a:Addr) (S:κ->Bool) (n:Nat) (led:Bool):Prop:=∃ o es ep t,SetQ knd h a S n led o es ep t
theorem SetQ.of {h:Heap} {a:Addr} {S S':κ->Bool} {n m:Nat} {led:Bool} {o:Obj} {es es':Array (Int×Value)} {ep:Nat} {t t':bT} (q:SetQ knd h a S n led o es ep t)
  (el:ElemsOf knd es'.toList) (mem:∀ k,S' k=true ↔ ∃ e∈es'.toList,knd.is k e.2=true) (few:es'.size<scanBound) (fit:t'.fits es'.size=true) (sz:es'.size=m) (ld:t'.led=led) (pl:t'.plain=false) :
  SetQ knd (h.update a (Obj.putSet es' t')) a S' m led { o with data:=.set es' (ep+1) t' } es' (ep+1) t':=
 ⟨(SetOf_store (knd:=knd) q.at_ q.ex q.dt el mem few fit).1,q.ex,rfl,el,mem,few,fit,sz,ld,fun c=>by rw [pl] at c;cases c⟩
theorem bo4 {a:Addr} {S:κ->Bool} {n:Nat} {led:Bool} {k:κ} {x:Value} {Q:Bool->aj->Prop} (hk:knd.is k x=true) (hx:x.scannable=true) (hp:plainKind x=false) (hQ:Ps knd s.heap a S n led) (room:n+1<scanBound)
  (h:∀ h',br a s.heap h'->Ps knd h' a (fun k'=>S k'||decide (k'=k)) (if S k then n else n+1) led->Q (!S k) { s with heap:=h' }) :
  aJ (model prog w) A (setAddHashed a x (knd.hash k)) Q E s:=by
 obtain⟨o,es,ep,t,q⟩:=hQ
 have fit:=q.fit
 unfold setAddHashed setAddHashedIn setAddByScan
 refine bw (af (eB q.at_ q.dt fit ?_))
 dsimp only
 rw [byScan_of hx q.few q.el,if_pos rfl]
 refine af (af (g9 (af (wpAny_setScan_of hk q.at_ q.dt fit q.el ?_))))
 cases hr:List.findIdx? (fun e=>knd.is k e.2) es.toList with
 | some j=>
  obtain⟨hj,hpj,_⟩:=List.findIdx?_eq_some_iff_getElem.mp hr
  have inS:S k=true:=(q.mem k).mpr ⟨_,cY hj,hpj⟩
  rw [inS] at h
  refine ak (ak (h s.heap (Heap.SameBut.refl _ _) ⟨o,es,ep,t,{ q with mem:=fun k'=>?_ }⟩))
  rw [<- q.mem k',dA,decide_eq_true_eq]
  exact⟨fun c=>c.elim id fun e=>e▸inS,.inl⟩
 | none=>
  have noS:S k=false:=by
   cases c:S k with
   | false=>rfl
   | true=>
    obtain⟨e,he,hp⟩:=(q.mem k).mp c
    have:=List.findIdx?_eq_none_iff.mp hr e he
    rw [hp] at this;cases this
  rw [noS] at h
  have perm:=layNew_perm t es (knd.hash k) x
  have fits:=layNew_fits t es (knd.hash k) x
  obtain⟨l1,l2⟩:=bo5 t es (knd.hash k) x
  generalize layNew t es (knd.hash k) x=L at perm fits l1 l2 ⊢
  obtain⟨es1,t1,wd,gv⟩:=L
  dsimp only at perm fits l1 l2 ⊢
  rw [Array.toList_push] at perm
  have el1:ElemsOf knd es1.toList:=(q.el.push hk hx).perm perm
  have mem1:=mem_push_iff hk q.mem perm
  have sz1:es1.size=n+1:=by rw [<- aU,perm.length_eq,av,aU,q.sz];rfl
  have few1:es1.size<scanBound:=by omega
  have tail:∀ t2:bT,t2.fits es1.size=true->t2.led=led->t2.plain=false -> ∀ (g:Bool->Sem Unit),(∀ b s1 (R:Unit->aj->Prop),R () s1->aJ (model prog w) A (g b) R E s1)->aJ (model prog w) A (do
    storeSet a es1 t2
    if (!wd&&t2.tooFull)=true then do
      g (kg t2 es1 (eZ es1.size)).2.2
      storeSet a (kg t2 es1 (eZ es1.size)).1 (kg t2 es1 (eZ es1.size)).2.1
      pure (some true)
     else pure (some true)) (fun (r:Option Bool) s'=>r=some true /\ ∃ h',s'={ s with heap:=h' }/\br a s.heap h'/\Ps knd h' a (fun k'=>S k'||decide (k'=k)) (n+1) led) E s:=fun t2 f2 ld2 pl2 g hg=>by
   have q1:=q.of (m:=n+1) el1 mem1 few1 f2 sz1 ld2 pl2
   have b1:=bH s.heap a (Obj.putSet es1 t2)
   refine af (wpAny_storeSet_of q.at_ q.dt ?_ (fits_of_scanBound few1))
   split
   ·have p2:=relayAll_perm t2 es1 (eZ es1.size)
    have f3:=relayAll_fits t2 es1 (eZ es1.size)
    obtain⟨r1,r2⟩:=ag0 t2 es1 (eZ es1.size)
    generalize kg t2 es1 (eZ es1.size)=L2 at p2 f3 r1 r2 ⊢
    obtain⟨es2,t3,gv2⟩:=L2
    dsimp only at p2 f3 r1 r2 ⊢
    have sz2:es2.size=n+1:=by rw [<- aU,p2.length_eq,aU,sz1]
    have mem2:∀ k',(S k'||decide (k'=k))=true ↔ ∃ e∈es2.toList,knd.is k' e.2=true:=fun k'=>by
     rw [mem1 k']
     exact⟨fun⟨e,he,z⟩=>⟨e,p2.mem_iff.mpr he,z⟩,fun⟨e,he,z⟩=>⟨e,p2.mem_iff.mp he,z⟩⟩
    have pl3:t3.plain=false:=by
     cases c:t3.plain with
     | false=>rfl
     | true=>rw [r2 c] at pl2;cases pl2
    refine af (hg _ _ _ (af (wpAny_storeSet_of q1.at_ q1.dt (ak ⟨rfl,_,rfl,b1.trans (bH _ a _),_,_,_,_,q1.of (m:=n+1) (el1.perm p2) mem2 (by omega) f3 sz2 (r1.trans ld2) pl3⟩) (by rw [sz2,bb];have:scanBound=4096:=rfl;omega))))
   ·exact ak ⟨rfl,_,rfl,b1,_,_,_,_,q1⟩
  have fin:∀ (r:Option Bool) (s':aj),(r=some true /\ ∃ h',s'={ s with heap:=h' }/\br a s.heap h'/\Ps knd h' a (fun k'=>S k'||decide (k'=k)) (n+1) led)->Q true s':=fun r s' ⟨_,h',e,b,z⟩=>by
   rw [e];exact h h' b z
  have hg:∀ (b:Bool) (s1:aj) (R:Unit->aj->Prop),R () s1->aJ (model prog w) A (match b with|true=>rule "set.scan.the-table-gave-way" | false=>pure ()) R E s1:=fun b s1 R z=>by
   cases b
   ·exact ak z
   ·exact g9 z
  refine af (hg gv _ _ ?_)
  split
  ·rw [hashByValue_scannable 8 hx,hp]
   refine af (ak ?_)
   refine b6 (tail { t1 with plain:=false } (SetTable.fits_plain_off fits) (l1.trans q.led) rfl _ hg) (fun r s' z=>?_) fun _ _ z=>z
   obtain⟨rfl,z⟩:=z
   exact ak (fin _ s' ⟨rfl,z⟩)
  ·rename_i c
   refine af (ak ?_)
   refine b6 (tail t1 fits (l1.trans q.led) (by simpa using c) _ hg) (fun r s' z=>?_) fun _ _ z=>z
   obtain⟨rfl,z⟩:=z
   exact ak (fin _ s' ⟨rfl,z⟩)
theorem as5 (a:Value) {Q₁:Value->aj->Prop} (h:Q₁ (.ref s.heap.objs.size) { s with heap:=s.heap.push (B8 (!w.params.followText "set-order")) }):eU (model prog w) A (.call (.builtin "set.__new__") ⟨[.type "set", a],[]⟩) (wants Q₁ E) s:=by
 have hsub:=sub_set_self
 refine il (show aJ _ A.in1 (fW "set.__new__" ⟨[.type "set", a],[]⟩ >>= fun _=>again (.builtin "set.__new__" ⟨[.type "set", a],[]⟩)) _ _ s from ?_)
 refine af (mC (F.newCall_set_1 a) (ak ⟨jt F.plain_set_new _,dE F.entry_set_new (dX F.plain_set_new _ ▸ ?_)⟩))
 unfold aS.«set.__new__» Builtin.Frozenset.newClass
 obtain⟨hp,g,d,tk,os⟩:=s;dsimp only
 wp_walk
 refine eY (ak ?_);dsimp only;simp only [newObj]
 exact af (wpAny_alloc (ak (ak h)))
theorem af9 {led:Bool} {h:Heap} {a:Addr} (e:h.get? a=some (B8 led)):Ps knd h a (fun _=>false) 0 led:=
 ⟨_,#[],0,_,e,⟨rfl,rfl,rfl⟩,rfl,(fun e he=>by simp at he),(fun k=>by simp),(by decide),rfl,rfl,rfl,fun _=>rfl⟩
end
end PySem
set_option maxHeartbeats 4000000
namespace PySem
open PySem PySem.Spec PyProof.Rows
section
variable {prog:aI} {w:bp} {A:bi} {R:kG->aj->Prop} {I:Addr} {fp wr:List Addr} {G:Array iF->Array iF->Prop} {P:Nat->Value->Prop} {St:Nat->aj->Prop} {κ:Type} [DecidableEq κ] {knd:KeyKind prog w κ} {ks:List κ} {led:Bool}
noncomputable abbrev Dg (knd:KeyKind prog w κ) (led:Bool) (h:Heap) (S:Addr) (ks:List κ):Prop:=Ps knd h S (fun k=>(Ci ks).any (fun j=>decide (j=k))) (Ci ks).length led
theorem a19 {h h':Heap} {S:Addr} (x:Dg knd led h S ks) (k:∀ o,h.get? S=some o->h'.get? S=some o):Dg knd led h' S ks:=
 let ⟨o,es,ep,t,q⟩:=x;⟨o,es,ep,t,{ q with at_:=k o q.at_ }⟩
theorem Sk (W:WalksS prog w A.in1 I fp wr G ks.length P St) (S:Addr) (out:S∉fp) (hv:∀ i v,P i v -> ∃ k,ks[i]? = some k/\knd.is k v=true/\v.scannable=true/\plainKind v=false) (few:ks.length+1<scanBound) (left:Nat) :
  ∀ (i:Nat) (s:aj),i+left=ks.length->St i s->Dg knd led s.heap S (ks.take i)->(∀ s',Moved (S::wr) G s s'->Dg knd led s'.heap S ks->R (.ok (.ret .none)) s') ->
   eU (model prog w) A (.builtin "set.update.loop" ⟨[.ref S,.ref I],[]⟩) R s:=by
 have outw:S∉wr:=fun z=>out (W.sub _ z)
 have into:∀ b∈wr,b∈S::wr:=fun b z=>.tail _ z
 induction left with
 | zero=>
  intro i s hi st fl hR
  have ei:i=ks.length:=hi
  subst ei
  rw [dH] at fl
  refine dE ji (dX gj _ ▸ ?_)
  show aJ _ A.in1 (l5 (.ref I) >>= _) _ _ s
  exact af (W.done s _ _ st fun s' mv=>ak (hR s' (mv.mono into) (a19 fl fun o e=>mv.heap S o outw e)))
 | succ left ih=>
  intro i s hi st fl hR
  have lt:i<ks.length:=by omega
  refine dE ji (dX gj _ ▸ ?_)
  show aJ _ A.in1 (l5 (.ref I) >>= _) _ _ s
  refine af (W.item i s _ _ lt st fun v s1 pv st1 mv=>?_)
  obtain⟨k,ek,ik,sk,nk⟩:=hv i v pv
  have fl1:Dg knd led s1.heap S (ks.take i):=a19 fl fun o e=>mv.heap S o outw e
  have tk:ks.take (i+1)=ks.take i++[k]:=by rw [List.take_succ,ek];rfl
  show aJ _ A.in1 (mP [v] (setAdd S v) >>= _) _ _ s1
  refine af (bw ?_)
  unfold setAdd
  refine bw (af (knd.pyHash (k:=k) ik ?_))
  have room:(Ci (ks.take i)).length+1<scanBound:=by
   have:=Iv (ks.take i)
   rw [bj] at this
   omega
  refine bo4 (knd:=knd) (s:={ s1 with toks:=s1.toks+1 }) ik sk nk fl1 room fun h' sb fl2=>?_
  have fl3:Dg knd led h' S (ks.take (i+1)):=by
   have eS:(fun j=>(Ci (ks.take i)).any (fun m=>decide (m=j))||decide (j=k))=fun j=>(Ci (ks.take i++[k])).any (fun m=>decide (m=j)):=funext fun j=>(Zb (ks.take i) k j).symm
   have en:(if (Ci (ks.take i)).any (fun m=>decide (m=k))=true then (Ci (ks.take i)).length else (Ci (ks.take i)).length+1)=(Ci (ks.take i++[k])).length:=by
    rw [K5];split <;> simp
   rw [tk]
   show Ps knd h' S _ _ led
   rw [<- eS,<- en]
   exact fl2
  refine ak ⟨jt gj _,ih (i+1) _ (by omega) (W.frame _ s1 _ _ st1 (cq _) fun b hb o e=>?_) fl3 fun s2 mv2 fl4=>?_⟩
  ·exact (sb.2 b fun z=>out (z▸hb)).trans e
  ·exact hR s2 (Moved.trans W.gtrans ((mv.mono into).then_heap (cq _) fun b o hb e=>(sb.2 b fun z=>hb (z▸bv)).trans e) mv2) fl4
end
section
variable {prog:aI} {w:bp} {A:bi} {E:Value->aj->Prop} {s:aj} {κ:Type} [DecidableEq κ] {knd:KeyKind prog w κ} {ks:List κ}
theorem Sl {l:Addr} {items:Array Value} {Q:Value->aj->Prop} (hh:A.handled=none) (hl:s.heap.IsList l items) (hv:∀ (i:Nat) (v:Value),items[i]? = some v -> ∃ k,ks[i]? = some k/\knd.is k v=true/\v.scannable=true/\plainKind v=false) (hs:items.size=ks.length) (few:ks.length+1<scanBound)
  (h:∀ (h':Heap) (tk:Nat),Dg knd (!w.params.followText "set-order") h' s.heap.objs.size ks->(∀ b o,b<s.heap.objs.size->s.heap.get? b=some o->h'.get? b=some o)->Q (.ref s.heap.objs.size) { s with heap:=h',toks:=tk }) :
  aJ (model prog w) A (call (.type "set") [.ref l]) Q E s:=by
 obtain⟨c,tl,hmro⟩:=F.called_set.mro
 have m1:=F.called_set.made
 have m2:=F.called_set.sub
 have m3:=F.called_set.notType
 have m4:=F.called_set.canCreate
 have m5:=F.typeCall_set_1 (.ref l)
 refine dJ (il (show aJ _ _ (callAny (.type "set") _) _ _ _ from ak ⟨cT _ (by decide +kernel),dE F.entry_type_call ?_⟩))
 rw [Around.under_plain (weight_type_call_type "set" [.ref l] []) rfl]
 repeat (any_goals (first|assumption|wp_step))
 refine eJ (as5 (.ref l) (E:=E) (Q₁:=fun obj s₁=>obj=.ref s.heap.objs.size/\s₁={ s with heap:=s.heap.push (B8 (!w.params.followText "set-order")) }) ⟨rfl,rfl⟩) fun r s₁ hr=>?_
 cases r with
 | error e=>exact hr
 | ok fl=>
  cases fl with
  | ret obj=>
   obtain⟨rfl,rfl⟩:=hr
   have new:(s.heap.push (B8 (!w.params.followText "set-order"))).get? s.heap.objs.size=some (B8 (!w.params.followText "set-order")):=aw _ rfl
   have ty:Shared.TypeIs { s with heap:=s.heap.push (B8 (!w.params.followText "set-order")) } (.ref s.heap.objs.size) "set" := ⟨_,new,rfl⟩
   have m6:=F.called_set.init.lookup
   have m7:=F.called_set.init.bind (.ref s.heap.objs.size)
   repeat (any_goals (first|assumption|wp_step))
   refine eJ (c9 (R:=wants (fun r s₂=>r=.none /\ ∃ h' tk,s₂={ s with heap:=h',toks:=tk }/\Dg knd (!w.params.followText "set-order") h' s.heap.objs.size ks/\(∀ b o,b<s.heap.objs.size->s.heap.get? b=some o->h'.get? b=some o)) E) F.called_set.init.plain F.entry_set_init (check_set_init_1 ty ?_)) fun r2 s2 hr2=>?_
   ·obtain⟨⟨oc,odict,od,osl⟩,ol,hc,n,hd⟩:=hl
    simp only at hc hd
    subst hc;subst hd
    have lt:l<s.heap.objs.size:=aF ol
    have ol2:(s.heap.push (B8 (!w.params.followText "set-order"))).get? l=some { cls:=.type "list", dict:=odict,data:=.seq items n,slots:=osl }:=ag _ ol
    have m8:=F.sub_list_set
    have m9:=F.sub_list_frozenset
    have m10:(d_ "list" == d_ "dict")=false:=by decide
    have isl:(s.heap.push (B8 (!w.params.followText "set-order"))).IsList l items:=⟨_,ol2,rfl,n,rfl⟩
    have size:(s.heap.push (B8 (!w.params.followText "set-order"))).objs.size=s.heap.objs.size+1:=cB ..
    unfold aS.«set.__init__» noKeywords Builtin.Frozenset.updateFrom
    generalize hPI:mF=PI
    wp_walk
    subst hPI
    refine wpAny_pyIter_list isl (af (kK ?_))
    have quiet:A.in1.in1.in1.handled=none:=by simp [hh]
    have ne1:l≠(s.heap.push (B8 (!w.params.followText "set-order"))).objs.size:=size▸aH (fH lt)
    have out:s.heap.objs.size∉[(s.heap.push (B8 (!w.params.followText "set-order"))).objs.size,l]:=by
     simp only [size,aG,cf,or_false,not_or]
     exact⟨aH (cK _),dM lt⟩
    have W:=(Walks.list (prog:=prog) (w:=w) quiet (s.heap.push (B8 (!w.params.followText "set-order"))).objs.size l ne1 items).toS
    rw [hs] at W
    refine Sk (ks:=ks) (led:=!w.params.followText "set-order") W s.heap.objs.size out hv few ks.length 0 _ (jY _) ⟨⟨_,aw _ rfl,rfl,rfl⟩,isl.push _⟩ ?_ fun s' mv fl=>?_
    ·exact af9 (ag _ new)
    ·obtain⟨h',g',d',tk',os'⟩:=s'
     have e1:g'=s.gens:=mv.gens
     have e2:d'=s.drawn:=mv.drawn
     have e3:os'=s.os:=mv.os
     subst e1;subst e2;subst e3
     refine (show aJ _ _ _ _ _ _ from ak (show aJ _ _ (ret bG) _ _ _ from ak ⟨rfl,h',tk',rfl,fl,fun b o hb e=>?_⟩))
     refine mv.heap b o ?_ (ag _ (ag _ e))
     simp only [size,aG,cf,or_false,not_or]
     exact⟨aH hb,aH (fH hb)⟩
   ·cases r2 with
    | error e=>exact hr2
    | ok f2=>
     cases f2 with
     | ret r=>
      obtain⟨rfl,h',tk,rfl,fl,kept⟩:=hr2
      repeat (any_goals (first|assumption|wp_step))
      exact h _ _ fl kept
     | _=>exact hr2.elim
  | _=>exact hr.elim
end
end PySem
set_option maxHeartbeats 1000000
namespace PySem
open PySem PySem.Spec PyProof.Rows
theorem Wp:entryFor table "set.__iter__" = some aS.«frozenset.__iter__»:=entryFor_alias (id' := "frozenset.__iter__") (by kernel_rfl) rfl (by decide +kernel) (by kernel_rfl)
theorem sy_s_next:Slot "set_iterator" "__next__" "set_iterator.__next__" := .of (owner := "set_iterator") (n := "__next__") (by rw [typeLookup_type,j7];kernel_rfl) (by decide +kernel) (by decide +kernel) (by decide +kernel) (by first|exact .inl (by decide +kernel)|exact .inr (by decide +kernel)) (by rw [kI];kernel_rfl)
theorem Lg:entryFor table "set_iterator.__next__" = some aS.«set_iterator.__next__»:=entryFor_of_tree (by kernel_rfl)
theorem b44:Manifest.owners.lookup (String.ofList ['r','o','t','a','r','e','t','i','_','t','e','s'].reverse)=some Manifest.sig_set_iterator:=by kernel_rfl
theorem Lf (a:Value):argsOk "set_iterator.__next__" ⟨[a],[]⟩:=by
 unfold argsOk
 rw [signature?_of (id := "set_iterator.__next__") (n:=['_','_','t','x','e','n','_','_']) (o:=['r','o','t','a','r','e','t','i','_','t','e','s']) (by kernel_rfl) b44]
 kernel_rfl
theorem Lh:Slot "set_iterator" "__iter__" "set_iterator.__iter__" := .of (owner := "set_iterator") (n := "__iter__") (by rw [typeLookup_type,j7];kernel_rfl) (by decide +kernel) (by decide +kernel) (by decide +kernel) (by first|exact .inl (by decide +kernel)|exact .inr (by decide +kernel)) (by rw [kI];kernel_rfl)
theorem Wq:entryFor table "set_iterator.__iter__" = some aS.«dict_keyiterator.__iter__»:=entryFor_alias (id' := "dict_keyiterator.__iter__") (by kernel_rfl) rfl (by decide +kernel) (by kernel_rfl)
theorem Wo (a:Value):argsOk "set_iterator.__iter__" ⟨[a],[]⟩:=by
 unfold argsOk
 rw [signature?_of (id := "set_iterator.__iter__") (n:=['_','_','r','e','t','i','_','_']) (o:=['r','o','t','a','r','e','t','i','_','t','e','s']) (by kernel_rfl) b44]
 kernel_rfl
theorem Nb {α:Type}:∀ {l:List α} {i:Nat} (h:i<l.length),(l[i]::l.eraseIdx i).Perm l
 | a::l,0,_=>.refl _
 | a::l,i+1,h=>(List.Perm.swap a _ _).trans ((Nb (l:=l) (i:=i) (jJ h)).cons a)
theorem U7 {α:Type} (next:Nat->Nat):∀ (fuel k:Nat) (left:List α) (out:Array α),left.length<=fuel -> ∃ ys,(j_ next fuel k left out).toList=out.toList++ys/\ys.Perm left
 | 0,k,left,out,h=>⟨[],by simp [j_],by rw [cX (Nat.le_zero.mp h)]⟩
 | fuel+1,k,[],out,h=>⟨[],by simp [j_],.nil⟩
 | fuel+1,k,z::left,out,h=>by
  have hlt:next k % (z::left).length<(z::left).length:=Nat.mod_lt _ (by simp)
  obtain⟨ys,e,p⟩:=U7 next fuel (k+1) ((z::left).eraseIdx (next k % (z::left).length)) (out.push (z::left)[next k % (z::left).length]) (by rw [iC hlt];exact Nat.sub_le_of_le_add h)
  refine⟨(z::left)[next k % (z::left).length]::ys,?_,?_⟩
  ·rw [j_,am hlt]
   dsimp only
   rw [e];simp
  ·exact (p.cons _).trans (Nb hlt)
theorem ag1 {α:Type} (next:Nat->Nat) (xs:Array α):(fS next xs).toList.Perm xs.toList:=by
 obtain⟨ys,e,p⟩:=U7 next xs.size 0 xs.toList #[] (jX aU)
 unfold fS
 rw [e];simpa using p
section
variable {prog:aI} {w:bp} {A:bi} {E:Value->aj->Prop}
theorem U6 {α:Type}:∀ (n:Nat) (xs:List α) (s:aj) {Q:List α->aj->Prop},xs.length=n->(∀ ys d,ys.Perm xs->Q ys { s with drawn:=d })->aJ (model prog w) A (drawOrder n xs) Q E s
 | 0,xs,s,Q,h,hQ=>by
  rw [cX h] at hQ ⊢
  unfold drawOrder
  exact ak (hQ [] s.drawn .nil)
 | n+1,[],s,Q,h,hQ=>by cases h
 | n+1,z::xs,s,Q,h,hQ=>by
  unfold drawOrder
  refine af (fun Γ p _=>⟨by simp,?_⟩)
  have hlt:(model prog w).w.draws .order (s.drawn.get .order) % (z::xs).length<(z::xs).length:=Nat.mod_lt _ (by simp)
  generalize (model prog w).w.draws .order (s.drawn.get .order) % (z::xs).length=i at hlt
  show aJ (model prog w) A _ Q E { s with drawn:=s.drawn.bump .order }
  rw [am hlt]
  dsimp only
  refine af (U6 n ((z::xs).eraseIdx i) _ (by rw [iC hlt];simpa using h) fun ys d p=>ak (hQ _ d ((p.cons _).trans (Nb hlt))))
end
noncomputable def a49 (h:Heap) (I:Addr) (f:Value) (i:Nat) (S:Addr) (n ep:Nat):Prop:=∃ o,h.get? I=some o/\o.cls=.type "set_iterator" /\ o.data=.fields #[f,.int i 0,.ref S,.int n 0,.int ep 0]
noncomputable def SyF (w:bp) (h:Heap) (S T:Addr) (es:Array (Int×Value)) (ep:Nat) (t:bT) (xs:List Value) (i:Nat) (f:Value):Prop:=
 (w.params.followText "set-order" = true/\f=.int 0 0/\xs=(fS (w.params.setOrder S ep) es).toList.map (·.2)) \/
 (∃ ps:List Nat,f=.ref T/\(∃ o c,h.get? T=some o/\o.data=.seq (ps.map fun (i:Nat)=>fE i).toArray c)/\ps.length=es.size /\ ∀ (i p:Nat),ps[i]? = some p -> ∃ e:Int×Value,es[p]? = some e/\xs[i]? = some e.2) \/
 (w.params.followText "set-order" = false/\es.size<=1/\t.led=true/\f=.int ((if i=0 then 0 else t.place.getD 0 0+1:Nat)) 0/\xs=es.toList.map (·.2))
noncomputable def Vc (w:bp) (I S T:Addr) (es:Array (Int×Value)) (ep:Nat) (t:bT) (xs:List Value) (i:Nat) (h:Heap):Prop:=
 ∃ f,a49 h I f i S es.size ep/\(∃ o,h.get? S=some o/\o.data=.set es ep t)/\SyF w h S T es ep t xs i f
section
variable {prog:aI} {w:bp} {A:bi} {E:Value->aj->Prop} {s:aj} {I S T:Addr} {es:Array (Int×Value)} {ep:Nat} {t:bT} {xs:List Value} {i:Nat}
theorem So {n:Nat} {places:Array Nat} (h:places.size=n) (h1:n<=1):dr places 0=0/\dr places (places.getD 0 0+1)=n:=by
 subst h
 match places,h1 with
 | ⟨[]⟩,_=>exact⟨rfl,rfl⟩
 | ⟨[a]⟩,_=>
  constructor
  ·simp [dr,SetTable.below.go]
  ·simp [dr,SetTable.below.go]
theorem ag2 {oT:Obj} {its:Array Value} {c:Nat} {Q:Option (Array Value)->aj->Prop} (hoT:s.heap.get? T=some oT) (hdT:oT.data=.seq its c) (h:Q (some its) s):aJ (model prog w) A (mq (.ref T)) Q E s:=by
 unfold mq
 refine af (lT hoT ?_)
 rw [hdT]
 exact ak h
theorem Ph {slot given:Nat} {oS:Obj} {Q:Option (Value×Nat)->aj->Prop} (hoS:s.heap.get? S=some oS) (hdS:oS.data=.set es ep t) (fit:t.fits es.size=true) (hw:w.params.followText "set-order" = true)
  (h:Q (((fS (w.params.setOrder S ep) es)[given]?).map fun e=>(e.2,slot)) s):aJ (model prog w) A (setNext S slot given ep) Q E s:=by
 unfold setNext
 refine af (eB hoS hdS fit ?_)
 dsimp only
 unfold lS
 refine af (af (eY (ak ?_)))
 rw [if_pos (show (model prog w).w.params.followText "set-order" = true from hw),if_neg (by simp)]
 refine af ?_
 unfold setWalk
 refine af (eB hoS hdS fit ?_)
 dsimp only
 unfold lS
 refine af (af (eY (ak ?_)))
 rw [if_pos (show (model prog w).w.params.followText "set-order" = true from hw)]
 exact af (eY (ak (ak h)))
theorem Pi {slot given:Nat} {oS:Obj} {Q:Option (Value×Nat)->aj->Prop} (hoS:s.heap.get? S=some oS) (hdS:oS.data=.set es ep t) (fit:t.fits es.size=true) (hw:w.params.followText "set-order" = false) (h1:es.size<=1) (hl:t.led=true)
  (h:Q (match es[dr t.place slot]?,t.place[dr t.place slot]? with
  | some (_,x),some j=>some (x,j+1)
  | _,_=>none) s):aJ (model prog w) A (setNext S slot given ep) Q E s:=by
 unfold setNext
 refine af (eB hoS hdS fit ?_)
 dsimp only
 unfold lS
 refine af (af (eY (ak ?_)))
 rw [if_neg (show ¬ (model prog w).w.params.followText "set-order" = true from by rw [show (model prog w).w.params.followText "set-order" = false from hw];exact ar)]
 refine gA (fun c=>?_) (fun _=>?_)
 ·have c2:(!t.plain&&decide (es.size > 1))=true:=c
  simp at c2
  omega
 refine af (m:=if (!t.led && !es.isEmpty)=true then unsupported "set:maker-not-led" else pure ()) ?_
 rw [hl]
 exact ak (ak h)
theorem bo7 {h:Heap} {o:Obj} {f g:Value} {j:Int} {n:Nat} (ho:h.get? I=some o) (hc:o.cls=.type "set_iterator") (hd:o.data=.fields #[f,.int i 0,.ref S,.int n 0,.int ep 0]) :
  a49 ((h.update I (bO (·.setIfInBounds 0 g))).update I (bO (·.setIfInBounds 1 (fE ((i:Int)+1))))) I g (i+1) S n ep:=by
 have a:=bz (bO (·.setIfInBounds 0 g)) ho (cA (bY hd _))
 have b:=bz (bO (·.setIfInBounds 1 (fE ((i:Int)+1)))) a (cA (bY (bY hd _) _))
 exact⟨_,b,(i_ ..).trans ((i_ ..).trans hc),by rw [bY (bY hd _)];simp [fE]⟩
theorem as9 {h:Heap} {o:Obj} {f:Value} {n:Nat} (ho:h.get? I=some o) (hc:o.cls=.type "set_iterator") (hd:o.data=.fields #[f,.int i 0,.ref S,.int n 0,.int ep 0]) :
  a49 (h.update I (bO (·.setIfInBounds 1 (fE ((i:Int)+1))))) I f (i+1) S n ep:=
 ⟨_,bz _ ho (cA (bY hd _)),(i_ ..).trans hc,by rw [bY hd];simp [fE]⟩
theorem as7 {Q:Option Value->aj->Prop} (fit:t.fits es.size=true) (hxs:xs.length=es.size) (hST:S≠I/\T≠I) (hi:i<es.size) (st:Vc w I S T es ep t xs i s.heap)
  (hQ:∀ v h',xs[i]? = some v->Vc w I S T es ep t xs (i+1) h'->(∀ b o,b≠I->s.heap.get? b=some o->h'.get? b=some o)->Q (some v) { s with heap:=h' }) :
  aJ (model prog w) A (l5 (.ref I)) Q E s:=by
 obtain⟨f,⟨o,ho,hc,hd⟩,⟨oS,hoS,hdS⟩,hf⟩:=st
 have ty:s.TypeIs (.ref I) "set_iterator" := ⟨o,ho,hc⟩
 unfold l5
 refine af (gx (eW (name:=fz "__next__") ty sy_s_next (c6 sy_s_next ty Lg ?_ (Lf _))))
 unfold aS.«set_iterator.__next__»
 refine af (ak ?_)
 refine af (wpAny_fieldsOf ho hd ?_)
 dsimp only
 refine af (iu hoS hdS fit ?_)
 rw [if_neg (by simp)]
 refine af (ak ?_)
 have oth:∀ {g:Value} (b:Addr) (o:Obj),b≠I->s.heap.get? b=some o->((s.heap.update I (bO (·.setIfInBounds 0 g))).update I (bO (·.setIfInBounds 1 (fE ((i:Int)+1))))).get? b=some o:=
  fun b o hb e=>(aW _ _ (bZ hb)).trans ((aW _ _ (bZ hb)).trans e)
 have oth1:∀ (b:Addr) (o:Obj),b≠I->s.heap.get? b=some o->(s.heap.update I (bO (·.setIfInBounds 1 (fE ((i:Int)+1))))).get? b=some o:=
  fun b o hb e=>(aW _ _ (bZ hb)).trans e
 have fin:∀ (v:Value) (nx:Nat),xs[i]? = some v->SyF w ((s.heap.update I (bO (·.setIfInBounds 0 (fE nx)))).update I (bO (·.setIfInBounds 1 (fE ((i:Int)+1))))) S T es ep t xs (i+1) (fE nx) ->
   aJ (model prog w) A.in1 (do
     mR (aR I) 0 (fE (nx:Nat))
     mR (aR I) 1 (fE ((i:Int)+1))
     ret v) (fun fin s'=>∃ v,fin=Fin.done (Flow.ret v)/\aJ (model prog w) A (pure (some v)) Q E s')
    (fun e s'=>aJ (model prog w) A (do if <- je e (d_ "StopIteration") then pure none else throw e) Q E s') s:=by
  intro v nx ev sf
  refine af (cP ho hd (by simp) ?_)
  have a:=bz (bO (·.setIfInBounds 0 (fE nx))) ho (cA (bY hd _))
  refine af (cP (s:={ s with heap:=_ }) a (bY hd _) (by simp) ?_)
  exact ak ⟨v,rfl,ak (hQ v _ ev ⟨_,bo7 (j:=0) ho hc hd,⟨oS,oth _ _ hST.1 hoS,hdS⟩,sf⟩ oth)⟩
 rcases hf with ⟨hw,rfl,ex⟩|⟨ps,rfl,⟨oT,c,hoT,hdT⟩,hps,hx⟩|⟨hw,h1,hl,rfl,ex⟩
 ·dsimp only
  have e1:(fS (w.params.setOrder S ep) es).size=es.size:=by rw [ex,ai,aU] at hxs;exact hxs
  refine af (Ph hoS hdS fit hw ?_)
  rw [bK,bu (by omega)]
  refine fin _ 0 ?_ (.inl ⟨hw,rfl,ex⟩)
  rw [ex,aE,bP,bu (by omega)]
  rfl
 ·obtain⟨p,hp⟩:∃ p,ps[i]? = some p:=⟨_,am (by omega)⟩
  obtain⟨e,he,hv⟩:=hx i p hp
  dsimp only
  refine af (ag2 hoT hdT ?_)
  dsimp only
  rw [bK,jR,aE,hp]
  show aJ _ _ (setNextDrawn S _ _ >>= _) _ _ s
  refine af ?_
  unfold setNextDrawn
  refine af (eB hoS hdS fit ?_)
  dsimp only
  rw [if_neg (by simp)]
  refine af (ak ?_)
  rw [show (gO (p:Int))=p from bK p,he]
  refine ak ?_
  refine af (cP ho hd (by simp) ?_)
  exact ak ⟨_,rfl,ak (hQ _ _ hv ⟨_,as9 ho hc hd,⟨oS,oth1 _ _ hST.1 hoS,hdS⟩,.inr (.inl ⟨ps,rfl,⟨oT,c,oth1 _ _ hST.2 hoT,hdT⟩,hps,hx⟩)⟩ oth1)⟩
 ·dsimp only
  have hsz:t.place.size=es.size:=by simp only [SetTable.fits,aA,beq_iff_eq,decide_eq_true_eq] at fit;exact fit.1
  obtain rfl:i=0:=by omega
  refine af (Pi hoS hdS fit hw h1 hl ?_)
  rw [show (gO ((if (0:Nat)=0 then 0 else t.place.getD 0 0+1:Nat):Int))=0 from rfl,(So hsz h1).1,bu hi,bu (by omega)]
  refine fin _ _ ?_ (.inr (.inr ⟨hw,h1,hl,?_,ex⟩))
  ·rw [ex,aE,bP,bu hi];rfl
  ·simp [fE,dz,bu (show 0<t.place.size by omega)]
theorem bo6 {Q:Option Value->aj->Prop} (hh:A.handled=none) (fit:t.fits es.size=true) (hxs:xs.length=es.size) (st:Vc w I S T es ep t xs es.size s.heap)
  (hQ:∀ h',(∀ b o,b≠I->s.heap.get? b=some o->h'.get? b=some o)->Q none { s with heap:=h' }) :
  aJ (model prog w) A (l5 (.ref I)) Q E s:=by
 obtain⟨f,⟨o,ho,hc,hd⟩,⟨oS,hoS,hdS⟩,hf⟩:=st
 have ty:s.TypeIs (.ref I) "set_iterator" := ⟨o,ho,hc⟩
 unfold l5
 refine af (gx (eW (name:=fz "__next__") ty sy_s_next (c6 sy_s_next ty Lg ?_ (Lf _))))
 unfold aS.«set_iterator.__next__»
 refine af (ak ?_)
 refine af (wpAny_fieldsOf ho hd ?_)
 dsimp only
 refine af (iu hoS hdS fit ?_)
 rw [if_neg (by simp)]
 refine af (ak ?_)
 have fin:∀ h':Heap,(∀ b o,b≠I->s.heap.get? b=some o->h'.get? b=some o)->aJ (model prog w) A.in1 (do raiseNew (<- newExc (d_ "StopIteration") [])) (fun fin s'=>∃ v,fin=Fin.done (Flow.ret v)/\aJ (model prog w) A (pure (some v)) Q E s')
    (fun e s'=>aJ (model prog w) A (do if <- je e (d_ "StopIteration") then pure none else throw e) Q E s') { s with heap:=h' }:=by
  intro h' k
  refine af ?_;simp only [newExc,newTuple]
  refine af (cj ?_ (by size_fits));refine af (m:=firstArgMember _ _) (mC (a:=bG) (by first|rfl|(simp only [firstArgMember];rfl)) ?_);refine cj ?_ (by size_fits)
  simp only [raiseNew];refine af (wpAny_handled ?_);rw [show A.in1.handled=none from hh]
  refine af (ak (wpAny_throw ?_));refine af (wpAny_isInstance (T := "StopIteration") (b:=true) ⟨_,aw _ rfl,rfl⟩ isSubtype_stop ?_)
  exact ak (hQ _ fun b o hb e=>ag _ (ag _ (k b o hb e)))
 have k1:∀ {j:Nat} {g:Value} (b:Addr) (o:Obj),b≠I->s.heap.get? b=some o->(s.heap.update I (bO (·.setIfInBounds j g))).get? b=some o:=fun b o hb e=>(aW _ _ (bZ hb)).trans e
 rcases hf with ⟨hw,rfl,ex⟩|⟨ps,rfl,⟨oT,c,hoT,hdT⟩,hps,hx⟩|⟨hw,h1,hl,rfl,ex⟩
 ·dsimp only
  have e1:(fS (w.params.setOrder S ep) es).size=es.size:=by rw [ex,ai,aU] at hxs;exact hxs
  refine af (Ph hoS hdS fit hw ?_)
  rw [bK,jG (by omega)]
  refine af (cP ho hd (by simp) ?_)
  exact fin _ k1
 ·dsimp only
  refine af (ag2 hoT hdT ?_)
  dsimp only
  rw [bK,jR,ft (by rw [ai];omega)]
  refine af (cP ho hd (by simp) ?_)
  have a:=bz (bO (·.setIfInBounds 0 (fE 0))) ho (cA (bY hd _))
  refine af (cP (s:={ s with heap:=_ }) a (bY hd _) (by simp) ?_)
  exact fin _ fun b o hb e=>(aW _ _ (bZ hb)).trans (k1 b o hb e)
 ·dsimp only
  have hsz:t.place.size=es.size:=by simp only [SetTable.fits,aA,beq_iff_eq,decide_eq_true_eq] at fit;exact fit.1
  refine af (Pi hoS hdS fit hw h1 hl ?_)
  have e2:dr t.place (gO ((if es.size=0 then 0 else t.place.getD 0 0+1:Nat):Int))=es.size:=by
   rw [bK]
   by_cases e0:es.size=0
   ·rw [if_pos e0,(So hsz h1).1,e0]
   ·rw [if_neg e0,(So hsz h1).2]
  rw [e2,jG (ah _)]
  refine af (cP ho hd (by simp) ?_)
  exact fin _ k1
theorem ag3 (hh:A.handled=none) (fit:t.fits es.size=true) (hxs:xs.length=es.size) (hST:S≠I/\T≠I):mK prog w A I [I,S,T] [I] es.size (fun i v=>xs[i]? = some v) (Vc w I S T es ep t xs) where
 sub:=fun b hb=>by simp at hb;simp [hb]
 frame:=fun i h h' ⟨f,⟨o,ho,r⟩,⟨oS,hoS,rS⟩,hf⟩ hk=>⟨f,⟨o,hk I (by simp) o ho,r⟩,⟨oS,hk S (by simp) oS hoS,rS⟩,hf.imp id (Or.imp (fun⟨ps,e,⟨oT,c,hT,rT⟩,r⟩=>⟨ps,e,⟨oT,c,hk T (by simp) oT hT,rT⟩,r⟩) id)⟩
 item:=fun i s Q E hi st hQ=>as7 fit hxs hST hi st fun v h' e st' k=>hQ v h' s.toks e st' fun b o hb g=>k b o (fun z=>hb (by simp [z])) g
 done:=fun s Q E st hQ=>bo6 hh fit hxs st fun h' k=>hQ h' s.toks fun b o hb g=>k b o (fun z=>hb (by simp [z])) g
 self:=fun i s Q E ⟨f,⟨o,ho,hc,hd⟩,_⟩ hQ=>by
  have ty:s.TypeIs (.ref I) "set_iterator" := ⟨o,ho,hc⟩
  refine jh ty Lh (c6 Lh ty Wq ?_ (Wo _))
  show aJ _ _ (ret (.ref I)) _ _ s
  exact ak ⟨_,rfl, "set_iterator", _,ty,sy_s_next.lookup,hQ⟩
theorem as8 {κ:Type} [DecidableEq κ] {knd:KeyKind prog w κ} {Sf:κ->Bool} {n:Nat} {o:Obj} {Q:Value->aj->Prop} (q:SetQ knd s.heap S Sf n (!w.params.followText "set-order") o es ep t) (few:es.size<=sizeLine)
  (h:∀ I T xs h' d,xs.Perm (es.toList.map (·.2))->s.heap.objs.size<=I->(T=S\/s.heap.objs.size<=T)->S≠I/\T≠I->(∀ b o,s.heap.get? b=some o->h'.get? b=some o)->Vc w I S T es ep t xs 0 h'->Q (.ref I) { s with heap:=h',drawn:=d }) :
  aJ (model prog w) A (mF (.ref S)) Q E s:=by
 have ty:s.TypeIs (.ref S) "set" := ⟨o,q.at_,q.ex.1⟩
 have lt:S<s.heap.objs.size:=aF q.at_
 refine jh ty F.slot_set_iter (c6 F.slot_set_iter ty Wp ?_ (F.args_set_iter_1 _))
 unfold aS.«frozenset.__iter__»
 refine af (ak ?_)
 refine af ?_
 unfold Builtin.Frozenset.sizeOf
 refine af (iu q.at_ q.dt q.fit (ak ?_))
 refine af ?_
 unfold setDrawn
 refine af (eB q.at_ q.dt q.fit ?_)
 dsimp only
 unfold lS
 refine af (af (eY (ak ?_)))
 refine ak ?_
 refine gA (fun c=>?_) (fun c=>?_)
 ·have c2:(!w.params.followText "set-order" && (!t.plain&&decide (es.size > 1)))=true:=c
  simp only [aA] at c2
  refine af (U6 es.size (bC es.size) s d8 fun ps d hp=>?_)
  have hl:ps.length=es.size:=by rw [hp.length_eq,d8]
  refine af (iY ?_ (by rw [ai,hl];exact few))
  have e:∀ c,(s.heap.push c).objs.size=s.heap.objs.size+1:=fun c=>cB ..
  refine af (wpAny_setEpoch_of (s:={ s with heap:=_,drawn:=d }) (ag _ q.at_) q.dt q.fit ?_)
  refine af (cj (ak ⟨_,rfl, "set_iterator", _,⟨_,aw _ rfl,rfl⟩,sy_s_next.lookup,?_⟩))
  refine h _ s.heap.objs.size (ps.map fun p=>(es.getD p (0,bG)).2) _ d ?_ (by rw [e];exact cq _) (.inr (ah _)) ⟨by rw [e];exact aH (fH lt),by rw [e];exact aH (cK _)⟩ (fun b o g=>ag _ (ag _ g)) ⟨_,⟨_,aw _ rfl,rfl,rfl⟩,⟨o,ag _ (ag _ q.at_),q.dt⟩,.inr (.inl ⟨ps,rfl,⟨_,0,ag _ (aw _ rfl),rfl⟩,hl,fun i p hi=>?_⟩)⟩
  ·refine (hp.map _).trans (List.Perm.of_eq ?_)
   refine List.ext_getElem (by simp) fun i h1 h2=>?_
   have hi:i<es.size:=by simpa using h1
   simp [dz,bu hi]
  ·have hm:p∈bC es.size:=hp.mem_iff.mp (aX hi)
   have hlt:p<es.size:=List.mem_range.mp hm
   refine⟨es[p],bu hlt,?_⟩
   rw [aE,hi]
   simp [dz,bu hlt]
 ·have c2:¬ (!w.params.followText "set-order" && (!t.plain&&decide (es.size > 1)))=true:=c
  refine af (ak ?_)
  refine af (wpAny_setEpoch_of q.at_ q.dt q.fit ?_)
  refine af (cj (ak ⟨_,rfl, "set_iterator", _,⟨_,aw _ rfl,rfl⟩,sy_s_next.lookup,?_⟩))
  by_cases hw:w.params.followText "set-order" = true
  ·refine h _ S ((fS (w.params.setOrder S ep) es).toList.map (·.2)) _ s.drawn ((ag1 _ _).map _) (ah _) (.inl rfl) ⟨aH lt,aH lt⟩ (fun b o g=>ag _ g) ⟨_,⟨_,aw _ rfl,rfl,rfl⟩,⟨o,ag _ q.at_,q.dt⟩,.inl ⟨hw,rfl,rfl⟩⟩
  ·have hw:w.params.followText "set-order" = false:=by simpa using hw
   have h1:es.size<=1:=by
    rw [hw] at c2
    refine Nat.le_of_not_lt fun z=>c2 ?_
    have:t.plain=false:=by
     cases hp:t.plain with
     | false=>rfl
     | true=>have:=q.pl hp;omega
    simp [this,z]
   refine h _ S (es.toList.map (·.2)) _ s.drawn (.refl _) (ah _) (.inl rfl) ⟨aH lt,aH lt⟩ (fun b o g=>ag _ g) ⟨_,⟨_,aw _ rfl,rfl,rfl⟩,⟨o,ag _ q.at_,q.dt⟩,.inr (.inr ⟨hw,h1,?_,rfl,rfl⟩)⟩
   rw [q.led,hw];rfl
theorem as6 {Q:Bool->aj->Prop} (ty:s.TypeIs (.ref S) "set") (h:Q false s):aJ (model prog w) A (hJ (.ref S)) Q E s:=by
 unfold hJ
 refine af (wpAny_specialOf ty F.slot_set_len.lookup ?_)
 generalize hid:("set.__len__" : String)=id0
 wp_delta
 rw [show splitId id0=some ("set", "__len__") from by subst hid;decide +kernel]
 subst hid
 refine af (wpAny_isInstance (T := "set") (b:=true) ty (by rw [kI];kernel_rfl) ?_)
 refine gA (fun c=>absurd c (by decide)) (fun _=>?_)
 refine gA (fun _=>?_) (fun c=>absurd (by decide +kernel) c)
 exact af (iJ ty (ak h))
open PySem.W in
theorem Sn {κ:Type} [DecidableEq κ] {knd:KeyKind prog w κ} {Sf:κ->Bool} {n:Nat} {o:Obj} {Q:List Value->aj->Prop} (hh:A.handled=none) (q:SetQ knd s.heap S Sf n (!w.params.followText "set-order") o es ep t) (few:es.size<=sizeLine)
  (h:∀ us h' tk d,us.Perm (es.toList.map (·.2))->(∀ b o,s.heap.get? b=some o->h'.get? b=some o)->s.heap.objs.size<=h'.objs.size->s.toks<=tk->Q us { s with heap:=h',toks:=tk,drawn:=d }):aJ (model prog w) A (k6 (.ref S)) Q E s:=by
 have lt:S<s.heap.objs.size:=aF q.at_
 unfold k6
 refine af (kK (dE kB ?_))
 show aJ _ _ (do again (.builtin "list.__iadd__" ⟨[<- newList [],.ref S],[]⟩)) _ _ s
 refine af (fK (ak ⟨cT _ (by decide +kernel),dE entry_list_iadd' ?_⟩))
 show aJ _ _ (fj (.ref s.heap.objs.size) (.ref S) (.ref s.heap.objs.size)) _ _ { s with heap:=s.heap.push (bn "list" #[] 0) }
 rw [dX jn _]
 have e0:(s.heap.push (bn "list" #[] 0)).objs.size=s.heap.objs.size+1:=cB ..
 have hL:(s.heap.push (bn "list" #[] 0)).get? s.heap.objs.size=some (bn "list" #[] 0):=aw _ rfl
 have q1:SetQ knd (s.heap.push (bn "list" #[] 0)) S Sf n (!w.params.followText "set-order") o es ep t:={ q with at_:=ag _ q.at_ }
 unfold fj
 refine af (iJ (T := "set") ⟨o,q1.at_,q.ex.1⟩ ?_)
 have h1:i3 (.ref s.heap.objs.size) (.ref S)=false:=by simp [i3];exact dM lt
 simp only [h1,show (d_ "set" == d_ "list")=false from by decide,show (d_ "set" == d_ "tuple")=false from by decide,lm,cC,if_false]
 refine af (as8 (s:={ s with heap:=s.heap.push (bn "list" #[] 0) }) q1 few fun I T xs h' d hp hI hT hST k st=>?_)
 have hxs:xs.length=es.size:=by rw [hp.length_eq,ai,aU]
 have hI2:s.heap.objs.size+1<=I:=e0▸hI
 have out:s.heap.objs.size∉[I,S,T]:=by
  simp only [aG,cf,or_false,not_or]
  refine⟨aH hI2,dM lt,?_⟩
  rcases hT with rfl|hT
  ·exact dM lt
  ·have hT2:s.heap.objs.size+1<=T:=e0▸hT
   exact aH hT2
 have fit:=q.fit
 have W:=ag3 (prog:=prog) (w:=w) (A:=A.in1) (I:=I) (S:=S) (T:=T) (ep:=ep) (t:=t) (hh) fit hxs hST
 have hS1:h'.get? s.heap.objs.size=some (bn "list" #[] 0):=k _ _ hL
 have key:∀ (h2:Heap) (c tk:Nat),s.toks<=tk->Vc w I S T es ep t xs 0 h2->(∀ b o,b≠s.heap.objs.size->s.heap.get? b=some o->h2.get? b=some o)->h2.get? s.heap.objs.size=some (bn "list" #[] c) ->
   eU (model prog w) A (.builtin "list.extend.loop" ⟨[.ref s.heap.objs.size,.ref I,.ref s.heap.objs.size],[]⟩) (wants (fun v s'=>aJ (model prog w) A (do
    let .ref a:=v|unsupported "internal:collect"
    match (<- load a).data with
    | .seq xs _=>pure xs.toList
    | _=>unsupported "internal:collect") Q E s') E) { s with heap:=h2,toks:=tk,drawn:=d }:=by
  intro h2 c tk htk st2 k2 hS2
  refine codeAny_extend_loopS W.toS (by exact few) _ out _ es.size 0 _ #[] c rfl (bA _) st2 hS2 (ItemsOf.nil _) fun s' acc' c' hm hS' hacc=>?_
  refine (show aJ (model prog w) A (do
    let o <- load s.heap.objs.size
    match o.data with
    | .seq xs _=>pure xs.toList
    | _=>unsupported "internal:collect") Q E s' from ?_)
  refine af (lT hS' (ak ?_))
  rw [Moved.eq_with hm]
  refine h acc'.toList s'.heap s'.toks d ?_ (fun b o e=>hm.heap b o (fun hmem=>?_) (k2 b o (aH (aF e)) e)) ?_ (aL htk hm.toks)
  ·have e:acc'.toList=xs:=List.ext_getElem (by rw [aU,hacc.1,hxs]) fun i h1 h2=>by
    have g:xs[i]? = some acc'.toList[i]:=hacc.2 i _ (show acc'[i]? = some acc'.toList[i] from by rw [<- bP];exact am h1)
    rw [am h2] at g
    exact (aV g).symm
   rw [e];exact hp
  ·have hb:=aF e
   rcases List.mem_cons.mp hmem with z|z
   ·exact absurd z (aH hb)
   ·rw [List.mem_singleton.mp z] at hb
    exact eQ _ (f_ hb (aO (cK _) hI2))
  ·exact fu (aF hS')
 refine af (bw (as6 (s:={ s with heap:=h',drawn:=d }) ⟨o,k _ _ q1.at_,q.ex.1⟩ ?_))
 refine gA (fun _=>?_) (fun _=>ak ⟨jt iN _,key _ 0 _ (ah _) st (fun b o _ e=>k b o (ag _ e)) hS1⟩)
 refine af (g9 ?_);refine af ?_
 show aJ _ _ (updateSeq s.heap.objs.size (·.push .none) >>= fun _=>updateSeq s.heap.objs.size (·.pop)) _ _ { s with heap:=h',drawn:=d }
 refine af (wpAny_updateSeq (s:={ s with heap:=h',drawn:=d }) hS1 rfl ?_)
 have hS2:=bz (a9 (·.push bG)) hS1 rfl
 refine wpAny_updateSeq (s:={ s with heap:=_,drawn:=d }) (hz:=by seq_fits) hS2 rfl ?_
 have hS3:=bz (a9 (·.pop)) hS2 rfl
 have oth:∀ b o,b≠s.heap.objs.size->h'.get? b=some o->((h'.update s.heap.objs.size (a9 (·.push bG))).update s.heap.objs.size (a9 (·.pop))).get? b=some o:=fun b o hb e=>(aW _ _ (bZ hb)).trans ((aW _ _ (bZ hb)).trans e)
 exact ak ⟨jt iN _,key _ _ _ (ah _) (W.frame 0 _ _ st fun b hb o e=>oth b o (fun z=>out (z▸hb)) e) (fun b o hb e=>oth b o hb (k b o (ag _ e))) hS3⟩
end
end PySem
namespace L2
open PySem PySem.Spec PyProof.Rows
theorem Md (xs:List Str):(Ci xs).Nodup:=by
 suffices h:∀ (xs σ:List Str),σ.Nodup->(xs.foldl (fun σ k=>if σ.any (fun j=>decide (j=k)) then σ else σ++[k]) σ).Nodup from h xs [] dW
 intro xs
 induction xs with
 | nil=>exact fun σ h=>h
 | cons x xs ih=>
  intro σ h
  refine ih _ ?_
  dsimp only
  split
  ·exact h
  ·rename_i c
   refine List.nodup_append.mpr ⟨h,by simp,fun a ha b hb=>?_⟩
   rw [List.mem_singleton.mp hb]
   intro e
   exact c (List.any_eq_true.mpr ⟨a,ha,decide_eq_true e⟩)
theorem Mi:∀ {l m:List Str},l.Nodup->(∀ x∈l,x∈m)->m.length=l.length->m.Perm l
 | [],m,_,_,h=>by rw [cX h]
 | x::l,m,nd,sub,h=>by
  have hx:=sub x bv
  have nd2:=List.nodup_cons.mp nd
  refine (List.perm_cons_erase hx).trans ((Mi nd2.2 (fun y hy=>(kr (show y≠x from fun e=>nd2.1 (e▸hy))).mpr (sub y (aC _ hy))) ?_).cons x)
  rw [i9 hx,h];rfl
noncomputable def af6:Value->Str
 | .str k _=>k
 | _=>ck
section
variable {X:Cx}
noncomputable def Hn (K:ae):V->Hp->VK->Prop:=fun x H Q=>match x with
 | .ref l=>∃ ys:List Str,SqL K H l (ys.map V.str)/\ys.length<30 /\ ∀ D,H D=none->Q (.ref D) (upd H D (.lst ((Ak ltS (Ci ys)).map V.str)))
 | _=>False
theorem ae2 {pins:List (Addr×Obj)} {σ:St} {H:Hp} {s:aj} {x:V} {u:Value} {Q:VK} (hc:X.calm=true) (I:Inv X pins σ H s) (rx:RelV x u) (h:Hn X.K x H Q) :
  aJ (model X.prog X.w) X.A (call (.type "set") [u]) (fun v s1=>aJ (model X.prog X.w) X.A (call (.builtin "sorted") [v]) (EP X pins σ Q) X.xe s1) X.xe s:=by
 cases x with
 | ref l=>
  cases rx
  obtain⟨ys,hq,few,q⟩:=h
  obtain⟨its,rv,pl,hz⟩:=I.list hq
  have hl:its.length=ys.length:=by rw [<- rv.length,ai]
  have hm:=Iv ys
  refine bI (ah _) (Sl (knd:=PySem.strKind X.prog X.w) (ks:=ys) (I.ok.hd hc) pl.isList (fun i v e=>?_) (by simpa using hl) (by unfold scanBound;omega) fun h' tk fl kept htk=>?_)
  ·obtain⟨k,t,ek,rfl⟩:=U4 rv (by simpa using e)
   exact⟨k,ek,by show g8 k (.str k t)=true;simp [g8],rfl,rfl⟩
  ·have I1:Inv X pins σ H { s with heap:=h',toks:=tk }:=I.kept (t':=tk) fun b o e=>kept b o (aF e) e
   obtain⟨o,es,ep,t,sq⟩:=fl
   refine Pc I1 (Md ys) (by omega) (fun R hR=>?_) q
   refine Sn (s:={ s with heap:=h',toks:=tk }) (by simp [I.ok.hd hc]) sq (by rw [sq.sz,bb];omega) fun us h2 tk2 d perm k2 z2 ht2=>?_
   have texts:∀ v∈es.toList.map (·.2),∃ t,v=.str (af6 v) t:=fun v hv=>by
    obtain⟨e,he,rfl⟩:=List.mem_map.mp hv
    obtain⟨⟨k,hk,_⟩,_⟩:=sq.el e he
    obtain⟨t,e2⟩:=f9 (x:=k) hk
    exact⟨t,by rw [e2];rfl⟩
   refine hR us (us.map af6) h2 tk2 d ((perm.map af6).trans (Mi (Md ys) (fun x hx=>?_) (by rw [ai,ai,aU];exact sq.sz))) k2 z2 ht2 (Nc (by rw [ai,ai]) fun i a b ha hb=>?_)
   ·obtain⟨e,he,hk⟩:=(sq.mem x).mp (List.any_eq_true.mpr ⟨x,hx,decide_eq_true rfl⟩)
    obtain⟨t,e2⟩:=f9 (x:=x) hk
    exact List.mem_map.mpr ⟨e.2,List.mem_map.mpr ⟨e,he,rfl⟩,by rw [e2];rfl⟩
   ·rw [cr,aE,hb] at ha
    cases ha
    obtain⟨t,e⟩:=texts b (perm.mem_iff.mp (aX hb))
    exact⟨t,e⟩
 | _=>exact (show False from h).elim
end
end L2
namespace PySem.W
open PySem PySem.Calls PyProof.Rows
section
variable {prog:aI} {w:bp} {A:bi} {E:Value->aj->Prop} {s:aj} {vs:List Value}
noncomputable def SkFin (a b:Addr) (e e1:Nat) (ks out:List Value) (C:aj->Prop) (s:aj):Prop:=
 s.heap.get? a=some (bn "list" #[] e1)/\s.heap.get? b=some (bn "list" ks.toArray e) /\ ∀ h' c,h'.get? a=some (bn "list" (eE out) c)->(∀ d,d≠a->d≠b->h'.get? d=s.heap.get? d)->C { s with heap:=h' }
theorem U0 {a kS:Addr} {ks:List Value} {st:SortSt} {e e1:Nat} {out:List Value} {P:ml->aj->Prop} (hne:a≠kS) (har:iZ (fun x:Keyed=>x.snd) (arrOf st)=out.toArray) (h64:out.length<64) (k64:ks.length<64) (hf:failedOf st=none)
  (h:SkFin a kS e e1 ks out (fun s'=>P (.done (.ret .none)) s') s):aJ (model prog w) A (ksk_tail a false e1 (.ref kS) st) P E s:=by
 obtain⟨ha,hk,q⟩:=h
 unfold ksk_tail
 rw [har,hf]
 have s1:=bH s.heap kS (a9 fun _=>(#[]:Array Value))
 have ha1:(s.heap.update kS (a9 fun _=>(#[]:Array Value))).get? a=some (bn "list" #[] e1):=(s1.2 a hne).trans ha
 refine af (eV hk rfl ?_ (by rw [ao,bb];omega) (bA _))
 refine af (wpAny_letGo ?_)
 refine af (iq (s:={ s with heap:=s.heap.update kS (a9 fun _=>(#[]:Array Value)) }) ha1 rfl ?_)
 refine af (eV (s:={ s with heap:=s.heap.update kS (a9 fun _=>(#[]:Array Value)) }) ha1 rfl ?_ (bA _) (by simp only [cC,if_false];rw [ao,bb];omega))
 simp only [bne_self_eq_false,cC,if_false]
 have s2:=bH (s.heap.update kS (a9 fun _=>(#[]:Array Value))) a (a9 fun _=>out.toArray)
 obtain⟨c2,hc2⟩:∃ c2,((s.heap.update kS (a9 fun _=>(#[]:Array Value))).update a (a9 fun _=>out.toArray)).get? a=some (bn "list" out.toArray c2):=⟨_,eh ha1 fun _=>_⟩
 exact ak (q _ c2 hc2 fun d d1 d2=>(s2.2 d d1).trans (s1.2 d d2))
theorem ar9 {n:Nat} {a:Addr} {f:Value} {P:ml->aj->Prop} (ho:s.heap.get? a=some (bn "list" vs.toArray n)) (h64:vs.length<64)
  (h:∀ e1 kS h',s.heap.objs.size<=kS->h'.get? a=some (bn "list" #[] e1)->h'.get? kS=some (bn "list" #[] 0)->(∀ b o,b≠a->s.heap.get? b=some o->h'.get? b=some o) ->
   ∃ G:List Value->aj->Prop,(∀ e,h'.get? kS=some (bn "list" #[] e)->G [] { s with heap:=h' }) /\
    (∀ (j:Nat) x ks e s',vs[j]? = some x->ks.length=j->s'.heap.get? kS=some (bn "list" ks.toArray e)->G ks s'->aJ (model prog w) A (call f [x]) (fun k s''=>s''.heap.get? kS=some (bn "list" ks.toArray e) /\ ∀ h2 c,h2.get? kS=some (bn "list" (ks++[k]).toArray c)->br kS s''.heap h2->G (ks++[k]) { s'' with heap:=h2 }) (fun _ _=>False) s') /\
    (∀ ks e s',ks.length=vs.length->s'.heap.get? kS=some (bn "list" ks.toArray e)->G ks s'->(vs.length<2->SkFin a kS e e1 ks vs (fun s3=>P (.done (.ret .none)) s3) s')/\(2<=vs.length ->
     aJ (model prog w) A (mf ks.toArray) (fun κ s''=>(kas_sort vs.length).kasWp (kas_ask prog w A κ ks) (fun p s3=>SkFin a kS e e1 ks (p.toList.map fun i=>vs.getD i bG) (fun s4=>P (.done (.ret .none)) s4) s3) s'') (fun _ _=>False) s'))) :
  aJ (model prog w) A (ksk_tree a f false) P E s:=by
 have ha:a<s.heap.objs.size:=aF ho
 have s1:=bH s.heap a (a9 fun _=>(#[]:Array Value))
 obtain⟨e1,ho1⟩:∃ e1,(s.heap.update a (a9 fun _=>(#[]:Array Value))).get? a=some (bn "list" #[] e1):=⟨_,eh ho fun _=>#[]⟩
 have hsz:((s.heap.update a (a9 fun _=>(#[]:Array Value))).push (bn "tuple" vs.toArray 0)).objs.size=s.heap.objs.size+1:=by rw [jf,gS]
 unfold ksk_tree
 refine af (j9 ho rfl ?_)
 refine af (eV ho rfl ?_ (by rw [ao,bb];omega) (bA _))
 refine af (iq ho1 rfl ?_)
 refine af (iY ?_ (by show vs.length<=_;rw [bb];omega))
 refine af (fK ?_ (bA _))
 refine bw ?_
 show aJ (model prog w) A (ksk_rest a f false vs.toArray e1 (.ref ((s.heap.update a (a9 fun _=>(#[]:Array Value))).push (bn "tuple" vs.toArray 0)).objs.size)) P E { s with heap:=((s.heap.update a (a9 fun _=>(#[]:Array Value))).push (bn "tuple" vs.toArray 0)).push (bn "list" #[] 0) }
 have hk0:(((s.heap.update a (a9 fun _=>(#[]:Array Value))).push (bn "tuple" vs.toArray 0)).push (bn "list" #[] 0)).get? (((s.heap.update a (a9 fun _=>(#[]:Array Value))).push (bn "tuple" vs.toArray 0)).objs.size)=some (bn "list" #[] 0):=aw _ rfl
 have ha0:(((s.heap.update a (a9 fun _=>(#[]:Array Value))).push (bn "tuple" vs.toArray 0)).push (bn "list" #[] 0)).get? a=some (bn "list" #[] e1):=ag _ (ag _ ho1)
 obtain⟨G,g0,gs,gf⟩:=h e1 _ _ (by rw [hsz];exact cq _) ha0 hk0 (fun b o nb e=>ag _ (ag _ ((s1.2 b nb).trans e)))
 have hne:a≠((s.heap.update a (a9 fun _=>(#[]:Array Value))).push (bn "tuple" vs.toArray 0)).objs.size:=by rw [hsz];exact aH (fH ha)
 have gz:=g0 0 hk0
 generalize ((s.heap.update a (a9 fun _=>(#[]:Array Value))).push (bn "tuple" vs.toArray 0)).objs.size=kS at *
 generalize ((s.heap.update a (a9 fun _=>(#[]:Array Value))).push (bn "tuple" vs.toArray 0)).push (bn "list" #[] 0)=h' at *
 unfold ksk_rest
 refine af (g9 ?_)
 rw [<- Array.forIn_toList]
 refine af (ksk_fold (fun j s'=>∃ ks e,ks.length=j/\s'.heap.get? kS=some (bn "list" ks.toArray e)/\G ks s') vs 0 _ ⟨[],0,rfl,hk0,gz⟩ (fun j x s' hx ⟨ks,e,hl,hk,hg⟩=>?_) fun s' ⟨ks,e,hl,hk,hg⟩=>?_)
 ·rw [jY] at hl
  have hj:j<vs.length:=(List.getElem?_eq_some_iff.mp hx).1
  refine af (gx (b6 (gs j x ks e s' hx hl hk hg) (fun k s'' hq=>?_) fun _ _ z=>z.elim))
  obtain⟨hk2,hq⟩:=hq
  dsimp only
  refine af (eV hk2 rfl ?_ (by rw [ao,bb];omega) (by rw [Array.size_push,ao,bb];omega))
  have e3:(ks.toArray.push k)=(ks++[k]).toArray:=by simp
  obtain⟨c,hc⟩:∃ c,(s''.heap.update kS (a9 fun x=>x.push k)).get? kS=some (bn "list" (ks++[k]).toArray c):=⟨_,by rw [<- e3];exact eh hk2 fun x=>x.push k⟩
  exact ak ⟨rfl,ks++[k],c,by rw [av,hl,jY];rfl,hc,hq _ c hc (bH _ _ _)⟩
 ·rw [jY] at hl
  obtain⟨q1,q2⟩:=gf ks e s' hl hk hg
  refine af (j9 hk rfl ?_)
  unfold ksk_end
  simp only [cC,if_false]
  by_cases h2:vs.toArray.size<2
  ·rw [if_pos h2,if_pos h2]
   refine af (ak ?_)
   rw [StateT.run_pure]
   refine af (ak ?_)
   dsimp only
   refine U0 hne ?_ h64 (by omega) rfl (q1 (by simpa using h2))
   show iZ (fun x:Keyed=>x.snd) (ks.toArray.zip vs.toArray)=vs.toArray
   apply Array.ext'
   simp only [Array.toList_map,Array.toList_zip]
   exact List.map_snd_zip (by omega)
  ·have h2':2<=vs.length:=by rw [ao] at h2;omega
   rw [if_neg h2,if_neg h2]
   refine af (b6 (q2 h2') (fun κ s0 hk0=>?_) fun _ _ x=>x.elim)
   refine af (b6 (kat_run (Q:=fun st' s'=>∃ p:Array Nat,p.size=vs.length/\arrOf st'=p.map (kas_item (ks.toArray.zip vs.toArray))/\failedOf st'=none/\SkFin a kS e e1 ks (p.toList.map fun i=>vs.getD i bG) (fun s''=>P (.done (.ret .none)) s'') s')
    hl h2' h64 (fun p' st' s' a1 a2 a3 a4=>⟨p',a1,a2,a3,a4⟩) hk0) ?_ fun _ _ e=>e)
   rintro⟨⟨⟩,st'⟩ s' ⟨p,hp,har,hf,hq⟩
   exact U0 hne (kat_snds hl har) (by rw [ai,aU,hp];exact h64) (by omega) hf hq
theorem sk_sorted {x:Value} {b:Addr} {OKQ:List Value->Heap->Nat->Prop} {Q:Value->aj->Prop} (hc:∀ R:List Value->aj->Prop,(∀ us h' tk,OKQ us h' tk->R us { s with heap:=h',toks:=tk })->aJ (model prog w) A.in1 (k6 x) R (fun _ _=>False) s)
  (h:∀ us h' tk,OKQ us h' tk->us.length<64 /\ ∀ D e1 kS h2,h'.objs.size<=D->D<kS->h2.get? D=some (bn "list" #[] e1)->h2.get? kS=some (bn "list" #[] 0)->(∀ b o,h'.get? b=some o->h2.get? b=some o) ->
   ∃ G:List Value->aj->Prop,G [] { s with heap:=h2,toks:=tk } /\
    (∀ (j:Nat) x ks e s',us[j]? = some x->ks.length=j->s'.heap.get? kS=some (bn "list" ks.toArray e)->G ks s'->aJ (model prog w) A.in1.in1 (call (.ref b) [x]) (fun k s''=>s''.heap.get? kS=some (bn "list" ks.toArray e) /\ ∀ h2 c,h2.get? kS=some (bn "list" (ks++[k]).toArray c)->br kS s''.heap h2->G (ks++[k]) { s'' with heap:=h2 }) (fun _ _=>False) s') /\
    (∀ ks e s',ks.length=us.length->s'.heap.get? kS=some (bn "list" ks.toArray e)->G ks s'->(us.length<2->SkFin D kS e e1 ks us (fun s3=>Q (.ref D) s3) s')/\(2<=us.length ->
     aJ (model prog w) A.in1.in1 (mf ks.toArray) (fun κ s''=>(kas_sort us.length).kasWp (kas_ask prog w A.in1.in1 κ ks) (fun p s3=>SkFin D kS e e1 ks (p.toList.map fun i=>us.getD i bG) (fun s4=>Q (.ref D) s4) s3) s'') (fun _ _=>False) s'))) :
  aJ (model prog w) A (call (.builtin "sorted") [x] [("key", .ref b)]) Q E s:=by
 refine call_function_entry_kw kind_sorted plain_sorted entry_sorted (ksk_s1 _ _) ?_
 unfold aS.«sorted»
 refine af (m:=checkCount "sorted" 1 1 _) (ak ?_)
 refine af (b6 (hc _ fun us h' tk ok=>?_) (fun _ _ z=>z) fun _ _ z=>z.elim)
 obtain⟨h64,hb⟩:=h us h' tk ok
 refine af (fK ?_ (by rw [bb];omega))
 have hoL:(h'.push (bn "list" us.toArray 0)).get? h'.objs.size=some (bn "list" us.toArray 0):=aw _ rfl
 show aJ _ _ _ _ _ { s with heap:=h'.push (bn "list" us.toArray 0),toks:=tk }
 refine af (bw (wpAny_call_entry_kw slot_list_sort ⟨_,hoL,rfl⟩ entry_list_sort ?body (ksk_l1 _ _)))
 case body=>
  rw [ksk_t1]
  refine ar9 (s:={ s with heap:=h'.push (bn "list" us.toArray 0),toks:=tk }) hoL h64 fun e1 kS h2 hk g gk k=>?_
  have hk2:h'.objs.size<kS:=by
   have hk:(h'.push (bn "list" us.toArray 0)).objs.size<=kS:=hk
   rw [jf] at hk;omega
  obtain⟨G,g0,gs,gf⟩:=hb h'.objs.size e1 kS h2 (ah _) hk2 g gk fun b o q=>k b o (aH (aF q)) (ag _ q)
  refine⟨G,fun _ _=>g0,gs,fun ks e s' hl hk hg=>?_⟩
  obtain⟨q1,q2⟩:=gf ks e s' hl hk hg
  refine⟨fun h2=>?_,fun h2=>b6 (q2 h2) (fun κ s'' hk=>?_) fun _ _ x=>x⟩
  ·obtain⟨r1,r2,r3⟩:=q1 h2
   exact⟨r1,r2,fun h' c x y=>⟨_,rfl,ak ⟨_,rfl,r3 h' c x y⟩⟩⟩
  ·rw [kat_ask_eq hl] at hk ⊢
   exact kas_wp_mono hk fun p s3 ⟨r1,r2,r3⟩=>⟨r1,r2,fun h' c x y=>⟨_,rfl,ak ⟨_,rfl,r3 h' c x y⟩⟩⟩
end
end PySem.W
namespace L2
open PySem PySem.Spec PyProof.Rows
theorem as2 {lt:Str->Str->Bool} {zs:List Str} (h:zs.length<2):Ak lt zs=zs:=by
 match zs,h with
 | [],_=>rfl
 | [z],_=>rfl
noncomputable def ltK (kf:Str->Int) (a b:Str):Bool:=if kf a=kf b then ltS a b else decide (kf a<kf b)
theorem F7 {kf:Str->Int} {zs:List Str} (nd:zs.Nodup):OrdL (ltK kf) zs where
 tot:=fun a ha b hb n=>by
  unfold ltK
  by_cases h:kf a=kf b
  ·rw [if_pos h,if_pos h.symm];exact (Hi nd).tot a ha b hb n
  ·rw [if_neg h,if_neg (bZ h)]
   by_cases c:kf a<kf b
   ·rw [decide_eq_true c,decide_eq_false (by omega)];rfl
   ·rw [decide_eq_false c,decide_eq_true (by omega)];rfl
 tr:=fun a ha b hb c hc h1 h2=>by
  unfold ltK at *
  by_cases e1:kf a=kf b
  ·rw [if_pos e1] at h1
   by_cases e2:kf b=kf c
   ·rw [if_pos e2] at h2
    rw [if_pos (e1.trans e2)]
    exact (Hi nd).tr a ha b hb c hc h1 h2
   ·rw [if_neg e2] at h2
    rw [e1,if_neg e2]
    exact h2
  ·rw [if_neg e1] at h1
   have h1:=of_decide_eq_true h1
   by_cases e2:kf b=kf c
   ·rw [<- e2,if_neg e1]
    exact decide_eq_true h1
   ·rw [if_neg e2] at h2
    have h2:=of_decide_eq_true h2
    rw [if_neg (by omega)]
    exact decide_eq_true (by omega)
 nd:=nd
section
variable {X:Cx} {pins:List (Addr×Obj)} {σ:St} {H:Hp} {s:aj}
theorem Inv.adopt {a d:Addr} {o:HO} {h':Heap} (I:Inv X pins σ H s) (fa:Cr X pins H a) (fd:Cr X pins H d) (k:∀ b u,b≠a->b≠d->s.heap.get? b=some u->h'.get? b=some u) (new:ObjOk X.prog X.w (upd H a o) h' a o):Inv X pins σ (upd H a o) { s with heap:=h' }:=by
 have nit:∀ b u,H b=some u->b≠a/\b≠d:=fun b u e=>⟨Az e fa.1,Az e fd.1⟩
 have nc:∀ {b:Addr},b∉[a,d]->b≠a/\b≠d:=fun h=>by simpa using h
 refine I.step (g':=s.gens) (d':=s.drawn) (t':=s.toks) (ch:=[a,d]) (fun b hb=>?_) (fun b u _ _ hc e _=>k b u (nc hc).1 (nc hc).2 e) (fun b u _ _ hc e _=>⟨u.slots,k b u (nc hc).1 (nc hc).2 e⟩) (fun b u hc e n=>by rw [Ah (nc hc).1];exact n)
  (fun b u hc e=>⟨u,k b u (nc hc).1 (nc hc).2 e⟩) (fun b xs q=>by rw [Ah (nit b _ q).1];exact q) (fun b u v q=>by rw [Ah (nit b _ q).1];exact q) (fun b ps q=>⟨#[],by rw [Ah (nit b _ q).1,q];simp⟩) (fun m hm=>?_) (fun b u e=>?_) I.bare
 ·rcases List.mem_cons.mp hb with rfl|hb
  ·exact⟨fa.2.2.2.1,fa.2.1,fa.2.2.2.2.1,fa.2.2.2.2.2⟩
  ·have e:b=d:=by simpa using hb
   subst e
   exact⟨fd.2.2.2.1,fd.2.1,fd.2.2.2.2.1,fd.2.2.2.2.2⟩
 ·obtain⟨u,es,ep,ho,r⟩:=hm
  exact⟨u,es,ep,k _ u (bZ fa.2.1) (bZ fd.2.1) ho,r⟩
 ·by_cases hb:b=a
  ·subst hb;rw [Ad] at e;cases e;exact new
  ·rw [Ah hb] at e
   refine (I.hok b u e).stay (fun c v hc q=>?_) (fun c q=>by rw [Ah (nit c _ q).1];exact q) fun c xs q=>by rw [Ah (nit c _ q).1];exact q
   rcases hc with z|z
   ·rw [z] at q ⊢;exact k _ v (nit b u e).1 (nit b u e).2 q
   ·exact k c v (nit c _ z).1 (nit c _ z).2 q
theorem Vt {A:bi} {E:Value->aj->Prop} {m:Str} {g a C dx:Addr} {fs:List (Str×V)} {expr:Bool} {Q:Value->aj->Prop} (I:Inv X pins σ H s) (e:H a=some (.ins C dx fs)) (c:Cls X.K C) (k:Bs X.K C m g) (sg:dw X.K (.ref g) "__get__" = some (some (.builtin "function.__get__"))) (tk:fw X.K (.ref g)=some false) (cn:PySem.W.copiedNames.contains m=false) (l:fs.lookup m=none)
  (h:∀ s',s'.heap.get? s.heap.objs.size=some (cg (.ref g) (.ref a))->s.heap.objs.size<s'.heap.objs.size->Inv X pins σ H s'->Q (.ref s.heap.objs.size) s'):aJ (model X.prog X.w) A (k9 (.ref a) m expr) Q E s:=by
 obtain⟨mA,O,r,_,_,_⟩:=F2 I.hok e
 have hn:mA m=none:=RelO.none_of (by rw [<- l];exact r m)
 obtain⟨od,J,hl⟩:=O.look
 refine PySem.W.get_bind I.kIn J (eT (c.get m)).1 (PySem.W.findObj_fn c.hd k.at_ sg tk cn (by rw [hl,hn])) (eT (c.get m)).2 (dJ (PySem.W.fn_get (s:={ s with toks:=s.toks+1 }) I.kIn (beq_iff_eq.mp k.fn) ?_))
 exact PySem.W.handed_on rfl (h _ (aw _ rfl) (by show _<(s.heap.push _).objs.size;rw [jf];exact cK _) (I.kept (t':=s.toks+1) fun b o e=>ag _ e))
theorem ar5 {m:Str} {mi:MI} (K:ai0 X m mi) {bm a:Addr} {u:Value} {z:Str} {Q:VK} (I:Inv X pins σ H s) (hb:s.heap.get? bm=some (cg (.ref mi.i.f) (.ref a))) (ru:RelV (.str z) u) (h:mi.i.sp [.ref a,.str z] H Q (fun v _ _=>∃ a,v=aR a/\False)) :
  aJ (model X.prog X.w) X.A.in1.in1 (call (.ref bm) [u]) (EP X pins σ Q) (fun _ _=>False) s:=by
 obtain⟨CX,hx,FO⟩:=K.fi.ok
 have r2:Vals [.ref a,.str z] [aR a,u]:=.cons rfl (.cons ru .nil)
 have hl:([aR a,u]++[]).length=mi.i.ps.length:=FO.len _ _ _ _ h
 have hd:=K.fi.binds mi.i.dfs.length (ah _)
 rw [gE (by rw [K.fi.vals.length];exact ah _)] at hd
 have hb2:=hd s [aR a,u] I.kIn hl
 rw [dB] at hb2
 refine dJ (ks_codeAny_call_bound hb (eJ (FO.run X.A.in1.in1 X.stack s H ⟨[aR a,u],[]⟩ [aR a,u] _ Q _ K.room.in1.in1 I.env0.in1.in1 hb2 r2 h) fun r s' hq=>?_))
 cases r with
 | error e=>
  have o:=I.ok
  have I':Inv { X with xe:=fun _ _=>False } pins σ H s:=⟨⟨o.mod,o.kind,o.glob,o.blt,o.above,o.inj,o.has,o.cab,o.hd,o.frames,o.stk,o.exf,o.bs,o.bsz,o.noex,o.exfs,o.funs,o.frf,o.tk⟩,I.os,I.bare,I.base,I.loc,I.cell,I.free,I.freeC,I.pin,I.hok,I.len⟩
  exact hx { X with xe:=fun _ _=>False } rfl rfl (fun _ _ _=>False) (fun _ _ _ _ _ _ _ z=>z.elim) pins σ H s e s' I' hq
 | ok fl=>
  cases fl with
  | ret u=>exact I.after hq
  | next=>exact b_ hq
  | brk=>exact b_ hq
  | cont=>exact b_ hq
noncomputable def Wy (kf:Str->Int) (H:Hp) (zs:List Str) (ks:List Value):Prop:=∀ (i:Nat) k z,ks[i]? = some k->zs[i]? = some z -> ∃ q,k=.ref q/\H q=some (.tup [.int (kf z),.str z])
theorem Ot (I:Inv X pins σ H s) {kf:Str->Int}:∀ {zs:List Str} {ks:List Value},ks.length=zs.length->Wy kf H zs ks -> ∃ fs,fv s.heap ks fs/\fs.length=zs.length /\ ∀ v∈fs,∃ i t,v=.int i t
 | [],[],_,_=>⟨[],kQ,rfl,fun v hv=>by cases hv⟩
 | [],_::_,h,_=>by simp at h
 | _::_,[],h,_=>by simp at h
 | z::zs,k::ks,h,ka=>by
  obtain⟨fs,kt,hl,hi⟩:=Ot I (zs:=zs) (ks:=ks) (by simpa using h) fun i k' z' h1 h2=>ka (i+1) k' z' h1 h2
  obtain⟨q,rfl,hq⟩:=ka 0 k z rfl rfl
  obtain⟨its,ri,⟨o,e,c,n,dd⟩,_⟩:=I.tuple (SqT.of hq)
  cases ri with
  | cons ra rr=>
   obtain⟨t,rfl⟩:=ra
   exact⟨_::fs,kz e c dd rfl kt,by rw [aP,aP,hl],fun v hv=>(List.mem_cons.mp hv).elim (fun z=>⟨_,_,z⟩) (hi v)⟩
theorem a78 (I:Inv X pins σ H s) {A:bi} {kf:Str->Int} {q1 q2:Addr} {z1 z2:Str} {C:Bool->aj->Prop} {E:Value->aj->Prop} (h1:H q1=some (.tup [.int (kf z1),.str z1])) (h2:H q2=some (.tup [.int (kf z2),.str z2])) (hC:C (ltK kf z1 z2) s) :
  aJ (model X.prog X.w) A (keyLt' (tuples' true) (.ref q1) (.ref q2)) C E s:=by
 obtain⟨i1,r1,⟨o1,e1,c1,m1,d1⟩,_⟩:=I.tuple (SqT.of h1)
 obtain⟨i2,r2,⟨o2,e2,c2,m2,d2⟩,_⟩:=I.tuple (SqT.of h2)
 obtain⟨u1,v1,rfl,⟨tk1,rfl⟩,⟨tv1,rfl⟩⟩:=r1.two
 obtain⟨u2,v2,rfl,⟨tk2,rfl⟩,⟨tv2,rfl⟩⟩:=r2.two
 refine PySem.W.kat_lt e1 d1 e2 d2 ?_
 refine gW (wpAny_eqBool_int ?_)
 unfold ltK at hC
 refine iP (fun e=>?_) (fun e=>?_)
 ·have e:kf z1=kf z2:=by simpa using e
  rw [if_pos e] at hC
  refine ii (gW (jD ?_))
  refine iP (fun e=>?_) (fun e=>?_)
  ·have e:z1=z2:=by simpa using e
   subst e
   have:ltS z1 z1=false:=by unfold ltS;exact decide_eq_false (kD _)
   rw [this] at hC
   exact ii (PySem.W.kat_nil hC)
  ·exact kF (PySem.W.kat_one _ _ (lt_str (Q:=PySem.W.BoolBack C) hC))
 ·have e:¬ kf z1=kf z2:=by simpa using e
  rw [if_neg e] at hC
  exact kF (oneLt_int hC)
theorem as3 (hc:X.calm=true) {m:Str} {mi:MI} (K:ai0 X m mi) {bm a p:Addr} {zs:List Str} {kf:Str->Int} {Q:VK} (I:Inv X pins σ H s) (hbm:s.heap.get? bm=some (cg (.ref mi.i.f) (.ref a))) (fb:Cr X pins H bm)
  (hp:SqL X.K H p (zs.map V.str) \/ ∃ kvs,Rd H p (.dK kvs)/\kvs.map (·.1)=zs.map fA) (nd:zs.Nodup) (h64:zs.length<64)
  (hk:∀ z∈zs,∀ H3,Same H H3->mi.i.sp [.ref a,.str z] H3 (fun v H4=>∃ q,v=.ref q/\Same H3 H4/\H4 q=some (.tup [.int (kf z),.str z])) (fun v _ _=>∃ a,v=aR a/\False))
  (q:∀ H3 D,Same H H3->H D=none->H3 D=some (.lst ((Ak (ltK kf) zs).map V.str))->Q (.ref D) H3) :
  aJ (model X.prog X.w) X.A (call (.builtin "sorted") [.ref p] [("key", .ref bm)]) (EP X pins σ Q) X.xe s:=by
 refine PySem.W.sk_sorted (OKQ:=fun us h' tk=>(∀ b o,s.heap.get? b=some o->h'.get? b=some o)/\s.heap.objs.size<=h'.objs.size/\s.toks<=tk/\Vals (zs.map V.str) us) (fun R hR=>?_) fun us h' tk ⟨keep,hD,htk,rv⟩=>?_
 ·rcases hp with hp|⟨kvs,hp,ek⟩
  ·obtain⟨its,ri,pl,hz⟩:=I.list hp
   refine lX pl.isList (hR _ _ s.toks ⟨fun b o e=>?_,?_,ah _,ri⟩) (by have:=ri.length;rw [ai] at this;rw [bb];omega)
   ·have hlt:b<s.heap.objs.size:=aF e
    rw [hX _ _ _ _ (aH hlt)]
    exact ag _ e
   ·rw [gS,jf]
    exact cq _
  ·obtain⟨z,lo,vs,rel,dof⟩:=Di I.hok hp
   obtain⟨ep,dat⟩:=dof.dictAt
   refine bI (ah _) (PySem.W.collect_src (jy lo) (by simp [I.ok.hd hc]) dat (by rw [<- rel.length];exact z) fun h' tk us hk hs hl hi htk=>?_)
   refine hR us h' tk ⟨hk,fu hs,htk,?_⟩
   have v:=Gq rel hl hi
   have e:(kvs.map fun kv=>kV kv.1)=zs.map V.str:=by
    have:=congrArg (iG kV) ek
    rw [cr,cr] at this
    exact this
   rwa [e] at v
 ·have hl:us.length=zs.length:=by have:=rv.length;simpa using this.symm
  refine⟨by omega,fun D e1 kS h2 hD2 hDk gD gk k=>?_⟩
  have lD:s.heap.objs.size<=D:=aL hD hD2
  have lk:s.heap.objs.size<=kS:=aL lD (fu hDk)
  have lb:bm<s.heap.objs.size:=aF hbm
  have I2:Inv X pins σ H { s with heap:=h2,toks:=tk }:=I.kept (t':=tk) fun b o e=>k b o (keep b o e)
  have nD:∀ p∈X.pn++pins,p.1≠D:=(I.fpOk lD (I.hok.fresh lD)).2.2.2.2.2
  have fD:∀ {H':Hp},H' D=none->Cr X pins H' D:=fun hn=>I.fpOk lD hn
  have fk:∀ {H':Hp},H' kS=none->Cr X (pins++[(bm,cg (.ref mi.i.f) (.ref a)),(D,bn "list" #[] e1)]) H' kS:=fun hn=>by
   obtain⟨a1,a2,a3,a4,a5,a6⟩:=I.fpOk (H':=H) lk (I.hok.fresh lk)
   refine⟨hn,a2,a3,a4,a5,fun p hp=>?_⟩
   rw [<- cN] at hp
   rcases List.mem_append.mp hp with hp|hp
   ·exact a6 p hp
   ·simp only [aG,cf,or_false] at hp
    rcases hp with rfl|rfl
    ·exact aH (aO lb lk)
    ·exact aH hDk
  refine⟨fun ks s'=>∃ H',Inv X (pins++[(bm,cg (.ref mi.i.f) (.ref a)),(D,bn "list" #[] e1)]) σ H' s'/\Same H H'/\H' kS=none/\Wy kf H' zs ks,⟨H,?_,Same.refl _,I.hok.fresh lk,fun i k z h=>by simp at h⟩,?_,?_⟩
  ·refine I2.pins_of fun p hp=>?_
   rcases List.mem_append.mp hp with hp|hp
   ·exact I2.pin p (bo _ hp)
   ·simp only [aG,cf,or_false] at hp
    rcases hp with rfl|rfl
    ·exact⟨k _ _ (keep _ _ hbm),fb.1,fb.2.1,fb.2.2.1,fun v z=>by cases z⟩
    ·have f:=fD (I.hok.fresh lD)
     exact⟨gD,f.1,f.2.1,f.2.2.1,fun v z=>by cases z⟩
  ·intro j x ks e s' hx hlk hks ⟨H',I',S,hn,ka⟩
   have hj:j<us.length:=(List.getElem?_eq_some_iff.mp hx).1
   obtain⟨u,hu,ru⟩:=rv.get (i:=j) (x:=.str (zs[j]'(by omega))) (by rw [aE,am (by omega)];rfl)
   rw [hx] at hu
   cases hu
   have I1:Inv X ((pins++[(bm,cg (.ref mi.i.f) (.ref a)),(D,bn "list" #[] e1)])++[(kS,bn "list" ks.toArray e)]) σ H' s':=I'.pins_of fun p hp=>by
    rcases List.mem_append.mp hp with hp|hp
    ·exact I'.pin p (bo _ hp)
    ·have e:p=(kS,bn "list" ks.toArray e):=by simpa using hp
     subst e
     have f:=fk hn
     exact⟨hks,f.1,f.2.1,f.2.2.1,fun v z=>by cases z⟩
   have hb1:=(I'.pin (bm,cg (.ref mi.i.f) (.ref a)) (by simp)).1
   refine b6 (ar5 K I1 hb1 ru (hk _ (cY _) H' S)) (fun k s'' hq=>?_) fun _ _ z=>z
   obtain⟨v,H'',I'',rk,q,rfl,S2,hq⟩:=hq
   cases rk
   have pk:=I''.pin (kS,bn "list" ks.toArray e) (by simp)
   refine⟨pk.1,fun h3 c g sb=>⟨H'',?_,S.trans S2,pk.2.1,fun i k' z h1 h2=>?_⟩⟩
   ·have f:=fk pk.2.1
    exact (I''.unpinned).turned (t':=s''.toks) (fun b o nb e=>(sb.2 b nb).trans e) f.1 f.2.1 f.2.2.2.1 f.2.2.2.2.1 f.2.2.2.2.2
   ·by_cases hi:i<ks.length
    ·rw [dS hi] at h1
     obtain⟨q',e',h'⟩:=ka i k' z h1 h2
     exact⟨q',e',S2 _ _ h'⟩
    ·have hi2:i<(ks++[aR q]).length:=(List.getElem?_eq_some_iff.mp h1).1
     rw [av,bQ] at hi2
     have ei:i=j:=by omega
     subst ei
     rw [cM (by omega),show i - ks.length=0 by omega] at h1
     cases h1
     rw [am (by omega)] at h2
     cases h2
     exact⟨q,rfl,hq⟩
  ·intro ks e s' hlk hks ⟨H',I',S,hn,ka⟩
   have hlz:ks.length=zs.length:=by omega
   have pD:=I'.pin (D,bn "list" #[] e1) (by simp)
   have Iu:=I'.unpinned
   have fk':Cr X pins H' kS:=by
    have f:=fk hn
    exact⟨f.1,f.2.1,f.2.2.1,f.2.2.2.1,f.2.2.2.2.1,fun p hp=>f.2.2.2.2.2 p (by rw [<- cN];exact gY _ hp)⟩
   have fin:∀ out:List Value,Vals ((Ak (ltK kf) zs).map V.str) out->PySem.W.SkFin D kS e e1 ks out (fun s3=>EP X pins σ Q (.ref D) s3) s':=fun out ro=>by
    refine⟨pD.1,hks,fun h4 c g sm=>?_⟩
    refine⟨.ref D,upd H' D (.lst ((Ak (ltK kf) zs).map V.str)),Iu.adopt (fD pD.2.1) fk' (fun b u b1 b2 e=>(sm b b1 b2).trans e) ⟨?_,out,c,ro,g⟩,rfl,q _ D (fun b o e=>?_) (I.hok.fresh lD) Ad⟩
    ·rw [ai,(Am _ zs).length_eq,bb];omega
    ·rw [Ah (Az (S b o e) pD.2.1)]
     exact S b o e
   refine⟨fun h2=>fin us ?_,fun h2=>?_⟩
   ·rw [as2 (by omega)]
    exact rv
   ·obtain⟨fs,kt,kl,ki⟩:=Ot I' hlz ka
    refine PySem.W.kat_kind (T:=.type "int") kt (by omega) (fun v hv=>by obtain⟨i,t,rfl⟩:=ki v hv;exact .now) rfl ?_
    obtain⟨pp,h1,h3,h4,h5⟩:=G0 (lt:=ltK kf) (zs:=zs) ck (F7 nd) (by omega)
    refine PySem.W.kRun_wp (n:=us.length) (lt:=fun i j=>ltK kf (zs.getD i ck) (zs.getD j ck)) (a:=pp) (fun i j C hi hj hC=>?_) (by rw [hl];exact h1) (fin _ ?_)
    ·unfold j4
     have at_:∀ {i:Nat},i<us.length -> ∃ q,ks.getD i bG=.ref q/\H' q=some (.tup [.int (kf (zs.getD i ck)),.str (zs.getD i ck)]):=fun {i} hi=>by
      obtain⟨q,e,h⟩:=ka i (ks[i]'(by omega)) (zs[i]'(by omega)) (am _) (am _)
      refine⟨q,?_,?_⟩
      ·rw [aB,am (by omega)];exact e
      ·rw [aB,am (by omega)];exact h
     obtain⟨q1,e1,t1⟩:=at_ hi
     obtain⟨q2,e2,t2⟩:=at_ hj
     rw [e1,e2]
     exact a78 I' t1 t2 hC
    ·have v:=E3 rv pp.toList (fun i hi=>by rw [hl];exact h4 i hi)
     have e:(pp.toList.map fun i=>(zs.map V.str).getD i .non)=(Ak (ltK kf) zs).map V.str:=by
      rw [<- h5,cr]
      refine dD fun i hi=>?_
      have:=h4 i hi
      rw [aB,aE,am this]
      show V.str zs[i]=V.str (zs.getD i ck)
      rw [aB,am this]
      rfl
     rwa [e] at v
end
end L2
set_option maxHeartbeats 400000
namespace L2
open PySem PySem.Spec PyProof.Rows
section
variable {X:Cx} {pins:List (Addr×Obj)} {σ:St} {H:Hp} {s:aj}
theorem ad0 {ds:List (Str×Addr)} {us:List Value} (r:Vals (ds.map fun d=>V.ref d.2) us) {i:Nat} (h:i<ds.length):us.getD i bG=.ref (ds[i]'h).2:=by
 obtain⟨u,hu,ru⟩:=r.get (i:=i) (x:=.ref (ds[i]'h).2) (by rw [aE,am h];rfl)
 cases ru
 rw [aB,hu]
 rfl
end
end L2
set_option maxHeartbeats 1000000
namespace PySem.SeqAt
open AutoSeq1 (wpAny_loadPart')
open MeetsSeq MeetsSeq2 MeetsSeq3
noncomputable def LtAt (A:bi) (s:aj) (y x:Value) (b:Bool):Prop:=∀ (prog:aI) (w:bp) (E:Value->aj->Prop) (Q:Value->aj->Prop),Q (.bool b) s->aJ (model prog w) A (richCompare .Lt y x) Q E s
theorem Sq (l b:Addr) (items items2:Array Value) (n n2:Nat) (dd dd2:Option Addr) (sl sl2:Array (Option Value)) (e lt:Nat->Bool) :
  Meets (aS.«tuple.__lt__» ⟨[.ref l,.ref b],[]⟩)
   (fun A R s=>s.heap.get? l=some { cls:=.type "tuple", dict:=dd,data:=.seq items n,slots:=sl }/\s.heap.get? b=some { cls:=.type "tuple", dict:=dd2,data:=.seq items2 n2,slots:=sl2 } /\
    (∀ j (h1:j<items.size) (h2:j<items2.size),EqAt A.in1 s items[j] items2[j] (e j))/\(∀ j (h1:j<items.size) (h2:j<items2.size),e j=false->LtAt A.in1 s items[j] items2[j] (lt j)) /\
    R (.ok (.ret (.bool (match (bC (min items.size items2.size)).find? (fun j=>!e j) with|some j=>lt j|none=>decide (items.size<items2.size))))) s):=
 .of_wp fun prog w A R s h=>by
  obtain⟨hp,g,d,tk,os⟩:=s;obtain⟨hl,hb,he,hr,h⟩:=h
  have f2:=AutoSeq1.sub_tuple_tuple
  have hZ:(items.toList.zip items2.toList).length=min items.size items2.size:=by simp
  wp_walk using ce hl,ce hb,wpAny_forIn_list _ (fun rest b s'=>b.1=none/\s'=⟨hp,g,d,tk,os⟩ /\ ∃ i,rest=(items.toList.zip items2.toList).drop i/\R (.ok (.ret (.bool (match ((bC (min items.size items2.size)).drop i).find? (fun j=>!e j) with|some j=>lt j|none=>decide (items.size<items2.size))))) ⟨hp,g,d,tk,os⟩) _
  case turn=>
   rintro⟨y,x⟩ rest b s' ⟨hb',rfl,i,hz,hR⟩
   have hlt:i<(items.toList.zip items2.toList).length:=by
    rcases Nat.lt_or_ge i (items.toList.zip items2.toList).length with h'|h'
    ·exact h'
    ·rw [gE h'] at hz;cases hz
   have hm:i<min items.size items2.size:=hZ▸hlt
   have h1:i<items.size:=aO hm (Nat.min_le_left _ _)
   have h2:i<items2.size:=aO hm (Nat.min_le_right _ _)
   rw [fP hlt] at hz
   injection hz with hyx hrest
   have hy:y=items[i]:=by have:=congrArg Prod.fst hyx;simpa using this
   have hx:x=items2[i]:=by have:=congrArg Prod.snd hyx;simpa using this
   subst hy hx
   have hd:(bC (min items.size items2.size)).drop i=i::(bC (min items.size items2.size)).drop (i+1):=by simp [fP,hm]
   rw [hd,cw] at hR
   refine af (he i h1 h2 prog w _ _ ?_)
   cases hy:e i with
   | true=>
    rw [hy] at hR
    wp_walk
    exact⟨rfl,rfl,i+1,hrest,hR⟩
   | false=>
    rw [hy] at hR
    have hq:=hr i h1 h2 hy prog w
    generalize richCompare CmpOp.Lt items[i] items2[i]=rc at hq ⊢
    wp_walk
    refine hq _ _ ?_
    wp_walk
    exact⟨_,rfl,hR⟩
  case fin=>
   rintro⟨b1,b2⟩ s' ⟨hb',rfl,i,hz,hR⟩
   simp only at hb'
   subst hb'
   have hge:min items.size items2.size<=i:=by
    rcases Nat.lt_or_ge i (items.toList.zip items2.toList).length with h'|h'
    ·rw [fP h'] at hz;cases hz
    ·exact hZ▸h'
   rw [gE (by simpa using hge)] at hR
   wp_walk
   exact⟨_,rfl,by simpa [Builtin.Tuple.tupleCompareSizes] using hR⟩
  case h=>
   exact⟨rfl,rfl,0,rfl,by simpa using h⟩
theorem lt_tuples {A:bi} {s:aj} {l b:Addr} {ol ob:Obj} {items items2:Array Value} {e lt:Nat->Bool} {n n2:Nat} (hl:s.heap.get? l=some ol) (cl:ol.cls=.type "tuple") (dl:ol.data=.seq items n) (hb:s.heap.get? b=some ob) (cb:ob.cls=.type "tuple") (db:ob.data=.seq items2 n2) (hu:A.units<cLine)
  (he:∀ j (h1:j<items.size) (h2:j<items2.size),EqAt A.in1 s items[j] items2[j] (e j)) (hr:∀ j (h1:j<items.size) (h2:j<items2.size),e j=false->LtAt A.in1 s items[j] items2[j] (lt j)) :
  LtAt A s (.ref l) (.ref b) (match (bC (min items.size items2.size)).find? (fun j=>!e j) with|some j=>lt j|none=>decide (items.size<items2.size)):=by
 intro prog w E Q h
 obtain⟨cls,dd,data,sl⟩:=ol
 obtain⟨cls2,dd2,data2,sl2⟩:=ob
 simp only at cl dl cb db
 subst cl dl cb db
 exact richCompare_meets_room (op:=.Lt) ⟨_,hl,rfl⟩ ⟨_,hb,rfl⟩ F.slot_tuple_lt F.entry_tuple_lt (F.args_tuple_lt_2 _ _) (Sq l b items items2 n n2 dd dd2 sl sl2 e lt)
  ⟨hl,hb,he,hr,⟨(fun x=>nomatch x),h⟩⟩ hu
end PySem.SeqAt
namespace L2
open PySem PySem.Spec PyProof.Rows
mutual
noncomputable def dlt:Dt->Dt->Bool
 | .at_ (.int i),.at_ (.int j)=>decide (i<j)
 | .at_ (.str a),.at_ (.str b)=>ltS a b
 | .tup xs,.tup ys=>Fx xs ys
 | _,_=>false
noncomputable def Fx:List Dt->List Dt->Bool
 | [],[]=>false
 | [],_::_=>true
 | _::_,[]=>false
 | x::xs,y::ys=>if deq x y=true then Fx xs ys else dlt x y
end
mutual
noncomputable def E4:Dt->Dt->Bool
 | .at_ (.int _),.at_ (.int _)=>true
 | .at_ (.str _),.at_ (.str _)=>true
 | .tup xs,.tup ys=>Ob xs ys
 | _,_=>false
noncomputable def Ob:List Dt->List Dt->Bool
 | x::xs,y::ys=>E4 x y&&Ob xs ys
 | _,_=>true
end
theorem Kv (z:Dt):∀ xs ys:List Dt,(match (bC (min xs.length ys.length)).find? (fun j=>!deq (xs.getD j z) (ys.getD j z)) with|some j=>dlt (xs.getD j z) (ys.getD j z)|none=>decide (xs.length<ys.length))=Fx xs ys
 | [],[]=>by unfold Fx;rfl
 | [],_::_=>by unfold Fx;simp
 | _::_,[]=>by unfold Fx;simp
 | x::xs,y::ys=>by
  have ih:=Kv z xs ys
  have e:min (x::xs).length (y::ys).length=min xs.length ys.length+1:=by simp only [aP];omega
  rw [e,G7]
  unfold Fx
  cases h:deq x y with
  | true=>
   have c:(!deq ((x::xs).getD 0 z) ((y::ys).getD 0 z))=false:=by show (!deq x y)=false;rw [h];rfl
   rw [c,if_neg ar,if_pos rfl,<- ih]
   show (match ((bC (min xs.length ys.length)).find? (fun j=>!deq (xs.getD j z) (ys.getD j z))).map (· + 1) with|some j=>dlt ((x::xs).getD j z) ((y::ys).getD j z)|none=>decide (xs.length+1<ys.length+1))=_
   cases (bC (min xs.length ys.length)).find? (fun j=>!deq (xs.getD j z) (ys.getD j z)) with
   | none=>simp
   | some j=>rfl
  | false=>
   have c:(!deq ((x::xs).getD 0 z) ((y::ys).getD 0 z))=true:=by show (!deq x y)=true;rw [h];rfl
   rw [c,if_pos rfl,if_neg ar]
   rfl
section
variable {X:Cx} {pins:List (Addr×Obj)} {σ:St} {H:Hp} {s:aj}
mutual
theorem Y6 (I:Inv X pins σ H s):∀ (d d':Dt) (A:bi) (x y:V) (u v:Value),At X.K H d x->At X.K H d' y->RelV x u->RelV y v->E4 d d'=true->A.units+dep d<cLine->SeqAt.LtAt A s u v (dlt d d')
 | .at_ p,.at_ q,A,x,y,u,v,h,h',r,r',c,hu=>by
  unfold At at h h'
  obtain⟨rfl,f⟩:=h
  obtain⟨rfl,f'⟩:=h'
  cases x with
  | int i=>
   cases y with
   | int j=>obtain⟨t,rfl⟩:=r;obtain⟨t',rfl⟩:=r';unfold dlt;exact fun prog w E Q hq=>lt_int hq
   | _=>unfold E4 at c;cases c
  | str i=>
   cases y with
   | str j=>obtain⟨t,rfl⟩:=r;obtain⟨t',rfl⟩:=r';unfold dlt;exact fun prog w E Q hq=>lt_str hq
   | _=>unfold E4 at c;cases c
  | _=>unfold E4 at c;cases c
 | .at_ p,.tup l,A,x,y,u,v,h,h',r,r',c,hu=>by unfold E4 at c;cases p <;> cases c
 | .at_ p,.lst l,A,x,y,u,v,h,h',r,r',c,hu=>by unfold E4 at c;cases p <;> cases c
 | .lst l,d',A,x,y,u,v,h,h',r,r',c,hu=>by unfold E4 at c;cases c
 | .tup l,.at_ p,A,x,y,u,v,h,h',r,r',c,hu=>by unfold E4 at c;cases c
 | .tup l,.lst l',A,x,y,u,v,h,h',r,r',c,hu=>by unfold E4 at c;cases c
 | .tup l,.tup l',A,x,y,u,v,h,h',r,r',c,hu=>by
  unfold At at h h'
  unfold E4 at c
  unfold dep at hu
  unfold dlt
  obtain⟨a,xs,rfl,q,h⟩:=h
  obtain⟨b,ys,rfl,q',h'⟩:=h'
  obtain⟨its,ri,⟨o,eo,co,n,dd⟩,_⟩:=I.tuple q
  obtain⟨its',ri',⟨o',eo',co',n',dd'⟩,_⟩:=I.tuple q'
  cases r;cases r'
  have e1:=h.length
  have e2:=h'.length
  have e3:=ri.length
  have e4:=ri'.length
  have T:=SeqAt.lt_tuples (A:=A) (e:=fun j=>deq (l.getD j (.lst [])) (l'.getD j (.lst []))) (lt:=fun j=>dlt (l.getD j (.lst [])) (l'.getD j (.lst []))) eo co dd eo' co' dd' (by omega) (fun j h1 h2=>by
    have:=Et I l l' A.in1 xs ys its its' h h' ri ri' (by show A.units+1+Bx l<cLine;omega) j (by simpa using h1) (by simpa using h2)
    simpa using this) (fun j h1 h2 _=>by
    have:=Uf I l l' A.in1 xs ys its its' h h' ri ri' c (by show A.units+1+Bx l<cLine;omega) j (by simpa using h1) (by simpa using h2)
    simpa using this)
  rw [ao,ao,<- e3,<- e4,e1,e2,Kv] at T
  exact T
theorem Uf (I:Inv X pins σ H s):∀ (ds ds':List Dt) (A:bi) (xs ys:List V) (us vs:List Value),AtL X.K H ds xs->AtL X.K H ds' ys->Vals xs us->Vals ys vs->Ob ds ds'=true->A.units+Bx ds<cLine ->
  ∀ (j:Nat) (h1:j<us.length) (h2:j<vs.length),SeqAt.LtAt A s us[j] vs[j] (dlt (ds.getD j (.lst [])) (ds'.getD j (.lst [])))
 | [],_,A,xs,ys,us,vs,h,h',r,r',c,hu=>fun j h1 h2=>by
  unfold AtL at h
  subst h
  cases r
  cases h1
 | _::_,[],A,xs,ys,us,vs,h,h',r,r',c,hu=>fun j h1 h2=>by
  unfold AtL at h'
  subst h'
  cases r'
  cases h2
 | d::ds,d'::ds',A,xs,ys,us,vs,h,h',r,r',c,hu=>fun j h1 h2=>by
  unfold AtL at h h'
  unfold Ob at c
  rw [aA] at c
  obtain⟨y,ys,rfl,q1,q2⟩:=h
  obtain⟨z,zs,rfl,q1',q2'⟩:=h'
  cases r with
  | cons r1 r2=>
   cases r' with
   | cons r1' r2'=>
    unfold Bx at hu
    have m1:dep d<=mI (dep d) (Bx ds):=Nat.le_max_left _ _
    have m2:Bx ds<=mI (dep d) (Bx ds):=Nat.le_max_right _ _
    cases j with
    | zero=>exact Y6 I d d' A _ _ _ _ q1 q1' r1 r1' c.1 (by omega)
    | succ j=>exact Uf I ds ds' A _ _ _ _ q2 q2' r2 r2' c.2 (by omega) j (by simpa using h1) (by simpa using h2)
end
noncomputable def ltE (pf:Str->Dt) (a b:Str×Addr):Bool:=dlt (pf a.1) (pf b.1)
noncomputable def ac4 (K:ae):List V->Hp->VK->Prop:=fun xs H Q=>∃ (p:Addr) (ds:List (Str×Addr)) (pf:Str->Dt),xs=[.ref p]/\SqL K H p (ds.map fun d=>.ref d.2)/\(∀ d∈ds,∃ a l,pf d.1=.tup l/\H d.2=some (.tup [.ref a,.str d.1])/\At K H (pf d.1) (.ref a)/\dep (pf d.1)<=20)/\(ds.map (·.1)).Nodup/\ds.length<64 /\
 (∀ a∈ds,∀ b∈ds,E4 (pf a.1) (pf b.1)=true/\(a≠b->deq (pf a.1) (pf b.1)=false))/\OrdL (ltE pf) ds /\ ∀ D,H D=none->Q (.ref D) (upd H D (.lst ((Ak (ltE pf) ds).map fun d=>.ref d.2)))
theorem Kw:∀ xs:List Dt,B0 xs xs=true->Fx xs xs=false
 | [],_=>by unfold Fx;rfl
 | x::xs,h=>by
  unfold B0 at h
  rw [aA] at h
  unfold Fx
  rw [if_pos h.1]
  exact Kw xs h.2
theorem K9 (I:Inv X pins σ H s):∀ {ds:List (Str×Addr)} {us:List Value},Vals (ds.map fun d=>V.ref d.2) us->(∀ d∈ds,∃ a,H d.2=some (.tup [.ref a,.str d.1])) -> ∃ fs,fv s.heap us fs/\fs.length=ds.length /\ ∀ v∈fs,∃ a,v=.ref a /\ ∃ d∈ds,H d.2=some (.tup [.ref a,.str d.1])
 | [],us,r,_=>by cases r;exact⟨[],kQ,rfl,fun v hv=>by cases hv⟩
 | d::ds,us,r,h=>by
  rw [aK] at r
  cases r with
  | cons r1 r2=>
   cases r1
   obtain⟨fs,kt,hl,hi⟩:=K9 I r2 fun e he=>h e (aC _ he)
   obtain⟨a,ha⟩:=h d bv
   obtain⟨its,ri,⟨o,e,c,n,dd⟩,_⟩:=I.tuple (SqT.of ha)
   cases ri with
   | cons ra rr=>
    cases ra
    exact⟨_::fs,kz e c dd rfl kt,by rw [aP,aP,hl],fun v hv=>(List.mem_cons.mp hv).elim (fun z=>⟨a,z,d,bv,ha⟩) fun z=>let ⟨b,e1,d1,m,e2⟩:=hi v z;⟨b,e1,d1,aC _ m,e2⟩⟩
theorem ao0 (I:Inv X pins σ H s) {A:bi} {pf:Str->Dt} {q1 q2 a1 a2:Addr} {z1 z2:Str} {l1:List Dt} {C:Bool->aj->Prop} {E:Value->aj->Prop} (h1:H q1=some (.tup [.ref a1,.str z1])) (h2:H q2=some (.tup [.ref a2,.str z2])) (t1:At X.K H (pf z1) (.ref a1)) (t2:At X.K H (pf z2) (.ref a2)) (p1:pf z1=.tup l1) (hu:A.units+30<cLine) (d1:dep (pf z1)<=20) (c:E4 (pf z1) (pf z2)=true) (ne:deq (pf z1) (pf z2)=true->z1=z2)
  (hC:C (dlt (pf z1) (pf z2)) s):aJ (model X.prog X.w) A (keyLt' (tuples' false) (.ref q1) (.ref q2)) C E s:=by
 obtain⟨i1,r1,⟨o1,e1,c1,m1,d1'⟩,_⟩:=I.tuple (SqT.of h1)
 obtain⟨i2,r2,⟨o2,e2,c2,m2,d2'⟩,_⟩:=I.tuple (SqT.of h2)
 obtain⟨u1,v1,rfl,ru1,⟨tv1,rfl⟩⟩:=r1.two
 obtain⟨u2,v2,rfl,ru2,⟨tv2,rfl⟩⟩:=r2.two
 refine PySem.W.kat_lt e1 d1' e2 d2' ?_
 refine gW (Ym I (pf z1) (pf z2) A _ _ _ _ t1 t2 ru1 ru2 (by omega) _ _ _ _ ?_)
 refine iP (fun e=>?_) (fun e=>?_)
 ·have e2:=ne e
  subst e2
  have:dlt (pf z1) (pf z1)=false:=by
   rw [p1] at e ⊢
   unfold deq at e
   unfold dlt
   exact Kw _ e
  rw [this] at hC
  refine ii (gW (jD ?_))
  refine iP (fun e=>?_) (fun e=>?_)
  ·exact ii (PySem.W.kat_nil hC)
  ·simp at e
 ·exact kF (PySem.W.kat_one _ _ (Y6 I (pf z1) (pf z2) A _ _ _ _ t1 t2 ru1 ru2 c (by omega) _ _ _ (PySem.W.BoolBack C) hC))
theorem Pf {pf:Str->Dt} {zs:List (Str×Addr)} (h:zs.length<2):Ak (ltE pf) zs=zs:=by
 match zs,h with
 | [],_=>rfl
 | [z],_=>rfl
theorem P0 (hu:X.A.units+64<cLine):Bw X (.builtin "sorted") (ac4 X.K):=by
 intro pins s σ H xs us Q I r h
 obtain⟨p,ds,pf,rfl,hp,hd,nd,h64,hc,ho,q⟩:=h
 obtain⟨u,rfl,ru⟩:=Dv r
 cases ru
 refine PySem.W.so_sortedC (OKQ:=fun us h' tk=>(∀ b o,s.heap.get? b=some o->h'.get? b=some o)/\s.heap.objs.size<=h'.objs.size/\s.toks<=tk/\Vals (ds.map fun d=>V.ref d.2) us) (fun R hR=>?_) fun us h' tk ⟨keep,hD,htk,rv⟩=>?_
 ·obtain⟨its,ri,pl,hz⟩:=I.list hp
  refine lX pl.isList (hR _ _ s.toks ⟨fun b o e=>?_,?_,ah _,ri⟩) (by have:=ri.length;rw [ai] at this;rw [bb];omega)
  ·have hlt:b<s.heap.objs.size:=aF e
   rw [hX _ _ _ _ (aH hlt)]
   exact ag _ e
  ·rw [gS,jf]
   exact cq _
 ·have hl:us.length=ds.length:=by have:=rv.length;simpa using this.symm
  refine⟨by omega,fun h2 h2' c g k=>?_,fun h2 D e1 h2' hD2 gD k=>?_⟩
  ·refine⟨.ref h'.objs.size,_,I.laid (t':=tk) (fun b o e=>k b o (keep b o e)) hD (o:=.lst ((Ak (ltE pf) ds).map fun d=>.ref d.2)) ⟨?_,us,c,?_,g⟩,rfl,q _ (I.hok.fresh hD)⟩
   ·rw [Pf (by omega),ai,bb];omega
   ·rw [Pf (by omega)];exact rv
  ·have I2:Inv X pins σ H { s with heap:=h2',toks:=tk }:=I.kept (t':=tk) fun b o e=>k b o (keep b o e)
   obtain⟨fs,kt,kl,ki⟩:=K9 I2 rv fun d m=>let ⟨a,_,_,e,_⟩:=hd d m;⟨a,e⟩
   refine PySem.W.kat_kind (T:=.type "tuple") kt (by omega) (fun v hv=>?_) rfl ?_
   ·obtain⟨a,rfl,d,m,e⟩:=ki v hv
    obtain⟨a',l,pl,e',ta,_⟩:=hd d m
    rw [e] at e'
    cases e'
    rw [pl] at ta
    unfold At at ta
    obtain⟨_,xs,e2,sq,_⟩:=ta
    cases e2
    obtain⟨_,_,⟨o,eo,co,_⟩,_⟩:=I2.tuple sq
    exact co▸(PySem.W.Looks.ld eo).andThen .now
   obtain⟨pp,h1,h3,h4,h5⟩:=G0 (lt:=ltE pf) (zs:=ds) (ck,0) ho (by omega)
   refine PySem.W.kRun_wp (n:=us.length) (lt:=fun i j=>ltE pf (ds.getD i (ck,0)) (ds.getD j (ck,0))) (a:=pp) (fun i j C hi hj hC=>?_) (by rw [hl];exact h1) ⟨gD,fun h3' c g2 sb=>?_⟩
   ·unfold j4
    rw [hl] at hi hj
    rw [ad0 rv hi,ad0 rv hj]
    have g1:ds.getD i (ck,0)=ds[i]'hi:=by rw [aB,am hi];rfl
    have g2:ds.getD j (ck,0)=ds[j]'hj:=by rw [aB,am hj];rfl
    rw [g1,g2] at hC
    have m1:=cY hi
    have m2:=cY hj
    obtain⟨a1,l1,p1,e1,t1,dp1⟩:=hd _ m1
    obtain⟨a2,l2,p2,e2,t2,_⟩:=hd _ m2
    obtain⟨c1,c2⟩:=hc _ m1 _ m2
    refine ao0 I2 e1 e2 t1 t2 p1 (by show X.A.units+1+1+30<cLine;omega) dp1 c1 (fun e=>?_) hC
    by_cases n:ds[i]'hi=ds[j]'hj
    ·rw [n]
    ·rw [c2 n] at e;cases e
   ·refine⟨.ref D,_,I.laid (t':=tk) (fun b o e=>(sb.2 b (aH (aO (aF e) (aL hD hD2)))).trans (k b o (keep b o e))) (aL hD hD2) (o:=.lst ((Ak (ltE pf) ds).map fun d=>.ref d.2)) ⟨?_,_,c,?_,g2⟩,rfl,q D (I.hok.fresh (aL hD hD2))⟩
    ·rw [ai,(Am (ltE pf) ds).length_eq,bb];omega
    ·have v:=E3 rv pp.toList (fun i hi=>by rw [hl];exact h4 i hi)
     have e:(pp.toList.map fun i=>(ds.map fun d=>V.ref d.2).getD i .non)=(Ak (ltE pf) ds).map fun d=>.ref d.2:=by
      rw [<- h5,cr]
      refine dD fun i hi=>?_
      have:=h4 i hi
      rw [aB,aE,am this]
      show V.ref (ds[i]).2=V.ref (ds.getD i (ck,0)).2
      rw [aB,am this]
      rfl
     rwa [e] at v
end
end L2
set_option maxHeartbeats 4000000
namespace PySem
section
variable {prog:aI} {w:bp} {K:Type} [DecidableEq K] {knd:HeapKind prog w K} {A:bi} {E:Value->aj->Prop} {s:aj}
theorem Df {d a:Addr} {xs:List (K×Addr×Value)} {k:K} {v:Value} {Q:Value->aj->Prop} (hu:knd.room A) (hkey:knd.is s.heap k a) (hm:s.heap.DictOfH knd d xs)
  (h1:∀ p,me xs k=some p->Q p.2 { s with toks:=s.toks+knd.draws k })
  (h2:me xs k=none -> ∀ h',h'.DictOfH knd d (storedH xs k a v)->br d s.heap h'->Q v { s with heap:=h',toks:=s.toks+knd.draws k })
  (hsz:xs.length<=sizeLine):aJ (model prog w) A (kH d (.ref a) v) Q E s:=by
 obtain⟨o,es,ep,ho,hc,hd,he,his,hn⟩:=hm
 unfold kH
 try with_reducible refine bw ?_
 refine af (knd.pyHash hu hkey ?_)
 refine af (wpAny_dictFind_heap (s:={ s with toks:=s.toks+knd.draws k }) hu hkey ho hd he his hn ?_ ?_)
 ·intro hno
  have hnot:k∉xs.map (·.1):=not_mem_keys_of_get hno
  refine af (g9 (af (wpAny_updateDictKeys (hz:=by have e:=size_of_entries he;omega) (s:={ s with toks:=s.toks+knd.draws k }) ho hd (ak (h2 (gM hno) _ ⟨_,_,ep+1,bz _ ho (Obj.isFreed_of_dict (ky hd _)),
   hc.mapDictKeys _,ky hd _,?_,?_,?_⟩ (bH ..))))))
  ·rw [mx (gM hno)]
   simp [he,entryOfKey]
  ·rw [mx (gM hno)]
   intro x hx
   rcases List.mem_append.mp hx with hx|hx
   ·exact knd.keeps (his x hx) ho hd (bH ..)
   ·simp only [aT] at hx
    subst hx
    exact knd.keeps hkey ho hd (bH ..)
  ·rw [mx (gM hno)]
   rw [bg,gK]
   refine⟨hn,by simp,?_⟩
   intro x hx y hy
   simp only [aK,iH,aT] at hy
   subst hy
   exact fun e=>hnot (e▸hx)
 ·intro j p hj
  refine af (wpAny_dictEntries (s:={ s with toks:=s.toks+knd.draws k }) ho hd ?_)
  rw [entry_at he j,hj]
  exact af (g9 (ak (h1 p (atKey_of_get hn hj))))
theorem F8 (knd:HeapKind prog w K) (d a:Addr) (hd:(d==cV)=false) (dflt:Value) :
  MeetsIn prog w (aS.«dict.setdefault» ⟨[.ref d,.ref a,dflt],[]⟩) (fun A R s=>knd.room A.in1 /\ ∃ k xs,knd.is s.heap k a/\s.heap.DictOfH knd d xs/\xs.length<=sizeLine /\
   (∀ p,me xs k=some p->R (.ok (.ret p.2)) { s with toks:=s.toks+knd.draws k }) /\
   (me xs k=none -> ∀ h',h'.DictOfH knd d (storedH xs k a dflt)->br d s.heap h'->R (.ok (.ret dflt)) { s with heap:=h',toks:=s.toks+knd.draws k })):=
 .of_wp fun A R s ⟨hu,k,xs,hkey,hm,hz,h1,h2⟩=>by
  unfold aS.«dict.setdefault»
  refine af ?_
  unfold Builtin.Dict.keyAndDefault
  refine af (wpAny_notOrdered_dict hm.typeIs ?_)
  show aJ _ _ (pure (d,aR a,some dflt)) _ _ s
  refine ak ?_
  show aJ _ _ (if (d==cV)=true then _ else (kH d (.ref a) dflt >>= _)) _ _ s
  rw [if_neg (by rw [hd];exact ar)]
  exact af (Df hu hkey hm (fun p hp=>ak ⟨_,rfl,h1 p hp⟩) (fun hn h' hm' hs'=>ak ⟨dflt,rfl,h2 hn h' hm' hs'⟩) hz)
end
end PySem
namespace L2
open PySem PySem.Spec PyProof.Rows
noncomputable def Uw:V->List V->Hp->VK->Prop:=fun x xs H Q=>∃ p b kvs ks v,x=.ref p/\xs=[.ref b,v]/\H p=some (.dT kvs)/\H b=some (.tup (iG kV ks))/\kvs.length<sizeLine/\(match A6 kvs ks with
 | some w=>Q w H
 | none=>Q v (upd H p (.dT (Cf kvs ks v))))
theorem V7 {X:Cx} (hu:X.A.units+64<cLine):MtR X "dict.setdefault" Uw:=by
 intro pins s σ H x xs v us Q I rx rs h
 obtain⟨p,b,kvs,ks,y,rfl,rfl,e,eb,hl,q⟩:=h
 cases rx
 obtain⟨u1,u2,rfl,ru,rv⟩:=rs.two
 cases ru
 obtain⟨z,hd,ms,rel,dd⟩:=au2 I.hok e
 have hz:ms.length<=sizeLine:=by rw [<- g7 rel];exact z
 have hv:=rel.val ks
 refine fB ff dd.typeIs gU (gQ _ _ _) (F8 (ir (Ao X.prog X.w)) p b hd u2) ⟨cW (by omega),ks,ms,Eh I.hok eb,dd,hz,fun r hr=>?_,fun hr h' dd' hs=>?_⟩
 ·rw [hr] at hv
  cases e2:A6 kvs ks with
  | none=>rw [e2] at hv;cases hv
  | some w=>rw [e2] at hv q;exact⟨w,H,I.tok _,hv,q⟩
 ·rw [hr] at hv
  cases e2:A6 kvs ks with
  | some w=>rw [e2] at hv;cases hv
  | none=>
   rw [e2] at q
   have hl2:(Cf kvs ks y).length<=sizeLine:=by have:=Ce kvs ks y;omega
   refine⟨y,_,?_,rv,q⟩
   obtain⟨q,es,ep,hq,h2,h3,h4,_,h5⟩:=dd'
   refine Fw I (by rw [e];exact bD) hs ⟨q,hq⟩ ⟨hl2,hd,_,(rel.put ks eb rv).keeps fun c ys ec=>?_,q,es,ep,hq,h2,h3,h4,h5⟩
   rw [Ah (ax5 ec e (fun z=>nomatch z))]
   exact ec
noncomputable abbrev RF:=List V->Hp->VK->Prop
noncomputable def K1 (x:V) (T:String):Bool:=match x with
 | .int _=>T == "int"
 | .bl _=>T == "bool" || T == "int"
 | .str _=>T == "str"
 | _=>false
noncomputable def okT (T:String):Bool:=["int", "bool", "str", "list", "tuple", "dict"].contains T
noncomputable def aq9 (K:ae):RF:=fun xs H Q=>match xs with
 | [.int i,.ty T]=>okT T=true/\Q (.bl (K1 (.int i) T)) H
 | [.bl i,.ty T]=>okT T=true/\Q (.bl (K1 (.bl i) T)) H
 | [.str i,.ty T]=>okT T=true/\Q (.bl (K1 (.str i) T)) H
 | [.non,.ty T]=>okT T=true/\Q (.bl (K1 .non T)) H
 | [x,.ty T]=>∃ t b,TyX K H x t/\fR K t (.type T)=some b/\Q (.bl b) H
 | [x,.ref C]=>(∃ t b,TyX K H x t/\fR K t (.ref C)=some b/\Q (.bl b) H)\/False
 | _=>False
noncomputable def Ki (K:ae):RF:=fun xs H Q=>match xs with
 | [.str z]=>z.length<=sizeLine/\Q (.int z.length) H
 | [.ref p]=>(∃ ys,(SqL K H p ys\/SqT K H p ys)/\Q (.int ys.length) H) \/ ∃ kvs,Rd H p (.dK kvs)/\Q (.int kvs.length) H
 | _=>False
noncomputable def aq8:RF:=fun xs H Q=>match xs with
 | [.int i]=>Q (.int i) H
 | [.bl k]=>Q (.int (if k then 1 else 0)) H
 | _=>False
noncomputable def Mr (K:ae):RF:=fun xs H Q=>match xs with
 | [.ref p]=>∃ ys,(SqL K H p ys\/SqT K H p ys) /\ ∀ l,H l=none->Q (.ref l) (upd H l (.lst ys))
 | _=>False
noncomputable def Gz (K:ae):RF:=fun xs H Q=>match xs with
 | [.ref p]=>∃ ys,(SqL K H p ys /\ ∀ l,H l=none->Q (.ref l) (upd H l (.tup ys)))\/(SqT K H p ys/\Q (.ref p) H)
 | _=>False
noncomputable def ar0:RF:=fun xs H Q=>match xs with
 | [.int i,.int j]=>Q (.int (if j > i then j else i)) H
 | _=>False
noncomputable def ab7:RF:=fun xs H Q=>match xs with
 | [.int i,.int j]=>Q (.int (if j<i then j else i)) H
 | _=>False
noncomputable def ab5 (K:ae) (calm:Bool):RF:=fun xs H Q=>Mr K xs H Q\/(calm=true/\ab6 xs H Q)
noncomputable def Mt (K:ae) (calm:Bool):RF:=fun xs H Q=>((False\/ac4 K xs H Q)\/False)\/(calm=true/\ac5 K xs H Q)
inductive BF where
 | bf (id:String)|ty (T:String)
noncomputable def a54 (K:ae) (calm:Bool) (x:Str):Option (BF×RF):=
 if x = "len" then some (.bf "len", Ki K) else
 if x = "isinstance" then some (.bf "isinstance", aq9 K) else
 if x = "int" then some (.ty "int", aq8) else
 if x = "list" then some (.ty "list", ab5 K calm) else
 if x = "tuple" then some (.ty "tuple", Gz K) else
 if x = "max" then (if calm=true then some (.bf "max", ar0) else none) else
 if x = "min" then (if calm=true then some (.bf "min", ab7) else none) else
 if x = "sorted" then some (.bf "sorted", Mt K calm) else none
noncomputable def BF.val:BF->Value
 | .bf id=>.builtin id
 | .ty T=>.type T
section
variable {X:Cx}
theorem Qm {K:ae} {x:V} {T:String} (hx:Bd x=true) (h:okT T=true):∃ t,(∀ H,TyOf K H x t)/\fR K t (.type T)=some (K1 x T):=by
 have hT:T = "int" \/ T = "bool" \/ T = "str" \/ T = "list" \/ T = "tuple" \/ T = "dict" := by
  unfold okT at h
  simpa using h
 cases x with
 | int i=>refine⟨_,fun H=>TyOf.int i,?_⟩;rcases hT with rfl|rfl|rfl|rfl|rfl|rfl <;> rfl
 | bl i=>refine⟨_,fun H=>TyOf.bl i,?_⟩;rcases hT with rfl|rfl|rfl|rfl|rfl|rfl <;> rfl
 | str i=>refine⟨_,fun H=>TyOf.str i,?_⟩;rcases hT with rfl|rfl|rfl|rfl|rfl|rfl <;> rfl
 | non=>refine⟨_,fun H=>TyOf.non,?_⟩;rcases hT with rfl|rfl|rfl|rfl|rfl|rfl <;> rfl
 | _=>cases hx
theorem X8:Bw X (.builtin "isinstance") (aq9 X.K):=by
 intro pins s σ H xs us Q I r h
 have sc:∀ x T,xs=[x,.ty T]->Bd x=true->okT T=true->Q (.bl (K1 x T)) H->aJ (model X.prog X.w) X.A (call (.builtin "isinstance") us) (EP X pins σ Q) X.xe s:=fun x T e hx hT q=>by
  subst e
  obtain⟨t,ht,hk⟩:=Qm (K:=X.K) hx hT
  exact X7 pins s σ H _ us Q I r ⟨x,T,t,_,rfl,ht H,hk,q⟩
 unfold aq9 at h
 split at h
 ·exact sc _ _ rfl rfl h.1 h.2
 ·exact sc _ _ rfl rfl h.1 h.2
 ·exact sc _ _ rfl rfl h.1 h.2
 ·exact sc _ _ rfl rfl h.1 h.2
 ·obtain⟨t,b,ty,e,q⟩:=h
  obtain⟨u,v,rfl,ru,rv⟩:=r.two
  cases rv
  exact bI (ah _) (Ij I ru ty e fun tk htk=>⟨.bl b,H,I.tok tk htk,rfl,q⟩)
 ·obtain⟨u,v,rfl,ru,rv⟩:=r.two
  rcases h with ⟨t,b,ty,e,q⟩|h
  ·cases rv
   exact bI (ah _) (Ij I ru ty e fun tk htk=>⟨.bl b,H,I.tok tk htk,rfl,q⟩)
  ·exact h.elim
 ·exact h.elim
theorem Ve:Bw X (.builtin "len") (Ki X.K):=by
 intro pins s σ H xs us Q I r h
 unfold Ki at h
 split at h
 ·exact Lq pins s σ H _ us Q I r ⟨_,rfl,h.1,h.2⟩
 ·rcases h with ⟨ys,h1,h2⟩|⟨kvs,h1,h2⟩
  ·exact Lp pins s σ H _ us Q I r ⟨_,ys,rfl,h1,h2⟩
  ·obtain⟨u,rfl,ru⟩:=Dv r
   cases ru
   exact bt0 I h1 fun t s' I'=>⟨.int _,H,I',⟨t,rfl⟩,h2⟩
 ·exact h.elim
theorem Vd:Bw X (.type "int") aq8:=by
 intro pins s σ H xs us Q I r h
 unfold aq8 at h
 split at h
 ·exact Kq pins s σ H _ us Q I r (.inl ⟨_,rfl,h⟩)
 ·exact Kq pins s σ H _ us Q I r (.inr ⟨_,rfl,h⟩)
 ·exact h.elim
theorem Py:Bw X (.type "list") (Mr X.K):=by
 intro pins s σ H xs us Q I r h
 unfold Mr at h
 split at h
 ·obtain⟨ys,h1,h2⟩:=h
  exact Lr pins s σ H _ us Q I r ⟨_,ys,rfl,h1,h2⟩
 ·exact h.elim
theorem Vj:Bw X (.type "tuple") (Gz X.K):=by
 intro pins s σ H xs us Q I r h
 unfold Gz at h
 split at h
 ·obtain⟨ys,h1⟩:=h
  exact Kb pins s σ H _ us Q I r ⟨_,ys,rfl,h1⟩
 ·exact h.elim
theorem Vg (hc:X.calm=true):Bw X (.builtin "max") ar0:=by
 intro pins s σ H xs us Q I r h
 unfold ar0 at h
 split at h
 ·exact Vf hc pins s σ H _ us Q I r ⟨_,_,rfl,h⟩
 ·exact h.elim
theorem Vi (hc:X.calm=true):Bw X (.builtin "min") ab7:=by
 intro pins s σ H xs us Q I r h
 unfold ab7 at h
 split at h
 ·exact Vh hc pins s σ H _ us Q I r ⟨_,_,rfl,h⟩
 ·exact h.elim
theorem aj5 (hu:X.A.units+64<cLine) {x:Str} {f:BF} {r:RF} {c:Bool} (h:a54 X.K c x=some (f,r)) (hc:c=X.calm):cS x=some f.val/\Bw X f.val r:=by
 unfold a54 at h
 by_cases e:x = "len"
 ·rw [if_pos e] at h;cases h;rw [e];exact⟨PySem.boot_len,Ve⟩
 rw [if_neg e] at h
 by_cases e:x = "isinstance"
 ·rw [if_pos e] at h;cases h;rw [e];exact⟨PyProof.Rows.boot_isinstance,X8⟩
 rw [if_neg e] at h
 by_cases e:x = "int"
 ·rw [if_pos e] at h;cases h;rw [e];exact⟨jZ,Vd⟩
 rw [if_neg e] at h
 by_cases e:x = "list"
 ·rw [if_pos e] at h;cases h;rw [e];exact⟨jK,fun pins s σ H xs us Q I r h=>h.elim (Py pins s σ H xs us Q I r) fun z=>Pz (hc▸z.1) pins s σ H xs us Q I r z.2⟩
 rw [if_neg e] at h
 by_cases e:x = "tuple"
 ·rw [if_pos e] at h;cases h;rw [e];exact⟨jk,Vj⟩
 rw [if_neg e] at h
 by_cases e:x = "max"
 ·rw [if_pos e] at h
  by_cases ec:c=true
  ·rw [if_pos ec] at h;cases h;rw [e];exact⟨PyProof.Rows.boot_max,Vg (hc▸ec)⟩
  ·rw [if_neg ec] at h;cases h
 rw [if_neg e] at h
 by_cases e:x = "min"
 ·rw [if_pos e] at h
  by_cases ec:c=true
  ·rw [if_pos ec] at h;cases h;rw [e];exact⟨PyProof.Rows.boot_min,Vi (hc▸ec)⟩
  ·rw [if_neg ec] at h;cases h
 rw [if_neg e] at h
 by_cases e:x = "sorted"
 ·rw [if_pos e] at h;cases h;rw [e];exact⟨Eb,fun pins s σ H xs us Q I r h=>h.elim (fun h=>h.elim (fun h=>h.elim b_ (P0 hu pins s σ H xs us Q I r)) b_) fun z=>P4 (hc▸z.1) pins s σ H xs us Q I r z.2⟩
 rw [if_neg e] at h
 cases h
noncomputable abbrev RM:=V->List V->Hp->VK->Prop
structure BM where
 T:String
 id:String
 r:RM
noncomputable def rMt (K:ae) (bs:List BM):V->Hp->(Hp->(List V->Hp->Prop)->Prop)->VK->Prop:=fun x H1 ta Q=>
 match bs with
 | []=>False
 | [b]=>tyV K b.T x H1/\ta H1 fun xs H2=>b.r x xs H2 Q
 | b::rest=>(tyV K b.T x H1/\ta H1 fun xs H2=>b.r x xs H2 Q)\/rMt K rest x H1 ta Q
structure a24 (X:Cx) (m:Str) (b:BM):Prop where
 pa:PlainAttrs b.T
 slot:Slot b.T m b.id
 ty:typeOf (.builtin b.id)=pure (.type "method_descriptor")
 mt:MtR X b.id b.r
noncomputable def Uu (K:ae):RM:=fun x xs H Q=>∃ z p ys,x=.str z/\xs=[.ref p]/\SqL K H p (ys.map V.str)/\(ys.map (·.length)).sum+ys.length * z.length<=16777216/\Q (.str (Txt.join z ys)) H
noncomputable def Gg:RM:=fun x xs H Q=>match x,xs with
 | .ref a,[y]=>∃ o,D7 H a y o/\Q (o.getD .non) H
 | .ref a,[y,z]=>∃ o,D7 H a y o/\Q (o.getD z) H
 | _,_=>False
theorem am6 (hu:X.A.units+64<cLine):MtR X "dict.get" Gg:=by
 intro pins s σ H x xs v us Q I rx rs h
 unfold Gg at h
 split at h
 ·obtain⟨o,g,q⟩:=h
  obtain⟨u,rfl,ru⟩:=rs.one
  cases rx
  exact a62 (by omega) I g ru fun w' s' I' r'=>⟨_,H,I',r',q⟩
 ·obtain⟨o,g,q⟩:=h
  obtain⟨u,w,rfl,ru,rw'⟩:=rs.two
  cases rx
  exact a63 (by omega) I g ru rw' fun w' s' I' r'=>⟨_,H,I',r',q⟩
 ·exact h.elim
theorem Qe {i:Nat} (h:i<sizeLine):cL (i:Int)=true:=by
 have hs:sizeLine<=9223372036854775807:=jW rfl
 have e:(2:Int) ^ 63=9223372036854775808:=rfl
 unfold cL
 rw [e,aA]
 exact⟨decide_eq_true (by omega),decide_eq_true (by omega)⟩
noncomputable def Hm:RM:=fun x vs H Q=>∃ l xs y,∃ i:Nat,x=.ref l/\vs=[.int (i:Int),y]/\H l=some (.lst xs)/\i<=xs.length/\xs.length<sizeLine/\Q .non (upd H l (.lst (xs.take i++y::xs.drop i)))
theorem V6:MtR X "list.insert" Hm:=by
 intro pins s σ H x vs v us Q I rx rv h
 obtain⟨l,xs,y,i,rfl,rfl,hH,hi,hz,q⟩:=h
 cases rx
 obtain⟨u1,u2,rfl,⟨t,rfl⟩,r2⟩:=rv.two
 obtain⟨z,its,n,r,hl,e⟩:=I.lstM hH
 have hf:cL (i:Int)=true:=Qe (bX hi hz)
 have hz':its.toArray.size<=sizeLine:=by rw [ao,<- hl];exact z
 obtain⟨j,hj⟩:∃ j:Int,j=(i:Int):=⟨_,rfl⟩
 rw [<- hj] at hf ⊢
 have hf':¬ (!cL j)=true:=by rw [hf];decide
 have M:=AutoSeq1.list_insert_list_int_val_1 l its.toArray n j t u2 hf' hz'
 refine fI jb ⟨_,e,rfl⟩ PySem.F.entry_list_insert (PySem.F.args_list_insert_3 _ _ _) M ⟨e,?_⟩
 refine⟨.non,_,I.lset (its':=its.take i++u2::its.drop i) hH e ?_ ((r.take i).append (.cons r2 (r.drop i))) ?_,rfl,q⟩
 ·have hk:(if j<0 then (j+(its.toArray.size:Int)).toNat else min j.toNat its.toArray.size)=i:=by
   rw [if_neg (by omega),ao,hj,bK]
   omega
  show (its.toArray.extract 0 (if j<0 then (j+(its.toArray.size:Int)).toNat else min j.toNat its.toArray.size)).push u2++its.toArray.extract (if j<0 then (j+(its.toArray.size:Int)).toNat else min j.toNat its.toArray.size)=_
  rw [hk]
  apply Array.toList_inj.mp
  simp
  exact gG (by simp)
 ·rw [av,aP,bj,eX]
  omega
noncomputable def ac0:RM:=fun x vs H Q=>bz7 x vs H Q\/ab9 x vs H Q
noncomputable def O8:RM:=fun x xs H Q=>∃ p k v kvs,x=.ref p/\xs=[kV k]/\H p=some (.dK kvs)/\A6 kvs k=some v/\Q v (upd H p (.dK (Oi kvs k)))
theorem am7:MtR X "dict.pop" O8:=by
 intro pins s σ H x xs v us Q I rx rs h
 obtain⟨p,k,y,kvs,rfl,rfl,e,l,q⟩:=h
 obtain⟨u,rfl,ru⟩:=rs.one
 cases rx
 exact bt1 I e ru l (.inl rfl) fun w' s' I' r'=>⟨y,_,I',r',q⟩
noncomputable def ac2:RM:=fun x xs H Q=>∃ p k v kvs,x=.ref p/\xs=[kV k,v]/\H p=some (.dK kvs)/\kvs.length<sizeLine/\(match A6 kvs k with
 | some w=>Q w H
 | none=>Q v (upd H p (.dK (Cf kvs k v))))
theorem Zg:MtR X "dict.setdefault" ac2:=by
 intro pins s σ H x xs v us Q I rx rs h
 obtain⟨p,k,y,kvs,rfl,rfl,e,hl,q⟩:=h
 cases rx
 obtain⟨u1,u2,rfl,ru,rv⟩:=rs.two
 obtain⟨z,hd,vs,rel,dd⟩:=Yi I.hok e
 have hv:=rel.val k
 refine fB ff dd.typeIs gU (gQ _ _ _) (kt_meets_setdefault (Ao X.prog X.w) p (D4 ru) hd u2) ⟨vs,dd,by rw [<- rel.length];exact z,fun r hr=>?_,fun hr h' dd' hs=>?_⟩
 ·rw [hr] at hv
  cases e2:A6 kvs k with
  | none=>rw [e2] at hv;cases hv
  | some w=>rw [e2] at hv q;exact⟨w,H,I.tok _,hv,q⟩
 ·rw [hr] at hv
  cases e2:A6 kvs k with
  | some w=>rw [e2] at hv;cases hv
  | none=>
   rw [e2] at q
   have hl2:(Cf kvs k y).length<=sizeLine:=by have:=Ce kvs k y;omega
   have he:∃ q,h'.get? p=some q:=let ⟨q,_,_,hq,_⟩:=dd';⟨q,hq⟩
   exact⟨y,_,Fw I (by rw [e];exact bD) hs he (Qa hl2 hd (rel.put k rv) dd'),rv,q⟩
noncomputable def Je:RM:=fun x vs H Q=>Uw x vs H Q\/ac2 x vs H Q
noncomputable def mtR (K:ae) (m:Str):List BM:=
 if m = "append" then [⟨"list", "list.append", Cw⟩] else
 if m = "get" then [⟨"dict", "dict.get", Gg⟩] else
 if m = "extend" then [⟨"list", "list.extend", E0⟩] else
 if m = "join" then [⟨"str", "str.join", Uu K⟩] else
 if m = "index" then [⟨"list", "list.index", Mq⟩] else
 if m = "setdefault" then [⟨"dict", "dict.setdefault", Je⟩] else
 if m = "insert" then [⟨"list", "list.insert", Hm⟩] else
 if m = "pop" then [⟨"list", "list.pop", ac0⟩,⟨"dict", "dict.pop", O8⟩] else []
theorem Zd {m:Str} {b:BM} (hu:X.A.units+64<cLine) (h:b∈mtR X.K m):a24 X m b:=by
 unfold mtR at h
 by_cases e:m = "append"
 ·rw [if_pos e] at h
  have:b=⟨"list", "list.append", Cw⟩:=by simpa using h
  subst this;subst e
  exact⟨dj,PySem.F.slot_list_append,PySem.F.type_list_append,K6⟩
 rw [if_neg e] at h
 by_cases e:m = "get"
 ·rw [if_pos e] at h
  have:b=⟨"dict", "dict.get", Gg⟩:=by simpa using h
  subst this;subst e
  exact⟨eR,dN,PySem.F.type_dict_get,am6 hu⟩
 rw [if_neg e] at h
 by_cases e:m = "extend"
 ·rw [if_pos e] at h
  have:b=⟨"list", "list.extend", E0⟩:=by simpa using h
  subst this;subst e
  exact⟨dj,PySem.F.slot_list_extend,PySem.F.type_list_extend,V5⟩
 rw [if_neg e] at h
 by_cases e:m = "join"
 ·rw [if_pos e] at h
  have:b=⟨"str", "str.join", Uu X.K⟩:=by simpa using h
  subst this;subst e
  exact⟨PySem.F.plainAttrs_str,PySem.F.slot_str_join,PySem.F.type_str_join,am8⟩
 rw [if_neg e] at h
 by_cases e:m = "index"
 ·rw [if_pos e] at h
  have:b=⟨"list", "list.index", Mq⟩:=by simpa using h
  subst this;subst e
  exact⟨dj,jp,PySem.F.type_list_index,Ze⟩
 rw [if_neg e] at h
 by_cases e:m = "setdefault"
 ·rw [if_pos e] at h
  have:b=⟨"dict", "dict.setdefault", Je⟩:=by simpa using h
  subst this;subst e
  exact⟨eR,ff,PySem.F.type_dict_setdefault,fun pins s σ H x vs v us Q I rx rv h=>h.elim (V7 hu pins s σ H x vs v us Q I rx rv) (Zg pins s σ H x vs v us Q I rx rv)⟩
 rw [if_neg e] at h
 by_cases e:m = "insert"
 ·rw [if_pos e] at h
  have:b=⟨"list", "list.insert", Hm⟩:=by simpa using h
  subst this;subst e
  exact⟨dj,jb,PySem.F.type_list_insert,V6⟩
 rw [if_neg e] at h
 by_cases e:m = "pop"
 ·rw [if_pos e] at h
  rcases List.mem_cons.mp h with this|h
  rotate_left
  ·have:b=⟨"dict", "dict.pop", O8⟩:=by simpa using h
   subst this;subst e
   exact⟨eR,j0,PySem.F.type_dict_pop,am7⟩
  subst this;subst e
  exact⟨dj,PySem.F.slot_list_pop,PySem.F.type_list_pop,fun pins s σ H x vs v us Q I rx rv h=>h.elim (a83 pins s σ H x vs v us Q I rx rv) (Zf pins s σ H x vs v us Q I rx rv)⟩
 rw [if_neg e] at h
 cases h
theorem Ms {K:ae}:∀ {bs:List BM} {x:V} {H1:Hp} {ta:Hp->(List V->Hp->Prop)->Prop} {Q:VK},rMt K bs x H1 ta Q -> ∃ b∈bs,tyV K b.T x H1/\ta H1 fun xs H2=>b.r x xs H2 Q
 | [],_,_,_,_,h=>h.elim
 | [b],_,_,_,_,h=>⟨b,by simp,h⟩
 | b::c::rest,x,H1,ta,Q,h=>by
  rcases h with h|h
  ·exact⟨b,by simp,h⟩
  ·obtain⟨d,hd,q⟩:=Ms h
   exact⟨d,aC _ hd,q⟩
noncomputable def Bo:Expr->Bool
 | .Call (.Name x _) [] [] _=>!(x==("super" : Str))
 | _=>true
theorem Ct {e:Expr} (h:Bo e=true) (f:Str) (env:Env) (whole:Sem Value):jq e f env whole=whole:=by
 unfold jq
 split
 ·rename_i id p pos
  have:(id==("super" : Str))=false:=by
   have h':(!(id==("super" : Str)))=true:=h
   simpa using h'
  have e2:(id != "super")=true:=by
   show (!(id == "super"))=true
   rw [this]
   rfl
  rw [e2]
  simp
 ·rfl
variable {o:Expr} {do':DE} {es:List Expr} {r:DA} {m:Str} {apos cpos:Pos}
theorem bg0 {bs:List BM} (hb:∀ b∈bs,a24 X m b) (ho:QE X o do') (h1:Bo o=true) (h4:(apos.endLine==cpos.line)=true) :
  QE X (.Call (.Attribute o m apos) [] [] cpos) (dMt (rMt X.K bs) do' Ae):=by
 intro Ex mt pins s σ H Q I h
 refine ju (Ct h1 m X.env _) h4 (thn (ho Ex mt pins s σ H _ I h) fun v s1 ⟨x,H1,I1,r1,q1⟩=>?_)
 obtain⟨b,hbm,ty,q⟩:=Ms q1
 obtain⟨k1,k2⟩:=ag9 I1 r1 ty
 have B:=hb b hbm
 exact⟨b.T,b.id,B.pa,B.slot,B.ty,k1,k2,gC rfl (kU (B.mt pins s1 σ H1 x [] v [] Q I1 r1 .nil q))⟩
theorem bz2 {bs:List BM} {e:Expr} (hb:∀ b∈bs,a24 X m b) (ho:QE X o do') (ha:QA X (e::es) r) (h1:Bo o=true) (h2:(e::es).all noStar=true) (h3:(e::es).length<30) (h4:(apos.endLine==cpos.line)=true) :
  QE X (.Call (.Attribute o m apos) (e::es) [] cpos) (dMt (rMt X.K bs) do' r):=by
 intro Ex mt pins s σ H Q I h
 have hs:=bN▸h2
 rw [aA] at hs
 have hfew:((jA cpos (cO (e::es) X.env)).all (fun x=>!x.1)&&(mL cpos (la [] X.env)).all (fun x=>x.1.isSome)
   && decide ((e::es).length+([]:List mk).length+(if ([]:List mk).isEmpty then 0 else 1)<30))=true:=by
  rw [G6 h2]
  have:decide ((e::es).length+([]:List mk).length+(if ([]:List mk).isEmpty then 0 else 1)<30)=true:=by
   rw [decide_eq_true_iff]
   simpa using h3
  rw [this]
  rfl
 refine wpAny_Call_method_late (Ct h1 m X.env _) hfew h4 rfl (thn (ho Ex mt pins s σ H _ I h) fun v s1 ⟨x,H1,I1,r1,q1⟩=>?_)
 obtain⟨b,hbm,ty,q⟩:=Ms q1
 obtain⟨k1,k2⟩:=ag9 I1 r1 ty
 have B:=hb b hbm
 refine⟨b.T,b.id,B.pa,B.slot,B.ty,k1,k2,?_⟩
 have hA:=ha Ex mt cpos pins s1 σ H1 _ I1 q
 rw [As hs.1] at hA ⊢
 refine gC (by show (false||(jA cpos (cO es X.env)).any (·.1))=false;rw [A5 hs.2] <;> rfl) (Calls.evalArgs_plain ?_)
 exact thn hA fun us s2 ⟨vs,H2,I2,r2,q2⟩=>B.mt pins s2 σ H2 x vs v us Q I2 r1 r2 q2
variable {x:Str} {p pos:Pos} {G:Sg}
theorem bf1 {f:BF} {rf:RF} {e:Expr} (hc:Bw X f.val rf) (hg:Gl X x) (hm:X.mg x=none) (hv:cS x=some f.val) (ha:QA X (e::es) r) (hs:(e::es).all noStar=true) (hn:x ≠ "__name__") (hdb:(x==("__debug__" : Str))=false) :
  QE X (.Call (.Name x p) (e::es) [] pos) (dFn (fun vs H Q _=>rf vs H Q) r):=by
 intro Ex mt
 have h:=bN▸hs
 rw [aA] at h
 cases f with
 | bf id=>exact Zo hc hg hm hv (ha Ex mt) hn hdb (As h.1 es X.env) (A5 h.2 X.env pos)
 | ty T=>exact Wc hc hg hm hv (ha Ex mt) hn hdb (As h.1 es X.env) (A5 h.2 X.env pos)
noncomputable def spE (sp:Sp) (dvs:List V):List V->Hp->VK->EK->Prop:=fun vs H Q E=>sp (vs++dvs) H Q (fun v _ H'=>∃ a,v=.ref a/\E a H')
theorem E1 {i:FI} (F:D8 X i) {j:Nat} (hj:j<=i.dfs.length) {Ex:St->EK} (mt:Meets X Ex) {pins:List (Addr×Obj)} {σ:St} {H:Hp} {s:aj} {Q:VK} {us:List Value} {vs:List V}
  (I:Inv X pins σ H s) (r:Vals vs us) (h:spE i.sp (i.dfs.drop j) vs H Q (Ex σ)):aJ (model X.prog X.w) X.A (call (.ref i.f) us) (EP X pins σ Q) X.xe s:=by
 obtain⟨CX,hx,FO⟩:=F.ok
 have r2:Vals (vs++i.dfs.drop j) (us++i.ds.drop j):=r.append (F.vals.drop j)
 have hl:(us++i.ds.drop j).length=i.ps.length:=by rw [<- r2.length];exact FO.len _ _ _ _ h
 refine dJ (eJ (FO.run X.A X.stack s H ⟨us,[]⟩ (us++i.ds.drop j) (vs++i.dfs.drop j) Q _ F.room I.env0 (F.binds j hj s us I.kIn hl) r2 h) fun r s' hq=>?_)
 cases r with
 | error e=>exact hx X rfl rfl Ex mt pins σ H s e s' I hq
 | ok fl=>
  cases fl with
  | ret u=>exact I.after hq
  | next=>exact b_ hq
  | brk=>exact b_ hq
  | cont=>exact b_ hq
theorem Z6 {i:FI} (F:D8 X i) {j:Nat} (hj:j<=i.dfs.length) (hg:Gl X x) (hm:X.mg x=some (.ref i.f)) (hdb:(x==("__debug__" : Str))=false) :
  QE X (.Call (.Name x p) [] [] pos) (dFn (spE i.sp (i.dfs.drop j)) Ae):=by
 intro Ex mt pins s σ H Q I h
 refine bS (Dz I hg hm ?_ hdb)
 exact fZ I.kIn F.kp (E1 (us:=[]) F hj mt I .nil h)
theorem ap5 {i:FI} {e:Expr} (F:D8 X i) {j:Nat} (hj:j<=i.dfs.length) (hg:Gl X x) (hm:X.mg x=some (.ref i.f)) (ha:QA X (e::es) r) (hs:(e::es).all noStar=true) (hdb:(x==("__debug__" : Str))=false) :
  QE X (.Call (.Name x p) (e::es) [] pos) (dFn (spE i.sp (i.dfs.drop j)) r):=by
 intro Ex mt pins s σ H Q I h
 have h2:=bN▸hs
 rw [aA] at h2
 refine bS (Dz I hg hm ?_ hdb)
 refine dO (h₀:=X.base) I.ok.mod.kin F.kp (thn (ha Ex mt pos pins s σ H _ I h) fun us s1 ⟨vs,H1,I1,r,q⟩=>⟨I1.kIn,?_⟩) (As h2.1 es X.env) (A5 h2.2 X.env pos)
 exact E1 F hj mt I1 r q
noncomputable def bs8 (l:List FI) (n:Nat) (o:DE) (t:DA):DE:=fun σ H Q E=>o σ H (fun x H1=>∃ i,i∈l/\x=.ref i.f/\(n<=i.ps.length/\i.ps.length<=n+i.dfs.length)/\t σ H1 (fun vs H2=>spE i.sp (i.dfs.drop (n+i.dfs.length - i.ps.length)) vs H2 Q E) E) E
theorem bf2 {l:List FI} {e:Expr} {d:DE} (hF:∀ i∈l,D8 X i) (ho:QE X (.Name x p) d) (ha:QA X (e::es) r) (hs:(e::es).all noStar=true) :
  QE X (.Call (.Name x p) (e::es) [] pos) (bs8 l (e::es).length d r):=by
 intro Ex mt pins s σ H Q I h
 have h2:=bN▸hs
 rw [aA] at h2
 refine bS (thn (ho Ex mt pins s σ H _ I h) fun v s1 ⟨x,H1,I1,r1,q1⟩=>?_)
 obtain⟨i,hi,rfl,hl,q⟩:=q1
 cases r1
 have F:=hF i hi
 refine dO (h₀:=X.base) I1.ok.mod.kin F.kp (thn (ha Ex mt pos pins s1 σ H1 _ I1 q) fun us s2 ⟨vs,H2,I2,r,q⟩=>⟨I2.kIn,?_⟩) (As h2.1 es X.env) (A5 h2.2 X.env pos)
 exact E1 F (by have:=hl.1;omega) mt I2 r q
noncomputable def mkX (C:Addr):Option FI->Nat->List V->Hp->VK->EK->Prop
 | none,_=>fun _ H Q _=>∀ a,H a=none->Q (.ref a) (upd H a (Ff a C none))
 | some i,j=>fun vs H Q E=>∀ a,H a=none->i.sp (.ref a::(vs++i.dfs.drop j)) (upd H a (Ff a C none)) (fun v H2=>v=.non/\Q (.ref a) H2) (fun v _ H'=>∃ b,v=.ref b/\E b H')
theorem Uz {C:Addr} {oi:Option FI} {j:Nat} (c:ECls X.K C) (hi:Hr X C oi) (hj:∀ i,oi=some i->j<=i.dfs.length) {Ex:St->EK} (mt:Meets X Ex) {pins:List (Addr×Obj)} {σ:St} {H:Hp} {s:aj} {Q:VK} {us:List Value} {vs:List V}
  (I:Inv X pins σ H s) (rv:Vals vs us) (hl:vs.length<=1000) (h:mkX C oi j vs H Q (Ex σ)):aJ (model X.prog X.w) X.A (call (.ref C) us) (EP X pins σ Q) X.xe s:=by
 cases oi with
 | none=>exact Re c hi I rv hl h
 | some i=>
  obtain⟨h1,h2,F,hr⟩:=hi
  obtain⟨CX,hx,FO⟩:=F.ok
  exact Wj c h1 h2 FO hr (F.binds j (hj i rfl)) (F.vals.drop j) I rv hl (fun e s1 s' H1 I1 q=>hx X rfl rfl Ex mt pins σ H1 s1 e s' I1 q) h
theorem Ur {C:Addr} {oi:Option FI} {j:Nat} (c:ECls X.K C) (hi:Hr X C oi) (hj:∀ i,oi=some i->j<=i.dfs.length) (kp:aN X.K (.ref C)=true) (hg:Gl X x) (hm:X.mg x=some (.ref C)) (hdb:(x==("__debug__" : Str))=false) :
  QE X (.Call (.Name x p) [] [] pos) (dFn (mkX C oi j) Ae):=by
 intro Ex mt pins s σ H Q I h
 refine bS (Dz I hg hm ?_ hdb)
 exact fZ I.kIn kp (Uz (us:=[]) c hi hj mt I .nil (by simp) h)
theorem aa2 {C:Addr} {oi:Option FI} {j:Nat} {e:Expr} (c:ECls X.K C) (hi:Hr X C oi) (hj:∀ i,oi=some i->j<=i.dfs.length) (kp:aN X.K (.ref C)=true) (hg:Gl X x) (hm:X.mg x=some (.ref C)) (ha:QA X (e::es) r) (hs:(e::es).all noStar=true) (hdb:(x==("__debug__" : Str))=false) :
  QE X (.Call (.Name x p) (e::es) [] pos) (dFn (fun vs H Q E=>vs.length<=1000/\mkX C oi j vs H Q E) r):=by
 intro Ex mt pins s σ H Q I h
 have h2:=bN▸hs
 rw [aA] at h2
 refine bS (Dz I hg hm ?_ hdb)
 refine dO (h₀:=X.base) I.ok.mod.kin kp (thn (ha Ex mt pos pins s σ H _ I h) fun us s1 ⟨vs,H1,I1,r,q⟩=>⟨I1.kIn,?_⟩) (As h2.1 es X.env) (A5 h2.2 X.env pos)
 exact Uz c hi hj mt I1 r q.1 q.2
noncomputable def mkC (C:Addr):Option FI->Nat->List V->Hp->VK->EK->Prop
 | none,_=>fun vs H Q _=>vs=[] /\ ∀ a dx,H a=none->H dx=none->dx≠a->Q (.ref a) (upd (upd H dx (.own a)) a (.ins C dx []))
 | some i,j=>fun vs H Q E=>∀ a dx,H a=none->H dx=none->dx≠a ->
   i.sp (.ref a::(vs++i.dfs.drop j)) (upd (upd H dx (.own a)) a (.ins C dx [])) (fun v H2=>v=.non/\Q (.ref a) H2) (fun v _ H'=>∃ b,v=.ref b/\E b H')
theorem Wi {C:Addr} (h1:bM X.K C=true) (h2:aq X.K (.ref C) "__init__" = some (some (.builtin "object.__init__"))) {pins:List (Addr×Obj)} {σ:St} {H:Hp} {s:aj} {Q:VK}
  (I:Inv X pins σ H s) (h:∀ a dx,H a=none->H dx=none->dx≠a->Q (.ref a) (upd (upd H dx (.own a)) a (.ins C dx []))):aJ (model X.prog X.w) X.A (call (.ref C) []) (EP X pins σ Q) X.xe s:=by
 have hq:=h (s.heap.objs.size+1) s.heap.objs.size (I.hok.fresh (cq _)) (I.hok.fresh (ah _)) (aH (cK _))
 have I2:=Inv.made (C:=C) I
 have e2:((s.heap.push bE).push (bR C s.heap.objs.size)).get? (s.heap.objs.size+1)=some (bR C s.heap.objs.size):=by
  have z:=aw (s.heap.push bE) (o:=bR C s.heap.objs.size) rfl
  rwa [cB] at z
 refine dJ (V4 I.kIn h1 h2 (fun self=>.of_pure (PySem.W.oi_bind self)) ?_)
 have ty:gw (model X.prog X.w) ((s.heap.push bE).push (bR C s.heap.objs.size)) (typeOf (.ref (s.heap.objs.size+1))) (.ref C):=(PySem.W.Looks.ld e2).andThen .now
 have io:gw (model X.prog X.w) ((s.heap.push bE).push (bR C s.heap.objs.size)) (je (.ref (s.heap.objs.size+1)) (.type "object")) true:=
  ty.andThen ((jz (M:=model X.prog X.w) I.kIn h1).top.keeps fun b o e=>ag _ (ag _ e))
 refine c9 PySem.W.oi_plain PySem.W.entry_oi (PySem.W.check_slot (s:={ s with heap:=(s.heap.push bE).push (bR C s.heap.objs.size) }) (i := "object.__init__") (owner := "object") (self:=.ref (s.heap.objs.size+1)) PySem.W.oi_kind PySem.W.oi_split io (PySem.W.oi_args _) ?_)
 rw [PySem.W.oi_run]
 exact ak ⟨rfl,⟨.ref _,_,I2,rfl,hq⟩⟩
theorem ar6 {C f:Addr} {CX:CXT} {k:Nat} {fd:au} {ps:List Str} {sp:Sp} {ds:List Value} {dvs:List V} {E:XK} {pins:List (Addr×Obj)} {σ:St} {H:Hp} {s:aj} {Q:VK} {us:List Value} {vs:List V}
  (M:Mk X.K C f) (F:FnOk X.prog X.w X.K X.mg X.base CX k f fd ps sp) (hr:Room (k+1) X.A) (hb:Binds X.K fd ps ds) (hd:Vals dvs ds) (hx:∀ H1 s1 e s',Inv X pins σ H1 s1->CX X.stack H1 s1 E e s'->X.xe e s') (I:Inv X pins σ H s) (r:Vals vs us)
  (h:∀ x dx,H x=none->H dx=none->dx≠x->sp (.ref x::(vs++dvs)) (upd (upd H dx (.own x)) x (.ins C dx [])) (fun v H2=>v=.non/\Q (.ref x) H2) E) :
  aJ (model X.prog X.w) X.A (call (.ref C) us) (EP X pins σ Q) X.xe s:=by
 have hq:=h (s.heap.objs.size+1) s.heap.objs.size (I.hok.fresh (cq _)) (I.hok.fresh (ah _)) (aH (cK _))
 have I2:=Inv.made (C:=C) I
 have r2:Vals (V.ref (s.heap.objs.size+1)::(vs++dvs)) (aR (s.heap.objs.size+1)::(us++ds)):=.cons rfl (r.append hd)
 have hl:(aR (s.heap.objs.size+1)::us++ds).length=ps.length:=by
  have e:=r2.length
  rw [F.len _ _ _ _ hq] at e
  exact e.symm
 refine dJ (Y9 (f:=f) I.kIn M.makes M.init (beq_iff_eq.mp M.fn) (eJ (F.run _ X.stack _ _ ⟨aR (s.heap.objs.size+1)::us,[]⟩ (aR (s.heap.objs.size+1)::(us++ds)) _ _ E (hr.make C us [])
  (I2.env0.make C us []) (hb _ (aR (s.heap.objs.size+1)::us) I2.kIn hl) r2 hq) fun r s' hq'=>?_))
 cases r with
 | error e=>exact hx _ _ e s' I2 hq'
 | ok fl=>
  cases fl with
  | ret u=>
   obtain⟨v,H',I3,rv,ev,q3⟩:=I2.after hq'
   subst ev
   exact⟨rv,⟨V.ref (s.heap.objs.size+1),H',I3,rfl,q3⟩⟩
  | next=>exact b_ hq'
  | brk=>exact b_ hq'
  | cont=>exact b_ hq'
theorem Uy {C:Addr} {oi:Option FI} {j:Nat} (hi:Wz X C oi) (hj:∀ i,oi=some i->j<=i.dfs.length) {Ex:St->EK} (mt:Meets X Ex) {pins:List (Addr×Obj)} {σ:St} {H:Hp} {s:aj} {Q:VK} {us:List Value} {vs:List V}
  (I:Inv X pins σ H s) (rv:Vals vs us) (kp:aN X.K (.ref C)=true) (h:mkC C oi j vs H Q (Ex σ)):aJ (model X.prog X.w) X.A (call (.ref C) us) (EP X pins σ Q) X.xe s:=by
 cases oi with
 | none=>
  obtain⟨rfl,h⟩:=h
  cases rv
  exact Wi hi.1 hi.2 I h
 | some i=>
  obtain⟨h0,h1,h2,F,hr⟩:=hi
  obtain⟨CX,hx,FO⟩:=F.ok
  exact ar6 ⟨h0,h1,h2,kp⟩ FO hr (F.binds j (hj i rfl)) (F.vals.drop j) (fun H1 s1 e s' I1 q=>hx X rfl rfl Ex mt pins σ H1 s1 e s' I1 q) I rv h
theorem Uq {C:Addr} {oi:Option FI} {j:Nat} (hi:Wz X C oi) (hj:∀ i,oi=some i->j<=i.dfs.length) (kp:aN X.K (.ref C)=true) (hg:Gl X x) (hm:X.mg x=some (.ref C)) (hdb:(x==("__debug__" : Str))=false) :
  QE X (.Call (.Name x p) [] [] pos) (dFn (mkC C oi j) Ae):=by
 intro Ex mt pins s σ H Q I h
 refine bS (Dz I hg hm ?_ hdb)
 exact fZ I.kIn kp (Uy (us:=[]) hi hj mt I .nil kp h)
theorem bf9 {C:Addr} {oi:Option FI} {j:Nat} {e:Expr} (hi:Wz X C oi) (hj:∀ i,oi=some i->j<=i.dfs.length) (kp:aN X.K (.ref C)=true) (hg:Gl X x) (hm:X.mg x=some (.ref C)) (ha:QA X (e::es) r) (hs:(e::es).all noStar=true) (hdb:(x==("__debug__" : Str))=false) :
  QE X (.Call (.Name x p) (e::es) [] pos) (dFn (mkC C oi j) r):=by
 intro Ex mt pins s σ H Q I h
 have h2:=bN▸hs
 rw [aA] at h2
 refine bS (Dz I hg hm ?_ hdb)
 refine dO (h₀:=X.base) I.ok.mod.kin kp (thn (ha Ex mt pos pins s σ H _ I h) fun us s1 ⟨vs,H1,I1,r,q⟩=>⟨I1.kIn,?_⟩) (As h2.1 es X.env) (A5 h2.2 X.env pos)
 exact Uy hi hj mt I1 r kp q
noncomputable def Bj (m:Str) (n:Nat) (l:List MI) (o:DE) (t:DA):DE:=fun σ H Q E=>o σ H (fun x H1=>∃ a dx fs mi,x=.ref a/\mi∈l/\H1 a=some (.ins mi.C dx fs)/\fs.lookup m=none/\(n+1<=mi.i.ps.length/\mi.i.ps.length<=n+1+mi.i.dfs.length) /\
 t σ H1 (fun vs H2=>spE mi.i.sp (mi.i.dfs.drop (n+1+mi.i.dfs.length - mi.i.ps.length)) (.ref a::vs) H2 Q E) E) E
theorem Jb {es:List Expr} {P:Value->aj->Prop} {s:aj} (h1:Bo o=true) (h2:es.all noStar=true) (h3:es.length<30) (h4:(apos.endLine==cpos.line)=true)
  (h:aJ (model X.prog X.w) X.A (eval o X.env) (fun ov s1=>∀ pl,aJ (model X.prog X.w) X.A (getMethod ov m pl) (fun fx s2=>aJ (model X.prog X.w) X.A (callWith cpos fx.1 fx.2 (jA cpos (cO es X.env)) (mL cpos (la [] X.env))) P X.xe s2) X.xe s1) X.xe s) :
  aJ (model X.prog X.w) X.A (eval (.Call (.Attribute o m apos) es [] cpos) X.env) P X.xe s:=by
 have few:methodCallForm (es.length+([]:List mk).length) (jA cpos (cO es X.env)) (mL cpos (la [] X.env))=true:=by
  unfold methodCallForm
  rw [G6 h2]
  simpa [mL,la] using h3
 rw [arm_eval_Call,Ct h1]
 refine af (thn h fun ov s1 h1=>af (fM ?_))
 unfold methodCall calleeOf
 rw [few,if_pos rfl]
 refine af (bw (thn (h1 _) fun fx s2 h2=>?_))
 have hp:methodCallPos true o X.env apos cpos=pure cpos:=by unfold methodCallPos;rw [h4];rfl
 rw [hp]
 exact af (ak h2)
theorem ap9 {l:List MI} (hl:∀ mi∈l,Cls X.K mi.C/\Bs X.K mi.C m mi.i.f/\D8 X mi.i) (ho:QE X o do') (h1:Bo o=true) (h4:(apos.endLine==cpos.line)=true) :
  QE X (.Call (.Attribute o m apos) [] [] cpos) (Bj m 0 l do' Ae):=by
 intro Ex mt pins s σ H Q I h
 refine Jb (es:=[]) h1 rfl (by decide) h4 (thn (ho Ex mt pins s σ H _ I h) fun u s1 ⟨x,H1,I1,rx,a,dx,fs,mi,ex,hm,ea,hf,hn,q⟩ pl=>?_)
 subst ex
 obtain rfl:u=aR a:=rx
 obtain⟨c,k,F⟩:=hl mi hm
 refine Ig I1 ea c k hf ?_
 exact fZ (first:=[.ref a]) I1.kIn k.kp (E1 (us:=[.ref a]) (vs:=[.ref a]) F (by omega) mt I1 (.cons rfl .nil) q)
theorem bg4 {l:List MI} {e:Expr} (hl:∀ mi∈l,Cls X.K mi.C/\Bs X.K mi.C m mi.i.f/\D8 X mi.i) (ho:QE X o do') (ha:QA X (e::es) r) (h1:Bo o=true) (h2:(e::es).all noStar=true) (h3:(e::es).length<30) (h4:(apos.endLine==cpos.line)=true) :
  QE X (.Call (.Attribute o m apos) (e::es) [] cpos) (Bj m (es.length+1) l do' r):=by
 intro Ex mt pins s σ H Q I h
 refine Jb h1 h2 h3 h4 (thn (ho Ex mt pins s σ H _ I h) fun u s1 ⟨x,H1,I1,rx,a,dx,fs,mi,ex,hm,ea,hf,hn,q⟩ pl=>?_)
 subst ex
 obtain rfl:u=aR a:=rx
 obtain⟨c,k,F⟩:=hl mi hm
 refine Ig I1 ea c k hf ?_
 have hs:=bN▸h2
 rw [aA] at hs
 refine dO (first:=[.ref a]) (h₀:=X.base) I.ok.mod.kin k.kp (thn (ha Ex mt cpos pins s1 σ H1 _ I1 q) fun us s2 ⟨vs,H2,I2,r2,q2⟩=>⟨I2.kIn,?_⟩) (As hs.1 es X.env) (A5 hs.2 X.env cpos)
 exact E1 (us:=.ref a::us) (vs:=.ref a::vs) F (by omega) mt I2 (.cons rfl r2) q2
theorem bf5 {C:Addr} {i:FI} {e:Expr} {x:Str} {p:Pos} (ho:QE X (.Name x p) (dC (.ref C))) (S:X4 X.K C i.f) (F:D8 X i) (hl:(e::es).length<=i.ps.length/\i.ps.length<=(e::es).length+i.dfs.length) (ha:QA X (e::es) r) (h1:Bo (.Name x p)=true) (h2:(e::es).all noStar=true) (h3:(e::es).length<30) (h4:(apos.endLine==cpos.line)=true) :
  QE X (.Call (.Attribute (.Name x p) "__init__" apos) (e::es) [] cpos) (dFn (spE i.sp (i.dfs.drop ((e::es).length+i.dfs.length - i.ps.length))) r):=by
 intro Ex mt pins s σ H Q I h
 refine Jb h1 h2 h3 h4 (thn (ho Ex mt pins s σ H (fun y H1=>y=.ref C/\H1=H) I ⟨rfl,rfl⟩) fun u s1 ⟨y,H1,I1,rx,ey,eH⟩ pl=>?_)
 subst ey eH
 obtain rfl:u=aR C:=rx
 refine PySem.W.method_cls I1.kIn S.ga (PySem.W.cls_value I1.kIn S.rd S.fc S.hh ?_)
 have I2:=I1.tok (s1.toks+1)
 have hs:=bN▸h2
 rw [aA] at hs
 refine dO (first:=[]) (h₀:=X.base) I.ok.mod.kin F.kp (thn (ha Ex mt cpos pins _ σ _ _ I2 h) fun us s2 ⟨vs,H2,I3,r2,q2⟩=>⟨I3.kIn,?_⟩) (As hs.1 es X.env) (A5 hs.2 X.env cpos)
 exact E1 (us:=us) (vs:=vs) F (by omega) mt I3 r2 q2
noncomputable def Hv:DE:=fun _ H Q _=>∀ p,H p=none->Q (.ref p) (upd H p (.dK []))\/Q (.ref p) (upd H p (.dT []))
theorem ap7:QE X (.Dict [] [] pos) Hv:=fun Ex mt pins s σ H Q I h=>by
 have fr:=I.hok.fresh (ah s.heap.objs.size)
 rcases h _ fr with q|q
 ·exact wpAny_Dict_empty ⟨.ref _,_,I.laid (a:=s.heap.objs.size) (o:=.dK []) (t':=s.toks) (fun _ _ q=>ag _ q) (ah _) (Yh s.heap I.big),rfl,q⟩
 ·exact wpAny_Dict_empty ⟨.ref _,_,I.laid (a:=s.heap.objs.size) (o:=.dT []) (t':=s.toks) (fun _ _ q=>ag _ q) (ah _) (Yk s.heap I.big),rfl,q⟩
theorem Wf {a:Expr} {da:DE} {p2 pos2:Pos} (hc:X.calm=true) (hg:Gl X "sorted") (hm:X.mg "sorted" = none) (hg2:Gl X "set") (hm2:X.mg "set" = none) (ha:QE X a da) (hs:noStar a=true) :
  QE X (.Call (.Name "sorted" p) [.Call (.Name "set" p2) [a] [] pos2] [] pos) (dUn (Hn X.K) da):=by
 intro Ex mt pins s σ H Q I h
 refine bS (Dy I hg hm Eb (gP (iE ?_) rfl rfl) (by decide) (by decide))
 refine bS (Dy I hg2 hm2 PyProof.Rows.boot_set (cH ?_ (As hs [] X.env) rfl) (by decide) (by decide))
 rw [As hs]
 show aJ _ _ (spliced ((false,eval a X.env)::jA pos2 (cO [] X.env))) _ _ s
 refine iE (thn (ha Ex mt pins s σ H _ I h) fun u s1 ⟨x,H1,I1,r1,q1⟩=>i4 ?_)
 exact thn (ae2 hc I1 r1 q1) fun v s2 q=>i4 q
end
end L2
set_option maxHeartbeats 1000000
namespace L2
open PySem PySem.Spec PyProof.Rows
noncomputable def Yf (K:ae) (m:Str) (l:List MI) (a o:DE):DE:=fun σ H Q E=>Aa a Ae σ H (fun xs H1=>o σ H1 (fun y H2=>∃ (p b dx:Addr) (fs:List (Str×V)) (mi:MI) (zs:List Str) (kf:Str->Int),xs=[.ref p]/\(SqL K H2 p (zs.map V.str) \/ ∃ kvs,Rd H2 p (.dK kvs)/\kvs.map (·.1)=zs.map fA)/\zs.Nodup/\zs.length<64/\y=.ref b/\mi∈l/\H2 b=some (.ins mi.C dx fs)/\fs.lookup m=none /\
 (∀ z∈zs,∀ H3,Same H2 H3->spE mi.i.sp [] [.ref b,.str z] H3 (fun v H4=>∃ q,v=.ref q/\Same H3 H4/\H4 q=some (.tup [.int (kf z),.str z])) (fun _ _=>False)) /\ ∀ H3 D,Same H2 H3->H2 D=none->H3 D=some (.lst ((Ak (ltK kf) zs).map V.str))->Q (.ref D) H3) E) E
section
variable {X:Cx} {a o:Expr} {da do':DE} {p ap kp pos:Pos} {m:Str}
theorem aq0 {l:List MI} (hc:X.calm=true) (hl:∀ mi∈l,ai0 X m mi) (hg:Gl X "sorted") (hm:X.mg "sorted" = none) (ha:QE X a da) (ho:QE X o do') (hs:noStar a=true) (h1:Bo o=true):QE X (.Call (.Name "sorted" p) [a] [⟨some "key", .Attribute o m ap,kp⟩] pos) (Yf X.K m l da do'):=by
 intro Ex mt pins s σ H Q I h
 have hA:QA X [a] (Aa da Ae):=Mm ha Q0 hs
 refine bS (Dy I hg hm Eb ?_ (by decide) (by decide))
 refine callWith_builtin_kwB (first:=[]) ?_ rfl ?_
 ·rw [As hs [] X.env];rfl
 have e0:cO [a] X.env=[(false,eval a X.env)]:=by rw [As hs [] X.env];rfl
 have hh:=hA Ex mt pos pins s σ H _ I h
 rw [e0] at hh ⊢
 refine af (thn hh fun us s1 ⟨vs,H1,I1,r1,q1⟩=>af (ak (bw ?_)))
 show aJ (model X.prog X.w) X.A (do
  let l <- evalAll [do let v <- eval (.Attribute o m ap) X.env;mS pos;pure v]
  let ps <- (pure us:Sem (List Value))
  pure (⟨ps,[("key" : Str)].zip l⟩:Args)) _ _ s1
 refine af (wpAny_evalAll_cons (af (Tm (Ct h1 _ X.env _) (thn (ho Ex mt pins s1 σ H1 _ I1 q1) fun ov s2 ⟨y,H2,I2,ry,q2⟩=>?_))))
 obtain⟨pp,b,dx,fs,mi,zs,kf,rfl,hp,nd,h64,rfl,hm,eb,hf,hk,q⟩:=q2
 cases ry
 obtain⟨u,rfl,ru⟩:=Dv r1
 cases ru
 have K:=hl mi hm
 refine Vt I2 eb K.c K.k K.sg K.tk K.cn hf fun s3 g3 l3 I3=>?_
 refine af (fM (ak (wpAny_evalAll_nil (af (ak (ak ?_))))))
 exact as3 hc K I3 g3 (I2.fpOk (ah _) (I2.hok.fresh (ah _))) hp nd h64 hk q
end
end L2
set_option maxHeartbeats 4000000
namespace L2
open PySem PySem.Spec PyProof.Rows
noncomputable def ah9 (lo st:Int) (n:Nat):It:=⟨fun i _=>i<n,fun i H x H'=>H'=H/\x=.int (lo+(i:Int) * st),fun i _=>n<=i⟩
theorem Wt {P:aI} {w:bp} {K:ae} {tg:Expr} (it:Addr) (lo st:Int) (n:Nat):Ka P w K tg (ah9 lo st n) [it] it (fun i h=>kL h it (lo+(i:Nat) * st) ((n:Int) - (i:Nat)) st) where
 mem:=List.mem_singleton.mpr rfl
 obj:=fun i h q b hb=>by
  obtain rfl:=List.mem_singleton.mp hb
  exact⟨_,q,fun v z=>by cases (show Data.fields _=Data.cell v from z)⟩
 keep:=fun i h h' q k=>k it (List.mem_singleton.mpr rfl) _ q
 item:=by
  intro X hP hw hK hc i pins s σ H E I hf q go
  subst hP hw hK
  obtain⟨g0,g1,_,g3,g4,g5⟩:=hf it (List.mem_singleton.mpr rfl)
  refine bI (ah _) ((Walks.range (prog:=X.prog) (w:=X.w) (I.ok.hd hc) it lo st n).item i s _ _ go q fun v h' tk hv q' kk htk=>?_)
  obtain⟨t,rfl⟩:=hv
  have I1:Inv X pins σ H { s with heap:=h',toks:=tk }:=I.turned (fun b o nb e=>kk b o (fun z=>nb (List.mem_singleton.mp z)) e) g0 g1 g3 g4 g5
  exact⟨_,rfl,Ih (s:={ s with heap:=h',toks:=tk }) (n := "range_iterator") q' rfl rfl (by decide) ⟨.int (lo+(i:Int) * st),H,I1,⟨t,rfl⟩,⟨rfl,rfl⟩,q',fun b hb=>(hf b hb).1⟩⟩
 done:=by
  intro X hP hw hK hc i pins s σ H E I hf q go
  subst hP hw hK
  obtain⟨g0,g1,_,g3,g4,g5⟩:=hf it (List.mem_singleton.mpr rfl)
  exact jP (I.ok.hd hc) q (by have:n<=i:=go;omega) fun h' eb=>⟨rfl,I.turned (t':=s.toks) (fun b o nb e=>eb b o nb e) g0 g1 g3 g4 g5⟩
 self:=fun _ _ _ _ _ q h=>jO q h
section
variable {X:Cx} {tg:Expr}
theorem as4 {pins:List (Addr×Obj)} {σ:St} {H:Hp} {s:aj} {R:It->Hp->Prop} {E:Value->aj->Prop} {lo hi st:Int} {t u v:Tok} {tk:Nat} (I:Inv X pins σ H s) (htk:s.toks<=tk) (sm:fX lo hi st=true)
  (q:R (ah9 lo st (bJ lo hi st).toNat) H):aJ (model X.prog X.w) X.A (mF (.ref s.heap.objs.size)) (PIE X pins σ tg R) E { s with heap:=s.heap.push { cls:=.type "range", data:=.fields #[.int lo t,.int hi u,.int st v] },toks:=tk }:=by
 refine lN (IsRange.new ..) sm ?_
 have I1:Inv X pins σ H { s with heap:=s.heap.push { cls:=.type "range", data:=.fields #[.int lo t,.int hi u,.int st v] },toks:=tk }:=I.kept fun b o e=>ag _ e
 generalize s.heap.push { cls:=.type "range", data:=.fields #[.int lo t,.int hi u,.int st v] }=h1 at I1 ⊢
 refine⟨h1.objs.size,[h1.objs.size],_,_,H,rfl,I1.kept (t':=tk) fun b o e=>ag _ e,Wt _ lo st (bJ lo hi st).toNat,?_,fun b hb=>?_,q⟩
 ·have e:lo+((0:Nat):Int) * st=lo:=by rw [Int.natCast_zero,Int.zero_mul,Int.add_zero]
  have f:(((bJ lo hi st).toNat:Nat):Int) - ((0:Nat):Int)=bJ lo hi st:=by
   rw [<- rangeSize_toNat,Int.natCast_zero,Int.sub_zero]
  show kL _ _ (lo+((0:Nat):Int) * st) ((((bJ lo hi st).toNat:Nat):Int) - ((0:Nat):Int)) st
  rw [e,f]
  exact aw _ rfl
 ·obtain rfl:=List.mem_singleton.mp hb
  exact I1.fpOk (ah _) (I1.hok.fresh (ah _))
end
noncomputable def QI (X:Cx) (tg e:Expr) (t:DI):Prop:=∀ Ex,Meets X Ex->PI X tg e (fun σ H R=>t σ H R (Ex σ))
noncomputable def iNo:DI:=fun _ _ _ _=>False
noncomputable def onD (p:Addr) (H:Hp) (R:Obj->List (Key×V)->Hp->Prop):Prop:=(∃ kvs,H p=some (.dK kvs) /\ ∀ o,R o kvs (upd H p (.frz o (.dK kvs)))) \/ ∃ o kvs,H p=some (.frz o (.dK kvs))/\R o kvs H
theorem Zm {X:Cx} {pins:List (Addr×Obj)} {σ:St} {H:Hp} {s:aj} {p:Addr} {R:Obj->List (Key×V)->Hp->Prop} (I:Inv X pins σ H s) (h:onD p H R):∃ o kvs H',Inv X pins σ H' s/\H' p=some (.frz o (.dK kvs))/\R o kvs H':=by
 rcases h with ⟨kvs,e,q⟩|⟨o,kvs,e,q⟩
 ·obtain⟨o,ep,_,_,I'⟩:=I.froze e
  exact⟨o,kvs,_,I',Ad,q o⟩
 ·exact⟨o,kvs,H,I,e,q⟩
noncomputable def Dd (K:ae) (a:DE):DI:=fun σ H R E=>a σ H (fun x H1=>match x with
 | .str z=>R (Its z) H1
 | .ref p=>((∃ xs,SqL K H1 p xs)/\R (Itl K p) H1)\/((∃ xs,SqT K H1 p xs)/\R (Itt K p) H1)\/onD p H1 fun o kvs H2=>R (Itd p o kvs) H2
 | _=>False) E
noncomputable def Ke (t:DA):DI:=fun σ H R E=>t σ H (fun vs H1=>match vs with
 | [.int j]=>(-(2 ^ 62)<=j/\j<2 ^ 62)/\R (Itr 0 j.toNat) H1
 | [.int i,.int j]=>(-(2 ^ 62)<=i/\i<2 ^ 62 /\ -(2 ^ 62)<=j/\j<2 ^ 62)/\R (Itr i (j - i).toNat) H1
 | [.int i,.int j,.int k]=>(fX i j k=true/\1<=k/\k<=1000)/\R (ah9 i k (bJ i j k).toNat) H1
 | _=>False) E
noncomputable def iZp (K:ae) (t:DA):DI:=fun σ H R E=>t σ H (fun vs H1=>match vs with
 | [.ref a,.ref b]=>(∃ xs,SqL K H1 a xs)/\(∃ ys,SqL K H1 b ys)/\R (Itz K a b) H1
 | _=>False) E
section
variable {X:Cx} {tg e a b:Expr} {da:DE} {r:DA} {p pos:Pos}
theorem ay4:QI X tg e iNo:=fun _ _ _ _ _ _ _ _ h=>h.elim
theorem aa7 (ha:QE X e da):QI X tg e (Dd X.K da):=by
 intro Ex mt pins s σ H R I h
 refine thn (ha Ex mt pins s σ H _ I h) fun v s1 ⟨x,H1,I1,r1,q1⟩=>?_
 cases x with
 | str z=>
  obtain⟨t,rfl⟩:=r1
  refine wpAny_pyIter_strU ?_
  refine⟨s1.heap.objs.size,[s1.heap.objs.size],_,_,H1,rfl,I1.kept (t':=s1.toks) fun b o e=>ag _ e,ag7 s1.heap.objs.size z t (strIterType z) (by unfold strIterType;split <;> simp),⟨_,aw _ rfl,rfl,rfl⟩,fun b hb=>?_,q1⟩
  have e:b=s1.heap.objs.size:=by simpa using hb
  subst e
  exact I1.fpOk (ah _) (I1.hok.fresh (ah _))
 | ref a=>
  cases r1
  rcases q1 with ⟨⟨xs,hq⟩,q⟩|⟨⟨xs,hq⟩,q⟩|q
  ·obtain⟨its,rv,p,hz⟩:=I1.list hq
   refine wpAny_pyIter_list p.isList ?_
   refine⟨s1.heap.objs.size,[s1.heap.objs.size],_,_,H1,rfl,I1.kept (t':=s1.toks) fun b o e=>ag _ e,Ws a _,⟨_,aw _ rfl,rfl,rfl⟩,fun b hb=>?_,q⟩
   have e:b=s1.heap.objs.size:=by simpa using hb
   subst e
   exact I1.fpOk (ah _) (I1.hok.fresh (ah _))
  ·obtain⟨its,rv,p,hz⟩:=I1.tuple hq
   refine wpAny_pyIter_tuple (show s1.heap.IsTuple a its.toArray from p) ?_
   refine⟨s1.heap.objs.size,[s1.heap.objs.size],_,_,H1,rfl,I1.kept (t':=s1.toks) fun b o e=>ag _ e,Sv a _,⟨_,aw _ rfl,rfl,rfl⟩,fun b hb=>?_,q⟩
   have e:b=s1.heap.objs.size:=by simpa using hb
   subst e
   exact I1.fpOk (ah _) (I1.hok.fresh (ah _))
  ·obtain⟨o,kvs,H2,I2,e,q⟩:=Zm I1 q
   exact ak1 I2 e q
 | _=>exact (show False from q1).elim
variable {es:List Expr}
theorem aa6 (hg:Gl X "range") (hm:X.mg "range" = none) (ha:QA X (a::es) r) (hs:(a::es).all noStar=true):QI X tg (.Call (.Name "range" p) (a::es) [] pos) (Ke r):=by
 intro Ex mt pins s σ H R I h
 have h2:=bN▸hs
 rw [aA] at h2
 refine Call_ (Dy I hg hm boot_range (cH (thn (ha Ex mt pos pins s σ H _ I h) fun us s1 ⟨vs,H1,I1,r1,q1⟩=>?_) (As h2.1 es X.env) (A5 h2.2 X.env pos)))
 dsimp only at q1
 split at q1
 ·obtain⟨⟨h1,h2⟩,q⟩:=q1
  obtain⟨u,rfl,t,rfl⟩:=Dv r1
  exact call_range_1 (O9 I1 (by first|exact ah _|exact ba _ _|omega|(dsimp only;omega)) (by omega) (by omega) h1 h2 (by simpa using q))
 ·obtain⟨⟨h1,h2,h3,h4⟩,q⟩:=q1
  obtain⟨u,v,rfl,⟨t,rfl⟩,⟨t',rfl⟩⟩:=ah1 r1
  exact call_range_2 (O9 I1 (by first|exact ah _|exact ba _ _|omega|(dsimp only;omega)) h1 h2 h3 h4 q)
 ·obtain⟨⟨h1,h2,h3⟩,q⟩:=q1
  cases r1 with
  | cons ra rr=>cases rr with
   | cons rb rr=>cases rr with
    | cons rc rr=>
     cases rr
     obtain⟨t,rfl⟩:=ra
     obtain⟨t',rfl⟩:=rb
     obtain⟨t2,rfl⟩:=rc
     exact call_range_3 (by omega) (as4 I1 (by first|exact ah _|exact ba _ _|omega|(dsimp only;omega)) h1 q) (.inl (jL (by omega)))
 ·exact q1.elim
theorem bg8 {elts:List Expr} {kt:Nat} {pt:Pos} (hg:Gl X "zip") (hm:X.mg "zip" = none) (ha:QA X (a::es) r) (hs:(a::es).all noStar=true):QI X (.Tuple elts kt pt) (.Call (.Name "zip" p) (a::es) [] pos) (iZp X.K r):=by
 intro Ex mt pins s σ H R I h
 have hh:=bN▸hs
 rw [aA] at hh
 refine Call_ (Dy I hg hm boot_zip (cH (thn (ha Ex mt pos pins s σ H _ I h) fun us s1 ⟨vs,H1,I1,r1,q1⟩=>?_) (As hh.1 es X.env) (A5 hh.2 X.env pos)))
 dsimp only at q1
 split at q1
 ·rename_i l1 l2
  obtain⟨⟨xs,q1⟩,⟨ys,q2⟩,q⟩:=q1
  obtain⟨u,v,rfl,ru,rv⟩:=r1.two
  cases ru
  cases rv
  obtain⟨its1,t1,p1,z1⟩:=I1.list q1
  obtain⟨its2,t2,p2,z2⟩:=I1.list q2
  refine call_zip_2 p1.isList p2.isList fun h' hz hTI hTO hi1 hi2 hsz hk=>?_
  refine wpAny_pyIter_zip hz ?_
  have a1:l1<s1.heap.objs.size:=by obtain⟨_,e,_⟩:=p1.isList;exact aF e
  have a2:l2<s1.heap.objs.size:=by obtain⟨_,e,_⟩:=p2.isList;exact aF e
  refine⟨_,_,_,_,H1,rfl,I1.kept (t':=s1.toks) hk,ag8 (PyProof.Rows.zipApart_new a1 a2),⟨hz,hTI,⟨_,_,hTO⟩,hi1,hi2⟩,fun b hb=>?_,q⟩
  have hb:b=s1.heap.objs.size+4\/b=s1.heap.objs.size+2\/b=s1.heap.objs.size+3\/b=s1.heap.objs.size\/b=s1.heap.objs.size+1:=by simpa using hb
  have le:s1.heap.objs.size<=b:=by
   rcases hb with e|e|e|e|e
   ·rw [e];exact ba _ 4
   ·rw [e];exact ba _ 2
   ·rw [e];exact ba _ 3
   ·rw [e];exact ah _
   ·rw [e];exact ba _ 1
  exact I1.fpOk le (I1.hok.fresh le)
 ·exact q1.elim
noncomputable def gNo:DG:=fun _ _ _ _=>False
noncomputable def gdS:List DG->List V->St->Hp->(St->Hp->Prop)->Prop
 | [],[],σ,H,Q=>Q σ H
 | g::gs,v::vs,σ,H,Q=>g v σ H fun σ' H'=>gdS gs vs σ' H' Q
 | _,_,_,_,_=>False
noncomputable def gdT (K:ae) (n:Nat) (gs:List DG):DG:=fun v σ H Q=>match v with
 | .ref a=>∃ xs,SqT K H a xs/\xs.length=n/\gdS gs xs σ H Q
 | _=>False
theorem O3:PG X tg gNo:=fun _ _ _ _ _ _ _ _ _ h=>h.elim
theorem by6:PGs X [] (gdS []):=by
 intro pins s σ H vs us Q I r h
 cases vs with
 | nil=>exact ao4 pins s σ H [] us Q I r ⟨rfl,h⟩
 | cons v vs=>exact (show False from h).elim
theorem by5 {g:DG} {gs:List DG} {ts:List Expr} (h1:PG X tg g) (h2:PGs X ts (gdS gs)) (hs:(dy (tg::ts) X.env).map (·.2)=lW tg X.env::(dy ts X.env).map (·.2)):PGs X (tg::ts) (gdS (g::gs)):=by
 intro pins s σ H vs us Q I r h
 cases vs with
 | nil=>exact (show False from h).elim
 | cons v vs=>exact Zq h1 h2 hs pins s σ H (v::vs) us Q I r ⟨v,vs,rfl,h⟩
theorem ca2 {ts:List Expr} {k n:Nat} {gs:List DG} (hc:X.calm=true) (h:PGs X ts (gdS gs)) (hn:(dy ts X.env).length=n) (hst:(dy ts X.env).findIdx? (·.1)=none):PG X (.Tuple ts k pos) (gdT X.K n gs):=by
 intro pins s σ H v u Q I r hw
 cases v with
 | ref a=>exact be1 hc h hn hst pins s σ H _ u Q I r (let ⟨xs,h1,h2,h3⟩:=hw;⟨a,xs,rfl,h1,h2,h3⟩)
 | _=>exact (show False from hw).elim
end
end L2
set_option maxHeartbeats 1000000
namespace L2
open PySem PySem.Spec PyProof.Rows
noncomputable def Nf (K:ae) (a:Addr) (n:Nat):It:=
 ⟨fun i H=>i<n /\ ∃ xs,SqL K H a xs/\xs.length=n,fun i H x H'=>H'=H /\ ∀ xs,SqL K H a xs->xs[n - 1 - i]? = some x,fun i _=>n<=i⟩
theorem ag6 {P:aI} {w:bp} {K:ae} {tg:Expr} (a it:Addr) (n:Nat):Ka P w K tg (Nf K a n) [it] it (fun i h=>i<=n/\h.IsRevIter it a ((n:Int) - 1 - (i:Int))) where
 mem:=by simp
 obj:=fun i h st b hb=>by
  have e:b=it:=by simpa using hb
  subst e
  obtain⟨_,o,e,c,d⟩:=st
  exact⟨o,e,fun v z=>by rw [d] at z;cases z⟩
 keep:=fun i h h' st k=>⟨st.1,by
  obtain⟨_,o,e,c,d⟩:=st
  exact⟨o,k it (by simp) o e,c,d⟩⟩
 item:=by
  intro X hP hw hK hc i pins s σ H E I hf st hg
  subst hP hw hK
  obtain⟨hi,xs,hq,hl⟩:=hg
  obtain⟨its,rv,p,hz⟩:=I.list hq
  have hx:xs[n - 1 - i]? = some (xs[n - 1 - i]'(by omega)):=am _
  obtain⟨u,hu,ru⟩:=rv.get hx
  obtain⟨f0,f1,f2,f3,f4,f5⟩:=hf it (by simp)
  have e0:(n:Int) - 1 - (i:Int)=((n - 1 - i:Nat):Int):=by omega
  have st2:=st.2
  rw [e0] at st2
  refine wpAny_pyNext_rev_item st2 p.isList (x:=u) (by simpa using hu) fun h' st' sb=>?_
  have I1:Inv X pins σ H { s with heap:=h' }:=I.turned (t':=s.toks) (fun b o hb e=>(sb.2 b hb).trans e) f0 f1 f3 f4 f5
  obtain⟨o,e,c,d⟩:=id st'
  refine⟨u,rfl,Ih (s:={ s with heap:=h' }) e c d (by decide) ⟨_,H,I1,ru,⟨rfl,fun ys hy=>by rw [I.list_inj hy hq];exact hx⟩,⟨hi,?_⟩,fun b hb=>(hf b hb).1⟩⟩
  rw [show (n:Int) - 1 - ((i+1:Nat):Int)=((n - 1 - i:Nat):Int) - 1 by omega]
  exact st'
 done:=by
  intro X hP hw hK hc i pins s σ H E I hf st hg
  subst hP hw hK
  obtain⟨f0,f1,f2,f3,f4,f5⟩:=hf it (by simp)
  have hg:n<=i:=hg
  have st2:=st.2
  rw [show (n:Int) - 1 - (i:Int) = -1 by have:=st.1;omega] at st2
  exact wpAny_pyNext_rev_end (I.ok.hd hc) st2 fun h' eb=>⟨rfl,I.turned (t':=s.toks) (fun b o hb e=>eb b o hb e) f0 f1 f3 f4 f5⟩
 self:=fun _ _ _ _ _ st h=>kC st.2 h
noncomputable def al1 (K:ae) (a:DE):DI:=fun σ H R E=>a σ H (fun x H1=>match x with
 | .ref p=>∃ xs,SqL K H1 p xs/\R (Nf K p xs.length) H1
 | _=>False) E
theorem X6:cS "reversed" = some (.type "reversed"):=by decide +kernel
theorem bg7 {X:Cx} {tg a:Expr} {da:DE} {p pos:Pos} (hg:Gl X "reversed") (hm:X.mg "reversed" = none) (ha:QE X a da) (hs:noStar a=true):QI X tg (.Call (.Name "reversed" p) [a] [] pos) (al1 X.K da):=by
 intro Ex mt pins s σ H R I h
 have hA:QA X [a] (Aa da Ae):=Mm ha Q0 hs
 refine Call_ (Dy I hg hm X6 (cH (thn (hA Ex mt pos pins s σ H (fun vs H1=>∃ x,vs=[x]/\(match x with | .ref p=>∃ xs,SqL X.K H1 p xs/\R (Nf X.K p xs.length) H1|_=>False)) I ?_) fun us s1 ⟨vs,H1,I1,r1,q1⟩=>?_) (As hs [] X.env) rfl))
 ·have h2:da σ H (fun x H1=>∃ y,[x]=[y]/\(match y with | .ref p=>∃ xs,SqL X.K H1 p xs/\R (Nf X.K p xs.length) H1|_=>False)) (Ex σ):=by
   have e:(fun (x:V) (H1:Hp)=>∃ y,[x]=[y]/\(match y with | .ref p=>∃ xs,SqL X.K H1 p xs/\R (Nf X.K p xs.length) H1|_=>False))=fun x H1=>(match x with | .ref p=>∃ xs,SqL X.K H1 p xs/\R (Nf X.K p xs.length) H1|_=>False):=by
    funext x H1
    apply propext
    constructor
    ·rintro⟨y,e,h⟩
     cases e
     exact h
    ·exact fun h=>⟨x,rfl,h⟩
   rw [e]
   exact h
  exact h2
 ·obtain⟨x,rfl,q⟩:=q1
  obtain⟨u,rfl,ru⟩:=Dv r1
  cases x with
  | ref l=>
   cases ru
   obtain⟨xs,hq,q⟩:=q
   obtain⟨its,rv,pl,hz⟩:=I1.list hq
   refine call_reversed_list pl.isList ?_
   have e:((its.toArray.size:Nat):Int) - 1=(xs.length:Int) - 1 - ((0:Nat):Int):=by rw [ao,rv.length];omega
   rw [e]
   have st:(s1.heap.push (revObj l ((xs.length:Int) - 1 - ((0:Nat):Int)))).IsRevIter s1.heap.objs.size l ((xs.length:Int) - 1 - ((0:Nat):Int)):=⟨_,aw _ rfl,rfl,rfl⟩
   refine kC st ?_
   refine⟨s1.heap.objs.size,[s1.heap.objs.size],_,_,H1,rfl,I1.kept (t':=s1.toks) fun b o e=>ag _ e,ag6 l s1.heap.objs.size xs.length,⟨bA _,st⟩,fun b hb=>?_,q⟩
   have e:b=s1.heap.objs.size:=by simpa using hb
   subst e
   exact I1.fpOk (ah _) (I1.hok.fresh (ah _))
  | _=>exact (show False from q).elim
noncomputable def a29 (p:Addr) (o:Obj) (kvs:List (Key×V)):It:=
  ⟨fun i H=>H p=some (.frz o (.dK kvs))/\i<kvs.length,
   fun i H x H'=>∃ T k v,H T=none/\x=.ref T/\kvs[i]? = some (k,v)/\H'=upd H T (.tup [kV k,v]),
   fun i H=>H p=some (.frz o (.dK kvs))/\kvs.length<=i⟩
theorem Sr {P:aI} {w:bp} {K:ae} {elts:List Expr} {kt:Nat} {pt:Pos} {it p:Addr} {o:Obj} {kvs:List (Key×V)} {ep:Nat} (he:Va o ep) :
  Ka P w K (.Tuple elts kt pt) (a29 p o kvs) [it] it (fun i h=>∃ ok ov,IsItemIter h it p i kvs.length ep ok ov) where
 mem:=by simp
 obj:=fun i h st b hb=>by
  obtain⟨ok,ov,e⟩:=st
  rw [List.mem_singleton.mp hb]
  exact⟨_,e,fun v q=>nomatch q⟩
 keep:=fun i h h' st k=>let ⟨ok,ov,e⟩:=st;⟨ok,ov,k it (by simp) _ e⟩
 item:=by
  intro X hP hw hK hc i pins s σ H E I hf st hg
  subst hP hw hK
  obtain⟨hH,hi⟩:=hg
  obtain⟨vs,rel,hd,hm⟩:=I.kdict hH he
  obtain⟨⟨k,v⟩,hx⟩:∃ q,kvs[i]? = some q:=⟨kvs[i],by simp [hi]⟩
  obtain⟨u,hu,ru⟩:=Y4 rel hx
  have hl:kvs.length=vs.length:=rel.length
  obtain⟨ok,ov,st⟩:=st
  rw [hl] at st
  refine wpAny_pyNext_items_item st hd hu fun key h' hk out tup hz hk'=>?_
  refine⟨_,rfl,wpAny_letOwnedTupleGo_items out fun h'' hi' hs'=>?_⟩
  have hT:=I.hok.fresh (ah s.heap.objs.size)
  have nT:∀ {b ob},s.heap.get? b=some ob->b≠s.heap.objs.size:=fun q=>aH (aF q)
  have up:∀ b ob,b∉[it]->s.heap.get? b=some ob->h''.get? b=some ob:=fun b ob hb q=>by
   have b1:b≠it:=by rintro rfl;exact hb (by simp)
   exact hs'.extBut b ob b1 (hk' b ob b1 q)
  have Tnew:h''.get? s.heap.objs.size=some { cls:=.type "tuple", data:=.seq #[key,u] }:=hs'.extBut _ _ (bZ (nT st)) tup
  have I1:Inv X pins σ (upd H s.heap.objs.size (.tup [kV k,v])) { s with heap:=h'' }:=
   I.turnedN (t':=s.toks) (ch:=[it]) (fun b hb=>hf b hb) up (ah _) ⟨by show 2<=sizeLine;decide,[key,u],.cons (ax2 hk) (.cons ru .nil),⟨_,Tnew,rfl,_,rfl⟩⟩
  refine⟨.ref s.heap.objs.size,_,I1,rfl,⟨s.heap.objs.size,k,v,hT,rfl,hx,rfl⟩,⟨_,_,by rw [hl];exact hi'⟩,fun b hb=>?_⟩
  have q:=(hf b hb).1
  rw [Ah ?_]
  ·exact q
  ·rw [List.mem_singleton.mp hb];exact nT st
 done:=by
  intro X hP hw hK hc i pins s σ H E I hf st hg
  subst hP hw hK
  obtain⟨hH,hi⟩:=hg
  obtain⟨vs,rel,hd,hm⟩:=I.kdict hH he
  have hl:kvs.length=vs.length:=rel.length
  obtain⟨ok,ov,st⟩:=st
  rw [hl] at st
  obtain⟨f0,f1,f2,f3,f4,f5⟩:=hf it (by simp)
  exact wpAny_pyNext_items_end (I.ok.hd hc) st hd (by simp;omega) fun h' eb=>⟨rfl,I.turned (t':=s.toks) (fun b o hb e=>eb b o hb e) f0 f1 f3 f4 f5⟩
 self:=fun A i s Q E st h=>by
  obtain⟨ok,ov,e⟩:=st
  have hT:s.TypeIs (.ref it) "dict_itemiterator" := ⟨_,e,rfl⟩
  refine jh hT fY (c6 fY hT PySem.W.kcp_entry ?_ (PySem.F.args_dict_itemiterator_iter_1 _))
  show aJ _ _ (ret (.ref it)) _ _ s
  exact ak ⟨_,rfl, "dict_itemiterator", _,hT,PySem.F.slot_dict_itemiterator_next.lookup,h⟩
noncomputable def a68 (a:DE):DI:=fun σ H R E=>a σ H (fun x H1=>match x with
 | .ref p=>onD p H1 fun o kvs H2=>R (a29 p o kvs) H2
 | _=>False) E
theorem aa4 {X:Cx} {elts:List Expr} {kt:Nat} {pt ap cp:Pos} {o:Expr} {do':DE} (ho:QE X o do') (h1:Bo o=true) (h4:(ap.endLine==cp.line)=true):QI X (.Tuple elts kt pt) (.Call (.Attribute o "items" ap) [] [] cp) (a68 do'):=by
 intro Ex mt pins s σ H R I h
 refine ju (Ct h1 "items" X.env _) h4 (thn (ho Ex mt pins s σ H _ I h) fun v s1 ⟨x,H1,I1,r1,q1⟩=>?_)
 cases x with
 | ref p=>
  cases r1
  obtain⟨o,kvs,H2,I2,e,q⟩:=Zm I1 q1
  have he:∃ ep,Va o ep:=by
   obtain⟨e1,z,y,vs,r,ob,es,ep,e,c,d,_⟩:=I2.hok p _ e
   rw [e1] at e;cases e
   exact⟨ep,es,d⟩
  obtain⟨ep,he⟩:=he
  obtain⟨vs,rel,hd,hm⟩:=I2.kdict e he
  obtain⟨_,lo,vs',rel',dof⟩:=Di I2.hok (.inr ⟨o,e⟩)
  obtain⟨ob,es,ep',e',c,_⟩:=id dof
  refine⟨"dict", "dict.items", eR,jo,PySem.F.type_dict_items,dof.typeIs,fun a' e2=>?_,gC rfl (kU ?_)⟩
  ·cases e2;exact⟨ob,e',c.2.1⟩
  ·refine fB jo dof.typeIs PySem.F.entry_dict_items (PySem.F.args_dict_items_1 _) (meets_dict_items _ p lo) ⟨⟨vs',dof⟩,?_⟩
   have k1:∀ b o,s1.heap.get? b=some o->(s1.heap.push { cls:=.type "dict_items", data:=.fields #[.ref p] }).get? b=some o:=fun b o q=>ag _ q
   have z1:(s1.heap.push { cls:=.type "dict_items", data:=.fields #[.ref p] }).objs.size=s1.heap.objs.size+1:=cB ..
   have view:(s1.heap.push { cls:=.type "dict_items", data:=.fields #[.ref p] }).get? s1.heap.objs.size=some { cls:=.type "dict_items", data:=.fields #[.ref p] }:=aw _ rfl
   generalize s1.heap.push { cls:=.type "dict_items", data:=.fields #[.ref p] }=h1 at k1 z1 view ⊢
   refine wpAny_pyIter_items (s:={ s1 with heap:=h1 }) ⟨_,view,rfl,rfl⟩ (hd.keep k1) ?_
   have le:s1.heap.objs.size<=h1.objs.size:=by rw [z1];exact cq _
   refine⟨h1.objs.size,[h1.objs.size],_,_,H2,rfl,I2.kept (t':=s1.toks) fun b o e=>ag _ (k1 b o e),Sr he,⟨_,_,by rw [rel.length];exact aw _ rfl⟩,fun b hb=>?_,q⟩
   have eb:b=h1.objs.size:=by simpa using hb
   subst eb
   exact I2.fpOk le (I2.hok.fresh le)
 | _=>exact (show False from q1).elim
end L2
set_option maxHeartbeats 4000000
namespace L2
open PySem PySem.Spec PyProof.Rows
noncomputable def Co (cs:List (Str×Addr)):List (Str×cu)->List (Str×Addr)->List (Str×Addr)
 | [],acc=>acc
 | (n,k)::r,acc=>if k==.free then Co cs r ((n,(cs.lookup n).getD 0)::acc) else Co cs r acc
theorem Kc {scope:Scope} {env:Env} (h:∀ y∈scope.names,y.2=.free -> ∃ c,env.cells.lookup y.1=some c):closureFor scope env=pure (Co env.cells scope.names []):=by
 unfold closureFor
 generalize scope.names=names at h
 suffices ∀ acc,(forIn names acc fun (x:Str×cu) cs=>do
   if (x.2==.free)=true then do
    let c <- cellOf env x.1
    pure (fq ((x.1,c)::cs))
   else pure (fq cs):Sem (List (Str×Addr)))=pure (Co env.cells names acc) by
  have:=this []
  simp only [bind_pure]
  exact this
 induction names with
 | nil=>intro acc;rfl
 | cons y r ih=>
  intro acc
  obtain⟨n,k⟩:=y
  rw [List.forIn_cons]
  unfold Co
  by_cases e:(k==eP)=true
  ·obtain⟨c,hc⟩:=h (n,k) (by simp) (cI e)
   have ec:cellOf env n=pure c:=by
    unfold cellOf
    rw [show env.cells.lookup n=some c from hc]
   simp only [e,if_true,ec,pure_bind]
   rw [ih (fun y hy=>h y (aC _ hy))]
   rw [show env.cells.lookup n=some c from hc]
   rfl
  ·have e':(k==eP)=false:=by simpa using e
   simp only [e',cC,if_false,pure_bind]
   rw [ih (fun y hy=>h y (aC _ hy))]
theorem Gk {cs:List (Str×Addr)}:∀ {names:List (Str×cu)} {acc:List (Str×Addr)} {p:Str×Addr},p∈Co cs names acc->p∈acc\/((p.1,eP)∈names/\p.2=(cs.lookup p.1).getD 0)
 | [],_,_,h=>.inl h
 | (n,k)::r,acc,p,h=>by
  unfold Co at h
  by_cases e:(k==eP)=true
  ·rw [if_pos e] at h
   rcases Gk h with h|⟨h1,h2⟩
   ·rcases List.mem_cons.mp h with h|h
    ·subst h
     exact .inr ⟨by rw [cI e];simp,rfl⟩
    ·exact .inl h
   ·exact .inr ⟨aC _ h1,h2⟩
  ·rw [if_neg e] at h
   rcases Gk h with h|⟨h1,h2⟩
   ·exact .inl h
   ·exact .inr ⟨aC _ h1,h2⟩
theorem Gj {cs:List (Str×Addr)}:∀ {names:List (Str×cu)} {acc:List (Str×Addr)} {p:Str×Addr},p∈acc->p∈Co cs names acc
 | [],_,_,h=>h
 | (n,k)::r,acc,p,h=>by
  unfold Co
  split
  ·exact Gj (aC _ h)
  ·exact Gj h
theorem Kr {cs:List (Str×Addr)}:∀ {names:List (Str×cu)} {acc:List (Str×Addr)} {n:Str},(n,eP)∈names->n∈(Co cs names acc).map (·.1)
 | [],_,_,h=>by cases h
 | (m,k)::r,acc,n,h=>by
  unfold Co
  rcases List.mem_cons.mp h with e|h
  ·cases e
   rw [if_pos (show (eP==eP)=true from rfl)]
   exact List.mem_map.mpr ⟨_,Gj (bv),rfl⟩
  ·split <;> exact Kr h
noncomputable def Pa (sc:List (Str×cu)) (names:List (Str×cu)):List (Str×cu):=names.map fun (n,k)=>if (k==.free&&sc.lookup n==some .cell) then (n,.cell) else (n,k)
noncomputable def Ov (names:List (Str×cu)):List Str:=(names.filter fun y=>(y.2==.local) && !(y.1==(".0" : Str))).map (·.1)
noncomputable def Qf (names:List (Str×cu)):List Str:=(names.filter fun y=>y.2==.free).map (·.1)
noncomputable def cfV (o:Option cu):Bool:=o==some .cell||o==some .free
noncomputable def Cp (G:Sg) (names:List (Str×cu)):Sg:={ G with N:=Ov names++Qf names,sc:=Pa G.sc names,top:=false }
noncomputable def Es (G:Sg) (names:List (Str×cu)):List (Option Nat):=(Ov names).map (fun _=>none)++(Qf names).map (fun x=>C2 G.N x 0)
noncomputable def Ec (G:Sg) (sc:Scope):Bool:=
 (sc.names.all fun y=>!(y.2==.cell))&&(sc.names.all fun y=>!(y.2==.local)||(sc.names.lookup y.1==some .local))&&(sc.kind==.function) &&
 decide (Ov sc.names++Qf sc.names).Nodup&&((Qf sc.names).all fun x=>(C2 G.N x 0).isSome&&cfV (G.sc.lookup x)&&cfV ((Pa G.sc sc.names).lookup x)) &&
 ((Ov sc.names).all fun x=>(Pa G.sc sc.names).lookup x==some .local)
section
variable {X:Cx} {G:Sg} {sc:Scope}
theorem Fu {o:Option cu} (h:cfV o=true):o=some .cell\/o=some .free:=by
 unfold cfV at h
 rw [dA] at h
 exact h.elim (fun e=>.inl (cI e)) fun e=>.inr (cI e)
theorem Fn (O:GOk X G):(iS sc X.env).names=Pa G.sc sc.names:=by
 unfold iS Pa
 apply dD
 rintro⟨n,k⟩ _
 have e:X.env.kindOf n=G.sc.lookup n:=O.sc n
 dsimp only
 rw [e,O.kind]
 simp
theorem Lu (O:GOk X G) (h:Ec G sc=true):Hq X (Cp G sc.names).N (Es G sc.names) sc (Co X.env.cells sc.names []):=by
 unfold Ec at h
 simp only [aA,cJ,i0,decide_eq_true_eq,dA] at h
 obtain⟨⟨⟨⟨⟨h1,h2⟩,h3⟩,h4⟩,h5⟩,h6⟩:=h
 have fr:∀ y∈sc.names,y.2=.free -> ∃ c,X.env.cells.lookup y.1=some c:=fun y hy hf=>by
  refine O.cel y.1 ?_
  rw [O.sc]
  refine Fu (h5 y.1 ?_).1.2
  exact List.mem_map.mpr ⟨y,List.mem_filter.mpr ⟨hy,by rw [hf];rfl⟩,rfl⟩
 have nc:∀ y∈sc.names,y.2≠.cell:=fun y hy e=>by
  have:=h1 y hy
  rw [e] at this
  cases this
 refine⟨Kc fr,nc,cI h3,fun y hy hl=>?_,fun x c hx=>?_,fun x hx=>?_,?_,fun k j x e1 e2=>?_⟩
 ·rcases h2 y hy with z|z
  ·rw [hl] at z;cases z
  ·exact cI z
 ·have hm:=b7 hx
  rcases Gk hm with z|⟨z1,z2⟩
  ·cases z
  ·obtain⟨c',hc'⟩:=fr _ z1 rfl
   have z2':c=(X.env.cells.lookup x).getD 0:=z2
   rw [show X.env.cells.lookup x=some c' from hc'] at z2' ⊢
   rw [z2']
   rfl
 ·have hn:(iS sc X.env).names=Pa G.sc sc.names:=Fn O
  have key:∀ kd,(iS sc X.env).names.lookup x=some kd->cfV (some kd)=true -> ∃ c,(Co X.env.cells sc.names []).lookup x=some c:=fun kd hkd hc=>by
   rw [hn] at hkd
   have hm:=b7 hkd
   unfold Pa at hm
   obtain⟨⟨n,k⟩,hy,e⟩:=List.mem_map.mp hm
   dsimp only at e
   have hfree:k=.free/\n=x:=by
    have hkc:=nc _ hy
    by_cases e1:(k==eP&&G.sc.lookup n==some .cell)=true
    ·rw [if_pos e1] at e
     rw [aA] at e1
     exact⟨cI e1.1,congrArg Prod.fst e⟩
    ·rw [if_neg e1] at e
     cases e
     rcases Fu hc with z|z
     ·exact absurd (aV z) hkc
     ·exact⟨aV z,rfl⟩
   obtain⟨rfl,rfl⟩:=hfree
   exact Za (Kr hy)
  rcases hx with hx|hx
  ·exact key _ hx rfl
  ·exact key _ hx rfl
 ·unfold Es Cp
  simp
 ·have e1':(Ov sc.names++Qf sc.names)[k]? = some x:=e1
  have e2':((Ov sc.names).map (fun _=>(none:Option Nat))++(Qf sc.names).map (fun x=>C2 G.N x 0))[k]? = some (some j):=e2
  by_cases hlt:k<(Ov sc.names).length
  ·rw [dS (by simpa using hlt),aE] at e2'
   cases q:(Ov sc.names)[k]? with
   | none=>rw [q] at e2';cases e2'
   | some z=>rw [q] at e2';cases e2'
  ·rw [cM (by simpa using hlt)] at e1' 
   rw [cM (by simpa using hlt),ai,aE,e1'] at e2'
   have hs:C2 G.N x 0=some j:=aV e2'
   have hx:x∈Qf sc.names:=aX e1'
   obtain⟨⟨_,c1⟩,c2⟩:=h5 x hx
   refine⟨by rw [O.N];exact Em hs,?_,?_⟩
   ·rw [O.sc];exact Fu c1
   ·rw [Fn O];exact Fu c2
theorem Tt (O:GOk X G) (h:Ec G sc=true) (fp:List Addr) (C:Addr) (s:aj) (H:Hp) (xe:Value->aj->Prop) :
  GOk (X.comp (Cp G sc.names).N sc (Co X.env.cells sc.names []) fp C s H xe) (Cp G sc.names):=by
 have S:=Lu O h
 unfold Ec at h
 simp only [aA,cJ,i0,decide_eq_true_eq,dA] at h
 obtain⟨⟨⟨⟨⟨h1,h2⟩,h3⟩,h4⟩,h5⟩,h6⟩:=h
 have hn:(iS sc X.env).names=Pa G.sc sc.names:=Fn O
 refine⟨O.K,cI h3,(fun z=>by cases z),rfl,h4,fun x=>?_,fun x hx=>?_,fun z=>(by cases z),O.calm,O.hd,O.units,fun x hx=>S.has x hx,fun x g e=>?_,O.bl,fun z=>(by cases z),O.fr⟩
 ·show (iS sc X.env).names.lookup x=_
  rw [hn]
  rfl
 ·show Vis (iS sc X.env) x
  unfold Vis
  rw [hn]
  rcases List.mem_append.mp hx with q|q
  ·exact .inl (cI (h6 x q))
  ·exact .inr (Fu (h5 x q).2)
 ·refine GBOk.to (X:=X) ?_ ?_ ?_ ?_ ?_ ?_ (O.gb x g e)
  ·rfl
  ·rfl
  ·rfl
  ·rfl
  ·exact fun _ r=>r
  ·exact fun i F=>⟨F.kp,F.ok,F.room,F.binds,F.vals⟩
end
noncomputable def Hx:St->Hp->(Option Int->Hp->Prop)->EK->Prop:=fun _ H Q _=>Q none H
noncomputable def Hw (a:DE):St->Hp->(Option Int->Hp->Prop)->EK->Prop:=fun σ H Q E=>a σ H (fun x H1=>match x with
 | .int i=>Q (some i) H1
 | _=>False) E
noncomputable abbrev DO:=St->Hp->(Option Int->Hp->Prop)->EK->Prop
noncomputable def cb1 (K:ae):V->Option Int->Option Int->Hp->VK->Prop:=fun x lo hi H Q=>match x with
 | .str z=>z.length<=sizeLine/\Q (.str (Txt.slice z lo hi)) H
 | .ref a=>(∃ xs,SqL K H a xs /\ ∀ p,H p=none->Q (.ref p) (upd H p (.lst (Fv xs lo hi)))) \/
   (∃ xs,SqT K H a xs/\((HT.sIx xs.length 0 lo=0/\HT.sIx xs.length xs.length hi=xs.length)->Q (.ref a) H)/\(¬ (HT.sIx xs.length 0 lo=0/\HT.sIx xs.length xs.length hi=xs.length) -> ∀ p,H p=none->Q (.ref p) (upd H p (.tup (Fv xs lo hi)))))
 | _=>False
noncomputable def dSl (K:ae) (a:DE) (l h:DO):DE:=fun σ H Q E=>a σ H (fun x H1=>l σ H1 (fun lo H2=>h σ H2 (fun hi H3=>cb1 K x lo hi H3 Q) E) E) E
noncomputable def QO (X:Cx) (e:Option Expr) (t:DO):Prop:=∀ Ex,Meets X Ex->PO X e (fun σ H Q=>t σ H Q (Ex σ))
theorem F1 {prog:aI} {w:bp} {A:bi} {E:Value->aj->Prop} {s:aj} {t sl:Addr} {items:Array Value} {vl vu:Value} {lo hi:Option Int} {Q:Value->aj->Prop} (ht:mH s.heap t items) (hs:s.heap.IsSliceOf sl vl vu .none) (pl:lv vl lo) (pu:lv vu hi)
  (hw:HT.sIx items.size 0 lo=0/\HT.sIx items.size items.size hi=items.size) (h:Q (.ref t) s):aJ (model prog w) A (k_ (.ref t) (.ref sl)) Q E s:=by
 obtain⟨os,hos,hcs,hds⟩:=id hs
 have hTs:s.TypeIs (.ref sl) "slice" := ⟨os,hos,hcs⟩
 unfold k_
 try with_reducible refine bw ?_
 first|refine af (ak ?_)|skip
 refine af (wpAny_sequenceKey ht.typeIs (by decide) ?_)
 refine af (eW (name:=fz "__getitem__") ht.typeIs bU
  (c6 bU ht.typeIs PyProof.Rows.entry_tuple_getitem ?_ (PyProof.Rows.args_tuple_getitem _ _)))
 show aJ _ _ (iz (.ref t) >>= _) _ _ s
 refine af (tupleItemsOf_ ht ?_)
 refine af (iJ hTs ?_)
 rw [if_pos (by decide)]
 refine af (HT.sliceApplied_gen hs pl pu ?_)
 have hy:(((HT.sIx items.size 0 lo:Nat):Int)==0&&(1:Int)==1&&(HT.sIx items.size items.size hi - HT.sIx items.size 0 lo)==items.size)=true:=by
  rw [hw.1,hw.2]
  simp
 show aJ _ _ (if (((HT.sIx items.size 0 lo:Nat):Int)==0&&(1:Int)==1&&(HT.sIx items.size items.size hi - HT.sIx items.size 0 lo)==items.size)=true then _ else _) _ _ s
 rw [if_pos hy]
 refine af (m:=Builtin.Tuple.tupleIsExact _) (af (iJ ht.typeIs (ak ?_)))
 rw [if_pos (by decide)]
 exact af (g9 (ak ⟨_,rfl,ak h⟩))
noncomputable def cb0 (K:ae):V->Option Int->Option Int->Hp->VK->Prop:=fun x lo hi H Q=>∃ a xs,x=.ref a/\SqT K H a xs/\(HT.sIx xs.length 0 lo=0/\HT.sIx xs.length xs.length hi=xs.length)/\Q (.ref a) H
theorem bo1 {X:Cx}:SlR X (cb0 X.K):=by
 intro pins s σ H x v vl vu lo hi sl Q I rx hs pl pu h
 obtain⟨a,xs,rfl,hx,hw,q⟩:=h
 cases rx
 obtain⟨its,r,ht,hz⟩:=I.tuple hx
 have hlen:its.toArray.size=xs.length:=by rw [ao];exact r.length.symm
 exact⟨"tuple", _,PyProof.Rows.slot_tuple_getitem.lookup,ht.typeIs,F1 ht hs pl pu (by rw [hlen];exact hw) ⟨.ref a,H,I,rfl,q⟩⟩
section
variable {X:Cx} {G:Sg} {e:Expr} {de:DE} {lo hi:Option Expr} {dl dh:DO} {pos p2:Pos}
theorem Us:QO X none Hx:=fun _ _=>ao5
theorem Ut (h:QE X e de):QO X (some e) (Hw de):=by
 intro Ex m pins s σ H Q I hw
 rw [evalPart_some]
 refine thn (h Ex m pins s σ H _ I hw) fun u s1 ⟨x,H1,I1,r1,q1⟩=>?_
 cases x with
 | int i=>obtain⟨t,rfl⟩:=r1;exact⟨some i,H1,I1,.int i t,q1⟩
 | _=>exact (show False from q1).elim
theorem Mg (e:Expr) (z:Str) (t:Tok) (r:Value):letTemporaryGo e (.str z t) r=pure ():=by
 cases e <;> rfl
theorem aa3 (he:QE X e de) (hl:QO X lo dl) (hh:QO X hi dh):QE X (.Subscript e (.Slice lo hi none p2) pos) (dSl X.K de dl dh):=by
 intro Ex m pins s σ H Q I h
 refine Subscript_ (thn (he Ex m pins s σ H _ I h) fun v s1 ⟨x,H1,I1,r1,q1⟩=>?_)
 refine wpAny_Slice (thn (hl Ex m pins s1 σ H1 _ I1 q1) fun vl s2 ⟨l,H2,I2,pl,q2⟩=>thn (hh Ex m pins s2 σ H2 _ I2 q2) fun vu s3 ⟨u,H3,I3,pu,q3⟩=>?_)
 rw [evalPart_none]
 refine ak ?_
 show aJ (model X.prog X.w) X.A (lK e (.Slice lo hi none p2) v (.ref s3.heap.objs.size)) (EP X pins σ Q) X.xe { s3 with heap:=s3.heap.push { cls:=.type "slice", data:=.fields #[vl,vu,.none] } }
 have I4:Inv X pins σ H3 { s3 with heap:=s3.heap.push { cls:=.type "slice", data:=.fields #[vl,vu,.none] } }:=I3.kept (t':=s3.toks) fun b ob q=>ag _ q
 have gen:∀ r,SlR X r->r x l u H3 Q->aJ (model X.prog X.w) X.A (lK e (.Slice lo hi none p2) v (.ref s3.heap.objs.size)) (EP X pins σ Q) X.xe { s3 with heap:=s3.heap.push { cls:=.type "slice", data:=.fields #[vl,vu,.none] } }:=fun r hr q=>by
  obtain⟨T,id,hT,ht,hg⟩:=hr pins _ σ H3 x v vl vu l u s3.heap.objs.size Q I4 r1 (Heap.IsSliceOf.new ..) pl pu q
  exact mT (ops:=[.ref s3.heap.objs.size,v]) ht hT hg (by with_unfolding_all rfl)
 cases x with
 | str z=>
  obtain⟨hz,q⟩:=q3
  obtain⟨t,rfl⟩:=r1
  have hk:KeptH (fun h=>Inv X pins σ H3 { s3 with heap:=h }):=fun h ob J=>J.kept (t':=s3.toks) fun b o eb=>ag _ eb
  have fin:∀ h' t' k,Inv X pins σ H3 { s3 with heap:=h' }->(fun (a:Value) (s':aj)=>s3.toks<=s'.toks->EP X pins σ Q a s') (.str (Txt.slice z l u) t') { s3 with heap:=h',toks:=k }:=fun h' t' k J htk=>⟨.str _,H3,J.tok k htk,⟨_,rfl⟩,q⟩
  refine bI (n:=s3.toks) (ah _) ?_
  cases pl with
  | none=>
   cases pu with
   | none=>exact iT (SBH.sliceItem_nn hk I3 fin hz) (by with_unfolding_all rfl) (Mg e z t)
   | int j uj=>exact iT (SBH.sliceItem_ns hk I3 fin hz) (by with_unfolding_all rfl) (Mg e z t)
  | int i ui=>
   cases pu with
   | none=>exact iT (SBH.sliceItem_sn hk I3 fin hz) (by with_unfolding_all rfl) (Mg e z t)
   | int j uj=>exact iT (SBH.sliceItem_ss hk I3 fin hz) (by with_unfolding_all rfl) (Mg e z t)
 | ref a=>
  rcases q3 with ⟨xs,h1,h2⟩|⟨xs,h1,h2,h3⟩
  ·exact gen _ as0 ⟨a,xs,rfl,h1,h2⟩
  ·by_cases hw:HT.sIx xs.length 0 l=0/\HT.sIx xs.length xs.length u=xs.length
   ·exact gen _ bo1 ⟨a,xs,rfl,h1,hw,h2 hw⟩
   ·exact gen _ bo2 ⟨a,xs,rfl,h1,hw,h3 hw⟩
 | _=>exact (show False from q3).elim
noncomputable def Iy:Expr->Bool
 | .Set _ _ _=>false
 | _=>true
theorem Iz {e:Expr} (h:Iy e=true) (env:Env) (x:Value):fJ e env x=pure x:=by
 cases e with
 | Set _ _ _=>cases h
 | _=>rfl
theorem Ow:Meets X (fun _ _ _=>False):=fun _ _ _ _ _ _ _ h=>h.elim
variable {tg iter elt:Expr} {ifs:List Expr} {sc:Scope} {wi:DI} {g:DG} {tc:DT}
noncomputable def Qv (G:Sg) (x:Str):Bool:=(G.sc.lookup x==some .local)||(G.top&&(G.sc.lookup x==some .cell))
noncomputable def wG:Nat->Sg->Expr->DG
 | 0,_,_=>gNo
 | n+1,G,e=>match e with
  | .Name x _=>match C2 G.N x 0 with
   | some i=>if Qv G x=true then gdN i else gNo
   | none=>gNo
  | .Tuple ts _ _=>if G.calm=true/\ts.all noStar=true then gdT G.K ts.length (ts.map (wG n G)) else gNo
  | _=>gNo
theorem Mh (O:GOk X G) {x:Str} (h:Qv G x=true):Loc X.env.scope x/\(X.fn x=true\/X.env.scope.names.lookup x=some .local):=by
 unfold Qv at h
 rw [dA,aA] at h
 rcases h with h|⟨h1,h2⟩
 ·have:X.env.scope.names.lookup x=some .local:=by rw [O.sc];exact cI h
  exact⟨.inl this,.inr this⟩
 ·have:X.env.scope.names.lookup x=some .cell:=by rw [O.sc];exact cI h2
  exact⟨.inr this,.inl (O.top h1 x)⟩
theorem D3 {e:Expr} (h:noStar e=true) (es:List Expr) (env:Env):dy (e::es) env=(false,lW e env)::dy es env:=by
 cases e with
 | Starred _ _=>cases h
 | _=>rfl
theorem Hs {es:List Expr} (h:es.all noStar=true) (env:Env):(dy es env).length=es.length/\(dy es env).findIdx? (·.1)=none:=by
 induction es with
 | nil=>exact⟨rfl,rfl⟩
 | cons e es ih=>
  rw [bN,aA] at h
  obtain⟨h1,h2⟩:=ih h.2
  rw [D3 h.1]
  refine⟨by rw [aP,aP,h1],?_⟩
  rw [List.findIdx?_cons,h2]
  rfl
theorem Pm:∀ (n:Nat) (X:Cx) (G:Sg),GOk X G -> ∀ e,PG X e (wG n G e)
 | 0,_,_,_,_=>O3
 | n+1,X,G,O,e=>by
  cases e with
  | Name x p=>
   unfold wG
   dsimp only
   split
   ·rename_i i e
    split
    ·rename_i h
     obtain⟨h1,h2⟩:=Mh O h
     exact ao3 (by rw [O.N];exact O.nd) (by rw [O.N];exact Em e) h1 h2
    ·exact O3
   ·exact O3
  | Tuple ts k p=>
   unfold wG
   dsimp only
   split
   ·rename_i h
    obtain⟨h1,h2⟩:=h
    obtain⟨h3,h4⟩:=Hs h2 X.env
    rw [<- O.K]
    refine ca2 (O.calm▸h1) ?_ h3 h4
    clear h3 h4
    induction ts with
    | nil=>exact by6
    | cons t ts ih=>
     rw [bN,aA] at h2
     refine by5 (Pm n X G O t) (ih h2.2) ?_
     rw [D3 h2.1]
     rfl
   ·exact O3
  | _=>exact O3
end
end L2
namespace L2
open PySem PySem.Spec
structure Ta (l:List Addr) (e C:Addr) (dx:Option Addr) (h h':Heap):Prop where
 exc:∃ (vs':Array Value) (T:Addr) (oT:Obj) (ts':Array Value),h'.get? e=some (Ar C dx vs')/\vs'.size=6/\vs'[1]? = some (.ref T)/\h.objs.size<=T/\T≠e/\h'.get? T=some oT/\oT.data=.fields ts'/\3<ts'.size /\ ∀ vs,h.get? e=some (Ar C dx vs)->vs'[2]? = vs[2]?
 keep:∀ b o,b≠e->b∉l->h.get? b=some o->h'.get? b=some o
 slot:∀ b o,b≠e->h.get? b=some o -> ∃ sl,h'.get? b=some { o with slots:=sl }
noncomputable abbrev tbO (fs:Array Value):Obj:={ cls:=.type "traceback", dict:=none,data:=.fields fs }
noncomputable abbrev Io (T:Addr):Obj->Obj:=bO (·.setIfInBounds 1 (.ref T))
noncomputable abbrev He (h:Heap) (e:Addr) (fs:Array Value):Heap:=(h.push (tbO fs)).update e (Io h.objs.size)
section
variable {h:Heap} {e C:Addr} {dx:Option Addr} {vs fs:Array Value}
theorem apart (q:h.get? e=some (Ar C dx vs)):h.objs.size≠e:=dM (aF q)
theorem Ou (T:Addr):(Io T (Ar C dx vs)).data=.fields (vs.setIfInBounds 1 (.ref T)):=rfl
theorem Qb (q:h.get? e=some (Ar C dx vs)):(He h e fs).get? e=some (Ar C dx (vs.setIfInBounds 1 (.ref h.objs.size))):=
 bz (Io h.objs.size) (ag (tbO fs) q) (cA (Ou h.objs.size))
theorem Qc (q:h.get? e=some (Ar C dx vs)):(He h e fs).get? h.objs.size=some (tbO fs):=
 (aW (h.push (tbO fs)) (Io h.objs.size) (apart q).symm).trans (aw h rfl)
theorem G5 {b:Addr} {o:Obj} (ne:b≠e) (q:h.get? b=some o):(He h e fs).get? b=some o:=
 (aW (h.push (tbO fs)) (Io h.objs.size) ne.symm).trans (ag (tbO fs) q)
theorem Qn {h0:Heap} {l:List Addr} (hz:h.objs.size=h0.objs.size) (k1:∀ b,b∉l->h.get? b=h0.get? b) (k2:∀ b o,h0.get? b=some o -> ∃ sl,h.get? b=some { o with slots:=sl }) (q:h.get? e=some (Ar C dx vs)) (hs:vs.size=6) (hf:3<fs.size) :
  Ta l e C dx h0 (He h e fs) where
 exc:=⟨_,h.objs.size,_,_,Qb q,by rw [Array.size_setIfInBounds];exact hs,fg (by omega),by omega,apart q,Qc q,rfl,hf,fun vs0 q0=>by
  obtain⟨sl,z⟩:=k2 e _ q0
  rw [q] at z
  cases z
  exact Array.getElem?_setIfInBounds_ne (by decide)⟩
 keep:=fun b o ne nl hb=>G5 ne ((k1 b nl).trans hb)
 slot:=fun b o ne hb=>let ⟨sl,z⟩:=k2 b o hb;⟨sl,G5 ne z⟩
end
section
variable {M:Model} {A:bi} {E:Value->aj->Prop} {s:aj} {base:Heap} {env:Env} {outer:List Env} {L e C:Addr} {dx:Option Addr} {vs:Array Value} {Q:Unit->aj->Prop}
theorem V8 {head:Value} {hadNext:Bool} {env0:Env} (hfr:A.frames=some (env0::outer)) (hl:s.heap.FunFrames base (env0::outer)) (h0:env0.frame=some L) (hf:env.frame=some L) (q:s.heap.get? e=some (Ar C dx vs)) (hs:vs.size=6) (k:∀ h',Ta (frs (env0::outer)) e C dx s.heap h'->Q () { s with heap:=h' }) :
  aJ M A ((mN env >>= fun a=>entryPlaceOf L hadNext >>= fun pl=>hV head a .none (fE L) .none pl >>= fun b=>mR (.ref e) 1 b)) Q E s:=by
 have off:e∉frs (env0::outer):=fun z=>by
  obtain⟨_,o,z1,z2⟩:=hl.mem z
  rw [q] at z1
  cases z1
  exact z2 vs rfl
 have fe:mN env=mN env0:=by unfold mN;rw [hf,h0]
 rw [fe]
 refine af (wpAny_frameOf_fun hfr hl h0 fun h1 ⟨a1,a2,a3⟩=>af (wpAny_entryPlaceOf fun pl hpl=>?_))
 unfold hV newFields
 refine af (cj ?_ (hpl.sizeOk5 _ _ _ _ _))
 have q1:h1.get? e=some (Ar C dx vs):=(a2 e off).trans q
 have lt:3<([head,.ref L,.none,fE L,.none]++(if pl.isEmpty then bh 6 bG else pl)).toArray.size:=by rw [ao,av];simp only [aP,jT];omega
 generalize ([head,.ref L,.none,fE L,.none]++(if pl.isEmpty then bh 6 bG else pl)).toArray=fs at lt ⊢
 exact cP (ag (tbO fs) q1) rfl (show 1<vs.size by omega) (k _ (Qn a1 a2 a3 q1 hs lt))
end
end L2
namespace L2
open PySem PySem.Spec PyProof.Rows
open Sem (wp)
section
variable {X:Cx} {pins:List (Addr×Obj)} {σ:St} {H:Hp} {s:aj} {a C:Addr} {dx:Option Addr} {h':Heap}
theorem am4 (I:Inv X pins σ H s) (ea:FlO H a C dx) (L:Ta (frs X.stack) a C dx s.heap h'):Un (frs X.stack) [] H H s.heap h' where
 keep:=fun b o q n hb _=>L.keep b o (fun z=>by rw [z] at n;rcases ea with ea|ea <;> (rw [ea] at n;cases n)) hb q
 slot:=fun b o q n _ _=>L.slot b o (fun z=>by rw [z] at n;rcases ea with ea|ea <;> (rw [ea] at n;cases n)) q
 free:=fun b o _ n _=>n
 there:=fun b o q _=>by
  by_cases hb:b=a
  ·obtain⟨vs',T,oT,ts',h1,_⟩:=L.exc
   exact⟨_,by rw [hb];exact h1⟩
  ·obtain⟨sl,h1⟩:=L.slot b o hb q
   exact⟨_,h1⟩
 tups:=fun _ _ e=>e
 frzs:=fun _ _ _ e=>e
 tbls:=fun b ps e=>⟨#[],by rw [e];simp⟩
theorem am3 (I:Inv X pins σ H s) (ea:FlO H a C dx) (L:Ta (frs X.stack) a C dx s.heap h'):HOk X.prog X.w H h':=fun b o e=>by
 by_cases hb:b=a
 ·subst hb
  obtain⟨vs',T,oT,ts',h1,h2,_,_,_,_,_,_,hc⟩:=L.exc
  rcases ea with ea|ea
  ·obtain⟨vs,g1,_,g3⟩:=au4 I ea
   rw [ea] at e
   cases e
   exact Yp h1 h2 ((hc vs g1).trans g3)
  ·rw [ea] at e
   cases e
   exact a67 h1 h2
 ·refine (I.hok b o e).stay (fun c u hc q=>L.keep c u ?_ ?_ q) (fun _ q=>q) fun _ _ q=>q
  ·rcases hc with rfl|hc
   ·exact hb
   ·rintro rfl
    rcases ea with ea|ea <;> (rw [ea] at hc;cases hc)
  ·intro hm
   have n:=I.stkFree c hm
   rcases hc with rfl|hc
   ·rw [n] at e;cases e
   ·rw [n] at hc;cases hc
end
end L2
namespace L2
open PySem PySem.Spec PyProof.Rows
open Sem (wp)
section
variable {X:Cx} {pins:List (Addr×Obj)} {σ:St} {H:Hp} {s:aj} {a:Addr} {E:Value->aj->Prop} {Q:Unit->aj->Prop}
noncomputable def FlyT (X:Cx) (pins:List (Addr×Obj)) (H:Hp) (a:Addr) (s:aj) (z:Value):Prop:=
 ∃ (C:Addr) (dx:Option Addr) (vs:Array Value) (T:Addr) (oT:Obj) (ts:Array Value),FlO H a C dx/\s.heap.get? a=some (Ar C dx vs)/\vs.size=6/\vs[1]? = some (.ref T)/\T≠a/\s.heap.get? T=some oT/\oT.data=.fields ts/\ts[3]? = some z/\Cr X pins H T
theorem FlyT.at {z:Value} (F:FlyT X pins H a s z):Wx X pins H a s:=by
 obtain⟨C,dx,vs,T,oT,ts,h1,h2,h3,q1,q2,q3,q4,q5,q6⟩:=F
 exact⟨C,dx,vs,h1,h2,h3,.inr ⟨T,oT,ts,q1,q2,q3,q4,⟨z,q5⟩,q6⟩⟩
theorem b37 {C T:Addr} {dx:Option Addr} {vs ts:Array Value} {oT:Obj} {y:Value} (I:Inv X pins σ H s) (h1:FlO H a C dx) (h2:s.heap.get? a=some (Ar C dx vs)) (h3:vs.size=6) (q1:vs[1]? = some (.ref T)) (q2:T≠a) (q3:s.heap.get? T=some oT) (q4:oT.data=.fields ts) (q5:ts[3]? = some y) (q6:Cr X pins H T) (v:Value) :
  Inv X pins σ H { s with heap:=s.heap.update T (bO (·.setIfInBounds 3 v)) }/\FlyT X pins H a { s with heap:=s.heap.update T (bO (·.setIfInBounds 3 v)) } v/\(s.heap.update T (bO (·.setIfInBounds 3 v))).get? a=some (Ar C dx vs):=by
 have ha:(s.heap.update T (bO (·.setIfInBounds 3 v))).get? a=some (Ar C dx vs):=(aW _ _ q2).trans h2
 obtain⟨c0,d0,dt0,sl0⟩:=oT
 cases (show dt0=.fields ts from q4)
 have hT:(s.heap.update T (bO (·.setIfInBounds 3 v))).get? T=some ⟨c0,d0,.fields (ts.setIfInBounds 3 v),sl0⟩:=bz _ q3 (cA (vs:=ts.setIfInBounds 3 v) rfl)
 exact⟨I.turned (t':=s.toks) (fun b o ne e=>(aW _ _ (bZ ne)).trans e) q6.1 q6.2.1 q6.2.2.2.1 q6.2.2.2.2.1 q6.2.2.2.2.2,⟨C,dx,vs,T,_,_,h1,ha,h3,q1,q2,hT,rfl,fg (Array.getElem?_eq_some_iff.mp q5).1,q6⟩,ha⟩
theorem b38 {A:bi} {fr:Option Addr} {z:Value} (I:Inv X pins σ H s) (F:FlyT X pins H a s z) (h:∀ s',Inv X pins σ H s'->FlyT X pins H a s' (fr.elim .none fun f=>fE f)->Q () s'):aJ (model X.prog X.w) A (setFlight (.ref a) fr) Q E s:=by
 obtain⟨C,dx,vs,T,oT,ts,h1,h2,h3,q1,q2,q3,q4,q5,q6⟩:=F
 obtain⟨I',F',_⟩:=b37 I h1 h2 h3 q1 q2 q3 q4 q5 q6 (fr.elim .none fun f=>fE f)
 unfold setFlight
 refine af (fF h2 rfl q1 ?_)
 rw [if_pos (by simp)]
 exact cP q3 q4 (Array.getElem?_eq_some_iff.mp q5).1 (h _ I' F')
theorem bv3 {env:Env} (I:Inv X pins σ H s) {e0:Env} {o0:List Env} {L:Addr} (hs:X.stack=e0::o0) (h0:e0.frame=some L) (hf:env.frame=some L) (F:Wx X pins H a s) (h:∀ s' z,Inv X pins σ H s'->FlyT X pins H a s' z->Q () s') :
  aJ (model X.prog X.w) X.A (noteFrame (.ref a) env) Q E s:=by
 obtain⟨C,dx,vs,h1,h2,h3,h4⟩:=F
 have fr:X.A.frames=some (e0::o0):=hs▸I.ok.frames
 have new:∀ {s1:aj} {head:Value} {hadNext:Bool},Inv X pins σ H s1->s1.heap.get? a=some (Ar C dx vs)->aJ (model X.prog X.w) X.A ((mN env >>= fun y=>entryPlaceOf L hadNext >>= fun pl=>hV head y .none (fE L) .none pl >>= fun b=>mR (.ref a) 1 b)) Q E s1:=fun {s1 head hadNext} I1 q=>by
  have fn:s1.heap.FunFrames X.base (e0::o0):=hs▸I1.stack
  refine V8 (base:=X.base) fr fn h0 hf q h3 fun h' L=>?_
  rw [<- hs] at L
  have I':=I1.call (h':=h') (g':=s1.gens) (t':=s1.toks) (d':=s1.drawn) (ch:=[]) (am4 I1 h1 L) (am3 I1 h1 L) I1.bare (fun b z=>absurd z (by simp))
  obtain⟨vs',T,oT,ts',a1,a2,a3,a4,a5,a6,a7,a8,_⟩:=L.exc
  exact h _ _ I' ⟨C,dx,vs',T,oT,ts',h1,a1,a2,a3,a5,a6,a7,bu a8,I1.fpOk a4 (I1.hok.fresh a4)⟩
 unfold noteFrame
 simp only [hf]
 rcases h4 with c|⟨T,oT,ts,c,ne,hT,hd,⟨z,hz⟩,fp⟩
 ·refine af (fF h2 rfl c ?_)
  rw [if_neg (by decide)]
  exact new I h2
 ·refine af (fF h2 rfl c ?_)
  rw [if_pos (by simp)]
  refine af (fF hT hd hz ?_)
  by_cases e:(z==fE L)=true
  ·rw [if_pos e]
   exact ak (h s z I ⟨C,dx,vs,T,oT,ts,h1,h2,h3,c,ne,hT,hd,hz,fp⟩)
  ·rw [if_neg e]
   obtain⟨I',_,ha⟩:=b37 I h1 h2 h3 c ne hT hd hz fp .none
   exact af (cP hT hd (Array.getElem?_eq_some_iff.mp hz).1 (new I' ha))
end
section
variable {prog:aI} {w:bp} {A:bi} {E:Value->aj->Prop} {s:aj} {K:ae} {a C D:Addr} {dx:Option Addr} {vs:Array Value} {b:Bool} {Q:Bool->aj->Prop}
open PySem.W in
end
end L2
namespace L2
open PySem PySem.Spec PyProof.Rows
section
variable {X:Cx} {G:Sg} {elt tg iter:Expr} {ifs:List Expr} {sc:Scope} {wi:DI} {g:DG} {tc:DT} {de:DE} {pos:Pos}
theorem bt4 {pins pins':List (Addr×Obj)} {σ:St} {H2 H':Hp} {s2:aj} {N':List Str} {cl:List (Str×Addr)} {fp:List Addr} {C T:Addr} {xe:Value->aj->Prop} (I2:Inv X pins σ H2 s2) (f2:∀ b∈fp,Cr X pins H2 b)
  (F:Cr (X.comp N' sc cl fp C s2 H2 xe) pins' H' T):Cr X pins H' T:=by
 obtain⟨r1,r2,r3,r4,r5,r6⟩:=F
 rcases r4 with r4|r4
 ·exact⟨r1,(f2 T r4).2⟩
 ·exact I2.fpOk r4 r1
theorem Ir {Ex:St->EK} (m:Meets X Ex) (fr:FrH X) {pins:List (Addr×Obj)} {σ:St} {H2:Hp} {s2:aj} {N':List Str} {cl:List (Str×Addr)} {fp:List Addr} {C D:Addr} {us:Option (Value->Sem Unit)} {Q2:Value->aj->Prop} (I2:Inv X pins σ H2 s2) (f2:∀ b∈fp,Cr X pins H2 b)
  (hC:s2.heap.objs.size<=C):Meets (X.comp N' sc cl fp C s2 H2 (Bc X sc cl us Q2 D C)) (fun _ a H'=>Ex σ a H'):=by
 intro pins' σ' H' s' a I' F' hE
 obtain⟨e0,o0,L,f1,f3,f4⟩:=fr
 refine bv3 (X:=X.comp N' sc cl fp C s2 H2 (Bc X sc cl us Q2 D C)) (env:=mM sc cl C X.env) I' f1 f3 f4 F' fun s3 z I3 F3=>?_
 obtain⟨mm,hn,_⟩:=id I3.loc
 refine⟨mm,hn,fun h' sb cenv hce=>?_⟩
 have I4:Inv X pins σ H' s3:=I2.call' (ch:=fp) I3.os I3.base I3.hok I3.bare fun b hb=>⟨(f2 b hb).2.2.2.1,(f2 b hb).2.1,(f2 b hb).2.2.2.2.1,(f2 b hb).2.2.2.2.2⟩
 have fo:=I2.fpOk hC I3.free
 obtain⟨g0,g1,g2,g3,g4,g5⟩:=id fo
 have I5:Inv X pins σ H' { s3 with heap:=h' }:=I4.turned (t':=s3.toks) (fun b o hb e=>(sb.2 b hb).trans e) g0 g1 g3 g4 g5
 obtain⟨C0,dx,vs,T,oT,ts,h1,h2,h3,q1,q2,q3,q4,q5,q6⟩:=F3
 have na:a≠C:=fun z=>by rcases h1 with h1|h1 <;> (rw [z,g0] at h1;cases h1)
 have nT:T≠C:=q6.2.1
 have F5:FlyT X pins H' a { s3 with heap:=h' } z:=⟨C0,dx,vs,T,oT,ts,h1,(sb.2 a na).trans h2,h3,q1,q2,(sb.2 T nT).trans q3,q4,q5,bt4 I2 f2 q6⟩
 unfold PySem.passOn
 refine af (fF (s:={ s3 with heap:=h' }) ((sb.2 a na).trans h2) rfl q1 ?_)
 rw [if_neg (by simp)]
 refine af (b38 I5 F5 fun s6 I6 F6=>?_)
 exact wpAny_throw (m pins σ H' s6 a I6 F6.at hE)
noncomputable def aj0 (X:Cx) (ifs:List Expr) (t:DT):Prop:=∀ Ex,Meets X Ex->Vb X ifs (fun σ H Q=>t σ H Q (Ex σ))
theorem O6:aj0 X [] E7:=fun _ _=>Zs
theorem O7 {c:Expr} {t:DT} (h:QT X c t):aj0 X [c] t:=fun Ex m=>Zt (h Ex m)
theorem Up (O:GOk X G) (hc:X.calm=true) (hk:Ec G sc=true) (hs:Iy iter=true) (hi:QI X tg iter wi) (hg:∀ X',GOk X' (Cp G sc.names)->PG X' tg g) (ht:∀ X',GOk X' (Cp G sc.names)->aj0 X' ifs tc) (he:∀ X',GOk X' (Cp G sc.names)->QE X' elt de) :
  QE X (.ListComp elt [⟨tg,iter,ifs,0⟩] sc pos) (Cy (Es G sc.names) wi g tc de):=by
 intro Ex m pins s σ H Q I h
 exact Yc hc (Lu O hk) (hi Ex m) (fun Q2 fp C D s2 H2 I2 f2 hC=>
  have M:=Ir (N':=(Cp G sc.names).N) (cl:=Co X.env.cells sc.names []) (us:=none) (Q2:=Q2) (D:=D) m O.fr I2 f2 hC
  have K:=Tt O hk fp C s2 H2 (Bc X sc (Co X.env.cells sc.names []) none Q2 D C)
  ⟨hg _ K,ht _ K _ M,he _ K _ M⟩) I h (fun x=>Iz hs X.env x)
end
noncomputable def Tp (K:ae) (op:BoolOp):List DE->DE
 | []=>dNo
 | [a]=>a
 | a::r=>match op with
  | .And=>Ku K a (Tp K op r)
  | .Or=>aj9 K a (Tp K op r)
noncomputable def To (op:BoolOp):List DT->DT
 | []=>fun _ _ _ _=>False
 | [a]=>a
 | a::r=>match op with
  | .And=>Hu a (To op r)
  | .Or=>dOr a (To op r)
noncomputable def Cn:List DE->DA
 | []=>Ae
 | a::r=>Aa a (Cn r)
noncomputable def tNo:DT:=fun _ _ _ _=>False
noncomputable def Wv (G:Sg) (ops:List md) (bs:List Expr) (a:DE) (ds:List DE):DE:=match ops,bs,ds with
 | [op],[b],[d]=>if dP op b=false then Af (Kh G.K op) a d else dNo
 | [op,op'],[b,c],[d,d']=>if lastMarks [op,op'] [b,c]=false then P8 (Kh G.K op) (Kh G.K op') a d d' else dNo
 | _,_,_=>dNo
noncomputable def ah2 (G:Sg) (x:Str) (es:List Expr) (ds:List DE):DE:=
 if Gp G x=true/\(C2 G.N x 0)=none/\es.all noStar=true then (match G.gb.lookup x with
  | some (.fn i)=>if es.length<=i.ps.length/\i.ps.length<=es.length+i.dfs.length then dFn (spE i.sp (i.dfs.drop (es.length+i.dfs.length - i.ps.length))) (Cn ds) else dNo
  | some (.exc C oi)=>(match oi with
   | none=>if es.isEmpty=true then dFn (mkX C none 0) (Cn ds) else dFn (fun vs H Q E=>vs.length<=1000/\mkX C none 0 vs H Q E) (Cn ds)
   | some i=>if es.length+1<=i.ps.length/\i.ps.length<=es.length+1+i.dfs.length then (if es.isEmpty=true then dFn (mkX C (some i) (es.length+1+i.dfs.length - i.ps.length)) (Cn ds)
    else dFn (fun vs H Q E=>vs.length<=1000/\mkX C (some i) (es.length+1+i.dfs.length - i.ps.length) vs H Q E) (Cn ds)) else dNo)
  | some (.cls C oi)=>(match oi with
   | none=>if es.isEmpty=true then dFn (mkC C none 0) (Cn ds) else dNo
   | some i=>if es.length+1<=i.ps.length/\i.ps.length<=es.length+1+i.dfs.length then dFn (mkC C (some i) (es.length+1+i.dfs.length - i.ps.length)) (Cn ds) else dNo)
  | some _=>dNo
  | none=>if G.bl.contains x=true then (match a54 G.K G.calm x with
   | some (_,r)=>if es.isEmpty=true then dNo else dFn (fun vs H Q _=>r vs H Q) (Cn ds)
   | none=>dNo) else dNo) else dNo
noncomputable def ah4 (G:Sg) (o:Expr) (m:Str) (es:List Expr) (ap cp:Pos) (d:DE) (ds:List DE):DE:=
 if Bo o=true/\es.all noStar=true/\es.length<30/\(ap.endLine==cp.line)=true then (match Bu G.gb m with
  | none=>dMt (rMt G.K (mtR G.K m)) d (Cn ds)
  | some l=>Bj m es.length l d (Cn ds)) else dNo
noncomputable def a18 (G:Sg) (o:Expr) (m:Str) (es:List Expr) (ap cp:Pos):Option FI:=match o with
 | .Name c _=>if m = "__init__" /\ Gp G c=true/\C2 G.N c 0=none/\es.isEmpty=false/\Bo o=true/\es.all noStar=true/\es.length<30/\(ap.endLine==cp.line)=true then (match G.gb.lookup c with
  | some (.ini _ i)=>if es.length<=i.ps.length/\i.ps.length<=es.length+i.dfs.length then some i else none
  | _=>none) else none
 | _=>none
noncomputable def au1 (d:DE):DE:=fun σ H Q E=>d σ H (fun v H'=>Thaw H H' (Q v)) E
theorem aq1 {X:Cx} {e:Expr} {d:DE} (h:QE X e d):QE X e (au1 d):=fun Ex mt pins s σ H Q I q=>
 thn (h Ex mt pins s σ H _ I q) fun v s1 ⟨x,H1,I1,r1,q1⟩=>
  let ⟨H2,I2,q2⟩:=Thaw.inv I I1 q1
  ⟨x,H2,I2,r1,q2⟩
noncomputable def b89 (G:Sg) (tg o:Expr) (m:Str) (ap cp:Pos) (d dv:DE):DI:=match tg with
 | .Tuple _ _ _=>if m = "items" /\ Bo o=true/\(ap.endLine==cp.line)=true then a68 d else Dd G.K dv
 | _=>Dd G.K dv
noncomputable def Sy (G:Sg) (o:Expr) (m:Str) (es:List Expr) (ap cp:Pos) (d:DE) (ds:List DE):DE:=match a18 G o m es ap cp with
 | some i=>dFn (spE i.sp (i.dfs.drop (es.length+i.dfs.length - i.ps.length))) (Cn ds)
 | none=>ah4 G o m es ap cp d ds
noncomputable def Of (G:Sg) (e:Expr):Option (List (Key×V)):=match e with
 | .Name x _=>if Gp G x=true then (match G.gb.lookup x with
  | some (.dic _ kvs)=>some kvs
  | _=>none) else none
 | _=>none
noncomputable def Ub (G:Sg) (ops:List md) (bs:List Expr):Option (Bool×List (Key×V)):=match ops,bs with
 | [.In],[b]=>if dP .In b=false then (Of G b).map fun k=>(false,k) else none
 | [.NotIn],[b]=>if dP .NotIn b=false then (Of G b).map fun k=>(true,k) else none
 | _,_=>none
noncomputable def ax1 (G:Sg) (x:Str) (es:List Expr):Bool:=(C2 G.N x 0).isSome && !es.isEmpty&&es.all noStar
inductive Fz where
 | srtSet (a:Expr)
noncomputable def fzD (K:ae) (w:Expr->DE):Fz->DE
 | .srtSet a=>dUn (Hn K) (w a)
noncomputable def am0 (G:Sg) (x:Str):Bool:=Gp G x&&(G.gb.lookup x).isNone&&G.bl.contains x
noncomputable def Qh (G:Sg) (x:Str) (es:List Expr):Option Fz:=match es with
 | [.Call (.Name y _) [a] [] _]=>if x = "sorted" /\ y = "set" /\ am0 G x=true/\am0 G y=true/\noStar a=true/\G.calm=true then some (.srtSet a) else none
 | _=>none
mutual
noncomputable def wE:Nat->Sg->Expr->DE
 | 0,_,_=>dNo
 | n+1,G,e=>match e with
  | .Constant c _ _=>ah3 c
  | .Name x _=>Pn G x
  | .BinOp a op b _=>Af (rOp G.K op) (wE n G a) (wE n G b)
  | .UnaryOp .USub a _=>dUn Uv (wE n G a)
  | .UnaryOp .Not a _=>at9 G.K (wE n G a)
  | .UnaryOp .Invert a _=>dUn ab4 (wE n G a)
  | .BoolOp op es _=>Tp G.K op (es.map (wE n G))
  | .Compare a ops bs _=>match Ub G ops bs with
   | some (neg,kvs)=>dUn (Q6 neg kvs) (wE n G a)
   | none=>Wv G ops bs (wE n G a) (bs.map (wE n G))
  | .IfExp t a b _=>a61 (wT n G t) (wE n G a) (wE n G b)
  | .List es _=>if es.all noStar=true then Bt (Cn (es.map (wE n G))) else dNo
  | .Tuple es _ _=>if es.all noStar=true then Cz (Cn (es.map (wE n G))) else dNo
  | .Subscript a (.Slice lo hi none _) _=>dSl G.K (wE n G a) (match lo with|none=>Hx|some l=>Hw (wE n G l)) (match hi with|none=>Hx|some h=>Hw (wE n G h))
  | .Subscript a b _=>if Ey b=true then (match Of G a with
   | some kvs=>dUn (bi3 kvs) (wE n G b)
   | none=>Af (Av G.K) (wE n G a) (wE n G b)) else dNo
  | .Attribute o f _=>if Bo o=true then dUn (Fb G.K f) (wE n G o) else dNo
  | .Call (.Name x _) es [] _=>if ax1 G x es=true then bs8 (au5 G.gb) es.length (Pn G x) (Cn (es.map (wE n G))) else match Qh G x es with
   | some z=>fzD G.K (wE n G) z
   | none=>ah2 G x es (es.map (wE n G))
  | .Call (.Name x _) [a] [⟨some k,.Attribute o m _,_⟩] _=>if x = "sorted" /\ k = "key" /\ Gp G x=true/\G.gb.lookup x=none/\G.bl.contains x=true/\noStar a=true/\Bo o=true/\G.calm=true then (match Fy G.gb m with
   | some l=>Yf G.K m l (wE n G a) (wE n G o)
   | none=>dNo) else dNo
  | .Dict ks vs _=>if ks.isEmpty=true/\vs.isEmpty=true then Hv else dNo
  | .Call (.Attribute o m ap) es [] cp=>Sy G o m es ap cp (wE n G o) (es.map (wE n G))
  | .ListComp elt [⟨tg,iter,ifs,0⟩] sc _=>if G.calm=true/\Ec G sc=true/\Iy iter=true then
    Cy (Es G sc.names) (wI n G tg iter) (wG n (Cp G sc.names) tg) (match ifs with | []=>E7 | [c]=>wT n (Cp G sc.names) c|_=>tNo) (wE n (Cp G sc.names) elt) else dNo
  | _=>dNo
noncomputable def wT:Nat->Sg->Expr->DT
 | 0,_,_=>tNo
 | n+1,G,e=>match e with
  | .UnaryOp .Not a _=>Lx (wT n G a)
  | .BoolOp op es _=>To op (es.map (wT n G))
  | .Compare a ops bs _=>match Ub G ops bs with
   | some (neg,kvs)=>Bi (dUn (Q6 neg kvs) (wE n G a))
   | none=>Bi (Wv G ops bs (wE n G a) (bs.map (wE n G)))
  | .IfExp _ _ _ _=>tNo
  | e=>E6 G.K (wE n G e)
noncomputable def wI:Nat->Sg->Expr->Expr->DI
 | 0,_,_,_=>iNo
 | n+1,G,tg,e=>match e with
  | .Call (.Name x _) (a::es) [] _=>
   if x = "range" /\ Gp G x=true/\G.gb.lookup x=none/\G.bl.contains x=true/\(a::es).all noStar=true then Ke (Cn ((a::es).map (wE n G)))
   else if x = "zip" /\ Gp G x=true/\G.gb.lookup x=none/\G.bl.contains x=true/\(a::es).all noStar=true then (match tg with
    | .Tuple _ _ _=>iZp G.K (Cn ((a::es).map (wE n G)))
    | _=>iNo)
   else if x = "reversed" /\ Gp G x=true/\G.gb.lookup x=none/\G.bl.contains x=true/\noStar a=true/\es.isEmpty=true then al1 G.K (wE n G a)
   else Dd G.K (wE n G e)
  | .Call (.Attribute o m ap) [] [] cp=>b89 G tg o m ap cp (wE n G o) (wE n G e)
  | .ListComp a b c d=>Dd G.K (au1 (wE n G (.ListComp a b c d)))
  | e=>Dd G.K (wE n G e)
end
theorem ay5 {X:Cx} {e:Expr}:QT X e tNo:=fun _ _ _ _ _ _ _ _ h=>h.elim
theorem Bp {X:Cx} {w:Expr->DE} (h:∀ e,QE X e (w e)):∀ {es:List Expr},es.all noStar=true->QA X es (Cn (es.map w))
 | [],_=>Q0
 | e::es,hs=>by
  rw [bN,aA] at hs
  exact Mm (h e) (Bp h hs.2) hs.1
theorem Mn {X:Cx} {w:Expr->DE} {op:BoolOp} {pos:Pos} (h:∀ e,QE X e (w e)):∀ {es:List Expr},QE X (.BoolOp op es pos) (Tp X.K op (es.map w))
 | []=>A8
 | [e]=>bg3 (h e)
 | e::e'::es=>by
  cases op with
  | And=>exact be9 (h e) (Mn h)
  | Or=>exact bz3 (h e) (Mn h)
theorem Mp {X:Cx} {w:Expr->DT} {op:BoolOp} {pos:Pos} (h:∀ e,QT X e (w e)):∀ {es:List Expr},QW X (.BoolOp op es pos) (To op (es.map w))
 | []=>fun _ _ _ _ _ _ _ _ _ h=>h.elim
 | [e]=>by
  cases op with
  | And=>exact aq7 (h e)
  | Or=>exact bi1 (h e)
 | e::e'::es=>by
  cases op with
  | And=>exact bi0 (h e) (Mp h)
  | Or=>exact bz5 (h e) (Mp h)
section
variable {X:Cx} {G:Sg}
theorem ap6 (O:GOk X G) {w:Expr->DE} (h:∀ e,QE X e (w e)) (a:Expr) (ops:List md) (bs:List Expr) (pos:Pos):QE X (.Compare a ops bs pos) (Wv G ops bs (w a) (bs.map w)):=by
 unfold Wv
 rw [<- O.K]
 split
 ·rename_i op b d e
  have:d=w b:=by simpa using e.symm
  subst this
  split
  ·exact bf3 O.units op (h a) (h b) ‹_›
  ·exact A8
 ·rename_i op op' b c d d' e
  have:w b=d/\w c=d':=by simpa using e
  obtain⟨rfl,rfl⟩:=this
  split
  ·exact Z8 O.units op op' (h a) (h b) (h c) ‹_›
  ·exact A8
 ·exact A8
theorem aq6 (O:GOk X G) {w:Expr->DE} (h:∀ e,QE X e (w e)) (a:Expr) (ops:List md) (bs:List Expr) (pos:Pos):QT X (.Compare a ops bs pos) (Bi (Wv G ops bs (w a) (bs.map w))):=by
 unfold Wv
 rw [<- O.K]
 split
 ·rename_i op b d e
  have:d=w b:=by simpa using e.symm
  subst this
  split
  ·exact bh6 O.units op (h a) (h b) ‹_›
  ·exact fun _ _ _ _ _ _ _ _ h=>h.elim
 ·rename_i op op' b c d d' e
  have:w b=d/\w c=d':=by simpa using e
  obtain⟨rfl,rfl⟩:=this
  split
  ·exact ab2 O.units op op' (h a) (h b) (h c) ‹_›
  ·exact fun _ _ _ _ _ _ _ _ h=>h.elim
 ·exact fun _ _ _ _ _ _ _ _ h=>h.elim
theorem Z7 (O:GOk X G) {w:Expr->DE} (h:∀ e,QE X e (w e)) (x:Str) (es:List Expr) (p pos:Pos):QE X (.Call (.Name x p) es [] pos) (ah2 G x es (es.map w)):=by
 unfold ah2
 split
 ·rename_i hh
  obtain⟨hg,_,hs⟩:=hh
  have dd:=Ql hg
  split
  ·rename_i i e
   obtain⟨hm,F⟩:=O.at_ x _ e
   split
   ·rename_i hl
    cases es with
    | nil=>exact Z6 F (by have:=hl.1;omega) (O.gl hg) hm dd.1
    | cons e es=>exact ap5 F (by have:=hl.1;omega) (O.gl hg) hm (Bp h hs) hs dd.1
   ·exact A8
  ·rename_i C oi e
   obtain⟨hm,kp,c,hi⟩:=O.at_ x _ e
   split
   ·cases es with
    | nil=>exact Ur (j:=0) c hi (fun i z=>nomatch z) kp (O.gl hg) hm dd.1
    | cons e es=>exact aa2 (j:=0) c hi (fun i z=>nomatch z) kp (O.gl hg) hm (Bp h hs) hs dd.1
   ·rename_i i
    split
    ·rename_i hl
     cases es with
     | nil=>exact Ur c hi (fun i z=>by cases z;have:=hl.1;omega) kp (O.gl hg) hm dd.1
     | cons e es=>exact aa2 c hi (fun i z=>by cases z;have:=hl.1;omega) kp (O.gl hg) hm (Bp h hs) hs dd.1
    ·exact A8
  ·rename_i C oi e
   obtain⟨hm,kp,hi⟩:=O.at_ x _ e
   split
   ·cases es with
    | nil=>exact Uq (j:=0) hi (fun i z=>nomatch z) kp (O.gl hg) hm dd.1
    | cons e es=>exact A8
   ·rename_i i
    split
    ·rename_i hl
     cases es with
     | nil=>exact Uq hi (fun i z=>by cases z;have:=hl.1;omega) kp (O.gl hg) hm dd.1
     | cons e es=>exact bf9 hi (fun i z=>by cases z;have:=hl.1;omega) kp (O.gl hg) hm (Bp h hs) hs dd.1
    ·exact A8
  ·exact A8
  ·rename_i e
   split
   ·rename_i hb
    split
    ·rename_i f r er
     split
     ·exact A8
     ·rename_i hne
      cases es with
      | nil=>exact absurd rfl hne
      | cons e es=>
       rw [<- O.K] at er
       obtain⟨b1,b2⟩:=aj5 O.units er O.calm
       exact bf1 b2 (O.gl hg) (O.bl x hb) b1 (Bp h hs) hs dd.2.2 dd.1
    ·exact A8
   ·exact A8
 ·exact A8
theorem aa1 (O:GOk X G) {w:Expr->DE} (h:∀ e,QE X e (w e)) (o:Expr) (m:Str) (es:List Expr) (ap cp:Pos):QE X (.Call (.Attribute o m ap) es [] cp) (ah4 G o m es ap cp (w o) (es.map w)):=by
 unfold ah4
 rw [<- O.K]
 split
 ·rename_i hh
  obtain⟨h1,h2,h3,h4⟩:=hh
  split
  ·cases es with
   | nil=>exact bg0 (fun b hb=>Zd O.units hb) (h o) h1 h4
   | cons e es=>exact bz2 (fun b hb=>Zd O.units hb) (h o) (Bp h h2) h1 h2 h3 h4
  ·rename_i l e
   cases es with
   | nil=>exact ap9 (O.met m l e) (h o) h1 h4
   | cons e es=>exact bg4 (O.met m l ‹_›) (h o) (Bp h h2) h1 h2 h3 h4
 ·exact A8
end
theorem aa0 {X:Cx} {G:Sg} (O:GOk X G) {w:Expr->DE} (h:∀ e,QE X e (w e)) (o:Expr) (m:Str) (es:List Expr) (ap cp:Pos):QE X (.Call (.Attribute o m ap) es [] cp) (Sy G o m es ap cp (w o) (es.map w)):=by
 unfold Sy
 split
 ·rename_i i e
  unfold a18 at e
  split at e
  ·rename_i c p
   split at e
   ·rename_i hh
    obtain⟨rfl,h1,h2,h3,h4,h5,h6,h7⟩:=hh
    split at e
    ·rename_i C i' eg
     split at e
     ·rename_i hl
      cases e
      obtain⟨g1,g2,g3⟩:=O.at_ c _ eg
      have hn:QE X (.Name c p) (dC (.ref C)):=by
       have q:=Mo O c p
       unfold Pn at q
       rw [h2] at q
       simp only [h1,if_true,eg] at q
       exact q
      cases es with
      | nil=>cases h3
      | cons e es=>exact bf5 hn g2 g3 hl (Bp h h5) h4 h5 h6 h7
     ·cases e
    ·cases e
   ·cases e
  ·cases e
 ·exact aa1 O h o m es ap cp
theorem Hh {X:Cx} {G:Sg} (O:GOk X G) {x:Str} (h:am0 G x=true):Gl X x/\X.mg x=none:=by
 unfold am0 at h
 rw [aA,aA] at h
 exact⟨O.gl h.1.1,O.bl _ h.2⟩
theorem ap8 {X:Cx} {G:Sg} (O:GOk X G) {w:Expr->DE} (h:∀ e,QE X e (w e)) {x:Str} {es:List Expr} {p pos:Pos} {z:Fz} (e:Qh G x es=some z) :
  QE X (.Call (.Name x p) es [] pos) (fzD G.K w z):=by
 unfold Qh at e
 split at e
 ·split at e
  ·rename_i hh
   obtain⟨rfl,rfl,h1,h2,h3,h4⟩:=hh
   cases e
   rw [<- O.K]
   exact Wf (O.calm▸h4) (Hh O h1).1 (Hh O h1).2 (Hh O h2).1 (Hh O h2).2 (h _) h3
  ·cases e
 ·cases e
theorem Ia {X:Cx} {G:Sg} (O:GOk X G) {e:Expr} {kvs:List (Key×V)} (h:Of G e=some kvs):∃ x p a,e=.Name x p/\Ng X.prog X.w X.K a kvs/\QE X (.Name x p) (dC (.ref a)):=by
 unfold Of at h
 split at h
 ·rename_i x p
  split at h
  ·rename_i hg
   split at h
   ·rename_i a kvs' e
    cases h
    obtain⟨hm,k⟩:=O.at_ x _ e
    exact⟨x,p,a,rfl,k,fun Ex m=>Ge (O.gl hg) hm rfl (Ql hg).1⟩
   ·cases h
  ·cases h
 ·cases h
theorem Op {X:Cx} {G:Sg} (O:GOk X G) {ops:List md} {bs:List Expr} {neg:Bool} {kvs:List (Key×V)} (h:Ub G ops bs=some (neg,kvs)):∃ x p a,ops=[if neg then .NotIn else .In]/\bs=[.Name x p]/\Ng X.prog X.w X.K a kvs/\QE X (.Name x p) (dC (.ref a))/\dP (if neg then .NotIn else .In) (.Name x p)=false:=by
 unfold Ub at h
 split at h
 ·split at h
  ·rename_i hb
   obtain⟨k,hk,e⟩:=Option.map_eq_some_iff.mp h
   cases e
   obtain⟨x,p,a,rfl,h1,h2⟩:=Ia O hk
   exact⟨x,p,a,rfl,rfl,h1,h2,hb⟩
  ·cases h
 ·split at h
  ·rename_i hb
   obtain⟨k,hk,e⟩:=Option.map_eq_some_iff.mp h
   cases e
   obtain⟨x,p,a,rfl,h1,h2⟩:=Ia O hk
   exact⟨x,p,a,rfl,rfl,h1,h2,hb⟩
  ·cases h
 ·cases h
theorem br7:∀ (n:Nat) (X:Cx) (G:Sg),GOk X G->(∀ e,QE X e (wE n G e))/\(∀ e,QT X e (wT n G e))/\(∀ tg e,QI X tg e (wI n G tg e)):=by
 intro n
 induction n with
 | zero=>
  intro X G O
  refine⟨fun e=>?_,fun e=>?_,fun tg e=>?_⟩
  ·unfold wE;exact A8
  ·unfold wT;exact ay5
  ·unfold wI;exact ay4
 | succ n ih=>
  intro X G O
  obtain⟨hE,hT,hI⟩:=ih X G O
  have hv:∀ tg e,QI X tg e (Dd G.K (wE n G e)):=fun tg e=>by rw [<- O.K];exact aa7 (hE e)
  refine⟨fun e=>?_,fun e=>?_,fun tg e=>?_⟩
  ·unfold wE
   split
   ·exact Z9 _ _ _
   ·exact Mo O _ _
   ·rw [<- O.K];exact bf0 _ (hE _) (hE _)
   ·exact bg1 (hE _)
   ·rw [<- O.K];exact bg2 (hE _)
   ·exact bf6 (hE _)
   ·rw [<- O.K];exact Mn hE
   ·split
    ·rename_i neg kvs e
     obtain⟨x,p,a,rfl,rfl,h1,h2,h3⟩:=Op O e
     exact bf4 h1 h2 (hE _) h3
    ·exact ap6 O hE _ _ _ _
   ·exact bz0 (hT _) (hE _) (hE _)
   ·split
    ·exact bf8 (Bp hE ‹_›)
    ·exact A8
   ·split
    ·exact bg5 (Bp hE ‹_›)
    ·exact A8
   ·rw [<- O.K]
    refine aa3 (hE _) ?_ ?_
    ·split
     ·exact Us
     ·exact Ut (hE _)
    ·split
     ·exact Us
     ·exact Ut (hE _)
   ·split
    ·rename_i hs
     split
     ·rename_i kvs e
      obtain⟨x,p,a,rfl,h1,h2⟩:=Ia O e
      exact bf7 h1 h2 (hE _) hs
     ·rw [<- O.K];exact bz1 O.units (hE _) (hE _) hs
    ·exact A8
   ·split
    ·rw [<- O.K];exact ap4 (hE _) (Ct ‹_› _ X.env _)
    ·exact A8
   ·split
    ·rename_i x p es pos hl
     unfold ax1 at hl
     rw [aA,aA] at hl
     cases es with
     | nil=>cases hl.1.2
     | cons e es=>exact bf2 (fun i hi=>O.fns hi) (Mo O x p) (Bp hE hl.2) hl.2
    ·split
     ·exact ap8 O hE ‹_›
     ·exact Z7 O hE _ _ _ _
   ·split
    ·rename_i hh
     obtain⟨rfl,rfl,h1,_,h2,h3,h4,h5⟩:=hh
     split
     ·rename_i l el
      obtain⟨k,hk⟩:=Eg el
      rw [<- O.K]
      exact aq0 (O.calm▸h5) (O.gb _ _ hk) (O.gl h1) (O.bl _ h2) (hE _) (hE _) h3 h4
     ·exact A8
    ·exact A8
   ·rename_i ks vs p0
    split
    ·rename_i hh
     have e1:ks=[]:=by simpa using hh.1
     have e2:vs=[]:=by simpa using hh.2
     subst e1 e2
     exact ap7
    ·exact A8
   ·exact aa0 O hE _ _ _ _ _
   ·split
    ·rename_i hh
     obtain⟨h1,h2,h3⟩:=hh
     refine Up O (O.calm▸h1) h2 h3 (hI _ _) (fun X' O'=>Pm n X' _ O' _) (fun X' O'=>?_) (fun X' O'=>(ih X' _ O').1 _)
     split
     ·exact O6
     ·exact O7 ((ih X' _ O').2.1 _)
     ·exact fun _ _ _ _ _ _ _ _ h=>h.elim
    ·exact A8
   ·exact A8
  ·unfold wT
   split
   ·exact bh8 (hT _)
   ·exact fun Ex m=>PW.pt (Mp hT Ex m)
   ·split
    ·rename_i neg kvs e
     obtain⟨x,p,a,rfl,rfl,h1,h2,h3⟩:=Op O e
     exact bh7 h1 h2 (hE _) h3
    ·exact aq6 O hE _ _ _ _
   ·exact ay5
   ·rename_i h1 h2 h3 h4
    rw [<- O.K]
    refine bh9 (hE _) ?_
    cases e with
    | UnaryOp op a p=>cases op <;> first|rfl|exact absurd rfl (h1 _ _)
    | BoolOp op es p=>exact absurd rfl (h2 _ _ _)
    | Compare a b c p=>exact absurd rfl (h3 _ _ _ _)
    | IfExp a b c p=>exact absurd rfl (h4 _ _ _ _)
    | _=>rfl
  ·unfold wI
   split
   ·split
    ·rename_i hh
     obtain⟨rfl,h1,_,h2,h3⟩:=hh
     exact aa6 (O.gl h1) (O.bl _ h2) (Bp hE h3) h3
    ·split
     ·rename_i hh
      obtain⟨rfl,h1,_,h2,h3⟩:=hh
      split
      ·rw [<- O.K];exact bg8 (O.gl h1) (O.bl _ h2) (Bp hE h3) h3
      ·exact ay4
     ·split
      ·rename_i hh
       obtain⟨rfl,h1,_,h2,h3,h4⟩:=hh
       rw [List.isEmpty_iff.mp h4,<- O.K]
       exact bg7 (O.gl h1) (O.bl _ h2) (hE _) h3
      ·exact hv _ _
   ·unfold b89
    split
    ·split
     ·rename_i hh
      obtain⟨rfl,h1,h2⟩:=hh
      exact aa4 (hE _) h1 h2
     ·exact hv _ _
    ·exact hv _ _
   ·rw [<- O.K];exact aa7 (aq1 (hE _))
   ·exact hv _ _
noncomputable def Gu:Expr->Bool
 | .ListComp _ _ _ _=>false
 | .SetComp _ _ _ _=>false
 | .DictComp _ _ _ _ _=>false
 | _=>true
theorem Gv {e:Expr} (h:Gu e=true) (t:Option Expr) (l:Nat) (env:Env):jg e t l env=pure false:=by
 cases e with
 | ListComp _ _ _ _=>cases h
 | SetComp _ _ _ _=>cases h
 | DictComp _ _ _ _ _=>cases h
 | _=>rfl
section
variable {X:Cx} {G:Sg} {st:Stmt} {rest:List Stmt} {t u:DS} {e:Expr} {de:DE} {pos p':Pos}
theorem Bl:QS X st Cg:=fun _ _ _ _ _ _ _ _ h=>h.elim
theorem aq5:QSs X [] Ai:=fun _ _=>ap0
theorem ab1 (h1:QS X st t) (h2:QSs X rest u):QSs X (st::rest) (Ag t u):=fun Ex m=>Z2 (h1 Ex m) (h2 Ex m)
theorem aq3:QS X (.Pass pos) Ai:=fun _ _=>ao7
theorem bh0:QS X (.Break pos) bs7:=fun _ _=>Zz
theorem bh1:QS X (.Continue pos) bs9:=fun _ _=>O5
theorem bh4 (h:QE X e de):QS X (.Return (some e) pos) (A4 de):=fun Ex m=>be3 (h Ex m)
theorem aq4:QS X (.Return none pos) au0:=fun _ _=>ao8
theorem aq2 (h:QE X e de) (hn:Gu e=true):QS X (.Expr e pos) (Cc de):=fun Ex m=>ao6 (h Ex m) (Gv hn _ _ _)
theorem bz4 {c:Expr} {a b:List Stmt} {tc:DT} (hc:QT X c tc) (ha:QSs X a t) (hb:QSs X b u):QS X (.If c a b pos) (dIf tc t u):=fun Ex m=>by8 (hc Ex m) (ha Ex m) (hb Ex m)
theorem aa9 {i:Nat} {x:Str} (O:GOk X G) (hi:C2 G.N x 0=some i) (hx:Qv G x=true) (h:QE X e de) (hn:jg e (some (.Name x p')) pos.line X.env=pure false):QS X (.Assign [.Name x p'] e pos) (A3 i de):=by
 obtain⟨h1,h2⟩:=Mh O hx
 exact fun Ex m=>be4 (by rw [O.N];exact O.nd) (by rw [O.N];exact Em hi) h1 (h Ex m) hn h2
variable {tg iter elt:Expr} {ifs:List Expr} {sc:Scope} {wi:DI} {g:DG} {tc:DT}
theorem Q4 {i:Nat} {x:Str} {cp:Pos} (O:GOk X G) (hi:C2 G.N x 0=some i) (hx:Qv G x=true) (hc:X.calm=true) (hk:Ec G sc=true) (hs:Iy iter=true) (hq:QI X tg iter wi) (hg:∀ X',GOk X' (Cp G sc.names)->PG X' tg g)
  (ht:∀ X',GOk X' (Cp G sc.names)->aj0 X' ifs tc) (he:∀ X',GOk X' (Cp G sc.names)->QE X' elt de) :
  QS X (.Assign [.Name x p'] (.ListComp elt [⟨tg,iter,ifs,0⟩] sc cp) pos) (A3 i (Cy (Es G sc.names) wi g tc de)):=by
 obtain⟨h1,h2⟩:=Mh O hx
 have sw:jg (.ListComp elt [⟨tg,iter,ifs,0⟩] sc cp) (some (.Name x p')) pos.line X.env=pure (X.env.blockKind==.function&&X.env.kindOf x==some .local&&p'.line==(Expr.ListComp elt [⟨tg,iter,ifs,0⟩] sc cp).pos.line
   && !(sc.names.any fun (n,k)=>n==x&&(k==.local||k==.cell))):=rfl
 cases hb:(X.env.blockKind==.function&&X.env.kindOf x==some .local&&p'.line==(Expr.ListComp elt [⟨tg,iter,ifs,0⟩] sc cp).pos.line
   && !(sc.names.any fun (n,k)=>n==x&&(k==.local||k==.cell))) with
 | false=>
  rw [hb] at sw
  exact aa9 O hi hx (Up O hc hk hs hq hg ht he) sw
 | true=>
  rw [hb] at sw
  simp only [aA] at hb
  have hl:X.env.scope.names.lookup x=some .local:=cI hb.1.1.2
  intro Ex m pins s σ H D I h
  exact Yb hc (by rw [O.N];exact O.nd) (by rw [O.N];exact Em hi) hl (Lu O hk) (hq Ex m) (fun us Q2 fp C D s2 H2 I2 f2 hC=>
   have M:=Ir (N':=(Cp G sc.names).N) (cl:=Co X.env.cells sc.names []) (us:=us) (Q2:=Q2) (D:=D) m O.fr I2 f2 hC
   have K:=Tt O hk fp C s2 H2 (Bc X sc (Co X.env.cells sc.names []) us Q2 D C)
   ⟨hg _ K,ht _ K _ M,he _ K _ M⟩) I h sw (fun x=>Iz hs X.env x)
theorem bh3 {body:List Stmt} (O:GOk X G) (ht:G.top=true) (hc:X.calm=true) (hi:QI X tg iter wi) (hg:PG X tg g) (hb:QSs X body t) (hs:Iy iter=true):QS X (.For tg iter body [] pos) (E5 wi g t):=by
 intro Ex m pins s σ H D I h
 refine b6 (be2 (O.own ht) hc (hi Ex m) hg (hb Ex m) (fun x=>Iz hs X.env x) pins s σ H { D with nx:=fun σ' H'=>Thaw H H' (D.nx σ') } I h) (fun f s' q=>?_) fun _ _ z=>z
 cases f with
 | next=>
  obtain⟨σ',H',I',q⟩:=q
  obtain⟨H2,I2,q2⟩:=Thaw.inv I I' q
  exact⟨σ',H2,I2,q2⟩
 | _=>exact q
theorem ab0 {c:Expr} {body:List Stmt} (O:GOk X G) (ht:G.top=true) (hc:QT X c tc) (hb:QSs X body t):QS X (.While c body [] pos) (Hy tc t):=fun Ex m=>Z1 (O.own ht) (hc Ex m) (hb Ex m)
noncomputable def P9 (K:ae) (e:DE):DS:=fun D σ H=>e σ H (ac1 K (D.ex σ)) (D.ex σ)
theorem aa8 (O:GOk X G) (hc:X.A.handled=none) (h:QE X e de):QS X (.Raise (some e) none pos) (P9 X.K de):=fun Ex m=>Z0 m hc (h Ex m)
noncomputable def Zi:Expr->Bool
 | .Tuple _ _ _=>false
 | _=>true
theorem Zj {e:Expr} (h:Zi e=true) (tg:Expr) (env:Env):swappedStores [tg] e env=pure none:=by
 cases e with
 | Tuple _ _ _=>cases h
 | _=>cases tg <;> rfl
theorem bg9 {ts:List Expr} {kt:Nat} {pt:Pos} {g:DG} (h:QE X e de) (hg:PG X (.Tuple ts kt pt) g) (hn:Gu e=true) (ht:Zi e=true):QS X (.Assign [.Tuple ts kt pt] e pos) (Ed de g):=
 fun Ex m=>Zy (h Ex m) hg (show lL [.Tuple ts kt pt] e pos.line X.env=pure false from Gv hn (some (.Tuple ts kt pt)) pos.line X.env) (Zj ht _ _)
noncomputable def Dj (K:ae) (o i:DE):DG:=fun v σ H Q=>o σ H (fun x H1=>i σ H1 (fun y H2=>ac6 x y v H2 (Q σ)) fun _ _=>False) fun _ _=>False
theorem bh5 {o i:Expr} {do' di:DE} (hu:X.A.units+64<cLine) (ho:QE X o do') (hi:QE X i di) (h:QE X e de) (hsl:Ey i=true):QS X (.Assign [.Subscript o i p'] e pos) (Ed de (Dj X.K do' di)):=by
 intro Ex m
 have hg:PG X (.Subscript o i p') (Dj X.K do' di):=be0 (ho _ Ow) (hi _ Ow) (b42 hu) (by
  intro v
  cases i with
  | Slice _ _ _ _=>cases hsl
  | _=>rfl)
 exact Zy (h Ex m) hg (show lL [.Subscript o i p'] e pos.line X.env=pure false from by show jg e (some (.Subscript o i p')) pos.line X.env=pure false;cases e <;> rfl) (by cases e <;> rfl)
noncomputable def a60 (K:ae) (f:Str) (o e:DE):DS:=fun D σ H=>e σ H (fun y H1=>o σ H1 (fun x H2=>az1 K f x y H2 (D.nx σ)) (D.ex σ)) (D.ex σ)
theorem bh2 {o:Expr} {f:Str} {do':DE} (ho:QE X o do') (h:QE X e de):QS X (.Assign [.Attribute o f p'] e pos) (a60 X.K f do' de):=by
 intro Ex m pins s σ H D I hw
 refine plainObj_wpAny_Assign_Attribute (thn (h Ex m pins s σ H _ I hw) fun u s1 ⟨y,H1,I1,ry,q⟩=>thn (ho Ex m pins s1 σ H1 _ I1 q) fun ov s2 ⟨x,H2,I2,rx,q2⟩=>?_) (by cases e <;> rfl)
 exact b39 I2 rx ry q2 fun H' s' I' hN=>⟨σ,H',I',hN⟩
end
mutual
noncomputable def wS:Nat->Sg->Stmt->DS
 | 0,_,_=>Cg
 | n+1,G,st=>match st with
  | .Pass _=>Ai
  | .Break _=>bs7
  | .Continue _=>bs9
  | .Return (some e) _=>A4 (wE n G e)
  | .Return none _=>au0
  | .Expr e _=>if Gu e=true then Cc (wE n G e) else Cg
  | .If c a b _=>dIf (wT n G c) (wSs n G a) (wSs n G b)
  | .Assign [.Name x _] (.ListComp elt [⟨tg,iter,ifs,0⟩] sc _) _=>match C2 G.N x 0 with
   | some i=>if Qv G x=true/\G.calm=true/\Ec G sc=true/\Iy iter=true then
     A3 i (Cy (Es G sc.names) (wI n G tg iter) (wG n (Cp G sc.names) tg) (match ifs with | []=>E7 | [c]=>wT n (Cp G sc.names) c|_=>tNo) (wE n (Cp G sc.names) elt)) else Cg
   | none=>Cg
  | .Assign [.Name x _] e _=>match C2 G.N x 0 with
   | some i=>if Qv G x=true/\Gu e=true then A3 i (wE n G e) else Cg
   | none=>Cg
  | .Assign [.Tuple ts kt pt] e _=>if Gu e=true/\Zi e=true then Ed (wE n G e) (wG n G (.Tuple ts kt pt)) else Cg
  | .Assign [.Attribute o f _] e _=>a60 G.K f (wE n G o) (wE n G e)
  | .Assign [.Subscript o i _] e _=>if Ey i=true then Ed (wE n G e) (Dj G.K (wE n G o) (wE n G i)) else Cg
  | .Raise (some e) none _=>if G.calm=true then P9 G.K (wE n G e) else Cg
  | .For tg iter body [] _=>if G.calm=true/\Iy iter=true/\G.top=true then E5 (wI n G tg iter) (wG n G tg) (wSs n G body) else Cg
  | .While c body [] _=>if G.top=true then Hy (wT n G c) (wSs n G body) else Cg
  | _=>Cg
noncomputable def wSs:Nat->Sg->List Stmt->DS
 | 0,_,_=>Cg
 | _+1,_,[]=>Ai
 | n+1,G,s::r=>Ag (wS n G s) (wSs n G r)
end
theorem a21:∀ (n:Nat) (X:Cx) (G:Sg),GOk X G->(∀ s,QS X s (wS n G s))/\(∀ ss,QSs X ss (wSs n G ss)):=by
 intro n
 induction n with
 | zero=>
  intro X G O
  refine⟨fun s=>?_,fun s=>?_⟩
  ·unfold wS;exact Bl
  ·unfold wSs;exact fun _ _ _ _ _ _ _ _ h=>h.elim
 | succ n ih=>
  intro X G O
  obtain⟨hS,hSs⟩:=ih X G O
  obtain⟨hE,hT,hI⟩:=br7 n X G O
  refine⟨fun s=>?_,fun s=>?_⟩
  ·unfold wS
   split
   ·exact aq3
   ·exact bh0
   ·exact bh1
   ·exact bh4 (hE _)
   ·exact aq4
   ·split
    ·exact aq2 (hE _) ‹_›
    ·exact Bl
   ·exact bz4 (hT _) (hSs _) (hSs _)
   ·split
    ·rename_i i e
     split
     ·rename_i hh
      obtain⟨h1,h2,h3,h4⟩:=hh
      refine Q4 O e h1 (O.calm▸h2) h3 h4 (hI _ _) (fun X' O'=>Pm n X' _ O' _) (fun X' O'=>?_) (fun X' O'=>(br7 n X' _ O').1 _)
      split
      ·exact O6
      ·exact O7 ((br7 n X' _ O').2.1 _)
      ·exact fun _ _ _ _ _ _ _ _ h=>h.elim
     ·exact Bl
    ·exact Bl
   ·split
    ·rename_i i e
     split
     ·rename_i hh
      exact aa9 O e hh.1 (hE _) (Gv hh.2 _ _ _)
     ·exact Bl
    ·exact Bl
   ·split
    ·rename_i hh
     exact bg9 (hE _) (Pm n X G O _) hh.1 hh.2
    ·exact Bl
   ·rw [<- O.K];exact bh2 (hE _) (hE _)
   ·split
    ·rename_i hh
     rw [<- O.K];exact bh5 O.units (hE _) (hE _) (hE _) hh
    ·exact Bl
   ·split
    ·rename_i hcm
     rw [<- O.K];exact aa8 O (O.hd (O.calm▸hcm)) (hE _)
    ·exact Bl
   ·split
    ·rename_i hh
     exact bh3 O hh.2.2 (O.calm▸hh.1) (hI _ _) (Pm n X G O _) (hSs _) hh.2.1
    ·exact Bl
   ·split
    ·rename_i hh
     exact ab0 O hh (hT _) (hSs _)
    ·exact Bl
   ·exact Bl
  ·cases s with
   | nil=>unfold wSs;exact aq5
   | cons a r=>unfold wSs;exact ab1 (hS a) (hSs r)
section
variable {P:aI} {w:bp} {K:ae} {mg:Str->Option Value} {base:Heap}
structure FnIn (P:aI) (w:bp) (K:ae) (mg:Str->Option Value) (base:Heap) (k:Nat) (x:Str) (i:FI):Prop where
 at_:mg x=some (.ref i.f)
 kp:aN K (.ref i.f)=true
 ok:∃ CX,(∀ X':Cx,X'.prog=P->X'.w=w->N7 CX X')/\FnOk P w K mg base CX i.k i.f i.fd i.ps i.sp
 le:i.k<=k
 binds:∀ j,j<=i.dfs.length->Binds K i.fd i.ps (i.ds.drop j)
 vals:Vals i.dfs i.ds
noncomputable def a28 (P:aI) (w:bp) (K:ae) (mg:Str->Option Value) (base:Heap) (k:Nat) (C:Addr):Option FI->Prop
 | none=>aq K (.ref C) "__init__" = some (some (.builtin "ValueError.__init__"))
 | some i=>aq K (.ref C) "__init__" = some (some (.ref i.f))/\cR K (.ref i.f)=true/\aN K (.ref i.f)=true/\(∃ CX,(∀ X':Cx,X'.prog=P->X'.w=w->N7 CX X')/\FnOk P w K mg base CX i.k i.f i.fd i.ps i.sp) /\
   i.k+1<=k/\(∀ j,j<=i.dfs.length->Binds K i.fd i.ps (i.ds.drop j))/\Vals i.dfs i.ds
structure ExcIn (P:aI) (w:bp) (K:ae) (mg:Str->Option Value) (base:Heap) (k:Nat) (x:Str) (C:Addr) (oi:Option FI):Prop where
 at_:mg x=some (.ref C)
 kp:aN K (.ref C)=true
 cls:ECls K C
 init:a28 P w K mg base k C oi
structure FiIn (P:aI) (w:bp) (K:ae) (mg:Str->Option Value) (base:Heap) (k:Nat) (i:FI):Prop where
 kp:aN K (.ref i.f)=true
 ok:∃ CX,(∀ X':Cx,X'.prog=P->X'.w=w->N7 CX X')/\FnOk P w K mg base CX i.k i.f i.fd i.ps i.sp
 le:i.k<=k
 binds:∀ j,j<=i.dfs.length->Binds K i.fd i.ps (i.ds.drop j)
 vals:Vals i.dfs i.ds
theorem FiIn.mono {k k':Nat} {i:FI} (F:FiIn P w K mg base k i) (h:k<=k'):FiIn P w K mg base k' i:=⟨F.kp,F.ok,aL F.le h,F.binds,F.vals⟩
noncomputable def b91 (P:aI) (w:bp) (K:ae) (mg:Str->Option Value) (base:Heap) (k:Nat) (C:Addr):Option FI->Prop
 | none=>bM K C=true/\aq K (.ref C) "__init__" = some (some (.builtin "object.__init__"))
 | some i=>bM K C=true/\aq K (.ref C) "__init__" = some (some (.ref i.f))/\cR K (.ref i.f)=true/\FiIn P w K mg base k i/\i.k+1<=k
structure ClsIn (P:aI) (w:bp) (K:ae) (mg:Str->Option Value) (base:Heap) (k:Nat) (x:Str) (C:Addr) (oi:Option FI):Prop where
 at_:mg x=some (.ref C)
 kp:aN K (.ref C)=true
 made:b91 P w K mg base k C oi
theorem ClsIn.mono {k k':Nat} {x:Str} {C:Addr} {oi:Option FI} (F:ClsIn P w K mg base k x C oi) (h:k<=k'):ClsIn P w K mg base k' x C oi:=by
 refine⟨F.at_,F.kp,?_⟩
 cases oi with
 | none=>exact F.made
 | some i=>obtain⟨a,b,c,d,e⟩:=F.made;exact⟨a,b,c,d.mono h,aL e h⟩
structure MetIn (P:aI) (w:bp) (K:ae) (mg:Str->Option Value) (base:Heap) (k:Nat) (m:Str) (mi:MI):Prop where
 cls:Cls K mi.C
 at_:Bs K mi.C m mi.i.f
 fi:FiIn P w K mg base k mi.i
theorem MetIn.mono {k k':Nat} {m:Str} {mi:MI} (F:MetIn P w K mg base k m mi) (h:k<=k'):MetIn P w K mg base k' m mi:=⟨F.cls,F.at_,F.fi.mono h⟩
theorem ExcIn.mono {P:aI} {w:bp} {K:ae} {mg:Str->Option Value} {base:Heap} {k k':Nat} {x:Str} {C:Addr} {oi:Option FI} (F:ExcIn P w K mg base k x C oi) (h:k<=k'):ExcIn P w K mg base k' x C oi:=by
 refine⟨F.at_,F.kp,F.cls,?_⟩
 cases oi with
 | none=>exact F.init
 | some i=>obtain⟨a,b,c,d,e,f⟩:=F.init;exact⟨a,b,c,d,aL e h,f⟩
structure bs4 (P:aI) (w:bp) (K:ae) (mg:Str->Option Value) (base:Heap) (k:Nat) (x:Str) (C:Addr) (i:FI):Prop where
 at_:mg x=some (.ref C)
 sup:X4 K C i.f
 fi:FiIn P w K mg base k i
structure bs2 (P:aI) (w:bp) (K:ae) (mg:Str->Option Value) (base:Heap) (k:Nat) (m:Str) (mi:MI):Prop where
 met:MetIn P w K mg base k m mi
 sg:dw K (.ref mi.i.f) "__get__" = some (some (.builtin "function.__get__"))
 tk:fw K (.ref mi.i.f)=some false
 cn:PySem.W.copiedNames.contains m=false
 le:mi.i.k+2<=k
noncomputable def GBIn (P:aI) (w:bp) (K:ae) (mg:Str->Option Value) (base:Heap) (k:Nat) (x:Str):GB->Prop
 | .fn i=>FnIn P w K mg base k x i
 | .val v u=>mg x=some u/\RelV v u
 | .exc C oi=>ExcIn P w K mg base k x C oi
 | .cls C oi=>ClsIn P w K mg base k x C oi
 | .met m l=>∀ mi∈l,MetIn P w K mg base k m mi
 | .ini C i=>bs4 P w K mg base k x C i
 | .dic a kvs=>mg x=some (.ref a)/\Ng P w K a kvs
 | .key m l=>∀ mi∈l,bs2 P w K mg base k m mi
structure Tab (P:aI) (w:bp) (K:ae) (mg:Str->Option Value) (base:Heap) (k:Nat) (gb:List (Str×GB)) (bl:List Str):Prop where
 all:∀ x g,(x,g)∈gb->GBIn P w K mg base k x g
 bl:∀ x∈bl,mg x=none
theorem FnIn.mono {k k':Nat} {x:Str} {i:FI} (F:FnIn P w K mg base k x i) (h:k<=k'):FnIn P w K mg base k' x i:=⟨F.at_,F.kp,F.ok,aL F.le h,F.binds,F.vals⟩
theorem GBIn.mono {k k':Nat} {x:Str} {g:GB} (F:GBIn P w K mg base k x g) (h:k<=k'):GBIn P w K mg base k' x g:=by
 cases g with
 | fn i=>exact FnIn.mono F h
 | val v u=>exact F
 | exc C oi=>exact ExcIn.mono F h
 | cls C oi=>exact ClsIn.mono F h
 | met m l=>exact fun mi hm=>(F mi hm).mono h
 | ini C i=>exact⟨F.at_,F.sup,F.fi.mono h⟩
 | dic a kvs=>exact F
 | key m l=>exact fun mi hm=>let q:=F mi hm;⟨q.met.mono h,q.sg,q.tk,q.cn,aL q.le h⟩
theorem Tab.nil {bl:List Str} (h:∀ x∈bl,mg x=none):Tab P w K mg base 0 [] bl:=⟨fun _ _ h=>(by cases h),h⟩
theorem Tab.mono {k k':Nat} {gb:List (Str×GB)} {bl:List Str} (T:Tab P w K mg base k gb bl) (h:k<=k'):Tab P w K mg base k' gb bl:=⟨fun x g hx=>(T.all x g hx).mono h,T.bl⟩
theorem Tab.put {k:Nat} {gb:List (Str×GB)} {bl:List Str} {x:Str} {g:GB} (T:Tab P w K mg base k gb bl) (F:GBIn P w K mg base k x g):Tab P w K mg base k ((x,g)::gb) bl:=
 ⟨fun y j hy=>by
  rcases List.mem_cons.mp hy with e|e
  ·cases e;exact F
  ·exact T.all y j e,T.bl⟩
theorem Tab.cons {k:Nat} {gb:List (Str×GB)} {bl:List Str} {x:Str} {i:FI} (T:Tab P w K mg base k gb bl) (F:FnIn P w K mg base k x i):Tab P w K mg base k ((x,.fn i)::gb) bl:=T.put F
theorem Tab.consX {k:Nat} {gb:List (Str×GB)} {bl:List Str} {x:Str} {C:Addr} {oi:Option FI} (T:Tab P w K mg base k gb bl) (F:ExcIn P w K mg base k x C oi):Tab P w K mg base k ((x,.exc C oi)::gb) bl:=T.put F
theorem Tab.consV {k:Nat} {gb:List (Str×GB)} {bl:List Str} {x:Str} {v:V} {u:Value} (T:Tab P w K mg base k gb bl) (F:mg x=some u) (r:RelV v u):Tab P w K mg base k ((x,.val v u)::gb) bl:=T.put ⟨F,r⟩
theorem Tab.consC {k:Nat} {gb:List (Str×GB)} {bl:List Str} {x:Str} {C:Addr} {oi:Option FI} (T:Tab P w K mg base k gb bl) (F:ClsIn P w K mg base k x C oi):Tab P w K mg base k ((x,.cls C oi)::gb) bl:=T.put F
theorem Tab.consM {k:Nat} {gb:List (Str×GB)} {bl:List Str} {x:Str} {m:Str} {l:List MI} (T:Tab P w K mg base k gb bl) (F:∀ mi∈l,MetIn P w K mg base k m mi):Tab P w K mg base k ((x,.met m l)::gb) bl:=T.put F
theorem Tab.consK {k:Nat} {gb:List (Str×GB)} {bl:List Str} {x:Str} {m:Str} {l:List MI} (T:Tab P w K mg base k gb bl) (F:∀ mi∈l,bs2 P w K mg base k m mi):Tab P w K mg base k ((x,.key m l)::gb) bl:=T.put F
theorem GBIn.there {X:Cx} {k:Nat} {x:Str} {g:GB} (F:GBIn X.prog X.w X.K X.mg X.base k x g) (hr:Room k X.A):GBOk X x g:=by
 cases g with
 | fn i=>exact⟨F.at_,F.kp,F.ok,hr.mono F.le,F.binds,F.vals⟩
 | val v u=>exact F
 | exc C oi=>
  refine⟨F.at_,F.kp,F.cls,?_⟩
  cases oi with
  | none=>exact F.init
  | some i=>obtain⟨a,b,c,d,e,f,g⟩:=F.init;exact⟨a,b,⟨c,d,hr.mono (by omega),f,g⟩,hr.mono e⟩
 | cls C oi=>
  refine⟨F.at_,F.kp,?_⟩
  cases oi with
  | none=>exact F.made
  | some i=>obtain⟨a,b,c,d,e⟩:=F.made;exact⟨a,b,c,⟨d.kp,d.ok,hr.mono d.le,d.binds,d.vals⟩,hr.mono e⟩
 | met m l=>exact fun mi hm=>⟨(F mi hm).cls,(F mi hm).at_,⟨(F mi hm).fi.kp,(F mi hm).fi.ok,hr.mono (F mi hm).fi.le,(F mi hm).fi.binds,(F mi hm).fi.vals⟩⟩
 | ini C i=>exact⟨F.at_,F.sup,⟨F.fi.kp,F.fi.ok,hr.mono F.fi.le,F.fi.binds,F.fi.vals⟩⟩
 | dic a kvs=>exact F
 | key m l=>exact fun mi hm=>let q:=F mi hm;⟨q.met.cls,q.met.at_,q.sg,q.tk,q.cn,⟨q.met.fi.kp,q.met.fi.ok,hr.mono q.met.fi.le,q.met.fi.binds,q.met.fi.vals⟩,hr.mono q.le⟩
theorem Gd (X:Cx):N7 CX0 X:=fun _ _ _ _ _ _ _ _ _ h=>h.elim
noncomputable def Ba (K:ae) (N:List Str) (sc:Scope) (gb:List (Str×GB)) (bl:List Str):Sg:=⟨K,N,sc.names,gb,bl,true,true⟩
noncomputable def Ay (N:List Str) (sc:Scope):Bool:=N.all fun x=>(sc.names.lookup x==some .local)||(sc.names.lookup x==some .cell)
noncomputable def a66 (Q:VK) (E:EK):Ll:=⟨fun _ H'=>Q .non H',Q,fun _ _=>False,fun _ _=>False,fun _=>E⟩
structure FunD (K:ae) (x qual:Str) (st:Stmt) (f:Addr) (fd:au) (dV:Value):Prop where
 ex:∃ (oc:Value) (od:Option Addr) (kV doc pm:Value) (an:Option Addr) (cdv ct:Value) (osl:Array (Option Value)),
  fd=b8 x qual (Bk st) (Aj st) (Ab st) dV kV doc pm an cdv ct/\K.lookup f=some ⟨oc,od,.func fd,osl⟩/\dq K cdv qual=true
 kp:aN K (.ref f)=true
theorem Fun.toD {x qual:Str} {st:Stmt} {f:Addr} {fd:au} (F:Fun K x qual st f fd):FunD K x qual st f fd .none:=⟨F.ex,F.kp⟩
theorem ak5 {x qual:Str} {st:Stmt} {f:Addr} {oc:Value} {od an:Option Addr} {osl:Array (Option Value)} {dV kV doc pm cdv ct:Value} (l:K.lookup f=some ⟨oc,od,.func (b8 x qual (Bk st) (Aj st) (Ab st) dV kV doc pm an cdv ct),osl⟩)
  (c:dq K cdv qual=true) (k:aN K (.ref f)=true):FunD K x qual st f (b8 x qual (Bk st) (Aj st) (Ab st) dV kV doc pm an cdv ct) dV:=⟨⟨oc,od,kV,doc,pm,an,cdv,ct,osl,rfl,l,c⟩,k⟩
theorem FunD.ok {x qual:Str} {st:Stmt} {f:Addr} {fd:au} {dV:Value} {N ps:List Str} {k:Nat} {sp:Sp} (F:FunD K x qual st f fd dV) (S:Al N ps (Ab st)) (len:∀ vs H Q E,sp vs H Q E->vs.length=ps.length)
  (hbody:∀ (cdv:Value) (A:bi) (outer:List Env) (s:aj) (H:Hp) (vs:List V) (Q:VK) (E:XK),Room k (A.deeper (lZ qual (Ab st) s.heap.objs.size f cdv))->sp vs H Q E ->
   ∃ t,PSs (Od CX0 P w K mg base N qual (Ab st) f cdv A outer s H E).nox (Aj st) t/\t { nx:=fun _ H'=>Q .non H',rt:=Q } (start N vs) H):FnOk P w K mg base CX0 (k+1) f fd ps sp:=by
 obtain⟨oc,od,kV,doc,pm,an,cdv,ct,osl,rfl,lk,hcd⟩:=F.ex
 refine bt3 lk hcd S len fun A outer s H vs Q E hr hsp=>?_
 obtain⟨t,h,q⟩:=hbody cdv A outer s H vs Q E hr hsp
 exact⟨t,h.nox,q⟩
theorem Pw {fd:au} {ps:List Str} {T:Addr} {o:Obj} {items:Array Value} {n:Nat} {ds:List Value} (hd:fd.defaults=.ref T) (ho:K.lookup T=some o) (hs:o.data=.seq items n)
  (h:∀ us:List Value,(us++ds).length=ps.length -> ∃ k:Option (Array Value)->Sem (List (Str×Value)),lH fd ⟨us,[]⟩=mq fd.defaults >>= k/\k (some items)=pure (ps.zip (us++ds))):Binds K fd ps ds:=fun s us X hl=>by
 obtain⟨k,h1,h2⟩:=h us hl
 exact PySem.W.binds_K X hd ho hs h1 h2
theorem FunD.okW0 {x qual:Str} {st:Stmt} {f:Addr} {fd:au} {N ps:List Str} {k n:Nat} {sp:Sp} {gb:List (Str×GB)} {bl:List Str} {t:DS} {dV:Value} (F:FunD K x qual st f fd dV) (S:Al N ps (Ab st)) (hv:Ay N (Ab st)=true)
  (T:Tab P w K mg base k gb bl) (rd:wSs n (Ba K N (Ab st) gb bl) (Aj st)=t) (len:∀ vs H Q E,sp vs H Q E->vs.length=ps.length)
  (hbody:∀ (vs:List V) (H:Hp) (Q:VK) (E:XK),sp vs H Q E->t (a66 Q fun _ _=>False) (start N vs) H):FnOk P w K mg base CX0 (k+1) f fd ps sp:=by
 refine F.ok S len fun cdv A outer s H vs Q E hr h=>?_
 have O:GOk (Od CX0 P w K mg base N qual (Ab st) f cdv A outer s H E).nox (Ba K N (Ab st) gb bl):=by
  refine⟨rfl,S.kind,(fun _=>PassesOwn.never),rfl,S.nd,fun x=>rfl,fun x hx=>?_,fun _ _=>rfl,rfl,(fun _=>hr.hd),hr.units,fun x hx=>?_,fun x g e=>?_,fun x hx=>?_,(fun _=>⟨rfl,rfl⟩),⟨_,_,_,rfl,rfl,rfl⟩⟩
  ·have:=List.all_eq_true.mp hv x hx
   rw [dA] at this
   exact this.elim (fun z=>.inl (cI z)) fun z=>.inr (.inl (cI z))
  ·rcases hx with hx|hx
   ·exact Ft hx
   ·exact absurd rfl (S.nofree _ (b7 hx))
  ·exact (T.all x g e).there hr
  ·exact T.bl x (by have hx':bl.contains x=true:=hx;simpa using hx')
 refine⟨_,(a21 n _ _ O).2 (Aj st) (fun _ _ _=>False) (fun _ _ _ _ _ _ _ h=>h.elim),?_⟩
 rw [rd]
 exact hbody vs H Q E h
noncomputable def bt2 (Q:VK) (H:Hp) (E:EK):Ll:=⟨fun _ H'=>Q .non H',fun v H'=>Thaw H H' (Q v),fun _ _=>False,fun _ _=>False,fun _=>E⟩
theorem ao9 {X:Cx} {st:List Stmt} {t:TS} (h:PSs X st t):PSs X st (fun D σ H=>t { D with rt:=fun v H'=>Thaw H H' (D.rt v) } σ H):=fun pins s σ H D I q=>thn (h pins s σ H _ I q) fun f s' p=>by
 cases f with
 | ret u=>
  obtain⟨v,σ',H',I',r,q'⟩:=p
  obtain⟨H2,I2,q2⟩:=Thaw.inv I I' q'
  exact⟨v,σ',H2,I2,r,q2⟩
 | next=>exact p
 | brk=>exact p
 | cont=>exact p
theorem FunD.okWT {x qual:Str} {st:Stmt} {f:Addr} {fd:au} {N ps:List Str} {k n:Nat} {sp:Sp} {gb:List (Str×GB)} {bl:List Str} {t:DS} {dV:Value} (F:FunD K x qual st f fd dV) (S:Al N ps (Ab st)) (hv:Ay N (Ab st)=true)
  (T:Tab P w K mg base k gb bl) (rd:wSs n (Ba K N (Ab st) gb bl) (Aj st)=t) (len:∀ vs H Q E,sp vs H Q E->vs.length=ps.length)
  (hbody:∀ (vs:List V) (H:Hp) (Q:VK) (E:XK),sp vs H Q E->t (bt2 Q H fun _ _=>False) (start N vs) H):FnOk P w K mg base CX0 (k+1) f fd ps sp:=by
 refine F.ok S len fun cdv A outer s H vs Q E hr h=>?_
 have O:GOk (Od CX0 P w K mg base N qual (Ab st) f cdv A outer s H E).nox (Ba K N (Ab st) gb bl):=by
  refine⟨rfl,S.kind,(fun _=>PassesOwn.never),rfl,S.nd,fun x=>rfl,fun x hx=>?_,fun _ _=>rfl,rfl,(fun _=>hr.hd),hr.units,fun x hx=>?_,fun x g e=>?_,fun x hx=>?_,(fun _=>⟨rfl,rfl⟩),⟨_,_,_,rfl,rfl,rfl⟩⟩
  ·have:=List.all_eq_true.mp hv x hx
   rw [dA] at this
   exact this.elim (fun z=>.inl (cI z)) fun z=>.inr (.inl (cI z))
  ·rcases hx with hx|hx
   ·exact Ft hx
   ·exact absurd rfl (S.nofree _ (b7 hx))
  ·exact (T.all x g e).there hr
  ·exact T.bl x (by have hx':bl.contains x=true:=hx;simpa using hx')
 refine⟨_,ao9 ((a21 n _ _ O).2 (Aj st) (fun _ _ _=>False) (fun _ _ _ _ _ _ _ h=>h.elim)),?_⟩
 rw [rd]
 exact hbody vs H Q E h
end
theorem Same.upd {H:Hp} {a:Addr} {o:HO} (h:H a=none):Same H (upd H a o):=fun b u e=>by rw [Ah (Az e h)];exact e
theorem Same.set {H H':Hp} {a:Addr} {o:HO} (s:Same H H') (h:H a=none):Same H (L2.upd H' a o):=fun b u e=>by rw [Ah (Az e h)];exact s b u e
theorem Same.seqT {K:ae} {H H':Hp} {a:Addr} {xs:List V} (e:Same H H') (h:SqT K H a xs):SqT K H' a xs:=by
 rcases h with (h|⟨o,h⟩)|h
 ·exact .inl (.inl (e _ _ h))
 ·exact .inl (.inr ⟨o,e _ _ h⟩)
 ·exact .inr h
structure D9 (J:It) (its:List V) (ok:Hp->Prop):Prop where
 go:∀ i H,ok H->i<its.length->J.go i H
 stop:∀ H,ok H->J.stop its.length H
 yld:∀ i H x H',ok H->i<its.length->J.yld i H x H'->H'=H/\its[i]? = some x
structure Lm (J:It) (its:List (V×V)) (ok:Hp->Prop):Prop where
 go:∀ i H,ok H->i<its.length->J.go i H
 stop:∀ H,ok H->J.stop its.length H
 yld:∀ i H v H',ok H->i<its.length->J.yld i H v H' -> ∃ T x y,H T=none/\v=.ref T/\its[i]? = some (x,y)/\H'=upd H T (.tup [x,y])
theorem Bq {K:ae} {a:Addr} (xs:List V):D9 (Itl K a) xs (fun H=>SqL K H a xs):=by
 refine⟨fun i H q h=>⟨xs,xs[i],q,by simp [h]⟩,fun H q=>⟨xs,q,ah _⟩,fun i H x H' q _ h=>?_⟩
 obtain⟨h1,h2⟩:=h
 exact⟨h1,h2 xs q⟩
noncomputable def Rb (lo:Int) (n:Nat):List V:=(bC n).map fun (i:Nat)=>V.int (lo+(i:Int))
theorem Cm (lo:Int) (n:Nat):(Rb lo n).length=n:=by unfold Rb;simp
theorem Pb {lo:Int} {n i:Nat} (h:i<n):(Rb lo n)[i]? = some (.int (lo+(i:Int))):=by unfold Rb;simp [h]
theorem Dc (lo:Int) (n:Nat):D9 (Itr lo n) (Rb lo n) (fun _=>True):=by
 refine⟨fun i H _ h=>?_,fun H _=>?_,fun i H x H' _ hi h=>?_⟩
 ·rw [Cm] at h;exact h
 ·show n<=(Rb lo n).length;rw [Cm];exact ah _
 ·obtain⟨h1,h2⟩:=h
  rw [Cm] at hi
  exact⟨h1,by rw [Pb hi,h2]⟩
noncomputable def Ra (lo st:Int) (n:Nat):List V:=(bC n).map fun (i:Nat)=>V.int (lo+(i:Int) * st)
theorem Jg (lo st:Int) (n:Nat):(Ra lo st n).length=n:=by unfold Ra;simp
theorem at4 (lo st:Int) (n:Nat):D9 (ah9 lo st n) (Ra lo st n) (fun _=>True):=by
 refine⟨fun i H _ h=>?_,fun H _=>?_,fun i H x H' _ hi h=>?_⟩
 ·rw [Jg] at h;exact h
 ·show n<=(Ra lo st n).length;rw [Jg];exact ah _
 ·obtain⟨h1,h2⟩:=h
  rw [Jg] at hi
  exact⟨h1,by rw [h2];unfold Ra;simp [hi]⟩
theorem br9 {K:ae} {a b:Addr} (xs ys:List V):Lm (Itz K a b) (xs.zip ys) (fun H=>SqL K H a xs/\SqL K H b ys):=by
 have e:(xs.zip ys).length=min xs.length ys.length:=List.length_zip
 refine⟨fun i H q h=>bs0 q.1 q.2 (by omega),fun H q=>⟨xs,ys,q.1,q.2,by omega⟩,fun i H v H' q _ h=>?_⟩
 obtain⟨T,x,y,hT,h1,h2,h3,h4⟩:=h
 refine⟨T,x,y,hT,h1,?_,h4⟩
 rw [List.getElem?_zip_eq_some]
 exact⟨h2 xs q.1,h3 ys q.2⟩
theorem ah7 {p:Addr} {o:Obj} (kvs:List (Key×V)):Lm (a29 p o kvs) (kvs.map fun q=>(kV q.1,q.2)) (fun H=>H p=some (.frz o (.dK kvs))):=by
 refine⟨fun i H q h=>⟨q,by simpa using h⟩,fun H q=>⟨q,by simp⟩,fun i H v H' q _ h=>?_⟩
 obtain⟨T,k,x,hT,h1,h2,h4⟩:=h
 exact⟨T,kV k,x,hT,h1,by rw [aE,h2];rfl,h4⟩
section
variable {J:It} {its:List V} {ok:Hp->Prop} {g:DG} {tb:DS} {D:Ll} {σ:St} {H:Hp}
theorem C3 (Y:D9 J its ok) (Pv:Nat->St->Hp->Prop) (h0:Pv 0 σ H) (hok:∀ i σ H,i<=its.length->Pv i σ H->ok H)
  (hs:∀ i x σ H,its[i]? = some x->Pv i σ H->g x σ H fun σ2 H2=>tb { D with nx:=Pv (i+1),ct:=Pv (i+1),bk:=D.nx } σ2 H2) (hd:∀ σ H,Pv its.length σ H->D.nx σ H):a26 J g tb D σ H:=by
 refine⟨fun i m σ H=>m=its.length - i/\i<=its.length/\Pv i σ H,⟨its.length,by simp,bA _,h0⟩,?_⟩
 rintro i m σ H ⟨rfl,hi,p⟩
 by_cases hlt:i<its.length
 ·refine .inr ⟨Y.go i H (hok i σ H hi p) hlt,Pv (i+1),fun σ' H' p'=>⟨its.length - (i+1),by omega,rfl,hlt,p'⟩,fun x H' y=>?_⟩
  obtain⟨e,y2⟩:=Y.yld i H x H' (hok i σ H hi p) hlt y
  subst e
  exact hs i x σ _ y2 p
 ·have e:i=its.length:=by omega
  subst e
  exact .inl ⟨Y.stop H (hok _ σ H hi p),hd σ H p⟩
theorem Tz {its:List (V×V)} (Y:Lm J its ok) (Pv:Nat->St->Hp->Prop) (h0:Pv 0 σ H) (hok:∀ i σ H,i<=its.length->Pv i σ H->ok H)
  (hs:∀ i x y T σ H,its[i]? = some (x,y)->H T=none->Pv i σ H->g (.ref T) σ (upd H T (.tup [x,y])) fun σ2 H2=>tb { D with nx:=Pv (i+1),ct:=Pv (i+1),bk:=D.nx } σ2 H2) (hd:∀ σ H,Pv its.length σ H->D.nx σ H):a26 J g tb D σ H:=by
 refine⟨fun i m σ H=>m=its.length - i/\i<=its.length/\Pv i σ H,⟨its.length,by simp,bA _,h0⟩,?_⟩
 rintro i m σ H ⟨rfl,hi,p⟩
 by_cases hlt:i<its.length
 ·refine .inr ⟨Y.go i H (hok i σ H hi p) hlt,Pv (i+1),fun σ' H' p'=>⟨its.length - (i+1),by omega,rfl,hlt,p'⟩,fun x H' y=>?_⟩
  obtain⟨T,u,v,hT,e1,e2,e3⟩:=Y.yld i H x H' (hok i σ H hi p) hlt y
  subst e1 e3
  exact hs i u v T σ _ e2 hT p
 ·have e:i=its.length:=by omega
  subst e
  exact .inl ⟨Y.stop H (hok _ σ H hi p),hd σ H p⟩
variable {tc:DT} {te:DE} {L:Addr} {R:Hp->Prop} {E:EK}
theorem Cs (Y:D9 J its ok) (Pv:Nat->St->Hp->Prop) (h0:Pv 0 σ H) (hok:∀ i σ H,i<=its.length->Pv i σ H->ok H)
  (hs:∀ i x σ H,its[i]? = some x->Pv i σ H->g x σ H fun σ3 H3=>tc σ3 H3 (fun b H4=>if b=true then te σ3 H4 (fun v H5=>∃ ys,H5 L=some (.lst ys)/\ys.length<sizeLine/\Pv (i+1) σ3 (upd H5 L (.lst (ys++[v])))) E else Pv (i+1) σ3 H4) E)
  (hd:∀ σ H,Pv its.length σ H->R H):ah8 J g tc te L R σ H E:=by
 refine⟨fun i m σ H=>m=its.length - i/\i<=its.length/\Pv i σ H,⟨its.length,by simp,bA _,h0⟩,?_⟩
 rintro i m σ H ⟨rfl,hi,p⟩
 by_cases hlt:i<its.length
 ·refine .inr ⟨Y.go i H (hok i σ H hi p) hlt,Pv (i+1),fun σ' H' p'=>⟨its.length - (i+1),by omega,rfl,hlt,p'⟩,fun x H' y=>?_⟩
  obtain⟨e,y2⟩:=Y.yld i H x H' (hok i σ H hi p) hlt y
  subst e
  exact hs i x σ _ y2 p
 ·have e:i=its.length:=by omega
  subst e
  exact .inl ⟨Y.stop H (hok _ σ H hi p),hd σ H p⟩
end
section
variable {K:ae} {H H':Hp}
theorem Same.seqL {a:Addr} {xs:List V} (e:Same H H') (h:SqL K H a xs):SqL K H' a xs:=by
 rcases h with (h|⟨o,h⟩)|h
 ·exact .inl (.inl (e _ _ h))
 ·exact .inl (.inr ⟨o,e _ _ h⟩)
 ·exact .inr h
mutual
theorem Fs (S:Same H H'):∀ {d:Dt} {x:V},At K H d x->At K H' d x
 | .at_ v,x,h=>by unfold At at h ⊢;exact h
 | .lst l,x,h=>by unfold At at h ⊢;obtain⟨a,xs,e,q,h⟩:=h;exact⟨a,xs,e,S.seqL q,Dw S h⟩
 | .tup l,x,h=>by unfold At at h ⊢;obtain⟨a,xs,e,q,h⟩:=h;exact⟨a,xs,e,S.seqT q,Dw S h⟩
theorem Dw (S:Same H H'):∀ {ds:List Dt} {xs:List V},AtL K H ds xs->AtL K H' ds xs
 | [],xs,h=>by unfold AtL at h ⊢;exact h
 | d::ds,xs,h=>by unfold AtL at h ⊢;obtain⟨y,ys,e,h1,h2⟩:=h;exact⟨y,ys,e,Fs S h1,Dw S h2⟩
end
theorem A9:AtL K H [] []:=by unfold AtL;rfl
theorem Ap {d:Dt} {ds:List Dt} {x:V} {xs:List V} (h:At K H d x) (t:AtL K H ds xs):AtL K H (d::ds) (x::xs):=by unfold AtL;exact⟨x,xs,rfl,h,t⟩
theorem Ha:∀ {ds:List Dt} {xs:List V} {es:List Dt} {ys:List V},AtL K H ds xs->AtL K H es ys->AtL K H (ds++es) (xs++ys)
 | [],_,_,_,h,g=>by unfold AtL at h;rw [h];exact g
 | c::ds,xs,es,ys,h,g=>by
  unfold AtL at h
  obtain⟨y,zs,rfl,h1,h2⟩:=h
  exact Ap h1 (Ha h2 g)
noncomputable def B4 (z:Str):Dt:=.at_ (.str z)
theorem B7 {z:Str}:At K H (B4 z) (.str z):=by unfold B4 At;exact⟨rfl,rfl⟩
theorem N9:∀ {r:List Str},AtL K H (r.map B4) (r.map V.str)
 | []=>A9
 | _::_=>Ap B7 N9
theorem aj4 {a:Addr} {r:List Str} (h:SqT K H a (r.map V.str)):At K H (.tup (r.map B4)) (.ref a):=by unfold At;exact⟨a,_,rfl,h,N9⟩
theorem Fc {a:Addr} {ds:List Dt} {xs:List V} (h:SqT K H a xs) (g:AtL K H ds xs):At K H (.tup ds) (.ref a):=by unfold At;exact⟨a,xs,rfl,h,g⟩
theorem Ea {a:Addr} {ds:List Dt} {xs:List V} (h:SqL K H a xs) (g:AtL K H ds xs):At K H (.lst ds) (.ref a):=by unfold At;exact⟨a,xs,rfl,h,g⟩
theorem aj3 {x:V} {ds:List Dt} (h:At K H (.tup ds) x):∃ a xs,x=.ref a/\SqT K H a xs/\AtL K H ds xs:=by unfold At at h;exact h
theorem C5 {v:V} (f:Bd v=true):At K H (.at_ v) v:=by unfold At;exact⟨rfl,f⟩
end
theorem Hz {α:Type} {f:α->Dt} {n:Nat} (h:∀ a,dep (f a)<=n):∀ (l:List α),Bx (l.map f)<=n
 | []=>by unfold iG Bx;exact bA _
 | a::l=>by
  rw [aK]
  unfold Bx
  exact Nat.max_le.mpr ⟨h a,Hz h l⟩
theorem Yg (z:Str):dep (B4 z)<=0:=by unfold B4 dep;exact ah _
noncomputable def TKeep (K:ae) (H H':Hp):Prop:=∀ a xs,SqT K H a xs->SqT K H' a xs
section
variable {K:ae} {H H':Hp}
theorem TKeep.of (S:Same H H'):TKeep K H H':=fun _ _ h=>S.seqT h
theorem TKeep.trans {H2:Hp} (h:TKeep K H H') (g:TKeep K H' H2):TKeep K H H2:=fun a xs q=>g a xs (h a xs q)
theorem TKeep.lst {l:Addr} {ys zs:List V} (h:H l=some (.lst ys)):TKeep K H (upd H l (.lst zs)):=fun a xs q=>by
 rcases q with (q|⟨o,q⟩)|q
 ·have ne:a≠l:=fun e=>by subst e;rw [h] at q;cases q
  exact .inl (.inl (by rw [Ah ne];exact q))
 ·have ne:a≠l:=fun e=>by subst e;rw [h] at q;cases q
  exact .inl (.inr ⟨o,by rw [Ah ne];exact q⟩)
 ·exact .inr q
end
end L2
namespace L2
open PySem PySem.Spec PySem.W
structure XC (K:ae) (C:Addr) (bm:List Value):Prop where
 lk:∃ nm q N bs sn sub ab col dd k0 k1 k2 k3 k5,K.lookup C=some (fC nm q C N bs bm true sn sub ab col dd k0 k1 k2 k3 k5 "ValueError.__new__")
 ty:typeIn K (.ref C)=some (.type "type")
 sa:findIn K (.ref C) "__setattr__" = some (some (.builtin "object.__setattr__"))
 ga:findIn K (.ref C) "__getattribute__" = some (some (.builtin "BaseException.__getattribute__"))
 gt:findIn K (.ref C) "__getattr__" = some none
 ca:findIn K (.ref C) "__class__" = some (some (.builtin "object.__class__"))
 hn:specialIn K (.builtin "object.__class__") "__get__" = some (some (.builtin "getset_descriptor.__get__"))
 htk:takesIn K (.builtin "object.__class__")=some true
theorem xc_mk {K:ae} {C N:Addr} {bm bs:List Value} {nm q:Str} {sn:List Str} {sub:List Value} {ab:Bool} {col:Option Bool} {dd:Option Addr} {k0 k1 k2 k3 k5:Option Value}
  (lk:K.lookup C=some (fC nm q C N bs bm true sn sub ab col dd k0 k1 k2 k3 k5 "ValueError.__new__")) (ty:typeIn K (.ref C)=some (.type "type")) (sa:findIn K (.ref C) "__setattr__" = some (some (.builtin "object.__setattr__")))
  (ga:findIn K (.ref C) "__getattribute__" = some (some (.builtin "BaseException.__getattribute__"))) (gt:findIn K (.ref C) "__getattr__" = some none) (ca:findIn K (.ref C) "__class__" = some (some (.builtin "object.__class__")))
  (hn:specialIn K (.builtin "object.__class__") "__get__" = some (some (.builtin "getset_descriptor.__get__"))) (htk:takesIn K (.builtin "object.__class__")=some true):XC K C bm:=⟨⟨_,_,_,_,_,_,_,_,_,_,_,_,_,_,lk⟩,ty,sa,ga,gt,ca,hn,htk⟩
theorem XC.ecls {K:ae} {C:Addr} {bm:List Value} (x:XC K C bm) (h:A2 bm=true):ECls K C:=by
 obtain⟨nm,q,N,bs,sn,sub,ab,col,dd,k0,k1,k2,k3,k5,lk⟩:=x.lk
 exact⟨⟨_,_,_,_,bm,true,_,_,_,_,_,_,_,_,_,_,lk,h,rfl⟩,x.sa,x.ga,x.gt,x.ca,x.hn,x.htk⟩
theorem G3 {K:ae} {fd:au} {ps:List Str} {T:Addr} {o:Obj} {items:Array Value} {n:Nat} {ds:List Value} (m:Nat) (hd:fd.defaults=.ref T) (ho:K.lookup T=some o) (hs:o.data=.seq items n) (hm:m+ds.length=ps.length)
  (h:∀ us:List Value,us.length=m -> ∃ k:Option (Array Value)->Sem (List (Str×Value)),lH fd ⟨us,[]⟩=mq fd.defaults >>= k/\k (some items)=pure (ps.zip (us++ds))):Binds K fd ps ds:=
 Pw hd ho hs fun us hl=>h us (by rw [av] at hl;omega)
end L2
namespace L2
open PySem PySem.Spec PyProof.Rows
section
variable {P:aI} {w:bp} {K:ae} {mg:Str->Option Value} {base:Heap} {x q:Str} {st:Stmt} {f:Addr} {d:au} {ps:List Str}
noncomputable def bs1 (K:ae) (x q:Str) (st:Stmt) (f:Addr):Prop:=∃ d,Fun K x q st f d
structure TopD (K:ae) (q:Str) (st:Stmt) (f:Addr):Prop where
 at_:bt K aZ q=some (some (.ref f))
 d:bs1 K q q st f
structure MetD (K:ae) (x q:Str) (st:Stmt) (f:Addr):Prop where
 fn:cR K (.ref f)=true
 d:bs1 K x q st f
theorem top_mk {oc:Value} {od an:Option Addr} {osl:Array (Option Value)} {kV doc pm cdv ct:Value} (a:bt K aZ q=some (some (.ref f))) (l:K.lookup f=some ⟨oc,od,.func (b8 q q (Bk st) (Aj st) (Ab st) .none kV doc pm an cdv ct),osl⟩)
  (c:dq K cdv q=true) (k:aN K (.ref f)=true):TopD K q st f:=⟨a,_,Qg l c k⟩
theorem met_mk {oc:Value} {od an:Option Addr} {osl:Array (Option Value)} {kV doc pm cdv ct:Value} (l:K.lookup f=some ⟨oc,od,.func (b8 x q (Bk st) (Aj st) (Ab st) .none kV doc pm an cdv ct),osl⟩)
  (c:dq K cdv q=true) (k:aN K (.ref f)=true) (i:cR K (.ref f)=true):MetD K x q st f:=⟨i,_,Qg l c k⟩
structure DOk (K:ae) (mg:Str->Option Value) (q:Str) (st:Stmt) (f:Addr) (d:au) (ps:List Str):Prop where
 F:FunD K q q st f d .none
 b:Binds K d ps []
 m:mg q=some (.ref f)
structure MOk (K:ae) (x q:Str) (st:Stmt) (f:Addr) (d:au) (ps:List Str):Prop where
 F:FunD K x q st f d .none
 b:Binds K d ps []
 i:cR K (.ref f)=true
theorem TopD.ok {h:Heap} (D:TopD K q st f) (X:K.In h) (G:h.Ns aZ mg) (hb:∀ (kV doc pm:Value) (an:Option Addr) (cdv ct:Value) (us:List Value),us.length=ps.length->lH (b8 q q (Bk st) (Aj st) (Ab st) .none kV doc pm an cdv ct) ⟨us,[]⟩=pure (ps.zip us)):∃ d,DOk K mg q st f d ps:=by
 obtain⟨a,d,F⟩:=D
 exact⟨d,F.toD,F.binds hb,ci X G a⟩
theorem MetD.ok (D:MetD K x q st f) (hb:∀ (kV doc pm:Value) (an:Option Addr) (cdv ct:Value) (us:List Value),us.length=ps.length->lH (b8 x q (Bk st) (Aj st) (Ab st) .none kV doc pm an cdv ct) ⟨us,[]⟩=pure (ps.zip us)):∃ d,MOk K x q st f d ps:=by
 obtain⟨a,d,F⟩:=D
 exact⟨d,F.toD,F.binds hb,a⟩
theorem bv2 {i:FI} (h2:i.ds=[]) (b:Binds K i.fd i.ps []):∀ j,j<=i.dfs.length->Binds K i.fd i.ps (i.ds.drop j):=fun j _=>by
 rw [h2,List.drop_nil];exact b
theorem Tab.con {k:Nat} {gb:List (Str×GB)} {bl:List Str} (T:Tab P w K mg base k gb bl) (i:FI) (g:DOk K mg q st i.f i.fd i.ps) (ok:FnOk P w K mg base CX0 i.k i.f i.fd i.ps i.sp) (hk:i.k<=k:=by exact ah _) (h1:i.dfs=[]:=by rfl) (h2:i.ds=[]:=by rfl):Tab P w K mg base k ((q,.fn i)::gb) bl:=
 T.cons ⟨g.m,g.F.kp,⟨CX0,fun X' _ _=>Gd X',ok⟩,hk,bv2 h2 g.b,by rw [h1,h2];exact .nil⟩
theorem MOk.fi {k:Nat} (i:FI) (g:MOk K x q st i.f i.fd i.ps) (ok:FnOk P w K mg base CX0 i.k i.f i.fd i.ps i.sp) (hk:i.k<=k:=by exact jW rfl) (h1:i.dfs=[]:=by rfl) (h2:i.ds=[]:=by rfl):FiIn P w K mg base k i:=
 ⟨g.F.kp,⟨CX0,fun X' _ _=>Gd X',ok⟩,hk,bv2 h2 g.b,by rw [h1,h2];exact .nil⟩
theorem one {C:Addr} {i:FI} {m:Str} {k:Nat} (h:MetIn P w K mg base k m ⟨C,i⟩):∀ mi∈[(⟨C,i⟩:MI)],MetIn P w K mg base k m mi:=fun mi hm=>by
 rw [aT] at hm
 exact hm▸h
end
end L2
namespace K71
open PySem L2
set_option genInjectivity false in
set_option genSizeOfSpec false in
structure Adr where
 f_zw:Addr
 d_zw:au
 f_zba:Addr
 d_zba:au
 f_zao:Addr
 d_zao:au
 f_zau:Addr
 d_zau:au
 f_zx:Addr
 d_zx:au
 f_zap:Addr
 d_zap:au
 f_zad:Addr
 d_zad:au
 f_zaw:Addr
 d_zaw:au
 f_zav:Addr
 d_zav:au
 f_zan:Addr
 d_zan:au
 f_zt:Addr
 d_zt:au
 f_zf:Addr
 d_zf:au
 f_zu:Addr
 d_zu:au
 f_zd:Addr
 d_zd:au
 f_zj:Addr
 d_zj:au
 f_ze:Addr
 d_ze:au
 f_zb:Addr
 d_zb:au
 f_zab:Addr
 d_zab:au
 f_zh:Addr
 d_zh:au
 f_zc:Addr
 d_zc:au
 f_zi:Addr
 d_zi:au
 f_zs:Addr
 d_zs:au
 f_zal:Addr
 d_zal:au
 f_zaa:Addr
 d_zaa:au
 f_za:Addr
 d_za:au
 f_zar:Addr
 d_zar:au
 f_zat:Addr
 d_zat:au
 f_zbc:Addr
 d_zbc:au
 f_zz:Addr
 d_zz:au
 f_zai:Addr
 d_zai:au
 f_zas:Addr
 d_zas:au
 f_zv:Addr
 d_zv:au
 f_zl:Addr
 d_zl:au
 f_zaj:Addr
 d_zaj:au
 f_zac:Addr
 d_zac:au
 f_zq:Addr
 d_zq:au
 f_zah:Addr
 d_zah:au
 f_zp:Addr
 d_zp:au
 f_zr:Addr
 d_zr:au
 f_zay:Addr
 d_zay:au
 f_zn:Addr
 d_zn:au
 f_zm:Addr
 d_zm:au
 f_zk:Addr
 d_zk:au
 f_zo:Addr
 d_zo:au
 f_zak:Addr
 d_zak:au
 f_zy:Addr
 d_zy:au
 f_zg:Addr
 d_zg:au
 f_zaz:Addr
 d_zaz:au
 f_zae:Addr
 d_zae:au
 f_zbb:Addr
 d_zbb:au
 f_zax:Addr
 d_zax:au
 f_zag:Addr
 d_zag:au
 f_zaf:Addr
 d_zaf:au
 f_zaq:Addr
 d_zaq:au
 f_zam:Addr
 d_zam:au
 f_zbd:Addr
 d_zbd:au
 dv_zf:Value
 du_zf:List Value
 c_zbg:Addr
 c_zbf:Addr
 c_zbj:Addr
 c_zbl:Addr
 c_zbi:Addr
 c_zbn:Addr
 c_zbm:Addr
 u_zbo:Value
 u_zbh:Value
 u_zbe:Value
 u_zbk:Value
end K71
set_option maxHeartbeats 400000
namespace L2
section
variable {α:Type} {ch:α->List α} {h:α->Nat}
noncomputable def pre (ch:α->List α):Nat->Int->α->List (Int×α)
 | 0,_,_=>[]
 | k+1,d,n=>(ch n).flatMap fun c=>(d,c)::pre ch k (d+1) c
noncomputable def E9 (ch:α->List α) (h:α->Nat):Prop:=∀ n,∀ c∈ch n,h c<h n
theorem F0 {β:Type} {f g:α->List β}:∀ {l:List α},(∀ x∈l,f x=g x)->l.flatMap f=l.flatMap g
 | [],_=>rfl
 | x::l,e=>by
  rw [i7,i7,e x bv,F0 fun y hy=>e y (aC _ hy)]
theorem Jd (S:E9 ch h):∀ (k:Nat) (n:α) (d:Int),h n<k -> ∀ j,pre ch (k+j) d n=pre ch k d n
 | 0,n,d,hk,j=>by omega
 | k+1,n,d,hk,j=>by
  rw [show k+1+j=(k+j)+1 by omega]
  unfold pre
  refine F0 fun c hc=>?_
  have:=S n c hc
  rw [Jd S k c (d+1) (by omega) j]
theorem Zv (S:E9 ch h) {k j:Nat} {n:α} {d:Int} (hk:h n<k) (hj:h n<j):pre ch k d n=pre ch j d n:=by
 rcases Nat.le_total k j with l|l
 ·obtain⟨i,rfl⟩:=jj l
  exact (Jd S k n d hk i).symm
 ·obtain⟨i,rfl⟩:=jj l
  exact Jd S j n d hj i
noncomputable def due (ch:α->List α) (k:Nat) (ws:List (Int×α)):List (Int×α):=ws.reverse.flatMap fun w=>w::pre ch k (w.1+1) w.2
theorem ak3 {k:Nat}:due ch k []=[]:=rfl
theorem Yl (S:E9 ch h) {k:Nat} (hk:∀ n,h n<k) {fs ws:List (Int×α)} {x:Int×α}:(fs++[x])++due ch k (ws++(ch x.2).reverse.map fun c=>(x.1+1,c))=fs++due ch k (ws++[x]):=by
 unfold due
 rw [kP,kP,kN,kN,<- jx,ku,List.reverse_singleton,List.flatMap_singleton,cN]
 congr 1
 rw [List.singleton_append,cx]
 congr 2
 rw [List.flatMap_map]
 obtain⟨j,rfl⟩:∃ j,k=j+1:=⟨k - 1,by have:=hk x.2;omega⟩
 show (ch x.2).flatMap _=(ch x.2).flatMap _
 refine F0 fun c hc=>?_
 have h1:=S _ c hc
 have h2:=hk x.2
 rw [Zv S (hk c) (show h c<j by omega)]
theorem Vo (S:E9 ch h) {k:Nat} (hk:∀ n,h n<k) {n:α} {d:Int}:due ch k ((ch n).reverse.map fun c=>(d,c))=pre ch k d n:=by
 unfold due
 rw [<- jx,ku,List.flatMap_map]
 obtain⟨j,rfl⟩:∃ j,k=j+1:=⟨k - 1,by have:=hk n;omega⟩
 show _=(ch n).flatMap _
 refine F0 fun c hc=>?_
 have h1:=S _ c hc
 have h2:=hk n
 rw [Zv S (hk c) (show h c<j by omega)]
end
end L2
namespace K71
open PySem L2
mutual
noncomputable def noL:Dt->Bool
 | .at_ _=>true
 | .lst _=>false
 | .tup l=>Fl l
noncomputable def Fl:List Dt->Bool
 | []=>true
 | x::xs=>noL x&&Fl xs
end
mutual
noncomputable def ctS:Dt->Bool
 | .at_ (.str _)=>true
 | .at_ _=>false
 | .lst _=>false
 | .tup l=>Fe l
noncomputable def Fe:List Dt->Bool
 | []=>true
 | x::xs=>ctS x&&Fe xs
end
noncomputable def Fd (d:Dt):Prop:=ctS d=true/\dep d<=5
noncomputable def Kf (i:Int):Dt:=.at_ (.int i)
structure Rc where
 kd:Str
 pr:Str
 rk:Int
 ct:Dt
noncomputable abbrev Rs:=List (Str×Rc)
noncomputable def get (S:Rs) (z:Str):Option Rc:=(S.find? fun p=>decide (p.1=z)).map (·.2)
noncomputable def keys (S:Rs):List Str:=S.map (·.1)
noncomputable def has (S:Rs) (z:Str):Bool:=(get S z).isSome
noncomputable def Aq (S:Rs) (z:Str):Rc:=(get S z).getD ⟨"", "", 0,B4 ""⟩
noncomputable def De (S:Rs) (z:Str) (r:Rc):Rs:=if (S.any fun p=>decide (p.1=z))=true then S.map (fun p=>if p.1=z then (p.1,r) else p) else S++[(z,r)]
noncomputable def rcD (r:Rc):Dt:=.tup [B4 r.kd,B4 r.pr,Kf r.rk,r.ct]
noncomputable def RcAt (K:ae) (H:Hp) (r:Rc) (x:V):Prop:=∃ q y,x=.ref q/\SqT K H q [.str r.kd,.str r.pr,.int r.rk,y]/\At K H r.ct y/\Fd r.ct
noncomputable def KvAt (K:ae) (H:Hp):Rs->List (Key×V)->Prop
 | [],kvs=>kvs=[]
 | (z,r)::S,kvs=>∃ x rest,kvs=(.inr z,x)::rest/\RcAt K H r x/\KvAt K H S rest
noncomputable def RsAt (K:ae) (H:Hp) (d:Addr) (S:Rs):Prop:=∃ kvs,H d=some (.dK kvs)/\KvAt K H S kvs
noncomputable def RdAt (K:ae) (H:Hp) (d:Addr) (S:Rs):Prop:=∃ kvs,Rd H d (.dK kvs)/\KvAt K H S kvs
noncomputable def PlIn (t:Adr) (H:Hp) (p d:Addr):Prop:=∃ dx,H p=some (.ins t.c_zbl dx [("records", .ref d)])
noncomputable def PlAt (K:ae) (t:Adr) (H:Hp) (p d:Addr) (S:Rs):Prop:=PlIn t H p d/\RdAt K H d S
noncomputable def PwAt (K:ae) (t:Adr) (H:Hp) (p d:Addr) (S:Rs):Prop:=PlIn t H p d/\RsAt K H d S
noncomputable def But (d:Addr) (H H':Hp):Prop:=∀ b o,b≠d->H b=some o->H' b=some o
noncomputable def Sm (H H':Hp):Prop:=∀ b o,H b=some o->H' b=some o \/ ∃ kvs u,o=.dK kvs/\H' b=some (.frz u (.dK kvs))
noncomputable def rkf (S:Rs) (z:Str):Int:=(Aq S z).rk
noncomputable def Fm (S:Rs):List Str:=Ak (ltK (rkf S)) (keys S)
noncomputable def chS (S:Rs) (p:Str):List Str:=(Fm S).filter fun z=>decide ((Aq S z).pr=p)
structure Tr (S:Rs):Prop where
 nd:(keys S).Nodup
 few:S.length<=10
 ne:("" : Str)∉keys S
 up:∃ h:Str->Nat,(∀ z,h z<12) /\ ∀ z r,get S z=some r->h z<h r.pr
noncomputable def Cl (S:Rs) (n:Str):List (Int×Str):=pre (chS S) 12 1 n
noncomputable def lnD (S:Rs) (w:Int×Str):Dt:=.tup [Kf w.1,B4 w.2,B4 (Aq S w.2).kd,Kf (Aq S w.2).rk,(Aq S w.2).ct]
noncomputable def Like (S R:Rs):Prop:=(keys S).Perm (keys R) /\ ∀ z,get S z=get R z
noncomputable def UnAt (H:Hp) (u:Addr) (S:Rs):Prop:=∃ kvs,H u=some (.dK kvs) /\ ∀ p,match A6 kvs (.inr p) with
 | none=>chS S p=[]
 | some v=>∃ l,v=.ref l/\H l=some (.lst ((chS S p).map V.str))
noncomputable def PrAt (K:ae) (H:Hp):List (Int×Str)->List V->Prop
 | [],ys=>ys=[]
 | w::ws,ys=>∃ q rest,ys=.ref q::rest/\SqT K H q [.int w.1,.str w.2]/\PrAt K H ws rest
structure An (K:ae) (t:Adr):Prop where
 pl:Cls K t.c_zbl
 plr:NoAttr K t.c_zbl "records"
 kd:∀ C∈[t.c_zbi,t.c_zbn,t.c_zbm],Cls K C
noncomputable def a27 (S:Rs):Prop:=∀ z r,get S z=some r->r.pr = "" \/ ∃ q,get S r.pr=some q/\q.kd = "chapter"
structure TrC (S:Rs):Prop where
 tr:Tr S
 hd:a27 S
 f8:S.length<=8
noncomputable def wyN:Nat->Rs->Str->List Str
 | 0,_,_=>[]
 | n+1,S,z=>if z = "" then [] else wyN n S (Aq S z).pr++[z]
noncomputable def stD (S:Rs) (z:Str):Dt:=.tup [Kf (Aq S z).rk,B4 z,B4 (Aq S z).kd]
noncomputable def wyS (S:Rs) (z:Str):List Str:=wyN 12 S z
noncomputable def Cb (S:Rs) (z:Str):Dt:=.tup ((wyS S z).map (stD S))
noncomputable def OpAt (K:ae) (H:Hp) (o:Option Rc) (x:V):Prop:=match o with
 | none=>x=.non
 | some r=>RcAt K H r x
noncomputable def eqO:Option Rc->Option Rc->Bool
 | none,none=>true
 | some r,some r'=>deq (rcD r) (rcD r')
 | _,_=>false
noncomputable def Tk (b o u:Option Rc):Prop:=o=u\/o=b\/u=b
noncomputable def stl (b o u:Option Rc):Option Rc:=if eqO o b=true then u else o
noncomputable def Nd (E O U R:Rs):Prop:=∀ z,Tk (get E z) (get O z) (get U z)/\get R z=stl (get E z) (get O z) (get U z)
noncomputable def bu9 (n:Int):Int:=n * (n+3) % 2147483587 / 32
noncomputable def bv0 (n:Int):Int:=bu9 (n * n % 2147483629)
noncomputable def Iw (c:Int) (k:Nat):Int:=bv0 ((c % 1000000007+7919 * (k:Int)) * 48271 % 2147483647)
section
noncomputable def C4:Sp:=fun _ _ _ _=>False
noncomputable def az9 (K:ae) (t:Adr):Sp:=C4
noncomputable def a16 (K:ae) (t:Adr):Sp:=C4
noncomputable def ae7 (K:ae) (t:Adr):Sp:=C4
noncomputable def af1 (K:ae) (t:Adr):Sp:=C4
noncomputable def a12 (K:ae) (t:Adr):Sp:=C4
noncomputable def ae6 (K:ae) (t:Adr):Sp:=C4
noncomputable def a07 (K:ae) (t:Adr):Sp:=C4
noncomputable def a08 (K:ae) (t:Adr):Sp:=C4
noncomputable def af2 (K:ae) (t:Adr):Sp:=C4
noncomputable def a06 (K:ae) (t:Adr):Sp:=C4
noncomputable def a05 (K:ae) (t:Adr):Sp:=C4
noncomputable def af3 (K:ae) (t:Adr):Sp:=C4
noncomputable def a15 (K:ae) (t:Adr):Sp:=C4
noncomputable def R9 (K:ae) (t:Adr):Sp:=C4
noncomputable def ae3 (K:ae) (t:Adr):Sp:=fun vs H Q _=>∃ (a dx:Addr),vs=[.ref a]/\H a=some (.ins t.c_zbl dx []) /\ ∀ d,H d=none->Q .non (upd (upd H d (.dK [])) a (.ins t.c_zbl dx [("records", .ref d)]))
noncomputable def ae9 (K:ae) (t:Adr):Sp:=fun vs H Q _=>∃ (p d:Addr) (S:Rs) (z:Str),vs=[.ref p,.str z]/\PlAt K t H p d S/\Q (.bl (has S z)) H
noncomputable def a11 (K:ae) (t:Adr):Sp:=fun vs H Q _=>∃ (p d:Addr) (S:Rs) (z:Str),vs=[.ref p,.str z]/\PlAt K t H p d S/\has S z=true /\ ∀ x,RcAt K H (Aq S z) x->Q x H
noncomputable def az4 (K:ae) (t:Adr):Sp:=fun vs H Q _=>∃ (p d:Addr) (S:Rs) (z:Str),vs=[.ref p,.str z]/\PwAt K t H p d S /\ ∀ x,OpAt K H (get S z) x->Q x H
noncomputable def U1 (K:ae) (t:Adr) (f:Rc->V->V):Sp:=fun vs H Q _=>∃ (p d:Addr) (S:Rs) (z:Str),vs=[.ref p,.str z]/\PlAt K t H p d S/\has S z=true /\ ∀ y,At K H (Aq S z).ct y->Fd (Aq S z).ct->Q (f (Aq S z) y) H
noncomputable def a01 (K:ae) (t:Adr):Sp:=U1 K t fun r _=>.str r.kd
noncomputable def az7 (K:ae) (t:Adr):Sp:=U1 K t fun r _=>.str r.pr
noncomputable def a03 (K:ae) (t:Adr):Sp:=U1 K t fun r _=>.int r.rk
noncomputable def az6 (K:ae) (t:Adr):Sp:=U1 K t fun _ y=>y
noncomputable def a10 (K:ae) (t:Adr):Sp:=fun vs H Q _=>∃ (p d:Addr) (S:Rs),vs=[.ref p]/\PlAt K t H p d S/\(keys S).Nodup/\S.length<=20 /\ ∀ l,H l=none->Q (.ref l) (upd H l (.lst ((Ak ltS (keys S)).map V.str)))
noncomputable def af0 (K:ae) (t:Adr):Sp:=fun vs H Q _=>∃ (p d:Addr) (S:Rs) (z:Str) (r:Rc) (y:V),vs=[.ref p,.str z,.str r.kd,.str r.pr,.int r.rk,y]/\PwAt K t H p d S/\S.length<100/\At K H r.ct y/\Fd r.ct /\ ∀ H',But d H H'->RsAt K H' d (De S z r)->Q .non H'
noncomputable def az8 (K:ae) (t:Adr):Sp:=fun vs H Q _=>∃ (p d:Addr) (S:Rs) (z:Str),vs=[.ref p,.str z]/\PlAt K t H p d S/\has S z=true /\ ∀ q,H q=none->Q (.ref q) (upd H q (.tup [.int (rkf S z),.str z]))
noncomputable def az5 (K:ae) (t:Adr):Sp:=fun vs H Q _=>∃ (p d:Addr) (S:Rs),vs=[.ref p]/\PlAt K t H p d S/\Tr S /\ ∀ H' u,Same H H'->UnAt H' u S->Q (.ref u) H'
noncomputable def ae4 (K:ae) (t:Adr):Sp:=fun vs H Q _=>∃ (p d:Addr) (S:Rs) (n:Str),vs=[.ref p,.str n]/\PlAt K t H p d S/\Tr S /\ ∀ H' a ys,Same H H'->PrAt K H' (Cl S n) ys->H' a=some (.lst ys)->Q (.ref a) H'
noncomputable def a02 (K:ae) (t:Adr):Sp:=fun vs H Q _=>∃ (p d:Addr) (S:Rs) (w:Int×Str),vs=[.ref p,.int w.1,.str w.2]/\PlAt K t H p d S/\has S w.2=true /\ ∀ H' x,Same H H'->At K H' (lnD S w) x->Q x H'
noncomputable def a09 (K:ae) (t:Adr):Sp:=fun vs H Q _=>∃ (p d:Addr) (S:Rs),vs=[.ref p]/\PlAt K t H p d S/\Tr S /\ ∀ H' l ys,Same H H'->H l=none->H' l=some (.lst ys)->AtL K H' ((Cl S "").map (lnD S)) ys->Q (.ref l) H'
noncomputable def as1 (z:Str):Sp:=fun vs H Q _=>∃ s,vs=[s]/\Q (.str z) H
noncomputable def a04 (K:ae) (t:Adr):Sp:=as1 "chapter"
noncomputable def ae8 (K:ae) (t:Adr):Sp:=C4
noncomputable def ae5 (K:ae) (t:Adr):Sp:=C4
noncomputable def a00 (K:ae) (t:Adr):Sp:=fun vs H Q _=>∃ s,vs=[s]/\Q (.bl true) H
noncomputable def af5 (K:ae) (t:Adr):Sp:=fun vs H Q _=>vs=[.str "chapter"] /\ ∀ H' a dx,Same H H'->H' a=some (.ins t.c_zbi dx [])->Q (.ref a) H'
noncomputable def M0 (K:ae) (t:Adr):Sp:=fun vs H Q _=>∃ (b o u:Option Rc) (x y z:V),vs=[x,y,z]/\OpAt K H b x/\OpAt K H o y/\OpAt K H u z/\Tk b o u/\Q (.bl false) H
noncomputable def Sh (K:ae) (t:Adr):Sp:=fun vs H Q _=>∃ (b o u:Option Rc) (x y z:V),vs=[x,y,z]/\OpAt K H b x/\OpAt K H o y/\OpAt K H u z/\Tk b o u /\ ∀ v,OpAt K H (stl b o u) v->Q v H
noncomputable def af4 (K:ae) (t:Adr):Sp:=fun vs H Q _=>∃ (b o u:Option Rc) (x y z:V),vs=[x,y,z]/\OpAt K H b x/\OpAt K H o y/\OpAt K H u z/\Tk b o u /\ ∀ H' q v l,Same H H'->SqT K H' q [v,.ref l]->H' l=some (.lst [])->OpAt K H' (stl b o u) v->Q (.ref q) H'
noncomputable def R5 (K:ae) (t:Adr):Sp:=fun vs H Q _=>∃ (p d:Addr) (S:Rs) (z:Str) (o:Option Rc) (x:V),vs=[.ref p,.str z,x]/\PwAt K t H p d S/\S.length<100/\OpAt K H o x/\(o=none->Q .non H) /\ ∀ r,o=some r -> ∀ H',But d H H'->RsAt K H' d (De S z r)->Q .non H'
noncomputable def R8 (K:ae) (t:Adr):Sp:=fun vs H Q _=>∃ (p d:Addr) (S:Rs) (z:Str),vs=[.ref p,.str z]/\PlAt K t H p d S/\(z = "" \/ ∃ q,get S z=some q/\q.kd = "chapter") /\ ∀ H',Same H H'->Q (.bl true) H'
noncomputable def Mz (K:ae) (t:Adr):Sp:=fun vs H Q _=>∃ (x:V) (l:Addr),vs=[x,.ref l]/\H l=some (.lst [])/\Q .non H
noncomputable def R7 (K:ae) (t:Adr):Sp:=fun vs H Q _=>∃ (p d:Addr) (S:Rs),vs=[.ref p]/\PlAt K t H p d S/\TrC S /\ ∀ H' l,Same H H'->H' l=some (.lst [])->Q (.ref l) H'
noncomputable def Rz (K:ae) (t:Adr):Sp:=fun vs H Q _=>∃ (p d:Addr) (S:Rs),vs=[.ref p]/\PlAt K t H p d S/\TrC S /\ ∀ H' l,Same H H'->H' l=some (.lst [])->Q (.ref l) H'
noncomputable def Ry (K:ae) (t:Adr):Sp:=fun vs H Q _=>∃ (p1 d1 p2 d2 p3 d3:Addr) (E O U R:Rs),vs=[.ref p1,.ref p2,.ref p3]/\PwAt K t H p1 d1 E/\PwAt K t H p2 d2 O/\PwAt K t H p3 d3 U/\TrC E/\TrC O/\TrC U/\TrC R/\Nd E O U R /\ ∀ H' q p l d S,Same H H'->H d=none->SqT K H' q [.ref p,.ref l]->H' l=some (.lst [])->PwAt K t H' p d S->Like S R->Q (.ref q) H'
noncomputable def J7 (K:ae) (t:Adr):Sp:=fun vs H Q _=>∃ (a:Addr) (ns:List Int) (k:Nat),vs=[.ref a,.int k]/\SqL K H a (ns.map V.int) /\ ∀ r:Int,Q (.int r) H
noncomputable def Eo (K:ae) (t:Adr):Sp:=fun vs H Q _=>∃ (c:Int) (k:Nat),vs=[.int c,.int k]/\k<=1000 /\ ∀ r:Int,0<=r->r=Iw c k->Q (.int r) H
noncomputable def En (K:ae) (t:Adr):Sp:=fun vs H Q _=>∃ (c:Int) (k:Nat),vs=[.int c,.int k]/\k<=1000 /\ ∀ (r:Int) H',Same H H'->Q (.int r) H'
noncomputable def R3 (K:ae) (t:Adr):Sp:=fun vs H Q _=>∃ (c:Int) (m:Nat),vs=[.int c,.int m]/\m<=8 /\ ∀ H' l (zs:List Str),Same H H'->H' l=some (.lst (zs.map V.str))->zs.Nodup->zs.length<=8->("" : Str)∉zs->(∀ z∈zs,z.length<=12)->Q (.ref l) H'
noncomputable def Pd (K:ae) (t:Adr):Sp:=fun vs H Q _=>∃ (z n:Str) (c:Int),vs=[.str z,.str n,.int c]/\n.length<=12 /\ ∀ D H' x,Same H H'->Fd D->At K H' D x->Q x H'
noncomputable def R4 (K:ae) (t:Adr):Sp:=fun vs H Q _=>∃ (c:Int) (l:Addr) (zs:List Str),vs=[.int c,.ref l]/\H l=some (.lst (zs.map V.str))/\zs.length<=8 /\ ∀ H' l' (ys:List Str),Same H H'->H' l'=some (.lst (ys.map V.str))->ys.Perm zs->Q (.ref l') H'
noncomputable def Lk (H:Hp) (l:Addr):Prop:=∃ k0 k1 k2 k3:Str,H l=some (.lst [.str k0,.str k1,.str k2,.str k3])
noncomputable def J4 (K:ae) (t:Adr):Sp:=fun vs H Q _=>∃ (d:Addr) (R:Rs) (z:Str) (c:Int) (k:Nat) (l:Addr),vs=[.ref d,.str z,.int c,.int k,.ref l]/\RsAt K H d R/\R.length<=8/\(keys R).Nodup/\z.length<=12/\k<=8/\Lk H l /\ ∀ H' x r,Same H H'->RcAt K H' r x->(r.pr = "" \/ ∃ q,get R r.pr=some q/\q.kd = "chapter")->Q x H'
noncomputable def M5 (K:ae) (t:Adr):Sp:=fun vs H Q _=>∃ (c:Int) (ln de lk:Addr) (zs:List Str) (E:Rs),vs=[.int c,.ref ln,.ref de,.ref lk]/\H ln=some (.lst (zs.map V.str))/\zs.Nodup/\zs.length<=8/\("" : Str)∉zs/\(∀ z∈zs,z.length<=12)/\RsAt K H de E/\Lk H lk /\ ∀ H' d R,Same H H'->H d=none->RsAt K H' d R->TrC R->Q (.ref d) H'
noncomputable def R6 (K:ae) (t:Adr):Sp:=fun vs H Q _=>∃ (d:Addr) (R:Rs) (z:Str),vs=[.ref d,.str z]/\RdAt K H d R/\TrC R/\has R z=true /\ ∀ H' a,Same H H'->At K H' (Cb R z) (.ref a)->Q (.ref a) H'
noncomputable def J5 (K:ae) (t:Adr):Sp:=fun vs H Q _=>∃ (d:Addr) (R:Rs),vs=[.ref d]/\RdAt K H d R/\TrC R /\ ∀ H' l ys,Sm H H'->H l=none->H' l=some (.lst ys)->AtL K H' ((Cl R "").map (lnD R)) ys->Q (.ref l) H'
noncomputable def J6 (K:ae) (t:Adr):Sp:=fun vs H Q _=>∃ (d0:Addr) (R:Rs),vs=[.ref d0]/\RdAt K H d0 R/\TrC R /\ ∀ H' p d,Sm H H'->But d0 H H'->H d=none->PwAt K t H' p d R->Q (.ref p) H'
noncomputable def G1 (K:ae) (t:Adr):Sp:=fun vs H Q _=>∃ (d1 d2 d3 l:Addr) (E O U R:Rs) (ys:List V),vs=[.ref d1,.ref d2,.ref d3,.ref l]/\RdAt K H d1 E/\RdAt K H d2 O/\RdAt K H d3 U/\TrC E/\TrC O/\TrC U/\TrC R/\Nd E O U R/\H l=some (.lst ys)/\AtL K H ((Cl R "").map (lnD R)) ys /\ ∀ H',Sm H H'->Q (.bl true) H'
noncomputable def M8 (K:ae) (t:Adr):Sp:=fun vs H Q _=>∃ (a:Addr) (ns:List Int),vs=[.ref a]/\SqL K H a (ns.map V.int)/\ns.length<=63 /\ ∀ H',Q (.bl true) H'
end
end K71
set_option maxHeartbeats 4000000
namespace K71
open PySem L2
noncomputable def top (i:Nat):Stmt:=PySem.Challenge.pw_manyleaf_k71_one_side.main.body.getD i (.Pass ⟨0,0,0,0⟩)
noncomputable def bl:List Str:=["int", "isinstance", "len", "list", "max", "min", "range", "reversed", "set", "sorted", "str", "tuple", "zip"]
section
variable (K:ae) (t:Adr)
noncomputable abbrev Rv:Stmt:=top 36
noncomputable abbrev a45:List Str:=["_law_script", "_law_k"]
noncomputable abbrev X2:List Str:=["_law_script", "_law_k"]
noncomputable def bu4:FI:=⟨t.f_zw,t.d_zw,X2,1,J7 K t,[],[]⟩
noncomputable abbrev J1:Stmt:=top 37
noncomputable abbrev Xk:List Str:=["_law_cell", "_law_k", "_law_number"]
noncomputable abbrev N4:List Str:=["_law_cell", "_law_k"]
noncomputable def aw8:FI:=⟨t.f_zba,t.d_zba,N4,1,Eo K t,[],[]⟩
noncomputable abbrev Jr:Stmt:=top 39
noncomputable abbrev Xa:List Str:=["_law_cell", "_law_many", "_law_signs", "_law_some", "_law_number", "_law_base", "_law_k", "_law_at", "_law_long", "_law_found", "_law_other"]
noncomputable abbrev Nt:List Str:=["_law_cell", "_law_many"]
noncomputable def av6:FI:=⟨t.f_zao,t.d_zao,Nt,2,R3 K t,[],[]⟩
noncomputable abbrev Jw:Stmt:=top 38
noncomputable abbrev Xf:List Str:=["_law_cell", "_law_k"]
noncomputable abbrev Nz:List Str:=["_law_cell", "_law_k"]
noncomputable def aw2:FI:=⟨t.f_zau,t.d_zau,Nz,2,En K t,[],[]⟩
noncomputable abbrev Rw:Stmt:=top 40
noncomputable abbrev a46:List Str:=["_law_kind", "_law_name", "_law_number", "_law_shape", "_law_rows", "_law_row", "_law_row_cells", "_law_column"]
noncomputable abbrev X3:List Str:=["_law_kind", "_law_name", "_law_number"]
noncomputable def bu5:FI:=⟨t.f_zx,t.d_zx,X3,1,Pd K t,[],[]⟩
noncomputable abbrev Js:Stmt:=top 41
noncomputable abbrev Xb:List Str:=["_law_cell", "_law_names_here", "_law_left", "_law_order_here", "_law_k"]
noncomputable abbrev Nv:List Str:=["_law_cell", "_law_names_here"]
noncomputable def av7:FI:=⟨t.f_zap,t.d_zap,Nv,3,R4 K t,[],[]⟩
noncomputable abbrev Jj:Stmt:=top 42
noncomputable abbrev W2:List Str:=["_law_records", "_law_name", "_law_cell", "_law_k", "_law_kinds", "_law_number", "_law_kind", "_law_parents", "_law_parent", "_law_rank"]
noncomputable abbrev Nj:List Str:=["_law_records", "_law_name", "_law_cell", "_law_k", "_law_kinds"]
noncomputable def au7:FI:=⟨t.f_zad,t.d_zad,Nj,3,J4 K t,[],[]⟩
noncomputable abbrev Jy:Stmt:=top 43
noncomputable abbrev Xh:List Str:=["_law_cell", "_law_names_here", "_law_elder", "_law_kinds", "_law_records", "_law_name", "_law_k", "_law_way", "_law_record_here", "_law_held", "_law_content_here"]
noncomputable abbrev N1:List Str:=["_law_cell", "_law_names_here", "_law_elder", "_law_kinds"]
noncomputable def aw4:FI:=⟨t.f_zaw,t.d_zaw,N1,4,M5 K t,[],[]⟩
noncomputable abbrev Jx:Stmt:=top 44
noncomputable abbrev Xg:List Str:=["_law_records", "_law_name", "_law_path_here", "_law_kind", "_law_parent", "_law_rank", "_law_content_here"]
noncomputable abbrev N0:List Str:=["_law_records", "_law_name"]
noncomputable def aw3:FI:=⟨t.f_zav,t.d_zav,N0,1,R6 K t,[],[]⟩
noncomputable abbrev Jq:Stmt:=top 45
noncomputable abbrev W9:List Str:=["_law_records", "_law_some"]
noncomputable abbrev Nr:List Str:=["_law_records"]
noncomputable def av5:FI:=⟨t.f_zan,t.d_zan,Nr,2,J5 K t,[],[]⟩
noncomputable abbrev Rt:Stmt:=Ax (top 7) 8
noncomputable abbrev a43:List Str:=["self"]
noncomputable abbrev X0:List Str:=["self"]
noncomputable def Oo:FI:=⟨t.f_zt,t.d_zt,X0,1,a10 K t,[],[]⟩
noncomputable abbrev Mv:Stmt:=Ax (top 3) 0
noncomputable abbrev ai1:List Str:=["self", "part", "choice"]
noncomputable def Y0:FI:=⟨t.f_zf,t.d_zf,ai1,1,az9 K t,[.non],t.du_zf⟩
noncomputable abbrev Ru:Stmt:=Ax (top 7) 2
noncomputable abbrev a44:List Str:=["self", "name"]
noncomputable abbrev X1:List Str:=["self", "name"]
noncomputable def Vx:FI:=⟨t.f_zu,t.d_zu,X1,3,a11 K t,[],[]⟩
noncomputable abbrev Ri:Stmt:=Ax (top 7) 5
noncomputable abbrev a33:List Str:=["self", "name"]
noncomputable abbrev Xq:List Str:=["self", "name"]
noncomputable def Yz:FI:=⟨t.f_zd,t.d_zd,Xq,4,az7 K t,[],[]⟩
noncomputable abbrev Rn:Stmt:=Ax (top 7) 6
noncomputable abbrev a38:List Str:=["self", "name"]
noncomputable abbrev Xv:List Str:=["self", "name"]
noncomputable def al4:FI:=⟨t.f_zj,t.d_zj,Xv,4,a03 K t,[],[]⟩
noncomputable abbrev Rj:Stmt:=Ax (top 7) 10
noncomputable abbrev a34:List Str:=["self", "name"]
noncomputable abbrev Xr:List Str:=["self", "name"]
noncomputable def al2:FI:=⟨t.f_ze,t.d_ze,Xr,5,az8 K t,[],[]⟩
noncomputable abbrev Rg:Stmt:=Ax (top 7) 14
noncomputable abbrev a31:List Str:=["self", "unders", "name"]
noncomputable abbrev Xo:List Str:=["self"]
noncomputable def a69:FI:=⟨t.f_zb,t.d_zb,Xo,8,az5 K t,[],[]⟩
noncomputable abbrev Ji:Stmt:=Ax (top 7) 13
noncomputable abbrev W1:List Str:=["self", "name", "unders", "found", "waiting", "line"]
noncomputable abbrev Ni:List Str:=["self", "name"]
noncomputable def Yx:FI:=⟨t.f_zab,t.d_zab,Ni,9,ae4 K t,[],[]⟩
noncomputable abbrev Rl:Stmt:=Ax (top 7) 4
noncomputable abbrev a36:List Str:=["self", "name"]
noncomputable abbrev Xt:List Str:=["self", "name"]
noncomputable def al3:FI:=⟨t.f_zh,t.d_zh,Xt,4,a01 K t,[],[]⟩
noncomputable abbrev Rh:Stmt:=Ax (top 7) 7
noncomputable abbrev a32:List Str:=["self", "name"]
noncomputable abbrev Xp:List Str:=["self", "name"]
noncomputable def a70:FI:=⟨t.f_zc,t.d_zc,Xp,4,az6 K t,[],[]⟩
noncomputable abbrev Rm:Stmt:=Ax (top 7) 16
noncomputable abbrev a37:List Str:=["self", "depth", "name"]
noncomputable abbrev Xu:List Str:=["self", "depth", "name"]
noncomputable def a72:FI:=⟨t.f_zi,t.d_zi,Xu,5,a02 K t,[],[]⟩
noncomputable abbrev Rr:Stmt:=Ax (top 7) 15
noncomputable abbrev a42:List Str:=["self"]
noncomputable abbrev Xz:List Str:=["self"]
noncomputable def al6:FI:=⟨t.f_zs,t.d_zs,Xz,10,a09 K t,[],[]⟩
noncomputable abbrev Jo:Stmt:=Ax (top 7) 17
noncomputable abbrev W7:List Str:=["self", "name", "kind", "parent", "rank", "content"]
noncomputable abbrev Np:List Str:=["self", "name", "kind", "parent", "rank", "content"]
noncomputable def On:FI:=⟨t.f_zal,t.d_zal,Np,1,af0 K t,[],[]⟩
noncomputable abbrev Jh:Stmt:=Ax (top 7) 0
noncomputable abbrev W0:List Str:=["self"]
noncomputable abbrev Nh:List Str:=["self"]
noncomputable def Om:FI:=⟨t.f_zaa,t.d_zaa,Nh,1,ae3 K t,[],[]⟩
noncomputable abbrev Rf:Stmt:=Ax (top 7) 3
noncomputable abbrev a30:List Str:=["self", "name"]
noncomputable abbrev Xn:List Str:=["self", "name"]
noncomputable def Yw:FI:=⟨t.f_za,t.d_za,Xn,1,az4 K t,[],[]⟩
noncomputable abbrev Ju:Stmt:=top 26
noncomputable abbrev Xd:List Str:=["plain", "name", "state"]
noncomputable abbrev Nx:List Str:=["plain", "name", "state"]
noncomputable def av9:FI:=⟨t.f_zar,t.d_zar,Nx,2,R5 K t,[],[]⟩
noncomputable abbrev Jv:Stmt:=top 19
noncomputable abbrev Xe:List Str:=["base", "one", "other"]
noncomputable abbrev Ny:List Str:=["base", "one", "other"]
noncomputable def aw1:FI:=⟨t.f_zat,t.d_zat,Ny,1,M0 K t,[],[]⟩
noncomputable abbrev J2:Stmt:=top 21
noncomputable abbrev Xl:List Str:=["base", "one", "other"]
noncomputable abbrev N5:List Str:=["base", "one", "other"]
noncomputable def ax0:FI:=⟨t.f_zbc,t.d_zbc,N5,2,Sh K t,[],[]⟩
noncomputable abbrev bl6:Stmt:=Ax (top 12) 2
noncomputable abbrev ai9:List Str:=["self", "content"]
noncomputable def al9:FI:=⟨t.f_zz,t.d_zz,ai9,1,a16 K t,[],[]⟩
noncomputable abbrev ad3:Stmt:=top 18
noncomputable abbrev Te:List Str:=["cell"]
noncomputable def av2:FI:=⟨t.f_zai,t.d_zai,Te,1,ae7 K t,[],[]⟩
noncomputable abbrev ad5:Stmt:=top 17
noncomputable abbrev Tg:List Str:=["row"]
noncomputable def aw0:FI:=⟨t.f_zas,t.d_zas,Tg,2,af1 K t,[],[]⟩
noncomputable abbrev bl4:Stmt:=Ax (top 15) 2
noncomputable abbrev ai7:List Str:=["self", "content"]
noncomputable def bu3:FI:=⟨t.f_zv,t.d_zv,ai7,3,a12 K t,[],[]⟩
noncomputable abbrev Ro:Stmt:=Ax (top 13) 0
noncomputable abbrev a39:List Str:=["self"]
noncomputable abbrev Xw:List Str:=["self"]
noncomputable def a73:FI:=⟨t.f_zl,t.d_zl,Xw,1,a04 K t,[],[]⟩
noncomputable abbrev ad4:Stmt:=Ax (top 14) 0
noncomputable abbrev Tf:List Str:=["self"]
noncomputable def av3:FI:=⟨t.f_zaj,t.d_zaj,Tf,1,ae8 K t,[],[]⟩
noncomputable abbrev ad1:Stmt:=Ax (top 15) 0
noncomputable abbrev Tc:List Str:=["self"]
noncomputable def au6:FI:=⟨t.f_zac,t.d_zac,Tc,1,ae5 K t,[],[]⟩
noncomputable abbrev Rq:Stmt:=top 16
noncomputable abbrev a41:List Str:=["word", "kind"]
noncomputable abbrev Xy:List Str:=["word"]
noncomputable def bu2:FI:=⟨t.f_zq,t.d_zq,Xy,2,af5 K t,[],[]⟩
noncomputable abbrev ad2:Stmt:=top 28
noncomputable abbrev Td:List Str:=["record"]
noncomputable def av1:FI:=⟨t.f_zah,t.d_zah,Td,4,ae6 K t,[],[]⟩
noncomputable abbrev bl2:Stmt:=top 20
noncomputable abbrev ai5:List Str:=["base", "one", "other"]
noncomputable def bu1:FI:=⟨t.f_zp,t.d_zp,ai5,3,a07 K t,[],[]⟩
noncomputable abbrev bl3:Stmt:=Ax (top 12) 4
noncomputable abbrev ai6:List Str:=["self", "base", "one", "other"]
noncomputable def al5:FI:=⟨t.f_zr,t.d_zr,ai6,4,a08 K t,[],[]⟩
noncomputable abbrev ad6:Stmt:=top 22
noncomputable abbrev Th:List Str:=["table"]
noncomputable def aw6:FI:=⟨t.f_zay,t.d_zay,Th,1,af2 K t,[],[]⟩
noncomputable abbrev bl1:Stmt:=top 23
noncomputable abbrev ai4:List Str:=["base", "one", "other"]
noncomputable def bt9:FI:=⟨t.f_zn,t.d_zn,ai4,3,a06 K t,[],[]⟩
noncomputable abbrev bl0:Stmt:=Ax (top 15) 4
noncomputable abbrev ai3:List Str:=["self", "base", "one", "other"]
noncomputable def bt8:FI:=⟨t.f_zm,t.d_zm,ai3,4,a05 K t,[],[]⟩
noncomputable abbrev bk9:Stmt:=top 29
noncomputable abbrev ai2:List Str:=["elder", "one", "other"]
noncomputable def bt7:FI:=⟨t.f_zk,t.d_zk,ai2,5,af3 K t,[],[]⟩
noncomputable abbrev Rp:Stmt:=top 27
noncomputable abbrev a40:List Str:=["elder", "one", "other"]
noncomputable abbrev Xx:List Str:=["elder", "one", "other"]
noncomputable def bu0:FI:=⟨t.f_zo,t.d_zo,Xx,6,af4 K t,[],[]⟩
noncomputable abbrev Jn:Stmt:=Ax (top 7) 1
noncomputable abbrev W6:List Str:=["self", "name"]
noncomputable abbrev No:List Str:=["self", "name"]
noncomputable def Yy:FI:=⟨t.f_zak,t.d_zak,No,1,ae9 K t,[],[]⟩
noncomputable abbrev bl5:Stmt:=Ax (top 12) 0
noncomputable abbrev ai8:List Str:=["self"]
noncomputable def al8:FI:=⟨t.f_zy,t.d_zy,ai8,1,a15 K t,[],[]⟩
noncomputable abbrev Rk:Stmt:=Ax (top 13) 1
noncomputable abbrev a35:List Str:=["self"]
noncomputable abbrev Xs:List Str:=["self"]
noncomputable def a71:FI:=⟨t.f_zg,t.d_zg,Xs,1,a00 K t,[],[]⟩
noncomputable abbrev J0:Stmt:=top 31
noncomputable abbrev Xj:List Str:=["plain", "parent"]
noncomputable abbrev N3:List Str:=["plain", "parent"]
noncomputable def aw7:FI:=⟨t.f_zaz,t.d_zaz,N3,5,R8 K t,[],[]⟩
noncomputable abbrev Jk:Stmt:=top 32
noncomputable abbrev W3:List Str:=["plain", "names", "name"]
noncomputable abbrev Nk:List Str:=["plain", "names"]
noncomputable def au8:FI:=⟨t.f_zae,t.d_zae,Nk,5,Mz K t,[],[]⟩
noncomputable abbrev ad7:Stmt:=top 34
noncomputable abbrev Ti:List Str:=["plain", "start"]
noncomputable def aw9:FI:=⟨t.f_zbb,t.d_zbb,Ti,5,R9 K t,[],[]⟩
noncomputable abbrev Jz:Stmt:=top 33
noncomputable abbrev Xi:List Str:=["plain", "rings", "began", "start", "name"]
noncomputable abbrev N2:List Str:=["plain"]
noncomputable def aw5:FI:=⟨t.f_zax,t.d_zax,N2,6,R7 K t,[],[]⟩
noncomputable abbrev Jm:Stmt:=top 30
noncomputable abbrev W5:List Str:=["plain", "loose", "firsts"]
noncomputable abbrev Nn:List Str:=["plain"]
noncomputable def av0:FI:=⟨t.f_zag,t.d_zag,Nn,7,Rz K t,[],[]⟩
noncomputable abbrev Jl:Stmt:=top 25
noncomputable abbrev W4:List Str:=["elder", "one", "other", "plain", "clashes", "name", "joined"]
noncomputable abbrev Nl:List Str:=["elder", "one", "other"]
noncomputable def au9:FI:=⟨t.f_zaf,t.d_zaf,Nl,8,Ry K t,[],[]⟩
noncomputable abbrev Jt:Stmt:=top 46
noncomputable abbrev Xc:List Str:=["_law_records", "_law_plain_here", "_law_name", "_law_record_here"]
noncomputable abbrev Nw:List Str:=["_law_records"]
noncomputable def av8:FI:=⟨t.f_zaq,t.d_zaq,Nw,3,J6 K t,[],[]⟩
noncomputable abbrev Jp:Stmt:=top 47
noncomputable abbrev W8:List Str:=["_law_elder", "_law_one", "_law_other", "_law_due", "_law_three", "_law_plain_here", "_law_told", "_law_name", "_law_some", "_law_records"]
noncomputable abbrev Nq:List Str:=["_law_elder", "_law_one", "_law_other", "_law_due"]
noncomputable def av4:FI:=⟨t.f_zam,t.d_zam,Nq,11,G1 K t,[],[]⟩
noncomputable abbrev Du:Stmt:=top 48
noncomputable abbrev Xm:List Str:=["_law_script", "_law_names_here", "_law_kinds", "_law_k", "_law_some", "_law_elder", "_law_one", "_law_lines_here"]
noncomputable abbrev N6:List Str:=["_law_script"]
noncomputable def Do:List MI:=[⟨t.c_zbl,a69 K t⟩]
noncomputable def Cv:List MI:=[⟨t.c_zbl,a70 K t⟩]
noncomputable def Qs:List MI:=[⟨t.c_zbl,Yy K t⟩]
noncomputable def F9:List MI:=[⟨t.c_zbi,a71 K t⟩,⟨t.c_zbn,al8 K t⟩,⟨t.c_zbm,al8 K t⟩]
noncomputable def Gs:List MI:=[⟨t.c_zbi,al5 K t⟩,⟨t.c_zbn,al5 K t⟩,⟨t.c_zbm,bt8 K t⟩]
noncomputable def Da:List MI:=[⟨t.c_zbl,al3 K t⟩]
noncomputable def Fj:List MI:=[⟨t.c_zbl,On K t⟩]
noncomputable def Fk:List MI:=[⟨t.c_zbl,a72 K t⟩]
noncomputable def Ga:List MI:=[⟨t.c_zbl,al6 K t⟩]
noncomputable def C1:List MI:=[⟨t.c_zbl,Oo K t⟩]
noncomputable def Cj:List MI:=[⟨t.c_zbl,Yz K t⟩]
noncomputable def Db:List MI:=[⟨t.c_zbl,al4 K t⟩]
noncomputable def Ix:List MI:=[⟨t.c_zbi,al9 K t⟩,⟨t.c_zbn,al9 K t⟩,⟨t.c_zbm,bu3 K t⟩]
noncomputable def Dr:List MI:=[⟨t.c_zbl,Vx K t⟩]
noncomputable def Be:List MI:=[⟨t.c_zbl,Yw K t⟩]
noncomputable def Me:List MI:=[⟨t.c_zbl,Yx K t⟩]
noncomputable def Hj:List MI:=[⟨t.c_zbi,a73 K t⟩,⟨t.c_zbn,av3 K t⟩,⟨t.c_zbm,au6 K t⟩]
noncomputable def Bv:List MI:=[⟨t.c_zbl,al2 K t⟩]
noncomputable def By (K:ae) (t:Adr):List (Str×GB):=[("LeafError", .exc t.c_zbg none),("EditError", .val (.ref t.c_zbf) (.ref t.c_zbf)),("NoPart", .val (.ref t.c_zbj) (.ref t.c_zbj)),("Plain", .val (.ref t.c_zbl) (.ref t.c_zbl)),("Chapter", .cls t.c_zbi none),("Para", .cls t.c_zbn none),("Table", .cls t.c_zbm none),("TOP", .val (.str "") t.u_zbo),("ROW_SIGN", .val (.str "/") t.u_zbh),("CELL_SIGN", .val (.str "|") t.u_zbe),("STROKE", .val (.str "\\") t.u_zbk)]
noncomputable def Fg:List (Str×GB):=("", .met "has" (Qs K t))::("", .met "holds" (F9 K t))::("", .met "lay" (Fj K t))::("", .met "names" (C1 K t))::("", .met "state_or_none" (Be K t))::("", .met "word" (Hj K t))::("_law_cell_at", .fn (bu4 K t))::("_law_mix", .fn (aw8 K t))::("_law_content", .fn (bu5 K t))::("_law_path", .fn (aw3 K t))::("is_clash", .fn (aw1 K t))::("shown_cell", .fn (av2 K t))::("shape_of", .fn (aw6 K t))::By K t
noncomputable def Gn:List (Str×GB):=("_law_names", .fn (av6 K t))::("_law_draw", .fn (aw2 K t))::("_law_lines", .fn (av5 K t))::("lay_state", .fn (av9 K t))::("settled", .fn (ax0 K t))::("shown_row", .fn (aw0 K t))::("kind_of_word", .fn (bu2 K t))::("EditError", .exc t.c_zbf (some (Y0 K t)))::("NoPart", .exc t.c_zbj (some (Y0 K t)))::("Plain", .cls t.c_zbl (some (Om K t)))::Fg K t
noncomputable def Fh:List (Str×GB):=("", .met "shown" (Ix K t))::("", .met "state" (Dr K t))::("_law_order", .fn (av7 K t))::("_law_record", .fn (au7 K t))::("joined_whole", .fn (bu1 K t))::("joined_cells", .fn (bt9 K t))::("_law_plain", .fn (av8 K t))::Gn K t
noncomputable def G8:List (Str×GB):=("", .met "content_of" (Cv K t))::("", .met "joined" (Gs K t))::("", .met "kind_of" (Da K t))::("", .met "parent_of" (Cj K t))::("", .met "rank_of" (Db K t))::("_law_side", .fn (aw4 K t))::("record_key", .fn (av1 K t))::Fh K t
noncomputable def Vr:List (Str×GB):=("", .met "line_of" (Fk K t))::("", .met "place_key" (Bv K t))::("joined_record", .fn (bt7 K t))::("is_held", .fn (aw7 K t))::("lay_at_top", .fn (au8 K t))::("ring_of", .fn (aw9 K t))::G8 K t
noncomputable def ak6:List (Str×GB):=("joined_state", .fn (bu0 K t))::("rings_of", .fn (aw5 K t))::Vr K t
noncomputable def Vs:List (Str×GB):=("", .key "place_key" (Bv K t))::("put_at_top", .fn (av0 K t))::ak6 K t
noncomputable def ak7:List (Str×GB):=("", .met "all_unders" (Do K t))::("plain_join", .fn (au9 K t))::Vs K t
noncomputable def ak8:List (Str×GB):=("", .met "walk" (Me K t))::ak7 K t
noncomputable def Ua:List (Str×GB):=("", .met "lines" (Ga K t))::ak8 K t
noncomputable def Yr:List (Str×GB):=("_law_comes", .fn (av4 K t))::Ua K t
end
noncomputable def ce1 (K:ae) (t:Adr):DS:=
 (Ag (dIf (Bi (Af Q7 (Ac 1) (dFn (fun vs H Q _=>(Ki K) vs H Q) (Aa (Ac 0) Ae)))) (Ag (A4 (Af (Av K) (Ac 0) (Ac 1)))
  Ai) Ai)
 (Ag (A4 (Af (Cq K) (dC (.int 104730)) (Ac 1)))
 Ai))
theorem b18 (K:ae) (t:Adr):wSs 40 (Ba K a45 (Ab Rv) (By K t) bl) (Aj Rv)=ce1 K t:=by kernel_rfl
theorem b35:Al a45 X2 (Ab Rv):=⟨rfl,rfl,rfl,by decide +kernel,rfl,by decide +kernel,by decide +kernel⟩
theorem b87:Ay a45 (Ab Rv)=true:=by decide +kernel
noncomputable def b69 (K:ae) (t:Adr):DS:=
 (Ag (A3 2 (Af Bf (Af (Cq K) (Af (A7 K) (Af Bf (Ac 0) (dC (.int 1000000007))) (Af (Cq K) (dC (.int 7919)) (Ac 1))) (dC (.int 48271))) (dC (.int 2147483647))))
 (Ag (A3 2 (Af Bf (Af (Cq K) (Ac 2) (Ac 2)) (dC (.int 2147483629))))
 (Ag (A4 (Af Br (Af Bf (Af (Cq K) (Ac 2) (Af (A7 K) (Ac 2) (dC (.int 3)))) (dC (.int 2147483587))) (dC (.int 32))))
 Ai)))
theorem bk4 (K:ae) (t:Adr):wSs 40 (Ba K Xk (Ab J1) (By K t) bl) (Aj J1)=b69 K t:=by kernel_rfl
theorem bn7:Al Xk N4 (Ab J1):=⟨rfl,rfl,rfl,by decide +kernel,rfl,by decide +kernel,by decide +kernel⟩
theorem br4:Ay Xk (Ab J1)=true:=by decide +kernel
noncomputable def b59 (K:ae) (t:Adr):DS:=
 (Ag (A3 2 (dC (.str "abcdefghijklmnopqrstuvwxyz0123456789.")))
 (Ag (A3 3 (Bt (Aa (dC (.str "chapter")) (Aa (dC (.str "para")) (Aa (dC (.str "table")) (Aa (dC (.str "top")) (Aa (dC (.str "1")) (Aa (dC (.str "10")) (Aa (dC (.str "2")) (Aa (dC (.str "a.")) (Aa (dC (.str ".")) (Aa (dC (.str "a")) (Aa (dC (.str "b")) (Aa (dC (.str "z9")) Ae))))))))))))))
 (Ag (A3 4 (Af Br (dFn (spE (Eo K t) []) (Aa (Ac 0) (Aa (dC (.int 40)) Ae))) (dC (.int 3))))
 (Ag (A3 5 (Cy [none,some 0,some 2] (Ke (Aa (dC (.int 12)) Ae)) (gdN 0) E7 (Af (Av K) (Ac 2) (Af Bf (dFn (spE (Eo K t) []) (Aa (Ac 1) (Aa (Af (A7 K) (dC (.int 41)) (Ac 0)) Ae))) (dC (.int 37))))))
 (Ag (dIf (Bi (Af (Bz K false) (Af Bf (dFn (spE (Eo K t) []) (Aa (Ac 0) (Aa (dC (.int 40)) Ae))) (dC (.int 3))) (dC (.int 0)))) (Ag (A4 (Cy [none,some 5,some 4] (Ke (Aa (Ac 1) Ae)) (gdN 0) E7 (dMt (rMt K [⟨"str", "str.join", Uu K⟩]) (dC (.str "")) (Aa (dSl K (Ac 1) Hx (Hw (Af (A7 K) (dC (.int 1)) (Af Bf (Af (A7 K) (Ac 2) (Af (Cq K) (dC (.int 5)) (Ac 0))) (dC (.int 12)))))) Ae))))
  Ai) Ai)
 (Ag (dIf (Bi (Af (Bz K false) (Af Bf (dFn (spE (Eo K t) []) (Aa (Ac 0) (Aa (dC (.int 40)) Ae))) (dC (.int 3))) (dC (.int 1)))) (Ag (A4 (Cy [none,some 4,some 3] (Ke (Aa (Ac 1) Ae)) (gdN 0) E7 (Af (Av K) (Ac 2) (Af Bf (Af (A7 K) (Ac 1) (Ac 0)) (dC (.int 12))))))
  Ai) Ai)
 (Ag (A3 7 (Af Bf (Ac 4) (dC (.int 12))))
 (Ag (A3 8 (Af (A7 K) (Af (A7 K) (Ac 7) (dC (.int 1))) (Af Bf (Af Br (Ac 4) (dC (.int 12))) (Af az2 (dC (.int 12)) (Ac 7)))))
 (Ag (A3 9 (Bt Ae))
 (Ag (E5 (Ke (Aa (Ac 1) Ae)) (gdN 6) (Ag (A3 10 (Af (Av K) (Ac 2) (Af Bf (Af (A7 K) (dFn (spE (Eo K t) []) (Aa (Ac 0) (Aa (Af (A7 K) (dC (.int 41)) (Ac 7)) Ae))) (Af (Cq K) (dC (.int 5)) (Ac 6))) (dC (.int 37)))))
  (Ag (Cc (dMt (rMt K [⟨"list", "list.append", Cw⟩]) (Ac 9) (Aa (dMt (rMt K [⟨"str", "str.join", Uu K⟩]) (dC (.str "")) (Aa (Af (A7 K) (Af (A7 K) (dSl K (Ac 5) Hx (Hw (Ac 7))) (Bt (Aa (Ac 10) Ae))) (dSl K (Ac 5) (Hw (Af (A7 K) (Ac 7) (dC (.int 1)))) (Hw (Ac 8)))) Ae)) Ae)))
  Ai)))
 (Ag (A4 (Ac 9))
 Ai)))))))))))
theorem bj4 (K:ae) (t:Adr):wSs 40 (Ba K Xa (Ab Jr) (Fg K t) bl) (Aj Jr)=b59 K t:=by kernel_rfl
theorem bm7:Al Xa Nt (Ab Jr):=⟨rfl,rfl,rfl,by decide +kernel,rfl,by decide +kernel,by decide +kernel⟩
theorem bq4:Ay Xa (Ab Jr)=true:=by decide +kernel
noncomputable def b64 (K:ae) (t:Adr):DS:=
 (Ag (dIf (Hu (Bi (Af (Bz K false) (Af Bf (Ac 0) (dC (.int 2))) (dC (.int 1)))) (Bi (Af (Q5 K true) (Af ac3 (Af Br (Ac 0) (dC (.int 2))) (Af (Cq K) (dC (.int 12)) (Ac 1))) (Cz (Aa (dC (.int 0)) (Aa (dUn Uv (dC (.int 1))) Ae)))))) (Ag (A4 (Af ay6 (Af ac3 (Af Br (Ac 0) (dC (.int 2))) (Af (Cq K) (dC (.int 12)) (Ac 1))) (dC (.int 4095))))
  Ai) Ai)
 (Ag (A4 (dFn (spE (Eo K t) []) (Aa (Af Br (Ac 0) (dC (.int 2))) (Aa (Ac 1) Ae))))
 Ai))
theorem bj9 (K:ae) (t:Adr):wSs 40 (Ba K Xf (Ab Jw) (Fg K t) bl) (Aj Jw)=b64 K t:=by kernel_rfl
theorem bn2:Al Xf Nz (Ab Jw):=⟨rfl,rfl,rfl,by decide +kernel,rfl,by decide +kernel,by decide +kernel⟩
theorem bq9:Ay Xf (Ab Jw)=true:=by decide +kernel
noncomputable def ce2 (K:ae) (t:Adr):DS:=
 (Ag (dIf (Bi (Af (Bz K true) (Ac 0) (dC (.str "table")))) (Ag (A4 (Af (Av K) (Bt (Aa (dC (.str "")) (Aa (dC (.str "a")) (Aa (dC (.str "b")) (Aa (dC (.str " |~")) (Aa (Af (Cq K) (dC (.str "a")) (dC (.int 60))) (Aa (dC (.str "10")) Ae))))))) (Af Bf (Ac 2) (dC (.int 6)))))
  Ai) Ai)
 (Ag (A3 3 (Af (A7 K) (dFn (fun vs H Q _=>(Ki K) vs H Q) (Aa (Ac 1) Ae)) (dFn (fun vs H Q _=>aq8 vs H Q) (Aa (Af (Bz K false) (Af Bf (Af Br (Ac 2) (dC (.int 81))) (dC (.int 6))) (dC (.int 5))) Ae))))
 (Ag (A3 4 (Bt Ae))
 (Ag (E5 (Ke (Aa (Af (A7 K) (dC (.int 1)) (Af Bf (Ac 3) (dC (.int 2)))) Ae)) (gdN 5) (Ag (A3 6 (Bt Ae))
  (Ag (E5 (Ke (Aa (Af (A7 K) (dC (.int 1)) (Af Bf (Af Br (Ac 3) (dC (.int 2))) (dC (.int 2)))) Ae)) (gdN 7) (Ag (Cc (dMt (rMt K [⟨"list", "list.append", Cw⟩]) (Ac 6) (Aa (Af (Av K) (Bt (Aa (dC (.str "")) (Aa (dC (.str "x")) (Aa (dC (.str "y/|")) Ae)))) (Af Bf (Af Br (Ac 2) (Af (Av K) (Bt (Aa (dC (.int 1)) (Aa (dC (.int 3)) (Aa (dC (.int 9)) (Aa (dC (.int 27)) Ae))))) (Af (A7 K) (Af (Cq K) (dC (.int 2)) (Ac 5)) (Ac 7)))) (dC (.int 3)))) Ae)))
   Ai))
  (Ag (Cc (dMt (rMt K [⟨"list", "list.append", Cw⟩]) (Ac 4) (Aa (dFn (fun vs H Q _=>(Gz K) vs H Q) (Aa (Ac 6) Ae)) Ae)))
  Ai))))
 (Ag (A4 (dFn (fun vs H Q _=>(Gz K) vs H Q) (Aa (Ac 4) Ae)))
 Ai)))))
theorem b19 (K:ae) (t:Adr):wSs 40 (Ba K a46 (Ab Rw) (By K t) bl) (Aj Rw)=ce2 K t:=by kernel_rfl
theorem b36:Al a46 X3 (Ab Rw):=⟨rfl,rfl,rfl,by decide +kernel,rfl,by decide +kernel,by decide +kernel⟩
theorem b88:Ay a46 (Ab Rw)=true:=by decide +kernel
noncomputable def b60 (K:ae) (t:Adr):DS:=
 (Ag (A3 2 (dFn (fun vs H Q _=>(ab5 K true) vs H Q) (Aa (Ac 1) Ae)))
 (Ag (A3 3 (Bt Ae))
 (Ag (E5 (Ke (Aa (dFn (fun vs H Q _=>(Ki K) vs H Q) (Aa (Ac 1) Ae)) Ae)) (gdN 4) (Ag (Cc (dMt (rMt K [⟨"list", "list.append", Cw⟩]) (Ac 3) (Aa (dMt (rMt K [⟨"list", "list.pop", ac0⟩,⟨"dict", "dict.pop", O8⟩]) (Ac 2) (Aa (Af Bf (dFn (spE (En K t) []) (Aa (Ac 0) (Aa (Af (A7 K) (dC (.int 40)) (Ac 4)) Ae))) (dFn (fun vs H Q _=>(Ki K) vs H Q) (Aa (Ac 2) Ae))) Ae)) Ae)))
  Ai))
 (Ag (A4 (Ac 3))
 Ai))))
theorem bj5 (K:ae) (t:Adr):wSs 40 (Ba K Xb (Ab Js) (Gn K t) bl) (Aj Js)=b60 K t:=by kernel_rfl
theorem bm8:Al Xb Nv (Ab Js):=⟨rfl,rfl,rfl,by decide +kernel,rfl,by decide +kernel,by decide +kernel⟩
theorem bq5:Ay Xb (Ab Js)=true:=by decide +kernel
noncomputable def b51 (K:ae) (t:Adr):DS:=
 (Ag (A3 5 (dFn (spE (En K t) []) (Aa (Ac 2) (Aa (Af (A7 K) (Af (Cq K) (dC (.int 4)) (Ac 3)) (dC (.int 1))) Ae))))
 (Ag (A3 6 (Af (Av K) (Ac 4) (Af Bf (Ac 5) (dC (.int 4)))))
 (Ag (A3 7 (Af (A7 K) (Bt (Aa (dC (.str "")) Ae)) (Cy [none,some 0] (Dd K (Ac 0)) (gdN 0) (Bi (Af (Bz K false) (Af (Av K) (Af (Av K) (Ac 1) (Ac 0)) (dC (.int 0))) (dC (.str "chapter")))) (Ac 0))))
 (Ag (A3 8 (Af (Av K) (Ac 7) (Af Bf (Af Br (Ac 5) (dC (.int 4))) (dFn (fun vs H Q _=>(Ki K) vs H Q) (Aa (Ac 7) Ae)))))
 (Ag (A3 9 (Af (Av K) (Bt (Aa (dC (.int 0)) (Aa (dC (.int 1)) (Aa (Af Bf (Af Br (Ac 5) (dC (.int 64))) (dC (.int 10))) (Aa (Af ay9 (dC (.int 10)) (dC (.int 9))) Ae))))) (Af Bf (Af Br (Ac 5) (dC (.int 16))) (dC (.int 4)))))
 (Ag (A4 (Cz (Aa (Ac 6) (Aa (Ac 8) (Aa (Ac 9) (Aa (dFn (spE (Pd K t) []) (Aa (Ac 6) (Aa (Ac 1) (Aa (dFn (spE (En K t) []) (Aa (Ac 2) (Aa (Af (A7 K) (Af (Cq K) (dC (.int 4)) (Ac 3)) (dC (.int 2))) Ae))) Ae)))) Ae))))))
 Ai))))))
theorem bi6 (K:ae) (t:Adr):wSs 40 (Ba K W2 (Ab Jj) (Gn K t) bl) (Aj Jj)=b51 K t:=by kernel_rfl
theorem bl9:Al W2 Nj (Ab Jj):=⟨rfl,rfl,rfl,by decide +kernel,rfl,by decide +kernel,by decide +kernel⟩
theorem bp6:Ay W2 (Ab Jj)=true:=by decide +kernel
noncomputable def b66 (K:ae) (t:Adr):DS:=
 (Ag (A3 4 Hv)
 (Ag (E5 (Dd K (dFn (spE (R4 K t) []) (Aa (Ac 0) (Aa (Ac 1) Ae)))) (gdN 5) (Ag (A3 6 (dMt (rMt K [⟨"list", "list.index", Mq⟩]) (Ac 1) (Aa (Ac 5) Ae)))
  (Ag (A3 7 (Af Bf (dFn (spE (En K t) []) (Aa (Ac 0) (Aa (Af (A7 K) (Af (Cq K) (dC (.int 4)) (Ac 6)) (dC (.int 3))) Ae))) (dC (.int 8))))
  (Ag (A3 8 (dMt (rMt K [⟨"dict", "dict.get", Gg⟩]) (Ac 2) (Aa (Ac 5) (Aa (Cz (Aa (dC (.str "")) (Aa (dC (.str "none")) (Aa (dC (.int 0)) (Aa (dC (.str "")) Ae))))) Ae))))
  (Ag (A3 9 (Ku K (Af (Q5 K false) (Ac 5) (Ac 2)) (aj9 K (Af (Bz K false) (Af (Av K) (Ac 8) (dC (.int 1))) (dC (.str ""))) (Af (Bz K false) (Af (Av K) (dMt (rMt K [⟨"dict", "dict.get", Gg⟩]) (Ac 4) (Aa (Af (Av K) (Ac 8) (dC (.int 1))) (Aa (Cz (Aa (dC (.str "")) (Aa (dC (.str "")) Ae))) Ae))) (dC (.int 0))) (dC (.str "chapter"))))))
  (Ag (dIf (Hu (E6 K (Ac 9)) (Bi (Af Q7 (Ac 7) (dC (.int 3))))) (Ag (Ed (Ac 8) (Dj K (Ac 4) (Ac 5)))
   Ai) (Ag (dIf (Hu (E6 K (Ac 9)) (Bi (Af (Bz K false) (Ac 7) (dC (.int 3))))) (Ag (Ed (Cz (Aa (Af (Av K) (Ac 8) (dC (.int 0))) (Aa (Af (Av K) (Ac 8) (dC (.int 1))) (Aa (Af (A7 K) (Af Br (Af (Av K) (Ac 8) (dC (.int 2))) (dC (.int 2))) (dC (.int 1))) (Aa (Af (Av K) (Ac 8) (dC (.int 3))) Ae))))) (Dj K (Ac 4) (Ac 5)))
    Ai) (Ag (dIf (Hu (E6 K (Ac 9)) (Bi (Af (Bz K false) (Ac 7) (dC (.int 4))))) (Ag (A3 10 (dFn (spE (Pd K t) []) (Aa (Af (Av K) (Ac 8) (dC (.int 0))) (Aa (Ac 5) (Aa (dFn (spE (En K t) []) (Aa (Ac 0) (Aa (Af (A7 K) (Af (Cq K) (dC (.int 4)) (Ac 6)) (dC (.int 2))) Ae))) Ae)))))
     (Ag (Ed (Cz (Aa (Af (Av K) (Ac 8) (dC (.int 0))) (Aa (Af (Av K) (Ac 8) (dC (.int 1))) (Aa (Af (Av K) (Ac 8) (dC (.int 2))) (Aa (Ac 10) Ae))))) (Dj K (Ac 4) (Ac 5)))
     Ai)) (Ag (dIf (Bi (Af Q7 (Ac 7) (dC (.int 7)))) (Ag (Ed (dFn (spE (J4 K t) []) (Aa (Ac 4) (Aa (Ac 5) (Aa (Ac 0) (Aa (Ac 6) (Aa (Ac 3) Ae)))))) (Dj K (Ac 4) (Ac 5)))
      Ai) Ai)
     Ai))
    Ai))
   Ai))
  Ai))))))
 (Ag (A4 (Ac 4))
 Ai)))
theorem bk1 (K:ae) (t:Adr):wSs 40 (Ba K Xh (Ab Jy) (Fh K t) bl) (Aj Jy)=b66 K t:=by kernel_rfl
theorem bn4:Al Xh N1 (Ab Jy):=⟨rfl,rfl,rfl,by decide +kernel,rfl,by decide +kernel,by decide +kernel⟩
theorem br1:Ay Xh (Ab Jy)=true:=by decide +kernel
noncomputable def b65 (K:ae) (t:Adr):DS:=
 (Ag (A3 2 (Bt Ae))
 (Ag (Hy (Bi (Af (Bz K true) (Ac 1) (dC (.str "")))) (Ag (Ed (Af (Av K) (Ac 0) (Ac 1)) (gdT K 4 [(gdN 3),(gdN 4),(gdN 5),(gdN 6)]))
  (Ag (Cc (dMt (rMt K [⟨"list", "list.insert", Hm⟩]) (Ac 2) (Aa (dC (.int 0)) (Aa (Cz (Aa (Ac 5) (Aa (Ac 1) (Aa (Ac 3) Ae)))) Ae))))
  (Ag (A3 1 (Ac 4))
  Ai))))
 (Ag (A4 (dFn (fun vs H Q _=>(Gz K) vs H Q) (Aa (Ac 2) Ae)))
 Ai)))
theorem bk0 (K:ae) (t:Adr):wSs 40 (Ba K Xg (Ab Jx) (By K t) bl) (Aj Jx)=b65 K t:=by kernel_rfl
theorem bn3:Al Xg N0 (Ab Jx):=⟨rfl,rfl,rfl,by decide +kernel,rfl,by decide +kernel,by decide +kernel⟩
theorem br0:Ay Xg (Ab Jx)=true:=by decide +kernel
noncomputable def b58 (K:ae) (t:Adr):DS:=
 (Ag (A3 1 (dFn (fun vs H Q _=>(Mt K true) vs H Q) (Aa (Cy [none,some 0] (Dd K (Ac 0)) (gdN 0) E7 (Cz (Aa (dFn (spE (R6 K t) []) (Aa (Ac 1) (Aa (Ac 0) Ae))) (Aa (Ac 0) Ae)))) Ae)))
 (Ag (A4 (Cy [none,none,some 0] (Dd K (Ac 1)) (gdT K 2 [(gdN 0),(gdN 1)]) E7 (Cz (Aa (dFn (fun vs H Q _=>(Ki K) vs H Q) (Aa (Ac 0) Ae)) (Aa (Ac 1) (Aa (Af (Av K) (Af (Av K) (Ac 2) (Ac 1)) (dC (.int 0))) (Aa (Af (Av K) (Af (Av K) (Ac 2) (Ac 1)) (dC (.int 2))) (Aa (Af (Av K) (Af (Av K) (Ac 2) (Ac 1)) (dC (.int 3))) Ae))))))))
 Ai))
theorem bj3 (K:ae) (t:Adr):wSs 40 (Ba K W9 (Ab Jq) (Fg K t) bl) (Aj Jq)=b58 K t:=by kernel_rfl
theorem bm6:Al W9 Nr (Ab Jq):=⟨rfl,rfl,rfl,by decide +kernel,rfl,by decide +kernel,by decide +kernel⟩
theorem bq3:Ay W9 (Ab Jq)=true:=by decide +kernel
noncomputable def cd9 (K:ae) (t:Adr):DS:=
 (Ag (A4 (dFn (fun vs H Q _=>(Mt K true) vs H Q) (Aa (dUn (Fb K "records") (Ac 0)) Ae)))
 Ai)
theorem b16 (K:ae) (t:Adr):wSs 40 (Ba K a43 (Ab Rt) (By K t) bl) (Aj Rt)=cd9 K t:=by kernel_rfl
theorem b33:Al a43 X0 (Ab Rt):=⟨rfl,rfl,rfl,by decide +kernel,rfl,by decide +kernel,by decide +kernel⟩
theorem b85:Ay a43 (Ab Rt)=true:=by decide +kernel
noncomputable def ce0 (K:ae) (t:Adr):DS:=
 (Ag (dIf (Bi (Af (Q5 K true) (Ac 1) (dUn (Fb K "records") (Ac 0)))) (Ag (P9 K (dFn (fun vs H Q E=>vs.length<=1000/\mkX t.c_zbj (some (Y0 K t)) 0 vs H Q E) (Aa (Ac 1) Ae)))
  Ai) Ai)
 (Ag (A4 (Af (Av K) (dUn (Fb K "records") (Ac 0)) (Ac 1)))
 Ai))
theorem b17 (K:ae) (t:Adr):wSs 40 (Ba K a44 (Ab Ru) (Gn K t) bl) (Aj Ru)=ce0 K t:=by kernel_rfl
theorem b34:Al a44 X1 (Ab Ru):=⟨rfl,rfl,rfl,by decide +kernel,rfl,by decide +kernel,by decide +kernel⟩
theorem b86:Ay a44 (Ab Ru)=true:=by decide +kernel
noncomputable def cc9 (K:ae) (t:Adr):DS:=
 (Ag (A4 (Af (Av K) (Bj "state" 1 (Dr K t) (Ac 0) (Aa (Ac 1) Ae)) (dC (.int 1))))
 Ai)
theorem b06 (K:ae) (t:Adr):wSs 40 (Ba K a33 (Ab Ri) (Fh K t) bl) (Aj Ri)=cc9 K t:=by kernel_rfl
theorem b23:Al a33 Xq (Ab Ri):=⟨rfl,rfl,rfl,by decide +kernel,rfl,by decide +kernel,by decide +kernel⟩
theorem b75:Ay a33 (Ab Ri)=true:=by decide +kernel
noncomputable def cd4 (K:ae) (t:Adr):DS:=
 (Ag (A4 (Af (Av K) (Bj "state" 1 (Dr K t) (Ac 0) (Aa (Ac 1) Ae)) (dC (.int 2))))
 Ai)
theorem b11 (K:ae) (t:Adr):wSs 40 (Ba K a38 (Ab Rn) (Fh K t) bl) (Aj Rn)=cd4 K t:=by kernel_rfl
theorem b28:Al a38 Xv (Ab Rn):=⟨rfl,rfl,rfl,by decide +kernel,rfl,by decide +kernel,by decide +kernel⟩
theorem b80:Ay a38 (Ab Rn)=true:=by decide +kernel
noncomputable def cd0 (K:ae) (t:Adr):DS:=
 (Ag (A4 (Cz (Aa (Bj "rank_of" 1 (Db K t) (Ac 0) (Aa (Ac 1) Ae)) (Aa (Ac 1) Ae))))
 Ai)
theorem b07 (K:ae) (t:Adr):wSs 40 (Ba K a34 (Ab Rj) (G8 K t) bl) (Aj Rj)=cd0 K t:=by kernel_rfl
theorem b24:Al a34 Xr (Ab Rj):=⟨rfl,rfl,rfl,by decide +kernel,rfl,by decide +kernel,by decide +kernel⟩
theorem b76:Ay a34 (Ab Rj)=true:=by decide +kernel
noncomputable def cc7 (K:ae) (t:Adr):DS:=
 (Ag (A3 1 Hv)
 (Ag (E5 (Dd K (Yf K "place_key" (Bv K t) (dUn (Fb K "records") (Ac 0)) (Ac 0))) (gdN 2) (Ag (Cc (dMt (rMt K [⟨"list", "list.append", Cw⟩]) (dMt (rMt K [⟨"dict", "dict.setdefault", Je⟩]) (Ac 1) (Aa (Bj "parent_of" 1 (Cj K t) (Ac 0) (Aa (Ac 2) Ae)) (Aa (Bt Ae) Ae))) (Aa (Ac 2) Ae)))
  Ai))
 (Ag (A4 (Ac 1))
 Ai)))
theorem b04 (K:ae) (t:Adr):wSs 40 (Ba K a31 (Ab Rg) (Vs K t) bl) (Aj Rg)=cc7 K t:=by kernel_rfl
theorem b21:Al a31 Xo (Ab Rg):=⟨rfl,rfl,rfl,by decide +kernel,rfl,by decide +kernel,by decide +kernel⟩
theorem b73:Ay a31 (Ab Rg)=true:=by decide +kernel
noncomputable def b50 (K:ae) (t:Adr):DS:=
 (Ag (A3 2 (Bj "all_unders" 0 (Do K t) (Ac 0) Ae))
 (Ag (A3 3 (Bt Ae))
 (Ag (A3 4 (Cy [none] (al1 K (dMt (rMt K [⟨"dict", "dict.get", Gg⟩]) (Ac 2) (Aa (Ac 1) (Aa (Bt Ae) Ae)))) (gdN 0) E7 (Cz (Aa (dC (.int 1)) (Aa (Ac 0) Ae)))))
 (Ag (Hy (Bi (Af (Bz K true) (Ac 4) (Bt Ae))) (Ag (A3 5 (dMt (rMt K [⟨"list", "list.pop", ac0⟩,⟨"dict", "dict.pop", O8⟩]) (Ac 4) Ae))
  (Ag (Cc (dMt (rMt K [⟨"list", "list.append", Cw⟩]) (Ac 3) (Aa (Ac 5) Ae)))
  (Ag (Cc (dMt (rMt K [⟨"list", "list.extend", E0⟩]) (Ac 4) (Aa (Cy [none,some 5] (al1 K (dMt (rMt K [⟨"dict", "dict.get", Gg⟩]) (Ac 2) (Aa (Af (Av K) (Ac 5) (dC (.int 1))) (Aa (Bt Ae) Ae)))) (gdN 0) E7 (Cz (Aa (Af (A7 K) (Af (Av K) (Ac 1) (dC (.int 0))) (dC (.int 1))) (Aa (Ac 0) Ae)))) Ae)))
  Ai))))
 (Ag (A4 (Ac 3))
 Ai)))))
theorem bi5 (K:ae) (t:Adr):wSs 40 (Ba K W1 (Ab Ji) (ak7 K t) bl) (Aj Ji)=b50 K t:=by kernel_rfl
theorem bl8:Al W1 Ni (Ab Ji):=⟨rfl,rfl,rfl,by decide +kernel,rfl,by decide +kernel,by decide +kernel⟩
theorem bp5:Ay W1 (Ab Ji)=true:=by decide +kernel
noncomputable def cd2 (K:ae) (t:Adr):DS:=
 (Ag (A4 (Af (Av K) (Bj "state" 1 (Dr K t) (Ac 0) (Aa (Ac 1) Ae)) (dC (.int 0))))
 Ai)
theorem b09 (K:ae) (t:Adr):wSs 40 (Ba K a36 (Ab Rl) (Fh K t) bl) (Aj Rl)=cd2 K t:=by kernel_rfl
theorem b26:Al a36 Xt (Ab Rl):=⟨rfl,rfl,rfl,by decide +kernel,rfl,by decide +kernel,by decide +kernel⟩
theorem b78:Ay a36 (Ab Rl)=true:=by decide +kernel
noncomputable def cc8 (K:ae) (t:Adr):DS:=
 (Ag (A4 (Af (Av K) (Bj "state" 1 (Dr K t) (Ac 0) (Aa (Ac 1) Ae)) (dC (.int 3))))
 Ai)
theorem b05 (K:ae) (t:Adr):wSs 40 (Ba K a32 (Ab Rh) (Fh K t) bl) (Aj Rh)=cc8 K t:=by kernel_rfl
theorem b22:Al a32 Xp (Ab Rh):=⟨rfl,rfl,rfl,by decide +kernel,rfl,by decide +kernel,by decide +kernel⟩
theorem b74:Ay a32 (Ab Rh)=true:=by decide +kernel
noncomputable def cd3 (K:ae) (t:Adr):DS:=
 (Ag (A4 (Cz (Aa (Ac 1) (Aa (Ac 2) (Aa (Bj "kind_of" 1 (Da K t) (Ac 0) (Aa (Ac 2) Ae)) (Aa (Bj "rank_of" 1 (Db K t) (Ac 0) (Aa (Ac 2) Ae)) (Aa (Bj "content_of" 1 (Cv K t) (Ac 0) (Aa (Ac 2) Ae)) Ae)))))))
 Ai)
theorem b10 (K:ae) (t:Adr):wSs 40 (Ba K a37 (Ab Rm) (G8 K t) bl) (Aj Rm)=cd3 K t:=by kernel_rfl
theorem b27:Al a37 Xu (Ab Rm):=⟨rfl,rfl,rfl,by decide +kernel,rfl,by decide +kernel,by decide +kernel⟩
theorem b79:Ay a37 (Ab Rm)=true:=by decide +kernel
noncomputable def cd8 (K:ae) (t:Adr):DS:=
 (Ag (A4 (Cy [none,none,some 0] (Dd K (Bj "walk" 1 (Me K t) (Ac 0) (Aa (dC (.str "")) Ae))) (gdT K 2 [(gdN 0),(gdN 1)]) E7 (Bj "line_of" 2 (Fk K t) (Ac 2) (Aa (Ac 0) (Aa (Ac 1) Ae)))))
 Ai)
theorem b15 (K:ae) (t:Adr):wSs 40 (Ba K a42 (Ab Rr) (ak8 K t) bl) (Aj Rr)=cd8 K t:=by kernel_rfl
theorem b32:Al a42 Xz (Ab Rr):=⟨rfl,rfl,rfl,by decide +kernel,rfl,by decide +kernel,by decide +kernel⟩
theorem b84:Ay a42 (Ab Rr)=true:=by decide +kernel
noncomputable def b56 (K:ae) (t:Adr):DS:=
 (Ag (Ed (Cz (Aa (Ac 2) (Aa (Ac 3) (Aa (Ac 4) (Aa (Ac 5) Ae))))) (Dj K (dUn (Fb K "records") (Ac 0)) (Ac 1)))
 Ai)
theorem bj1 (K:ae) (t:Adr):wSs 40 (Ba K W7 (Ab Jo) (By K t) bl) (Aj Jo)=b56 K t:=by kernel_rfl
theorem bm4:Al W7 Np (Ab Jo):=⟨rfl,rfl,rfl,by decide +kernel,rfl,by decide +kernel,by decide +kernel⟩
theorem bq1:Ay W7 (Ab Jo)=true:=by decide +kernel
noncomputable def b49 (K:ae) (t:Adr):DS:=
 (Ag (a60 K "records" (Ac 0) Hv)
 Ai)
theorem bi4 (K:ae) (t:Adr):wSs 40 (Ba K W0 (Ab Jh) (By K t) bl) (Aj Jh)=b49 K t:=by kernel_rfl
theorem bl7:Al W0 Nh (Ab Jh):=⟨rfl,rfl,rfl,by decide +kernel,rfl,by decide +kernel,by decide +kernel⟩
theorem bp4:Ay W0 (Ab Jh)=true:=by decide +kernel
noncomputable def cc6 (K:ae) (t:Adr):DS:=
 (Ag (A4 (dMt (rMt K [⟨"dict", "dict.get", Gg⟩]) (dUn (Fb K "records") (Ac 0)) (Aa (Ac 1) Ae)))
 Ai)
theorem b03 (K:ae) (t:Adr):wSs 40 (Ba K a30 (Ab Rf) (By K t) bl) (Aj Rf)=cc6 K t:=by kernel_rfl
theorem b20:Al a30 Xn (Ab Rf):=⟨rfl,rfl,rfl,by decide +kernel,rfl,by decide +kernel,by decide +kernel⟩
theorem b72:Ay a30 (Ab Rf)=true:=by decide +kernel
noncomputable def b62 (K:ae) (t:Adr):DS:=
 (Ag (dIf (Bi (Af (Wg true) (Ac 2) (dC .non))) (Ag (Cc (Bj "lay" 5 (Fj K t) (Ac 0) (Aa (Ac 1) (Aa (Af (Av K) (Ac 2) (dC (.int 0))) (Aa (Af (Av K) (Ac 2) (dC (.int 1))) (Aa (Af (Av K) (Ac 2) (dC (.int 2))) (Aa (Af (Av K) (Ac 2) (dC (.int 3))) Ae)))))))
  Ai) Ai)
 Ai)
theorem bj7 (K:ae) (t:Adr):wSs 40 (Ba K Xd (Ab Ju) (Fg K t) bl) (Aj Ju)=b62 K t:=by kernel_rfl
theorem bn0:Al Xd Nx (Ab Ju):=⟨rfl,rfl,rfl,by decide +kernel,rfl,by decide +kernel,by decide +kernel⟩
theorem bq7:Ay Xd (Ab Ju)=true:=by decide +kernel
noncomputable def b63 (K:ae) (t:Adr):DS:=
 (Ag (A4 (Ku K (Af (Bz K true) (Ac 1) (Ac 2)) (Ku K (Af (Bz K true) (Ac 1) (Ac 0)) (Af (Bz K true) (Ac 2) (Ac 0)))))
 Ai)
theorem bj8 (K:ae) (t:Adr):wSs 40 (Ba K Xe (Ab Jv) (By K t) bl) (Aj Jv)=b63 K t:=by kernel_rfl
theorem bn1:Al Xe Ny (Ab Jv):=⟨rfl,rfl,rfl,by decide +kernel,rfl,by decide +kernel,by decide +kernel⟩
theorem bq8:Ay Xe (Ab Jv)=true:=by decide +kernel
noncomputable def b70 (K:ae) (t:Adr):DS:=
 (Ag (dIf (E6 K (dFn (spE (M0 K t) []) (Aa (Ac 0) (Aa (Ac 1) (Aa (Ac 2) Ae))))) (Ag (A4 (Ac 0))
  Ai) Ai)
 (Ag (A4 (a61 (Bi (Af (Bz K false) (Ac 1) (Ac 0))) (Ac 2) (Ac 1)))
 Ai))
theorem bk5 (K:ae) (t:Adr):wSs 40 (Ba K Xl (Ab J2) (Fg K t) bl) (Aj J2)=b70 K t:=by kernel_rfl
theorem bn8:Al Xl N5 (Ab J2):=⟨rfl,rfl,rfl,by decide +kernel,rfl,by decide +kernel,by decide +kernel⟩
theorem br5:Ay Xl (Ab J2)=true:=by decide +kernel
noncomputable def cd5 (K:ae) (t:Adr):DS:=
 (Ag (A4 (dC (.str "chapter")))
 Ai)
theorem b12 (K:ae) (t:Adr):wSs 40 (Ba K a39 (Ab Ro) (By K t) bl) (Aj Ro)=cd5 K t:=by kernel_rfl
theorem b29:Al a39 Xw (Ab Ro):=⟨rfl,rfl,rfl,by decide +kernel,rfl,by decide +kernel,by decide +kernel⟩
theorem b81:Ay a39 (Ab Ro)=true:=by decide +kernel
noncomputable def cd7 (K:ae) (t:Adr):DS:=
 (Ag (dIf (Lx (E6 K (dFn (fun vs H Q _=>(aq9 K) vs H Q) (Aa (Ac 0) (Aa (dC (.ty "str")) Ae))))) (Ag (A4 (dC .non))
  Ai) Ai)
 (Ag (E5 (Dd K (Bt (Aa (dFn (mkC t.c_zbi none 0) Ae) (Aa (dFn (mkC t.c_zbn none 0) Ae) (Aa (dFn (mkC t.c_zbm none 0) Ae) Ae))))) (gdN 1) (Ag (dIf (Bi (Af (Bz K false) (Bj "word" 0 (Hj K t) (Ac 1) Ae) (Ac 0))) (Ag (A4 (Ac 1))
   Ai) Ai)
  Ai))
 (Ag (A4 (dC .non))
 Ai)))
theorem b14 (K:ae) (t:Adr):wSs 40 (Ba K a41 (Ab Rq) (Fg K t) bl) (Aj Rq)=cd7 K t:=by kernel_rfl
theorem b31:Al a41 Xy (Ab Rq):=⟨rfl,rfl,rfl,by decide +kernel,rfl,by decide +kernel,by decide +kernel⟩
theorem b83:Ay a41 (Ab Rq)=true:=by decide +kernel
noncomputable def cd6 (K:ae) (t:Adr):DS:=
 (Ag (dIf (Lx (E6 K (dFn (spE (M0 K t) []) (Aa (Ac 0) (Aa (Ac 1) (Aa (Ac 2) Ae)))))) (Ag (A4 (Cz (Aa (dFn (spE (Sh K t) []) (Aa (Ac 0) (Aa (Ac 1) (Aa (Ac 2) Ae)))) (Aa (Bt Ae) Ae))))
  Ai) Ai)
 (Ag (dIf (Bi (Af (Wg false) (Ac 0) (dC .non))) (Ag (A4 (Cz (Aa dNo (Aa (Bt (Aa (dC (.str "both")) Ae)) Ae))))
  Ai) Ai)
 (Ag (dIf (Bi (Af (Wg false) (Ac 1) (dC .non))) (Ag (A4 (Cz (Aa (Ac 2) (Aa (Bt (Aa (dC (.str "gone")) Ae)) Ae))))
  Ai) Ai)
 (Ag (dIf (Bi (Af (Wg false) (Ac 2) (dC .non))) (Ag (A4 (Cz (Aa (Ac 1) (Aa (Bt (Aa (dC (.str "gone")) Ae)) Ae))))
  Ai) Ai)
 (Ag (dIf (dOr (Bi (Af (Bz K true) (Af (Av K) (Ac 1) (dC (.int 0))) (Af (Av K) (Ac 0) (dC (.int 0))))) (Bi (Af (Bz K true) (Af (Av K) (Ac 2) (dC (.int 0))) (Af (Av K) (Ac 0) (dC (.int 0)))))) (Ag (A4 (Cz (Aa (Ac 0) (Aa (Bt (Aa (dC (.str "kind")) Ae)) Ae))))
  Ai) Ai)
 (Ag (A4 (dFn (spE (af3 K t) []) (Aa (Ac 0) (Aa (Ac 1) (Aa (Ac 2) Ae)))))
 Ai))))))
theorem b13 (K:ae) (t:Adr):wSs 40 (Ba K a40 (Ab Rp) (Vr K t) bl) (Aj Rp)=cd6 K t:=by kernel_rfl
theorem b30:Al a40 Xx (Ab Rp):=⟨rfl,rfl,rfl,by decide +kernel,rfl,by decide +kernel,by decide +kernel⟩
theorem b82:Ay a40 (Ab Rp)=true:=by decide +kernel
noncomputable def b55 (K:ae) (t:Adr):DS:=
 (Ag (A4 (Af (Q5 K false) (Ac 1) (dUn (Fb K "records") (Ac 0))))
 Ai)
theorem bj0 (K:ae) (t:Adr):wSs 40 (Ba K W6 (Ab Jn) (By K t) bl) (Aj Jn)=b55 K t:=by kernel_rfl
theorem bm3:Al W6 No (Ab Jn):=⟨rfl,rfl,rfl,by decide +kernel,rfl,by decide +kernel,by decide +kernel⟩
theorem bq0:Ay W6 (Ab Jn)=true:=by decide +kernel
noncomputable def cd1 (K:ae) (t:Adr):DS:=
 (Ag (A4 (dC (.bl true)))
 Ai)
theorem b08 (K:ae) (t:Adr):wSs 40 (Ba K a35 (Ab Rk) (By K t) bl) (Aj Rk)=cd1 K t:=by kernel_rfl
theorem b25:Al a35 Xs (Ab Rk):=⟨rfl,rfl,rfl,by decide +kernel,rfl,by decide +kernel,by decide +kernel⟩
theorem b77:Ay a35 (Ab Rk)=true:=by decide +kernel
noncomputable def b68 (K:ae) (t:Adr):DS:=
 (Ag (A4 (aj9 K (Af (Bz K false) (Ac 1) (dC (.str ""))) (Ku K (Bj "has" 1 (Qs K t) (Ac 0) (Aa (Ac 1) Ae)) (Bj "holds" 0 (F9 K t) (dFn (spE (af5 K t) []) (Aa (Bj "kind_of" 1 (Da K t) (Ac 0) (Aa (Ac 1) Ae)) Ae)) Ae))))
 Ai)
theorem bk3 (K:ae) (t:Adr):wSs 40 (Ba K Xj (Ab J0) (G8 K t) bl) (Aj J0)=b68 K t:=by kernel_rfl
theorem bn6:Al Xj N3 (Ab J0):=⟨rfl,rfl,rfl,by decide +kernel,rfl,by decide +kernel,by decide +kernel⟩
theorem br3:Ay Xj (Ab J0)=true:=by decide +kernel
noncomputable def b52 (K:ae) (t:Adr):DS:=
 (Ag (E5 (Dd K (Ac 1)) (gdN 2) (Ag (Cc (Bj "lay" 5 (Fj K t) (Ac 0) (Aa (Ac 2) (Aa (Bj "kind_of" 1 (Da K t) (Ac 0) (Aa (Ac 2) Ae)) (Aa (dC (.str "")) (Aa (Bj "rank_of" 1 (Db K t) (Ac 0) (Aa (Ac 2) Ae)) (Aa (Bj "content_of" 1 (Cv K t) (Ac 0) (Aa (Ac 2) Ae)) Ae)))))))
  Ai))
 Ai)
theorem bi7 (K:ae) (t:Adr):wSs 40 (Ba K W3 (Ab Jk) (G8 K t) bl) (Aj Jk)=b52 K t:=by kernel_rfl
theorem bm0:Al W3 Nk (Ab Jk):=⟨rfl,rfl,rfl,by decide +kernel,rfl,by decide +kernel,by decide +kernel⟩
theorem bp7:Ay W3 (Ab Jk)=true:=by decide +kernel
noncomputable def b67 (K:ae) (t:Adr):DS:=
 (Ag (A3 1 (Bt Ae))
 (Ag (A3 2 Hv)
 (Ag (E5 (Dd K (Bj "names" 0 (C1 K t) (Ac 0) Ae)) (gdN 3) (Ag (A3 4 (Ac 3))
  (Ag (Hy (Hu (Bi (Af (Bz K true) (Ac 4) (dC (.str "")))) (Bi (Af (Q5 K true) (Ac 4) (Ac 2)))) (Ag (Ed (Ac 3) (Dj K (Ac 2) (Ac 4)))
   (Ag (A3 4 (Bj "parent_of" 1 (Cj K t) (Ac 0) (Aa (Ac 4) Ae)))
   Ai)))
  (Ag (dIf (Hu (Bi (Af (Bz K true) (Ac 4) (dC (.str "")))) (Bi (Af (Bz K false) (Af (Av K) (Ac 2) (Ac 4)) (Ac 3)))) (Ag (Cc (dMt (rMt K [⟨"list", "list.append", Cw⟩]) (Ac 1) (Aa (dFn (spE (R9 K t) []) (Aa (Ac 0) (Aa (Ac 4) Ae))) Ae)))
   Ai) Ai)
  Ai))))
 (Ag (A4 (Ac 1))
 Ai))))
theorem bk2 (K:ae) (t:Adr):wSs 40 (Ba K Xi (Ab Jz) (Vr K t) bl) (Aj Jz)=b67 K t:=by kernel_rfl
theorem bn5:Al Xi N2 (Ab Jz):=⟨rfl,rfl,rfl,by decide +kernel,rfl,by decide +kernel,by decide +kernel⟩
theorem br2:Ay Xi (Ab Jz)=true:=by decide +kernel
noncomputable def b54 (K:ae) (t:Adr):DS:=
 (Ag (A3 1 (Cy [none,some 0] (Dd K (Bj "names" 0 (C1 K t) (Ac 0) Ae)) (gdN 0) (Lx (E6 K (dFn (spE (R8 K t) []) (Aa (Ac 1) (Aa (Bj "parent_of" 1 (Cj K t) (Ac 1) (Aa (Ac 0) Ae)) Ae))))) (Ac 0)))
 (Ag (Cc (dFn (spE (Mz K t) []) (Aa (Ac 0) (Aa (Ac 1) Ae))))
 (Ag (A3 2 (Cy [none] (Dd K (dFn (spE (R7 K t) []) (Aa (Ac 0) Ae))) (gdN 0) E7 (dFn (fun vs H Q _=>ab7 vs H Q) (Aa (Ac 0) Ae))))
 (Ag (Cc (dFn (spE (Mz K t) []) (Aa (Ac 0) (Aa (Ac 2) Ae))))
 (Ag (A4 (Af (A7 K) (Ac 1) (Ac 2)))
 Ai)))))
theorem bi9 (K:ae) (t:Adr):wSs 40 (Ba K W5 (Ab Jm) (ak6 K t) bl) (Aj Jm)=b54 K t:=by kernel_rfl
theorem bm2:Al W5 Nn (Ab Jm):=⟨rfl,rfl,rfl,by decide +kernel,rfl,by decide +kernel,by decide +kernel⟩
theorem bp9:Ay W5 (Ab Jm)=true:=by decide +kernel
noncomputable def b53 (K:ae) (t:Adr):DS:=
 (Ag (A3 3 (dFn (mkC t.c_zbl (some (Om K t)) 0) Ae))
 (Ag (A3 4 (Bt Ae))
 (Ag (E5 (Dd K (dUn (Hn K) (Af (A7 K) (Af (A7 K) (Bj "names" 0 (C1 K t) (Ac 0) Ae) (Bj "names" 0 (C1 K t) (Ac 1) Ae)) (Bj "names" 0 (C1 K t) (Ac 2) Ae)))) (gdN 5) (Ag (A3 6 (dFn (spE (af4 K t) []) (Aa (Bj "state_or_none" 1 (Be K t) (Ac 0) (Aa (Ac 5) Ae)) (Aa (Bj "state_or_none" 1 (Be K t) (Ac 1) (Aa (Ac 5) Ae)) (Aa (Bj "state_or_none" 1 (Be K t) (Ac 2) (Aa (Ac 5) Ae)) Ae)))))
  (Ag (Cc (dFn (spE (R5 K t) []) (Aa (Ac 3) (Aa (Ac 5) (Aa (Af (Av K) (Ac 6) (dC (.int 0))) Ae)))))
  (Ag (Cc (dMt (rMt K [⟨"list", "list.extend", E0⟩]) (Ac 4) (Aa (Cy [none,some 5] (Dd K (Af (Av K) (Ac 6) (dC (.int 1)))) (gdN 0) E7 (Cz (Aa (Ac 1) (Aa (Ac 0) Ae)))) Ae)))
  Ai))))
 (Ag (Cc (dMt (rMt K [⟨"list", "list.extend", E0⟩]) (Ac 4) (Aa (Cy [none] (Dd K (dFn (spE (Rz K t) []) (Aa (Ac 3) Ae))) (gdN 0) E7 (Cz (Aa (Ac 0) (Aa (dC (.str "loose")) Ae)))) Ae)))
 (Ag (A4 (Cz (Aa (Ac 3) (Aa (dFn (fun vs H Q _=>(Mt K true) vs H Q) (Aa (Ac 4) Ae)) Ae))))
 Ai)))))
theorem bi8 (K:ae) (t:Adr):wSs 40 (Ba K W4 (Ab Jl) (Vs K t) bl) (Aj Jl)=b53 K t:=by kernel_rfl
theorem bm1:Al W4 Nl (Ab Jl):=⟨rfl,rfl,rfl,by decide +kernel,rfl,by decide +kernel,by decide +kernel⟩
theorem bp8:Ay W4 (Ab Jl)=true:=by decide +kernel
noncomputable def b61 (K:ae) (t:Adr):DS:=
 (Ag (A3 1 (dFn (mkC t.c_zbl (some (Om K t)) 0) Ae))
 (Ag (E5 (a68 (Ac 0)) (gdT K 2 [(gdN 2),(gdN 3)]) (Ag (Cc (Bj "lay" 5 (Fj K t) (Ac 1) (Aa (Ac 2) (Aa (Af (Av K) (Ac 3) (dC (.int 0))) (Aa (Af (Av K) (Ac 3) (dC (.int 1))) (Aa (Af (Av K) (Ac 3) (dC (.int 2))) (Aa (Af (Av K) (Ac 3) (dC (.int 3))) Ae)))))))
  Ai))
 (Ag (A4 (Ac 1))
 Ai)))
theorem bj6 (K:ae) (t:Adr):wSs 40 (Ba K Xc (Ab Jt) (Gn K t) bl) (Aj Jt)=b61 K t:=by kernel_rfl
theorem bm9:Al Xc Nw (Ab Jt):=⟨rfl,rfl,rfl,by decide +kernel,rfl,by decide +kernel,by decide +kernel⟩
theorem bq6:Ay Xc (Ab Jt)=true:=by decide +kernel
noncomputable def b57 (K:ae) (t:Adr):DS:=
 (Ag (A3 4 (Bt (Aa (dFn (spE (J6 K t) []) (Aa (Ac 0) Ae)) (Aa (dFn (spE (J6 K t) []) (Aa (Ac 1) Ae)) (Aa (dFn (spE (J6 K t) []) (Aa (Ac 2) Ae)) Ae)))))
 (Ag (Ed (dFn (spE (Ry K t) []) (Aa (Af (Av K) (Ac 4) (dC (.int 0))) (Aa (Af (Av K) (Ac 4) (dC (.int 1))) (Aa (Af (Av K) (Ac 4) (dC (.int 2))) Ae)))) (gdT K 2 [(gdN 5),(gdN 6)]))
 (Ag (dIf (dOr (Bi (Af (Bz K true) (Ac 6) (Bt Ae))) (Bi (Af (Bz K true) (Bj "lines" 0 (Ga K t) (Ac 5) Ae) (Ac 3)))) (Ag (A4 (dC (.bl false)))
  Ai) Ai)
 (Ag (E5 (Dd K (Bj "names" 0 (C1 K t) (Ac 5) Ae)) (gdN 7) (Ag (Cc (Bj "lay" 5 (Fj K t) (Ac 5) (Aa (Ac 7) (Aa (dC (.str "para")) (Aa (dC (.str "")) (Aa (dC (.int 3)) (Aa (dC (.str "gone")) Ae)))))))
  Ai))
 (Ag (E5 (iZp K (Aa (Ac 4) (Aa (Bt (Aa (Ac 0) (Aa (Ac 1) (Aa (Ac 2) Ae)))) Ae))) (gdT K 2 [(gdN 8),(gdN 9)]) (Ag (dIf (Bi (Af (Bz K true) (Bj "lines" 0 (Ga K t) (Ac 8) Ae) (dFn (spE (J5 K t) []) (Aa (Ac 9) Ae)))) (Ag (A4 (dC (.bl false)))
   Ai) Ai)
  Ai))
 (Ag (A4 (dC (.bl true)))
 Ai))))))
theorem bj2 (K:ae) (t:Adr):wSs 40 (Ba K W8 (Ab Jp) (Ua K t) bl) (Aj Jp)=b57 K t:=by kernel_rfl
theorem bm5:Al W8 Nq (Ab Jp):=⟨rfl,rfl,rfl,by decide +kernel,rfl,by decide +kernel,by decide +kernel⟩
theorem bq2:Ay W8 (Ab Jp)=true:=by decide +kernel
noncomputable def b71 (K:ae) (t:Adr):DS:=
 (Ag (A3 1 (dFn (spE (R3 K t) []) (Aa (dFn (spE (J7 K t) []) (Aa (Ac 0) (Aa (dC (.int 0)) Ae))) (Aa (Af Bf (Af Br (dFn (spE (J7 K t) []) (Aa (Ac 0) (Aa (dC (.int 0)) Ae))) (dC (.int 7))) (dC (.int 9))) Ae))))
 (Ag (A3 2 (Bt (Aa (Bt (Aa (dC (.str "chapter")) (Aa (dC (.str "para")) (Aa (dC (.str "chapter")) (Aa (dC (.str "table")) Ae))))) (Aa (Af (Cq K) (Bt (Aa (dC (.str "chapter")) Ae)) (dC (.int 4))) (Aa (Bt (Aa (dC (.str "table")) (Aa (dC (.str "chapter")) (Aa (dC (.str "table")) (Aa (dC (.str "para")) Ae))))) Ae)))))
 (Ag (E5 (Ke (Aa (dC (.int 2)) (Aa (dFn (fun vs H Q _=>ar0 vs H Q) (Aa (dC (.int 4)) (Aa (dFn (fun vs H Q _=>ab7 vs H Q) (Aa (dFn (fun vs H Q _=>(Ki K) vs H Q) (Aa (Ac 0) Ae)) (Aa (dC (.int 62)) Ae))) Ae))) (Aa (dC (.int 2)) Ae)))) (gdN 3) (Ag (A3 4 (Af (Av K) (Ac 2) (Af Bf (Af Br (dFn (spE (J7 K t) []) (Aa (Ac 0) (Aa (dC (.int 1)) Ae))) (Ac 3)) (dC (.int 3)))))
  (Ag (A3 5 (dFn (spE (M5 K t) []) (Aa (dFn (spE (J7 K t) []) (Aa (Ac 0) (Aa (Ac 3) Ae))) (Aa (Ac 1) (Aa Hv (Aa (Ac 4) Ae))))))
  (Ag (A3 6 (dFn (spE (M5 K t) []) (Aa (dFn (spE (J7 K t) []) (Aa (Ac 0) (Aa (Af (A7 K) (Ac 3) (dC (.int 1))) Ae))) (Aa (Ac 1) (Aa (Ac 5) (Aa (Ac 4) Ae))))))
  (Ag (A3 7 (dFn (spE (J5 K t) []) (Aa (Ac 6) Ae)))
  (Ag (dIf (dOr (Lx (E6 K (dFn (spE (G1 K t) []) (Aa (Ac 5) (Aa (Ac 6) (Aa (Ac 5) (Aa (Ac 7) Ae))))))) (Lx (E6 K (dFn (spE (G1 K t) []) (Aa (Ac 5) (Aa (Ac 5) (Aa (Ac 6) (Aa (Ac 7) Ae)))))))) (Ag (A4 (dC (.bl false)))
   Ai) Ai)
  (Ag (dIf (dOr (Lx (E6 K (dFn (spE (G1 K t) []) (Aa (Ac 5) (Aa (Ac 6) (Aa (Ac 6) (Aa (Ac 7) Ae))))))) (Lx (E6 K (dFn (spE (G1 K t) []) (Aa (Ac 5) (Aa (Ac 5) (Aa (Ac 5) (Aa (dFn (spE (J5 K t) []) (Aa (Ac 5) Ae)) Ae)))))))) (Ag (A4 (dC (.bl false)))
   Ai) Ai)
  Ai)))))))
 (Ag (A4 (dC (.bl true)))
 Ai))))
theorem bk6 (K:ae) (t:Adr):wSs 40 (Ba K Xm (Ab Du) (Yr K t) bl) (Aj Du)=b71 K t:=by kernel_rfl
theorem bn9:Al Xm N6 (Ab Du):=⟨rfl,rfl,rfl,by decide +kernel,rfl,by decide +kernel,by decide +kernel⟩
theorem br6:Ay Xm (Ab Du)=true:=by decide +kernel
end K71
set_option maxHeartbeats 400000
namespace K71
open PySem L2
theorem Cu {z y:Str} {r:Rc} {S:Rs} (e:y=z):get ((y,r)::S) z=some r:=by unfold get;simp [cw,e]
theorem Ca {z y:Str} {r:Rc} {S:Rs} (e:y≠z):get ((y,r)::S) z=get S z:=by unfold get;simp [cw,e]
theorem Ev (z:Str):∀ S:Rs,(S.any fun p=>decide (p.1=z))=has S z
 | []=>rfl
 | (y,r)::S=>by
  unfold has
  rw [gn]
  by_cases e:y=z
  ·rw [Cu e,decide_eq_true e];rfl
  ·rw [Ca e,decide_eq_false e,lj];exact Ev z S
theorem mem_keys {z:Str}:∀ {S:Rs},z∈keys S ↔ has S z=true
 | []=>by simp [keys,has,get]
 | (y,r)::S=>by
  unfold has
  show z∈y::keys S ↔ _
  by_cases e:y=z
  ·rw [Cu e];simp [e]
  ·rw [Ca e,aG,mem_keys]
   exact⟨fun h=>h.resolve_left (bZ e),.inr⟩
theorem A0 {S:Rs} {z:Str} (h:has S z=true):get S z=some (Aq S z):=by
 unfold has at h
 unfold Aq
 cases e:get S z with
 | none=>rw [e] at h;cases h
 | some r=>rfl
theorem Bh {S:Rs} {z:Str} {r:Rc} (h:get S z=some r):has S z=true:=by unfold has;rw [h];rfl
theorem ac9 {S:Rs} {z:Str} {r:Rc} (h:get S z=some r):Aq S z=r:=by unfold Aq;rw [h];rfl
theorem a87 {S:Rs} {z:Str} (h:has S z=false):get S z=none:=by
 unfold has at h
 cases e:get S z with
 | none=>rfl
 | some r=>rw [e] at h;cases h
section
variable {K:ae} {t:Adr} {H H' H2:Hp} {p d:Addr} {S S':Rs} {kvs:List (Key×V)} {r:Rc} {x:V}
theorem But.of (S:Same H H'):But d H H':=fun b o _ e=>S b o e
theorem But.trans (h:But d H H') (g:But d H' H2):But d H H2:=fun b o n e=>g b o n (h b o n e)
theorem But.upd {o:HO}:But d H (upd H d o):=fun b o n e=>by rw [Ah n];exact e
mutual
theorem Kl (T:TKeep K H H'):∀ {d:Dt} {x:V},noL d=true->At K H d x->At K H' d x
 | .at_ v,x,_,h=>by unfold At at h ⊢;exact h
 | .lst l,x,n,_=>by unfold noL at n;cases n
 | .tup l,x,n,h=>by
  unfold noL at n
  unfold At at h ⊢
  obtain⟨a,xs,e,q,g⟩:=h
  exact⟨a,xs,e,T _ _ q,Dl T n g⟩
theorem Dl (T:TKeep K H H'):∀ {ds:List Dt} {xs:List V},Fl ds=true->AtL K H ds xs->AtL K H' ds xs
 | [],xs,_,h=>by unfold AtL at h ⊢;exact h
 | d::ds,xs,n,h=>by
  unfold Fl at n
  rw [aA] at n
  unfold AtL at h ⊢
  obtain⟨y,ys,e,h1,h2⟩:=h
  exact⟨y,ys,e,Kl T n.1 h1,Dl T n.2 h2⟩
end
mutual
theorem Lv:∀ {d:Dt},ctS d=true->noL d=true
 | .at_ v,_=>by unfold noL;rfl
 | .lst l,h=>by unfold ctS at h;cases h
 | .tup l,h=>by unfold ctS at h;unfold noL;exact Hb h
theorem Hb:∀ {ds:List Dt},Fe ds=true->Fl ds=true
 | [],_=>by unfold Fl;rfl
 | d::ds,h=>by
  unfold Fe at h
  rw [aA] at h
  unfold Fl
  rw [Lv h.1,Hb h.2]
  rfl
end
theorem RcAt.keep (T:TKeep K H H') (h:RcAt K H r x):RcAt K H' r x:=by
 obtain⟨q,y,e,h1,h2,h3⟩:=h
 exact⟨q,y,e,T _ _ h1,Kl T (Lv h3.1) h2,h3⟩
theorem RcAt.at (h:RcAt K H r x):At K H (rcD r) x:=by
 obtain⟨q,y,rfl,h1,h2,h3⟩:=h
 exact Fc h1 (Ap B7 (Ap B7 (Ap (C5 rfl) (Ap h2 A9))))
theorem KvAt.keep (T:TKeep K H H'):∀ {S:Rs} {kvs:List (Key×V)},KvAt K H S kvs->KvAt K H' S kvs
 | [],_,h=>h
 | (z,r)::S,kvs,h=>by
  obtain⟨q,rest,e,h1,h2⟩:=h
  exact⟨q,rest,e,h1.keep T,h2.keep T⟩
theorem KvAt.val:∀ {S:Rs} {kvs:List (Key×V)},KvAt K H S kvs -> ∀ z,match get S z with
  | none=>A6 kvs (.inr z)=none
  | some r=>∃ x,A6 kvs (.inr z)=some x/\RcAt K H r x
 | [],kvs,h,z=>by rw [show kvs=[] from h];exact ah0
 | (y,r)::S,kvs,h,z=>by
  obtain⟨q,rest,rfl,h1,h2⟩:=h
  by_cases e:y=z
  ·rw [Cu e,Bn (by rw [e])]
   exact⟨q,rfl,h1⟩
  ·rw [Ca e,Bm (fun c=>e (gL c))]
   exact h2.val z
theorem KvAt.some (h:KvAt K H S kvs) {z:Str} (g:get S z=be r):∃ x,A6 kvs (.inr z)=be x/\RcAt K H r x:=by
 have:=h.val z
 rw [g] at this
 exact this
theorem KvAt.isSome (h:KvAt K H S kvs) (z:Str):(A6 kvs (.inr z)).isSome=has S z:=by
 have:=h.val z
 unfold has
 split at this
 ·rename_i e;rw [this,e];rfl
 ·rename_i r e;obtain⟨q,e2,_⟩:=this;rw [e2,e];rfl
theorem KvAt.keys:∀ {S:Rs} {kvs:List (Key×V)},KvAt K H S kvs->kvs.map (·.1)=(keys S).map fA
 | [],kvs,h=>by rw [show kvs=[] from h];rfl
 | (y,r)::S,kvs,h=>by
  obtain⟨q,rest,rfl,_,h2⟩:=h
  show _::_=_::_
  rw [h2.keys]
  rfl
theorem KvAt.len (h:KvAt K H S kvs):kvs.length=S.length:=by
 have:=congrArg ia h.keys
 unfold K71.keys at this
 simpa using this
theorem KvAt.app:∀ {S S':Rs} {kvs kvs':List (Key×V)},KvAt K H S kvs->KvAt K H S' kvs'->KvAt K H (S++S') (kvs++kvs')
 | [],_,kvs,_,h,g=>by rw [show kvs=[] from h];exact g
 | (y,r)::S,_,kvs,_,h,g=>by
  obtain⟨q,rest,rfl,h1,h2⟩:=h
  exact⟨q,_,rfl,h1,h2.app g⟩
theorem KvAt.map {z:Str} {r:Rc} {v:V} (hp:RcAt K H r v):∀ {S:Rs} {kvs:List (Key×V)},KvAt K H S kvs->KvAt K H (S.map fun p=>if p.1=z then (p.1,r) else p) (kvs.map fun kv=>if kv.1=.inr z then (kv.1,v) else kv)
 | [],kvs,h=>by rw [show kvs=[] from h];rfl
 | (y,s)::S,kvs,h=>by
  obtain⟨q,rest,rfl,h1,h2⟩:=h
  by_cases e:y=z
  ·subst e
   rw [aK,aK,if_pos rfl,if_pos rfl]
   exact⟨v,_,rfl,hp,h2.map hp⟩
  ·rw [aK,aK,if_neg e,if_neg (fun c=>e (gL c))]
   exact⟨q,_,rfl,h1,h2.map hp⟩
theorem KvAt.put (h:KvAt K H S kvs) {z:Str} {v:V} (hp:RcAt K H r v):KvAt K H (De S z r) (Cf kvs (.inr z) v):=by
 unfold De Cf
 rw [Ev,Ep,h.isSome]
 by_cases e:has S z=true
 ·rw [if_pos e,if_pos e];exact h.map hp
 ·rw [if_neg e,if_neg e];exact h.app ⟨v,[],rfl,hp,rfl⟩
theorem But.tk (b:But d H H') (e:H d=be (.dK kvs)):TKeep K H H':=fun a xs q=>by
 rcases q with (q|⟨o,q⟩)|q
 ·exact .inl (.inl (b _ _ (fun z=>by rw [z,e] at q;cases q) q))
 ·exact .inl (.inr ⟨o,b _ _ (fun z=>by rw [z,e] at q;cases q) q⟩)
 ·exact .inr q
theorem Rd.up {o:HO} (h:Rd H d o) (T:Same H H'):Rd H' d o:=by
 rcases h with h|⟨u,h⟩
 ·exact .inl (T _ _ h)
 ·exact .inr ⟨u,T _ _ h⟩
theorem RsAt.up (h:RsAt K H d S) (T:Same H H'):RsAt K H' d S:=by
 obtain⟨kvs,e,g⟩:=h
 exact⟨kvs,T _ _ e,g.keep (TKeep.of T)⟩
theorem RsAt.rd (h:RsAt K H d S):RdAt K H d S:=by
 obtain⟨kvs,e,g⟩:=h
 exact⟨kvs,.inl e,g⟩
theorem RdAt.up (h:RdAt K H d S) (T:Same H H'):RdAt K H' d S:=by
 obtain⟨kvs,e,g⟩:=h
 exact⟨kvs,Rd.up e T,g.keep (TKeep.of T)⟩
theorem PlAt.up (h:PlAt K t H p d S) (T:Same H H'):PlAt K t H' p d S:=by
 obtain⟨⟨dx,e⟩,g⟩:=h
 exact⟨⟨dx,T _ _ e⟩,g.up T⟩
theorem PwAt.up (h:PwAt K t H p d S) (T:Same H H'):PwAt K t H' p d S:=by
 obtain⟨⟨dx,e⟩,g⟩:=h
 exact⟨⟨dx,T _ _ e⟩,g.up T⟩
theorem PwAt.rd (h:PwAt K t H p d S):PlAt K t H p d S:=⟨h.1,h.2.rd⟩
theorem Sm.of (T:Same H H'):Sm H H':=fun b o e=>.inl (T b o e)
theorem Sm.refl:Sm H H:=fun _ _ e=>.inl e
theorem Sm.trans (h:Sm H H') (g:Sm H' H2):Sm H H2:=fun b o e=>by
 rcases h b o e with e1|⟨kvs,u,rfl,e1⟩
 ·exact g b o e1
 ·rcases g _ _ e1 with e2|⟨_,_,c,_⟩
  ·exact .inr ⟨kvs,u,rfl,e2⟩
  ·cases c
theorem Sm.lst (h:Sm H H') {l:Addr} {ys:List V} (e:H l=some (.lst ys)):H' l=some (.lst ys):=by
 rcases h _ _ e with e|⟨_,_,c,_⟩
 ·exact e
 ·cases c
theorem Sm.free (h:Sm H H') {l:Addr} (e:H' l=none):H l=none:=by
 cases c:H l with
 | none=>rfl
 | some o=>
  rcases h _ _ c with c|⟨_,_,_,c⟩
  ·rw [c] at e;cases e
  ·rw [c] at e;cases e
theorem Sm.tk (h:Sm H H'):TKeep K H H':=fun a xs q=>by
 rcases q with (q|⟨o,q⟩)|q
 ·rcases h _ _ q with q|⟨_,_,c,_⟩
  ·exact .inl (.inl q)
  ·cases c
 ·rcases h _ _ q with q|⟨_,_,c,_⟩
  ·exact .inl (.inr ⟨o,q⟩)
  ·cases c
 ·exact .inr q
theorem Sm.frz {kvs:List (Key×V)} {u:Obj} (e:H d=some (.dK kvs)):Sm H (upd H d (.frz u (.dK kvs))):=fun b o h=>by
 by_cases c:b=d
 ·subst c
  rw [e] at h
  cases h
  exact .inr ⟨kvs,u,rfl,Ad⟩
 ·exact .inl (by rw [Ah c];exact h)
theorem RdAt.sm (h:RdAt K H d S) (T:Sm H H'):RdAt K H' d S:=by
 obtain⟨kvs,e,g⟩:=h
 refine⟨kvs,?_,g.keep T.tk⟩
 rcases e with e|⟨u,e⟩
 ·rcases T _ _ e with e|⟨kvs',u,c,e⟩
  ·exact .inl e
  ·cases c;exact .inr ⟨u,e⟩
 ·rcases T _ _ e with e|⟨_,_,c,_⟩
  ·exact .inr ⟨u,e⟩
  ·cases c
theorem PlAt.sm (h:PlAt K t H p d S) (T:Sm H H'):PlAt K t H' p d S:=by
 obtain⟨⟨dx,e⟩,g⟩:=h
 refine⟨⟨dx,?_⟩,g.sm T⟩
 rcases T _ _ e with e|⟨_,_,c,_⟩
 ·exact e
 ·cases c
theorem Ys (g:KvAt K H S kvs) (e:Rd H d (.dK kvs)) {z:Str} (er:get S z=some r):∃ x,D7 H d (.str z) (some x)/\RcAt K H r x:=by
 obtain⟨x,eq,hx⟩:=g.some er
 exact⟨x,.inl ⟨kvs,.inr z,e,rfl,eq.symm⟩,hx⟩
end
section
variable {P:aI} {w:bp} {K:ae} {mg:Str->Option Value} {base:Heap} {t:Adr}
theorem ax8 {f:Addr} {fd:au} (Z:An K t) (F:FunD K "__init__" "EditError.__init__" Mv f fd t.dv_zf) (T:Tab P w K mg base 0 (By K t) bl):FnOk P w K mg base CX0 1 f fd ai1 (az9 K t):=⟨fun _ _ _ _ h=>h.elim,fun _ _ _ _ _ _ _ _ _ _ _ _ _ h=>h.elim⟩
theorem a88 {f:Addr} {fd:au} (Z:An K t) (F:FunD K "__init__" "Plain.__init__" Jh f fd .none) (T:Tab P w K mg base 0 (By K t) bl):FnOk P w K mg base CX0 1 f fd Nh (ae3 K t):=by
 refine F.okW0 bl7 bp4 T (bi4 K t) (fun vs H Q E h=>?_) (fun vs H Q E h=>?_)
 ·obtain⟨a,dx,rfl,_⟩:=h;rfl
 ·obtain⟨a,dx,rfl,e,k⟩:=h
  intro d hd
  have ne:a≠d:=fun z=>by rw [z,hd] at e;cases e
  exact .inl (.inl ⟨t.c_zbl,dx,[],by rw [Ah ne];exact e,Z.pl,Z.plr,by decide,k d hd⟩)
theorem a98 {f:Addr} {fd:au} (Z:An K t) (F:FunD K "has" "Plain.has" Jn f fd .none) (T:Tab P w K mg base 0 (By K t) bl):FnOk P w K mg base CX0 1 f fd No (ae9 K t):=by
 refine F.okW0 bm3 bq0 T (bj0 K t) (fun vs H Q E h=>?_) (fun vs H Q E h=>?_)
 ·obtain⟨p,d,S,z,rfl,_⟩:=h;rfl
 ·obtain⟨p,d,S,z,rfl,⟨⟨dx,e⟩,kvs,ed,g⟩,k⟩:=h
  refine mD ⟨_,_,_,.ref d,e,Z.pl,Z.plr,rfl,.inr ⟨_,.inl ⟨kvs,.inr z,ed,rfl,rfl⟩,?_⟩⟩
  show Q (.bl (A6 kvs (.inr z)).isSome) H
  rw [g.isSome]
  exact k
theorem bx1 {f:Addr} {fd:au} (Z:An K t) (F:FunD K "state" "Plain.state" Ru f fd .none) (T:Tab P w K mg base 2 (Gn K t) bl):FnOk P w K mg base CX0 3 f fd X1 (a11 K t):=by
 refine F.okW0 b34 b86 T (b17 K t) (fun vs H Q E h=>?_) (fun vs H Q E h=>?_)
 ·obtain⟨p,d,S,z,rfl,_⟩:=h;rfl
 ·obtain⟨p,d,S,z,rfl,⟨⟨dx,e⟩,kvs,ed,g⟩,hz,k⟩:=h
  refine mD ⟨_,_,_,.ref d,e,Z.pl,Z.plr,rfl,.inr ⟨_,.inl ⟨kvs,.inr z,ed,rfl,rfl⟩,?_⟩⟩
  show if (!(A6 kvs (.inr z)).isSome)=true then _ else _
  rw [g.isSome,hz]
  obtain⟨x,dg,hx⟩:=Ys g ed (A0 hz)
  exact mD ⟨_,_,_,.ref d,e,Z.pl,Z.plr,rfl,⟨_,dg,k x hx⟩⟩
theorem bv4 {f:Addr} {fd:au} (Z:An K t) (F:FunD K "state_or_none" "Plain.state_or_none" Rf f fd .none) (T:Tab P w K mg base 0 (By K t) bl):FnOk P w K mg base CX0 1 f fd Xn (az4 K t):=by
 refine F.okW0 b20 b72 T (b03 K t) (fun vs H Q E h=>?_) (fun vs H Q E h=>?_)
 ·obtain⟨p,d,S,z,rfl,_⟩:=h;rfl
 ·obtain⟨p,d,S,z,rfl,⟨⟨dx,e⟩,kvs,ed,g⟩,k⟩:=h
  refine mD ⟨_,_,_,.ref d,e,Z.pl,Z.plr,rfl,?_⟩
  have v:=g.val z
  refine⟨.inr (.inr (.inl ⟨rfl,?_⟩)),A6 kvs (.inr z),.inl ⟨kvs,.inr z,.inl ed,rfl,rfl⟩,k _ ?_⟩
  ·exact .inl ⟨kvs,ed⟩
  ·unfold OpAt
   split at v
   ·rename_i e1;first|rw [e1,v] | rw [v]
    rfl
   ·rename_i r e1
    obtain⟨x,e2,hx⟩:=v
    first|rw [e1,e2] | rw [e2]
    exact hx
theorem bv9 {f:Addr} {fd:au} (Z:An K t) (F:FunD K "kind_of" "Plain.kind_of" Rl f fd .none) (T:Tab P w K mg base 3 (Fh K t) bl):FnOk P w K mg base CX0 4 f fd Xt (a01 K t):=by
 refine F.okW0 b26 b78 T (b09 K t) (fun vs H Q E h=>?_) (fun vs H Q E h=>?_)
 ·obtain⟨p,d,S,z,rfl,_⟩:=h;rfl
 ·obtain⟨p,d,S,z,rfl,hP,hz,k⟩:=h
  obtain⟨dx,e⟩:=hP.1
  exact⟨p,dx,_,⟨t.c_zbl,Vx K t⟩,rfl,.head _,e,rfl,⟨ah _,ah _⟩,⟨p,d,S,z,rfl,hP,hz,(fun x ⟨q,y,ex,h1,h2,h3⟩=>ex▸⟨_,_,.inr h1,rfl,k y h2 h3⟩)⟩⟩
theorem bv7 {f:Addr} {fd:au} (Z:An K t) (F:FunD K "parent_of" "Plain.parent_of" Ri f fd .none) (T:Tab P w K mg base 3 (Fh K t) bl):FnOk P w K mg base CX0 4 f fd Xq (az7 K t):=by
 refine F.okW0 b23 b75 T (b06 K t) (fun vs H Q E h=>?_) (fun vs H Q E h=>?_)
 ·obtain⟨p,d,S,z,rfl,_⟩:=h;rfl
 ·obtain⟨p,d,S,z,rfl,hP,hz,k⟩:=h
  obtain⟨dx,e⟩:=hP.1
  exact⟨p,dx,_,⟨t.c_zbl,Vx K t⟩,rfl,.head _,e,rfl,⟨ah _,ah _⟩,⟨p,d,S,z,rfl,hP,hz,(fun x ⟨q,y,ex,h1,h2,h3⟩=>ex▸⟨_,_,.inr h1,rfl,k y h2 h3⟩)⟩⟩
theorem bw1 {f:Addr} {fd:au} (Z:An K t) (F:FunD K "rank_of" "Plain.rank_of" Rn f fd .none) (T:Tab P w K mg base 3 (Fh K t) bl):FnOk P w K mg base CX0 4 f fd Xv (a03 K t):=by
 refine F.okW0 b28 b80 T (b11 K t) (fun vs H Q E h=>?_) (fun vs H Q E h=>?_)
 ·obtain⟨p,d,S,z,rfl,_⟩:=h;rfl
 ·obtain⟨p,d,S,z,rfl,hP,hz,k⟩:=h
  obtain⟨dx,e⟩:=hP.1
  exact⟨p,dx,_,⟨t.c_zbl,Vx K t⟩,rfl,.head _,e,rfl,⟨ah _,ah _⟩,⟨p,d,S,z,rfl,hP,hz,(fun x ⟨q,y,ex,h1,h2,h3⟩=>ex▸⟨_,_,.inr h1,rfl,k y h2 h3⟩)⟩⟩
theorem bv6 {f:Addr} {fd:au} (Z:An K t) (F:FunD K "content_of" "Plain.content_of" Rh f fd .none) (T:Tab P w K mg base 3 (Fh K t) bl):FnOk P w K mg base CX0 4 f fd Xp (az6 K t):=by
 refine F.okW0 b22 b74 T (b05 K t) (fun vs H Q E h=>?_) (fun vs H Q E h=>?_)
 ·obtain⟨p,d,S,z,rfl,_⟩:=h;rfl
 ·obtain⟨p,d,S,z,rfl,hP,hz,k⟩:=h
  obtain⟨dx,e⟩:=hP.1
  exact⟨p,dx,_,⟨t.c_zbl,Vx K t⟩,rfl,.head _,e,rfl,⟨ah _,ah _⟩,⟨p,d,S,z,rfl,hP,hz,(fun x ⟨q,y,ex,h1,h2,h3⟩=>ex▸⟨_,_,.inr h1,rfl,k y h2 h3⟩)⟩⟩
theorem bx0 {f:Addr} {fd:au} (Z:An K t) (F:FunD K "names" "Plain.names" Rt f fd .none) (T:Tab P w K mg base 0 (By K t) bl):FnOk P w K mg base CX0 1 f fd X0 (a10 K t):=by
 refine F.okW0 b33 b85 T (b16 K t) (fun vs H Q E h=>?_) (fun vs H Q E h=>?_)
 ·obtain⟨p,d,S,rfl,_⟩:=h;rfl
 ·obtain⟨p,d,S,rfl,⟨⟨dx,e⟩,kvs,ed,g⟩,nd,few,k⟩:=h
  have l:(keys S).length<=20:=by unfold keys;rw [ai];exact few
  exact mD ⟨_,_,_,.ref d,e,Z.pl,Z.plr,rfl,.inr ⟨rfl,d,keys S,rfl,.inr ⟨kvs,ed,g.keys⟩,nd,by omega,k⟩⟩
theorem a99 {f:Addr} {fd:au} (Z:An K t) (F:FunD K "lay" "Plain.lay" Jo f fd .none) (T:Tab P w K mg base 0 (By K t) bl):FnOk P w K mg base CX0 1 f fd Np (af0 K t):=by
 refine F.okW0 bm4 bq1 T (bj1 K t) (fun vs H Q E h=>?_) (fun vs H Q E h=>?_)
 ·obtain⟨p,d,S,z,r,y,rfl,_⟩:=h;rfl
 ·obtain⟨p,d,S,z,r,y,rfl,⟨⟨dx,e⟩,kvs,ed,g⟩,hl,hy,hc,k⟩:=h
  refine⟨(show 4<=sizeLine by decide),fun q hq=>?_⟩
  have n1:p≠q:=fun z=>by rw [z,hq] at e;cases e
  have n2:d≠q:=fun z=>by rw [z,hq] at ed;cases ed
  refine mD ⟨_,_,_,.ref d,(by rw [Ah n1];exact e),Z.pl,Z.plr,rfl,⟨_,DPut.k (k:=.inr z) (by rw [Ah n2];exact ed) (by rw [g.len];exact f_ hl (by decide)),?_⟩⟩
  have ed2:upd H q (.tup [.str r.kd,.str r.pr,.int r.rk,y]) d=some (.dK kvs):=by rw [Ah n2];exact ed
  have B:But d (upd H q (.tup [.str r.kd,.str r.pr,.int r.rk,y])) (upd (upd H q (.tup [.str r.kd,.str r.pr,.int r.rk,y])) d (.dK (Cf kvs (.inr z) (.ref q)))):=But.upd
  have S1:Same H (upd H q (.tup [.str r.kd,.str r.pr,.int r.rk,y])):=Same.upd hq
  exact k _ ((But.of S1).trans B) ⟨_,Ad,(KvAt.put (g.keep (TKeep.of S1)) ⟨q,y,rfl,SqT.of Ad,Fs S1 hy,hc⟩).keep (B.tk ed2)⟩
theorem ax7 {f:Addr} {fd:au} (Z:An K t) (F:FunD K "place_key" "Plain.place_key" Rj f fd .none) (T:Tab P w K mg base 4 (G8 K t) bl):FnOk P w K mg base CX0 5 f fd Xr (az8 K t):=by
 refine F.okW0 b24 b76 T (b07 K t) (fun vs H Q E h=>?_) (fun vs H Q E h=>?_)
 ·obtain⟨p,d,S,z,rfl,_⟩:=h;rfl
 ·obtain⟨p,d,S,z,rfl,hP,hz,k⟩:=h
  obtain⟨dx,e⟩:=hP.1
  exact⟨p,dx,_,⟨t.c_zbl,al4 K t⟩,rfl,.head _,e,rfl,⟨ah _,ah _⟩,⟨p,d,S,z,rfl,hP,hz,(fun y _ _=>⟨(show 2<=sizeLine by decide),fun q hq=>k q hq⟩)⟩⟩
end
section
variable {α:Type} {ch:α->List α} {h:α->Nat}
inductive Dn (ch:α->List α) (c:α):α->Prop where
 | here:Dn ch c c
 | dn {y z:α} (d:Dn ch c y) (m:z∈ch y):Dn ch c z
theorem Dn.le (S:E9 ch h) {c z:α} (d:Dn ch c z):h z<=h c:=by
 induction d with
 | here=>exact ah _
 | dn _ m ih=>exact aL (fu (S _ _ m)) ih
theorem Dn.head {c c' z:α} (m:c'∈ch c) (d:Dn ch c' z):Dn ch c z:=by
 induction d with
 | here=>exact .dn .here m
 | dn _ m2 ih=>exact .dn ih m2
theorem Dn.tree (u:∀ y y' z,z∈ch y->z∈ch y'->y=y') {c c' z:α} (d:Dn ch c z):Dn ch c' z->Dn ch c c'\/Dn ch c' c:=by
 induction d with
 | here=>exact fun d'=>.inr d'
 | dn d m ih=>
  intro d'
  cases d' with
  | here=>exact .inl (.dn d m)
  | dn d2 m2=>
   rw [u _ _ _ m2 m] at d2
   exact ih d2
theorem Dn.sib (S:E9 ch h) (u:∀ y y' z,z∈ch y->z∈ch y'->y=y') {n c c':α} (m:c∈ch n) (m':c'∈ch n) (d:Dn ch c c'):c=c':=by
 cases d with
 | here=>rfl
 | dn d m2=>
  rw [u _ _ _ m2 m'] at d
  have:=d.le S
  have:=S _ _ m
  omega
theorem Ml:∀ {k:Nat} {d:Int} {n z:α},z∈(pre ch k d n).map (·.2) -> ∃ c∈ch n,Dn ch c z
 | 0,d,n,z,m=>by cases m
 | k+1,d,n,z,m=>by
  unfold pre at m
  rw [fT] at m
  obtain⟨c,hc,m⟩:=List.mem_flatMap.mp m
  rw [aK] at m
  rcases List.mem_cons.mp m with rfl|m
  ·exact⟨_,hc,.here⟩
  ·obtain⟨c2,hc2,d2⟩:=Ml m
   exact⟨c,hc,.head hc2 d2⟩
theorem Zw (S:E9 ch h) (u:∀ y y' z,z∈ch y->z∈ch y'->y=y') (nd:∀ n,(ch n).Nodup):∀ (k:Nat) (d:Int) (n:α),((pre ch k d n).map (·.2)).Nodup
 | 0,d,n=>dW
 | k+1,d,n=>by
  unfold pre
  rw [fT]
  refine List.pairwise_flatMap.mpr ⟨fun c hc=>?_,?_⟩
  ·rw [aK]
   refine List.nodup_cons.mpr ⟨fun m=>?_,Zw S u nd k _ c⟩
   obtain⟨c2,hc2,d2⟩:=Ml m
   have h1:h c<=h c2:=d2.le S
   have:=S _ _ hc2
   omega
  ·refine i5 ?_ (nd n)
   intro a b ha hb ne x hx y hy e
   subst e
   rw [aK] at hx hy
   have dx:∀ c∈ch n,x∈c::(pre ch k (d+1) c).map (·.2)->Dn ch c x:=fun c hc m=>by
    rcases List.mem_cons.mp m with e|m
    ·rw [e];exact .here
    ·obtain⟨c2,hc2,d2⟩:=Ml m
     exact .head hc2 d2
   rcases (dx a ha hx).tree u (dx b hb hy) with d|d
   ·exact ne (d.sib S u ha hb)
   ·exact ne (d.sib S u hb ha).symm
end
theorem ord_mem {S:Rs} {z:Str}:z∈Fm S ↔ has S z=true:=by
 unfold Fm
 rw [(Am _ _).mem_iff]
 exact mem_keys
theorem ch_mem {S:Rs} {p z:Str}:z∈chS S p ↔ has S z=true/\(Aq S z).pr=p:=by
 unfold chS
 rw [ib,ord_mem,decide_eq_true_iff]
section
variable {S R:Rs} {n:Str}
theorem bd1 (T:Tr S):(Fm S).Nodup:=(Am _ _).nodup_iff.mpr T.nd
theorem at7 (T:Tr S) (p:Str):(chS S p).Nodup:=(bd1 T).sublist kM
theorem a55 (y y' z:Str) (a:z∈chS S y) (b:z∈chS S y'):y=y':=(ch_mem.mp a).2.symm.trans (ch_mem.mp b).2
theorem Tr.sinks (T:Tr S):∃ h:Str->Nat,E9 (chS S) h /\ ∀ z,h z<12:=by
 obtain⟨h,h1,h2⟩:=T.up
 refine⟨h,fun n c m=>?_,h1⟩
 obtain⟨a,b⟩:=ch_mem.mp m
 have:=h2 c _ (A0 a)
 rw [b] at this
 exact this
theorem Ez {k:Nat} {d:Int} {z:Str} (m:z∈(pre (chS S) k d n).map (·.2)):has S z=true:=by
 obtain⟨c,hc,d⟩:=Ml m
 cases d with
 | here=>exact (ch_mem.mp hc).1
 | dn _ m=>exact (ch_mem.mp m).1
theorem Ul (T:Tr S):((Cl S n).map (·.2)).Nodup:=by
 obtain⟨h,h1,_⟩:=T.sinks
 exact Zw h1 a55 (at7 T) _ _ _
theorem El {x:List Str}:∀ {l:List Str},l.Nodup->(∀ z∈l,z∈x)->l.length<=x.length:=by
 intro l nd
 induction l generalizing x with
 | nil=>exact fun _=>bA _
 | cons a l ih=>
  intro h
  have nd2:=List.nodup_cons.mp nd
  have ha:=h a bv
  have:=ih nd2.2 (x:=x.erase a) fun z hz=>(kr (show z≠a from fun e=>nd2.1 (e▸hz))).mpr (h z (aC _ hz))
  rw [i9 ha] at this
  have:0<x.length:=List.length_pos_of_mem ha
  rw [aP]
  omega
theorem A1:(keys S).length=S.length:=by unfold keys;rw [ai]
theorem Jc (T:Tr S):(Cl S n).length<=10:=by
 have:=El (Ul (n:=n) T) fun z hz=>mem_keys.mpr (Ez hz)
 have:=T.few
 rw [A1,ai] at *
 omega
theorem P5 (T:Tr S) (x:Str):(chS S x).length<=10:=by
 have h1:=El (x:=keys S) (at7 T x) fun z hz=>mem_keys.mpr (ch_mem.mp hz).1
 have:=T.few
 rw [A1] at h1
 omega
theorem Like.rec (L:Like S R):Aq S=Aq R:=funext fun z=>by unfold Aq;rw [L.2]
theorem Like.tr (L:Like S R) (T:Tr R):Tr S:=by
 obtain⟨h,h1,h2⟩:=T.up
 refine⟨L.1.nodup_iff.mpr T.nd,?_,fun m=>T.ne (L.1.mem_iff.mp m),h,h1,fun z r g=>h2 z r (by rw [<- L.2];exact g)⟩
 rw [<- A1,L.1.length_eq,A1]
 exact T.few
theorem Like.ch (L:Like S R) (T:Tr R):chS S=chS R:=funext fun p=>by
 unfold chS Fm rkf
 rw [L.rec,Le L.1 (F7 (L.tr T).nd)]
theorem Like.pre (L:Like S R) (T:Tr R) (n:Str):Cl S n=Cl R n:=by unfold Cl;rw [L.ch T]
theorem Like.ln (L:Like S R):lnD S=lnD R:=funext fun w=>by unfold lnD;rw [L.rec]
theorem Like.of (n1:(keys S).Nodup) (n2:(keys R).Nodup) (h:∀ z,get S z=get R z):Like S R:=by
 have hh:∀ z,z∈keys S ↔ z∈keys R:=fun z=>by rw [mem_keys,mem_keys];unfold K71.has;rw [h]
 refine⟨Mi n2 (fun z hz=>(hh z).mpr hz) ?_,h⟩
 exact Nat.le_antisymm (El n1 fun z hz=>(hh z).mp hz) (El n2 fun z hz=>(hh z).mpr hz)
theorem Hg {z y:Str} {r:Rc}:∀ {S:Rs},get (De S z r) y=if z=y then some r else get S y:=by
 intro S
 unfold De
 by_cases c:(S.any fun p=>decide (p.1=z))=true
 ·rw [if_pos c]
  have hz:K71.has S z=true:=by rw [<- Ev];exact c
  clear c
  induction S with
  | nil=>cases hz
  | cons p S ih=>
   obtain⟨x,s⟩:=p
   rw [aK]
   by_cases e:x=z
   ·subst e
    rw [if_pos rfl]
    by_cases e2:x=y
    ·rw [Cu e2,if_pos e2]
    ·rw [Ca e2,if_neg e2,Ca e2]
     by_cases hz2:K71.has S x=true
     ·rw [ih hz2,if_neg e2]
     ·have:(S.map fun p=>if p.1=x then (p.1,r) else p)=S:=by
       refine (dD fun p hp=>?_).trans (List.map_id' S)
       rw [if_neg (fun (e:p.1=x)=>hz2 (mem_keys.mp (e▸bB (f:=(·.1)) hp)))]
      rw [this]
   ·rw [if_neg e]
    by_cases e2:x=y
    ·rw [Cu e2,Cu e2,if_neg (fun c=>e (e2.trans c.symm))]
    ·rw [Ca e2,Ca e2]
     refine ih ?_
     unfold K71.has at hz ⊢
     rwa [Ca e] at hz
 ·rw [if_neg c]
  have hz:K71.has S z=false:=by rw [<- Ev];exact Bool.eq_false_iff.mpr c
  clear c
  induction S with
  | nil=>
   by_cases e:z=y
   ·rw [if_pos e];exact Cu e
   ·rw [if_neg e];exact Ca e
  | cons p S ih=>
   obtain⟨x,s⟩:=p
   rw [cx]
   have e:x≠z:=fun c=>by
    unfold K71.has at hz
    rw [Cu c] at hz
    cases hz
   by_cases e2:x=y
   ·rw [Cu e2,Cu e2,if_neg (fun c=>e (e2.trans c.symm))]
   ·rw [Ca e2,Ca e2]
    refine ih ?_
    unfold K71.has at hz ⊢
    rwa [Ca e] at hz
theorem Il {z:Str} {r:Rc}:keys (De S z r)=if K71.has S z=true then keys S else keys S++[z]:=by
 unfold De
 rw [Ev]
 split
 ·unfold keys
  rw [cr]
  refine dD fun p hp=>?_
  show (if p.1=z then (p.1,r) else p).1=p.1
  split <;> rfl
 ·unfold keys
  rw [bg]
  rfl
theorem Z4 {z:Str} {r:Rc} (nd:(keys S).Nodup):(keys (De S z r)).Nodup:=by
 rw [Il]
 split
 ·exact nd
 ·rename_i c
  refine List.nodup_append.mpr ⟨nd,by simp,fun a ha b hb e=>?_⟩
  rw [List.mem_singleton.mp hb] at e
  exact c (mem_keys.mp (e▸ha))
theorem Uo {z:Str} {r:Rc}:(De S z r).length<=S.length+1:=by
 rw [<- A1,<- A1,Il]
 split
 ·omega
 ·rw [av];exact ah _
end
noncomputable def chz (S:Rs) (zs:List Str) (p:Str):List Str:=zs.filter fun z=>decide ((Aq S z).pr=p)
theorem Er (S:Rs) (zs:List Str) (z p:Str):chz S (zs++[z]) p=chz S zs p++(if (Aq S z).pr=p then [z] else []):=by
 unfold chz
 rw [List.filter_append]
 congr 1
 by_cases h:(Aq S z).pr=p <;> simp [h]
structure UnI (S:Rs) (N:Addr->Prop) (H:Hp) (u:Addr) (zs:List Str) (kvs:List (Key×V)):Prop where
 at_:H u=some (.dK kvs)
 no:∀ p,A6 kvs (.inr p)=none->chz S zs p=[]
 yes:∀ p v,A6 kvs (.inr p)=some v -> ∃ l,v=.ref l/\H l=some (.lst ((chz S zs p).map V.str))/\N l
 inj:∀ p p' v,A6 kvs (.inr p)=some v->A6 kvs (.inr p')=some v->p=p'
 len:kvs.length<=zs.length
section
variable {S:Rs} {N:Addr->Prop} {H:Hp} {u q l:Addr} {zs:List Str} {kvs:List (Key×V)} {z:Str}
theorem UnI.old (h:UnI S N H u zs kvs) (hq:H q=none) (e:A6 kvs (.inr (Aq S z).pr)=some (.ref l)) :
  H l=some (.lst ((chz S zs (Aq S z).pr).map V.str))/\UnI S N (upd (upd H q (.lst [])) l (.lst ((chz S zs (Aq S z).pr).map V.str++[.str z]))) u (zs++[z]) kvs:=by
 obtain⟨l',el,hl,h0⟩:=h.yes _ _ e
 cases el
 have lu:u≠l:=fun c=>by rw [<- c,h.at_] at hl;cases hl
 have qu:u≠q:=fun c=>by rw [<- c,h.at_] at hq;cases hq
 refine⟨hl,by rw [Ah lu,Ah qu];exact h.at_,fun p hp=>?_,fun p v hp=>?_,h.inj,by have:=h.len;rw [av];omega⟩
 ·rw [Er,h.no p hp,if_neg (fun c=>by rw [c,hp] at e;cases e)]
  rfl
 ·obtain⟨l2,rfl,hl2,h2⟩:=h.yes p v hp
  refine⟨l2,rfl,?_,h2⟩
  by_cases c:(Aq S z).pr=p
  ·subst c
   rw [hp] at e
   cases e
   rw [Ad,Er,if_pos rfl,bg]
   rfl
  ·have n1:l2≠l:=fun c2=>by
    rw [c2] at hp
    exact c (h.inj _ _ _ e hp)
   have n2:l2≠q:=fun c2=>by rw [c2,hq] at hl2;cases hl2
   rw [Ah n1,Ah n2,Er,if_neg c,dB]
   exact hl2
theorem UnI.new (h:UnI S N H u zs kvs) (hq:H q=none) (h0q:N q) (e:A6 kvs (.inr (Aq S z).pr)=none) :
  UnI S N (upd (upd (upd H q (.lst [])) u (.dK (Cf kvs (.inr (Aq S z).pr) (.ref q)))) q (.lst ([]++[.str z]))) u (zs++[z]) (Cf kvs (.inr (Aq S z).pr) (.ref q)):=by
 have qu:u≠q:=fun c=>by have:=h.at_;rw [c,hq] at this;cases this
 have vq:∀ p v,A6 kvs (.inr p)=some v->v≠.ref q:=fun p v hp c=>by
  obtain⟨l2,rfl,hl2,_⟩:=h.yes p v hp
  cases c
  rw [hq] at hl2
  cases hl2
 refine⟨by rw [Ah qu,Ad],fun p hp=>?_,fun p v hp=>?_,fun p p' v hp hp'=>?_,?_⟩
 ·rw [Gh] at hp
  split at hp
  ·cases hp
  ·rename_i c
   rw [Er,h.no p hp,if_neg (fun c2=>c (by rw [c2]))]
   rfl
 ·rw [Gh] at hp
  split at hp
  ·rename_i c
   have c:=gL c
   subst c
   cases hp
   refine⟨q,rfl,?_,h0q⟩
   rw [Ad,Er,h.no _ e,if_pos rfl]
   rfl
  ·rename_i c
   obtain⟨l2,rfl,hl2,h2⟩:=h.yes p v hp
   have n2:l2≠q:=fun c2=>by rw [c2,hq] at hl2;cases hl2
   have n3:l2≠u:=fun c2=>by rw [c2,h.at_] at hl2;cases hl2
   refine⟨l2,rfl,?_,h2⟩
   rw [Ah n2,Ah n3,Ah n2,Er,if_neg (fun c2=>c (by rw [c2])),dB]
   exact hl2
 ·rw [Gh] at hp hp'
  split at hp
  ·rename_i c
   split at hp'
   ·rename_i c'
    exact (gL c).trans (gL c').symm
   ·exact absurd (aV hp).symm (vq p' v hp')
  ·split at hp'
   ·exact absurd (aV hp').symm (vq p v hp)
   ·exact h.inj p p' v hp hp'
 ·have:=Ce kvs (.inr (Aq S z).pr) (.ref q)
  have:=h.len
  rw [av,bQ]
  omega
end
section
variable {P:aI} {w:bp} {K:ae} {mg:Str->Option Value} {base:Heap} {t:Adr}
theorem bv5 {f:Addr} {fd:au} (Z:An K t) (F:FunD K "all_unders" "Plain.all_unders" Rg f fd .none) (T:Tab P w K mg base 7 (Vs K t) bl):FnOk P w K mg base CX0 8 f fd Xo (az5 K t):=by
 refine F.okW0 b21 b73 T (b04 K t) (fun vs H Q E h=>?_) (fun vs H Q E h=>?_)
 ·obtain⟨p,d,S,rfl,_⟩:=h;rfl
 ·obtain⟨p,d,S,rfl,hP,T,k⟩:=h
  refine fun u hu=>.inl ?_
  have S1:=Same.upd (o:=.dK []) hu
  have e1:upd H u (.dK []) u=some (.dK []):=Ad
  generalize upd H u (.dK [])=H1 at S1 e1 ⊢
  have hP1:=hP.up S1
  obtain⟨⟨dx,e⟩,kvs0,ed,g⟩:=id hP1
  have l8:(keys S).length<=10:=by rw [A1];exact T.few
  refine mD ⟨_,_,_,.ref d,e,Z.pl,Z.plr,rfl,⟨d,p,dx,_,⟨t.c_zbl,al2 K t⟩,keys S,rkf S,rfl,.inr ⟨kvs0,ed,g.keys⟩,T.nd,by omega,rfl,.head _,e,rfl,
   (fun z hz H3 S3=>⟨p,d,S,z,rfl,hP1.up S3,mem_keys.mp hz,fun q hq=>⟨q,rfl,Same.upd hq,Ad⟩⟩),fun H3 D S3 hD eD=>.inl ⟨⟨_,SqL.of eD⟩,?_⟩⟩⟩
  have hD0:H D=none:=by
   cases c:H D with
   | none=>rfl
   | some o=>rw [S1 _ _ c] at hD;cases hD
  have uD:D≠u:=fun c=>by rw [c,e1] at hD;cases hD
  have lo:(Fm S).length=(keys S).length:=(Am _ _).length_eq
  refine C3 (Bq ((Fm S).map V.str)) (fun i σ H'=>(∃ v,σ=[some (.ref p),some (.ref u),v])/\Same H H'/\H' D=some (.lst ((Fm S).map V.str)) /\ ∃ kvs,UnI S (fun l=>H l=none/\l≠D) H' u ((Fm S).take i) kvs)
   ⟨⟨_,rfl⟩,S1.trans S3,eD,[],S3 _ _ e1,(fun _ _=>rfl),(fun p v hp=>by cases hp),(fun p p' v hp=>by cases hp),bA _⟩ (fun i σ' H' _ h=>SqL.of h.2.2.1) ?_ ?_
  ·rintro i x σ H4 hx ⟨⟨v,rfl⟩,S4,eD4,kvs,U⟩
   rw [aE] at hx
   obtain⟨z,hz,rfl⟩:=Option.map_eq_some_iff.mp hx
   have hi:i<(Fm S).length:=(List.getElem?_eq_some_iff.mp hz).1
   have hh:=ord_mem.mp (aX hz)
   have hP4:=hP.up S4
   obtain⟨dx4,e4⟩:=hP4.1
   have tk:(Fm S).take (i+1)=(Fm S).take i++[z]:=by rw [cz,hz];rfl
   have kl:kvs.length<1000:=by have:=U.len;rw [bj] at this;omega
   refine⟨.inr (.inr (.inl ⟨rfl,.inl ⟨kvs,U.at_⟩⟩)),⟨p,dx4,_,⟨t.c_zbl,Yz K t⟩,rfl,.head _,e4,rfl,⟨ah _,ah _⟩,⟨p,d,S,z,rfl,hP4,hh,(fun y _ _=>?_)⟩⟩⟩
   refine⟨(show 0<=sizeLine by decide),fun q hq=>?_⟩
   have S5:=Same.upd (o:=.lst []) hq
   refine .inr ⟨u,.inr (Aq S z).pr,.ref q,kvs,rfl,rfl,S5 _ _ U.at_,f_ kl (by decide),?_⟩
   have hq0:H q=none:=by
    cases c:H q with
    | none=>rfl
    | some o=>rw [S4 _ _ c] at hq;cases hq
   have hq3:H q=none/\q≠D:=⟨hq0,fun c=>by rw [c,eD4] at hq;cases hq⟩
   cases ev:A6 kvs (.inr (Aq S z).pr) with
   | some v=>
    obtain⟨l,rfl,hl,h0⟩:=U.yes _ _ ev
    obtain⟨hl,U2⟩:=U.old (z:=z) hq ev
    refine⟨.inl ⟨rfl,_,SqL.of (S5 _ _ hl)⟩,l,_,_,rfl,rfl,S5 _ _ hl,?_,⟨⟨_,rfl⟩,(S4.trans S5).set h0.1,?_,kvs,by rw [tk];exact U2⟩⟩
    ·rw [ai]
     have:(chz S ((Fm S).take i) (Aq S z).pr).length<=((Fm S).take i).length:=jS _ _
     rw [bj] at this
     exact bX (show _<=10 by omega) (by decide)
    ·rw [Ah (bZ h0.2)]
     exact S5 _ _ eD4
   | none=>
    have U2:=U.new (z:=z) hq hq3 ev
    have hu0:H u=none:=hu
    have qu:q≠u:=fun c=>by have:=U.at_;rw [<- c,hq] at this;cases this
    refine⟨.inl ⟨rfl,[],SqL.of ?_⟩,q,[],_,rfl,rfl,?_,by decide,⟨⟨_,rfl⟩,((S4.trans S5).set hu0).set hq0,?_,_,by rw [tk];exact U2⟩⟩
    ·rw [Ah qu,Ad]
    ·rw [Ah qu,Ad]
    ·rw [Ah (bZ hq3.2),Ah uD,Ah (bZ hq3.2)]
     exact eD4
  ·rintro σ H4 ⟨⟨v,rfl⟩,S4,eD4,kvs,U⟩
   rw [ai,dH] at U
   refine .inl (k H4 u S4 ⟨kvs,U.at_,fun p=>?_⟩)
   split
   ·rename_i c;exact U.no p c
   ·rename_i v' c
    obtain⟨l,e1,e2,_⟩:=U.yes p v' c
    exact⟨l,e1,e2⟩
end
section
variable {K:ae} {H H':Hp}
theorem a56 {J:It} {its:List V} {ok:Hp->Prop} {te:DE} {σ:St} {H:Hp} {L:Addr} {R:Hp->Prop} {E:EK} (Y:D9 J its ok) (Sg:St->Prop) (Pr:Nat->V->Hp->Prop) (hL:H L=none) (hok:∀ H1,Same H H1->ok H1) (hn:its.length<sizeLine) (hσ:Sg σ) (hS:∀ σ x,Sg σ->Sg (σ.set 0 (some x)))
  (mono:∀ i v H1 H2,TKeep K H1 H2->Pr i v H1->Pr i v H2)
  (he:∀ (i:Nat) x σ H1 Q1,its[i]? = some x->Sg σ->Same H H1->(∀ v H2,Same H1 H2->Pr i v H2->Q1 v H2)->te (σ.set 0 (some x)) H1 Q1 E)
  (hd:∀ H' ys,Same H H'->H' L=some (.lst ys)->ys.length=its.length->(∀ (i:Nat) (v:V),ys[i]? = some v->Pr i v H')->R H'):ah8 J (gdN 0) E7 te L R σ (upd H L (.lst [])) E:=by
 refine Cs Y (fun i σ' H'=>Sg σ'/\Same H H' /\ ∃ ys,H' L=some (.lst ys)/\ys.length=i /\ ∀ (j:Nat) (v:V),ys[j]? = some v->Pr j v H') ⟨hσ,Same.upd hL,[],Ad,rfl,fun j v e=>by simp at e⟩ (fun i σ' H' _ q=>hok H' q.2.1) ?_ ?_
 ·rintro i x σ' H' hx ⟨q1,q2,ys,q3,q4,q5⟩
  have hi:i<its.length:=(List.getElem?_eq_some_iff.mp hx).1
  refine he i x σ' H' _ hx q1 q2 fun v H2 S2 hp=>⟨ys,S2 _ _ q3,by omega,hS _ _ q1,(q2.trans S2).set hL,ys++[v],Ad,by rw [av,q4];rfl,fun j u hu=>?_⟩
  have kp:TKeep K H2 (upd H2 L (.lst (ys++[v]))):=TKeep.lst (S2 _ _ q3)
  by_cases hj:j<ys.length
  ·rw [dS hj] at hu
   exact mono _ _ _ _ kp (mono _ _ _ _ (TKeep.of S2) (q5 j u hu))
  ·rw [cM (by omega)] at hu
   have hj0:j - ys.length=0:=by
    rcases Nat.eq_zero_or_pos (j - ys.length) with h|h
    ·exact h
    ·rw [ft (by simp;omega)] at hu;cases hu
   rw [hj0] at hu
   cases hu
   have:j=i:=by omega
   subst this
   exact mono _ _ _ _ kp hp
 ·rintro σ' H' ⟨_,q2,ys,q3,q4,q5⟩
  exact hd H' ys q2 q3 q4 q5
theorem PrAt.keep (T:TKeep K H H'):∀ {ws:List (Int×Str)} {ys:List V},PrAt K H ws ys->PrAt K H' ws ys
 | [],_,h=>h
 | w::ws,ys,h=>by
  obtain⟨q,rest,e,h1,h2⟩:=h
  exact⟨q,rest,e,T _ _ h1,h2.keep T⟩
theorem PrAt.app:∀ {ws ws':List (Int×Str)} {ys ys':List V},PrAt K H ws ys->PrAt K H ws' ys'->PrAt K H (ws++ws') (ys++ys')
 | [],_,ys,_,h,g=>by rw [show ys=[] from h];exact g
 | w::ws,_,ys,_,h,g=>by
  obtain⟨q,rest,rfl,h1,h2⟩:=h
  exact⟨q,_,rfl,h1,h2.app g⟩
theorem PrAt.split:∀ {ws:List (Int×Str)} {x:Int×Str} {ys:List V},PrAt K H (ws++[x]) ys -> ∃ ys' q,ys=ys'++[.ref q]/\PrAt K H ws ys'/\SqT K H q [.int x.1,.str x.2]
 | [],x,ys,h=>by
  obtain⟨q,rest,rfl,h1,h2⟩:=h
  rw [show rest=[] from h2]
  exact⟨[],q,rfl,rfl,h1⟩
 | w::ws,x,ys,h=>by
  obtain⟨q,rest,rfl,h1,h2⟩:=h
  obtain⟨ys',q',rfl,h3,h4⟩:=PrAt.split h2
  exact⟨.ref q::ys',q',rfl,⟨q,ys',rfl,h1,h3⟩,h4⟩
theorem PrAt.length:∀ {ws:List (Int×Str)} {ys:List V},PrAt K H ws ys->ys.length=ws.length
 | [],ys,h=>by rw [show ys=[] from h];rfl
 | w::ws,ys,h=>by
  obtain⟨q,rest,rfl,_,h2⟩:=h
  rw [aP,aP,h2.length]
theorem PrAt.tree:∀ {ws:List (Int×Str)} {ys:List V},PrAt K H ws ys->AtL K H (ws.map fun w=>.tup [.at_ (.int w.1),B4 w.2]) ys
 | [],ys,h=>by rw [show ys=[] from h];exact A9
 | w::ws,ys,h=>by
  obtain⟨q,rest,rfl,h1,h2⟩:=h
  exact Ap (Fc h1 (Ap (C5 rfl) (Ap B7 A9))) h2.tree
theorem Tx:∀ ws:List (Int×Str),Bx (ws.map fun w=>Dt.tup [.at_ (.int w.1),B4 w.2])<=1
 | []=>by simp [Bx]
 | w::ws=>by
  rw [aK]
  unfold Bx
  refine Nat.max_le.mpr ⟨?_,Tx ws⟩
  unfold B4
  simp [dep,Bx]
theorem by7 {ws:List (Int×Str)} {ys:List V} {a b:Addr} {Q:VK} (h:PrAt K H ws ys) (ea:H a=some (.lst ys)) (eb:H b=some (.lst [])) (k:Q (.bl (!ws.isEmpty)) H):Bz K true (.ref a) (.ref b) H Q:=by
 refine .inr (.inl ⟨.lst (ws.map fun w=>.tup [.at_ (.int w.1),B4 w.2]),.lst [],Ea (SqL.of ea) h.tree,Ea (SqL.of eb) A9,?_,?_⟩)
 ·have:=Tx ws
  unfold dep
  omega
 ·have e:deq (.lst (ws.map fun w=>Dt.tup [.at_ (.int w.1),B4 w.2])) (.lst [])=ws.isEmpty:=by
   cases ws <;> simp [deq,B0]
  rw [e]
  exact k
theorem UnAt.up {u:Addr} {S:Rs} (h:UnAt H u S) (T:Same H H'):UnAt H' u S:=by
 obtain⟨kvs,e,g⟩:=h
 refine⟨kvs,T _ _ e,fun p=>?_⟩
 have:=g p
 split at this
 ·exact this
 ·obtain⟨l,e1,e2⟩:=this
  exact⟨l,e1,T _ _ e2⟩
theorem UnAt.get {u:Addr} {S:Rs} (h:UnAt H u S) (p:Str) {q:Addr} (hq:H q=some (.lst [])):∃ o l,D7 H u (.str p) o/\o.getD (.ref q)=.ref l/\H l=some (.lst ((chS S p).map V.str)):=by
 obtain⟨kvs,e,g⟩:=h
 have:=g p
 split at this
 ·rename_i ev
  refine⟨none,q,.inl ⟨kvs,.inr p,.inl e,rfl,ev.symm⟩,rfl,?_⟩
  rw [this]
  exact hq
 ·rename_i v ev
  obtain⟨l,rfl,hl⟩:=this
  exact⟨some (.ref l),l,.inl ⟨kvs,.inr p,.inl e,rfl,ev.symm⟩,rfl,hl⟩
theorem br8 {a:Addr} (xs:List V):D9 (Nf K a xs.length) xs.reverse (fun H=>SqL K H a xs):=by
 refine⟨fun i H q h=>⟨by rw [cy] at h;exact h,xs,q,rfl⟩,fun H q=>by show xs.length<=xs.reverse.length;rw [cy];exact ah _,fun i H x H' q hi h=>?_⟩
 obtain⟨h1,h2⟩:=h
 rw [cy] at hi
 refine⟨h1,?_⟩
 rw [List.getElem?_reverse hi]
 exact h2 xs q
theorem ay3 {c:Int}:∀ {zs:List Str} {ys:List V},ys.length=zs.length->(∀ (i:Nat) v,ys[i]? = some v -> ∀ z,zs[i]? = some z -> ∃ q,v=.ref q/\SqT K H q [.int c,.str z])->PrAt K H (zs.map fun z=>(c,z)) ys
 | [],[],_,_=>rfl
 | [],_::_,h,_=>by simp at h
 | _::_,[],h,_=>by simp at h
 | z::zs,y::ys,h,g=>by
  obtain⟨q,rfl,hq⟩:=g 0 y rfl z rfl
  exact⟨q,ys,rfl,hq,ay3 (by simpa using h) fun i v h1 z h2=>g (i+1) v h1 z h2⟩
theorem X9 {zs:List Str} {a L:Addr} {c:Int} {te:DE} {σ:St} {R:Hp->Prop} {E:EK} (Sg:St->Prop) (hL:H L=none) (ha:H a=some (.lst (zs.map V.str))) (hz:zs.length<=10) (hσ:Sg σ) (hS:∀ σ x,Sg σ->Sg (σ.set 0 (some x)))
  (he:∀ (z:Str) σ H1 (Q1:VK),Sg σ->Same H H1->(∀ q,H1 q=none->Q1 (.ref q) (upd H1 q (.tup [.int c,.str z])))->te (σ.set 0 (some (.str z))) H1 Q1 E)
  (hd:∀ H' ys,Same H H'->H' L=some (.lst ys)->PrAt K H' (zs.reverse.map fun z=>(c,z)) ys->R H'):ah8 (Nf K a (zs.map V.str).length) (gdN 0) E7 te L R σ (upd H L (.lst [])) E:=by
 refine a56 (K:=K) (br8 (zs.map V.str)) Sg (fun (i:Nat) v H=>∀ z,zs.reverse[i]? = some z -> ∃ q,v=.ref q/\SqT K H q [.int c,.str z]) hL (fun H1 S=>SqL.of (S _ _ ha)) ?_ hσ hS (fun i v H1 H2 T h z hz=>by
  obtain⟨q,e,hq⟩:=h z hz
  exact⟨q,e,T _ _ hq⟩) ?_ ?_
 ·rw [cy,ai]
  exact bX hz (by decide)
 ·intro i x σ H1 Q1 hx hg S hk
  rw [<- jx,aE] at hx
  obtain⟨z,ez,rfl⟩:=Option.map_eq_some_iff.mp hx
  exact he z σ H1 Q1 hg S fun q hq=>hk _ _ (Same.upd hq) fun z' ez'=>by
   rw [ez] at ez'
   cases ez'
   exact⟨q,rfl,SqT.of Ad⟩
 ·intro H' ys S e hl hp
  refine hd H' ys S e (ay3 ?_ hp)
  rw [hl,cy,ai,cy]
end
section
variable {P:aI} {w:bp} {K:ae} {mg:Str->Option Value} {base:Heap} {t:Adr}
structure WkI (K:ae) (S:Rs) (n:Str) (H1:Hp) (f wt:Addr) (fs ws:List (Int×Str)) (yf yw:List V) (H:Hp):Prop where
 sm:Same H1 H
 hf:H f=some (.lst yf)
 pf:PrAt K H fs yf
 hw:H wt=some (.lst yw)
 pw:PrAt K H ws yw
 df:fs++due (chS S) 12 ws=Cl S n
theorem none_of {H H':Hp} {a:Addr} (S:Same H H') (h:H' a=none):H a=none:=S.free h
theorem ak2 {S:Rs} (ws:List (Int×Str)):ws.length<=(due (chS S) 12 ws).length:=by
 unfold due
 rw [<- cy]
 generalize ws.reverse=us
 induction us with
 | nil=>exact bA _
 | cons u us ih=>
  rw [i7,av,aP,aP]
  omega
theorem WkI.len {S:Rs} {n:Str} {H1 H:Hp} {f wt:Addr} {fs ws:List (Int×Str)} {yf yw:List V} (I:WkI K S n H1 f wt fs ws yf yw H) (T:Tr S):fs.length+ws.length<=10:=by
 have h1:=congrArg ia I.df
 rw [av] at h1
 have:=ak2 (S:=S) ws
 have:=Jc (n:=n) T
 omega
theorem a89 {f:Addr} {fd:au} (Z:An K t) (F:FunD K "walk" "Plain.walk" Ji f fd .none) (T:Tab P w K mg base 8 (ak7 K t) bl):FnOk P w K mg base CX0 9 f fd Ni (ae4 K t):=by
 refine F.okW0 bl8 bp5 T (bi5 K t) (fun vs H Q E h=>?_) (fun vs H Q E h=>?_)
 ·obtain⟨p,d,S,n,rfl,_⟩:=h;rfl
 ·obtain⟨p,d,S,n,rfl,hP,T,k⟩:=h
  obtain⟨dx,e⟩:=hP.1
  obtain⟨hh,sk,hk⟩:=T.sinks
  refine⟨p,dx,_,⟨t.c_zbl,a69 K t⟩,rfl,.head _,e,rfl,⟨ah _,ah _⟩,⟨p,d,S,rfl,hP,T,fun H1 u S1 hU=>?_⟩⟩
  refine⟨(show 0<=sizeLine by decide),fun f hf=>?_⟩
  have S2:=Same.upd (o:=.lst []) hf
  have ef:upd H1 f (.lst []) f=some (.lst []):=Ad
  generalize upd H1 f (.lst [])=H2 at S2 ef ⊢
  obtain⟨kvs,eu,_⟩:=id (hU.up S2)
  refine⟨.inr (.inr (.inl ⟨rfl,.inl ⟨kvs,eu⟩⟩)),⟨(show 0<=sizeLine by decide),fun q hq=>?_⟩⟩
  have S3:=Same.upd (o:=.lst []) hq
  have eq:upd H2 q (.lst []) q=some (.lst []):=Ad
  generalize upd H2 q (.lst [])=H3 at S3 eq ⊢
  obtain⟨o,l,h1,h2,h3⟩:=((hU.up S2).up S3).get n eq
  refine⟨o,h1,?_⟩
  rw [h2]
  refine⟨_,SqL.of h3,fun L hL=>?_⟩
  have fL:f≠L:=fun c=>by rw [<- c,S3 _ _ ef] at hL;cases hL
  have hL1:=none_of (S2.trans S3) hL
  refine X9 (c:=1) (fun σ=>σ.length=1) hL h3 (P5 T n) rfl (fun σ x hσ=>by rw [List.length_set];exact hσ) ?_ ?_
  ·intro z σ H4 Q1 hσ S4 hk
   obtain⟨v,rfl⟩:∃ v,σ=[v]:=by
    match σ,hσ with
    | [v],_=>exact⟨v,rfl⟩
   exact⟨(show 2<=sizeLine by decide),fun q hq=>hk q hq⟩
  ·intro H4 ys S4 eL hp
   have I0:WkI K S n H1 f L [] ((chS S n).reverse.map fun z=>((1:Int),z)) [] ys H4:=⟨(S2.trans S3).trans S4,S4 _ _ (S3 _ _ ef),rfl,eL,hp,Vo sk hk⟩
   refine⟨fun m σ H'=>∃ fs ws yf yw v,m=10 - fs.length/\σ=[some (.ref p),some (.str n),some (.ref u),some (.ref f),some (.ref L),v]/\WkI K S n H1 f L fs ws yf yw H',⟨_,_,_,_,_,_,rfl,rfl,I0⟩,?_⟩
   clear I0 S4 eL hp hL S3 eq h1 h2 h3 S2 ef
   rintro m σ H5 ⟨fs,ws,yf,yw,v,rfl,rfl,I⟩
   have hl:=I.len T
   refine⟨(show 0<=sizeLine by decide),fun q hq=>?_⟩
   have S6:=Same.upd (o:=.lst []) hq
   have eq:upd H5 q (.lst []) q=some (.lst []):=Ad
   generalize upd H5 q (.lst [])=H6 at S6 eq ⊢
   have I:WkI K S n H1 f L fs ws yf yw H6:=⟨I.sm.trans S6,S6 _ _ I.hf,I.pf.keep (TKeep.of S6),S6 _ _ I.hw,I.pw.keep (TKeep.of S6),I.df⟩
   refine by7 I.pw I.hw eq ?_
   rcases List.eq_nil_or_concat ws with rfl|⟨ws',x,rfl⟩
   ·have d0:=I.df
    rw [ak3,dB] at d0
    exact k H6 f yf (S1.trans I.sm) (d0▸I.pf) I.hf
   ·rw [List.concat_eq_append] at I hl ⊢
    have ne:(!(ws'++[x]).isEmpty)=true:=by cases ws' <;> rfl
    rw [ne]
    obtain⟨yw',q',rfl,pw',hq'⟩:=I.pw.split
    have l1:=I.pf.length
    have l2:=pw'.length
    rw [av,bQ] at hl
    refine⟨fun σ H'=>∃ fs2 ws2 yf2 yw2 v2,fs2.length=fs.length+1/\σ=[some (.ref p),some (.str n),some (.ref u),some (.ref f),some (.ref L),v2]/\WkI K S n H1 f L fs2 ws2 yf2 yw2 H',?_,?_⟩
    ·rintro σ' H' ⟨fs2,ws2,yf2,yw2,v2,e1,e2,e3⟩
     exact⟨10 - fs2.length,by omega,fs2,ws2,yf2,yw2,v2,rfl,e2,e3⟩
    ·refine .inl ⟨.inl ⟨rfl,_,SqL.of I.hw⟩,.inl ⟨L,_,_,rfl,rfl,I.hw,by rw [av,bQ,Nat.add_sub_cancel];exact List.getElem?_concat_length,?_⟩⟩
     rw [List.dropLast_concat]
     have k7:TKeep K H6 (upd H6 L (.lst yw')):=TKeep.lst I.hw
     have s7:Same H1 (upd H6 L (.lst yw')):=I.sm.set hL1
     have f7:upd H6 L (.lst yw') f=some (.lst yf):=by rw [Ah fL];exact I.hf
     have e7:upd H6 L (.lst yw') L=some (.lst yw'):=Ad
     generalize upd H6 L (.lst yw')=H7 at k7 s7 f7 e7 ⊢
     refine⟨.inl ⟨rfl,_,SqL.of f7⟩,f,_,_,rfl,rfl,f7,bX (show yf.length<=10 by omega) (by decide),?_⟩
     have k8:TKeep K H7 (upd H7 f (.lst (yf++[.ref q']))):=TKeep.lst f7
     have s8:Same H1 (upd H7 f (.lst (yf++[.ref q']))):=s7.set hf
     have f8:upd H7 f (.lst (yf++[.ref q'])) f=some (.lst (yf++[.ref q'])):=Ad
     have e8:upd H7 f (.lst (yf++[.ref q'])) L=some (.lst yw'):=by rw [Ah (bZ fL)];exact e7
     generalize upd H7 f (.lst (yf++[.ref q']))=H8 at k8 s8 f8 e8 ⊢
     have k8:=k7.trans k8
     obtain⟨kvs,eu,_⟩:=id (hU.up s8)
     have t8:=k8 _ _ hq'
     refine⟨.inl ⟨rfl,_,SqL.of e8⟩,⟨.inr (.inr (.inl ⟨rfl,.inl ⟨kvs,eu⟩⟩)),⟨_,_,.inr t8,rfl,⟨(show 0<=sizeLine by decide),fun q2 hq2=>?_⟩⟩⟩⟩
     have S9:=Same.upd (o:=.lst []) hq2
     have e9:upd H8 q2 (.lst []) q2=some (.lst []):=Ad
     generalize upd H8 q2 (.lst [])=H9 at S9 e9 ⊢
     obtain⟨o2,l2',g1,g2,g3⟩:=((hU.up s8).up S9).get x.2 e9
     refine⟨o2,g1,?_⟩
     rw [g2]
     refine⟨_,SqL.of g3,fun L2 hL2=>?_⟩
     refine X9 (c:=x.1+1) (fun σ=>∃ v,σ=[v,some (.ref q')]) hL2 g3 (P5 T x.2) ⟨none,rfl⟩ (fun σ y hσ=>by obtain⟨v,rfl⟩:=hσ;exact⟨_,rfl⟩) ?_ ?_
     ·rintro z σ H10 Q1 ⟨v,rfl⟩ S10 hk
      exact⟨_,_,.inr ((S9.trans S10).seqT t8),rfl,(show 2<=sizeLine by decide),fun q hq=>hk q hq⟩
     ·intro H10 zs S10 eL2 hp
      have S10:=S9.trans S10
      have e10:=S10 _ _ e8
      have l3:=hp.length
      rw [ai,cy] at l3
      have l4:=P5 T x.2
      refine⟨L,L2,_,_,rfl,rfl,e10,eL2,aL (show yw'.length+zs.length<=20 by omega) (by decide),?_⟩
      have k10:=(k8.trans (TKeep.of S10)).trans (TKeep.lst (zs:=yw'++zs) e10)
      refine⟨fs++[x],ws'++((chS S x.2).reverse.map fun z=>(x.1+1,z)),_,_,_,by rw [av,bQ],rfl,(s8.trans S10).set hL1,by rw [Ah fL];exact S10 _ _ f8,(I.pf.keep k10).app ⟨q',[],rfl,k10 _ _ hq',rfl⟩,Ad,(pw'.keep k10).app (hp.keep (TKeep.lst e10)),?_⟩
      rw [<- I.df]
      exact Yl sk hk
theorem PrAt.ix {H:Hp}:∀ {ws:List (Int×Str)} {ys:List V},PrAt K H ws ys -> ∀ {i:Nat} {x:V},ys[i]? = some x -> ∃ p q,ws[i]? = some p/\x=.ref q/\SqT K H q [.int p.1,.str p.2]
 | [],ys,h,i,x,e=>by rw [show ys=[] from h] at e;cases e
 | w::ws,ys,h,i,x,e=>by
  obtain⟨q,rest,rfl,h1,h2⟩:=h
  cases i with
  | zero=>cases e;exact⟨w,q,rfl,rfl,h1⟩
  | succ i=>exact h2.ix e
end
theorem Gb:∀ {l:List Str} {i:Nat} {z:Str},l.Nodup->l[i]? = some z->z∉l.take i
 | [],i,z,_,e,_=>by simp at e
 | a::l,0,z,_,_,h=>by cases h
 | a::l,i+1,z,nd,e,h=>by
  obtain⟨h1,h2⟩:=List.nodup_cons.mp nd
  rw [cG] at e
  rw [List.take_succ_cons] at h
  rcases List.mem_cons.mp h with rfl|h
  ·exact h1 (aX e)
  ·exact Gb h2 e h
theorem a23 {p:Addr} {o:Obj} (kvs:List (Key×V)):D9 (Itd p o kvs) (kvs.map fun kv=>kV kv.1) (fun H=>H p=some (.frz o (.dK kvs))):=by
 refine⟨fun i H q h=>⟨q,by rw [ai] at h;exact h⟩,fun H q=>⟨q,by rw [ai];exact ah _⟩,fun i H x H' q _ h=>?_⟩
 obtain⟨h1,k,v,h2,h3⟩:=h
 refine⟨h1,?_⟩
 rw [aE,h2,h3]
 rfl
section
variable {P:aI} {w:bp} {K:ae} {mg:Str->Option Value} {base:Heap} {t:Adr}
theorem KvAt.names {H:Hp} {S:Rs} {kvs:List (Key×V)} (g:KvAt K H S kvs):(kvs.map fun kv=>kV kv.1)=(K71.keys S).map V.str:=by
 have:=congrArg (iG kV) g.keys
 rw [cr,cr] at this
 exact this
theorem bx5 {H:Hp} {d:Addr} {S:Rs} {R:Obj->List (Key×V)->Hp->Prop} (h:RdAt K H d S) (k:∀ o kvs H2,Sm H H2->H2 d=some (.frz o (.dK kvs))->KvAt K H2 S kvs->R o kvs H2):onD d H R:=by
 obtain⟨kvs,e|⟨o,e⟩,g⟩:=h
 ·exact .inl ⟨kvs,e,fun o=>k o kvs _ (Sm.frz e) Ad (g.keep (Sm.frz e).tk)⟩
 ·exact .inr ⟨o,kvs,e,k o kvs H Sm.refl e g⟩
theorem bw0 {f:Addr} {fd:au} (Z:An K t) (F:FunD K "line_of" "Plain.line_of" Rm f fd .none) (T:Tab P w K mg base 4 (G8 K t) bl):FnOk P w K mg base CX0 5 f fd Xu (a02 K t):=by
 refine F.okW0 b27 b79 T (b10 K t) (fun vs H Q E h=>?_) (fun vs H Q E h=>?_)
 ·obtain⟨p,d,S,w,rfl,_⟩:=h;rfl
 ·obtain⟨p,d,S,w,rfl,hP,hw,k⟩:=h
  obtain⟨dx,e⟩:=hP.1
  refine⟨p,dx,_,⟨t.c_zbl,al3 K t⟩,rfl,.head _,e,rfl,⟨ah _,ah _⟩,⟨p,d,S,w.2,rfl,hP,hw,(fun _ _ _=>?_)⟩⟩
  refine⟨p,dx,_,⟨t.c_zbl,al4 K t⟩,rfl,.head _,e,rfl,⟨ah _,ah _⟩,⟨p,d,S,w.2,rfl,hP,hw,(fun _ _ _=>?_)⟩⟩
  refine⟨p,dx,_,⟨t.c_zbl,a70 K t⟩,rfl,.head _,e,rfl,⟨ah _,ah _⟩,⟨p,d,S,w.2,rfl,hP,hw,(fun y hy _=>?_)⟩⟩
  exact⟨(show 5<=sizeLine by decide),fun q hq=>k _ _ (Same.upd hq) (Fc (SqT.of Ad) (Ap (C5 rfl) (Ap B7 (Ap B7 (Ap (C5 rfl) (Ap (Fs (Same.upd hq) hy) A9))))))⟩
theorem ax4 {S:Rs} {w:Int×Str} (h:noL (Aq S w.2).ct=true):noL (lnD S w)=true:=by
 unfold lnD noL
 simp only [Fl,B4,Kf,noL,h,Bool.and_self]
theorem RdAt.ct {H:Hp} {d:Addr} {S:Rs} {z:Str} (h:RdAt K H d S) (hz:has S z=true):Fd (Aq S z).ct:=by
 obtain⟨kvs,_,g⟩:=h
 obtain⟨x,_,_,_,_,_,_,c⟩:=g.some (A0 hz)
 exact c
theorem Ip {H:Hp} {d:Addr} {S:Rs} (h:RdAt K H d S):∀ {ws:List (Int×Str)},(∀ w∈ws,has S w.2=true)->Fl (ws.map (lnD S))=true
 | [],_=>by unfold Fl;rfl
 | w::ws,a=>by
  rw [aK]
  unfold Fl
  rw [ax4 (Lv (h.ct (a w bv)).1),Ip h fun w hw=>a w (aC _ hw)]
  rfl
theorem bw9 {f:Addr} {fd:au} (Z:An K t) (F:FunD K "lines" "Plain.lines" Rr f fd .none) (T:Tab P w K mg base 9 (ak8 K t) bl):FnOk P w K mg base CX0 10 f fd Xz (a09 K t):=by
 refine F.okW0 b32 b84 T (b15 K t) (fun vs H Q E h=>?_) (fun vs H Q E h=>?_)
 ·obtain⟨p,d,S,rfl,_⟩:=h;rfl
 ·obtain⟨p,d,S,rfl,hP,T,k⟩:=h
  obtain⟨dx,e⟩:=hP.1
  refine⟨p,dx,_,⟨t.c_zbl,Yx K t⟩,rfl,.head _,e,rfl,⟨ah _,ah _⟩,⟨p,d,S, "", rfl,hP,T,fun H1 a ys S1 hp ea=>.inl ⟨⟨_,SqL.of ea⟩,fun L hL=>?_⟩⟩⟩
  have lb:=Jc (n := "") T
  have ll:=hp.length
  have al:∀ w∈Cl S "", has S w.2=true:=fun w hw=>Ez (bB hw)
  generalize Cl S "" = ws at k lb ll hp al
  have no:=Ip hP.2 al
  refine Cs (Bq ys) (fun i σ H'=>(∃ u v,σ=[u,v,some (.ref p)])/\Same H1 H' /\ ∃ zs,H' L=some (.lst zs)/\AtL K H' ((ws.take i).map (lnD S)) zs) ⟨⟨_,_,rfl⟩,Same.upd hL,[],Ad,A9⟩ (fun i σ H' _ h=>SqL.of (h.2.1 _ _ ea)) ?_ ?_
  ·rintro i x σ H2 hx ⟨⟨u,v,rfl⟩,S2,zs,eL,az⟩
   obtain⟨⟨c,z⟩,q,hi,rfl,hq⟩:=hp.ix hx
   have hi':i<ws.length:=(List.getElem?_eq_some_iff.mp hi).1
   have hP2:=hP.up (S1.trans S2)
   obtain⟨dx2,e2⟩:=hP2.1
   refine⟨_,S2.seqT hq,rfl,⟨p,dx2,_,⟨t.c_zbl,a72 K t⟩,rfl,.head _,e2,rfl,⟨ah _,ah _⟩,⟨p,d,S,(c,z),rfl,hP2,al _ (aX hi),fun H3 x S3 ax=>?_⟩⟩⟩
   have l3:=az.length
   rw [ai,bj] at l3
   refine⟨zs,S3 _ _ eL,bX (show _<=10 by omega) (by decide),⟨_,_,rfl⟩,(S2.trans S3).set hL,_,Ad,?_⟩
   have n1:Fl ((ws.take i).map (lnD S))=true:=Ip hP.2 fun w hw=>al w (c7 hw)
   have n2:noL (lnD S (c,z))=true:=ax4 (Lv (hP.2.ct (al _ (aX hi))).1)
   have tk:TKeep K H3 (upd H3 L (.lst (zs++[x]))):=TKeep.lst (S3 _ _ eL)
   rw [cz,hi,bg]
   exact Ha (Dl tk n1 (Dw S3 az)) (Ap (Kl tk n2 ax) A9)
  ·rintro σ H2 ⟨_,S2,zs,eL,az⟩
   rw [ll,dH] at az
   exact k H2 L zs (S1.trans S2) (S1.free hL) eL az
end
section
variable {P:aI} {w:bp} {K:ae} {mg:Str->Option Value} {base:Heap} {t:Adr} {H:Hp}
theorem RdAt.get {H:Hp} {d:Addr} {R:Rs} {z:Str} (h:RdAt K H d R) (hz:has R z=true):∃ q y,D7 H d (.str z) (some (.ref q))/\SqT K H q [.str (Aq R z).kd,.str (Aq R z).pr,.int (Aq R z).rk,y]/\At K H (Aq R z).ct y/\Fd (Aq R z).ct:=by
 obtain⟨kvs,e,g⟩:=h
 obtain⟨x,dg,q,y,rfl,h1,h2,h3⟩:=Ys g e (A0 hz)
 exact⟨q,y,dg,h1,h2,h3⟩
theorem a65 {r:Rc} (c:Fd r.ct):dep (rcD r)<=6:=by
 unfold rcD dep
 refine dI ?_
 simp only [Bx,B4,Kf,dep,ke,bA,true_and,and_true]
 exact c.2
theorem X5 {d:Dt} {x y:V} {neg:Bool} {Q:VK} {a b:Addr} (hx:x=.ref a) (hy:y=.ref b) (h:At K H d x) (h':At K H d y) (c:dep d<=40) (k:Q (.bl (!neg)) H):Bz K neg x y H Q:=by
 subst hx
 subst hy
 refine .inr (.inl ⟨d,d,h,h',c,?_⟩)
 rw [Ee h]
 cases neg <;> exact k
theorem Id {o:Option Rc} {x:V} (h:OpAt K H o x):eqO o o=true:=by
 cases o with
 | none=>rfl
 | some r=>exact Ee (RcAt.at h)
theorem Fa {o o':Option Rc} {x y:V} {neg:Bool} {Q:VK} (h:OpAt K H o x) (h':OpAt K H o' y) (k:Q (.bl (if neg then !eqO o o' else eqO o o')) H):Bz K neg x y H Q:=by
 cases o with
 | none=>
  cases o' with
  | none=>
   obtain rfl:x=.non:=h
   obtain rfl:y=.non:=h'
   exact⟨rfl,by cases neg <;> exact k⟩
  | some r'=>
   obtain rfl:x=.non:=h
   obtain⟨q,v,rfl,h1,h2,h3⟩:=id h'
   refine⟨.at_ .non,rcD r',C5 rfl,RcAt.at h',by unfold dep;omega,?_⟩
   rw [show deq (.at_ .non) (rcD r')=false from by unfold rcD deq;rfl]
   cases neg <;> exact k
 | some r=>
  obtain⟨q,v,rfl,h1,h2,h3⟩:=id h
  have dp:=a65 h3
  cases o' with
  | none=>
   obtain rfl:y=.non:=h'
   refine .inl ⟨rcD r,.at_ .non,RcAt.at h,C5 rfl,by omega,?_⟩
   rw [show deq (rcD r) (.at_ .non)=false from by unfold rcD deq;rfl]
   cases neg <;> exact k
  | some r'=>
   obtain⟨q',v',rfl,_⟩:=id h'
   exact .inr (.inl ⟨rcD r,rcD r',RcAt.at h,RcAt.at h',by omega,k⟩)
theorem ay1 {f:Addr} {fd:au} (Z:An K t) (F:FunD K "shown" "Kind.shown" bl6 f fd .none) (T:Tab P w K mg base 0 (By K t) bl):FnOk P w K mg base CX0 1 f fd ai9 (a16 K t):=⟨fun _ _ _ _ h=>h.elim,fun _ _ _ _ _ _ _ _ _ _ _ _ _ h=>h.elim⟩
theorem a96 {f:Addr} {fd:au} (Z:An K t) (F:FunD K "shown_cell" "shown_cell" ad3 f fd .none) (T:Tab P w K mg base 0 (By K t) bl):FnOk P w K mg base CX0 1 f fd Te (ae7 K t):=⟨fun _ _ _ _ h=>h.elim,fun _ _ _ _ _ _ _ _ _ _ _ _ _ h=>h.elim⟩
theorem ba6 {f:Addr} {fd:au} (Z:An K t) (F:FunD K "shown_row" "shown_row" ad5 f fd .none) (T:Tab P w K mg base 1 (Fg K t) bl):FnOk P w K mg base CX0 2 f fd Tg (af1 K t):=⟨fun _ _ _ _ h=>h.elim,fun _ _ _ _ _ _ _ _ _ _ _ _ _ h=>h.elim⟩
theorem bx2 {f:Addr} {fd:au} (Z:An K t) (F:FunD K "shown" "Table.shown" bl4 f fd .none) (T:Tab P w K mg base 2 (Gn K t) bl):FnOk P w K mg base CX0 3 f fd ai7 (a12 K t):=⟨fun _ _ _ _ h=>h.elim,fun _ _ _ _ _ _ _ _ _ _ _ _ _ h=>h.elim⟩
theorem a95 {f:Addr} {fd:au} (Z:An K t) (F:FunD K "record_key" "record_key" ad2 f fd .none) (T:Tab P w K mg base 3 (Fh K t) bl):FnOk P w K mg base CX0 4 f fd Td (ae6 K t):=⟨fun _ _ _ _ h=>h.elim,fun _ _ _ _ _ _ _ _ _ _ _ _ _ h=>h.elim⟩
theorem bw7 {f:Addr} {fd:au} (Z:An K t) (F:FunD K "joined_whole" "joined_whole" bl2 f fd .none) (T:Tab P w K mg base 2 (Gn K t) bl):FnOk P w K mg base CX0 3 f fd ai5 (a07 K t):=⟨fun _ _ _ _ h=>h.elim,fun _ _ _ _ _ _ _ _ _ _ _ _ _ h=>h.elim⟩
theorem ax9 {f:Addr} {fd:au} (Z:An K t) (F:FunD K "joined" "Kind.joined" bl3 f fd .none) (T:Tab P w K mg base 3 (Fh K t) bl):FnOk P w K mg base CX0 4 f fd ai6 (a08 K t):=⟨fun _ _ _ _ h=>h.elim,fun _ _ _ _ _ _ _ _ _ _ _ _ _ h=>h.elim⟩
theorem bb2 {f:Addr} {fd:au} (Z:An K t) (F:FunD K "shape_of" "shape_of" ad6 f fd .none) (T:Tab P w K mg base 0 (By K t) bl):FnOk P w K mg base CX0 1 f fd Th (af2 K t):=⟨fun _ _ _ _ h=>h.elim,fun _ _ _ _ _ _ _ _ _ _ _ _ _ h=>h.elim⟩
theorem bw5 {f:Addr} {fd:au} (Z:An K t) (F:FunD K "joined_cells" "joined_cells" bl1 f fd .none) (T:Tab P w K mg base 2 (Gn K t) bl):FnOk P w K mg base CX0 3 f fd ai4 (a06 K t):=⟨fun _ _ _ _ h=>h.elim,fun _ _ _ _ _ _ _ _ _ _ _ _ _ h=>h.elim⟩
theorem bw4 {f:Addr} {fd:au} (Z:An K t) (F:FunD K "joined" "Table.joined" bl0 f fd .none) (T:Tab P w K mg base 3 (Fh K t) bl):FnOk P w K mg base CX0 4 f fd ai3 (a05 K t):=⟨fun _ _ _ _ h=>h.elim,fun _ _ _ _ _ _ _ _ _ _ _ _ _ h=>h.elim⟩
theorem bw2 {f:Addr} {fd:au} (Z:An K t) (F:FunD K "joined_record" "joined_record" bk9 f fd .none) (T:Tab P w K mg base 4 (G8 K t) bl):FnOk P w K mg base CX0 5 f fd ai2 (af3 K t):=⟨fun _ _ _ _ h=>h.elim,fun _ _ _ _ _ _ _ _ _ _ _ _ _ h=>h.elim⟩
theorem ay0 {f:Addr} {fd:au} (Z:An K t) (F:FunD K "holds" "Kind.holds" bl5 f fd .none) (T:Tab P w K mg base 0 (By K t) bl):FnOk P w K mg base CX0 1 f fd ai8 (a15 K t):=⟨fun _ _ _ _ h=>h.elim,fun _ _ _ _ _ _ _ _ _ _ _ _ _ h=>h.elim⟩
theorem bb5 {f:Addr} {fd:au} (Z:An K t) (F:FunD K "ring_of" "ring_of" ad7 f fd .none) (T:Tab P w K mg base 4 (G8 K t) bl):FnOk P w K mg base CX0 5 f fd Ti (R9 K t):=⟨fun _ _ _ _ h=>h.elim,fun _ _ _ _ _ _ _ _ _ _ _ _ _ h=>h.elim⟩
theorem a97 {f:Addr} {fd:au} (Z:An K t) (F:FunD K "word" "Para.word" ad4 f fd .none) (T:Tab P w K mg base 0 (By K t) bl):FnOk P w K mg base CX0 1 f fd Tf (ae8 K t):=⟨fun _ _ _ _ h=>h.elim,fun _ _ _ _ _ _ _ _ _ _ _ _ _ h=>h.elim⟩
theorem a90 {f:Addr} {fd:au} (Z:An K t) (F:FunD K "word" "Table.word" ad1 f fd .none) (T:Tab P w K mg base 0 (By K t) bl):FnOk P w K mg base CX0 1 f fd Tc (ae5 K t):=⟨fun _ _ _ _ h=>h.elim,fun _ _ _ _ _ _ _ _ _ _ _ _ _ h=>h.elim⟩
theorem bw3 {f:Addr} {fd:au} (Z:An K t) (F:FunD K "word" "Chapter.word" Ro f fd .none) (T:Tab P w K mg base 0 (By K t) bl):FnOk P w K mg base CX0 1 f fd Xw (a04 K t):=by
 refine F.okW0 b29 b81 T (b12 K t) (fun vs H Q E h=>?_) (fun vs H Q E h=>?_)
 ·obtain⟨s,rfl,_⟩:=h;rfl
 ·obtain⟨s,rfl,k⟩:=h;exact k
theorem bv8 {f:Addr} {fd:au} (Z:An K t) (F:FunD K "holds" "Chapter.holds" Rk f fd .none) (T:Tab P w K mg base 0 (By K t) bl):FnOk P w K mg base CX0 1 f fd Xs (a00 K t):=by
 refine F.okW0 b25 b77 T (b08 K t) (fun vs H Q E h=>?_) (fun vs H Q E h=>?_)
 ·obtain⟨s,rfl,_⟩:=h;rfl
 ·obtain⟨s,rfl,k⟩:=h;exact k
theorem ba7 {f:Addr} {fd:au} (Z:An K t) (F:FunD K "is_clash" "is_clash" Jv f fd .none) (T:Tab P w K mg base 0 (By K t) bl):FnOk P w K mg base CX0 1 f fd Ny (M0 K t):=by
 refine F.okW0 bn1 bq8 T (bj8 K t) (fun vs H Q E h=>?_) (fun vs H Q E h=>?_)
 ·obtain⟨b,o,u,x,y,z,rfl,_⟩:=h;rfl
 ·obtain⟨b,o,u,x,y,z,rfl,hb,ho,hu,sd,k⟩:=h
  refine Fa ho hu ?_
  rcases sd with rfl|rfl|rfl
  ·rw [Id ho];exact k
  ·cases c:eqO o u with
   | true=>exact k
   | false=>
    refine Fa ho hb ?_
    rw [Id ho];exact k
  ·cases c:eqO o u with
   | true=>exact k
   | false=>
    refine Fa ho hb ?_
    rw [c]
    refine Fa hu hb ?_
    rw [Id hu];exact k
theorem bb6 {f:Addr} {fd:au} (Z:An K t) (F:FunD K "settled" "settled" J2 f fd .none) (T:Tab P w K mg base 1 (Fg K t) bl):FnOk P w K mg base CX0 2 f fd N5 (Sh K t):=by
 refine F.okW0 bn8 br5 T (bk5 K t) (fun vs H Q E h=>?_) (fun vs H Q E h=>?_)
 ·obtain⟨b,o,u,x,y,z,rfl,_⟩:=h;rfl
 ·obtain⟨b,o,u,x,y,z,rfl,hb,ho,hu,sd,k⟩:=h
  refine⟨b,o,u,x,y,z,rfl,hb,ho,hu,sd,?_⟩
  refine Fa ho hb ?_
  unfold stl at k
  cases c:eqO o b with
  | true=>rw [c,if_pos rfl] at k;exact k z hu
  | false=>rw [c,if_neg ar] at k;exact k y ho
theorem OpAt.up {H':Hp} {o:Option Rc} {x:V} (h:OpAt K H o x) (S:Same H H'):OpAt K H' o x:=by
 cases o with
 | none=>exact h
 | some r=>exact RcAt.keep (TKeep.of S) h
theorem bw6 {f:Addr} {fd:au} (Z:An K t) (F:FunD K "joined_state" "joined_state" Rp f fd .none) (T:Tab P w K mg base 5 (Vr K t) bl):FnOk P w K mg base CX0 6 f fd Xx (af4 K t):=by
 refine F.okW0 b30 b82 T (b13 K t) (fun vs H Q E h=>?_) (fun vs H Q E h=>?_)
 ·obtain⟨b,o,u,x,y,z,rfl,_⟩:=h;rfl
 ·obtain⟨b,o,u,x,y,z,rfl,hb,ho,hu,sd,k⟩:=h
  refine⟨b,o,u,x,y,z,rfl,hb,ho,hu,sd,?_⟩
  refine⟨b,o,u,x,y,z,rfl,hb,ho,hu,sd,fun v hv=>⟨(show 0<=sizeLine by decide),fun l hl=>⟨(show 2<=sizeLine by decide),fun q hq=>?_⟩⟩⟩
  have S1:=Same.upd (o:=.lst []) hl
  have S2:=S1.trans (Same.upd (o:=.tup [v,.ref l]) hq)
  exact k _ q v l S2 (SqT.of Ad) (Same.upd hq _ _ Ad) (hv.up S2)
end
theorem Lz:∀ {ds:List Dt} {n:Nat},(∀ d∈ds,dep d<=n)->Bx ds<=n
 | [],_,_=>by unfold Bx;exact bA _
 | d::ds,n,h=>by
  unfold Bx
  exact Nat.max_le.mpr ⟨h d bv,Lz fun e he=>h e (aC _ he)⟩
theorem a64 {S:Rs} {w:Int×Str} (c:Fd (Aq S w.2).ct):dep (lnD S w)<=6:=by
 unfold lnD dep
 refine dI ?_
 simp only [Bx,B4,Kf,dep,ke,bA,true_and,and_true]
 exact c.2
section
variable {P:aI} {w:bp} {K:ae} {mg:Str->Option Value} {base:Heap} {t:Adr} {H H':Hp} {p d d2:Addr} {S S' S2:Rs}
theorem PlIn.but (h:PlIn t H p d2) {kvs:List (Key×V)} (e:H d=some (.dK kvs)) (b:But d H H'):PlIn t H' p d2:=by
 obtain⟨dx,h⟩:=h
 exact⟨dx,b _ _ (fun c=>by rw [c,e] at h;cases h) h⟩
theorem PwAt.but (h:PwAt K t H p d S) (b:But d H H') (r:RsAt K H' d S'):PwAt K t H' p d S':=by
 obtain⟨kvs,e,_⟩:=h.2
 exact⟨h.1.but e b,r⟩
theorem RdAt.ne (h:RdAt K H d S) (e:H d2=none):d≠d2:=fun c=>by
 obtain⟨kvs,e2|⟨u,e2⟩,_⟩:=h
 ·rw [c,e] at e2;cases e2
 ·rw [c,e] at e2;cases e2
noncomputable def Zh (t:Adr) (H:Hp) (a dx d:Addr):Hp:=upd (upd (upd (upd H dx (.own a)) a (.ins t.c_zbl dx [])) d (.dK [])) a (.ins t.c_zbl dx [("records", .ref d)])
theorem ax6 {a dx d0:Addr} (ha:H a=none) (hdx:H dx=none) (ne:dx≠a) (hd0:upd (upd H dx (.own a)) a (.ins t.c_zbl dx []) d0=none):H d0=none/\Same H (Zh t H a dx d0)/\PwAt K t (Zh t H a dx d0) a d0 []:=by
 have n1:d0≠a:=fun c=>by rw [c,Ad] at hd0;cases hd0
 have n2:d0≠dx:=fun c=>by rw [c,Ah ne,Ad] at hd0;cases hd0
 have hd1:H d0=none:=by rw [Ah n1,Ah n2] at hd0;exact hd0
 exact⟨hd1,(((Same.upd hdx).set ha).set hd1).set ha,⟨dx,Ad⟩,[],by unfold Zh;rw [Ah n1,Ad],rfl⟩
theorem bu8 {z:Str} {r:Rc} {y:V} {Q:VK} {E:EK} (hP:PwAt K t H p d S) (hl:S.length<100) (hy:At K H r.ct y) (hc:Fd r.ct) (k:∀ H',But d H H'->PwAt K t H' p d (De S z r)->Q .non H') :
  ∃ a dx fs mi,V.ref p=.ref a/\mi∈Fj K t/\H a=some (.ins mi.C dx fs)/\fs.lookup (fz "lay")=none/\(5+1<=mi.i.ps.length/\mi.i.ps.length<=5+1+mi.i.dfs.length)/\spE mi.i.sp (mi.i.dfs.drop (5+1+mi.i.dfs.length - mi.i.ps.length)) [.ref a,.str z,.str r.kd,.str r.pr,.int r.rk,y] H Q E:=by
 obtain⟨dx,e⟩:=id hP.1
 exact⟨p,dx,_,⟨t.c_zbl,On K t⟩,rfl,.head _,e,rfl,⟨ah _,ah _⟩,⟨p,d,S,z,r,y,rfl,hP,hl,hy,hc,fun H' B R=>k H' B (hP.but B R)⟩⟩
end
section
variable {P:aI} {w:bp} {K:ae} {mg:Str->Option Value} {base:Heap} {t:Adr}
theorem sto {H:Hp} {d:Addr} {S:Rs} {z:Str} {r:Rc} {x:V} {N:Hp->Prop} (hR:RsAt K H d S) (hl:S.length<100) (hx:RcAt K H r x) (k:∀ H',But d H H'->RsAt K H' d (De S z r)->N H'):ac6 (.ref d) (.str z) x H N:=by
 obtain⟨kvs,ed,g⟩:=hR
 have B:But d H (upd H d (.dK (Cf kvs (.inr z) x))):=But.upd
 exact⟨_,.inl ⟨kvs,.inr z,ed,rfl,by rw [g.len];exact f_ hl (by decide),rfl⟩,k _ B ⟨_,Ad,(g.put hx).keep (B.tk ed)⟩⟩
theorem But.same {H H1 H2:Hp} {d:Addr} (b:But d H1 H2) (S:Same H H1) (h:H d=none):Same H H2:=fun c o e=>b c o (fun z=>by rw [z,h] at e;cases e) (S c o e)
theorem Sm.seqL {H H':Hp} {a:Addr} {xs:List V} (S:Sm H H') (h:SqL K H a xs):SqL K H' a xs:=by
 rcases h with (h|⟨o,h⟩)|h
 ·exact .inl (.inl (S.lst h))
 ·rcases S _ _ h with h|⟨_,_,c,_⟩
  ·exact .inl (.inr ⟨o,h⟩)
  ·cases c
 ·exact .inr h
theorem PlAt.ins {H:Hp} {p d:Addr} {S:Rs} (h:PlAt K t H p d S):∃ dx,H p=some (.ins t.c_zbl dx [("records", .ref d)]):=h.1
theorem Mf {H:Hp} {a dx C:Addr} (ha:H a=none) (hd:H dx=none):Same H (upd (upd H dx (.own a)) a (.ins C dx [])):=(Same.upd hd).set ha
theorem bw8 {f:Addr} {fd:au} (Z:An K t) (F:FunD K "kind_of_word" "kind_of_word" Rq f fd .none) (T:Tab P w K mg base 1 (Fg K t) bl):FnOk P w K mg base CX0 2 f fd Xy (af5 K t):=by
 refine F.okW0 b31 b83 T (b14 K t) (fun vs H Q E h=>?_) (fun vs H Q E h=>?_)
 ·obtain⟨rfl,_⟩:=h;rfl
 ·obtain⟨rfl,k⟩:=h
  refine⟨rfl,?_⟩
  refine⟨rfl,fun a1 d1 ha1 hd1 n1=>?_⟩
  have S1:=Mf (C:=t.c_zbi) ha1 hd1
  have e1:upd (upd H d1 (.own a1)) a1 (.ins t.c_zbi d1 []) a1=some (.ins t.c_zbi d1 []):=Ad
  generalize upd (upd H d1 (.own a1)) a1 (.ins t.c_zbi d1 [])=H1 at S1 e1 ⊢
  refine⟨rfl,fun a2 d2 ha2 hd2 n2=>?_⟩
  have S2:=Mf (C:=t.c_zbn) ha2 hd2
  generalize upd (upd H1 d2 (.own a2)) a2 (.ins t.c_zbn d2 [])=H2 at S2 ⊢
  refine⟨rfl,fun a3 d3 ha3 hd3 n3=>?_⟩
  have S3:=Mf (C:=t.c_zbm) ha3 hd3
  generalize upd (upd H2 d3 (.own a3)) a3 (.ins t.c_zbm d3 [])=H3 at S3 ⊢
  refine⟨(show 3<=sizeLine by decide),fun l hl=>.inl ⟨⟨_,SqL.of Ad⟩,?_⟩⟩
  have S4:=Same.upd (o:=.lst [.ref a1,.ref a2,.ref a3]) hl
  have e4:upd H3 l (.lst [.ref a1,.ref a2,.ref a3]) l=some (.lst [.ref a1,.ref a2,.ref a3]):=Ad
  generalize upd H3 l (.lst [.ref a1,.ref a2,.ref a3])=H4 at S4 e4 ⊢
  have f1:=S4 _ _ (S3 _ _ (S2 _ _ e1))
  have S:=((S1.trans S2).trans S3).trans S4
  refine C3 (Bq [.ref a1,.ref a2,.ref a3]) (fun i σ H'=>H'=H4/\(∃ v,σ=[some (.str "chapter"),v])/\i=0) ⟨rfl,⟨_,rfl⟩,rfl⟩ (fun i σ H' _ h=>h.1▸SqL.of e4) ?_ ?_
  ·rintro i x σ H' hx ⟨rfl,⟨v,rfl⟩,rfl⟩
   cases hx
   exact⟨a1,d1,[],⟨t.c_zbi,a73 K t⟩,rfl,.head _,f1,rfl,⟨ah 1,ah 1⟩,_,rfl,k _ a1 d1 S f1⟩
  ·rintro σ H' ⟨_,_,c⟩
   cases c
theorem bb3 {f:Addr} {fd:au} (Z:An K t) (F:FunD K "is_held" "is_held" J0 f fd .none) (T:Tab P w K mg base 4 (G8 K t) bl):FnOk P w K mg base CX0 5 f fd N3 (R8 K t):=by
 refine F.okW0 bn6 br3 T (bk3 K t) (fun vs H Q E h=>?_) (fun vs H Q E h=>?_)
 ·obtain⟨p,d,S,z,rfl,_⟩:=h;rfl
 ·obtain⟨p,d,S,z,rfl,hP,hz,k⟩:=h
  obtain⟨dx,e⟩:=hP.ins
  refine E8 (c:=decide (z = "")=true) (fun c=>?_) (fun c=>?_)
  ·have:=k H (Same.refl _)
   rw [<- c] at this
   exact this
  ·have c:z ≠ "" := fun g=>c (decide_eq_true g)
   obtain⟨q,gq,kq⟩:=hz.resolve_left c
   have hh:=Bh gq
   refine⟨p,dx,_,⟨t.c_zbl,Yy K t⟩,rfl,.head _,e,rfl,⟨ah _,ah _⟩,⟨p,d,S,z,rfl,hP,?_⟩⟩
   rw [hh]
   refine⟨p,dx,_,⟨t.c_zbl,al3 K t⟩,rfl,.head _,e,rfl,⟨ah _,ah _⟩,⟨p,d,S,z,rfl,hP,hh,fun y _ _=>?_⟩⟩
   rw [ac9 gq]
   exact⟨(show [V.str q.kd]=[V.str "chapter"] by rw [kq]),fun H' a dx' S' ea=>⟨a,dx',[],⟨t.c_zbi,a71 K t⟩,rfl,.head _,ea,rfl,⟨ah 1,ah 1⟩,_,rfl,k H' S'⟩⟩
theorem a92 {f:Addr} {fd:au} (Z:An K t) (F:FunD K "lay_at_top" "lay_at_top" Jk f fd .none) (T:Tab P w K mg base 4 (G8 K t) bl):FnOk P w K mg base CX0 5 f fd Nk (Mz K t):=by
 refine F.okW0 bm0 bp7 T (bi7 K t) (fun vs H Q E h=>?_) (fun vs H Q E h=>?_)
 ·obtain⟨x,l,rfl,_⟩:=h;rfl
 ·obtain⟨x,l,rfl,hl,k⟩:=h
  refine .inl ⟨⟨_,SqL.of hl⟩,?_⟩
  refine C3 (Bq []) (fun i σ H'=>H'=H) rfl (fun i σ H' _ h=>h▸SqL.of hl) (fun i x σ H' hx=>by simp at hx) ?_
  rintro σ H' rfl
  exact .inl k
theorem ba5 {f:Addr} {fd:au} (Z:An K t) (F:FunD K "lay_state" "lay_state" Ju f fd .none) (T:Tab P w K mg base 1 (Fg K t) bl):FnOk P w K mg base CX0 2 f fd Nx (R5 K t):=by
 refine F.okW0 bn0 bq7 T (bj7 K t) (fun vs H Q E h=>?_) (fun vs H Q E h=>?_)
 ·obtain⟨p,d,S,z,o,x,rfl,_⟩:=h;rfl
 ·obtain⟨p,d,S,z,o,x,rfl,hP,hl,ho,k1,k2⟩:=h
  cases o with
  | none=>
   obtain rfl:x=.non:=ho
   exact k1 rfl
  | some r=>
   obtain⟨q,y,rfl,h1,h2,h3⟩:=id ho
   obtain⟨dx,e⟩:=id hP.1
   exact⟨p,dx,_,⟨t.c_zbl,On K t⟩,rfl,.head _,e,rfl,⟨ah _,ah _⟩,_,_,.inr h1,rfl,_,_,.inr h1,rfl,_,_,.inr h1,rfl,_,_,.inr h1,rfl,⟨p,d,S,z,r,y,rfl,hP,hl,h2,h3,k2 r rfl⟩⟩
structure Bg (S:Rs) (h:Str->Nat) (zs:List Str) (i:Nat) (st nm:Str) (kvs:List (Key×V)):Prop where
 at_:nm = "" \/ has S nm=true
 vs:∀ z v,A6 kvs (.inr z)=some v -> ∃ s,v=.str s/\(s∈zs.take i\/(s=st/\h z<h nm))
 ln:kvs.length<=12 * i+h nm
theorem Bg.step {S:Rs} {h:Str->Nat} {zs:List Str} {i:Nat} {st nm:Str} {kvs:List (Key×V)} (B:Bg S h zs i st nm kvs) (T:TrC S) (hup:∀ z r,get S z=some r->h z<h r.pr) (n0:nm ≠ ""):Bg S h zs i st (Aq S nm).pr (Cf kvs (.inr nm) (.str st))/\h nm<h (Aq S nm).pr:=by
 have hh:=B.at_.resolve_left n0
 have lt:=hup nm _ (A0 hh)
 refine⟨⟨?_,fun z v hv=>?_,?_⟩,lt⟩
 ·rcases T.hd nm _ (A0 hh) with e|⟨q,e,_⟩
  ·exact .inl e
  ·exact .inr (Bh e)
 ·rw [Gh] at hv
  split at hv
  ·rename_i e
   cases hv
   have e:=gL e
   subst e
   exact⟨st,rfl,.inr ⟨rfl,lt⟩⟩
  ·obtain⟨s,e,g⟩:=B.vs z v hv
   exact⟨s,e,g.imp id fun g=>⟨g.1,f_ g.2 lt⟩⟩
 ·have:=Ce kvs (.inr nm) (.str st)
  have:=B.ln
  omega
theorem bb1 {f:Addr} {fd:au} (Z:An K t) (F:FunD K "rings_of" "rings_of" Jz f fd .none) (T:Tab P w K mg base 5 (Vr K t) bl):FnOk P w K mg base CX0 6 f fd N2 (R7 K t):=by
 refine F.okW0 bn5 br2 T (bk2 K t) (fun vs H Q E h=>?_) (fun vs H Q E h=>?_)
 ·obtain⟨p,d,S,rfl,_⟩:=h;rfl
 ·obtain⟨p,d,S,rfl,hP,T,k⟩:=h
  obtain⟨hh,hlt,hup⟩:=T.tr.up
  refine⟨(show 0<=sizeLine by decide),fun l hl=>?_⟩
  have S1:=Same.upd (o:=.lst []) hl
  have el:upd H l (.lst []) l=some (.lst []):=Ad
  generalize upd H l (.lst [])=H1 at S1 el ⊢
  refine fun u hu=>.inl ?_
  have hu0:=S1.free hu
  have S2:=S1.trans (Same.upd (o:=.dK []) hu)
  have eu:upd H1 u (.dK []) u=some (.dK []):=Ad
  have el2:=Same.upd (o:=.dK []) hu _ _ el
  generalize upd H1 u (.dK [])=H2 at S2 eu el2 ⊢
  have hP2:=hP.up S2
  obtain⟨dx,e⟩:=hP2.ins
  refine⟨p,dx,_,⟨t.c_zbl,Oo K t⟩,rfl,.head _,e,rfl,⟨ah _,ah _⟩,⟨p,d,S,rfl,hP2,T.tr.nd,aL T.tr.few (by decide),fun N hN=>.inl ⟨⟨_,SqL.of Ad⟩,?_⟩⟩⟩
  have S3:=S2.trans (Same.upd (o:=.lst ((Ak ltS (keys S)).map V.str)) hN)
  have eN:upd H2 N (.lst ((Ak ltS (keys S)).map V.str)) N=some (.lst ((Ak ltS (keys S)).map V.str)):=Ad
  have el3:=Same.upd (o:=.lst ((Ak ltS (keys S)).map V.str)) hN _ _ el2
  have eu3:=Same.upd (o:=.lst ((Ak ltS (keys S)).map V.str)) hN _ _ eu
  generalize upd H2 N (.lst ((Ak ltS (keys S)).map V.str))=H3 at S3 eN el3 eu3 ⊢
  have zn:(Ak ltS (keys S)).Nodup:=(Am _ _).nodup_iff.mpr T.tr.nd
  have zm:∀ z∈Ak ltS (keys S),has S z=true:=fun z hz=>mem_keys.mp ((Am _ _).mem_iff.mp hz)
  have zl:(Ak ltS (keys S)).length<=10:=by rw [(Am _ _).length_eq,A1];exact T.tr.few
  generalize Ak ltS (keys S)=zs at eN zn zm zl
  have lu:l≠u:=fun c=>by rw [c,eu3] at el3;cases el3
  have Nu:N≠u:=fun c=>by rw [c,eu3] at eN;cases eN
  refine C3 (Bq (zs.map V.str)) (fun i σ H'=>(∃ v3 v4,σ=[some (.ref p),some (.ref l),some (.ref u),v3,v4])/\Same H H'/\H' l=some (.lst [])/\H' N=some (.lst (zs.map V.str)) /\ ∃ kvs,H' u=some (.dK kvs)/\kvs.length<=12 * i /\ ∀ z v,A6 kvs (.inr z)=some v -> ∃ s,v=.str s/\s∈zs.take i)
   ⟨⟨_,_,rfl⟩,S3,el3,eN,[],eu3,bA _,(fun z v hv=>by cases hv)⟩ (fun i σ' H' _ h=>SqL.of h.2.2.2.1) ?_ ?_
  ·rintro i x σ H4 hx ⟨⟨v3,v4,rfl⟩,S4,el4,eN4,kvs,eu4,ln,vs⟩
   rw [aE] at hx
   obtain⟨st,hst,rfl⟩:=Option.map_eq_some_iff.mp hx
   have hi:i<zs.length:=(List.getElem?_eq_some_iff.mp hst).1
   have nst:st∉zs.take i:=Gb zn hst
   refine⟨fun m σ H'=>∃ nm kvs,m=12 - hh nm/\σ=[some (.ref p),some (.ref l),some (.ref u),some (.str st),some (.str nm)]/\Same H H'/\H' l=some (.lst [])/\H' N=some (.lst (zs.map V.str))/\H' u=some (.dK kvs)/\Bg S hh zs i st nm kvs,
    ⟨_,st,kvs,rfl,rfl,S4,el4,eN4,eu4,⟨.inr (zm st (aX hst)),(fun z v hv=>let ⟨s,e,g⟩:=vs z v hv;⟨s,e,.inl g⟩),by omega⟩⟩,?_⟩
   rintro m σ H5 ⟨nm,kvs,rfl,rfl,S5,el5,eN5,eu5,B⟩
   have tk:zs.take (i+1)=zs.take i++[st]:=by rw [cz,hst];rfl
   have out:∀ z v,A6 kvs (.inr z)=some v -> ∃ s,v=.str s/\s∈zs.take (i+1):=fun z v hv=>by
    obtain⟨s,e,g⟩:=B.vs z v hv
    refine⟨s,e,?_⟩
    rw [tk]
    rcases g with g|⟨g,_⟩
    ·exact List.mem_append.mpr (.inl g)
    ·exact List.mem_append.mpr (.inr (by simp [g]))
   have ln2:kvs.length<=12 * (i+1):=by have:=B.ln;have:=hlt nm;omega
   refine E8 (c:=(!decide (nm = ""))=true) (fun n=>?_) (fun n=>?_)
   ·have n0:nm ≠ "" := by simpa using n
    refine .inr ⟨A6 kvs (.inr nm),.inl ⟨kvs,.inr nm,.inl eu5,rfl,rfl⟩,?_⟩
    cases c:A6 kvs (.inr nm) with
    | none=>
     obtain⟨B2,lt⟩:=B.step T hup n0
     refine⟨fun σ H'=>∃ nm2 kvs,hh nm<hh nm2/\σ=[some (.ref p),some (.ref l),some (.ref u),some (.str st),some (.str nm2)]/\Same H H'/\H' l=some (.lst [])/\H' N=some (.lst (zs.map V.str))/\H' u=some (.dK kvs)/\Bg S hh zs i st nm2 kvs,?_,?_⟩
     ·rintro σ' H' ⟨nm2,kvs2,q1,q2,q3⟩
      have:=hlt nm2
      exact⟨12 - hh nm2,by omega,nm2,kvs2,rfl,q2,q3⟩
     ·have lk:kvs.length<1000:=by omega
      refine⟨_,.inl ⟨kvs,.inr nm,eu5,rfl,f_ lk (by decide),rfl⟩,?_⟩
      have S6:=S5.set (o:=.dK (Cf kvs (.inr nm) (.str st))) hu0
      have e6:upd H5 u (.dK (Cf kvs (.inr nm) (.str st))) u=some (.dK (Cf kvs (.inr nm) (.str st))):=Ad
      have el6:upd H5 u (.dK (Cf kvs (.inr nm) (.str st))) l=some (.lst []):=by rw [Ah lu];exact el5
      have eN6:upd H5 u (.dK (Cf kvs (.inr nm) (.str st))) N=some (.lst (zs.map V.str)):=by rw [Ah Nu];exact eN5
      generalize upd H5 u (.dK (Cf kvs (.inr nm) (.str st)))=H6 at S6 e6 el6 eN6 ⊢
      have hP6:=hP.up S6
      obtain⟨dx6,f6⟩:=hP6.ins
      exact⟨p,dx6,_,⟨t.c_zbl,Yz K t⟩,rfl,.head _,f6,rfl,⟨ah _,ah _⟩,⟨p,d,S,nm,rfl,hP6,B.at_.resolve_left n0,fun _ _ _=>⟨_,_,lt,rfl,S6,el6,eN6,e6,B2⟩⟩⟩
    | some v=>
     obtain⟨s,rfl,g⟩:=B.vs nm v c
     have ns:s≠st:=fun e=>by
      rcases g with g|⟨_,g⟩
      ·exact nst (e▸g)
      ·exact eQ _ g
     refine E8 (c:=(!decide (nm = ""))=true) (fun _=>?_) (fun n'=>absurd n n')
     refine⟨_,.inl ⟨kvs,.inr nm,.inl eu5,rfl,c.symm⟩,?_⟩
     refine E8 (c:=decide (s=st)=true) (fun e=>absurd (of_decide_eq_true e) ns) (fun _=>?_)
     exact⟨⟨_,_,rfl⟩,S5,el5,eN5,kvs,eu5,ln2,out⟩
   ·refine E8 (c:=(!decide (nm = ""))=true) (fun n'=>absurd n' n) (fun _=>?_)
    exact⟨⟨_,_,rfl⟩,S5,el5,eN5,kvs,eu5,ln2,out⟩
  ·rintro σ H4 ⟨⟨v3,v4,rfl⟩,S4,el4,_⟩
   exact .inl (k H4 l S4 el4)
end
theorem Zc (xs:List Str) (x:Str):x∈Ci xs ↔ x∈xs:=by
 suffices g:∀ (xs σ:List Str),x∈xs.foldl (fun σ k=>if σ.any (fun j=>decide (j=k)) then σ else σ++[k]) σ ↔ x∈σ\/x∈xs by
  exact (g xs []).trans ⟨fun h=>h.resolve_left (by simp),.inr⟩
 intro xs
 induction xs with
 | nil=>intro σ;simp
 | cons y xs ih=>
  intro σ
  rw [List.foldl_cons,ih,aG]
  by_cases c:(σ.any fun j=>decide (j=y))=true
  ·rw [if_pos c]
   constructor
   ·rintro (h|h)
    ·exact .inl h
    ·exact .inr (.inr h)
   ·rintro (h|h|h)
    ·exact .inl h
    ·obtain⟨j,hj,e⟩:=List.any_eq_true.mp c
     rw [h,<- of_decide_eq_true e]
     exact .inl hj
    ·exact .inr h
  ·rw [if_neg c,a_,aT]
   exact or_assoc
theorem Like.trC {S R:Rs} (L:Like S R) (T:TrC R):TrC S:=by
 refine⟨L.tr T.tr,fun z r g=>?_,?_⟩
 ·rw [L.2] at g
  rcases T.hd z r g with e|⟨q,e,k⟩
  ·exact .inl e
  ·exact .inr ⟨q,by rw [L.2];exact e,k⟩
 ·rw [<- A1,L.1.length_eq,A1]
  exact T.f8
section
variable {P:aI} {w:bp} {K:ae} {mg:Str->Option Value} {base:Heap} {t:Adr}
theorem ax3 {H:Hp} {c D:Addr} {zs:List Str} (cD:D=c->zs=[]) (ec:H c=some (.lst [])) (eD:H D=some (.lst (zs.map V.str))):upd H c (.lst ([]++[])) D=some (.lst (zs.map V.str)):=by
 by_cases e:D=c
 ·rw [cD e,e,Ad];rfl
 ·rw [Ah e];exact eD
theorem Y2 {H:Hp} {p d c:Addr} {ys zs:List V} {S:Rs} (nc:c≠d) (ec:H c=some (.lst ys)) (h:PwAt K t H p d S):PwAt K t (upd H c (.lst zs)) p d S:=by
 obtain⟨⟨dx,e⟩,kvs,e2,g⟩:=h
 refine⟨⟨dx,?_⟩,kvs,?_,g.keep (TKeep.lst ec)⟩
 ·rw [Ah (fun cc=>by rw [cc,ec] at e;cases e)];exact e
 ·rw [Ah (bZ nc)];exact e2
theorem a94 {f:Addr} {fd:au} (Z:An K t) (F:FunD K "put_at_top" "put_at_top" Jm f fd .none) (T:Tab P w K mg base 6 (ak6 K t) bl):FnOk P w K mg base CX0 7 f fd Nn (Rz K t):=by
 refine F.okW0 bm2 bp9 T (bi9 K t) (fun vs H Q E h=>?_) (fun vs H Q E h=>?_)
 ·obtain⟨p,d,S,rfl,_⟩:=h;rfl
 ·obtain⟨p,d,S,rfl,hP,T,k⟩:=h
  obtain⟨dx,e⟩:=hP.ins
  refine⟨p,dx,_,⟨t.c_zbl,Oo K t⟩,rfl,.head _,e,rfl,⟨ah _,ah _⟩,⟨p,d,S,rfl,hP,T.tr.nd,aL T.tr.few (by decide),fun N hN=>.inl ⟨⟨_,SqL.of Ad⟩,fun L hL=>?_⟩⟩⟩
  have S1:=Same.upd (o:=.lst ((Ak ltS (keys S)).map V.str)) hN
  have eN:upd H N (.lst ((Ak ltS (keys S)).map V.str)) N=some (.lst ((Ak ltS (keys S)).map V.str)):=Ad
  generalize upd H N (.lst ((Ak ltS (keys S)).map V.str))=H1 at S1 eN hL ⊢
  have zm:∀ z∈Ak ltS (keys S),has S z=true:=fun z hz=>mem_keys.mp ((Am _ _).mem_iff.mp hz)
  generalize Ak ltS (keys S)=zs at eN zm
  refine Cs (Bq (zs.map V.str)) (fun i σ H'=>(∃ v,σ=[v,some (.ref p)])/\Same H1 H'/\H' L=some (.lst [])) ⟨⟨_,rfl⟩,Same.upd hL,Ad⟩ (fun i σ H' _ h=>SqL.of (h.2.1 _ _ eN)) ?_ ?_
  ·rintro i x σ H2 hx ⟨⟨v,rfl⟩,S2,eL⟩
   rw [aE] at hx
   obtain⟨z,hz,rfl⟩:=Option.map_eq_some_iff.mp hx
   have hh:=zm z (aX hz)
   have hP2:=hP.up (S1.trans S2)
   obtain⟨dx2,e2⟩:=hP2.ins
   exact⟨p,dx2,_,⟨t.c_zbl,Yz K t⟩,rfl,.head _,e2,rfl,⟨ah _,ah _⟩,⟨p,d,S,z,rfl,hP2,hh,fun _ _ _=>⟨p,d,S,_,rfl,hP2,T.hd z _ (A0 hh),fun H3 S3=>⟨⟨_,rfl⟩,S2.trans S3,S3 _ _ eL⟩⟩⟩⟩
  ·rintro σ H2 ⟨_,S2,eL⟩
   have S2:=S1.trans S2
   refine⟨_,L,rfl,eL,?_⟩
   refine⟨p,d,S,rfl,hP.up S2,T,fun H3 l S3 el=>.inl ⟨⟨_,SqL.of el⟩,fun F hF=>?_⟩⟩
   refine Cs (Bq []) (fun i σ H'=>Same H3 H'/\H' F=some (.lst [])) ⟨Same.upd hF,Ad⟩ (fun i σ H' _ h=>SqL.of (h.1 _ _ el)) (fun i x σ H' hx=>by simp at hx) ?_
   rintro σ H4 ⟨S4,eF⟩
   have S4:=S3.trans S4
   refine⟨_,F,rfl,eF,.inl ⟨L,F,_,_,rfl,rfl,S4 _ _ eL,eF,(show 0<=sizeLine by decide),fun G hG=>?_⟩⟩
   exact k _ G ((S2.trans S4).trans (Same.upd hG)) Ad
theorem a93 {f:Addr} {fd:au} (Z:An K t) (F:FunD K "plain_join" "plain_join" Jl f fd .none) (T:Tab P w K mg base 7 (Vs K t) bl):FnOk P w K mg base CX0 8 f fd Nl (Ry K t):=by
 refine F.okW0 bm1 bp8 T (bi8 K t) (fun vs H Q E h=>?_) (fun vs H Q E h=>?_)
 ·obtain⟨p1,d1,p2,d2,p3,d3,E',O,U,R,rfl,_⟩:=h;rfl
 ·obtain⟨p1,d1,p2,d2,p3,d3,E',O,U,R,rfl,hE,hO,hU,TE,TO,TU,T,C,k⟩:=h
  intro p dxp hp0 hdxp nep
  refine⟨p,dxp,rfl,Ad,fun d hd0=>⟨rfl,?_⟩⟩
  obtain⟨hd,S1,hP1⟩:=ax6 (K:=K) (t:=t) hp0 hdxp nep hd0
  refine (show ∀ H1,Same H H1->PwAt K t H1 p d []->_ from ?_) (Zh t H p dxp d) S1 hP1
  intro H1 S1 hP1
  refine⟨(show 0<=sizeLine by decide),fun c hc=>?_⟩
  have S2:=S1.trans (Same.upd (o:=.lst []) hc)
  have hc0:=S1.free hc
  have ec:upd H1 c (.lst []) c=some (.lst []):=Ad
  have hP2:=hP1.up (Same.upd (o:=.lst []) hc)
  generalize upd H1 c (.lst [])=H2 at S2 ec hP2 ⊢
  obtain⟨x1,f1⟩:=(hE.up S2).1
  refine⟨p1,x1,_,⟨t.c_zbl,Oo K t⟩,rfl,.head _,f1,rfl,⟨ah _,ah _⟩,⟨p1,d1,E',rfl,(hE.up S2).rd,TE.tr.nd,aL TE.tr.few (by decide),fun l1 hl1=>?_⟩⟩
  have S3:=S2.trans (Same.upd (o:=.lst ((Ak ltS (keys E')).map V.str)) hl1)
  have e1:upd H2 l1 (.lst ((Ak ltS (keys E')).map V.str)) l1=some (.lst ((Ak ltS (keys E')).map V.str)):=Ad
  have ec3:=Same.upd (o:=.lst ((Ak ltS (keys E')).map V.str)) hl1 _ _ ec
  have hP3:=hP2.up (Same.upd (o:=.lst ((Ak ltS (keys E')).map V.str)) hl1)
  generalize upd H2 l1 (.lst ((Ak ltS (keys E')).map V.str))=H3 at S3 e1 ec3 hP3 ⊢
  obtain⟨x2,f2⟩:=(hO.up S3).1
  refine⟨p2,x2,_,⟨t.c_zbl,Oo K t⟩,rfl,.head _,f2,rfl,⟨ah _,ah _⟩,⟨p2,d2,O,rfl,(hO.up S3).rd,TO.tr.nd,aL TO.tr.few (by decide),fun l2 hl2=>?_⟩⟩
  have Sa:=Same.upd (o:=.lst ((Ak ltS (keys O)).map V.str)) hl2
  have e2:upd H3 l2 (.lst ((Ak ltS (keys O)).map V.str)) l2=some (.lst ((Ak ltS (keys O)).map V.str)):=Ad
  generalize upd H3 l2 (.lst ((Ak ltS (keys O)).map V.str))=H4 at Sa e2 ⊢
  have k1:(Ak ltS (keys E')).length<=8:=by rw [(Am _ _).length_eq,A1];exact TE.f8
  have k2:(Ak ltS (keys O)).length<=8:=by rw [(Am _ _).length_eq,A1];exact TO.f8
  have k3:(Ak ltS (keys U)).length<=8:=by rw [(Am _ _).length_eq,A1];exact TU.f8
  refine .inl ⟨l1,l2,_,_,rfl,rfl,Sa _ _ e1,e2,?_,fun l12 hl12=>?_⟩
  ·rw [ai,ai];exact aL (show _<=16 by omega) (by decide)
  have Sb:=Sa.trans (Same.upd (o:=.lst ((Ak ltS (keys E')).map V.str++(Ak ltS (keys O)).map V.str)) hl12)
  have e12:upd H4 l12 (.lst ((Ak ltS (keys E')).map V.str++(Ak ltS (keys O)).map V.str)) l12=some (.lst ((Ak ltS (keys E')).map V.str++(Ak ltS (keys O)).map V.str)):=Ad
  generalize upd H4 l12 (.lst ((Ak ltS (keys E')).map V.str++(Ak ltS (keys O)).map V.str))=H5 at Sb e12 ⊢
  obtain⟨x3,f3⟩:=(hU.up (S3.trans Sb)).1
  refine⟨p3,x3,_,⟨t.c_zbl,Oo K t⟩,rfl,.head _,f3,rfl,⟨ah _,ah _⟩,⟨p3,d3,U,rfl,(hU.up (S3.trans Sb)).rd,TU.tr.nd,aL TU.tr.few (by decide),fun l3 hl3=>?_⟩⟩
  have Sc:=Sb.trans (Same.upd (o:=.lst ((Ak ltS (keys U)).map V.str)) hl3)
  have e3:upd H5 l3 (.lst ((Ak ltS (keys U)).map V.str)) l3=some (.lst ((Ak ltS (keys U)).map V.str)):=Ad
  have e12c:=Same.upd (o:=.lst ((Ak ltS (keys U)).map V.str)) hl3 _ _ e12
  generalize upd H5 l3 (.lst ((Ak ltS (keys U)).map V.str))=H6 at Sc e3 e12c ⊢
  refine .inl ⟨l12,l3,_,_,rfl,rfl,e12c,e3,?_,fun L hL=>?_⟩
  ·rw [av,ai,ai,ai];exact aL (show _<=24 by omega) (by decide)
  have Sd:=Sc.trans (Same.upd (o:=.lst (((Ak ltS (keys E')).map V.str++(Ak ltS (keys O)).map V.str)++(Ak ltS (keys U)).map V.str)) hL)
  have eL:upd H6 L (.lst (((Ak ltS (keys E')).map V.str++(Ak ltS (keys O)).map V.str)++(Ak ltS (keys U)).map V.str)) L=some (.lst ((((Ak ltS (keys E'))++(Ak ltS (keys O)))++(Ak ltS (keys U))).map V.str)):=by rw [Ad,bg,bg]
  generalize upd H6 L (.lst (((Ak ltS (keys E')).map V.str++(Ak ltS (keys O)).map V.str)++(Ak ltS (keys U)).map V.str))=H7 at Sd eL ⊢
  refine⟨_,SqL.of eL,by rw [av,av];omega,fun D hD=>.inl ⟨⟨_,SqL.of Ad⟩,?_⟩⟩
  have nil:∀ z,z∉Ak ltS (Ci (((Ak ltS (keys E'))++(Ak ltS (keys O)))++(Ak ltS (keys U))))->get R z=none:=fun z hz=>by
   have h1:∀ {A:Rs},z∉Ak ltS (keys A)->get A z=none:=fun {A} h=>a87 (by rw [fG];exact fun g=>h ((Am _ _).mem_iff.mpr (mem_keys.mpr g)))
   have hz:z∉((Ak ltS (keys E'))++(Ak ltS (keys O)))++(Ak ltS (keys U)):=fun g=>hz ((Am _ _).mem_iff.mpr ((Zc _ _).mpr g))
   rw [a_,a_,not_or,not_or] at hz
   rw [(C z).2,h1 hz.1.1,h1 hz.1.2,h1 hz.2]
   rfl
  have zn:(Ak ltS (Ci (((Ak ltS (keys E'))++(Ak ltS (keys O)))++(Ak ltS (keys U))))).Nodup:=(Am _ _).nodup_iff.mpr (Md _)
  have zl:(Ak ltS (Ci (((Ak ltS (keys E'))++(Ak ltS (keys O)))++(Ak ltS (keys U))))).length<=24:=by
   rw [(Am _ _).length_eq]
   have:=Iv (((Ak ltS (keys E'))++(Ak ltS (keys O)))++(Ak ltS (keys U)))
   rw [av,av] at this
   omega
  have Se:=Sd.trans (Same.upd (o:=.lst ((Ak ltS (Ci (((Ak ltS (keys E'))++(Ak ltS (keys O)))++(Ak ltS (keys U))))).map V.str)) hD)
  have eD:upd H7 D (.lst ((Ak ltS (Ci (((Ak ltS (keys E'))++(Ak ltS (keys O)))++(Ak ltS (keys U))))).map V.str)) D=some (.lst ((Ak ltS (Ci (((Ak ltS (keys E'))++(Ak ltS (keys O)))++(Ak ltS (keys U))))).map V.str)):=Ad
  generalize upd H7 D (.lst ((Ak ltS (Ci (((Ak ltS (keys E'))++(Ak ltS (keys O)))++(Ak ltS (keys U))))).map V.str))=H8 at Se eD ⊢
  generalize Ak ltS (Ci (((Ak ltS (keys E'))++(Ak ltS (keys O)))++(Ak ltS (keys U))))=zs at eD nil zn zl
  have hP8:=hP3.up Se
  have ec8:=Se _ _ ec3
  have S8:=S3.trans Se
  have nd4:∀ {L:Addr} {H:Hp} {ys:List V} {S:Rs},H L=some (.lst ys)->PwAt K t H p d S->L≠d:=fun eL h c=>by
   obtain⟨_,e,_⟩:=h.2
   rw [c,e] at eL
   cases eL
  have nc:=nd4 ec8 hP8
  have nD:=nd4 eD hP8
  have cD:D=c->zs=[]:=fun e=>by
   subst e
   rw [eD] at ec8
   have:=HO.lst.inj (aV ec8)
   simpa using this
  clear Se Sd Sc Sb Sa e3 e12c e12 e2 e1 eL
  refine C3 (Bq (zs.map V.str)) (fun i σ H'=>(∃ v5 v6,σ=[some (.ref p1),some (.ref p2),some (.ref p3),some (.ref p),some (.ref c),v5,v6])/\Same H H'/\H' c=some (.lst [])/\H' D=some (.lst (zs.map V.str)) /\ ∃ S,PwAt K t H' p d S/\(keys S).Nodup/\S.length<=i /\ ∀ z,get S z=if z∈zs.take i then get R z else none)
   ⟨⟨_,_,rfl⟩,S8,ec8,eD,[],hP8,dW,ah _,(fun z=>by rw [List.take_zero,if_neg (by simp)];rfl)⟩ (fun i σ' H' _ h=>SqL.of h.2.2.2.1) ?_ ?_
  ·rintro i x σ H9 hx ⟨⟨v5,v6,rfl⟩,S9,ec9,eD9,S,hP9,nd,ln,gt⟩
   rw [aE] at hx
   obtain⟨z,hz,rfl⟩:=Option.map_eq_some_iff.mp hx
   have hi:i<zs.length:=(List.getElem?_eq_some_iff.mp hz).1
   have zt:=Gb zn hz
   have tk:zs.take (i+1)=zs.take i++[z]:=by rw [cz,hz];rfl
   obtain⟨x1,f1⟩:=(hE.up S9).1
   obtain⟨x2,f2⟩:=(hO.up S9).1
   obtain⟨x3,f3⟩:=(hU.up S9).1
   refine⟨p1,x1,_,⟨t.c_zbl,Yw K t⟩,rfl,.head _,f1,rfl,⟨ah _,ah _⟩,⟨p1,d1,E',z,rfl,hE.up S9,fun u1 hu1=>?_⟩⟩
   refine⟨p2,x2,_,⟨t.c_zbl,Yw K t⟩,rfl,.head _,f2,rfl,⟨ah _,ah _⟩,⟨p2,d2,O,z,rfl,hO.up S9,fun u2 hu2=>?_⟩⟩
   refine⟨p3,x3,_,⟨t.c_zbl,Yw K t⟩,rfl,.head _,f3,rfl,⟨ah _,ah _⟩,⟨p3,d3,U,z,rfl,hU.up S9,fun u3 hu3=>?_⟩⟩
   refine⟨_,_,_,u1,u2,u3,rfl,hu1,hu2,hu3,(C z).1,fun HA q v l SA ht el ho=>?_⟩
   rw [<- (C z).2] at ho
   have hPA:=hP9.up SA
   have nl:=nd4 el hPA
   obtain⟨kvsA,edA,_⟩:=id hPA.2
   refine⟨_,_,.inr ht,rfl,⟨p,d,S,z,get R z,v,rfl,hPA,by omega,ho,(fun e=>?_),(fun r e HB BB RB=>?_)⟩⟩
   ·have gB:∀ y,get S y=if y∈zs.take (i+1) then get R y else none:=fun y=>by
     rw [gt y,tk]
     by_cases c1:y∈zs.take i
     ·rw [if_pos c1,if_pos (List.mem_append.mpr (.inl c1))]
     ·rw [if_neg c1]
      by_cases c2:y=z
      ·subst c2
       rw [if_pos (List.mem_append.mpr (.inr (by simp))),e]
      ·rw [if_neg (fun g=>(List.mem_append.mp g).elim c1 fun g=>c2 (List.mem_singleton.mp g))]
    have BB:But d HA HA:=fun _ _ _ e=>e
    have hPB:=hPA
    have ndB:=nd
    have lnB:S.length<=i+1:=by omega
    have ecB:=BB _ _ nc (SA _ _ ec9)
    have elB:=BB _ _ nl el
    have eDB:=BB _ _ nD (SA _ _ eD9)
    have htB:=(BB.tk edA) _ _ ht
    have SB:=BB.same (S9.trans SA) hd
    refine⟨.inl ⟨rfl,_,SqL.of ecB⟩,_,_,.inr htB,rfl,.inl ⟨⟨_,SqL.of elB⟩,fun G hG=>?_⟩⟩
    refine Cs (Bq []) (fun i σ H'=>Same HA H'/\H' G=some (.lst [])) ⟨Same.upd hG,Ad⟩ (fun i σ H' _ h=>SqL.of (h.1 _ _ elB)) (fun i x σ H' hx=>by simp at hx) ?_
    rintro σ HC ⟨SC,eG⟩
    refine⟨c,G,_,_,rfl,rfl,SC _ _ ecB,eG,(show 0<=sizeLine by decide),?_⟩
    exact⟨⟨_,_,rfl⟩,(SB.trans SC).set hc0,Ad,ax3 cD (SC _ _ ecB) (SC _ _ eDB),_,Y2 nc (SC _ _ ecB) (hPB.up SC),ndB,lnB,gB⟩
   ·have gB:∀ y,get (De S z r) y=if y∈zs.take (i+1) then get R y else none:=fun y=>by
     rw [Hg,tk]
     by_cases c2:z=y
     ·subst c2
      rw [if_pos rfl,if_pos (List.mem_append.mpr (.inr (by simp))),e]
     ·rw [if_neg c2,gt y]
      by_cases c1:y∈zs.take i
      ·rw [if_pos c1,if_pos (List.mem_append.mpr (.inl c1))]
      ·rw [if_neg c1,if_neg (fun g=>(List.mem_append.mp g).elim c1 fun g=>c2 (List.mem_singleton.mp g).symm)]
    have hPB:=hPA.but BB RB
    have ndB:(keys (De S z r)).Nodup:=Z4 nd
    have lnB:(De S z r).length<=i+1:=by have:=Uo (S:=S) (z:=z) (r:=r);omega
    have ecB:=BB _ _ nc (SA _ _ ec9)
    have elB:=BB _ _ nl el
    have eDB:=BB _ _ nD (SA _ _ eD9)
    have htB:=(BB.tk edA) _ _ ht
    have SB:=BB.same (S9.trans SA) hd
    refine⟨.inl ⟨rfl,_,SqL.of ecB⟩,_,_,.inr htB,rfl,.inl ⟨⟨_,SqL.of elB⟩,fun G hG=>?_⟩⟩
    refine Cs (Bq []) (fun i σ H'=>Same HB H'/\H' G=some (.lst [])) ⟨Same.upd hG,Ad⟩ (fun i σ H' _ h=>SqL.of (h.1 _ _ elB)) (fun i x σ H' hx=>by simp at hx) ?_
    rintro σ HC ⟨SC,eG⟩
    refine⟨c,G,_,_,rfl,rfl,SC _ _ ecB,eG,(show 0<=sizeLine by decide),?_⟩
    exact⟨⟨_,_,rfl⟩,(SB.trans SC).set hc0,Ad,ax3 cD (SC _ _ ecB) (SC _ _ eDB),_,Y2 nc (SC _ _ ecB) (hPB.up SC),ndB,lnB,gB⟩
  ·rintro σ H9 ⟨⟨v5,v6,rfl⟩,S9,ec9,eD9,S,hP9,nd,ln,gt⟩
   rw [ai,dH] at gt
   have LS:Like S R:=Like.of nd T.tr.nd fun z=>by
    rw [gt z]
    by_cases c1:z∈zs
    ·rw [if_pos c1]
    ·rw [if_neg c1,nil z c1]
   refine .inl ⟨.inl ⟨rfl,_,SqL.of ec9⟩,p,d,S,rfl,hP9.rd,LS.trC T,fun HA l SA el=>.inl ⟨⟨_,SqL.of el⟩,fun G hG=>?_⟩⟩
   refine Cs (Bq []) (fun i σ H'=>Same HA H'/\H' G=some (.lst [])) ⟨Same.upd hG,Ad⟩ (fun i σ H' _ h=>SqL.of (h.1 _ _ el)) (fun i x σ H' hx=>by simp at hx) ?_
   rintro σ HB ⟨SB,eG⟩
   have SB:=SA.trans SB
   have ecB:=SB _ _ ec9
   refine⟨c,G,_,_,rfl,rfl,ecB,eG,(show 0<=sizeLine by decide),?_⟩
   have SC:Same H (upd HB c (.lst ([]++[]))):=(S9.trans SB).set hc0
   have ecC:upd HB c (.lst ([]++[])) c=some (.lst (([]:List Str).map V.str)):=Ad
   have hPC:PwAt K t (upd HB c (.lst ([]++[]))) p d S:=Y2 nc ecB (hP9.up SB)
   generalize upd HB c (.lst ([]++[]))=HC at SC ecC hPC ⊢
   refine .inr ⟨rfl,c,[],rfl,.inl (SqL.of ecC),dW,by decide,fun M hM=>⟨(show 2<=sizeLine by decide),fun q hq=>?_⟩⟩
   have SD:=(Same.upd (o:=.lst ((Ak ltS []).map V.str)) hM).trans (Same.upd (o:=.tup [.ref p,.ref M]) hq)
   exact k _ q p M d S (SC.trans SD) hd (SqT.of Ad) (Same.upd hq _ _ Ad) (hPC.up SD) LS
end
end K71
set_option maxHeartbeats 2000000
namespace K71
open PySem L2
theorem Ht {α:Type} {xs:List α} {i:Nat} {v:α} (h:xs[i]? = some v):atI xs (i:Int)=some v:=by
 have hl:i<xs.length:=(List.getElem?_eq_some_iff.mp h).1
 unfold atI ixN
 have h1:¬ ((i:Int)<0):=by omega
 have h2:(i:Int)<(xs.length:Int):=by omega
 simp [h1,h2]
 exact h
section
variable {P:aI} {w:bp} {K:ae} {mg:Str->Option Value} {base:Heap} {t:Adr}
theorem Fo {n i:Nat} {x:V} (h:(Rb 0 n)[i]? = some x):i<n/\x=.int (i:Int):=by
 have hi:i<n:=by
  have:=(List.getElem?_eq_some_iff.mp h).1
  rw [Cm] at this
  exact this
 rw [Pb hi] at h
 have:=aV h
 rw [Int.zero_add] at this
 exact⟨hi,this.symm⟩
theorem atM {α:Type} {xs:List α} (c:Int) (m:Int) (hm:(xs.length:Int)=m) (h:0<m):∃ v,v∈xs/\atI xs (c % m)=some v:=by
 have h1:=cQ c (show m≠0 by omega)
 have h2:=cE c h
 have hl:(c % m).toNat<xs.length:=by omega
 refine⟨xs[(c % m).toNat],cY hl,?_⟩
 unfold atI ixN
 have a1:¬ (c % m<0):=by omega
 have a2:c % m<(xs.length:Int):=by omega
 simp [a1,a2]
 rw [if_pos h1]
 exact am hl
theorem Ic (c:Int) {m:Nat} (h:0<m):∃ j:Nat,c % (m:Int)=(j:Int)/\j<m:=by
 have h1:=cQ c (show (m:Int)≠0 by omega)
 have h2:=cE c (show (0:Int)<(m:Int) by omega)
 exact⟨(c % (m:Int)).toNat,by omega,by omega⟩
theorem b92:Ww 10 9:=⟨by decide,by decide,by decide +kernel⟩
theorem bx3 {f:Addr} {fd:au} (Z:An K t) (F:FunD K "_law_cell_at" "_law_cell_at" Rv f fd .none) (T:Tab P w K mg base 0 (By K t) bl):FnOk P w K mg base CX0 1 f fd X2 (J7 K t):=by
 refine F.okW0 b35 b87 T (b18 K t) (fun vs H Q E h=>?_) (fun vs H Q E h=>?_)
 ·obtain⟨a,ns,k,rfl,_⟩:=h;rfl
 ·obtain⟨a,ns,k,rfl,hS,q⟩:=h
  refine .inl ⟨_,.inl hS,E8 (fun hlt=>?_) (fun _=>⟨.inl ⟨by decide,by decide⟩,q _⟩)⟩
  have hlt:(k:Int)<((ns.map V.int).length:Int):=of_decide_eq_true hlt
  have hk:k<ns.length:=by rw [ai] at hlt;omega
  refine⟨_,.int ns[k],.inl hS,?_,q _⟩
  exact Ht (by rw [aE,am hk];rfl)
theorem bb4 {f:Addr} {fd:au} (Z:An K t) (F:FunD K "_law_mix" "_law_mix" J1 f fd .none) (T:Tab P w K mg base 0 (By K t) bl):FnOk P w K mg base CX0 1 f fd N4 (Eo K t):=by
 refine F.okW0 bn7 br4 T (bk4 K t) (fun vs H Q E h=>?_) (fun vs H Q E h=>?_)
 ·obtain⟨c,k,rfl,_⟩:=h;rfl
 ·obtain⟨c,k,rfl,hk,q⟩:=h
  refine⟨by decide,.inl ⟨by decide,by decide⟩,.inr ⟨by decide,by decide⟩,by decide,?_⟩
  have qq:∀ r:Int,0<=r->r=bv0 ((c % 1000000007+7919 * (k:Int)) * 48271 % 2147483647)->Q (.int r) H:=q
  clear q
  have w1:=cQ ((c % 1000000007+7919 * (k:Int)) * 48271) (show (2147483647:Int)≠0 by decide)
  have w2:=cE ((c % 1000000007+7919 * (k:Int)) * 48271) (show (0:Int)<2147483647 by decide)
  generalize (c % 1000000007+7919 * (k:Int)) * 48271 % 2147483647=n at w1 w2 qq ⊢
  refine⟨.inl ⟨by omega,by omega⟩,by decide,?_⟩
  have qq:∀ r:Int,0<=r->r=bu9 (n * n % 2147483629)->Q (.int r) H:=qq
  have v1:=cQ (n * n) (show (2147483629:Int)≠0 by decide)
  have v2:=cE (n * n) (show (0:Int)<2147483629 by decide)
  generalize n * n % 2147483629=m at v1 v2 qq ⊢
  refine⟨.inl ⟨by omega,by omega⟩,by decide,⟨by decide,by decide⟩,qq _ ?_ rfl⟩
  have u1:=cQ (m * (m+3)) (show (2147483587:Int)≠0 by decide)
  omega
theorem ba8 {f:Addr} {fd:au} (Z:An K t) (F:FunD K "_law_draw" "_law_draw" Jw f fd .none) (T:Tab P w K mg base 1 (Fg K t) bl):FnOk P w K mg base CX0 2 f fd Nz (En K t):=by
 refine F.okW0 bn2 bq9 T (bj9 K t) (fun vs H Q E h=>?_) (fun vs H Q E h=>?_)
 ·obtain⟨c,k,rfl,_⟩:=h;rfl
 ·obtain⟨c,k,rfl,hk,q⟩:=h
  refine⟨by decide,E8 (fun _=>?_) (fun _=>?_)⟩
  ·refine⟨⟨by decide,by decide⟩,.inl ⟨by decide,by decide⟩,by omega,(show 2<=sizeLine by decide),fun p hp=>.inl ⟨p,_,rfl,.inr (SqT.of Ad),rfl,rfl,?_⟩⟩
   have S1:=Same.upd (o:=.tup [.int 0,.int (-1)]) hp
   refine E8 (fun _=>?_) (fun _=>?_)
   ·exact⟨⟨by decide,by decide⟩,.inl ⟨by decide,by decide⟩,by omega,q _ _ S1⟩
   ·exact⟨⟨by decide,by decide⟩,_,k,rfl,hk,fun r _ _=>q r _ S1⟩
  ·exact⟨⟨by decide,by decide⟩,_,k,rfl,hk,fun r _ _=>q r _ (Same.refl _)⟩
end
end K71
set_option maxHeartbeats 400000
namespace K71
open PySem L2
noncomputable abbrev Tb:=List (List Str)
noncomputable def Wh (r:List Str):Dt:=.tup (r.map B4)
noncomputable def at1 (t:Tb):Dt:=.tup (t.map Wh)
theorem Ye (z:Str):Fd (B4 z):=⟨by unfold B4 ctS;rfl,by unfold B4 dep;omega⟩
theorem P7:∀ r:List Str,Fe (r.map B4)=true
 | []=>by unfold Fe;rfl
 | z::r=>by rw [aK];unfold Fe;rw [(Ye z).1,P7 r];rfl
theorem Lw:∀ T:Tb,Fe (T.map Wh)=true
 | []=>by unfold Fe;rfl
 | z::T=>by rw [aK];unfold Fe;rw [Lw T];unfold Wh ctS;rw [P7 z];rfl
theorem a59 (T:Tb):Fd (at1 T):=by
 refine⟨by unfold at1 ctS;exact Lw T,?_⟩
 have h1:∀ r:List Str,dep (Wh r)<=1:=fun r=>by
  unfold Wh dep
  exact dI (Hz (fun z=>Yg z) r)
 unfold at1 dep
 have:=Hz h1 T
 omega
theorem Na {xs:List Str} {v:V} (h:v∈xs.map V.str):∃ z:Str,v=.str z:=by
 obtain⟨z,_,rfl⟩:=List.mem_map.mp h
 exact⟨z,rfl⟩
theorem ak4 (i:Nat) (h:i<4):∃ d:Int,atI [V.int 1,.int 3,.int 9,.int 27] (i:Int)=some (.int d)/\a25 0 d:=by
 match i,h with
 | 0,_=>exact⟨1,rfl,by decide,by decide⟩
 | 1,_=>exact⟨3,rfl,by decide,by decide⟩
 | 2,_=>exact⟨9,rfl,by decide,by decide⟩
 | 3,_=>exact⟨27,rfl,by decide,by decide⟩
section
variable {P:aI} {w:bp} {K:ae} {mg:Str->Option Value} {base:Heap} {t:Adr}
theorem bx4 {f:Addr} {fd:au} (Z:An K t) (F:FunD K "_law_content" "_law_content" Rw f fd .none) (T:Tab P w K mg base 0 (By K t) bl):FnOk P w K mg base CX0 1 f fd X3 (Pd K t):=by
 refine F.okW0 b36 b88 T (b19 K t) (fun vs H Q E h=>?_) (fun vs H Q E h=>?_)
 ·obtain⟨z,n,c,rfl,_⟩:=h;rfl
 ·obtain⟨z,n,c,rfl,hn,k⟩:=h
  refine E8 (c:=(!decide (z = "table"))=true) (fun _=>?_) (fun _=>?_)
  ·refine⟨by decide +kernel,by decide,by decide,by decide +kernel,by decide +kernel,(show 6<=sizeLine by decide),fun p hp=>?_⟩
   obtain⟨v,hv,ev⟩:=atM (xs:=([("" : Str), "a", "b", " |~", bk7 "a" (gO 60), "10"].map V.str)) c 6 rfl (by decide)
   obtain⟨y,rfl⟩:=Na hv
   exact⟨by decide,_,_,.inl (SqL.of Ad),ev,k (B4 y) _ _ (Same.upd hp) (Ye y) B7⟩
  ·refine⟨aL hn (by decide),⟨by decide,by decide⟩,by decide,?_⟩
   refine⟨(show 0<=sizeLine by decide),fun lr hlr=>?_⟩
   have S1:=Same.upd (o:=.lst []) hlr
   have er:upd H lr (.lst []) lr=some (.lst []):=Ad
   generalize upd H lr (.lst [])=H1 at S1 er ⊢
   refine⟨by decide,?_⟩
   generalize ((n.length:Int)+if (if false=true then !decide (c / 81 % 6=5) else decide (c / 81 % 6=5))=true then 1 else 0)=sh
   obtain⟨m,em,hm⟩:=Ic sh (m:=2) (by decide)
   have em:sh % 2=(m:Int):=em
   obtain⟨n2,en,hn2⟩:=Ic (sh / 2) (m:=2) (by decide)
   have en:sh / 2 % 2=(n2:Int):=en
   rw [em]
   refine⟨⟨by omega,by omega⟩,?_⟩
   rw [show (1+(m:Int)).toNat=m+1 by omega]
   refine C3 (Dc 0 (m+1)) (fun i σ H'=>(∃ v5 v6 v7,σ=[some (.str z),some (.str n),some (.int c),some (.int sh),some (.ref lr),v5,v6,v7])/\Same H H' /\ ∃ ys rs,H' lr=some (.lst ys)/\ys.length<=i/\AtL K H' ((rs:Tb).map Wh) ys)
    ⟨⟨_,_,_,rfl⟩,S1,[],[],er,ah _,A9⟩ (fun _ _ _ _ _=>bD) ?_ ?_
   ·rintro i x σ H2 hx ⟨⟨v5,v6,v7,rfl⟩,S2,ys,rs,er2,ly,az⟩
    obtain⟨hi,rfl⟩:=Fo hx
    refine⟨(show 0<=sizeLine by decide),fun lc hlc=>?_⟩
    have S3:=Same.upd (o:=.lst []) hlc
    have ec:upd H2 lc (.lst []) lc=some (.lst (([]:List Str).map V.str)):=Ad
    generalize upd H2 lc (.lst [])=H3 at S3 ec ⊢
    refine⟨⟨by decide,by decide⟩,by decide,?_⟩
    rw [en]
    refine⟨⟨by omega,by omega⟩,?_⟩
    rw [show (1+(n2:Int)).toNat=n2+1 by omega]
    refine C3 (Dc 0 (n2+1)) (fun j σ H'=>(∃ v7,σ=[some (.str z),some (.str n),some (.int c),some (.int sh),some (.ref lr),some (.int (i:Int)),some (.ref lc),v7])/\Same H2 H' /\ ∃ cs:List Str,H' lc=some (.lst (cs.map V.str))/\cs.length<=j)
     ⟨⟨_,rfl⟩,S3,[],ec,ah _⟩ (fun _ _ _ _ _=>bD) ?_ ?_
    ·rintro j x σ H4 hx ⟨⟨v7,rfl⟩,S4,cs,ec4,lcs⟩
     obtain⟨hj,rfl⟩:=Fo hx
     refine⟨.inl ⟨rfl,_,SqL.of ec4⟩,(show 3<=sizeLine by decide),fun p3 hp3=>⟨(show 4<=sizeLine by decide),fun p4 hp4=>⟨.inl ⟨by decide,by decide⟩,?_⟩⟩⟩
     have S5:=Same.upd (o:=.lst [.str "", .str "x", .str "y/|"]) hp3
     have e5:upd H4 p3 (.lst [.str "", .str "x", .str "y/|"]) p3=some (.lst [.str "", .str "x", .str "y/|"]):=Ad
     generalize upd H4 p3 (.lst [.str "", .str "x", .str "y/|"])=H5 at S5 e5 hp4 ⊢
     have S6:=Same.upd (o:=.lst [.int 1,.int 3,.int 9,.int 27]) hp4
     have e6:upd H5 p4 (.lst [.int 1,.int 3,.int 9,.int 27]) p4=some (.lst [.int 1,.int 3,.int 9,.int 27]):=Ad
     generalize upd H5 p4 (.lst [.int 1,.int 3,.int 9,.int 27])=H6 at S6 e6 ⊢
     obtain⟨dv,ed,cd⟩:=ak4 (2 * i+j) (by omega)
     have ed:atI [V.int 1,.int 3,.int 9,.int 27] (2 * (i:Int)+(j:Int))=some (.int dv):=by
      rw [<- ed]
      congr 1
     obtain⟨v,hv,ev⟩:=atM (xs:=([("" : Str), "x", "y/|"].map V.str)) (c / dv) 3 rfl (by decide)
     obtain⟨y,rfl⟩:=Na hv
     refine⟨_,_,.inl (SqL.of e6),ed,cd,by decide,_,_,.inl (SqL.of (S6 _ _ e5)),ev,?_⟩
     have S46:=S5.trans S6
     refine⟨lc,_,_,rfl,rfl,S46 _ _ ec4,?_,⟨_,rfl⟩,(S4.trans S46).set hlc,cs++[y],by rw [Ad,bg];rfl,by rw [av];exact dI lcs⟩
     rw [ai]
     exact bX (show _<=10 by omega) (by decide)
    ·rintro σ H4 ⟨⟨v7,rfl⟩,S4,cs,ec4,_⟩
     have er4:=S4 _ _ er2
     refine .inl ⟨.inl ⟨rfl,_,SqL.of er4⟩,_,.inl ⟨SqL.of ec4,fun q hq=>?_⟩⟩
     have S5:=S4.trans (Same.upd (o:=.tup (cs.map V.str)) hq)
     have eq:upd H4 q (.tup (cs.map V.str)) q=some (.tup (cs.map V.str)):=Ad
     generalize upd H4 q (.tup (cs.map V.str))=H5 at S5 eq ⊢
     have er5:=S5 _ _ er2
     have tk:TKeep K H5 (upd H5 lr (.lst (ys++[.ref q]))):=TKeep.lst er5
     refine⟨lr,ys,_,rfl,rfl,er5,bX (show _<=10 by omega) (by decide),⟨_,_,_,rfl⟩,(S2.trans S5).set hlr,_,rs++[cs],Ad,by rw [av];exact dI ly,?_⟩
     rw [bg]
     refine Ha (Dl tk (Hb (Lw rs)) (Dw S5 az)) (Ap (Kl tk ?_ (aj4 (SqT.of eq))) A9)
     unfold noL
     exact Hb (P7 cs)
   ·rintro σ H2 ⟨⟨v5,v6,v7,rfl⟩,S2,ys,rs,er2,ly,az⟩
    exact .inl ⟨_,.inl ⟨SqL.of er2,fun q hq=>k (at1 rs) _ _ (S2.trans (Same.upd hq)) (a59 rs) (Fc (SqT.of Ad) (Dw (Same.upd hq) az))⟩⟩
end
theorem aj2 {α:Type} {xs:List α} (i:Int) (h:xs≠[]):∃ v,v∈xs/\atI xs (i % (xs.length:Int))=some v:=by
 have hl:0<xs.length:=List.length_pos_iff.mpr h
 exact atM i _ rfl (by omega)
theorem Kx {α β:Type} (f:α->β):∀ (l:List α) (j:Nat),(l.map f).eraseIdx j=(l.eraseIdx j).map f
 | [],j=>by cases j <;> rfl
 | a::l,0=>rfl
 | a::l,j+1=>by
  show f a::(l.map f).eraseIdx j=f a::(l.eraseIdx j).map f
  rw [Kx f l j]
theorem bp1 {H:Hp} {d:Addr} {u:HO} {Hf H1:Hp} (ed:H d=some u) (b:But d H Hf) (S:Same Hf H1):Same H (upd H1 d u):=fun c v h=>by
 by_cases e:c=d
 ·subst e;rw [Ad,<- ed];exact h
 ·rw [Ah e];exact S _ _ (b _ _ e h)
section
variable {P:aI} {w:bp} {K:ae} {mg:Str->Option Value} {base:Heap} {t:Adr}
theorem at2 {H:Hp} {d:Addr} {o:Obj} {kvs:List (Key×V)} {u:HO} (e:H d=some (.frz o (.dK kvs))):TKeep K H (upd H d u):=fun a xs q=>by
 rcases q with (q|⟨o,q⟩)|q
 ·exact .inl (.inl (by rw [Ah (fun z=>by rw [z,e] at q;cases q)];exact q))
 ·exact .inl (.inr ⟨o,by rw [Ah (fun z=>by rw [z,e] at q;cases q)];exact q⟩)
 ·exact .inr q
theorem ba3 {f:Addr} {fd:au} (Z:An K t) (F:FunD K "_law_order" "_law_order" Js f fd .none) (T:Tab P w K mg base 2 (Gn K t) bl):FnOk P w K mg base CX0 3 f fd Nv (R4 K t):=by
 refine F.okW0 bm8 bq5 T (bj5 K t) (fun vs H Q E h=>?_) (fun vs H Q E h=>?_)
 ·obtain⟨c,l,zs,rfl,_⟩:=h;rfl
 ·obtain⟨c,l,zs,rfl,hl,hz,k⟩:=h
  refine .inl ⟨_,.inl (SqL.of hl),fun lf hlf=>⟨(show 0<=sizeLine by decide),fun lo hlo=>?_⟩⟩
  have S1:=Same.upd (o:=.lst (zs.map V.str)) hlf
  have e1:upd H lf (.lst (zs.map V.str)) lf=some (.lst (zs.map V.str)):=Ad
  generalize upd H lf (.lst (zs.map V.str))=H1 at S1 e1 hlo ⊢
  have ho0:=S1.free hlo
  have S2:=S1.trans (Same.upd (o:=.lst []) hlo)
  have e2:upd H1 lo (.lst []) lo=some (.lst (([]:List Str).map V.str)):=Ad
  have e12:=Same.upd (o:=.lst []) hlo _ _ e1
  have ne:lf≠lo:=fun c=>by rw [c,hlo] at e1;cases e1
  generalize upd H1 lo (.lst [])=H2 at S2 e2 e12 ⊢
  refine .inl ⟨_,.inl (SqL.of (S2 _ _ hl)),?_⟩
  rw [ai]
  refine⟨⟨by omega,by omega⟩,?_⟩
  rw [bK]
  refine C3 (Dc 0 zs.length) (fun i σ H'=>(∃ v4,σ=[some (.int c),some (.ref l),some (.ref lf),some (.ref lo),v4])/\Same H H' /\ ∃ ls os:List Str,H' lf=some (.lst (ls.map V.str))/\H' lo=some (.lst (os.map V.str))/\(os++ls).Perm zs/\os.length=i)
   ⟨⟨_,rfl⟩,S2,zs,[],e12,e2,.refl _,rfl⟩ (fun _ _ _ _ _=>bD) ?_ ?_
  ·rintro i x σ H3 hx ⟨⟨v4,rfl⟩,S3,ls,os,el,eo,pm,lo'⟩
   obtain⟨hi,rfl⟩:=Fo hx
   have ll:=pm.length_eq
   rw [av] at ll
   have lpos:ls≠[]:=fun c=>by rw [c,jT] at ll;omega
   refine⟨.inl ⟨rfl,_,SqL.of eo⟩,.inl ⟨.inl ⟨rfl,_,SqL.of el⟩,c,40+i,(by rw [cv];rfl),by omega,fun r H4 S4=>.inl ⟨_,.inl (SqL.of (S4 _ _ el)),?_⟩⟩⟩
   rw [ai]
   have hp:0<(ls.length:Int):=by have:=List.length_pos_iff.mpr lpos;omega
   refine⟨hp,?_⟩
   have r1:=cQ r (show (ls.length:Int)≠0 by omega)
   have r2:=cE r hp
   obtain⟨j,ej⟩:=c_ r1
   have hj:j<ls.length:=by omega
   have el4:=S4 _ _ el
   have eo4:=S4 _ _ eo
   refine .inr ⟨lf,ls.map V.str,_,j,.str ls[j],rfl,rfl,el4,by omega,by omega,?_,by rw [aE,am hj];rfl,?_⟩
   ·rw [ai,lg r1 r2,ej];rfl
   have S5:Same H (upd H4 lf (.lst ((ls.map V.str).eraseIdx j))):=(S3.trans S4).set hlf
   have el5:upd H4 lf (.lst ((ls.map V.str).eraseIdx j)) lf=some (.lst ((ls.eraseIdx j).map V.str)):=by rw [Ad,Kx]
   have eo5:upd H4 lf (.lst ((ls.map V.str).eraseIdx j)) lo=some (.lst (os.map V.str)):=by rw [Ah (bZ ne)];exact eo4
   generalize upd H4 lf (.lst ((ls.map V.str).eraseIdx j))=H5 at S5 el5 eo5 ⊢
   refine⟨lo,_,_,rfl,rfl,eo5,?_,⟨_,rfl⟩,S5.set ho0,ls.eraseIdx j,os++[ls[j]],by rw [Ah ne];exact el5,by rw [Ad,bg];rfl,?_,by rw [av,lo'];rfl⟩
   ·rw [ai,lo'];exact aO (show i<10 by omega) (by decide)
   ·rw [cN]
    exact ((Nb hj).append_left os).trans pm
  ·rintro σ H3 ⟨⟨v4,rfl⟩,S3,ls,os,el,eo,pm,lo'⟩
   rw [Cm] at lo'
   have ll:=pm.length_eq
   rw [av] at ll
   have:ls=[]:=cX (by omega)
   rw [this,dB] at pm
   exact .inl (k H3 lo os S3 eo pm)
theorem a91 {f:Addr} {fd:au} (Z:An K t) (F:FunD K "_law_record" "_law_record" Jj f fd .none) (T:Tab P w K mg base 2 (Gn K t) bl):FnOk P w K mg base CX0 3 f fd Nj (J4 K t):=by
 refine F.okWT bl9 bp6 T (bi6 K t) (fun vs H Q E h=>?_) (fun vs H Q E h=>?_)
 ·obtain⟨d,R,z,c,n,l,rfl,_⟩:=h;rfl
 ·obtain⟨d,R,z,c,n,l,rfl,hR,few,nd,hz,hn,⟨k0,k1,k2,k3,hl⟩,k⟩:=h
  refine⟨.inl ⟨by decide,by decide⟩,c,4 * n+1,(by rw [cv,d7];rfl),by omega,fun nu H1 S1=>?_⟩
  obtain⟨v,hv,ev⟩:=atM (xs:=([k0,k1,k2,k3].map V.str)) nu 4 rfl (by decide)
  obtain⟨kd,rfl⟩:=Na hv
  refine⟨by decide,_,_,.inl (SqL.of (S1 _ _ hl)),ev,?_⟩
  refine⟨(show 1<=sizeLine by decide),fun b1 hb1=>?_⟩
  have S2:=S1.trans (Same.upd (o:=.lst [.str ""]) hb1)
  have e2:upd H1 b1 (.lst [.str ""]) b1=some (.lst [.str ""]):=Ad
  generalize upd H1 b1 (.lst [.str ""])=H2 at S2 e2 ⊢
  obtain⟨kvs,ed0,g0⟩:=hR
  have ed:=S2 _ _ ed0
  have g:=g0.keep (TKeep.of S2)
  refine .inr (.inr (.inl ⟨kvs,ed,fun o L hL=>?_⟩))
  have bF:But d H2 (upd H2 d (.frz o (.dK kvs))):=But.upd
  have ef:upd H2 d (.frz o (.dK kvs)) d=some (.frz o (.dK kvs)):=Ad
  have nb:b1≠d:=fun c=>by rw [c,ed] at e2;cases e2
  have e2f:=bF _ _ nb e2
  have gF:=g.keep (bF.tk ed)
  generalize upd H2 d (.frz o (.dK kvs))=Hf at bF ef e2f gF hL ⊢
  have kn:=gF.names
  refine Cs (a23 kvs) (fun i σ' H'=>(∃ v,σ'=[v,some (.ref d)])/\Same Hf H' /\ ∃ ps:List Str,H' L=some (.lst (ps.map V.str))/\ps.length<=i /\ ∀ y∈ps,∃ q,get R y=some q/\q.kd = "chapter") ⟨⟨_,rfl⟩,Same.upd hL,[],Ad,ah _,(fun y hy=>by cases hy)⟩ (fun i σ' H' _ h=>h.2.1 _ _ ef) ?_ ?_
  ·rintro i x σ' H3 hx ⟨⟨v,rfl⟩,S3,ps,eL,lp,ap⟩
   rw [kn,aE] at hx
   obtain⟨y,hy,rfl⟩:=Option.map_eq_some_iff.mp hx
   have hi:i<(keys R).length:=(List.getElem?_eq_some_iff.mp hy).1
   rw [A1] at hi
   have hh:=mem_keys.mp (aX hy)
   have hR3:RdAt K H3 d R:=⟨kvs,.inr ⟨o,S3 _ _ ef⟩,gF.keep (TKeep.of S3)⟩
   obtain⟨q,c2,dg,hq,_⟩:=hR3.get hh
   refine⟨_,dg,_,_,.inr hq,rfl,E8 (c:=decide ((Aq R y).kd = "chapter")=true) (fun g=>?_) (fun g=>?_)⟩
   ·refine⟨_,eL,by rw [ai];exact bX (show _<=10 by omega) (by decide),⟨_,rfl⟩,S3.set hL,ps++[y],by rw [Ad,bg];rfl,by rw [av];exact dI lp,fun y' hy'=>?_⟩
    rcases List.mem_append.mp hy' with h|h
    ·exact ap y' h
    ·rw [List.mem_singleton.mp h];exact⟨_,A0 hh,of_decide_eq_true g⟩
   ·exact⟨⟨_,rfl⟩,S3,ps,eL,Nat.le_succ_of_le lp,ap⟩
  ·rintro σ' H3 ⟨_,S3,ps,eL,lp,ap⟩
   rw [ai,gF.len] at lp
   refine .inl ⟨b1,L,_,_,rfl,rfl,S3 _ _ e2f,eL,?_,fun M hM=>?_⟩
   ·rw [ai];exact aL (show 1+_<=9 by omega) (by decide)
   have S4:=S3.trans (Same.upd (o:=.lst ([.str ""]++ps.map V.str)) hM)
   have eM:upd H3 M (.lst ([.str ""]++ps.map V.str)) M=some (.lst ((("" : Str)::ps).map V.str)):=Ad
   generalize upd H3 M (.lst ([.str ""]++ps.map V.str))=H4 at S4 eM ⊢
   obtain⟨v,hv,ev⟩:=aj2 (xs:=(("" : Str)::ps).map V.str) (nu / 4) (by simp)
   obtain⟨pr,hpr,rfl⟩:=List.mem_map.mp hv
   refine⟨⟨by decide,by decide⟩,.inl ⟨_,.inl (SqL.of eM),by rw [ai,aP];omega,_,_,.inl (SqL.of eM),ev,?_⟩⟩
   refine⟨⟨by decide,by decide⟩,by decide,b92,(show 4<=sizeLine by decide),fun b2 hb2=>⟨⟨by decide,by decide⟩,by decide,?_⟩⟩
   obtain⟨v2,hv2,ev2⟩:=atM (xs:=([(0:Int),1,nu / 64 % 10,10 ^ gO 9].map V.int)) (nu / 16) 4 rfl (by decide)
   obtain⟨rk,_,rfl⟩:=List.mem_map.mp hv2
   refine⟨_,_,.inl (SqL.of Ad),ev2,?_⟩
   have S5:=S4.trans (Same.upd (o:=.lst ([(0:Int),1,nu / 64 % 10,10 ^ gO 9].map V.int)) hb2)
   refine⟨.inl ⟨by decide,by decide⟩,c,4 * n+2,(by rw [cv,d7];rfl),by omega,fun r H6 S6=>⟨kd,z,r,rfl,hz,fun D H7 y S7 ct aD=>⟨(show 4<=sizeLine by decide),fun b hb=>?_⟩⟩⟩
   have S8:=((S5.trans S6).trans S7).trans (Same.upd (o:=.tup [.str kd,.str pr,.int rk,y]) hb)
   have eb:upd H7 b (.tup [.str kd,.str pr,.int rk,y]) b=some (.tup [.str kd,.str pr,.int rk,y]):=Ad
   have aD:=Fs (Same.upd (o:=.tup [.str kd,.str pr,.int rk,y]) hb) aD
   generalize upd H7 b (.tup [.str kd,.str pr,.int rk,y])=H8 at S8 eb aD ⊢
   have ef8:=S8 _ _ ef
   refine .inr ⟨d,o,kvs,ed0,ef8,k _ _ ⟨kd,pr,rk,D⟩ (bp1 ed0 ((But.of S2).trans bF) S8) (RcAt.keep (at2 ef8) ⟨b,y,rfl,SqT.of eb,aD,ct⟩) ?_⟩
   rcases List.mem_cons.mp hpr with h|h
   ·exact .inl h
   ·exact .inr (ap pr h)
end
noncomputable def pos:List Str->Str->Nat
 | [],_=>0
 | k::ks,z=>if k=z then 0 else pos ks z+1
theorem Gf:∀ {ks:List Str} {z:Str} (l:List Str),z∈ks->pos (ks++l) z=pos ks z/\pos ks z<ks.length
 | [],_,_,h=>by cases h
 | k::ks,z,l,h=>by
  rw [cx]
  unfold pos
  by_cases e:k=z
  ·rw [if_pos e,if_pos e];exact⟨rfl,Nat.zero_lt_succ _⟩
  ·rw [if_neg e,if_neg e]
   have ih:=Gf l ((List.mem_cons.mp h).resolve_left (bZ e))
   exact⟨by rw [ih.1],Nat.succ_lt_succ ih.2⟩
theorem Uk:∀ {ks:List Str} {z:Str},z∉ks->pos (ks++[z]) z=ks.length
 | [],z,_=>if_pos rfl
 | k::ks,z,h=>by
  rw [cx]
  unfold pos
  rw [if_neg (fun (e:k=z)=>h (e▸bv)),Uk (fun m=>h (aC _ m))]
  rfl
noncomputable def Pok (R:Rs) (p:Str):Prop:=p = "" \/ ∃ q,get R p=some q/\q.kd = "chapter"
structure Sd (ys:List Str) (i:Nat) (R:Rs):Prop where
 nd:(keys R).Nodup
 sub:∀ z∈keys R,z∈ys.take i
 hd:a27 R
 up:∀ z r,get R z=some r->r.pr = "" \/ pos (keys R) r.pr<pos (keys R) z
theorem Sd.start (ys:List Str):Sd ys 0 []:=⟨dW,(fun z h=>by cases h),(fun z r h=>by cases h),fun z r h=>by cases h⟩
theorem Sd.skip {ys:List Str} {i:Nat} {R:Rs} {z:Str} (S:Sd ys i R) (hz:ys[i]? = some z):Sd ys (i+1) R:=
 ⟨S.nd,fun y hy=>by rw [cz];exact List.mem_append.mpr (.inl (S.sub y hy)),S.hd,S.up⟩
theorem Sd.put {ys:List Str} {i:Nat} {R:Rs} {z:Str} {r:Rc} (S:Sd ys i R) (nd:ys.Nodup) (hz:ys[i]? = some z) (hp:Pok R r.pr):Sd ys (i+1) (De R z r):=by
 have nz:z∉keys R:=fun h=>Gb nd hz (S.sub z h)
 have nh:¬ has R z=true:=fun h=>nz (mem_keys.mpr h)
 have ek:keys (De R z r)=keys R++[z]:=by rw [Il,if_neg nh]
 have old:∀ {p:Str} {q:Rc},get R p=some q->get (De R z r) p=some q:=fun {p q} h=>by
  rw [Hg,if_neg (fun (e:z=p)=>nh (e▸Bh h))]
  exact h
 refine⟨Z4 S.nd,fun y hy=>?_,fun y q h=>?_,fun y q h=>?_⟩
 ·rw [ek] at hy
  rw [cz,hz]
  rcases List.mem_append.mp hy with h|h
  ·exact List.mem_append.mpr (.inl (S.sub y h))
  ·exact List.mem_append.mpr (.inr (by simpa using h))
 ·rw [Hg] at h
  split at h
  ·cases h
   rcases hp with e|⟨q,e,k⟩
   ·exact .inl e
   ·exact .inr ⟨q,old e,k⟩
  ·rcases S.hd y q h with e|⟨q,e,k⟩
   ·exact .inl e
   ·exact .inr ⟨q,old e,k⟩
 ·rw [Hg] at h
  rw [ek]
  split at h
  ·rename_i e
   cases h
   subst e
   rcases hp with e|⟨q,e,k⟩
   ·exact .inl e
   ·have m:=mem_keys.mpr (Bh e)
    have:=Gf [z] m
    rw [Uk nz,this.1]
    exact .inr this.2
  ·rcases S.up y q h with e|e
   ·exact .inl e
   ·have m:=Gf [z] (mem_keys.mpr (Bh h))
    rcases S.hd y q h with e2|⟨q2,e2,_⟩
    ·exact .inl e2
    ·have m2:=Gf [z] (mem_keys.mpr (Bh e2))
     rw [m.1,m2.1]
     exact .inr e
theorem Sd.tr {ys:List Str} {i:Nat} {R:Rs} (S:Sd ys i R) (l8:ys.length<=8) (ne:("" : Str)∉ys):TrC R:=by
 have len:R.length<=8:=by
  have:=El S.nd fun z hz=>c7 (S.sub z hz)
  rw [A1] at this
  omega
 refine⟨⟨S.nd,by omega,fun h=>ne (c7 (S.sub _ h)),fun z=>if z = "" then 11 else 10 - pos (keys R) z,fun z=>?_,fun z r h=>?_⟩,S.hd,len⟩
 ·dsimp only
  split <;> omega
 ·have mz:=mem_keys.mpr (Bh h)
  have z0:z ≠ "" := fun e=>ne (c7 (S.sub _ (e▸mz)))
  have pz:=(Gf [] mz).2
  rw [A1] at pz
  dsimp only
  rw [if_neg z0]
  rcases S.up z r h with e|e
  ·rw [if_pos e];omega
  ·rcases S.hd z r h with e2|⟨q,e2,_⟩
   ·rw [if_pos e2];omega
   ·have m:=mem_keys.mpr (Bh e2)
    have p0:r.pr ≠ "" := fun c=>ne (c7 (S.sub _ (c▸m)))
    rw [if_neg p0]
    omega
section
variable {P:aI} {w:bp} {K:ae} {mg:Str->Option Value} {base:Heap} {t:Adr}
noncomputable def U8 (K:ae) (t:Adr):DS:=
 (Ag (dIf (Hu (E6 K (Ac 9)) (Bi (Af Q7 (Ac 7) (dC (.int 3))))) (Ag (Ed (Ac 8) (Dj K (Ac 4) (Ac 5)))
   Ai) (Ag (dIf (Hu (E6 K (Ac 9)) (Bi (Af (Bz K false) (Ac 7) (dC (.int 3))))) (Ag (Ed (Cz (Aa (Af (Av K) (Ac 8) (dC (.int 0))) (Aa (Af (Av K) (Ac 8) (dC (.int 1))) (Aa (Af (A7 K) (Af Br (Af (Av K) (Ac 8) (dC (.int 2))) (dC (.int 2))) (dC (.int 1))) (Aa (Af (Av K) (Ac 8) (dC (.int 3))) Ae))))) (Dj K (Ac 4) (Ac 5)))
    Ai) (Ag (dIf (Hu (E6 K (Ac 9)) (Bi (Af (Bz K false) (Ac 7) (dC (.int 4))))) (Ag (A3 10 (dFn (spE (Pd K t) []) (Aa (Af (Av K) (Ac 8) (dC (.int 0))) (Aa (Ac 5) (Aa (dFn (spE (En K t) []) (Aa (Ac 0) (Aa (Af (A7 K) (Af (Cq K) (dC (.int 4)) (Ac 6)) (dC (.int 2))) Ae))) Ae)))))
     (Ag (Ed (Cz (Aa (Af (Av K) (Ac 8) (dC (.int 0))) (Aa (Af (Av K) (Ac 8) (dC (.int 1))) (Aa (Af (Av K) (Ac 8) (dC (.int 2))) (Aa (Ac 10) Ae))))) (Dj K (Ac 4) (Ac 5)))
     Ai)) (Ag (dIf (Bi (Af Q7 (Ac 7) (dC (.int 7)))) (Ag (Ed (dFn (spE (J4 K t) []) (Aa (Ac 4) (Aa (Ac 5) (Aa (Ac 0) (Aa (Ac 6) (Aa (Ac 3) Ae)))))) (Dj K (Ac 4) (Ac 5)))
      Ai) Ai)
     Ai))
    Ai))
   Ai))
  Ai)
theorem b40 (Z:An K t) {H:Hp} {ln de lk u:Addr} {c wy:Int} {j:Nat} {z:Str} {x:V} {hb:Bool} {v10:Option V} {R:Rs} {D:Ll} (hx:hb=true -> ∃ r,RcAt K H r x/\Pok R r.pr) (hR:RsAt K H u R) (few:R.length<=8) (nd:(keys R).Nodup) (hz:z.length<=12) (hj:j<=8) (hk:Lk H lk)
  (k:∀ H' v R',But u H H'->RsAt K H' u R'->(R'=R \/ ∃ r,R'=De R z r/\Pok R r.pr)->D.nx [some (.int c),some (.ref ln),some (.ref de),some (.ref lk),some (.ref u),some (.str z),some (.int (j:Int)),some (.int wy),some x,some (.bl hb),v] H') :
  U8 K t D [some (.int c),some (.ref ln),some (.ref de),some (.ref lk),some (.ref u),some (.str z),some (.int (j:Int)),some (.int wy),some x,some (.bl hb),v10] H:=by
 have last:∀ D2:Ll,(∀ H' v R',But u H H'->RsAt K H' u R'->(R'=R \/ ∃ r,R'=De R z r/\Pok R r.pr)->D2.nx [some (.int c),some (.ref ln),some (.ref de),some (.ref lk),some (.ref u),some (.str z),some (.int (j:Int)),some (.int wy),some x,some (.bl hb),v] H') ->
   (dIf (Bi (Af Q7 (Ac 7) (dC (.int 7)))) (Ag (Ed (dFn (spE (J4 K t) []) (Aa (Ac 4) (Aa (Ac 5) (Aa (Ac 0) (Aa (Ac 6) (Aa (Ac 3) Ae)))))) (Dj K (Ac 4) (Ac 5))) Ai) Ai) D2 [some (.int c),some (.ref ln),some (.ref de),some (.ref lk),some (.ref u),some (.str z),some (.int (j:Int)),some (.int wy),some x,some (.bl hb),v10] H:=by
  intro D2 k2
  refine E8 (fun _=>?_) (fun _=>k2 H _ R (fun _ _ _ e=>e) hR (.inl rfl))
  refine⟨u,R,z,c,j,lk,rfl,hR,few,nd,hz,hj,hk,fun H1 x1 r S1 hr pok=>?_⟩
  exact sto (hR.up S1) (by omega) hr fun H2 B2 R2=>k2 H2 _ _ ((But.of S1).trans B2) R2 (.inr ⟨r,rfl,pok⟩)
 cases hb with
 | false=>exact last _ fun H' v R' b r o=>k H' v R' b r o
 | true=>
  obtain⟨r,hr,pok⟩:=hx rfl
  obtain⟨q,y,rfl,h1,h2,h3⟩:=id hr
  refine E8 (fun _=>?_) (fun _=>E8 (fun _=>?_) (fun _=>E8 (fun _=>?_) (fun _=>?_)))
  ·exact sto hR (by omega) hr fun H2 B2 R2=>k H2 _ _ B2 R2 (.inr ⟨r,rfl,pok⟩)
  ·refine⟨_,_,.inr h1,rfl,_,_,.inr h1,rfl,_,_,.inr h1,rfl,⟨by decide,by decide⟩,_,_,.inr h1,rfl,(show 4<=sizeLine by decide),fun b hb=>?_⟩
   have S1:=Same.upd (o:=.tup [.str r.kd,.str r.pr,.int (r.rk / 2+1),y]) hb
   exact sto (r:=⟨r.kd,r.pr,r.rk / 2+1,r.ct⟩) (hR.up S1) (by omega) ⟨b,y,rfl,SqT.of Ad,Fs S1 h2,h3⟩ fun H2 B2 R2=>k H2 _ _ ((But.of S1).trans B2) R2 (.inr ⟨_,rfl,pok⟩)
  ·refine⟨_,_,.inr h1,rfl,.inl ⟨by decide,by decide⟩,c,4 * j+2,(by rw [cv,d7];rfl),by omega,fun n H1 S1=>⟨r.kd,z,n,rfl,hz,fun D' H2 y2 S2 ct aD=>?_⟩⟩
   have h12:=(S1.trans S2).seqT h1
   refine⟨_,_,.inr h12,rfl,_,_,.inr h12,rfl,_,_,.inr h12,rfl,(show 4<=sizeLine by decide),fun b hb=>?_⟩
   have S3:=Same.upd (o:=.tup [.str r.kd,.str r.pr,.int r.rk,y2]) hb
   have S13:=(S1.trans S2).trans S3
   exact sto (r:=⟨r.kd,r.pr,r.rk,D'⟩) (hR.up S13) (by omega) ⟨b,y2,rfl,SqT.of Ad,Fs S3 aD,ct⟩ fun H2 B2 R2=>k H2 _ _ ((But.of S13).trans B2) R2 (.inr ⟨_,rfl,pok⟩)
  ·exact last _ fun H' v R' b r o=>k H' v R' b r o
end
theorem Oq:∀ {zs:List Str} {z:Str},z∈zs -> ∃ j:Nat,j<(zs.map V.str).length/\eqV ((zs.map V.str).getD j .non) (.str z)=true /\ ∀ m,m<j->eqV ((zs.map V.str).getD m .non) (.str z)=false
 | [],_,h=>by cases h
 | k::zs,z,h=>by
  by_cases e:k=z
  ·exact⟨0,Nat.zero_lt_succ _,by show (k==z)=true;rw [e];exact beq_self_eq_true z,fun m hm=>absurd hm (Nat.not_lt_zero m)⟩
  ·obtain⟨j,a,b,c⟩:=Oq ((List.mem_cons.mp h).resolve_left (bZ e))
   refine⟨j+1,Nat.succ_lt_succ a,b,fun m hm=>?_⟩
   cases m with
   | zero=>show (k==z)=false;exact beq_eq_false_iff_ne.mpr e
   | succ m=>exact c m (jJ hm)
theorem Vq (zs:List Str):(zs.map V.str).all Bd=true:=by
 rw [cJ]
 intro v hv
 obtain⟨z,_,rfl⟩:=List.mem_map.mp hv
 rfl
section
variable {P:aI} {w:bp} {K:ae} {mg:Str->Option Value} {base:Heap} {t:Adr}
theorem Ty {H:Hp} {d:Addr} {S:Rs} (h:RsAt K H d S) (z:Str):∃ o,D7 H d (.str z) o/\o.isSome=has S z /\ ∀ r,get S z=some r -> ∃ x,o=some x/\RcAt K H r x:=by
 obtain⟨kvs,ed,g⟩:=h
 refine⟨A6 kvs (.inr z),.inl ⟨kvs,.inr z,.inl ed,rfl,rfl⟩,g.isSome z,fun r er=>g.some er⟩
theorem RsAt.ty {H:Hp} {d:Addr} {S:Rs} (h:RsAt K H d S):tyV K "dict" (.ref d) H:=by
 obtain⟨kvs,ed,g⟩:=h
 exact .inr (.inr (.inl ⟨rfl,.inl ⟨kvs,ed⟩⟩))
theorem bb0 {f:Addr} {fd:au} (Z:An K t) (F:FunD K "_law_side" "_law_side" Jy f fd .none) (T:Tab P w K mg base 3 (Fh K t) bl):FnOk P w K mg base CX0 4 f fd N1 (M5 K t):=by
 refine F.okW0 bn4 br1 T (bk1 K t) (fun vs H Q E h=>?_) (fun vs H Q E h=>?_)
 ·obtain⟨c,ln,de,lk,zs,E,rfl,_⟩:=h;rfl
 ·obtain⟨c,ln,de,lk,zs,E',rfl,hn,nd,l8,ne,h12,hE,hk,k⟩:=h
  refine fun u hu=>.inl ?_
  have S0:=Same.upd (o:=.dK []) hu
  have R0:RsAt K (upd H u (.dK [])) u []:=⟨[],Ad,rfl⟩
  generalize upd H u (.dK [])=H0 at S0 R0 ⊢
  refine⟨c,ln,zs,rfl,S0 _ _ hn,l8,fun H1 lo ys S1 eo pm=>.inl ⟨⟨_,SqL.of eo⟩,?_⟩⟩
  have S01:=S0.trans S1
  have R1:=R0.up S1
  have nlo:lo≠u:=fun e=>by obtain⟨kvs,ed,_⟩:=R1;rw [e,ed] at eo;cases eo
  have yn:ys.Nodup:=pm.nodup_iff.mpr nd
  have y8:ys.length<=8:=by rw [pm.length_eq];exact l8
  have y0:("" : Str)∉ys:=fun h=>ne (pm.mem_iff.mp h)
  refine C3 (Bq (ys.map V.str)) (fun i σ H'=>(∃ v5 v6 v7 v8 v9 v10,σ=[some (.int c),some (.ref ln),some (.ref de),some (.ref lk),some (.ref u),v5,v6,v7,v8,v9,v10])/\But u H1 H' /\ ∃ R,RsAt K H' u R/\Sd ys i R)
   ⟨⟨_,_,_,_,_,_,rfl⟩,(fun _ _ _ e=>e),[],R1,Sd.start ys⟩ (fun i σ H' _ h=>SqL.of (h.2.1 _ _ nlo eo)) ?_ ?_
  ·rintro i x σ H2 hx ⟨⟨v5,v6,v7,v8,v9,v10,rfl⟩,B2,R,hR,sd⟩
   rw [aE] at hx
   obtain⟨z,hz,rfl⟩:=Option.map_eq_some_iff.mp hx
   have mz:z∈zs:=pm.mem_iff.mp (aX hz)
   have S2:Same H H2:=B2.same S01 hu
   obtain⟨j,hj,j1,j2⟩:=Oq mz
   have hj8:j<8:=by rw [ai] at hj;omega
   refine⟨.inl ⟨rfl,_,SqL.of (S2 _ _ hn)⟩,ln,_,_,rfl,rfl,S2 _ _ hn,rfl,Vq zs,j,hj,j1,j2,?_⟩
   refine⟨.inl ⟨by decide,by decide⟩,c,4 * j+3,(by rw [cv,d7];rfl),by omega,fun r H3 S3=>⟨by decide,?_⟩⟩
   have hE3:=hE.up (S2.trans S3)
   refine⟨hE3.ty,(show 4<=sizeLine by decide),fun b hb=>?_⟩
   have S4:=S3.trans (Same.upd (o:=.tup [.str "", .str "none", .int 0,.str ""]) hb)
   generalize upd H3 b (.tup [.str "", .str "none", .int 0,.str ""])=H4 at S4 ⊢
   have hE4:=hE.up (S2.trans S4)
   have hR4:=hR.up S4
   have few:R.length<=8:=(sd.tr y8 y0).f8
   obtain⟨o,dg,os,og⟩:=Ty hE4 z
   refine⟨o,dg,?_⟩
   have fin:∀ (D:Ll) (v10:Option V),(∀ hb H6 v R',But u H2 H6->RsAt K H6 u R'->Sd ys (i+1) R'->D.nx [some (.int c),some (.ref ln),some (.ref de),some (.ref lk),some (.ref u),some (.str z),some (.int (j:Int)),some (.int (r % 8)),some (o.getD (.ref b)),some (.bl hb),v] H6) -> ∀ (hb:Bool) (H5:Hp),Same H4 H5->(hb=true -> ∃ r,RcAt K H5 r (o.getD (.ref b))/\Pok R r.pr)->U8 K t D [some (.int c),some (.ref ln),some (.ref de),some (.ref lk),some (.ref u),some (.str z),some (.int (j:Int)),some (.int (r % 8)),some (o.getD (.ref b)),some (.bl hb),v10] H5:=?_
   ·have fin:=fun D a=>fin D v10 a
    refine .inr ⟨o,dg,?_⟩
    show if o.isSome=true then _ else _
    rw [os]
    by_cases g:has E' z=true
    case neg=>rw [Bool.eq_false_iff.mpr g];exact fin _ (by exact fun hb H6 v R' B r s=>⟨⟨_,_,_,_,_,_,rfl⟩,B2.trans B,R',r,s⟩) false H4 (fun _ _ e=>e) (fun h=>by cases h)
    rw [g]
    obtain⟨x,ox,hx⟩:=og _ (A0 g)
    rw [ox] at fin ⊢
    obtain⟨q,y,rfl,q1,q2,q3⟩:=id hx
    refine⟨_,_,.inr q1,rfl,?_⟩
    show if decide ((Aq E' z).pr = "")=true then _ else _
    by_cases g0:(Aq E' z).pr = ""
    ·have g1:=decide_eq_true g0
     have this:=g0
     rw [g1]
     exact fin _ (by exact fun hb H6 v R' B r s=>⟨⟨_,_,_,_,_,_,rfl⟩,B2.trans B,R',r,s⟩) true H4 (fun _ _ e=>e) (fun _=>⟨_,hx,.inl this⟩)
    ·rw [decide_eq_false g0]
     refine⟨hR4.ty,_,_,.inr q1,rfl,(show 2<=sizeLine by decide),fun b2 hb2=>?_⟩
     have S5:=Same.upd (o:=.tup [.str "", .str ""]) hb2
     have e5:upd H4 b2 (.tup [.str "", .str ""]) b2=some (.tup [.str "", .str ""]):=Ad
     generalize upd H4 b2 (.tup [.str "", .str ""])=H5 at S5 e5 ⊢
     obtain⟨o2,dg2,os2,og2⟩:=Ty (hR4.up S5) (Aq E' z).pr
     refine⟨o2,dg2,?_⟩
     cases o2 with
     | none=>exact⟨_,.str "", .inr (SqT.of e5),rfl,fin _ (by exact fun hb H6 v R' B r s=>⟨⟨_,_,_,_,_,_,rfl⟩,B2.trans B,R',r,s⟩) (decide (("" : Str) = "chapter")) H5 S5 (fun h=>absurd (of_decide_eq_true h) (by decide))⟩
     | some x2=>
      have g2:has R (Aq E' z).pr=true:=os2.symm
      obtain⟨x3,e3,hx3⟩:=og2 _ (A0 g2)
      cases e3
      obtain⟨q',y',rfl,q1',_,_⟩:=hx3
      exact⟨_,.str (Aq R (Aq E' z).pr).kd,.inr q1',rfl,fin _ (by exact fun hb H6 v R' B r s=>⟨⟨_,_,_,_,_,_,rfl⟩,B2.trans B,R',r,s⟩) (decide ((Aq R (Aq E' z).pr).kd = "chapter")) H5 S5 (fun h=>⟨_,hx.keep (TKeep.of S5),.inr ⟨_,A0 g2,of_decide_eq_true h⟩⟩)⟩
   ·intro D v10 hD hb H5 S5 hx
    have hR5:=hR4.up S5
    have S25:Same H2 H5:=S4.trans S5
    obtain⟨k0,k1,k2,k3,hl⟩:=hk
    refine b40 Z hx hR5 few sd.nd (h12 z mz) (by omega) ⟨k0,k1,k2,k3,(S2.trans S25) _ _ hl⟩ (fun H6 v R' B6 hR6 way=>hD hb H6 v R' ((But.of S25).trans B6) hR6 ?_)
    rcases way with rfl|⟨r,rfl,pok⟩
    ·exact sd.skip hz
    ·exact sd.put yn hz pok
  ·rintro σ H2 ⟨⟨v5,v6,v7,v8,v9,v10,rfl⟩,B2,R,hR,sd⟩
   exact .inl (k H2 u R (B2.same S01 hu) hu hR (sd.tr y8 y0))
end
noncomputable def alpha:Str := "abcdefghijklmnopqrstuvwxyz0123456789."
noncomputable def someN:List Str:=["chapter", "para", "table", "top", "1", "10", "2", "a.", ".", "a", "b", "z9"]
noncomputable def D5 (c:Nat):Str:=⟨#[c]⟩
noncomputable def ofL (l:List Nat):Str:=⟨l.toArray⟩
noncomputable def al (i:Int):Nat:=alpha.cps.toList.getD (i % 37).toNat 0
theorem join_ones (l:List Nat):Txt.join (fz "") (l.map D5)=ofL l:=by
 show Builtin.Str.glued (fz "") _=_
 rw [StrLaws.glued_eq_join,show fz "" = (⟨#[]⟩:Str) from by decide +kernel]
 exact PyProof.Rows.join_ones l
theorem Pg (cs:List Nat):((cs.map D5).map (·.length)).sum=cs.length:=by
 induction cs with
 | nil=>rfl
 | cons c cs ih=>
  rw [aK,aK,List.sum_cons,ih,aP]
  show 1+cs.length=cs.length+1
  omega
theorem Ui (l:List Nat):(ofL l).length=l.length:=by unfold ofL;simp [Str.length]
theorem an0 {l m:List Nat} (h:ofL l=ofL m):l=m:=by
 have:=congrArg (fun z:Str=>z.cps.toList) h
 simpa [ofL] using this
theorem Tv {α:Type} (f:α->V) (l:List α) (n:Nat):Fv (l.map f) none (some (n:Int))=(l.take n).map f:=by
 unfold Fv
 rw [HT.sIx_none,HT.sIx_nat,ai,Nat.sub_zero,List.drop_zero,<- lw]
 by_cases h:n<=l.length
 ·rw [Nat.min_eq_left h]
 ·rw [Nat.min_eq_right (by omega),gG (ah _),gG (by omega)]
theorem aj8 {α:Type} (f:α->V) (l:List α) (a b:Nat):Fv (l.map f) (some (a:Int)) (some (b:Int))=((l.drop (min a l.length)).take (min b l.length - min a l.length)).map f:=by
 unfold Fv
 rw [HT.sIx_nat,HT.sIx_nat,ai,<- List.map_drop,<- lw]
theorem N8:alpha.length<=sizeLine:=by decide +kernel
theorem at6 (i:Int):atI alpha.cps.toList (i % 37)=some (al i):=by
 have h1:=cQ i (show (37:Int)≠0 by decide)
 have h2:=cE i (show (0:Int)<37 by decide)
 unfold al
 generalize i % 37=j at h1 h2 ⊢
 obtain⟨m,rfl⟩:=c_ h1
 have hm:m<alpha.cps.toList.length:=by rw [show alpha.cps.toList.length=37 by decide +kernel];omega
 refine Ht (i:=m) ?_
 rw [am hm,aB,bK,am hm]
 rfl
theorem a52:∀ i,i<37 -> ∀ j,j<37->alpha.cps.toList.getD i 0=alpha.cps.toList.getD j 0->i=j:=by decide +kernel
theorem ae0:∀ i,i<12 -> ∀ j,j<12->someN.getD i "" = someN.getD j "" -> i=j:=by decide +kernel
theorem ae1:∀ i,i<12->1<=(someN.getD i "").length/\(someN.getD i "").length<=12:=by decide +kernel
structure Nm (nm:Nat->Str):Prop where
 inj:∀ a b,a<b->b<8->nm a≠nm b
 len:∀ a,a<8->1<=(nm a).length/\(nm a).length<=12
theorem Nm.nd {nm:Nat->Str} (N:Nm nm):∀ {m:Nat},m<=8->((bC m).map nm).Nodup
 | 0,_=>dW
 | m+1,h=>by
  rw [ie,bg]
  refine List.nodup_append.mpr ⟨N.nd (by omega),by simp,fun a ha b hb e=>?_⟩
  obtain⟨i,hi,rfl⟩:=List.mem_map.mp ha
  rw [List.map_singleton,aT] at hb
  exact N.inj i m (List.mem_range.mp hi) (by omega) (e.trans hb)
theorem Nm.ok {nm:Nat->Str} (N:Nm nm) {m:Nat} (h:m<=8):((bC m).map nm).length<=8/\("" : Str)∉(bC m).map nm /\ ∀ z∈(bC m).map nm,z.length<=12:=by
 refine⟨by rw [ai,d8];exact h,fun hm=>?_,fun z hz=>?_⟩
 ·obtain⟨i,hi,e⟩:=List.mem_map.mp hm
  have:=(N.len i (by have:=List.mem_range.mp hi;omega)).1
  rw [e] at this
  exact absurd this (by decide +kernel)
 ·obtain⟨i,hi,rfl⟩:=List.mem_map.mp hz
  exact (N.len i (by have:=List.mem_range.mp hi;omega)).2
noncomputable def nm0 (cs:List Nat) (n:Int) (k:Nat):Str:=ofL (cs.take (1+(n+5 * (k:Int)) % 12).toNat)
noncomputable def nm1 (n:Int) (k:Nat):Str:=someN.getD ((n+(k:Int)) % 12).toNat ""
noncomputable def nm2 (cs:List Nat) (a b:Nat) (x:Int) (k:Nat):Str:=ofL ((cs.take a++[al (x+5 * (k:Int))])++(cs.drop (min (a+1) cs.length)).take (min b cs.length - min (a+1) cs.length))
theorem a84 {cs:List Nat} (h:cs.length=12) (n:Int):Nm (nm0 cs n):=by
 have l:∀ k,(nm0 cs n k).length=(1+(n+5 * (k:Int)) % 12).toNat:=fun k=>by
  unfold nm0
  rw [Ui,bj,h]
  omega
 refine⟨fun a b ab hb e=>?_,fun a ha=>by rw [l];omega⟩
 have:=congrArg Str.length e
 rw [l,l] at this
 omega
theorem a85 (n:Int):Nm (nm1 n):=by
 refine⟨fun a b ab hb e=>?_,fun a ha=>ae1 _ (by omega)⟩
 have:=ae0 _ (by omega) _ (by omega) e
 omega
theorem a86 {cs:List Nat} (h:cs.length=12) {a b:Nat} (ha:a<12) (hb:a<b) (hb2:b<=12) (x:Int):Nm (nm2 cs a b x):=by
 refine⟨fun i j ij hj e=>?_,fun k hk=>?_⟩
 ·unfold nm2 at e
  have e:=an0 e
  have e:=List.append_cancel_right e
  have e:=List.append_cancel_left e
  have e:al (x+5 * (i:Int))=al (x+5 * (j:Int)):=by injection e
  have:=a52 _ (by omega) _ (by omega) e
  omega
 ·unfold nm2
  rw [Ui,av,av,bj,bj,eX,h,bQ]
  omega
section
variable {P:aI} {w:bp} {K:ae} {mg:Str->Option Value} {base:Heap} {t:Adr}
theorem ba2 {f:Addr} {fd:au} (Z:An K t) (F:FunD K "_law_names" "_law_names" Jr f fd .none) (T:Tab P w K mg base 1 (Fg K t) bl):FnOk P w K mg base CX0 2 f fd Nt (R3 K t):=by
 refine F.okW0 bm7 bq4 T (bj4 K t) (fun vs H Q E h=>?_) (fun vs H Q E h=>?_)
 ·obtain⟨c,m,rfl,_⟩:=h;rfl
 ·obtain⟨c,m,rfl,hm,k⟩:=h
  have big:100<=sizeLine:=by decide
  refine⟨(show 12<=sizeLine by decide),fun l hl=>?_⟩
  have S1:=Same.upd (o:=.lst (someN.map V.str)) hl
  have el:upd H l (.lst (someN.map V.str)) l=some (.lst (someN.map V.str)):=Ad
  refine⟨c,40,rfl,by decide,fun n0 hn0 _=>⟨⟨by decide,by decide⟩,⟨⟨by decide,by decide⟩,fun D hD=>?_⟩⟩⟩
  refine Cs (Dc 0 12) (fun j σ' H'=>(∃ v,σ'=[v,some (.int c),some (.str alpha)])/\Same (upd H l (.lst (someN.map V.str))) H' /\ ∃ cs:List Nat,cs.length=j/\H' D=some (.lst (cs.map fun c=>V.str (D5 c)))) ⟨⟨_,rfl⟩,Same.upd hD,[],rfl,Ad⟩ (fun _ _ _ _ _=>bD) ?_ ?_
  ·rintro j x σ' H5 hxj ⟨⟨v,rfl⟩,S5,cs,lc,e3⟩
   obtain⟨hj,rfl⟩:=Fo hxj
   refine⟨c,41+j,(by rw [cv];rfl),by omega,fun r _ _=>⟨by decide,N8,_,at6 r,?_⟩⟩
   refine⟨_,e3,?_,⟨_,rfl⟩,S5.set hD,cs++[al r],by rw [av,lc];rfl,?_⟩
   ·rw [ai,lc];omega
   ·rw [Ad,bg];rfl
  ·rintro σ' H5 ⟨_,S5,cs,lc,e3⟩
   rw [Cm] at lc
   have S15:=S1.trans S5
   have el5:=S5 _ _ el
   refine⟨c,40,rfl,by decide,fun n1 _ _=>⟨by decide,E8 (fun _=>?_) (fun _=>?_)⟩⟩
   ·refine⟨⟨by omega,by omega⟩,fun L hL=>?_⟩
    rw [bK]
    refine Cs (Dc 0 m) (fun i σ' H'=>(∃ v,σ'=[v,some (.ref D),some (.int (n0 / 3))])/\Same H5 H'/\H' L=some (.lst (((bC i).map (nm0 cs (n0 / 3))).map V.str))) ⟨⟨_,rfl⟩,Same.upd hL,Ad⟩ (fun _ _ _ _ _=>bD) ?_ ?_
    ·rintro i x σ' H6 hx ⟨⟨v,rfl⟩,S6,eL⟩
     obtain⟨hi,rfl⟩:=Fo hx
     refine⟨rfl,.inl ⟨by decide,by decide⟩,by decide,.inl ⟨_,SqL.of (S6 _ _ e3),fun p hp=>?_⟩⟩
     have hpos:0<=1+(n0 / 3+5 * (i:Int)) % 12:=by omega
     have ec:Fv (cs.map fun c=>V.str (D5 c)) none (some (1+(n0 / 3+5 * (i:Int)) % 12))=((cs.take (1+(n0 / 3+5 * (i:Int)) % 12).toNat).map D5).map V.str:=by
      have:=Tv (fun c=>V.str (D5 c)) cs (1+(n0 / 3+5 * (i:Int)) % 12).toNat
      rw [h8 hpos] at this
      rw [this,cr]
      rfl
     rw [ec]
     refine⟨"", p,_,rfl,rfl,SqL.of Ad,?_,?_⟩
     ·rw [Pg,bj,ai,bj,lc,show ("" : Str).length=0 by decide +kernel];omega
     rw [join_ones]
     refine⟨_,(Same.upd hp) _ _ eL,?_,⟨_,rfl⟩,(S6.trans (Same.upd hp)).set hL,?_⟩
     ·rw [ai,ai,d8];omega
     ·rw [Ad,ie,bg,bg];rfl
    ·rintro σ' H6 ⟨_,S6,eL⟩
     rw [Cm] at eL
     have N:=a84 lc (n0 / 3)
     exact (k _ _ _ (S15.trans S6) eL (N.nd hm) (N.ok hm).1 (N.ok hm).2.1 (N.ok hm).2.2)
   ·refine⟨c,40,rfl,by decide,fun n2 _ _=>⟨by decide,E8 (fun _=>?_) (fun _=>?_)⟩⟩
    ·refine⟨⟨by omega,by omega⟩,fun L hL=>?_⟩
     rw [bK]
     refine Cs (Dc 0 m) (fun i σ' H'=>(∃ v,σ'=[v,some (.int (n0 / 3)),some (.ref l)])/\Same H5 H'/\H' L=some (.lst (((bC i).map (nm1 (n0 / 3))).map V.str))) ⟨⟨_,rfl⟩,Same.upd hL,Ad⟩ (fun _ _ _ _ _=>bD) ?_ ?_
     ·rintro i x σ' H6 hx ⟨⟨v,rfl⟩,S6,eL⟩
      obtain⟨hi,rfl⟩:=Fo hx
      have ev:atI (someN.map V.str) ((n0 / 3+(i:Int)) % 12)=some (.str (nm1 (n0 / 3) i)):=by
       unfold nm1
       have h1:=cQ (n0 / 3+(i:Int)) (show (12:Int)≠0 by decide)
       have h2:=cE (n0 / 3+(i:Int)) (show (0:Int)<12 by decide)
       generalize (n0 / 3+(i:Int)) % 12=j at h1 h2 ⊢
       obtain⟨q,rfl⟩:=c_ h1
       have hq:q<someN.length:=by show q<12;omega
       refine Ht (i:=q) ?_
       rw [aE,am hq,aB,bK,am hq]
       rfl
      refine⟨by decide,_,_,.inl (SqL.of (S6 _ _ el5)),ev,?_⟩
      refine⟨_,eL,?_,⟨_,rfl⟩,S6.set hL,?_⟩
      ·rw [ai,ai,d8];omega
      ·rw [Ad,ie,bg,bg];rfl
     ·rintro σ' H6 ⟨_,S6,eL⟩
      rw [Cm] at eL
      have N:=a85 (n0 / 3)
      exact (k _ _ _ (S15.trans S6) eL (N.nd hm) (N.ok hm).1 (N.ok hm).2.1 (N.ok hm).2.2)
    ·refine⟨by decide,⟨by decide,by decide⟩,by omega,?_⟩
     have a0:0<=n0 / 3 % 12/\n0 / 3 % 12<12:=by omega
     have p1:=cQ (n0 / 3 / 12) (show 12 - n0 / 3 % 12≠0 by omega)
     have p2:=cE (n0 / 3 / 12) (show 0<12 - n0 / 3 % 12 by omega)
     generalize n0 / 3 % 12=A at a0 p1 p2 ⊢
     generalize n0 / 3 / 12 % (12 - A)=B at p1 p2 ⊢
     obtain⟨a,rfl⟩:=c_ a0.1
     obtain⟨b0,rfl⟩:=c_ p1
     have ha:a<12:=by omega
     have hb1:a<a+1+b0:=by omega
     have hb2:a+1+b0<=12:=by omega
     have eb:(a:Int)+1+(b0:Int)=((a+1+b0:Nat):Int):=by omega
     generalize hb:a+1+b0=b at hb1 hb2 eb
     refine⟨(show 0<=sizeLine by decide),fun f hf=>⟨⟨by omega,by omega⟩,?_⟩⟩
     rw [bK]
     refine C3 (Dc 0 m) (fun i σ' H'=>(∃ v6 v10,σ'=[some (.int c),some (.int (m:Int)),some (.str alpha),some (.ref l),some (.int (n0 / 3)),some (.ref D),v6,some (.int (a:Int)),some (.int ((a:Int)+1+(b0:Int))),some (.ref f),v10])/\Same H5 H'/\H' f=some (.lst (((bC i).map (nm2 cs a b (Iw c (41+a)))).map V.str))) ⟨⟨_,_,rfl⟩,Same.upd hf,Ad⟩ (fun _ _ _ _ _=>bD) ?_ ?_
     ·rintro i x σ' H6 hx ⟨⟨v6,v10,rfl⟩,S6,eL⟩
      obtain⟨hi,rfl⟩:=Fo hx
      refine⟨c,41+a,(by rw [cv];rfl),by omega,fun r _ er=>⟨.inl ⟨by decide,by decide⟩,by decide,N8,_,at6 (r+5 * (i:Int)),?_⟩⟩
      subst er
      refine⟨.inl ⟨rfl,_,SqL.of eL⟩,rfl,.inl ⟨_,SqL.of (S6 _ _ e3),fun p hp=>?_⟩⟩
      rw [Tv]
      have T1:=Same.upd (o:=.lst ((cs.take a).map fun c=>V.str (D5 c))) hp
      have f1:upd H6 p (.lst ((cs.take a).map fun c=>V.str (D5 c))) p=some (.lst ((cs.take a).map fun c=>V.str (D5 c))):=Ad
      generalize upd H6 p (.lst ((cs.take a).map fun c=>V.str (D5 c)))=H7 at T1 f1 ⊢
      refine⟨(show 1<=sizeLine by decide),fun q hq=>.inl ⟨p,q,_,_,rfl,rfl,(Same.upd hq) _ _ f1,Ad,?_,fun p2 hp2=>?_⟩⟩
      ·rw [ai,bj];show _+1<=_;omega
      have T2:=T1.trans ((Same.upd (o:=.lst [.str ⟨#[al (Iw c (41+a)+5 * (i:Int))]⟩]) hq).trans (Same.upd (o:=.lst ((cs.take a).map (fun c=>V.str (D5 c))++[.str ⟨#[al (Iw c (41+a)+5 * (i:Int))]⟩])) hp2))
      have f2:upd (upd H7 q (.lst [.str ⟨#[al (Iw c (41+a)+5 * (i:Int))]⟩])) p2 (.lst ((cs.take a).map (fun c=>V.str (D5 c))++[.str ⟨#[al (Iw c (41+a)+5 * (i:Int))]⟩])) p2=some (.lst ((cs.take a++[al (Iw c (41+a)+5 * (i:Int))]).map fun c=>V.str (D5 c))):=by rw [Ad,bg];rfl
      generalize upd (upd H7 q (.lst [.str ⟨#[al (Iw c (41+a)+5 * (i:Int))]⟩])) p2 (.lst ((cs.take a).map (fun c=>V.str (D5 c))++[.str ⟨#[al (Iw c (41+a)+5 * (i:Int))]⟩]))=H8 at T2 f2 ⊢
      refine .inl ⟨_,SqL.of (T2 _ _ (S6 _ _ e3)),fun p3 hp3=>?_⟩
      have e2:=aj8 (fun c=>V.str (D5 c)) cs (a+1) b
      rw [cv,<- eb] at e2
      have e2:Fv (cs.map fun c=>V.str (D5 c)) (some ((a:Int)+1)) (some ((a:Int)+1+(b0:Int)))=_:=e2
      rw [e2]
      refine .inl ⟨p2,p3,_,_,rfl,rfl,(Same.upd hp3) _ _ f2,Ad,?_,fun p4 hp4=>?_⟩
      ·rw [ai,ai,av,bj,bj,eX,bQ];omega
      refine⟨"", p4,((cs.take a++[al (Iw c (41+a)+5 * (i:Int))])++(cs.drop (min (a+1) cs.length)).take (min b cs.length - min (a+1) cs.length)).map D5,rfl,rfl,?_,?_,?_⟩
      ·refine SqL.of ?_
       rw [Ad,<- bg,cr];rfl
      ·rw [Pg,ai,show ("" : Str).length=0 by decide +kernel,av,av,bj,bj,eX,bQ];omega
      rw [join_ones]
      have T3:=T2.trans (Same.upd (o:=.lst (((cs.drop (min (a+1) cs.length)).take (min b cs.length - min (a+1) cs.length)).map fun c=>V.str (D5 c))) hp3)
      refine⟨f,_,_,rfl,rfl,(Same.upd hp4) _ _ (T3 _ _ eL),?_,⟨_,_,rfl⟩,(S6.trans (T3.trans (Same.upd hp4))).set hf,?_⟩
      ·rw [ai,ai,d8];omega
      ·rw [Ad,ie,bg,bg];rfl
     ·rintro σ' H6 ⟨⟨v6,v10,rfl⟩,S6,eL⟩
      rw [Cm] at eL
      have N:=a86 lc ha hb1 hb2 (Iw c (41+a))
      exact .inl (k _ _ _ (S15.trans S6) eL (N.nd hm) (N.ok hm).1 (N.ok hm).2.1 (N.ok hm).2.2)
end
theorem Ho (R:Rs):∀ n,wyN n R "" = []
 | 0=>rfl
 | n+1=>if_pos rfl
theorem Zl (R:Rs):∀ zs:List Str,Fl (zs.map (stD R))=true
 | []=>rfl
 | z::zs=>by
  show (noL (stD R z)&&Fl (zs.map (stD R)))=true
  rw [Zl R zs,lh]
  rfl
section
variable {P:aI} {w:bp} {K:ae} {mg:Str->Option Value} {base:Heap} {t:Adr}
theorem ba9 {f:Addr} {fd:au} (Z:An K t) (F:FunD K "_law_path" "_law_path" Jx f fd .none) (T:Tab P w K mg base 0 (By K t) bl):FnOk P w K mg base CX0 1 f fd N0 (R6 K t):=by
 refine F.okW0 bn3 br0 T (bk0 K t) (fun vs H Q E h=>?_) (fun vs H Q E h=>?_)
 ·obtain⟨d,R,z,rfl,_⟩:=h;rfl
 ·obtain⟨d,R,z,rfl,hR,T,hz,k⟩:=h
  refine⟨(show 0<=sizeLine by decide),fun l hl=>?_⟩
  obtain⟨ht,h12,hup⟩:=T.tr.up
  refine⟨fun n σ H'=>∃ y zs ys,(∃ v3 v4 v5 v6,σ=[some (.ref d),some (.str y),some (.ref l),v3,v4,v5,v6])/\Same H H'/\H' l=some (.lst ys)/\AtL K H' (zs.map (stD R)) ys/\wyS R z=wyN n R y++zs/\zs.length+n<=12/\(y = "" \/ has R y=true)/\12 - ht y<=n,
   ⟨12,z,[],[],⟨_,_,_,_,rfl⟩,Same.upd hl,Ad,A9,(dB _).symm,by decide,.inr hz,by omega⟩,?_⟩
  rintro n σ H1 ⟨y,zs,ys,⟨v3,v4,v5,v6,rfl⟩,S1,el,hys,ew,lz,hy,hn⟩
  show if (!decide (y = ""))=true then _ else _
  by_cases y0:y = ""
  ·rw [decide_eq_true y0]
   refine⟨ys,.inl ⟨SqL.of el,fun a ha=>k _ a (S1.trans (Same.upd ha)) ?_⟩⟩
   rw [y0,Ho,ic] at ew
   unfold Cb
   rw [ew]
   exact Fc (SqT.of Ad) (Dw (Same.upd ha) hys)
  ·rw [decide_eq_false y0]
   have hy:=hy.resolve_left y0
   have hn1:=h12 y
   cases n with
   | zero=>omega
   | succ n=>
   obtain⟨q,c2,dg,hq,_⟩:=(hR.up S1).get hy
   have er:wyN (n+1) R y=wyN n R (Aq R y).pr++[y]:=if_neg y0
   have up:=hup y _ (A0 hy)
   refine⟨fun σ H'=>∃ v3 v4 v5 v6 ys,σ=[some (.ref d),some (.str (Aq R y).pr),some (.ref l),v3,v4,v5,v6]/\Same H H'/\H' l=some (.lst ys)/\AtL K H' ((y::zs).map (stD R)) ys,?_,?_⟩
   ·rintro σ' H' ⟨v3,v4,v5,v6,ys',rfl,S',el',ay⟩
    refine⟨n,cK n,_,y::zs,ys',⟨_,_,_,_,rfl⟩,S',el',ay,?_,by rw [aP];omega,?_,by omega⟩
    ·rw [ew,er,cN];rfl
    ·rcases T.hd y _ (A0 hy) with e|⟨q,e,_⟩
     ·exact .inl e
     ·exact .inr (Bh e)
   ·refine⟨_,dg,_,hq,rfl,.inl ⟨rfl,_,SqL.of el⟩,(show 3<=sizeLine by decide),fun b hb=>?_⟩
    have Sb:=Same.upd (o:=.tup [.int (Aq R y).rk,.str y,.str (Aq R y).kd]) hb
    have eb:upd H1 b (.tup [.int (Aq R y).rk,.str y,.str (Aq R y).kd]) b=some (.tup [.int (Aq R y).rk,.str y,.str (Aq R y).kd]):=Ad
    generalize upd H1 b (.tup [.int (Aq R y).rk,.str y,.str (Aq R y).kd])=H2 at Sb eb ⊢
    have el2:=Sb _ _ el
    have TK:TKeep K H2 (upd H2 l (.lst (.ref b::ys))):=TKeep.lst el2
    have ly:=hys.length
    rw [ai] at ly
    refine⟨l,ys,.ref b,0,rfl,rfl,el2,bA _,bX (show ys.length<=12 by omega) (by decide),_,_,_,_,.ref b::ys,rfl,(S1.trans Sb).set hl,Ad,?_⟩
    exact Ap (Fc (TK _ _ (SqT.of eb)) (Ap (C5 rfl) (Ap B7 (Ap B7 A9)))) (Dl TK (Zl R zs) (Dw Sb hys))
end
noncomputable def ltW (f:Str->Int):List Str->List Str->Bool
 | [],[]=>false
 | [],_::_=>true
 | _::_,[]=>false
 | a::as,b::bs=>if a=b then ltW f as bs else ltK f a b
section
variable {f:Str->Int} {R:Rs}
theorem Ug {a b:Str} (h:a≠b):ltK f a b = !ltK f b a:=
 (F7 (kf:=f) (zs:=[a,b]) (by simp [h])).tot a (by simp) b (by simp) h
theorem Iq (a:Str):ltK f a a=false:=by
 unfold ltK
 rw [if_pos rfl]
 unfold ltS
 exact decide_eq_false (kD _)
theorem a82 {a b c:Str} (h1:ltK f a b=true) (h2:ltK f b c=true):a≠c/\ltK f a c=true:=by
 have ab:a≠b:=fun e=>by rw [e,Iq] at h1;cases h1
 have bc:b≠c:=fun e=>by rw [e,Iq] at h2;cases h2
 have ac:a≠c:=fun e=>by rw [Ug ab,e,h2] at h1;cases h1
 exact⟨ac,(F7 (kf:=f) (zs:=[a,b,c]) (by simp [ab,bc,ac])).tr a (by simp) b (by simp) c (by simp) h1 h2⟩
theorem Uh:∀ {l m:List Str},l≠m->ltW f l m = !ltW f m l
 | [],[],h=>absurd rfl h
 | [],_::_,_=>rfl
 | _::_,[],_=>rfl
 | a::as,b::bs,h=>by
  unfold ltW
  by_cases e:a=b
  ·subst e
   rw [if_pos rfl,if_pos rfl]
   exact Uh fun c=>h (by rw [c])
  ·rw [if_neg e,if_neg (bZ e)]
   exact Ug e
theorem Y7:∀ {l m n:List Str},ltW f l m=true->ltW f m n=true->ltW f l n=true
 | [],_,[],h1,h2=>by
  rename_i m
  cases m <;> unfold ltW at h2 <;> first|exact h2|cases h2
 | [],_,_::_,_,_=>rfl
 | _::_,[],_,h1,_=>by unfold ltW at h1;cases h1
 | _::_,_::_,[],_,h2=>by unfold ltW at h2;cases h2
 | a::as,b::bs,c::cs,h1,h2=>by
  unfold ltW at h1 h2 ⊢
  by_cases e:a=b
  ·subst e
   rw [if_pos rfl] at h1
   by_cases e2:a=c
   ·rw [if_pos e2] at h2 ⊢
    exact Y7 h1 h2
   ·rw [if_neg e2] at h2 ⊢
    exact h2
  ·rw [if_neg e] at h1
   by_cases e2:b=c
   ·subst e2
    rw [if_neg e]
    exact h1
   ·rw [if_neg e2] at h2
    have:=a82 h1 h2
    rw [if_neg this.1]
    exact this.2
theorem Mc {l m:List Str}:∀ p:List Str,ltW f (p++l) (p++m)=ltW f l m
 | []=>rfl
 | a::p=>by
  rw [cx,cx]
  show (if a=a then _ else _)=_
  rw [if_pos rfl,Mc p]
theorem Po {ht:Str->Nat} (h12:∀ z,ht z<12) (up:∀ z r,get R z=some r->ht z<ht r.pr) (hd:a27 R):∀ {k:Nat} {y:Str},(y = "" \/ has R y=true)->12 - ht y<=k->wyN (k+1) R y=wyN k R y
 | 0,y,h,hk=>by
  have:=h12 y
  omega
 | k+1,y,h,hk=>by
  by_cases e:y = ""
  ·rw [e,Ho,Ho]
  ·have hy:=h.resolve_left e
   show (if y = "" then _ else wyN (k+1) R (Aq R y).pr++[y])=if y = "" then _ else wyN k R (Aq R y).pr++[y]
   rw [if_neg e,if_neg e]
   have u:=up y _ (A0 hy)
   rw [Po h12 up hd (k:=k) ((hd y _ (A0 hy)).imp id fun⟨_,g,_⟩=>Bh g) (by omega)]
theorem Pp (T:TrC R) {n c:Str} (h:c∈chS R n):wyS R c=wyS R n++[c]:=by
 obtain⟨hc,hp⟩:=ch_mem.mp h
 obtain⟨ht,h12,up⟩:=T.tr.up
 have c0:c ≠ "" := fun e=>T.tr.ne (e▸mem_keys.mpr hc)
 have u:=up c _ (A0 hc)
 rw [hp] at u
 unfold wyS
 show (if c = "" then _ else wyN 11 R (Aq R c).pr++[c])=_
 rw [if_neg c0,hp]
 have hn:n = "" \/ has R n=true:=by
  have:=T.hd c _ (A0 hc)
  rw [hp] at this
  exact this.imp id fun⟨_,g,_⟩=>Bh g
 rw [Po h12 up T.hd (k:=11) hn (by omega)]
theorem ah5 (T:TrC R) {a b:Str} (ha:has R a=true) (hb:has R b=true) (e:wyS R a=wyS R b):a=b:=by
 have ea:=Pp T (ch_mem.mpr ⟨ha,rfl⟩)
 have eb:=Pp T (ch_mem.mpr ⟨hb,rfl⟩)
 rw [ea,eb] at e
 have:=congrArg List.getLast? e
 rw [ko,ko] at this
 exact aV this
theorem Hl (T:TrC R):∀ {k:Nat} {d:Int} {n:Str} {w:Int×Str},w∈pre (chS R) k d n -> ∃ c∈chS R n,∃ r,wyS R w.2=wyS R n++c::r/\w.1=d+(r.length:Int)
 | 0,d,n,w,m=>by cases m
 | k+1,d,n,w,m=>by
  unfold pre at m
  obtain⟨c,hc,m⟩:=List.mem_flatMap.mp m
  have ec:=Pp T hc
  rcases List.mem_cons.mp m with rfl|m
  ·exact⟨c,hc,[],ec,(Int.add_zero d).symm⟩
  ·obtain⟨c2,hc2,r,e,ed⟩:=Hl T m
   refine⟨c,hc,c2::r,by rw [e,ec,cN];rfl,?_⟩
   rw [ed,aP,cv]
   show d+1+(r.length:Int)=d+((r.length:Int)+1)
   omega
theorem aj7 (T:TrC R) (n:Str):(chS R n).Pairwise fun a b=>ltK (rkf R) a b=true:=by
 unfold chS Fm
 exact (C7 (F7 T.tr.nd)).sublist kM
theorem O4 (T:TrC R):∀ (k:Nat) (d:Int) (n:Str),((pre (chS R) k d n).map (·.2)).Pairwise fun a b=>ltW (rkf R) (wyS R a) (wyS R b)=true
 | 0,d,n=>i6
 | k+1,d,n=>by
  unfold pre
  rw [fT]
  refine List.pairwise_flatMap.mpr ⟨fun c hc=>?_,?_⟩
  ·rw [aK]
   refine List.pairwise_cons.mpr ⟨fun z hz=>?_,O4 T k _ c⟩
   obtain⟨w,hw,rfl⟩:=List.mem_map.mp hz
   obtain⟨c2,_,r,e,_⟩:=Hl T hw
   rw [e]
   have:=Mc (f:=rkf R) (l:=[]) (m:=c2::r) (wyS R c)
   rw [dB] at this
   exact this
  ·refine i5 ?_ (aj7 T n)
   intro a b ha hb ab x hx y hy
   have way:∀ {c x:Str},c∈chS R n->x∈((d,c)::pre (chS R) k (d+1) c).map (·.2) -> ∃ r,wyS R x=wyS R n++c::r:=fun {c x} hc m=>by
    rw [aK] at m
    rcases List.mem_cons.mp m with e|m
    ·exact⟨[],by rw [e];exact Pp T hc⟩
    ·obtain⟨w,hw,rfl⟩:=List.mem_map.mp m
     obtain⟨c2,_,r,e,_⟩:=Hl T hw
     exact⟨c2::r,by rw [e,Pp T hc,cN];rfl⟩
   obtain⟨r,ex⟩:=way ha hx
   obtain⟨r',ey⟩:=way hb hy
   rw [ex,ey,Mc]
   unfold ltW
   rw [if_neg (fun e=>by rw [e,Iq] at ab;cases ab)]
   exact ab
theorem Lc {ch:Str->List Str} {k:Nat} {d:Int} {n c:Str} (h:c∈ch n):c∈(pre ch (k+1) d n).map (·.2):=by
 unfold pre
 rw [fT]
 exact List.mem_flatMap.mpr ⟨c,h,bv⟩
theorem Lb {ch:Str->List Str} {h:Str->Nat} (S:E9 ch h):∀ {k:Nat} {d:Int} {n p c:Str},h n<k->p∈(pre ch k d n).map (·.2)->c∈ch p->c∈(pre ch k d n).map (·.2)
 | 0,d,n,p,c,hk,m,hc=>by cases m
 | k+1,d,n,p,c,hk,m,hc=>by
  unfold pre at m ⊢
  rw [fT] at m ⊢
  obtain⟨c0,h0,m⟩:=List.mem_flatMap.mp m
  have:=S _ _ h0
  refine List.mem_flatMap.mpr ⟨c0,h0,?_⟩
  rw [aK] at m ⊢
  refine aC _ ?_
  rcases List.mem_cons.mp m with e|m
  ·rw [e] at hc
   cases k with
   | zero=>omega
   | succ k=>exact Lc hc
  ·exact Lb S (by omega) m hc
theorem Um (T:TrC R) {h:Str->Nat} (h12:∀ z,h z<12) (up:∀ z r,get R z=some r->h z<h r.pr):∀ (m:Nat) {z:Str},12 - h z<=m->has R z=true->z∈(Cl R "").map (·.2)
 | 0,z,hm,hz=>by
  have:=h12 z
  omega
 | m+1,z,hm,hz=>by
  have S:E9 (chS R) h:=fun n c hc=>by
   have:=up c _ (A0 (ch_mem.mp hc).1)
   rw [(ch_mem.mp hc).2] at this
   exact this
  have mz:z∈chS R (Aq R z).pr:=ch_mem.mpr ⟨hz,rfl⟩
  have u:=up z _ (A0 hz)
  rcases T.hd z _ (A0 hz) with e|⟨q,e,_⟩
  ·rw [e] at mz
   exact Lc mz
  ·exact Lb S (h12 "") (Um T h12 up m (by omega) (Bh e)) mz
theorem Zx (T:TrC R):((Cl R "").map (·.2)).Perm (keys R):=by
 obtain⟨h,h12,up⟩:=T.tr.up
 refine (List.perm_ext_iff_of_nodup (Ul T.tr) T.tr.nd).mpr fun z=>⟨fun m=>mem_keys.mpr (Ez m),fun m=>Um T h12 up 12 (by omega) (mem_keys.mp m)⟩
theorem Sz (T:TrC R):OrdL (fun a b=>ltW (rkf R) (wyS R a) (wyS R b)) (keys R) where
 nd:=T.tr.nd
 tot:=fun a ha b hb ne=>Uh fun e=>ne (ah5 T (mem_keys.mp ha) (mem_keys.mp hb) e)
 tr:=fun a _ b _ c _ h1 h2=>Y7 h1 h2
theorem V2 (T:TrC R):Ak (fun a b=>ltW (rkf R) (wyS R a) (wyS R b)) (keys R)=(Cl R "").map (·.2):=
 E2 ((Sz T).of (fun a ha=>(Am _ _).mem_iff.mp ha) (((Am _ _).nodup_iff).mpr T.tr.nd)) ((Am _ _).trans (Zx T).symm) (C7 (Sz T)) (O4 T 12 1 "")
theorem Qo (T:TrC R) {w:Int×Str} (h:w∈Cl R ""):w.1=((wyS R w.2).length:Int):=by
 obtain⟨c,_,r,e,d⟩:=Hl T h
 rw [e,d,show wyS R "" = [] from Ho R 12]
 show 1+(r.length:Int)=((r.length+1:Nat):Int)
 omega
theorem Dx (a b:Str):eqV (.str a) (.str b)=decide (a=b):=by
 show (a==b)=_
 by_cases e:a=b
 ·rw [decide_eq_true e,e];exact beq_self_eq_true b
 ·rw [decide_eq_false e];exact beq_eq_false_iff_ne.mpr e
theorem a17 (a b:Str):deq (stD R a) (stD R b)=decide (a=b):=by
 unfold stD Kf B4
 unfold deq
 unfold B0
 unfold B0
 unfold B0
 unfold B0
 unfold deq
 rw [Dx,Dx]
 by_cases e:a=b
 ·subst e
  show ((_==_)&&_)=_
  simp
 ·rw [decide_eq_false e]
  simp
theorem b41 {a b:Str} (h:a≠b):dlt (stD R a) (stD R b)=ltK (rkf R) a b:=by
 unfold stD Kf B4
 unfold dlt
 unfold Fx
 unfold ltK rkf
 by_cases e:(Aq R a).rk=(Aq R b).rk
 ·rw [if_pos e,if_pos (by unfold deq;show (_==_)=true;rw [e];simp)]
  unfold Fx
  rw [if_neg (by unfold deq;rw [Dx,decide_eq_false h];simp)]
  unfold dlt
  rfl
 ·rw [if_neg e,if_neg (by unfold deq;show ¬ (_==_)=true;simpa using e)]
  unfold dlt
  rfl
theorem bo3 (a b:Str):E4 (stD R a) (stD R b)=true:=by
 unfold stD Kf B4
 rfl
theorem U5:∀ l m:List Str,Ob (l.map (stD R)) (m.map (stD R))=true
 | [],m=>by unfold Ob;rfl
 | _::_,[]=>by unfold Ob;rfl
 | a::l,b::m=>by
  show (E4 (stD R a) (stD R b)&&Ob (l.map (stD R)) (m.map (stD R)))=true
  rw [bo3,U5 l m]
  rfl
theorem af7:∀ l m:List Str,B0 (l.map (stD R)) (m.map (stD R))=decide (l=m)
 | [],[]=>by unfold B0;rfl
 | [],_::_=>by unfold B0;rfl
 | _::_,[]=>by unfold B0;rfl
 | a::l,b::m=>by
  show (deq (stD R a) (stD R b)&&B0 (l.map (stD R)) (m.map (stD R)))=_
  rw [a17,af7 l m]
  by_cases e:a=b <;> by_cases e2:l=m <;> simp [e,e2]
theorem af8:∀ l m:List Str,Fx (l.map (stD R)) (m.map (stD R))=ltW (rkf R) l m
 | [],[]=>rfl
 | [],_::_=>rfl
 | _::_,[]=>rfl
 | a::l,b::m=>by
  show (if deq (stD R a) (stD R b)=true then Fx (l.map (stD R)) (m.map (stD R)) else dlt (stD R a) (stD R b))=if a=b then ltW (rkf R) l m else ltK (rkf R) a b
  rw [a17,af8 l m]
  by_cases e:a=b
  ·rw [if_pos e,if_pos (decide_eq_true e)]
  ·rw [if_neg e,if_neg (by rw [decide_eq_false e];simp),b41 e]
theorem ap1 (a b:Str):E4 (Cb R a) (Cb R b)=true:=by
 unfold Cb
 exact U5 _ _
theorem be6 (T:TrC R) {a b:Str} (ha:has R a=true) (hb:has R b=true) (h:a≠b):deq (Cb R a) (Cb R b)=false:=by
 unfold Cb
 exact (af7 _ _).trans (decide_eq_false fun e=>h (ah5 T ha hb e))
theorem Z3 (a b:Str):dlt (Cb R a) (Cb R b)=ltW (rkf R) (wyS R a) (wyS R b):=by
 unfold Cb
 exact af8 _ _
theorem ap2 (a:Str):dep (Cb R a)<=20:=by
 unfold Cb dep
 have:∀ l:List Str,Bx (l.map (stD R))<=1:=fun l=>Lz fun d hd=>by
  obtain⟨z,_,rfl⟩:=List.mem_map.mp hd
  exact ah 1
 have:=this (wyS R a)
 omega
theorem Os {α β:Type} (g:α->β) (lt:β->β->Bool) (z:α):∀ ys:List α,(L9 (fun a b=>lt (g a) (g b)) z ys).map g=L9 lt (g z) (ys.map g)
 | []=>rfl
 | y::ys=>by
  rw [aK]
  unfold L9
  split
  ·rw [aK,aK]
  ·rw [aK,Os g lt z ys]
theorem Pe {α β:Type} (g:α->β) (lt:β->β->Bool):∀ zs:List α,(Ak (fun a b=>lt (g a) (g b)) zs).map g=Ak lt (zs.map g)
 | []=>rfl
 | z::zs=>by
  rw [aK]
  unfold Ak
  rw [Os,Pe g lt zs]
theorem Qt {α β:Type} (g:α->β):∀ {zs:List α},(zs.map g).Nodup->zs.Nodup /\ ∀ a∈zs,∀ b∈zs,g a=g b->a=b
 | [],_=>⟨dW,fun a ha=>by cases ha⟩
 | z::zs,h=>by
  rw [aK] at h
  have ⟨h1,h2⟩:=List.nodup_cons.mp h
  have ⟨i1,i2⟩:=Qt g h2
  refine⟨List.nodup_cons.mpr ⟨fun m=>h1 (bB m),i1⟩,fun a ha b hb e=>?_⟩
  rcases List.mem_cons.mp ha with ea|ma <;> rcases List.mem_cons.mp hb with eb|mb
  ·rw [ea,eb]
  ·refine absurd ?_ h1
   rw [<- ea,e]
   exact bB mb
  ·refine absurd ?_ h1
   rw [<- eb,<- e]
   exact bB ma
  ·exact i2 a ma b mb e
theorem an8 {α β:Type} (g:α->β) {lt:β->β->Bool} {zs:List α} (o:OrdL lt (zs.map g)):OrdL (fun a b=>lt (g a) (g b)) zs:=by
 have ⟨nd,inj⟩:=Qt g o.nd
 exact⟨fun a ha b hb ne=>o.tot _ (bB ha) _ (bB hb) fun e=>ne (inj a ha b hb e),fun a ha b hb c hc=>o.tr _ (bB ha) _ (bB hb) _ (bB hc),nd⟩
end
theorem Zk (R:Rs) (z:Str):noL (Cb R z)=true:=Zl R _
section
variable {P:aI} {w:bp} {K:ae} {mg:Str->Option Value} {base:Heap} {t:Adr}
noncomputable def PdAt (K:ae) (H:Hp) (R:Rs) (ds:List (Str×Addr)):Prop:=∀ d∈ds,∃ a,H d.2=some (.tup [.ref a,.str d.1])/\At K H (Cb R d.1) (.ref a)
theorem PdAt.up {H H':Hp} {R:Rs} {ds:List (Str×Addr)} (h:PdAt K H R ds) (S:Same H H'):PdAt K H' R ds:=fun d hd=>by
 obtain⟨a,e,q⟩:=h d hd
 exact⟨a,S _ _ e,Fs S q⟩
theorem PdAt.set {H:Hp} {l:Addr} {xs ys:List V} {R:Rs} {ds:List (Str×Addr)} (h:PdAt K H R ds) (e:H l=some (.lst xs)):PdAt K (upd H l (.lst ys)) R ds:=fun d hd=>by
 obtain⟨a,e2,q⟩:=h d hd
 refine⟨a,?_,Kl (TKeep.lst e) (Zk R _) q⟩
 rw [Ah (fun c=>by rw [c,e] at e2;cases e2)]
 exact e2
theorem ba1 {f:Addr} {fd:au} (Z:An K t) (F:FunD K "_law_lines" "_law_lines" Jq f fd .none) (T:Tab P w K mg base 1 (Fg K t) bl):FnOk P w K mg base CX0 2 f fd Nr (J5 K t):=by
 refine F.okW0 bm6 bq3 T (bj3 K t) (fun vs H Q E h=>?_) (fun vs H Q E h=>?_)
 ·obtain⟨d,R,rfl,_⟩:=h;rfl
 ·obtain⟨d,R,rfl,hR,T,k⟩:=h
  refine .inr (.inr (bx5 hR fun o kvs H1 S1 ed g=>fun L hL=>?_))
  have kn:=g.names
  refine Cs (a23 kvs) (fun i σ' H'=>(∃ v,σ'=[v,some (.ref d)])/\Same H1 H' /\ ∃ ds,H' L=some (.lst (ds.map fun d=>V.ref d.2))/\ds.map (·.1)=(keys R).take i/\PdAt K H' R ds) ⟨⟨_,rfl⟩,Same.upd hL,[],Ad,List.take_zero.symm,fun d hd=>by cases hd⟩ (fun i σ' H' _ h=>h.2.1 _ _ ed) ?_ ?_
  ·rintro i x σ' H3 hx ⟨⟨v,rfl⟩,S3,ds,eL,kd,pd⟩
   rw [kn,aE] at hx
   obtain⟨y,hy,rfl⟩:=Option.map_eq_some_iff.mp hx
   have hi:i<(keys R).length:=(List.getElem?_eq_some_iff.mp hy).1
   have ll:=congrArg ia kd
   rw [ai,bj] at ll
   rw [A1] at hi
   have f8:=T.f8
   have hh:=mem_keys.mp (aX hy)
   refine⟨d,R,y,rfl,⟨kvs,.inr ⟨o,S3 _ _ ed⟩,g.keep (TKeep.of S3)⟩,T,hh,fun H4 a S4 aa=>⟨(show 2<=sizeLine by decide),fun b hb=>?_⟩⟩
   have S5:=S4.trans (Same.upd (o:=.tup [.ref a,.str y]) hb)
   have eb:upd H4 b (.tup [.ref a,.str y]) b=some (.tup [.ref a,.str y]):=Ad
   have aa5:=Fs (Same.upd (o:=.tup [.ref a,.str y]) hb) aa
   generalize upd H4 b (.tup [.ref a,.str y])=H5 at S5 eb aa5 ⊢
   have eL5:=S5 _ _ eL
   refine⟨_,eL5,by rw [ai];exact bX (show ds.length<=8 by omega) (by decide),⟨_,rfl⟩,(S3.trans S5).set hL,ds++[(y,b)],by rw [Ad,bg];rfl,?_,?_⟩
   ·rw [bg,kd,cz,hy];rfl
   ·intro e he
    rcases List.mem_append.mp he with h|h
    ·exact (pd.up S5).set eL5 e h
    ·rw [List.mem_singleton.mp h]
     refine⟨a,?_,Kl (TKeep.lst eL5) (Zk R y) aa5⟩
     exact (Ah (fun (c:b=L)=>by rw [c,eL5] at eb;cases eb)).trans eb
  ·rintro σ' H3 ⟨_,S3,ds,eL,kd,pd⟩
   rw [ai,g.len,<- A1,dH] at kd
   have ll:=congrArg ia kd
   rw [ai,A1] at ll
   have f8:=T.f8
   have hs:∀ e∈ds,has R e.1=true:=fun e he=>mem_keys.mp (kd▸bB he)
   have od:OrdL (fun a b=>dlt (Cb R a) (Cb R b)) (ds.map (·.1)):=by
    rw [kd,show (fun a b=>dlt (Cb R a) (Cb R b))=fun a b=>ltW (rkf R) (wyS R a) (wyS R b) from funext fun a=>funext fun b=>Z3 a b]
    exact Sz T
   have oe:=an8 (fun (d:Str×Addr)=>d.1) od
   refine .inl (.inl (.inr ⟨L,ds,Cb R,rfl,SqL.of eL,fun e he=>?_,by rw [kd];exact T.tr.nd,by omega,fun a ha b hb=>⟨ap1 _ _,fun ne=>be6 T (hs a ha) (hs b hb) fun c=>ne ((Qt (fun (d:Str×Addr)=>d.1) od.nd).2 a ha b hb c)⟩,oe,fun D hD=>?_⟩))
   ·obtain⟨a,e1,e2⟩:=pd e he
    exact⟨a,_,rfl,e1,e2,ap2 _⟩
   have es:(Ak (ltE (Cb R)) ds).map (·.1)=(Cl R "").map (·.2):=by
    have:=Pe (fun (d:Str×Addr)=>d.1) (fun a b=>dlt (Cb R a) (Cb R b)) ds
    rw [kd,show (fun a b=>dlt (Cb R a) (Cb R b))=fun a b=>ltW (rkf R) (wyS R a) (wyS R b) from funext fun a=>funext fun b=>Z3 a b,V2 T] at this
    rw [<- this]
    rfl
   have pe:PdAt K H3 R (Ak (ltE (Cb R)) ds):=fun e he=>pd e ((Am _ _).mem_iff.mp he)
   have S4:=Same.upd (o:=.lst ((Ak (ltE (Cb R)) ds).map fun d=>V.ref d.2)) hD
   have eD:upd H3 D (.lst ((Ak (ltE (Cb R)) ds).map fun d=>V.ref d.2)) D=some (.lst ((Ak (ltE (Cb R)) ds).map fun d=>V.ref d.2)):=Ad
   generalize upd H3 D (.lst ((Ak (ltE (Cb R)) ds).map fun d=>V.ref d.2))=H4 at S4 eD ⊢
   have pe:=pe.up S4
   generalize Ak (ltE (Cb R)) ds=es' at es pe eD
   have S14:=S3.trans S4
   have hR4:RdAt K H4 d R:=⟨kvs,.inr ⟨o,S14 _ _ ed⟩,g.keep (TKeep.of S14)⟩
   have hp:∀ w∈Cl R "", has R w.2=true:=fun w hw=>Ez (bB hw)
   have lp:=Jc T.tr (n := "")
   refine .inl ⟨⟨_,SqL.of eD⟩,fun M hM=>?_⟩
   refine Cs (Bq (es'.map fun d=>V.ref d.2)) (fun i σ' H'=>(∃ v v2,σ'=[v,v2,some (.ref d)])/\Same H4 H' /\ ∃ ys,H' M=some (.lst ys)/\AtL K H' (((Cl R "").take i).map (lnD R)) ys) ⟨⟨_,_,rfl⟩,Same.upd hM,[],Ad,A9⟩ (fun i σ' H' _ h=>SqL.of (h.2.1 _ _ eD)) ?_ ?_
   ·rintro i x σ' H5 hx ⟨⟨v,v2,rfl⟩,S5,ys,eM,aM⟩
    rw [aE] at hx
    obtain⟨e,he,rfl⟩:=Option.map_eq_some_iff.mp hx
    have hw:((Cl R "").map (·.2))[i]? = some e.1:=by rw [<- es,aE,he];rfl
    rw [aE] at hw
    obtain⟨w,hw,ew⟩:=Option.map_eq_some_iff.mp hw
    have mw:=aX hw
    have hi:i<(Cl R "").length:=(List.getElem?_eq_some_iff.mp hw).1
    obtain⟨a,e1,e2⟩:=(pe.up S5) e (aX he)
    obtain⟨q,xs,qa,sq,al⟩:=aj3 (show At K H5 (.tup ((wyS R e.1).map (stD R))) (.ref a) from e2)
    cases qa
    have lx:=al.length
    rw [ai] at lx
    have hh:=hp w mw
    rw [ew] at hh
    obtain⟨q,y,dg,hq,hy,hc⟩:=(hR4.up S5).get hh
    refine⟨_,SqT.of e1,rfl,?_⟩
    refine .inl ⟨_,.inr sq,_,dg,_,_,.inr hq,rfl,_,dg,_,_,.inr hq,rfl,_,dg,_,_,.inr hq,rfl,(show 5<=sizeLine by decide),fun b hb=>?_⟩
    have S6:=Same.upd (o:=.tup [.int (xs.length:Int),.str e.1,.str (Aq R e.1).kd,.int (Aq R e.1).rk,y]) hb
    have eb:upd H5 b (.tup [.int (xs.length:Int),.str e.1,.str (Aq R e.1).kd,.int (Aq R e.1).rk,y]) b=some (.tup [.int (xs.length:Int),.str e.1,.str (Aq R e.1).kd,.int (Aq R e.1).rk,y]):=Ad
    generalize upd H5 b (.tup [.int (xs.length:Int),.str e.1,.str (Aq R e.1).kd,.int (Aq R e.1).rk,y])=H6 at S6 eb ⊢
    have eM6:=S6 _ _ eM
    have lM:=aM.length
    rw [ai,bj] at lM
    have TK:TKeep K H6 (upd H6 M (.lst (ys++[.ref b]))):=TKeep.lst eM6
    have ln:At K H6 (lnD R w) (.ref b):=by
     unfold lnD
     rw [Qo T mw,ew,<- lx]
     exact Fc (SqT.of eb) (Ap (C5 rfl) (Ap B7 (Ap B7 (Ap (C5 rfl) (Ap (Fs S6 hy) A9)))))
    refine⟨_,eM6,bX (show ys.length<=10 by omega) (by decide),⟨_,_,rfl⟩,(S5.trans S6).set hM,ys++[.ref b],Ad,?_⟩
    have n1:=Ip hR4 (ws:=(Cl R "").take (i+1)) fun w hw=>hp w (c7 hw)
    have a1:AtL K H6 (((Cl R "").take (i+1)).map (lnD R)) (ys++[.ref b]):=by
     rw [cz,hw,bg]
     exact Ha (Dw S6 aM) (Ap ln A9)
    exact Dl TK n1 a1
   ·rintro σ' H5 ⟨_,S5,ys,eM,aM⟩
    have le:(es'.map fun d=>V.ref d.2).length=(Cl R "").length:=by
     have:=congrArg ia es
     rw [ai,ai] at this
     rw [ai]
     exact this
    rw [le,dH] at aM
    exact k H5 M ys (S1.trans (Sm.of (S14.trans S5))) (S1.free (S14.free hM)) eM aM
end
theorem V1 (R:Rs) (i:Nat):keys (R.take i)=(keys R).take i:=by unfold keys;rw [lw]
theorem Z5 {R:Rs} (nd:(keys R).Nodup) {i:Nat} {z:Str} {r:Rc} (h:R[i]? = some (z,r)):De (R.take i) z r=R.take (i+1):=by
 have hz:(keys R)[i]? = some z:=by unfold keys;rw [aE,h];rfl
 have nh:has (R.take i) z=false:=by
  rw [fG]
  intro g
  have:=mem_keys.mpr g
  rw [V1] at this
  exact Gb nd hz this
 unfold De
 rw [Ev,nh,if_neg (by simp),cz,h]
 rfl
section
variable {P:aI} {w:bp} {K:ae} {mg:Str->Option Value} {base:Heap} {t:Adr}
theorem bb8 {H:Hp} {d:Addr} {S:Rs} {R:Obj->List (Key×V)->Hp->Prop} (h:RdAt K H d S) (k:∀ o kvs H2,Sm H H2->But d H H2->H2 d=some (.frz o (.dK kvs))->KvAt K H2 S kvs->R o kvs H2):onD d H R:=by
 obtain⟨kvs,e|⟨o,e⟩,g⟩:=h
 ·exact .inl ⟨kvs,e,fun o=>k o kvs _ (Sm.frz e) But.upd Ad (g.keep (Sm.frz e).tk)⟩
 ·exact .inr ⟨o,kvs,e,k o kvs H Sm.refl (fun _ _ _ e=>e) e g⟩
theorem PwAt.walk {H H2:Hp} {p d d0:Addr} {S R:Rs} (h:PwAt K t H p d S) (hR:RdAt K H d0 R) (ne:d≠d0) (B:But d0 H H2) (T:Sm H H2):PwAt K t H2 p d S:=by
 obtain⟨⟨dx,e⟩,kvs,ed,g⟩:=h
 refine⟨⟨dx,B _ _ (fun c=>?_) e⟩,kvs,B _ _ ne ed,g.keep T.tk⟩
 obtain⟨kvs2,e2|⟨o,e2⟩,_⟩:=hR
 ·rw [c,e2] at e;cases e
 ·rw [c,e2] at e;cases e
theorem Sm.but {H H2 H':Hp} {d:Addr} (S:Sm H H2) (B:But d H2 H') (h:H d=none):Sm H H':=fun b o e=>by
 have ne:b≠d:=fun c=>by rw [c,h] at e;cases e
 rcases S b o e with e2|⟨kvs,u,eo,e2⟩
 ·exact .inl (B _ _ ne e2)
 ·exact .inr ⟨kvs,u,eo,B _ _ ne e2⟩
theorem KvAt.nth {H:Hp}:∀ {S:Rs} {kvs:List (Key×V)} {i:Nat} {q:Key×V},KvAt K H S kvs->kvs[i]? = be q -> ∃ z r,S[i]? = be (z,r)/\q.1=.inr z/\RcAt K H r q.2
 | [],kvs,i,q,h,e=>by
  unfold KvAt at h
  rw [h] at e
  simp at e
 | (z,r)::S,kvs,i,q,h,e=>by
  unfold KvAt at h
  obtain⟨x,rest,rfl,h1,h2⟩:=h
  cases i with
  | zero=>
   cases e
   exact⟨z,r,rfl,rfl,h1⟩
  | succ i=>
   rw [cG] at e ⊢
   exact h2.nth e
theorem ba4 {f:Addr} {fd:au} (Z:An K t) (F:FunD K "_law_plain" "_law_plain" Jt f fd .none) (T:Tab P w K mg base 2 (Gn K t) bl):FnOk P w K mg base CX0 3 f fd Nw (J6 K t):=by
 refine F.okW0 bm9 bq6 T (bj6 K t) (fun vs H Q E h=>?_) (fun vs H Q E h=>?_)
 ·obtain⟨d0,R,rfl,_⟩:=h;rfl
 ·obtain⟨d0,R,rfl,hR,T,k⟩:=h
  intro p dxp hp0 hdxp nep
  refine⟨p,dxp,rfl,Ad,fun d hd0=>⟨rfl,?_⟩⟩
  obtain⟨hd,S1,hP1⟩:=ax6 (K:=K) (t:=t) hp0 hdxp nep hd0
  unfold Zh at S1 hP1
  generalize upd (upd (upd (upd H dxp (.own p)) p (.ins t.c_zbl dxp [])) d (.dK [])) p (.ins t.c_zbl dxp [("records", .ref d)])=H1 at S1 hP1 ⊢
  have hR1:=hR.up S1
  have ne:d≠d0:=bZ (hR.ne hd)
  refine bb8 hR1 fun o kvs H2 S2 B2 ed g=>?_
  have hP2:=hP1.walk hR1 ne B2 S2
  have S12:=(Sm.of S1).trans S2
  obtain⟨kv2,ed2,_⟩:=id hP2.2
  refine Tz (ah7 kvs) (fun i σ H'=>(∃ v2 v3,σ=[some (.ref d0),some (.ref p),v2,v3])/\But d H2 H'/\PwAt K t H' p d (R.take i)) ⟨⟨_,_,rfl⟩,(fun _ _ _ e=>e),hP2⟩ (fun i σ H' _ h=>h.2.1 _ _ (bZ ne) ed) ?_ ?_
  ·rintro i x y T2 σ H3 hx hT2 ⟨⟨v2,v3,rfl⟩,B3,hP3⟩
   rw [aE] at hx
   obtain⟨q,hq,e⟩:=Option.map_eq_some_iff.mp hx
   cases e
   obtain⟨z,r,hz,ez,hr⟩:=g.nth hq
   rw [ez]
   have S4:=Same.upd (o:=.tup [kV (.inr z),q.2]) hT2
   have e4:upd H3 T2 (.tup [kV (.inr z),q.2]) T2=some (.tup [.str z,q.2]):=Ad
   have hr4:=hr.keep ((B3.tk (K:=K) ed2).trans (TKeep.of S4))
   have hP4:=hP3.up S4
   generalize upd H3 T2 (.tup [kV (.inr z),q.2])=H4 at S4 e4 hr4 hP4 ⊢
   obtain⟨qa,y,eq,h1,h2,h3⟩:=hr4
   refine⟨_,SqT.of e4,rfl,?_⟩
   rw [eq]
   have l8:(R.take i).length<100:=by rw [bj];have:=T.f8;omega
   obtain⟨dx4,e5⟩:=id hP4.1
   refine⟨p,dx4,_,⟨t.c_zbl,On K t⟩,rfl,.head _,e5,rfl,⟨ah _,ah _⟩,_,_,.inr h1,rfl,_,_,.inr h1,rfl,_,_,.inr h1,rfl,_,_,.inr h1,rfl,⟨p,d,R.take i,z,r,y,rfl,hP4,l8,h2,h3,fun H5 B5 hR5=>⟨⟨_,_,rfl⟩,B3.trans ((But.of S4).trans B5),?_⟩⟩⟩
   have hP5:=hP4.but B5 hR5
   rw [Z5 T.tr.nd hz] at hP5
   exact hP5
  ·rintro σ H3 ⟨⟨v2,v3,rfl⟩,B3,hP3⟩
   rw [ai,g.len,dH] at hP3
   exact .inl (k H3 p d (S12.but B3 hd) (fun b v nb e=>B3 b v (fun c=>by rw [c,hd] at e;cases e) (B2 b v nb (S1 b v e))) hd hP3)
theorem Ue {H:Hp} {d:Addr} {R:Rs} (h:RdAt K H d R):dep (.lst ((Cl R "").map (lnD R)))<=40:=by
 unfold dep
 have:Bx ((Cl R "").map (lnD R))<=6:=Lz fun x hx=>by
  obtain⟨w,hw,rfl⟩:=List.mem_map.mp hx
  exact a64 (h.ct (Ez (bB hw)))
 omega
theorem Mb {H:Hp} {d:Addr} {R:Rs} (h:RdAt K H d R):Fl ((Cl R "").map (lnD R))=true:=Ip h fun w hw=>Ez (bB hw)
noncomputable def Pair (K:ae) (t:Adr) (H:Hp) (p d0:Addr):Prop:=∃ d S,PlAt K t H p d S/\RdAt K H d0 S/\TrC S
theorem Pair.sm {H H':Hp} {p d0:Addr} (h:Pair K t H p d0) (S:Sm H H'):Pair K t H' p d0:=by
 obtain⟨d,R,h1,h2,h3⟩:=h
 exact⟨d,R,h1.sm S,h2.sm S,h3⟩
theorem ba0 {f:Addr} {fd:au} (Z:An K t) (F:FunD K "_law_comes" "_law_comes" Jp f fd .none) (T:Tab P w K mg base 10 (Ua K t) bl):FnOk P w K mg base CX0 11 f fd Nq (G1 K t):=by
 refine F.okW0 bm5 bq2 T (bj2 K t) (fun vs H Q E h=>?_) (fun vs H Q E h=>?_)
 ·obtain⟨d1,d2,d3,l,E',O,U,R,ys,rfl,_⟩:=h;rfl
 ·obtain⟨d1,d2,d3,l,E',O,U,R,ys,rfl,h1,h2,h3,TE,TO,TU,T,C,el,al,k⟩:=h
  refine⟨d1,E',rfl,h1,TE,fun H1 p1 e1 M1 B1 f1 P1=>?_⟩
  have h21:=h2.sm M1
  refine⟨d2,O,rfl,h21,TO,fun H2 p2 e2 M2 B2 f2 P2=>?_⟩
  have M12:=M1.trans M2
  have h31:=h3.sm M12
  refine⟨d3,U,rfl,h31,TU,fun H3 p3 e3 M3 B3 f3 P3=>⟨(show 3<=sizeLine by decide),fun a ha=>?_⟩⟩
  have P1:=P1.walk h21 (bZ (h2.ne f1)) B2 M2
  have P1:=P1.walk h31 (bZ (h3.ne f1)) B3 M3
  have P2:=P2.walk h31 (bZ ((h3.sm M1).ne f2)) B3 M3
  have M13:=M12.trans M3
  have S4:=Same.upd (o:=.lst [.ref p1,.ref p2,.ref p3]) ha
  have e4:upd H3 a (.lst [.ref p1,.ref p2,.ref p3]) a=some (.lst [.ref p1,.ref p2,.ref p3]):=Ad
  have P1:=P1.up S4
  have P2:=P2.up S4
  have P3:=P3.up S4
  have M4:=M13.trans (Sm.of S4)
  generalize upd H3 a (.lst [.ref p1,.ref p2,.ref p3])=H4 at S4 e4 P1 P2 P3 M4 ⊢
  refine⟨_,_,.inl (SqL.of e4),rfl,_,_,.inl (SqL.of e4),rfl,_,_,.inl (SqL.of e4),rfl,?_⟩
  refine⟨p1,e1,p2,e2,p3,e3,E',O,U,R,rfl,P1,P2,P3,TE,TO,TU,T,C,fun H5 q p l0 d S S5 hd hq hl0 hP lk=>?_⟩
  refine⟨_,hq,rfl,(show 0<=sizeLine by decide),fun b hb=>?_⟩
  have S6:=S5.trans (Same.upd (o:=.lst []) hb)
  have e6:upd H5 b (.lst []) b=some (.lst []):=Ad
  have hl6:=Same.upd (o:=.lst []) hb _ _ hl0
  have hP6:=hP.up (Same.upd (o:=.lst []) hb)
  generalize upd H5 b (.lst [])=H6 at S6 e6 hl6 hP6 ⊢
  refine X5 (d:=.lst []) rfl rfl (Ea (SqL.of hl6) A9) (Ea (SqL.of e6) A9) (by decide) ?_
  have TS:=lk.trC T
  obtain⟨dx,ep⟩:=id hP6.1
  refine⟨p,dx,_,⟨t.c_zbl,al6 K t⟩,rfl,.head _,ep,rfl,⟨ah _,ah _⟩,⟨p,d,S,rfl,hP6.rd,TS.tr,fun H7 l7 ys7 S7 _ e7 a7=>?_⟩⟩
  rw [lk.pre T.tr,lk.ln] at a7
  have S47:=S6.trans S7
  have M7:=M4.trans (Sm.of S47)
  have hP7:=hP6.up S7
  have nR:=Mb hP7.2.rd
  rw [lk.pre T.tr,lk.ln] at nR
  have dR:=Ue hP7.2.rd
  rw [lk.pre T.tr,lk.ln] at dR
  have al7:=Dl M7.tk nR al
  refine X5 (d:=.lst ((Cl R "").map (lnD R))) rfl rfl (Ea (SqL.of e7) a7) (Ea (SqL.of (M7.lst el)) al7) dR ?_
  obtain⟨dx,ep⟩:=id hP7.1
  refine⟨p,dx,_,⟨t.c_zbl,Oo K t⟩,rfl,.head _,ep,rfl,⟨ah _,ah _⟩,⟨p,d,S,rfl,hP7.rd,TS.tr.nd,aL TS.tr.few (by decide),fun l8 hl8=>.inl ⟨⟨_,SqL.of Ad⟩,?_⟩⟩⟩
  have k8:(Ak ltS (keys S)).length<=8:=by rw [(Am _ _).length_eq,A1];exact TS.f8
  have S8:=Same.upd (o:=.lst ((Ak ltS (keys S)).map V.str)) hl8
  have e8:upd H7 l8 (.lst ((Ak ltS (keys S)).map V.str)) l8=some (.lst ((Ak ltS (keys S)).map V.str)):=Ad
  have hP8:=hP7.up S8
  have S48:=S47.trans S8
  generalize upd H7 l8 (.lst ((Ak ltS (keys S)).map V.str))=H8 at S8 e8 hP8 S48 ⊢
  generalize Ak ltS (keys S)=zs at k8 e8
  have n8:l8≠d:=fun c=>by obtain⟨kvs,ed,_⟩:=hP8.2;rw [c,ed] at e8;cases e8
  refine C3 (Bq (zs.map V.str)) (fun i σ H'=>(∃ v7,σ=[some (.ref d1),some (.ref d2),some (.ref d3),some (.ref l),some (.ref a),some (.ref p),some (.ref l0),v7,none,none])/\But d H8 H' /\ ∃ S',PwAt K t H' p d S'/\S'.length<=8+i)
   ⟨⟨_,rfl⟩,(fun _ _ _ e=>e),S,hP8,TS.f8⟩ (fun i σ H' _ h=>SqL.of (h.2.1 _ _ n8 e8)) ?_ ?_
  ·rintro i x σ H9 hx ⟨⟨v7,rfl⟩,B9,S',hP9,l9⟩
   rw [aE] at hx
   obtain⟨z,hz,rfl⟩:=Option.map_eq_some_iff.mp hx
   have hi:i<zs.length:=(List.getElem?_eq_some_iff.mp hz).1
   refine bu8 (z:=z) (r:=⟨"para", "", 3,B4 "gone"⟩) hP9 (by omega) B7 ⟨rfl,by decide⟩ fun H10 B10 hP10=>⟨⟨_,rfl⟩,B9.trans B10,_,hP10,?_⟩
   have:=Uo (S:=S') (z:=z) (r:=⟨"para", "", 3,B4 "gone"⟩)
   omega
  ·rintro σ H9 ⟨⟨v7,rfl⟩,B9,S',hP9,l9⟩
   have S49:Same H4 H9:=B9.same S48 hd
   have M9:=M4.trans (Sm.of S49)
   have Q1:Pair K t H9 p1 d1:=⟨e1,E',(P1.up S49).rd,h1.sm M9,TE⟩
   have Q2:Pair K t H9 p2 d2:=⟨e2,O,(P2.up S49).rd,h2.sm M9,TO⟩
   have Q3:Pair K t H9 p3 d3:=⟨e3,U,(P3.up S49).rd,h3.sm M9,TU⟩
   have e9:=S49 _ _ e4
   refine .inl ⟨(show 3<=sizeLine by decide),fun b9 hb9=>?_⟩
   have S10:=Same.upd (o:=.lst [.ref d1,.ref d2,.ref d3]) hb9
   have e10:upd H9 b9 (.lst [.ref d1,.ref d2,.ref d3]) b9=some (.lst [.ref d1,.ref d2,.ref d3]):=Ad
   have e9:=S10 _ _ e9
   have Q1:=Q1.sm (Sm.of S10)
   have Q2:=Q2.sm (Sm.of S10)
   have Q3:=Q3.sm (Sm.of S10)
   have M10:=M9.trans (Sm.of S10)
   generalize upd H9 b9 (.lst [.ref d1,.ref d2,.ref d3])=H10 at S10 e10 e9 Q1 Q2 Q3 M10 ⊢
   refine⟨⟨_,SqL.of e9⟩,⟨_,SqL.of e10⟩,?_⟩
   refine Tz (br9 [.ref p1,.ref p2,.ref p3] [.ref d1,.ref d2,.ref d3]) (fun i σ H'=>(∃ v8 v9,σ=[some (.ref d1),some (.ref d2),some (.ref d3),some (.ref l),some (.ref a),some (.ref p),some (.ref l0),v7,v8,v9])/\Sm H10 H')
    ⟨⟨_,_,rfl⟩,Sm.refl⟩ (fun i σ H' _ h=>⟨h.2.seqL (SqL.of e9),h.2.seqL (SqL.of e10)⟩) ?_ ?_
   ·rintro i x y T2 σ H11 hx hT2 ⟨⟨v8,v9,rfl⟩,M11⟩
    have S12:=Same.upd (o:=.tup [x,y]) hT2
    have e12:upd H11 T2 (.tup [x,y]) T2=some (.tup [x,y]):=Ad
    have M12:=M11.trans (Sm.of S12)
    generalize upd H11 T2 (.tup [x,y])=H12 at S12 e12 M12 ⊢
    obtain⟨pp,dd,rfl,rfl,Q⟩:∃ pp dd,x=.ref pp/\y=.ref dd/\Pair K t H12 pp dd:=by
     match i,hx with
     | 0,hx=>cases hx;exact⟨_,_,rfl,rfl,Q1.sm M12⟩
     | 1,hx=>cases hx;exact⟨_,_,rfl,rfl,Q2.sm M12⟩
     | 2,hx=>cases hx;exact⟨_,_,rfl,rfl,Q3.sm M12⟩
     | i+3,hx=>cases hx
    obtain⟨ds,Ss,hPs,hRs,Ts⟩:=Q
    obtain⟨dxs,es⟩:=id hPs.1
    refine⟨_,SqT.of e12,rfl,?_⟩
    refine⟨pp,dxs,_,⟨t.c_zbl,al6 K t⟩,rfl,.head _,es,rfl,⟨ah _,ah _⟩,⟨pp,ds,Ss,rfl,hPs,Ts.tr,fun H13 l13 y13 S13 _ e13 a13=>?_⟩⟩
    refine⟨dd,Ss,rfl,hRs.up S13,Ts,fun H14 l14 y14 M14 _ e14 a14=>?_⟩
    exact X5 (d:=.lst ((Cl Ss "").map (lnD Ss))) rfl rfl (Ea (M14.seqL (SqL.of e13)) (Dl M14.tk (Mb hRs) a13)) (Ea (SqL.of e14) a14) (Ue hRs) ⟨⟨_,_,rfl⟩,M12.trans ((Sm.of S13).trans M14)⟩
   ·rintro σ H11 ⟨⟨v8,v9,rfl⟩,M11⟩
    exact .inl (k H11 (M10.trans M11))
end
mutual
theorem at8:∀ {d d':Dt},ctS d=true->ctS d'=true->deq d d'=true->d=d'
 | .at_ v,.at_ v',h,h',e=>by
  cases v <;> first|(unfold ctS at h;cases h;done)|skip
  cases v' <;> first|(unfold ctS at h';cases h';done)|skip
  unfold deq at e
  rw [Dx] at e
  rw [of_decide_eq_true e]
 | .at_ _,.tup _,_,_,e=>by unfold deq at e;cases e
 | .at_ _,.lst _,_,h',_=>by unfold ctS at h';cases h'
 | .lst _,_,h,_,_=>by unfold ctS at h;cases h
 | .tup _,.at_ _,_,_,e=>by unfold deq at e;cases e
 | .tup _,.lst _,_,h',_=>by unfold ctS at h';cases h'
 | .tup l,.tup l',h,h',e=>by
  unfold ctS at h h'
  unfold deq at e
  rw [Yd h h' e]
theorem Yd:∀ {l l':List Dt},Fe l=true->Fe l'=true->B0 l l'=true->l=l'
 | [],[],_,_,_=>rfl
 | [],_::_,_,_,e=>by unfold B0 at e;cases e
 | _::_,[],_,_,e=>by unfold B0 at e;cases e
 | d::l,d'::l',h,h',e=>by
  unfold Fe at h h'
  unfold B0 at e
  rw [aA] at h h' e
  rw [at8 h.1 h'.1 e.1,Yd h.2 h'.2 e.2]
end
mutual
theorem Tu:∀ {d:Dt},ctS d=true->deq d d=true
 | .at_ v,h=>by
  cases v <;> first|(unfold ctS at h;cases h;done)|skip
  unfold deq
  rw [Dx]
  exact decide_eq_true rfl
 | .lst _,h=>by unfold ctS at h;cases h
 | .tup l,h=>by
  unfold ctS at h
  unfold deq
  exact Oc h
theorem Oc:∀ {l:List Dt},Fe l=true->B0 l l=true
 | [],_=>by unfold B0;rfl
 | d::l,h=>by
  unfold Fe at h
  unfold B0
  rw [aA] at h
  rw [Tu h.1,Oc h.2]
  rfl
end
theorem ac8 (r r':Rc):deq (rcD r) (rcD r')=(decide (r.kd=r'.kd)&&(decide (r.pr=r'.pr)&&(decide (r.rk=r'.rk)&&(deq r.ct r'.ct&&true)))):=by
 have e3:eqV (.int r.rk) (.int r'.rk)=decide (r.rk=r'.rk):=rfl
 show (eqV (.str r.kd) (.str r'.kd)&&(eqV (.str r.pr) (.str r'.pr)&&(eqV (.int r.rk) (.int r'.rk)&&(deq r.ct r'.ct&&true))))=_
 rw [Dx,Dx,e3]
theorem b02 {r r':Rc} (h:Fd r.ct) (h':Fd r'.ct) (e:deq (rcD r) (rcD r')=true):r=r':=by
 rw [ac8] at e
 simp only [aA,decide_eq_true_eq] at e
 obtain⟨e1,e2,e3,e4,_⟩:=e
 have e4:=at8 h.1 h'.1 e4
 cases r
 cases r'
 cases e1
 cases e2
 cases e3
 cases e4
 rfl
theorem ar1 {r:Rc} (h:Fd r.ct):deq (rcD r) (rcD r)=true:=by
 rw [ac8,Tu h.1]
 simp
theorem ar4:∀ n,n<63->fX 2 ((n:Nat):Int) 2=true/\(bJ 2 ((n:Nat):Int) 2).toNat<=40:=by decide +kernel
theorem ar3 {n i:Nat} {x:V} (h:(Ra 2 2 n)[i]? = some x) (hn:n<=40):∃ k:Nat,x=.int (k:Int)/\0<k/\k<=100:=by
 unfold Ra at h
 rw [aE] at h
 obtain⟨j,hj,rfl⟩:=Option.map_eq_some_iff.mp h
 have:j<n:=List.mem_range.mp (aX hj)
 exact⟨2+j * 2,by rw [cv,d7];rfl,by omega,by omega⟩
section
variable {P:aI} {w:bp} {K:ae} {mg:Str->Option Value} {base:Heap} {t:Adr}
theorem Qi {H:Hp} {d:Addr} {R:Rs} {z:Str} {r:Rc} (h:RdAt K H d R) (e:get R z=some r):Fd r.ct:=by
 have:=h.ct (Bh e)
 rw [ac9 e] at this
 exact this
theorem a57 {H:Hp} {d d':Addr} {E O:Rs} (hE:RdAt K H d E) (hO:RdAt K H d' O):Nd E O E O:=fun z=>by
 refine⟨.inr (.inr rfl),?_⟩
 unfold stl
 split
 ·rename_i e
  cases eo:get O z with
  | none=>
   cases ee:get E z with
   | none=>rfl
   | some r=>rw [eo,ee] at e;cases e
  | some r'=>
   cases ee:get E z with
   | none=>rw [eo,ee] at e;cases e
   | some r=>rw [eo,ee] at e;rw [b02 (Qi hO eo) (Qi hE ee) e]
 ·rfl
theorem a58 {H:Hp} {d:Addr} {E:Rs} (hE:RdAt K H d E) (O:Rs):Nd E E O O:=fun z=>by
 refine⟨.inr (.inl rfl),?_⟩
 unfold stl
 rw [if_pos]
 cases ee:get E z with
 | none=>rfl
 | some r=>exact ar1 (Qi hE ee)
theorem Ya (E O:Rs):Nd E O O O:=fun z=>by
 refine⟨.inl rfl,?_⟩
 unfold stl
 split <;> rfl
theorem bb7 {f:Addr} {fd:au} (Z:An K t) (F:FunD K "law" "law" Du f fd .none) (T:Tab P w K mg base 11 (Yr K t) bl):FnOk P w K mg base CX0 12 f fd N6 (M8 K t):=by
 refine F.okW0 bn9 br6 T (bk6 K t) (fun vs H Q E h=>?_) (fun vs H Q E h=>?_)
 ·obtain⟨a,ns,rfl,_⟩:=h;rfl
 ·obtain⟨a,ns,rfl,hS,n63,k⟩:=h
  refine⟨a,ns,0,rfl,hS,fun c0=>⟨a,ns,0,rfl,hS,fun c1=>⟨⟨by decide,by decide⟩,by decide,?_⟩⟩⟩
  obtain⟨m,em,hm⟩:=Ic (c1 / 7) (m:=9) (by decide)
  have em:c1 / 7 % 9=(m:Int):=em
  rw [em]
  refine⟨c0,m,rfl,by omega,fun H1 ln zs S1 el nd l8 ne h12=>?_⟩
  refine⟨(show 4<=sizeLine by decide),fun b1 hb1=>?_⟩
  have S2:=S1.trans (Same.upd (o:=.lst [.str "chapter", .str "para", .str "chapter", .str "table"]) hb1)
  have el:=Same.upd (o:=.lst [.str "chapter", .str "para", .str "chapter", .str "table"]) hb1 _ _ el
  have k1:Lk (upd H1 b1 (.lst [.str "chapter", .str "para", .str "chapter", .str "table"])) b1:=⟨_,_,_,_,Ad⟩
  generalize upd H1 b1 (.lst [.str "chapter", .str "para", .str "chapter", .str "table"])=H2 at S2 el k1 ⊢
  refine⟨(show 1<=sizeLine by decide),fun b0 hb0=>.inl ⟨b0,4,_,rfl,rfl,Ad,by decide,by decide,(show 4<=sizeLine by decide),fun b2 hb2=>?_⟩⟩
  have S3:=(Same.upd (o:=.lst [.str "chapter"]) hb0).trans (Same.upd (o:=.lst (bh (gO 4) [V.str "chapter"]).flatten) hb2)
  have k2:Lk (upd (upd H2 b0 (.lst [.str "chapter"])) b2 (.lst (bh (gO 4) [V.str "chapter"]).flatten)) b2:=⟨"chapter", "chapter", "chapter", "chapter", Ad⟩
  generalize upd (upd H2 b0 (.lst [.str "chapter"])) b2 (.lst (bh (gO 4) [V.str "chapter"]).flatten)=H3 at S3 k2 ⊢
  refine⟨(show 4<=sizeLine by decide),fun b3 hb3=>?_⟩
  have S4:=Same.upd (o:=.lst [.str "table", .str "chapter", .str "table", .str "para"]) hb3
  have k3:Lk (upd H3 b3 (.lst [.str "table", .str "chapter", .str "table", .str "para"])) b3:=⟨_,_,_,_,Ad⟩
  generalize upd H3 b3 (.lst [.str "table", .str "chapter", .str "table", .str "para"])=H4 at S4 k3 ⊢
  refine⟨(show 3<=sizeLine by decide),fun lk hlk=>?_⟩
  have S5:=Same.upd (o:=.lst [.ref b1,.ref b2,.ref b3]) hlk
  have ek:upd H4 lk (.lst [.ref b1,.ref b2,.ref b3]) lk=some (.lst [.ref b1,.ref b2,.ref b3]):=Ad
  generalize upd H4 lk (.lst [.ref b1,.ref b2,.ref b3])=H5 at S5 ek ⊢
  have KS:∀ {H H':Hp} {l:Addr},Lk H l->Sm H H'->Lk H' l:=fun⟨x0,x1,x2,x3,e⟩ S=>⟨x0,x1,x2,x3,S.lst e⟩
  have k1:=KS k1 (Sm.of ((S3.trans S4).trans S5))
  have k2:=KS k2 (Sm.of (S4.trans S5))
  have k3:=KS k3 (Sm.of S5)
  have el:=((S3.trans S4).trans S5) _ _ el
  have hS:=(((S2.trans S3).trans S4).trans S5).seqL hS
  refine .inl ⟨_,.inl hS,?_⟩
  rw [ai]
  have fit:fX 2 (if (if (62:Int)<(ns.length:Int) then (62:Int) else (ns.length:Int)) > 4 then (if (62:Int)<(ns.length:Int) then (62:Int) else (ns.length:Int)) else 4) 2=true/\(bJ 2 (if (if (62:Int)<(ns.length:Int) then (62:Int) else (ns.length:Int)) > 4 then (if (62:Int)<(ns.length:Int) then (62:Int) else (ns.length:Int)) else 4) 2).toNat<=40:=by
   generalize hN:(if (if (62:Int)<(ns.length:Int) then (62:Int) else (ns.length:Int)) > 4 then (if (62:Int)<(ns.length:Int) then (62:Int) else (ns.length:Int)) else 4)=N
   have hN2:4<=N/\N<=62:=by
    rw [<- hN]
    split <;> (try split) <;> omega
   have:=ar4 N.toNat (by omega)
   rwa [show ((N.toNat:Nat):Int)=N by omega] at this
  refine⟨⟨fit.1,by decide,by decide⟩,?_⟩
  have fit:=fit.2
  generalize (bJ _ _ _).toNat=n at fit ⊢
  refine C3 (at4 2 2 n) (fun i σ H'=>(∃ v3 v4 v5 v6 v7,σ=[some (.ref a),some (.ref ln),some (.ref lk),v3,v4,v5,v6,v7])/\Sm H5 H') ⟨⟨_,_,_,_,_,rfl⟩,Sm.refl⟩ (fun _ _ _ _ _=>bD) ?_ ?_
  ·rintro i x σ H6 hx ⟨⟨v3,v4,v5,v6,v7,rfl⟩,M6⟩
   obtain⟨kk,rfl,k0,k100⟩:=ar3 hx fit
   have hS6:=M6.seqL hS
   have el6:=M6.lst el
   refine⟨a,ns,1,rfl,hS6,fun c2=>⟨⟨by omega,by omega⟩,by decide,?_⟩⟩
   obtain⟨v,hv,ev⟩:=atM (xs:=[V.ref b1,.ref b2,.ref b3]) (c2 / (kk:Int)) 3 rfl (by decide)
   obtain⟨lx,rfl,kx⟩:∃ lx,v=.ref lx/\Lk H6 lx:=by
    rcases List.mem_cons.mp hv with e|hv
    ·exact⟨_,e,KS k1 M6⟩
    rcases List.mem_cons.mp hv with e|hv
    ·exact⟨_,e,KS k2 M6⟩
    ·exact⟨_,List.mem_singleton.mp hv,KS k3 M6⟩
   refine⟨_,_,.inl (SqL.of (M6.lst ek)),ev,?_⟩
   refine⟨a,ns,kk,rfl,hS6,fun c3 de hde=>.inl ?_⟩
   have S7:=Same.upd (o:=.dK []) hde
   have r7:RsAt K (upd H6 de (.dK [])) de []:=⟨[],Ad,rfl⟩
   generalize upd H6 de (.dK [])=H7 at S7 r7 ⊢
   refine⟨c3,ln,de,lx,zs,[],rfl,S7 _ _ el6,nd,l8,ne,h12,r7,KS kx (Sm.of S7),fun H8 d5 E' S8 _ rE TE=>?_⟩
   have S68:=S7.trans S8
   refine⟨a,ns,kk+1,(by rw [cv];rfl),S68.seqL hS6,fun c4=>?_⟩
   refine⟨c4,ln,d5,lx,zs,E',rfl,S68 _ _ el6,nd,l8,ne,h12,rE,KS kx (Sm.of S68),fun H9 d6 O S9 _ rO TO=>?_⟩
   have hE:=(rE.up S9).rd
   refine⟨d6,O,rfl,rO.rd,TO,fun H10 l7 ys M10 _ e7 a7=>?_⟩
   have hE:=hE.sm M10
   have hO:=rO.rd.sm M10
   have nO:=Mb hO
   refine⟨d5,d6,d5,l7,E',O,E',O,ys,rfl,hE,hO,hE,TE,TO,TE,TO,a57 hE hO,e7,a7,fun H11 M11=>?_⟩
   have hE:=hE.sm M11
   have hO:=hO.sm M11
   have e7:=M11.lst e7
   have a7:=Dl M11.tk nO a7
   refine⟨d5,d5,d6,l7,E',E',O,O,ys,rfl,hE,hE,hO,TE,TE,TO,TO,a58 hE O,e7,a7,fun H12 M12=>?_⟩
   have hE:=hE.sm M12
   have hO:=hO.sm M12
   have e7:=M12.lst e7
   have a7:=Dl M12.tk nO a7
   refine⟨d5,d6,d6,l7,E',O,O,O,ys,rfl,hE,hO,hO,TE,TO,TO,TO,Ya E' O,e7,a7,fun H13 M13=>?_⟩
   have hE:=hE.sm M13
   refine⟨d5,E',rfl,hE,TE,fun H14 l14 y14 M14 _ e14 a14=>?_⟩
   have hE:=hE.sm M14
   refine⟨d5,d5,d5,l14,E',E',E',E',y14,rfl,hE,hE,hE,TE,TE,TE,TE,Ya E' E',e14,a14,fun H15 M15=>?_⟩
   exact⟨⟨_,_,_,_,_,rfl⟩,M6.trans ((Sm.of (S68.trans S9)).trans (M10.trans (M11.trans (M12.trans (M13.trans (M14.trans M15))))))⟩
  ·rintro σ H6 ⟨⟨v3,v4,v5,v6,v7,rfl⟩,M6⟩
   exact .inl (k H6)
end
end K71
set_option maxHeartbeats 4000000
namespace K71
open PySem L2
structure at5 (K:ae) (mg:Str->Option Value) (t:Adr):Prop where
 g_zw:DOk K mg "_law_cell_at" Rv t.f_zw t.d_zw X2
 g_zba:DOk K mg "_law_mix" J1 t.f_zba t.d_zba N4
 g_zao:DOk K mg "_law_names" Jr t.f_zao t.d_zao Nt
 g_zau:DOk K mg "_law_draw" Jw t.f_zau t.d_zau Nz
 g_zx:DOk K mg "_law_content" Rw t.f_zx t.d_zx X3
 g_zap:DOk K mg "_law_order" Js t.f_zap t.d_zap Nv
 g_zad:DOk K mg "_law_record" Jj t.f_zad t.d_zad Nj
 g_zaw:DOk K mg "_law_side" Jy t.f_zaw t.d_zaw N1
 g_zav:DOk K mg "_law_path" Jx t.f_zav t.d_zav N0
 g_zan:DOk K mg "_law_lines" Jq t.f_zan t.d_zan Nr
 g_zt:MOk K "names" "Plain.names" Rt t.f_zt t.d_zt X0
 F_zf:FunD K "__init__" "EditError.__init__" Mv t.f_zf t.d_zf t.dv_zf
 b_zf:∀ j,j<=1->Binds K t.d_zf ai1 (t.du_zf.drop j)
 w_zf:Vals [.non] t.du_zf
 if_zf:cR K (.ref t.f_zf)=true
 g_zu:MOk K "state" "Plain.state" Ru t.f_zu t.d_zu X1
 g_zd:MOk K "parent_of" "Plain.parent_of" Ri t.f_zd t.d_zd Xq
 g_zj:MOk K "rank_of" "Plain.rank_of" Rn t.f_zj t.d_zj Xv
 g_ze:MOk K "place_key" "Plain.place_key" Rj t.f_ze t.d_ze Xr
 g_zb:MOk K "all_unders" "Plain.all_unders" Rg t.f_zb t.d_zb Xo
 g_zab:MOk K "walk" "Plain.walk" Ji t.f_zab t.d_zab Ni
 g_zh:MOk K "kind_of" "Plain.kind_of" Rl t.f_zh t.d_zh Xt
 g_zc:MOk K "content_of" "Plain.content_of" Rh t.f_zc t.d_zc Xp
 g_zi:MOk K "line_of" "Plain.line_of" Rm t.f_zi t.d_zi Xu
 g_zs:MOk K "lines" "Plain.lines" Rr t.f_zs t.d_zs Xz
 g_zal:MOk K "lay" "Plain.lay" Jo t.f_zal t.d_zal Np
 g_zaa:MOk K "__init__" "Plain.__init__" Jh t.f_zaa t.d_zaa Nh
 g_za:MOk K "state_or_none" "Plain.state_or_none" Rf t.f_za t.d_za Xn
 g_zar:DOk K mg "lay_state" Ju t.f_zar t.d_zar Nx
 g_zat:DOk K mg "is_clash" Jv t.f_zat t.d_zat Ny
 g_zbc:DOk K mg "settled" J2 t.f_zbc t.d_zbc N5
 g_zz:MOk K "shown" "Kind.shown" bl6 t.f_zz t.d_zz ai9
 g_zai:DOk K mg "shown_cell" ad3 t.f_zai t.d_zai Te
 g_zas:DOk K mg "shown_row" ad5 t.f_zas t.d_zas Tg
 g_zv:MOk K "shown" "Table.shown" bl4 t.f_zv t.d_zv ai7
 g_zl:MOk K "word" "Chapter.word" Ro t.f_zl t.d_zl Xw
 g_zaj:MOk K "word" "Para.word" ad4 t.f_zaj t.d_zaj Tf
 g_zac:MOk K "word" "Table.word" ad1 t.f_zac t.d_zac Tc
 g_zq:DOk K mg "kind_of_word" Rq t.f_zq t.d_zq Xy
 g_zah:DOk K mg "record_key" ad2 t.f_zah t.d_zah Td
 g_zp:DOk K mg "joined_whole" bl2 t.f_zp t.d_zp ai5
 g_zr:MOk K "joined" "Kind.joined" bl3 t.f_zr t.d_zr ai6
 g_zay:DOk K mg "shape_of" ad6 t.f_zay t.d_zay Th
 g_zn:DOk K mg "joined_cells" bl1 t.f_zn t.d_zn ai4
 g_zm:MOk K "joined" "Table.joined" bl0 t.f_zm t.d_zm ai3
 g_zk:DOk K mg "joined_record" bk9 t.f_zk t.d_zk ai2
 g_zo:DOk K mg "joined_state" Rp t.f_zo t.d_zo Xx
 g_zak:MOk K "has" "Plain.has" Jn t.f_zak t.d_zak No
 g_zy:MOk K "holds" "Kind.holds" bl5 t.f_zy t.d_zy ai8
 g_zg:MOk K "holds" "Chapter.holds" Rk t.f_zg t.d_zg Xs
 g_zaz:DOk K mg "is_held" J0 t.f_zaz t.d_zaz N3
 g_zae:DOk K mg "lay_at_top" Jk t.f_zae t.d_zae Nk
 g_zbb:DOk K mg "ring_of" ad7 t.f_zbb t.d_zbb Ti
 g_zax:DOk K mg "rings_of" Jz t.f_zax t.d_zax N2
 g_zag:DOk K mg "put_at_top" Jm t.f_zag t.d_zag Nn
 g_zaf:DOk K mg "plain_join" Jl t.f_zaf t.d_zaf Nl
 g_zaq:DOk K mg "_law_plain" Jt t.f_zaq t.d_zaq Nw
 g_zam:DOk K mg "_law_comes" Jp t.f_zam t.d_zam Nq
 F_zbd:FunD K "law" "law" Du t.f_zbd t.d_zbd .none
 b_zbd:∀ j,j<=0->Binds K t.d_zbd N6 (([]:List Value).drop j)
 w_zbd:Vals [] ([]:List Value)
 m_zbd:mg "law" = some (.ref t.f_zbd)
 at_zbg:mg "LeafError" = some (.ref t.c_zbg)
 kp_zbg:aN K (.ref t.c_zbg)=true
 ec_zbg:ECls K t.c_zbg
 in_zbg:aq K (.ref t.c_zbg) "__init__" = some (some (.builtin "ValueError.__init__"))
 at_zbf:mg "EditError" = some (.ref t.c_zbf)
 kp_zbf:aN K (.ref t.c_zbf)=true
 ec_zbf:ECls K t.c_zbf
 in_zbf:aq K (.ref t.c_zbf) "__init__" = some (some (.ref t.f_zf))
 at_zbj:mg "NoPart" = some (.ref t.c_zbj)
 kp_zbj:aN K (.ref t.c_zbj)=true
 ec_zbj:ECls K t.c_zbj
 in_zbj:aq K (.ref t.c_zbj) "__init__" = some (some (.ref t.f_zf))
 at_zbl:mg "Plain" = some (.ref t.c_zbl)
 kp_zbl:aN K (.ref t.c_zbl)=true
 mk_zbl:bM K t.c_zbl=true
 in_zbl:aq K (.ref t.c_zbl) "__init__" = some (some (.ref t.f_zaa))
 cl_zbl:Cls K t.c_zbl
 at_zbi:mg "Chapter" = some (.ref t.c_zbi)
 kp_zbi:aN K (.ref t.c_zbi)=true
 mk_zbi:bM K t.c_zbi=true
 in_zbi:aq K (.ref t.c_zbi) "__init__" = some (some (.builtin "object.__init__"))
 cl_zbi:Cls K t.c_zbi
 at_zbn:mg "Para" = some (.ref t.c_zbn)
 kp_zbn:aN K (.ref t.c_zbn)=true
 mk_zbn:bM K t.c_zbn=true
 in_zbn:aq K (.ref t.c_zbn) "__init__" = some (some (.builtin "object.__init__"))
 cl_zbn:Cls K t.c_zbn
 at_zbm:mg "Table" = some (.ref t.c_zbm)
 kp_zbm:aN K (.ref t.c_zbm)=true
 mk_zbm:bM K t.c_zbm=true
 in_zbm:aq K (.ref t.c_zbm) "__init__" = some (some (.builtin "object.__init__"))
 cl_zbm:Cls K t.c_zbm
 mt_zb:Bs K t.c_zbl "all_unders" t.f_zb
 mt_zc:Bs K t.c_zbl "content_of" t.f_zc
 mt_zak:Bs K t.c_zbl "has" t.f_zak
 mt_zg:Bs K t.c_zbi "holds" t.f_zg
 mt_Para_holds:Bs K t.c_zbn "holds" t.f_zy
 mt_Table_holds:Bs K t.c_zbm "holds" t.f_zy
 mt_Chapter_joined:Bs K t.c_zbi "joined" t.f_zr
 mt_Para_joined:Bs K t.c_zbn "joined" t.f_zr
 mt_zm:Bs K t.c_zbm "joined" t.f_zm
 mt_zh:Bs K t.c_zbl "kind_of" t.f_zh
 mt_zal:Bs K t.c_zbl "lay" t.f_zal
 mt_zi:Bs K t.c_zbl "line_of" t.f_zi
 mt_zs:Bs K t.c_zbl "lines" t.f_zs
 mt_zt:Bs K t.c_zbl "names" t.f_zt
 mt_zd:Bs K t.c_zbl "parent_of" t.f_zd
 mt_zj:Bs K t.c_zbl "rank_of" t.f_zj
 mt_Chapter_shown:Bs K t.c_zbi "shown" t.f_zz
 mt_Para_shown:Bs K t.c_zbn "shown" t.f_zz
 mt_zv:Bs K t.c_zbm "shown" t.f_zv
 mt_zu:Bs K t.c_zbl "state" t.f_zu
 mt_za:Bs K t.c_zbl "state_or_none" t.f_za
 mt_zab:Bs K t.c_zbl "walk" t.f_zab
 mt_zl:Bs K t.c_zbi "word" t.f_zl
 mt_zaj:Bs K t.c_zbn "word" t.f_zaj
 mt_zac:Bs K t.c_zbm "word" t.f_zac
 mt_ze:Bs K t.c_zbl "place_key" t.f_ze
 ky_ze:dw K (.ref t.f_ze) "__get__" = some (some (.builtin "function.__get__"))/\fw K (.ref t.f_ze)=some false
 v_zbo:mg "TOP" = some t.u_zbo
 r_zbo:RelV (.str "") t.u_zbo
 v_zbh:mg "ROW_SIGN" = some t.u_zbh
 r_zbh:RelV (.str "/") t.u_zbh
 v_zbe:mg "CELL_SIGN" = some t.u_zbe
 r_zbe:RelV (.str "|") t.u_zbe
 v_zbk:mg "STROKE" = some t.u_zbk
 r_zbk:RelV (.str "\\") t.u_zbk
 z:∀ x∈bl,mg x=none
 Z:An K t
theorem a81 {P:aI} {w:bp} {K:ae} {mg:Str->Option Value} {base:Heap} {t:Adr} (A:at5 K mg t):FnOk P w K mg base CX0 12 t.f_zbd t.d_zbd N6 (M8 K t):=by
 have T0:Tab P w K mg base 0 (By K t) bl:=(((((((((((Tab.nil A.z).consV A.v_zbk A.r_zbk).consV A.v_zbe A.r_zbe).consV A.v_zbh A.r_zbh).consV A.v_zbo A.r_zbo).consC (oi:=none) ⟨A.at_zbm,A.kp_zbm,A.mk_zbm,A.in_zbm⟩).consC (oi:=none) ⟨A.at_zbn,A.kp_zbn,A.mk_zbn,A.in_zbn⟩).consC (oi:=none) ⟨A.at_zbi,A.kp_zbi,A.mk_zbi,A.in_zbi⟩).consV (v:=.ref t.c_zbl) A.at_zbl rfl).consV (v:=.ref t.c_zbj) A.at_zbj rfl).consV (v:=.ref t.c_zbf) A.at_zbf rfl).consX (oi:=none) ⟨A.at_zbg,A.kp_zbg,A.ec_zbg,A.in_zbg⟩
 have T1:Tab P w K mg base 1 (Fg K t) bl:=(((((((((((((T0.mono (show 0<=1 by decide)).con (aw6 K t) A.g_zay (bb2 (t:=t) A.Z A.g_zay.F T0)).con (av2 K t) A.g_zai (a96 (t:=t) A.Z A.g_zai.F T0)).con (aw1 K t) A.g_zat (ba7 (t:=t) A.Z A.g_zat.F T0)).con (aw3 K t) A.g_zav (ba9 (t:=t) A.Z A.g_zav.F T0)).con (bu5 K t) A.g_zx (bx4 (t:=t) A.Z A.g_zx.F T0)).con (aw8 K t) A.g_zba (bb4 (t:=t) A.Z A.g_zba.F T0)).con (bu4 K t) A.g_zw (bx3 (t:=t) A.Z A.g_zw.F T0)).consM (m := "word") (l:=Hj K t) (fun mi hm=>by
  simp only [Hj,aG,cf,or_false] at hm
  rcases hm with rfl|rfl|rfl
  ·exact⟨A.cl_zbi,A.mt_zl,A.g_zl.fi (a73 K t) (bw3 (t:=t) A.Z A.g_zl.F T0)⟩
  ·exact⟨A.cl_zbn,A.mt_zaj,A.g_zaj.fi (av3 K t) (a97 (t:=t) A.Z A.g_zaj.F T0)⟩
  ·exact⟨A.cl_zbm,A.mt_zac,A.g_zac.fi (au6 K t) (a90 (t:=t) A.Z A.g_zac.F T0)⟩)).consM (m := "state_or_none") (l:=Be K t) (one ⟨A.cl_zbl,A.mt_za,A.g_za.fi (Yw K t) (bv4 (t:=t) A.Z A.g_za.F T0)⟩)).consM (m := "names") (l:=C1 K t) (one ⟨A.cl_zbl,A.mt_zt,A.g_zt.fi (Oo K t) (bx0 (t:=t) A.Z A.g_zt.F T0)⟩)).consM (m := "lay") (l:=Fj K t) (one ⟨A.cl_zbl,A.mt_zal,A.g_zal.fi (On K t) (a99 (t:=t) A.Z A.g_zal.F T0)⟩)).consM (m := "holds") (l:=F9 K t) (fun mi hm=>by
  simp only [F9,aG,cf,or_false] at hm
  rcases hm with rfl|rfl|rfl
  ·exact⟨A.cl_zbi,A.mt_zg,A.g_zg.fi (a71 K t) (bv8 (t:=t) A.Z A.g_zg.F T0)⟩
  ·exact⟨A.cl_zbn,A.mt_Para_holds,A.g_zy.fi (al8 K t) (ay0 (t:=t) A.Z A.g_zy.F T0)⟩
  ·exact⟨A.cl_zbm,A.mt_Table_holds,A.g_zy.fi (al8 K t) (ay0 (t:=t) A.Z A.g_zy.F T0)⟩)).consM (m := "has") (l:=Qs K t) (one ⟨A.cl_zbl,A.mt_zak,A.g_zak.fi (Yy K t) (a98 (t:=t) A.Z A.g_zak.F T0)⟩)
 have T2:Tab P w K mg base 2 (Gn K t) bl:=((((((((((T1.mono (show 1<=2 by decide)).consC (oi:=some (Om K t)) ⟨A.at_zbl,A.kp_zbl,A.mk_zbl,A.in_zbl,A.g_zaa.i,A.g_zaa.fi (Om K t) (a88 (t:=t) A.Z A.g_zaa.F T0),ah 2⟩).consX (oi:=some (Y0 K t)) ⟨A.at_zbj,A.kp_zbj,A.ec_zbj,A.in_zbj,A.if_zf,A.F_zf.kp,⟨CX0,fun X' _ _=>Gd X',ax8 (t:=t) A.Z A.F_zf T0⟩,ah 2,A.b_zf,A.w_zf⟩).consX (oi:=some (Y0 K t)) ⟨A.at_zbf,A.kp_zbf,A.ec_zbf,A.in_zbf,A.if_zf,A.F_zf.kp,⟨CX0,fun X' _ _=>Gd X',ax8 (t:=t) A.Z A.F_zf T0⟩,ah 2,A.b_zf,A.w_zf⟩).con (bu2 K t) A.g_zq (bw8 (t:=t) A.Z A.g_zq.F T1)).con (aw0 K t) A.g_zas (ba6 (t:=t) A.Z A.g_zas.F T1)).con (ax0 K t) A.g_zbc (bb6 (t:=t) A.Z A.g_zbc.F T1)).con (av9 K t) A.g_zar (ba5 (t:=t) A.Z A.g_zar.F T1)).con (av5 K t) A.g_zan (ba1 (t:=t) A.Z A.g_zan.F T1)).con (aw2 K t) A.g_zau (ba8 (t:=t) A.Z A.g_zau.F T1)).con (av6 K t) A.g_zao (ba2 (t:=t) A.Z A.g_zao.F T1)
 have T3:Tab P w K mg base 3 (Fh K t) bl:=(((((((T2.mono (show 2<=3 by decide)).con (av8 K t) A.g_zaq (ba4 (t:=t) A.Z A.g_zaq.F T2)).con (bt9 K t) A.g_zn (bw5 (t:=t) A.Z A.g_zn.F T2)).con (bu1 K t) A.g_zp (bw7 (t:=t) A.Z A.g_zp.F T2)).con (au7 K t) A.g_zad (a91 (t:=t) A.Z A.g_zad.F T2)).con (av7 K t) A.g_zap (ba3 (t:=t) A.Z A.g_zap.F T2)).consM (m := "state") (l:=Dr K t) (one ⟨A.cl_zbl,A.mt_zu,A.g_zu.fi (Vx K t) (bx1 (t:=t) A.Z A.g_zu.F T2)⟩)).consM (m := "shown") (l:=Ix K t) (fun mi hm=>by
  simp only [Ix,aG,cf,or_false] at hm
  rcases hm with rfl|rfl|rfl
  ·exact⟨A.cl_zbi,A.mt_Chapter_shown,A.g_zz.fi (al9 K t) (ay1 (t:=t) A.Z A.g_zz.F T0)⟩
  ·exact⟨A.cl_zbn,A.mt_Para_shown,A.g_zz.fi (al9 K t) (ay1 (t:=t) A.Z A.g_zz.F T0)⟩
  ·exact⟨A.cl_zbm,A.mt_zv,A.g_zv.fi (bu3 K t) (bx2 (t:=t) A.Z A.g_zv.F T2)⟩)
 have T4:Tab P w K mg base 4 (G8 K t) bl:=(((((((T3.mono (show 3<=4 by decide)).con (av1 K t) A.g_zah (a95 (t:=t) A.Z A.g_zah.F T3)).con (aw4 K t) A.g_zaw (bb0 (t:=t) A.Z A.g_zaw.F T3)).consM (m := "rank_of") (l:=Db K t) (one ⟨A.cl_zbl,A.mt_zj,A.g_zj.fi (al4 K t) (bw1 (t:=t) A.Z A.g_zj.F T3)⟩)).consM (m := "parent_of") (l:=Cj K t) (one ⟨A.cl_zbl,A.mt_zd,A.g_zd.fi (Yz K t) (bv7 (t:=t) A.Z A.g_zd.F T3)⟩)).consM (m := "kind_of") (l:=Da K t) (one ⟨A.cl_zbl,A.mt_zh,A.g_zh.fi (al3 K t) (bv9 (t:=t) A.Z A.g_zh.F T3)⟩)).consM (m := "joined") (l:=Gs K t) (fun mi hm=>by
  simp only [Gs,aG,cf,or_false] at hm
  rcases hm with rfl|rfl|rfl
  ·exact⟨A.cl_zbi,A.mt_Chapter_joined,A.g_zr.fi (al5 K t) (ax9 (t:=t) A.Z A.g_zr.F T3)⟩
  ·exact⟨A.cl_zbn,A.mt_Para_joined,A.g_zr.fi (al5 K t) (ax9 (t:=t) A.Z A.g_zr.F T3)⟩
  ·exact⟨A.cl_zbm,A.mt_zm,A.g_zm.fi (bt8 K t) (bw4 (t:=t) A.Z A.g_zm.F T3)⟩)).consM (m := "content_of") (l:=Cv K t) (one ⟨A.cl_zbl,A.mt_zc,A.g_zc.fi (a70 K t) (bv6 (t:=t) A.Z A.g_zc.F T3)⟩)
 have T5:Tab P w K mg base 5 (Vr K t) bl:=((((((T4.mono (show 4<=5 by decide)).con (aw9 K t) A.g_zbb (bb5 (t:=t) A.Z A.g_zbb.F T4)).con (au8 K t) A.g_zae (a92 (t:=t) A.Z A.g_zae.F T4)).con (aw7 K t) A.g_zaz (bb3 (t:=t) A.Z A.g_zaz.F T4)).con (bt7 K t) A.g_zk (bw2 (t:=t) A.Z A.g_zk.F T4)).consM (m := "place_key") (l:=Bv K t) (one ⟨A.cl_zbl,A.mt_ze,A.g_ze.fi (al2 K t) (ax7 (t:=t) A.Z A.g_ze.F T4)⟩)).consM (m := "line_of") (l:=Fk K t) (one ⟨A.cl_zbl,A.mt_zi,A.g_zi.fi (a72 K t) (bw0 (t:=t) A.Z A.g_zi.F T4)⟩)
 have T6:Tab P w K mg base 6 (ak6 K t) bl:=((T5.mono (show 5<=6 by decide)).con (aw5 K t) A.g_zax (bb1 (t:=t) A.Z A.g_zax.F T5)).con (bu0 K t) A.g_zo (bw6 (t:=t) A.Z A.g_zo.F T5)
 have T7:Tab P w K mg base 7 (Vs K t) bl:=((T6.mono (show 6<=7 by decide)).con (av0 K t) A.g_zag (a94 (t:=t) A.Z A.g_zag.F T6)).consK (m := "place_key") (l:=Bv K t) (fun mi hm=>by
  simp only [Bv,aG,cf,or_false] at hm
  rcases hm with rfl
  ·exact⟨⟨A.cl_zbl,A.mt_ze,A.g_ze.fi (al2 K t) (ax7 (t:=t) A.Z A.g_ze.F T4)⟩,A.ky_ze.1,A.ky_ze.2,by decide +kernel,(show 7<=7 by decide)⟩)
 have T8:Tab P w K mg base 8 (ak7 K t) bl:=((T7.mono (show 7<=8 by decide)).con (au9 K t) A.g_zaf (a93 (t:=t) A.Z A.g_zaf.F T7)).consM (m := "all_unders") (l:=Do K t) (one ⟨A.cl_zbl,A.mt_zb,A.g_zb.fi (a69 K t) (bv5 (t:=t) A.Z A.g_zb.F T7)⟩)
 have T9:Tab P w K mg base 9 (ak8 K t) bl:=(T8.mono (show 8<=9 by decide)).consM (m := "walk") (l:=Me K t) (one ⟨A.cl_zbl,A.mt_zab,A.g_zab.fi (Yx K t) (a89 (t:=t) A.Z A.g_zab.F T8)⟩)
 have T10:Tab P w K mg base 10 (Ua K t) bl:=(T9.mono (show 9<=10 by decide)).consM (m := "lines") (l:=Ga K t) (one ⟨A.cl_zbl,A.mt_zs,A.g_zs.fi (al6 K t) (bw9 (t:=t) A.Z A.g_zs.F T9)⟩)
 have T11:Tab P w K mg base 11 (Yr K t) bl:=(T10.mono (show 10<=11 by decide)).con (av4 K t) A.g_zam (ba0 (t:=t) A.Z A.g_zam.F T10)
 exact bb7 (t:=t) A.Z A.F_zbd T11
@[elab_as_elim] theorem D0 {P:List Value->Prop} (h:∀ a,P [a]):∀ us:List Value,us.length=1->P us
 | [a],_=>h a
@[elab_as_elim] theorem Dm {P:List Value->Prop} (h:∀ a b,P [a,b]):∀ us:List Value,us.length=2->P us
 | [a,b],_=>h a b
@[elab_as_elim] theorem Im {P:List Value->Prop} (h:∀ a b c,P [a,b,c]):∀ us:List Value,us.length=3->P us
 | [a,b,c],_=>h a b c
@[elab_as_elim] theorem am5 {P:List Value->Prop} (h:∀ a b c d,P [a,b,c,d]):∀ us:List Value,us.length=4->P us
 | [a,b,c,d],_=>h a b c d
@[elab_as_elim] theorem b98 {P:List Value->Prop} (h:∀ a b c d e,P [a,b,c,d,e]):∀ us:List Value,us.length=5->P us
 | [a,b,c,d,e],_=>h a b c d e
@[elab_as_elim] theorem b99 {P:List Value->Prop} (h:∀ a b c d e f,P [a,b,c,d,e,f]):∀ us:List Value,us.length=6->P us
 | [a,b,c,d,e,f],_=>h a b c d e f
theorem all_mk {l:j3} {w:bp} {K:ae} {h:Heap} {mg:Str->Option Value} {fa f_zw f_zba f_zao f_zau f_zx f_zap f_zad f_zaw f_zav f_zan f_zt f_zf f_zu f_zd f_zj f_ze f_zb f_zab f_zh f_zc f_zi f_zs f_zal f_zaa f_za f_zar f_zat f_zbc f_zz f_zai f_zas f_zv f_zl f_zaj f_zac f_zq f_zah f_zp f_zr f_zay f_zn f_zm f_zk f_zo f_zak f_zy f_zg f_zaz f_zae f_zbb f_zax f_zag f_zaf f_zaq f_zam f_zbd c_zbg c_zbf c_zbj c_zbl c_zbi c_zbn c_zbm Td_zf:Addr} (X:K.In h) (G:h.Ns aZ mg) (hfa:mg "law" = some (.ref fa))
  {od_zf an_zf od_zbd an_zbd td_zf:Option Addr} {sl_zf sl_zbd ts_zf:Array (Option Value)}
  {oc_zf kV_zf dc_zf pm_zf cd_zf ct_zf oc_zbd kV_zbd dc_zbd pm_zbd cd_zbd ct_zbd tc_zf:Value}
  {tn_zf:Nat}
  {u_zbo u_zbh u_zbe u_zbk:Value}
  (a_zbg:bt K aZ "LeafError" = some (some (.ref c_zbg)))
  (a_zbf:bt K aZ "EditError" = some (some (.ref c_zbf)))
  (a_zbj:bt K aZ "NoPart" = some (some (.ref c_zbj)))
  (in_zbg:aq K (.ref c_zbg) "__init__" = some (some (.builtin "ValueError.__init__")))
  (kp_zbg:aN K (.ref c_zbg)=true)
  (in_zbf:aq K (.ref c_zbf) "__init__" = some (some (.ref f_zf)))
  (kp_zbf:aN K (.ref c_zbf)=true)
  (in_zbj:aq K (.ref c_zbj) "__init__" = some (some (.ref f_zf)))
  (kp_zbj:aN K (.ref c_zbj)=true)
  (a_zbl:bt K aZ "Plain" = some (some (.ref c_zbl)))
  (a_zbi:bt K aZ "Chapter" = some (some (.ref c_zbi)))
  (a_zbn:bt K aZ "Para" = some (some (.ref c_zbn)))
  (a_zbm:bt K aZ "Table" = some (some (.ref c_zbm)))
  (in_zbl:aq K (.ref c_zbl) "__init__" = some (some (.ref f_zaa)))
  (kp_zbl:aN K (.ref c_zbl)=true)
  (mk_zbl:bM K c_zbl=true)
  (pg_zbl:c5 K c_zbl ck=true)
  (hd_zbl:du K c_zbl=true)
  (po_zbl:d9 K c_zbl=true)
  (sa_zbl:aq K (.ref c_zbl) "__setattr__" = some (some (.builtin "object.__setattr__")))
  (in_zbi:aq K (.ref c_zbi) "__init__" = some (some (.builtin "object.__init__")))
  (kp_zbi:aN K (.ref c_zbi)=true)
  (mk_zbi:bM K c_zbi=true)
  (pg_zbi:c5 K c_zbi ck=true)
  (hd_zbi:du K c_zbi=true)
  (po_zbi:d9 K c_zbi=true)
  (sa_zbi:aq K (.ref c_zbi) "__setattr__" = some (some (.builtin "object.__setattr__")))
  (in_zbn:aq K (.ref c_zbn) "__init__" = some (some (.builtin "object.__init__")))
  (kp_zbn:aN K (.ref c_zbn)=true)
  (mk_zbn:bM K c_zbn=true)
  (pg_zbn:c5 K c_zbn ck=true)
  (hd_zbn:du K c_zbn=true)
  (po_zbn:d9 K c_zbn=true)
  (sa_zbn:aq K (.ref c_zbn) "__setattr__" = some (some (.builtin "object.__setattr__")))
  (in_zbm:aq K (.ref c_zbm) "__init__" = some (some (.builtin "object.__init__")))
  (kp_zbm:aN K (.ref c_zbm)=true)
  (mk_zbm:bM K c_zbm=true)
  (pg_zbm:c5 K c_zbm ck=true)
  (hd_zbm:du K c_zbm=true)
  (po_zbm:d9 K c_zbm=true)
  (sa_zbm:aq K (.ref c_zbm) "__setattr__" = some (some (.builtin "object.__setattr__")))
  (mt_zb:aq K (.ref c_zbl) "all_unders" = some (some (.ref f_zb)))
  (mt_zc:aq K (.ref c_zbl) "content_of" = some (some (.ref f_zc)))
  (mt_zak:aq K (.ref c_zbl) "has" = some (some (.ref f_zak)))
  (mt_zg:aq K (.ref c_zbi) "holds" = some (some (.ref f_zg)))
  (mt_Para_holds:aq K (.ref c_zbn) "holds" = some (some (.ref f_zy)))
  (mt_Table_holds:aq K (.ref c_zbm) "holds" = some (some (.ref f_zy)))
  (mt_Chapter_joined:aq K (.ref c_zbi) "joined" = some (some (.ref f_zr)))
  (mt_Para_joined:aq K (.ref c_zbn) "joined" = some (some (.ref f_zr)))
  (mt_zm:aq K (.ref c_zbm) "joined" = some (some (.ref f_zm)))
  (mt_zh:aq K (.ref c_zbl) "kind_of" = some (some (.ref f_zh)))
  (mt_zal:aq K (.ref c_zbl) "lay" = some (some (.ref f_zal)))
  (mt_zi:aq K (.ref c_zbl) "line_of" = some (some (.ref f_zi)))
  (mt_zs:aq K (.ref c_zbl) "lines" = some (some (.ref f_zs)))
  (mt_zt:aq K (.ref c_zbl) "names" = some (some (.ref f_zt)))
  (mt_zd:aq K (.ref c_zbl) "parent_of" = some (some (.ref f_zd)))
  (mt_zj:aq K (.ref c_zbl) "rank_of" = some (some (.ref f_zj)))
  (mt_Chapter_shown:aq K (.ref c_zbi) "shown" = some (some (.ref f_zz)))
  (mt_Para_shown:aq K (.ref c_zbn) "shown" = some (some (.ref f_zz)))
  (mt_zv:aq K (.ref c_zbm) "shown" = some (some (.ref f_zv)))
  (mt_zu:aq K (.ref c_zbl) "state" = some (some (.ref f_zu)))
  (mt_za:aq K (.ref c_zbl) "state_or_none" = some (some (.ref f_za)))
  (mt_zab:aq K (.ref c_zbl) "walk" = some (some (.ref f_zab)))
  (mt_zl:aq K (.ref c_zbi) "word" = some (some (.ref f_zl)))
  (mt_zaj:aq K (.ref c_zbn) "word" = some (some (.ref f_zaj)))
  (mt_zac:aq K (.ref c_zbm) "word" = some (some (.ref f_zac)))
  (mt_ze:aq K (.ref c_zbl) "place_key" = some (some (.ref f_ze)))
  (ks_ze:dw K (.ref f_ze) "__get__" = some (some (.builtin "function.__get__")))
  (kt_ze:fw K (.ref f_ze)=some false)
  (q_zw:TopD K "_law_cell_at" Rv f_zw)
  (q_zba:TopD K "_law_mix" J1 f_zba)
  (q_zao:TopD K "_law_names" Jr f_zao)
  (q_zau:TopD K "_law_draw" Jw f_zau)
  (q_zx:TopD K "_law_content" Rw f_zx)
  (q_zap:TopD K "_law_order" Js f_zap)
  (q_zad:TopD K "_law_record" Jj f_zad)
  (q_zaw:TopD K "_law_side" Jy f_zaw)
  (q_zav:TopD K "_law_path" Jx f_zav)
  (q_zan:TopD K "_law_lines" Jq f_zan)
  (q_zt:MetD K "names" "Plain.names" Rt f_zt)
  (l_zf:K.lookup f_zf=some ⟨oc_zf,od_zf,.func (b8 "__init__" "EditError.__init__" (Bk Mv) (Aj Mv) (Ab Mv) (.ref Td_zf) kV_zf dc_zf pm_zf an_zf cd_zf ct_zf),sl_zf⟩)
  (c_zf:dq K cd_zf "EditError.__init__" = true)
  (k_zf:aN K (.ref f_zf)=true)
  (if_zf:cR K (.ref f_zf)=true)
  (ld_zf:K.lookup Td_zf=some ⟨tc_zf,td_zf,.seq #[.none] tn_zf,ts_zf⟩)
  (q_zu:MetD K "state" "Plain.state" Ru f_zu)
  (q_zd:MetD K "parent_of" "Plain.parent_of" Ri f_zd)
  (q_zj:MetD K "rank_of" "Plain.rank_of" Rn f_zj)
  (q_ze:MetD K "place_key" "Plain.place_key" Rj f_ze)
  (q_zb:MetD K "all_unders" "Plain.all_unders" Rg f_zb)
  (q_zab:MetD K "walk" "Plain.walk" Ji f_zab)
  (q_zh:MetD K "kind_of" "Plain.kind_of" Rl f_zh)
  (q_zc:MetD K "content_of" "Plain.content_of" Rh f_zc)
  (q_zi:MetD K "line_of" "Plain.line_of" Rm f_zi)
  (q_zs:MetD K "lines" "Plain.lines" Rr f_zs)
  (q_zal:MetD K "lay" "Plain.lay" Jo f_zal)
  (q_zaa:MetD K "__init__" "Plain.__init__" Jh f_zaa)
  (q_za:MetD K "state_or_none" "Plain.state_or_none" Rf f_za)
  (q_zar:TopD K "lay_state" Ju f_zar)
  (q_zat:TopD K "is_clash" Jv f_zat)
  (q_zbc:TopD K "settled" J2 f_zbc)
  (q_zz:MetD K "shown" "Kind.shown" bl6 f_zz)
  (q_zai:TopD K "shown_cell" ad3 f_zai)
  (q_zas:TopD K "shown_row" ad5 f_zas)
  (q_zv:MetD K "shown" "Table.shown" bl4 f_zv)
  (q_zl:MetD K "word" "Chapter.word" Ro f_zl)
  (q_zaj:MetD K "word" "Para.word" ad4 f_zaj)
  (q_zac:MetD K "word" "Table.word" ad1 f_zac)
  (q_zq:TopD K "kind_of_word" Rq f_zq)
  (q_zah:TopD K "record_key" ad2 f_zah)
  (q_zp:TopD K "joined_whole" bl2 f_zp)
  (q_zr:MetD K "joined" "Kind.joined" bl3 f_zr)
  (q_zay:TopD K "shape_of" ad6 f_zay)
  (q_zn:TopD K "joined_cells" bl1 f_zn)
  (q_zm:MetD K "joined" "Table.joined" bl0 f_zm)
  (q_zk:TopD K "joined_record" bk9 f_zk)
  (q_zo:TopD K "joined_state" Rp f_zo)
  (q_zak:MetD K "has" "Plain.has" Jn f_zak)
  (q_zy:MetD K "holds" "Kind.holds" bl5 f_zy)
  (q_zg:MetD K "holds" "Chapter.holds" Rk f_zg)
  (q_zaz:TopD K "is_held" J0 f_zaz)
  (q_zae:TopD K "lay_at_top" Jk f_zae)
  (q_zbb:TopD K "ring_of" ad7 f_zbb)
  (q_zax:TopD K "rings_of" Jz f_zax)
  (q_zag:TopD K "put_at_top" Jm f_zag)
  (q_zaf:TopD K "plain_join" Jl f_zaf)
  (q_zaq:TopD K "_law_plain" Jt f_zaq)
  (q_zam:TopD K "_law_comes" Jp f_zam)
  (a_zbd:bt K aZ "law" = some (some (.ref f_zbd)))
  (l_zbd:K.lookup f_zbd=some ⟨oc_zbd,od_zbd,.func (b8 "law" "law" (Bk Du) (Aj Du) (Ab Du) .none kV_zbd dc_zbd pm_zbd an_zbd cd_zbd ct_zbd),sl_zbd⟩)
  (c_zbd:dq K cd_zbd "law" = true)
  (k_zbd:aN K (.ref f_zbd)=true)
  (x_zbg:XC K c_zbg (valTail))
  (x_zbf:XC K c_zbf (.ref c_zbg::valTail))
  (x_zbj:XC K c_zbj (.ref c_zbf::.ref c_zbg::valTail))
  (v_zbo:bt K aZ "TOP" = some (some u_zbo))
  (r_zbo:RelV (.str "") u_zbo)
  (v_zbh:bt K aZ "ROW_SIGN" = some (some u_zbh))
  (r_zbh:RelV (.str "/") u_zbh)
  (v_zbe:bt K aZ "CELL_SIGN" = some (some u_zbe))
  (r_zbe:RelV (.str "|") u_zbe)
  (v_zbk:bt K aZ "STROKE" = some (some u_zbk))
  (r_zbk:RelV (.str "\\") u_zbk)
  (z_int:bt K aZ "int" = some none)
  (z_isinstance:bt K aZ "isinstance" = some none)
  (z_len:bt K aZ "len" = some none)
  (z_list:bt K aZ "list" = some none)
  (z_max:bt K aZ "max" = some none)
  (z_min:bt K aZ "min" = some none)
  (z_range:bt K aZ "range" = some none)
  (z_reversed:bt K aZ "reversed" = some none)
  (z_set:bt K aZ "set" = some none)
  (z_sorted:bt K aZ "sorted" = some none)
  (z_str:bt K aZ "str" = some none)
  (z_tuple:bt K aZ "tuple" = some none)
  (z_zip:bt K aZ "zip" = some none)
  (na_zbl:aq K (.ref c_zbl) "records" = some none)
  : ∃ (t:Adr) (fd:au),(∀ (s:aj) (v:Value),mh s fd ⟨[v],[]⟩ [("_law_script", v)]) /\ ∀ base:Heap,K.In base->base.Ns aZ mg->FnOk l.prog w K mg base CX0 12 fa fd ["_law_script"] (M8 K t):=by
 obtain⟨d_zw,g_zw⟩:=q_zw.ok X G (ps:=X2) fun _ _ _ _ _ _ us hl=>Dm (fun _ _=>rfl) us hl
 obtain⟨d_zba,g_zba⟩:=q_zba.ok X G (ps:=N4) fun _ _ _ _ _ _ us hl=>Dm (fun _ _=>rfl) us hl
 obtain⟨d_zao,g_zao⟩:=q_zao.ok X G (ps:=Nt) fun _ _ _ _ _ _ us hl=>Dm (fun _ _=>rfl) us hl
 obtain⟨d_zau,g_zau⟩:=q_zau.ok X G (ps:=Nz) fun _ _ _ _ _ _ us hl=>Dm (fun _ _=>rfl) us hl
 obtain⟨d_zx,g_zx⟩:=q_zx.ok X G (ps:=X3) fun _ _ _ _ _ _ us hl=>Im (fun _ _ _=>rfl) us hl
 obtain⟨d_zap,g_zap⟩:=q_zap.ok X G (ps:=Nv) fun _ _ _ _ _ _ us hl=>Dm (fun _ _=>rfl) us hl
 obtain⟨d_zad,g_zad⟩:=q_zad.ok X G (ps:=Nj) fun _ _ _ _ _ _ us hl=>b98 (fun _ _ _ _ _=>rfl) us hl
 obtain⟨d_zaw,g_zaw⟩:=q_zaw.ok X G (ps:=N1) fun _ _ _ _ _ _ us hl=>am5 (fun _ _ _ _=>rfl) us hl
 obtain⟨d_zav,g_zav⟩:=q_zav.ok X G (ps:=N0) fun _ _ _ _ _ _ us hl=>Dm (fun _ _=>rfl) us hl
 obtain⟨d_zan,g_zan⟩:=q_zan.ok X G (ps:=Nr) fun _ _ _ _ _ _ us hl=>D0 (fun _=>rfl) us hl
 obtain⟨d_zt,g_zt⟩:=q_zt.ok (ps:=X0) fun _ _ _ _ _ _ us hl=>D0 (fun _=>rfl) us hl
 have F_zf:=ak5 (st:=Mv) l_zf c_zf k_zf
 have b_zf:∀ j,j<=1->Binds K (b8 "__init__" "EditError.__init__" (Bk Mv) (Aj Mv) (Ab Mv) (.ref Td_zf) kV_zf dc_zf pm_zf an_zf cd_zf ct_zf) ai1 ([bG].drop j):=fun j hj=>by
  match j,hj with
  | 0,_=>exact G3 2 rfl ld_zf rfl rfl (fun us hl=>Dm (fun _ _=>⟨_,rfl,rfl⟩) us hl)
  | 1,_=>exact G3 3 rfl ld_zf rfl rfl (fun us hl=>Im (fun _ _ _=>⟨_,rfl,rfl⟩) us hl)
 obtain⟨d_zu,g_zu⟩:=q_zu.ok (ps:=X1) fun _ _ _ _ _ _ us hl=>Dm (fun _ _=>rfl) us hl
 obtain⟨d_zd,g_zd⟩:=q_zd.ok (ps:=Xq) fun _ _ _ _ _ _ us hl=>Dm (fun _ _=>rfl) us hl
 obtain⟨d_zj,g_zj⟩:=q_zj.ok (ps:=Xv) fun _ _ _ _ _ _ us hl=>Dm (fun _ _=>rfl) us hl
 obtain⟨d_ze,g_ze⟩:=q_ze.ok (ps:=Xr) fun _ _ _ _ _ _ us hl=>Dm (fun _ _=>rfl) us hl
 obtain⟨d_zb,g_zb⟩:=q_zb.ok (ps:=Xo) fun _ _ _ _ _ _ us hl=>D0 (fun _=>rfl) us hl
 obtain⟨d_zab,g_zab⟩:=q_zab.ok (ps:=Ni) fun _ _ _ _ _ _ us hl=>Dm (fun _ _=>rfl) us hl
 obtain⟨d_zh,g_zh⟩:=q_zh.ok (ps:=Xt) fun _ _ _ _ _ _ us hl=>Dm (fun _ _=>rfl) us hl
 obtain⟨d_zc,g_zc⟩:=q_zc.ok (ps:=Xp) fun _ _ _ _ _ _ us hl=>Dm (fun _ _=>rfl) us hl
 obtain⟨d_zi,g_zi⟩:=q_zi.ok (ps:=Xu) fun _ _ _ _ _ _ us hl=>Im (fun _ _ _=>rfl) us hl
 obtain⟨d_zs,g_zs⟩:=q_zs.ok (ps:=Xz) fun _ _ _ _ _ _ us hl=>D0 (fun _=>rfl) us hl
 obtain⟨d_zal,g_zal⟩:=q_zal.ok (ps:=Np) fun _ _ _ _ _ _ us hl=>b99 (fun _ _ _ _ _ _=>rfl) us hl
 obtain⟨d_zaa,g_zaa⟩:=q_zaa.ok (ps:=Nh) fun _ _ _ _ _ _ us hl=>D0 (fun _=>rfl) us hl
 obtain⟨d_za,g_za⟩:=q_za.ok (ps:=Xn) fun _ _ _ _ _ _ us hl=>Dm (fun _ _=>rfl) us hl
 obtain⟨d_zar,g_zar⟩:=q_zar.ok X G (ps:=Nx) fun _ _ _ _ _ _ us hl=>Im (fun _ _ _=>rfl) us hl
 obtain⟨d_zat,g_zat⟩:=q_zat.ok X G (ps:=Ny) fun _ _ _ _ _ _ us hl=>Im (fun _ _ _=>rfl) us hl
 obtain⟨d_zbc,g_zbc⟩:=q_zbc.ok X G (ps:=N5) fun _ _ _ _ _ _ us hl=>Im (fun _ _ _=>rfl) us hl
 obtain⟨d_zz,g_zz⟩:=q_zz.ok (ps:=ai9) fun _ _ _ _ _ _ us hl=>Dm (fun _ _=>rfl) us hl
 obtain⟨d_zai,g_zai⟩:=q_zai.ok X G (ps:=Te) fun _ _ _ _ _ _ us hl=>D0 (fun _=>rfl) us hl
 obtain⟨d_zas,g_zas⟩:=q_zas.ok X G (ps:=Tg) fun _ _ _ _ _ _ us hl=>D0 (fun _=>rfl) us hl
 obtain⟨d_zv,g_zv⟩:=q_zv.ok (ps:=ai7) fun _ _ _ _ _ _ us hl=>Dm (fun _ _=>rfl) us hl
 obtain⟨d_zl,g_zl⟩:=q_zl.ok (ps:=Xw) fun _ _ _ _ _ _ us hl=>D0 (fun _=>rfl) us hl
 obtain⟨d_zaj,g_zaj⟩:=q_zaj.ok (ps:=Tf) fun _ _ _ _ _ _ us hl=>D0 (fun _=>rfl) us hl
 obtain⟨d_zac,g_zac⟩:=q_zac.ok (ps:=Tc) fun _ _ _ _ _ _ us hl=>D0 (fun _=>rfl) us hl
 obtain⟨d_zq,g_zq⟩:=q_zq.ok X G (ps:=Xy) fun _ _ _ _ _ _ us hl=>D0 (fun _=>rfl) us hl
 obtain⟨d_zah,g_zah⟩:=q_zah.ok X G (ps:=Td) fun _ _ _ _ _ _ us hl=>D0 (fun _=>rfl) us hl
 obtain⟨d_zp,g_zp⟩:=q_zp.ok X G (ps:=ai5) fun _ _ _ _ _ _ us hl=>Im (fun _ _ _=>rfl) us hl
 obtain⟨d_zr,g_zr⟩:=q_zr.ok (ps:=ai6) fun _ _ _ _ _ _ us hl=>am5 (fun _ _ _ _=>rfl) us hl
 obtain⟨d_zay,g_zay⟩:=q_zay.ok X G (ps:=Th) fun _ _ _ _ _ _ us hl=>D0 (fun _=>rfl) us hl
 obtain⟨d_zn,g_zn⟩:=q_zn.ok X G (ps:=ai4) fun _ _ _ _ _ _ us hl=>Im (fun _ _ _=>rfl) us hl
 obtain⟨d_zm,g_zm⟩:=q_zm.ok (ps:=ai3) fun _ _ _ _ _ _ us hl=>am5 (fun _ _ _ _=>rfl) us hl
 obtain⟨d_zk,g_zk⟩:=q_zk.ok X G (ps:=ai2) fun _ _ _ _ _ _ us hl=>Im (fun _ _ _=>rfl) us hl
 obtain⟨d_zo,g_zo⟩:=q_zo.ok X G (ps:=Xx) fun _ _ _ _ _ _ us hl=>Im (fun _ _ _=>rfl) us hl
 obtain⟨d_zak,g_zak⟩:=q_zak.ok (ps:=No) fun _ _ _ _ _ _ us hl=>Dm (fun _ _=>rfl) us hl
 obtain⟨d_zy,g_zy⟩:=q_zy.ok (ps:=ai8) fun _ _ _ _ _ _ us hl=>D0 (fun _=>rfl) us hl
 obtain⟨d_zg,g_zg⟩:=q_zg.ok (ps:=Xs) fun _ _ _ _ _ _ us hl=>D0 (fun _=>rfl) us hl
 obtain⟨d_zaz,g_zaz⟩:=q_zaz.ok X G (ps:=N3) fun _ _ _ _ _ _ us hl=>Dm (fun _ _=>rfl) us hl
 obtain⟨d_zae,g_zae⟩:=q_zae.ok X G (ps:=Nk) fun _ _ _ _ _ _ us hl=>Dm (fun _ _=>rfl) us hl
 obtain⟨d_zbb,g_zbb⟩:=q_zbb.ok X G (ps:=Ti) fun _ _ _ _ _ _ us hl=>Dm (fun _ _=>rfl) us hl
 obtain⟨d_zax,g_zax⟩:=q_zax.ok X G (ps:=N2) fun _ _ _ _ _ _ us hl=>D0 (fun _=>rfl) us hl
 obtain⟨d_zag,g_zag⟩:=q_zag.ok X G (ps:=Nn) fun _ _ _ _ _ _ us hl=>D0 (fun _=>rfl) us hl
 obtain⟨d_zaf,g_zaf⟩:=q_zaf.ok X G (ps:=Nl) fun _ _ _ _ _ _ us hl=>Im (fun _ _ _=>rfl) us hl
 obtain⟨d_zaq,g_zaq⟩:=q_zaq.ok X G (ps:=Nw) fun _ _ _ _ _ _ us hl=>D0 (fun _=>rfl) us hl
 obtain⟨d_zam,g_zam⟩:=q_zam.ok X G (ps:=Nq) fun _ _ _ _ _ _ us hl=>am5 (fun _ _ _ _=>rfl) us hl
 have F_zbd:=Qg (st:=Du) l_zbd c_zbd k_zbd
 have b_zbd:=F_zbd.binds (ps:=N6) fun _ _ _ _ _ _ us hl=>D0 (fun _=>rfl) us hl
 have m:=ci X G a_zbd
 have e:fa=f_zbd:=by
  rw [hfa] at m
  injection m with m
  injection m
 subst e
 have tl_1:∀ {a:Addr},A2 (.ref a::valTail)=true:=fun {a}=>by show A2 valTail=true;decide +kernel
 have tl_2:∀ {a b:Addr},A2 (.ref a::.ref b::valTail)=true:=fun {a b}=>by show A2 valTail=true;decide +kernel
 have AO:at5 K mg ⟨f_zw,d_zw,f_zba,d_zba,f_zao,d_zao,f_zau,d_zau,f_zx,d_zx,f_zap,d_zap,f_zad,d_zad,f_zaw,d_zaw,f_zav,d_zav,f_zan,d_zan,f_zt,d_zt,f_zf,_,f_zu,d_zu,f_zd,d_zd,f_zj,d_zj,f_ze,d_ze,f_zb,d_zb,f_zab,d_zab,f_zh,d_zh,f_zc,d_zc,f_zi,d_zi,f_zs,d_zs,f_zal,d_zal,f_zaa,d_zaa,f_za,d_za,f_zar,d_zar,f_zat,d_zat,f_zbc,d_zbc,f_zz,d_zz,f_zai,d_zai,f_zas,d_zas,f_zv,d_zv,f_zl,d_zl,f_zaj,d_zaj,f_zac,d_zac,f_zq,d_zq,f_zah,d_zah,f_zp,d_zp,f_zr,d_zr,f_zay,d_zay,f_zn,d_zn,f_zm,d_zm,f_zk,d_zk,f_zo,d_zo,f_zak,d_zak,f_zy,d_zy,f_zg,d_zg,f_zaz,d_zaz,f_zae,d_zae,f_zbb,d_zbb,f_zax,d_zax,f_zag,d_zag,f_zaf,d_zaf,f_zaq,d_zaq,f_zam,d_zam,fa,_,.ref Td_zf,[bG],c_zbg,c_zbf,c_zbj,c_zbl,c_zbi,c_zbn,c_zbm,u_zbo,u_zbh,u_zbe,u_zbk⟩:=⟨g_zw,g_zba,g_zao,g_zau,g_zx,g_zap,g_zad,g_zaw,g_zav,g_zan,g_zt,F_zf,b_zf,(.cons rfl .nil),if_zf,g_zu,g_zd,g_zj,g_ze,g_zb,g_zab,g_zh,g_zc,g_zi,g_zs,g_zal,g_zaa,g_za,g_zar,g_zat,g_zbc,g_zz,g_zai,g_zas,g_zv,g_zl,g_zaj,g_zac,g_zq,g_zah,g_zp,g_zr,g_zay,g_zn,g_zm,g_zk,g_zo,g_zak,g_zy,g_zg,g_zaz,g_zae,g_zbb,g_zax,g_zag,g_zaf,g_zaq,g_zam,F_zbd.toD,(fun j _=>by rw [List.drop_nil];exact b_zbd),.nil,ci X G a_zbd,ci X G a_zbg,kp_zbg,x_zbg.ecls (by decide +kernel),in_zbg,ci X G a_zbf,kp_zbf,x_zbf.ecls tl_1,in_zbf,ci X G a_zbj,kp_zbj,x_zbj.ecls tl_2,in_zbj,ci X G a_zbl,kp_zbl,mk_zbl,in_zbl,⟨pg_zbl,hd_zbl,po_zbl,sa_zbl⟩,ci X G a_zbi,kp_zbi,mk_zbi,in_zbi,⟨pg_zbi,hd_zbi,po_zbi,sa_zbi⟩,ci X G a_zbn,kp_zbn,mk_zbn,in_zbn,⟨pg_zbn,hd_zbn,po_zbn,sa_zbn⟩,ci X G a_zbm,kp_zbm,mk_zbm,in_zbm,⟨pg_zbm,hd_zbm,po_zbm,sa_zbm⟩,⟨mt_zb,g_zb.i,g_zb.F.kp⟩,⟨mt_zc,g_zc.i,g_zc.F.kp⟩,⟨mt_zak,g_zak.i,g_zak.F.kp⟩,⟨mt_zg,g_zg.i,g_zg.F.kp⟩,⟨mt_Para_holds,g_zy.i,g_zy.F.kp⟩,⟨mt_Table_holds,g_zy.i,g_zy.F.kp⟩,⟨mt_Chapter_joined,g_zr.i,g_zr.F.kp⟩,⟨mt_Para_joined,g_zr.i,g_zr.F.kp⟩,⟨mt_zm,g_zm.i,g_zm.F.kp⟩,⟨mt_zh,g_zh.i,g_zh.F.kp⟩,⟨mt_zal,g_zal.i,g_zal.F.kp⟩,⟨mt_zi,g_zi.i,g_zi.F.kp⟩,⟨mt_zs,g_zs.i,g_zs.F.kp⟩,⟨mt_zt,g_zt.i,g_zt.F.kp⟩,⟨mt_zd,g_zd.i,g_zd.F.kp⟩,⟨mt_zj,g_zj.i,g_zj.F.kp⟩,⟨mt_Chapter_shown,g_zz.i,g_zz.F.kp⟩,⟨mt_Para_shown,g_zz.i,g_zz.F.kp⟩,⟨mt_zv,g_zv.i,g_zv.F.kp⟩,⟨mt_zu,g_zu.i,g_zu.F.kp⟩,⟨mt_za,g_za.i,g_za.F.kp⟩,⟨mt_zab,g_zab.i,g_zab.F.kp⟩,⟨mt_zl,g_zl.i,g_zl.F.kp⟩,⟨mt_zaj,g_zaj.i,g_zaj.F.kp⟩,⟨mt_zac,g_zac.i,g_zac.F.kp⟩,⟨mt_ze,g_ze.i,g_ze.F.kp⟩,⟨ks_ze,kt_ze⟩,ci X G v_zbo,r_zbo,ci X G v_zbh,r_zbh,ci X G v_zbe,r_zbe,ci X G v_zbk,r_zbk,(fun x hx=>by
   simp only [bl,aG,cf,or_false] at hx
   rcases hx with rfl|rfl|rfl|rfl|rfl|rfl|rfl|rfl|rfl|rfl|rfl|rfl|rfl
   all_goals exact PySem.W.mg_none_of X G (by assumption)),⟨⟨pg_zbl,hd_zbl,po_zbl,sa_zbl⟩,na_zbl,fun C h=>(List.mem_cons.mp h).elim (fun e=>e▸⟨pg_zbi,hd_zbi,po_zbi,sa_zbi⟩) fun h=>(List.mem_cons.mp h).elim (fun e=>e▸⟨pg_zbn,hd_zbn,po_zbn,sa_zbn⟩) fun h=>List.mem_singleton.mp h▸⟨pg_zbm,hd_zbm,po_zbm,sa_zbm⟩⟩⟩
 exact⟨_,b8 "law" "law" (Bk Du) (Aj Du) (Ab Du) .none kV_zbd dc_zbd pm_zbd an_zbd cd_zbd ct_zbd,fun s v=>.of_eq rfl,fun base _ _=>a81 AO⟩
noncomputable def sp0 (K:ae):Sp:=fun vs H Q _=>∃ (a:Addr) (ns:List Int),vs=[.ref a]/\SqL K H a (ns.map V.int)/\ns.length<=63 /\ ∀ H',Q (.bl true) H'
theorem walk {l:j3} {q:aI} {loose:List Str} {XP:(Str->Option Value)->Heap->Prop} {YP:bp->Heap->Prop} {d:DefRec} {K:Params->ae} (hn:l.most=some 63) (hdf:d.params.defaults=[])
  (hY:∀ (w:bp) (h:Heap),YP w h->(K w.params).In h)
  (F:∀ (w:bp) (mg:Str->Option Value) (fa:Addr) (h:Heap),(K w.params).In h->h.Ns aZ mg->mg d.name=some (.ref fa) ->
   ∃ (t:Adr) (fd:au),(∀ (s:aj) (u:Value),mh s fd ⟨[u],[]⟩ [("_law_script", u)]) /\ ∀ base:Heap,(K w.params).In base->base.Ns aZ mg->FnOk l.prog w (K w.params) mg base CX0 12 fa fd ["_law_script"] (M8 (K w.params) t)) :
  PySem.W.WalkO q loose XP YP l.row.toRowW d [] (fun f vs=>PySem.call f vs):=
 L2.walk_of (n:=63) (k:=12) (x := "_law_script") (CX:=fun _=>CX0) (sp:=fun w=>sp0 (K w.params)) (fun _ _=>bD) hn (by decide) hdf ⟨rfl,by decide,by decide⟩ hY (fun w mg fa h a b c=>let ⟨t,fd,h1,h2⟩:=F w mg fa h a b c;⟨fd,h1,fun base x y=>(h2 base x y).imp fun vs H Q E z=>z⟩) (fun _ _ a ns hl _ hS=>⟨a,ns,rfl,hS,hl,fun _=>rfl⟩) fun _ _ _ _ _ z=>z
end K71
open PySem PySem.W PyProof.Rows
end
set_option maxRecDepth 100000 in
set_option maxHeartbeats 0 in
theorem PySem.Challenge.cw_manyleaf_k71_one_side_holds : PySem.Challenge.rw_manyleaf_k71_one_side.Holds := by
 refine head_k71 ?_
 k_fill
 refine K71.walk (l:=PySem.Challenge.rw_manyleaf_k71_one_side) rfl rfl (fun w h Y=>PySem.W.kIn_of Y) ?F
 case F=>
  intro w mg fa h KX G hmg
  refine' K71.all_mk KX G hmg ?a_zbg ?a_zbf ?a_zbj ?in_zbg ?kp_zbg ?in_zbf ?kp_zbf ?in_zbj ?kp_zbj ?a_zbl ?a_zbi ?a_zbn ?a_zbm ?in_zbl ?kp_zbl ?mk_zbl ?pg_zbl ?hd_zbl ?po_zbl ?sa_zbl ?in_zbi ?kp_zbi ?mk_zbi ?pg_zbi ?hd_zbi ?po_zbi ?sa_zbi ?in_zbn ?kp_zbn ?mk_zbn ?pg_zbn ?hd_zbn ?po_zbn ?sa_zbn ?in_zbm ?kp_zbm ?mk_zbm ?pg_zbm ?hd_zbm ?po_zbm ?sa_zbm ?mt_zb ?mt_zc ?mt_zak ?mt_zg ?mt_Para_holds ?mt_Table_holds ?mt_Chapter_joined ?mt_Para_joined ?mt_zm ?mt_zh ?mt_zal ?mt_zi ?mt_zs ?mt_zt ?mt_zd ?mt_zj ?mt_Chapter_shown ?mt_Para_shown ?mt_zv ?mt_zu ?mt_za ?mt_zab ?mt_zl ?mt_zaj ?mt_zac ?mt_ze ?ks_ze ?kt_ze ?q_zw ?q_zba ?q_zao ?q_zau ?q_zx ?q_zap ?q_zad ?q_zaw ?q_zav ?q_zan ?q_zt ?l_zf ?c_zf ?k_zf ?if_zf ?ld_zf ?q_zu ?q_zd ?q_zj ?q_ze ?q_zb ?q_zab ?q_zh ?q_zc ?q_zi ?q_zs ?q_zal ?q_zaa ?q_za ?q_zar ?q_zat ?q_zbc ?q_zz ?q_zai ?q_zas ?q_zv ?q_zl ?q_zaj ?q_zac ?q_zq ?q_zah ?q_zp ?q_zr ?q_zay ?q_zn ?q_zm ?q_zk ?q_zo ?q_zak ?q_zy ?q_zg ?q_zaz ?q_zae ?q_zbb ?q_zax ?q_zag ?q_zaf ?q_zaq ?q_zam ?a_zbd ?l_zbd ?c_zbd ?k_zbd ?x_zbg ?x_zbf ?x_zbj ?v_zbo ?r_zbo ?v_zbh ?r_zbh ?v_zbe ?r_zbe ?v_zbk ?r_zbk ?z_int ?z_isinstance ?z_len ?z_list ?z_max ?z_min ?z_range ?z_reversed ?z_set ?z_sorted ?z_str ?z_tuple ?z_zip ?na_zbl
  (case a_zbg=>k_is)
  (case a_zbf=>k_is)
  (case a_zbj=>k_is)
  (case in_zbg=>k_is)
  (case kp_zbg=>k_is)
  (case in_zbf=>k_is)
  (case kp_zbf=>k_is)
  (case in_zbj=>k_is)
  (case kp_zbj=>k_is)
  (case a_zbl=>k_is)
  (case a_zbi=>k_is)
  (case a_zbn=>k_is)
  (case a_zbm=>k_is)
  (case in_zbl=>k_is)
  (case kp_zbl=>k_is)
  (case mk_zbl=>k_is)
  (case pg_zbl=>k_is)
  (case hd_zbl=>k_is)
  (case po_zbl=>k_is)
  (case sa_zbl=>k_is)
  (case in_zbi=>k_is)
  (case kp_zbi=>k_is)
  (case mk_zbi=>k_is)
  (case pg_zbi=>k_is)
  (case hd_zbi=>k_is)
  (case po_zbi=>k_is)
  (case sa_zbi=>k_is)
  (case in_zbn=>k_is)
  (case kp_zbn=>k_is)
  (case mk_zbn=>k_is)
  (case pg_zbn=>k_is)
  (case hd_zbn=>k_is)
  (case po_zbn=>k_is)
  (case sa_zbn=>k_is)
  (case in_zbm=>k_is)
  (case kp_zbm=>k_is)
  (case mk_zbm=>k_is)
  (case pg_zbm=>k_is)
  (case hd_zbm=>k_is)
  (case po_zbm=>k_is)
  (case sa_zbm=>k_is)
  (case mt_zb=>k_is)
  (case mt_zc=>k_is)
  (case mt_zak=>k_is)
  (case mt_zg=>k_is)
  (case mt_Para_holds=>k_is)
  (case mt_Table_holds=>k_is)
  (case mt_Chapter_joined=>k_is)
  (case mt_Para_joined=>k_is)
  (case mt_zm=>k_is)
  (case mt_zh=>k_is)
  (case mt_zal=>k_is)
  (case mt_zi=>k_is)
  (case mt_zs=>k_is)
  (case mt_zt=>k_is)
  (case mt_zd=>k_is)
  (case mt_zj=>k_is)
  (case mt_Chapter_shown=>k_is)
  (case mt_Para_shown=>k_is)
  (case mt_zv=>k_is)
  (case mt_zu=>k_is)
  (case mt_za=>k_is)
  (case mt_zab=>k_is)
  (case mt_zl=>k_is)
  (case mt_zaj=>k_is)
  (case mt_zac=>k_is)
  (case mt_ze=>k_is)
  (case ks_ze=>k_is)
  (case kt_ze=>k_is)
  (case q_zw=>refine' L2.top_mk ?a ?l ?c ?k;(case a=>k_is);(case l=>k_is);(case c=>k_is);(case k=>k_is))
  (case q_zba=>refine' L2.top_mk ?a ?l ?c ?k;(case a=>k_is);(case l=>k_is);(case c=>k_is);(case k=>k_is))
  (case q_zao=>refine' L2.top_mk ?a ?l ?c ?k;(case a=>k_is);(case l=>k_is);(case c=>k_is);(case k=>k_is))
  (case q_zau=>refine' L2.top_mk ?a ?l ?c ?k;(case a=>k_is);(case l=>k_is);(case c=>k_is);(case k=>k_is))
  (case q_zx=>refine' L2.top_mk ?a ?l ?c ?k;(case a=>k_is);(case l=>k_is);(case c=>k_is);(case k=>k_is))
  (case q_zap=>refine' L2.top_mk ?a ?l ?c ?k;(case a=>k_is);(case l=>k_is);(case c=>k_is);(case k=>k_is))
  (case q_zad=>refine' L2.top_mk ?a ?l ?c ?k;(case a=>k_is);(case l=>k_is);(case c=>k_is);(case k=>k_is))
  (case q_zaw=>refine' L2.top_mk ?a ?l ?c ?k;(case a=>k_is);(case l=>k_is);(case c=>k_is);(case k=>k_is))
  (case q_zav=>refine' L2.top_mk ?a ?l ?c ?k;(case a=>k_is);(case l=>k_is);(case c=>k_is);(case k=>k_is))
  (case q_zan=>refine' L2.top_mk ?a ?l ?c ?k;(case a=>k_is);(case l=>k_is);(case c=>k_is);(case k=>k_is))
  (case q_zt=>refine' L2.met_mk ?l ?c ?k ?i;(case l=>k_is);(case c=>k_is);(case k=>k_is);(case i=>k_is))
  (case l_zf=>k_is)
  (case c_zf=>k_is)
  (case k_zf=>k_is)
  (case if_zf=>k_is)
  (case ld_zf=>k_is)
  (case q_zu=>refine' L2.met_mk ?l ?c ?k ?i;(case l=>k_is);(case c=>k_is);(case k=>k_is);(case i=>k_is))
  (case q_zd=>refine' L2.met_mk ?l ?c ?k ?i;(case l=>k_is);(case c=>k_is);(case k=>k_is);(case i=>k_is))
  (case q_zj=>refine' L2.met_mk ?l ?c ?k ?i;(case l=>k_is);(case c=>k_is);(case k=>k_is);(case i=>k_is))
  (case q_ze=>refine' L2.met_mk ?l ?c ?k ?i;(case l=>k_is);(case c=>k_is);(case k=>k_is);(case i=>k_is))
  (case q_zb=>refine' L2.met_mk ?l ?c ?k ?i;(case l=>k_is);(case c=>k_is);(case k=>k_is);(case i=>k_is))
  (case q_zab=>refine' L2.met_mk ?l ?c ?k ?i;(case l=>k_is);(case c=>k_is);(case k=>k_is);(case i=>k_is))
  (case q_zh=>refine' L2.met_mk ?l ?c ?k ?i;(case l=>k_is);(case c=>k_is);(case k=>k_is);(case i=>k_is))
  (case q_zc=>refine' L2.met_mk ?l ?c ?k ?i;(case l=>k_is);(case c=>k_is);(case k=>k_is);(case i=>k_is))
  (case q_zi=>refine' L2.met_mk ?l ?c ?k ?i;(case l=>k_is);(case c=>k_is);(case k=>k_is);(case i=>k_is))
  (case q_zs=>refine' L2.met_mk ?l ?c ?k ?i;(case l=>k_is);(case c=>k_is);(case k=>k_is);(case i=>k_is))
  (case q_zal=>refine' L2.met_mk ?l ?c ?k ?i;(case l=>k_is);(case c=>k_is);(case k=>k_is);(case i=>k_is))
  (case q_zaa=>refine' L2.met_mk ?l ?c ?k ?i;(case l=>k_is);(case c=>k_is);(case k=>k_is);(case i=>k_is))
  (case q_za=>refine' L2.met_mk ?l ?c ?k ?i;(case l=>k_is);(case c=>k_is);(case k=>k_is);(case i=>k_is))
  (case q_zar=>refine' L2.top_mk ?a ?l ?c ?k;(case a=>k_is);(case l=>k_is);(case c=>k_is);(case k=>k_is))
  (case q_zat=>refine' L2.top_mk ?a ?l ?c ?k;(case a=>k_is);(case l=>k_is);(case c=>k_is);(case k=>k_is))
  (case q_zbc=>refine' L2.top_mk ?a ?l ?c ?k;(case a=>k_is);(case l=>k_is);(case c=>k_is);(case k=>k_is))
  (case q_zz=>refine' L2.met_mk ?l ?c ?k ?i;(case l=>k_is);(case c=>k_is);(case k=>k_is);(case i=>k_is))
  (case q_zai=>refine' L2.top_mk ?a ?l ?c ?k;(case a=>k_is);(case l=>k_is);(case c=>k_is);(case k=>k_is))
  (case q_zas=>refine' L2.top_mk ?a ?l ?c ?k;(case a=>k_is);(case l=>k_is);(case c=>k_is);(case k=>k_is))
  (case q_zv=>refine' L2.met_mk ?l ?c ?k ?i;(case l=>k_is);(case c=>k_is);(case k=>k_is);(case i=>k_is))
  (case q_zl=>refine' L2.met_mk ?l ?c ?k ?i;(case l=>k_is);(case c=>k_is);(case k=>k_is);(case i=>k_is))
  (case q_zaj=>refine' L2.met_mk ?l ?c ?k ?i;(case l=>k_is);(case c=>k_is);(case k=>k_is);(case i=>k_is))
  (case q_zac=>refine' L2.met_mk ?l ?c ?k ?i;(case l=>k_is);(case c=>k_is);(case k=>k_is);(case i=>k_is))
  (case q_zq=>refine' L2.top_mk ?a ?l ?c ?k;(case a=>k_is);(case l=>k_is);(case c=>k_is);(case k=>k_is))
  (case q_zah=>refine' L2.top_mk ?a ?l ?c ?k;(case a=>k_is);(case l=>k_is);(case c=>k_is);(case k=>k_is))
  (case q_zp=>refine' L2.top_mk ?a ?l ?c ?k;(case a=>k_is);(case l=>k_is);(case c=>k_is);(case k=>k_is))
  (case q_zr=>refine' L2.met_mk ?l ?c ?k ?i;(case l=>k_is);(case c=>k_is);(case k=>k_is);(case i=>k_is))
  (case q_zay=>refine' L2.top_mk ?a ?l ?c ?k;(case a=>k_is);(case l=>k_is);(case c=>k_is);(case k=>k_is))
  (case q_zn=>refine' L2.top_mk ?a ?l ?c ?k;(case a=>k_is);(case l=>k_is);(case c=>k_is);(case k=>k_is))
  (case q_zm=>refine' L2.met_mk ?l ?c ?k ?i;(case l=>k_is);(case c=>k_is);(case k=>k_is);(case i=>k_is))
  (case q_zk=>refine' L2.top_mk ?a ?l ?c ?k;(case a=>k_is);(case l=>k_is);(case c=>k_is);(case k=>k_is))
  (case q_zo=>refine' L2.top_mk ?a ?l ?c ?k;(case a=>k_is);(case l=>k_is);(case c=>k_is);(case k=>k_is))
  (case q_zak=>refine' L2.met_mk ?l ?c ?k ?i;(case l=>k_is);(case c=>k_is);(case k=>k_is);(case i=>k_is))
  (case q_zy=>refine' L2.met_mk ?l ?c ?k ?i;(case l=>k_is);(case c=>k_is);(case k=>k_is);(case i=>k_is))
  (case q_zg=>refine' L2.met_mk ?l ?c ?k ?i;(case l=>k_is);(case c=>k_is);(case k=>k_is);(case i=>k_is))
  (case q_zaz=>refine' L2.top_mk ?a ?l ?c ?k;(case a=>k_is);(case l=>k_is);(case c=>k_is);(case k=>k_is))
  (case q_zae=>refine' L2.top_mk ?a ?l ?c ?k;(case a=>k_is);(case l=>k_is);(case c=>k_is);(case k=>k_is))
  (case q_zbb=>refine' L2.top_mk ?a ?l ?c ?k;(case a=>k_is);(case l=>k_is);(case c=>k_is);(case k=>k_is))
  (case q_zax=>refine' L2.top_mk ?a ?l ?c ?k;(case a=>k_is);(case l=>k_is);(case c=>k_is);(case k=>k_is))
  (case q_zag=>refine' L2.top_mk ?a ?l ?c ?k;(case a=>k_is);(case l=>k_is);(case c=>k_is);(case k=>k_is))
  (case q_zaf=>refine' L2.top_mk ?a ?l ?c ?k;(case a=>k_is);(case l=>k_is);(case c=>k_is);(case k=>k_is))
  (case q_zaq=>refine' L2.top_mk ?a ?l ?c ?k;(case a=>k_is);(case l=>k_is);(case c=>k_is);(case k=>k_is))
  (case q_zam=>refine' L2.top_mk ?a ?l ?c ?k;(case a=>k_is);(case l=>k_is);(case c=>k_is);(case k=>k_is))
  (case a_zbd=>k_is)
  (case l_zbd=>k_is)
  (case c_zbd=>k_is)
  (case k_zbd=>k_is)
  (case x_zbg=>(refine' L2.xc_mk ?l ?y ?s ?g ?t ?c ?n ?k;(case l=>k_is);(case y=>k_is);(case s=>k_is);(case g=>k_is);(case t=>k_is);(case c=>k_is);(case n=>k_is);(case k=>k_is)))
  (case x_zbf=>(refine' L2.xc_mk ?l ?y ?s ?g ?t ?c ?n ?k;(case l=>k_is);(case y=>k_is);(case s=>k_is);(case g=>k_is);(case t=>k_is);(case c=>k_is);(case n=>k_is);(case k=>k_is)))
  (case x_zbj=>(refine' L2.xc_mk ?l ?y ?s ?g ?t ?c ?n ?k;(case l=>k_is);(case y=>k_is);(case s=>k_is);(case g=>k_is);(case t=>k_is);(case c=>k_is);(case n=>k_is);(case k=>k_is)))
  (case v_zbo=>k_is)
  (case r_zbo=>exact⟨_,rfl⟩)
  (case v_zbh=>k_is)
  (case r_zbh=>exact⟨_,rfl⟩)
  (case v_zbe=>k_is)
  (case r_zbe=>exact⟨_,rfl⟩)
  (case v_zbk=>k_is)
  (case r_zbk=>exact⟨_,rfl⟩)
  (case z_int=>k_is)
  (case z_isinstance=>k_is)
  (case z_len=>k_is)
  (case z_list=>k_is)
  (case z_max=>k_is)
  (case z_min=>k_is)
  (case z_range=>k_is)
  (case z_reversed=>k_is)
  (case z_set=>k_is)
  (case z_sorted=>k_is)
  (case z_str=>k_is)
  (case z_tuple=>k_is)
  (case z_zip=>k_is)
  (case na_zbl=>k_is)
#print axioms PySem.Challenge.cw_manyleaf_k71_one_side_holds
