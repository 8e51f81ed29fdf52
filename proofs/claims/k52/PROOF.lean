import PyProof.Rows.All
import Wide.All
import OpenK.AllK
import Wide.FinOn
import PyProof.ToksMono
import Lean
import PyProof.EqAt
import PyProof.EqKinds
import PyProof.TupleCall
import PyProof.NeKinds
import PyProof.ZipIter
import PyProof.StrWalks
import PyProof.ConsumeWalk
import PyProof.ExcArgs
import PyProof.ExcBaseAll.ValueError
import KE.KIsAll
import PyProof.EnumFor
import PyProof.EnumMake
import PyProof.EnumStmt
import PyProof.Rows.EnumRows
import PyProof.DictWalks
import PyProof.Rows.SetFrom
import PyProof.DictItems
import KE.KDictList
import PyProof.TupleIter
import PyProof.RulesRaise
import PyProof.RulesTry
import PyProof.MeetsIn
import KE.KEqDict
import PyProof.StrOps2
import PyProof.StrCalls6
import PyProof.ListMulRoad
import PyProof.FactsAll.tuple
import KE.KDictOf
import KE.KSortTup
import KE.KSortKey
import PyProof.Rows.Range3
import PyProof.Rows.ChunkLeaf
import KE.KRevIter
import PyProof.StationsW
import PyProof.PassesOwn
import KE.KLam
import KE.KNestM
import PySem.Challenge.RW_manyleaf_k52_shared_and_apart
set_option Elab.async false
set_option linter.all false
set_option compiler.extract_closed false
set_option bootstrap.genMatcherCode false
set_option maxRecDepth 100000
set_option maxHeartbeats 0
section
open PySem PySem.W PyProof.Rows
namespace PySem.W.Fast
def tw1011615311690254492:=()
def tw10588594528280399285:=()
def tw10634998735101664601:=()
def tw10768611388294055047:=()
def tw10896399304143484574:=()
def tw10956185893340046135:=()
def tw1106632125629157173:=()
def tw1108591877642758938:=()
def tw11144744395211803559:=()
def tw11234885112556480086:=()
def tw11474165493077830599:=()
def tw11673705884597776006:=()
def tw11814069424048408255:=()
def tw11836515650915553616:=()
def tw11844100944701208213:=()
def tw11910069104975781589:=()
def tw12004863345836615860:=()
def tw12106629198303307363:=()
def tw1236318255291931399:=()
def tw12409848136405104844:=()
def tw12410730312192729982:=()
def tw12904064545230291990:=()
def tw13015516387743520808:=()
def tw13172204021480409727:=()
def tw13321025068724501351:=()
def tw13724514810235257683:=()
def tw13836658141517877476:=()
def tw13944778365772139194:=()
def tw13990904354423206054:=()
def tw14018447219772546362:=()
def tw14126867134890821166:=()
def tw14257895345831770376:=()
def tw14352863130119334074:=()
def tw14406199684349566334:=()
def tw14686793247410847593:=()
def tw147106348418161332:=()
def tw14828785025283107616:=()
def tw14930923169016558407:=()
def tw14945744013189613983:=()
def tw14960631013909201996:=()
def tw15018390132295320267:=()
def tw15020634914105891869:=()
def tw151584734642196270:=()
def tw15167333150083731207:=()
def tw15188681024022372883:=()
def tw15675877825758254718:=()
def tw15844855571649160079:=()
def tw15948217254507523069:=()
def tw15959978904797311913:=()
def tw1599797535204363061:=()
def tw16141876189276545154:=()
def tw16532678321082936313:=()
def tw16766169329128832269:=()
def tw16868421011107252411:=()
def tw17005970885051194413:=()
def tw17087488808663183224:=()
def tw17513786814972722715:=()
def tw1767584804151009777:=()
def tw17765830252397584735:=()
def tw17778681880888013206:=()
def tw18121774740768431795:=()
def tw1815317469231905389:=()
def tw18264711532141033330:=()
def tw18361495403599554135:=()
def tw1946033769749279822:=()
def tw2004628501053479065:=()
def tw2390336208970992856:=()
def tw2448698090763481280:=()
def tw255915954935451500:=()
def tw2651656233562213718:=()
def tw2979029806296241097:=()
def tw3192661289973440251:=()
def tw3368334554693478777:=()
def tw346591850864613419:=()
def tw3625761225967409396:=()
def tw3949663099003218364:=()
def tw4263009150457206786:=()
def tw4356483071849334315:=()
def tw4394604186901933567:=()
def tw449263149260843514:=()
def tw4521186487574565301:=()
def tw45513968079193099:=()
def tw4829835705836361802:=()
def tw5433806165284387479:=()
def tw5754669485082945951:=()
def tw5850111142990828976:=()
def tw5895755897056555412:=()
def tw5967306443910677825:=()
def tw6089464226704559033:=()
def tw613922556910422389:=()
def tw6164007953002645168:=()
def tw6316498951251532998:=()
def tw6528739007420048521:=()
def tw6588991555078262254:=()
def tw6620713165511966986:=()
def tw6780128504119131157:=()
def tw6857821181253853766:=()
def tw7089981503670006042:=()
def tw7207317127259110552:=()
def tw7219174917933729455:=()
def tw733201959589886299:=()
def tw7629736437682832016:=()
def tw7747362348779854791:=()
def tw7763021535067530336:=()
def tw7776904014882266737:=()
def tw8012465218245507922:=()
def tw8029735739860698938:=()
def tw8129184853610305289:=()
def tw8351189963956681123:=()
def tw8472022987717067480:=()
def tw849961669044114611:=()
def tw8512119721585786871:=()
def tw8530265128271935454:=()
def tw8833845191708679120:=()
def tw9114529860477352978:=()
def tw914550195364121788:=()
def tw9327104595807785092:=()
def tw95168461429720013:=()
def tw9692411652366450214:=()
def tw9717435226479163220:=()
def tw9766025029666572248:=()
def tw9829275371323810197:=()
def tw9982545055879245232:=()
def tw9953184476140233329:=()
def tw7362692313479209342:=()
def tw12492834786609223866:=()
def tw9570461614902570097:=()
def tw12136474512375303037:=()
def tw2306256962737961801:=()
def tw2474820961996879602:=()
def tw9432647842197753368:=()
def tw7843690571208198669:=()
def tw6810988080961208218:=()
def tw12582738443817209730:=()
def tw6235207270792493880:=()
def tw12962638432532386914:=()
def tw17043815765629914825:=()
def tw14885322438565343788:=()
def tw15381644234459074192:=()
def tw11584747666673558919:=()
def tw2817521597501390295:=()
def tw6526733656316147872:=()
def tw914869138098290352:=()
def tw11821835503492416514:=()
def tw17084749897269035078:=()
def tw5257064881354507248:=()
def tw6494097229432671991:=()
def tw15302862350743220192:=()
def tw4696710634260700627:=()
def tw5224803213712371761:=()
def tw6007380229331233589:=()
def tw7179614892098877244:=()
def tw9969277171169641870:=()
def tw14771089318514504418:=()
def tw15790083952651420871:=()
def tw11695385599315642928:=()
def tw8206332800583324908:=()
def tw7097422983229685506:=()
def tw2189907994044699021:=()
def tw8717921563518654993:=()
def tw17965171187269370881:=()
def tw9184408159712001190:=()
def tw13542217849315356568:=()
def tw10605161977780297465:=()
def tw4519336708650802283:=()
def tw16336240206843292978:=()
def tw9886214608048099291:=()
def tw638421189458611184:=()
def tw7415144433195799930:=()
def tw191277547725186953:=()
def tw3218840038611068135:=()
def tw2711624702169641196:=()
def tw17221778984650984754:=()
def tw749653763224928689:=()
def tw2958533000589617481:=()
def tw15622613391472812654:=()
def tw12008000508920004181:=()
def tw13884458674184407989:=()
def tw8655605767302235213:=()
def tw11035573022565859221:=()
def tw11849350712364440084:=()
def tw1454662909920193557:=()
def tw6805901987498184171:=()
def tw6335023924358623116:=()
def tw919075472349743673:=()
def tw3697307670600515664:=()
def tw3325871394725044840:=()
def tw3053405251988767187:=()
def tw16438365856620207950:=()
def tw4591616152821266527:=()
def tw11127494188332253565:=()
def tw6001676318513256590:=()
def tw16629829348046540663:=()
def tw5975759374762275358:=()
def tw14596326155687173388:=()
def tw5823712450474651783:=()
def tw5386312748846055710:=()
def tw14090623955654003097:=()
def tw4045553008993539636:=()
def tw16895735871564446064:=()
def tw7130596897993024404:=()
def tw8760605403985803861:=()
def tw12235087314587590590:=()
def tw8724376440604407944:=()
def tw13309210372285721493:=()
def tw17321056984346855922:=()
def tw1034051494691789475:=()
def tw17549099792759031293:=()
def tw917257748866319150:=()
def tw16827054135167248553:=()
def tw12860951888236806816:=()
def tw17319291253215143241:=()
def tw17853727974997232745:=()
def tw17768785577609237409:=()
def tw15072831267720339158:=()
def tw4550929429540729147:=()
def tw9660308690621579915:=()
def tw8725044520031422451:=()
def tw1994504902589698665:=()
def tw3442192133821502831:=()
def tw7122741559341943315:=()
def tw1724389439293986056:=()
def tw14398424609874124803:=()
def tw1731963498896076603:=()
def tw9054381649548178810:=()
def tw7558947317416912962:=()
def tw3891090559118592817:=()
def tw12645125768054214393:=()
def tw8066642355920157374:=()
def tw8802977371955307246:=()
def tw6746105632520164588:=()
def tw13868888964247785116:=()
def tw15580144117010492099:=()
def tw10321947359919793225:=()
def tw13873406037394967652:=()
def tw5751930338890842244:=()
def tw9062509346815970052:=()
def tw9158448906260667567:=()
def tw2850240996617843470:=()
def tw15565646518390001799:=()
def tw6711239608528163268:=()
def tw896530307579992846:=()
def tw2556920919314368307:=()
def tw2564771009854357030:=()
def tw6262815293678224469:=()
def tw2143674417924213322:=()
def tw9673679241897879136:=()
def tw9566103332784379692:=()
def tw15637321298673134468:=()
def tw2123931672854991755:=()
def tw16675450772041036137:=()
def tw17450200548013065788:=()
def tw14913003123705583637:=()
def tw7136932924010551344:=()
def tw12562392900799937197:=()
def tw10477391276626642603:=()
def tw12422179931585011366:=()
def tw14389831753770587082:=()
def tw12463760951043862715:=()
def tw11833621699273352187:=()
def tw6428094804902400089:=()
def tw3197519507480258553:=()
def tw12294077663101877205:=()
def tw13224996538187553658:=()
def tw8020262618055340869:=()
def tw10628167506465086163:=()
def tw17255811822048918425:=()
def tw7557348729128891697:=()
def tw14698321934297991593:=()
def tw13498304579479841637:=()
def tw11109774204402426714:=()
def tw15120276615108310148:=()
def tw15328156817519353623:=()
def tw11046307449674140187:=()
def tw4668335027537487292:=()
def tw4618956319068754738:=()
def tw17962046019431406820:=()
def tw14844318059530067913:=()
def tw4931778852681661327:=()
def tw17296307485018494648:=()
def tw13931783337891227744:=()
def tw12288000077100954395:=()
def tw11233171673152376192:=()
def tw7040714458130565926:=()
def tw16535715798002227118:=()
def tw4165729768078212127:=()
def tw12675616521207986210:=()
def tw2738319220152006456:=()
def tw16328987250050944320:=()
def tw1983970376750748171:=()
def tw14349891759391447204:=()
def tw12690813639563755053:=()
def tw11448094118798007428:=()
def tw8837744298177376584:=()
def tw17068184740624536971:=()
def tw14873711694467237957:=()
def tw11029848650563949668:=()
def tw13378260165278906943:=()
def tw11740172172188459213:=()
def tw12307687100309905423:=()
def tw8926171058135837919:=()
def tw11375496257274019061:=()
def tw8275043831295620394:=()
def tw11986542010901947084:=()
def tw5919896111056637096:=()
def tw3716717274248437839:=()
def tw5318864302498889895:=()
def tw17576953208921006975:=()
def tw11488174592033545166:=()
def tw13964944784613635989:=()
def tw7261247466334052772:=()
def tw11292413210596073923:=()
def tw14699673451683811771:=()
def tw13764963226072190895:=()
def tw14094108496729300249:=()
def tw7119009128315039984:=()
def tw3265368182559961879:=()
def tw5870660398250289257:=()
def tw13675629174497270071:=()
def tw9995476350866045961:=()
def tw5719114755785090304:=()
def tw5204070956006326044:=()
def tw11036053943886741574:=()
def tw18070041669693128838:=()
def tw15583411335451604632:=()
def tw2269556309485163636:=()
def tw560652537089843975:=()
def tw1809560073463000321:=()
def tw9852152490418068826:=()
def tw9072034971196943303:=()
def tw1903980693477939080:=()
def tw39441651982319892:=()
def tw5235496413434588472:=()
def tw10640537842088642876:=()
def tw13145804501137700143:=()
def tw12463025655700033713:=()
def tw17078572488013788405:=()
def tw6515237533477314997:=()
def tw14809871204471222843:=()
def tw7669817034295216603:=()
def tw270168123966629262:=()
def tw2077238956318839158:=()
def tw3082406187178298152:=()
def tw8291545667882989828:=()
def tw3720137641674185858:=()
def tw6459230054370307208:=()
def tw5143852753665830381:=()
def tw10888908332876372011:=()
def tw7533432033546449865:=()
def tw17195311291649683533:=()
def tw484586557192164658:=()
def tw12619405385513640041:=()
def tw11482505786401386852:=()
def tw10399597321891701724:=()
def tw12280751439453798529:=()
def tw10276615185255708595:=()
def tw12544732868766753081:=()
def tw5803909299062776738:=()
def tw11969973028292774475:=()
def tw8793532922132489286:=()
def tw9173706058424675212:=()
def tw4351424468895832027:=()
def tw17144142768501198371:=()
def tw11971958151572714902:=()
def tw1333786697463576524:=()
def tw9554728614376651796:=()
def tw1095992670365292243:=()
def tw16296679848729842580:=()
def tw12065620440191565189:=()
def tw2948735805768104153:=()
def tw9070687643599032020:=()
def tw6087187791395672962:=()
def tw16729372228670299206:=()
def tw14723026418647353524:=()
def tw1396770008414647670:=()
def tw13197334518858012630:=()
def tw14740541059055211065:=()
def tw11352953142320259793:=()
def tw10579185492836394294:=()
def tw4497001711266770579:=()
def tw2095562755833651579:=()
def tw4975119218044759127:=()
def tw13602444566240717856:=()
def tw5679730970542822609:=()
def tw3304893341437208998:=()
def tw15173779278206021786:=()
def tw10891574074906304791:=()
def tw3351188584641901842:=()
def tw16469879292104131016:=()
def tw10165938492865496445:=()
def tw9129547505513136543:=()
def tw3652655993295169641:=()
def tw17354230063838305738:=()
def tw14145263566660547581:=()
def tw17397946850770260357:=()
def tw5612224286787195475:=()
def tw2104604418489071156:=()
def tw11411274645592411254:=()
def tw1668463700501689654:=()
def tw3836603073911145775:=()
def tw11132054391544993508:=()
def tw10877818435530100743:=()
def tw636860713608923144:=()
def tw14035914776308018828:=()
def tw8211002375637680867:=()
def tw798988531257135034:=()
def tw6235744363012869634:=()
def tw489431170015117882:=()
def tw2729646289448547851:=()
def tw16585635648629312120:=()
def tw15140859140785585958:=()
def tw15001564318848152234:=()
def tw12246214132640665163:=()
def tw6292563915518867927:=()
def tw18090818872416666054:=()
def tw14834851198104840598:=()
def tw1203026097615919023:=()
def tw7876781226300745602:=()
def tw14493616324236133814:=()
def tw17174874781465618487:=()
def tw8410348791494049271:=()
def tw4184097958753985905:=()
def tw18219641920061198293:=()
def tw170215339502761216:=()
def tw8045322501766848547:=()
def tw16092850573576609982:=()
def tw15771527148652613745:=()
def tw13427028333131669998:=()
def tw10775398576905040506:=()
def tw9060695974704640728:=()
def tw5275488380616582444:=()
def tw3704659988999268028:=()
def tw15240608030514896321:=()
def tw14386834250891217408:=()
def tw11693172434410938221:=()
def tw4159156049964875168:=()
def tw3729229124801281895:=()
def tw1061283358325074175:=()
def tw10566651039621043628:=()
def tw10291039614497222069:=()
def tw3526044086325031601:=()
def tw16059857095785466897:=()
def tw10199894273319143843:=()
def tw4593931703248692448:=()
def tw17572389640441658013:=()
def tw14812972893533301685:=()
def tw2387452816846605210:=()
def tw4370945576293083526:=()
def tw1198513491583003932:=()
def tw11270987090457212842:=()
def tw903672890704397794:=()
def tw18274937350899497918:=()
def tw4721252463522272993:=()
def tw2804536364154078017:=()
def tw2009391280890917742:=()
def tw17507378642645174058:=()
def tw1404184909310082667:=()
def tw13577559748952031827:=()
def tw11973501878866041998:=()
def tw836383435537975177:=()
def tw17242475683576000922:=()
def tw1441438764411784857:=()
def tw6212272034913913887:=()
def tw1884726189764011418:=()
def tw3893655382282820313:=()
def tw8595495459502269622:=()
def tw5149608551042183936:=()
def tw3371352904616415265:=()
def tw5435400471443751346:=()
def tw9192693074291256182:=()
def tw2130308925443079049:=()
def tw17419503925973452457:=()
def tw7637984328712253941:=()
def tw16290812071630595423:=()
def tw15622672364296960821:=()
def tw14228219882817943921:=()
def tw13737572154077877573:=()
def tw1051159904142572555:=()
def tw7368923902858847770:=()
def tw408378229870172016:=()
def tw3259366012059921274:=()
def tw17073387919118234468:=()
def tw15826054312225584447:=()
def tw13478351104012110701:=()
def tw11968432981310059301:=()
def tw11583906954880547998:=()
def tw18247887099787087506:=()
def tw3957578727306312672:=()
def tw14503924693568797030:=()
def tw9868665852763077963:=()
def tw4342223127763387949:=()
def tw17966495376758181584:=()
def tw16134499121680548199:=()
def tw12168941860712959393:=()
def tw13422761101555655602:=()
def tw10989502589968350916:=()
def tw6331115357873037034:=()
def tw10076124069734195995:=()
def tw8428173686643537569:=()
def tw1978181826889863661:=()
def tw10339361709627726569:=()
def tw14544192491634759248:=()
def tw10354238419717668656:=()
def tw17515410602347774837:=()
def tw14177539366825698016:=()
def tw1464488995581560474:=()
def tw16190696859930613151:=()
def tw2921879084360266943:=()
def tw18394741796500599213:=()
def tw11981689500603579485:=()
def tw837995212245573614:=()
def tw7453768171126267229:=()
def tw4472640101269436212:=()
def tw14275886015502572559:=()
def tw1272021422072116885:=()
def tw1094589297405924056:=()
def tw9758311421205937178:=()
def tw943068637234571375:=()
def tw8748336567531950076:=()
def tw14625615681369272920:=()
def tw14114586699967688845:=()
def tw14026052889832615070:=()
def tw6129802831594502414:=()
def tw16081694365558763188:=()
def tw9698581650234678996:=()
def tw8397632263236198400:=()
def tw3768293561932937444:=()
def tw8944248431013346230:=()
def tw7344352958705953941:=()
def tw7049157055283585871:=()
def tw2986609209114291013:=()
def tw2173810865856559665:=()
def tw122956286554659321:=()
def tw8146602983538187848:=()
def tw4017953055160186287:=()
def tw2391971723901748760:=()
def tw18340622699040204428:=()
def tw11094813178647142160:=()
def tw7002360015118736153:=()
def tw12592181472440185324:=()
def tw11322951029071232353:=()
def tw9812200073679656230:=()
def tw8345057935271309457:=()
def tw6909393830839098442:=()
def tw485803488753665828:=()
def tw4680646261678719026:=()
def tw17567568784473816049:=()
def tw16570391528738598722:=()
def tw16562197297343750812:=()
def tw12957252237350859868:=()
def tw12884509274055302628:=()
def tw6460321352591558519:=()
def tw6103842543008812009:=()
def tw5588310662782134455:=()
def tw5089589705481593134:=()
def tw355839653641017417:=()
def tw269841042519864542:=()
def tw16917026640399115037:=()
def tw16501331202941793350:=()
def tw12966569719932121583:=()
def tw9951500374522922107:=()
def tw9673182945508922250:=()
def tw944742467755277689:=()
def tw9337366404693469902:=()
def tw8955115890652846175:=()
def tw880638581869183694:=()
def tw8577749150835575755:=()
def tw8474567360031931295:=()
def tw8438213629169498945:=()
def tw8314980365171866615:=()
def tw8219942264593968787:=()
def tw8194072005187089030:=()
def tw8184498629712976856:=()
def tw8059916533726420156:=()
def tw7788434381671163735:=()
def tw7654686273480953140:=()
def tw761554790526627142:=()
def tw7457252105331913902:=()
def tw7221714240146825653:=()
end PySem.W.Fast
open_top head_k52 for PySem.Challenge.rw_manyleaf_k52_shared_and_apart
end
section
open Array renaming length_toList->bU,getElem?_toList->cJ,getElem?_eq_getElem->dS,getElem?_eq_none->gu,perm_iff_toList_perm->ij,forIn_toList->iu,map->iF
open Bool renaming false_ne_true->av,and_eq_true->aU,false_eq_true->bq,eq_iff_iff->bQ,or_eq_true->df,beq_eq_decide_eq->fc,and_true->f_,and_false->gQ,eq_false_iff->iG,not_eq_true'->iH,false_or->iZ,true_and->i0,false_and->jY,not_true->ku
open Classical renaming byContradiction->fQ
open False renaming elim->cq
open ForInStep renaming yield->fh
open Int renaming toNat_natCast->aT,emod_lt_of_pos->cA,emod_nonneg->dj,mul_le_mul_of_nonneg_left->gZ,fdiv_eq_ediv_of_nonneg->io,emod_add_mul_ediv->jw,natCast_mul->jx,one_mul->kc,toNat->lC
open LawfulBEq renaming eq_of_beq->cQ
open List renaming length_map->ae,getElem?_eq_getElem->ag,getElem?_map->ak,mem_of_getElem?->al,map_append->aq,getD_eq_getElem?_getD->ar,mem_map->au,take_length->aw,size_toArray->ax,range->ay,mem_cons_of_mem->az,take_add_one->aA,mem_append->aC,mem_cons->aE,length_take->aG,map_map->aI,mem_append_right->aM,mem_cons_self->aN,length_cons->aO,map_cons->aP,length_append->aS,length_range->aV,all_eq_true->ba,getElem?_append_right->be,mem_iff_getElem?->bh,length_filter_le->bu,getElem?_cons_succ->bx,getElem?_eq_some_iff->bz,getElem?_append_left->bG,getElem?_eq_none->bH,append_nil->bI,length_reverse->bJ,map_congr_left->bK,foldl_cons->bR,nodup_cons->bS,all_cons->bW,any_eq_true->bX,getElem_mem->bY,length_singleton->b7,length->b9,length_eq_zero_iff->b_,mem_range->ck,mem_append_left->cm,toArray->cn,take_sublist_take_left->cr,mem_singleton->cB,mem_filter->cE,getElem_inj->cH,Pairwise->cN,filter_append->cO,getElem_map->cR,not_mem_nil->cS,getElem?_range->cY,mem_map_of_mem->cZ,mem_iff_getElem->dy,getElem?_cons_zero->dA,pairwise_iff_getElem->dU,take_sublist->d8,filterMap_cons->eG,getElem?_replicate->eI,filter_cons->eV,mem_filterMap->e_,pairwise_cons->fb,Sublist->fj,filter_nil->fm,find?_cons->fu,map_nil->fv,range_succ->fw,foldl_append->fG,nodup_append->fH,mem_of_mem_take->fO,filter_eq_self->fZ,any_cons->gd,take_of_length_le->gw,any_eq_false->gH,ext_getElem?->gI,lookup->gJ,nodup_nil->gR,all_map->gU,filterMap_append->gW,nil_sublist->g3,length_pos_iff->hV,of_mem_zip->hX,exists_mem_of_ne_nil->iy,rel_of_pairwise_cons->iz,append_assoc->iK,flatMap_cons->iL,getElem_take->iM,length_erase_of_mem->iN,map_take->i5,cons_append->jg,lookup_cons->jh,map_reverse->ji,map_snd_zip->jj,mem_flatMap->jk,mem_reverse->jm,getElem?_set_self->jq,length_pos_of_mem->jr,pairwise_lt_range->js,Perm->jz,length_nil->jA,getElem?_set_ne->jR,mem_erase_of_ne->jS,pairwise_append->jT,reverse_reverse->jU,replicate->jZ,getElem_range->ky,sum_cons->kz,any_map->k_
open List.Pairwise renaming filter->fN,map->gG,nil->iJ
open List.Perm renaming refl->ix
open List.Sublist renaming refl->cX
open Nat renaming le_refl->ah,le_of_ble_eq_true->aF,ne_of_lt->aJ,lt_of_lt_of_le->aL,le_trans->aY,le_add_right->aZ,lt_of_le_of_lt->a_,zero_le->bb,lt_succ_self->cw,succ_le_succ->cx,testBit_and->cF,zero_add->cT,lt_succ_of_lt->c7,testBit_two_pow->c8,zero_testBit->dw,le_succ->dW,eq_of_testBit_eq->d6,le_of_lt->ez,ne_of_gt->eC,testBit_or->eX,sub_self->fA,lt_irrefl->fI,lt_pow_two_of_testBit->fS,pow_le_pow_right->g5,add_assoc->g7,le_succ_of_le->iO,testBit_xor->jB,add_comm->lg,le_of_eq->lh,min_self->lj
open Ne renaming symm->cy
open Option renaming some->aW,toList_some->cD,map_eq_some_iff->dJ,map_some->fB,bind_some->g4,isSome_map->iP
open Option.some renaming inj->aH,injEq->fJ
open Or renaming inl->cP
open PyProof.Rows renaming seqObj->bo,callWith_type1->bL,get?_update_seq->d_,listUpdate_at->eO,boot_list->eY,callWith_builtin1->gX,seqEpoch_at->ie,tail_of_ItemOn->iD,boot_tuple->i7,subscriptTail_builtinR->jt,boot_int->jE,listItems_at->jJ,envOfC->j5,AllBare->j7,IntsAre->ke,size_push'->kX,bubble->lR,general'->lZ,keyKind'->l7,IsTup->ma
open PyProof.Rows.F renaming plain_set_update_loop->ga,entry_set_update_loop->i4
open PyProof.Rows.SortSt renaming mk'->kQ
open PySem renaming wpAny_bind->af,Value->ai,Shared->am,wpAny_pure->ao,Builtin->aK,wpAny->aQ,Program->aX,FuncData->a8,Around->bj,World->bB,wpAny_with_toks->bE,sizeLine_eq->bN,Spec->bP,wpAny_Call_Name_kw->bT,wpAny_mono->bZ,wpAny_setField_rec->b5,mem_of_lookup->ca,wpAny_holding->cb,wpAny_typeNameOfWhole_keyiter->cf,wpAny_callSpecial?_slot->cz,NameKind->cC,compareOp->cG,wpAny_call_entry->cI,wpAny_typeNameOf_keyiter->cL,bootBuiltins->cV,starEach->cW,wpAny_newObj_type->c9,wpAny_typeNameOfWhole_itemiter->dn,assignEach->dq,sysModules->du,binaryOp->dR,wpAny_fieldsOf->dX,wpAny_typeNameOf_itemiter->dY,codeAny_builtin->d9,wpAny_dictEntries->eh,wpAny_truthy_bool->eo,rawInt->eE,wpAny_field->eQ,wpAny_isOneOf_itemiter->e9,wpAny_dictEpoch->fF,foldedSetIterable->fK,wpAny_attempt->fL,wpAny_pyIter_dict->fM,firstArgMember->fV,wpAny_isInstance->fX,codeAny_mono->f8,pyNext->f9,wpAny_newList->gj,wpAny_passesOwn->gn,wpAny_standAt->gp,wpAny_pyIter_enum->gO,wpAny_newTuple->gS,call_meetsIn->gY,Paired->g6,bindArgs->g_,letOwnedTupleGo->ic,wpAny_specialOf->ig,wpAny_updateSeq->ii,wpAny_letOwnedTupleGo_enum->iq,wpAny_newFunctionEnv_cells->ir,codeAny->iB,relabel->iC,wpAny_setField->iE,backTo->iV,builtinsNs->iW,swapsWith->iX,wpAny_pyIter_list->iY,attributeBase->jb,behindInMarks->jc,plainId_quiet->jd,wpAny_Call_method0_late->je,noFill_tuple_add->jn,wpAny_pyNext_dict_item->ju,IsEnum->jy,PassesOwn->jC,Within->jH,wpAny_execs_nil->jK,wpAny_isOneOf_keyiter->jL,wpAny_ite_split->jM,wpAny_loadPart'->jN,closureFor->jP,setField->jQ,intBits_le_iff->jV,wpAny_pyIter_keyiter->jW,wpAny_pyIter_revIter->jX,isSubtype_stop->j6,evalArgs_none->kh,keywordEach->kq,wpAny_letGo->kr,seq_tuple_add->kK,swapsWithSole->kL,wpAny_handled->kM,BindsTo->kO,call_meets->kU,notedBy->kW,valueAt->kY,wpAny_call->kZ,wpAny_rule->k0,assign->lx,concat_meets->lA,DictEntry->lB,Keyword->lE,Fin->lF,callerA->lH,cellsFrom->lI,eqIsQuiet->lJ,holding->lK,pyIter->lN,updateSeq->lO,wpAny_of_eq->lP,wpAny_throw->lQ,CmpOp->lS,GenState->lU,Operator->lV,backToKw->lX,collect->lY,newTuple->l9,unaryOp->l_,Walks->me,atKey->mf,newExc->mh
open PySem.Around renaming under_plainId->dZ,under->k8
open PySem.Builtin renaming bitAnd->bO,bitNot->cj,bitOr->c_
open PySem.Builtin.Dict renaming showsAll->jv
open PySem.Builtin.Dict_items renaming ownsTuple->cM,pairFromOwner->gr
open PySem.Builtin.Int renaming intBits->hG
open PySem.Builtin.List renaming listExtendWith->dF,listFitsIndex->dL,listLengthHint->fe,listTooLong->f6,listSameRef->iI,listItems->jo
open PySem.Builtin.SmallTypes renaming nextOf->bF,ownedTupleHandOut->fP,ownedTupleIsFree->fY
open PySem.Builtin.Tuple renaming tupleHashOf->cg
open PySem.Calls renaming spliced_cons->dO,spliced_nil->d7,callWith_builtin->gv,Name_function_global->im
open PySem.Code renaming quiet_builtin->kx,isFrame->k9
open PySem.F renaming slot_dict_keyiterator_next->bV,slot_dict_itemiterator_next->dv,slot_dict_get->dQ,args_dict_keyiterator_next_1->eu,plainAttrs_list->eK,entry_dict_keyiterator_next->eU,entry_dict_get->eZ,called_set->ff,slot_enumerate_next->fg,args_tuple_add_2->f7,entry_tuple_add->gg,plainAttrs_dict->gh,slot_tuple_add->gx,args_dict_itemiterator_next_1->gC,slot_tuple_hash->gE,entry_dict_itemiterator_next->gT,plain_extend_loop->hU,slot_list_insert->iQ,args_enumerate_next_1->i3,args_dict_get_2->i8,args_dict_get_3->i9,slot_dict_clear->i_,slot_dict_items->ja,entry_enumerate_next->jp,entry_extend_loop->j8
open PySem.Heap renaming get?_push_of_some->aj,get?_push_size->aB,lt_size->aD,SameBut->a9,size_push->dB,get?_update_other->dI,get?_update_self->dP,size_update->jf,ExtBut->j9,get?_update_ne->j_
open PySem.Heap.SameBut renaming update->bD
open PySem.NameKind renaming free->eJ
open PySem.Obj renaming mapSeq->a7,data_mapFields->kC
open PySem.Paired renaming length->i6
open PySem.PassesOwn renaming never->jD
open PySem.Sem renaming wp_bind'->lq
open PySem.SeqAt renaming EqAt->bw,RcNeAt->fC,RcAt->gM
open PySem.SeqAt.EqAt renaming int_str->kE,str_int->kG
open PySem.SeqAt.RcAt renaming tuples->iU
open PySem.SeqAt.RcNeAt renaming lists_lengths->ip
open PySem.Shared renaming TypeIs->kH
open PySem.Str renaming ofString->cU,empty->fE
open PySem.Value renaming none->bi,ref->bv,type->dN,isStrOf->g9,str->h_,bool->jO,isStrOf_shape->kl,int->kI,isInt->lG
open PySem.W renaming Frag->ac,keepIn->bA,findIn->bC,kia_one->ce,fnOf->cu,emptyDict->cK,nsIn->dm,codeIn->dD,isFn->dE,instObj->dG,makesIn->dH,codeHdIn->dM,kitOne->fT,tabObj->fU,plainGet->fW,cellsFrom_some->gy,hasDictIn->gL,mg_of->g8,callWith_K0->hZ,plainGet_of->h9,kas_place->ib,callWith_K->iw,lookIn->iA,kitx_list->iR,methodObj->iS,plainOver->iT,OpenLaw->jF,takerIn->jG,kas_rev->jI,kla_fn->j0,codeHd_of_K->kg,kitx_tuple->kD,kas_desc->kJ,kas_asc->lL,kas_count->lM
open Sum renaming inr->gN,inl->kj
open True renaming intro->aR
namespace L2
open PySem PySem.Spec PyProof.Rows
noncomputable abbrev Key:=Sum Int Str
noncomputable def Nc:Key->ai->Bool
 |.inl k,v=>lG k v
 |.inr x,v=>g9 x v
noncomputable def bm0 (w:bB):Key->Int
 |.inl k=>hashInt k
 |.inr x=>hashStr w x
theorem Az:∀ {k:Key} {v:ai},Nc k v=true->(∃ i t,k=kj i/\v=kI i t)\/(∃ x t,k=gN x/\v=h_ x t)
 | .inl i,v,h=>by
  obtain⟨t,e⟩:=Value.isInt_shape (k:=i) (v:=v) h
  exact .inl ⟨i,t,rfl,e⟩
 | .inr x,v,h=>by
  obtain⟨t,e⟩:=kl (x:=x) (v:=v) h
  exact .inr ⟨x,t,rfl,e⟩
theorem Xv (i:Int) (t:Tok):Nc (.inl i) (.int i t)=true:=by simp[Nc,lG]
theorem Xw (x:Str) (t:Tok):Nc (.inr x) (.str x t)=true:=by simp[Nc,g9]
theorem a62 (a b:Int):decide ((kj a:Key)=kj b)=(a==b):=by
 by_cases e:a=b
 .subst e;simp
 .have h:¬ (kj a:Key)=kj b:=λq=>e (Sum.inl.inj q)
  rw[decide_eq_false h]
  exact (beq_eq_false_iff_ne.mpr e).symm
theorem a65 (a b:Str):decide ((gN a:Key)=gN b)=decide (a=b):=by
 by_cases e:a=b
 .subst e;simp
 .have h:¬ (gN a:Key)=gN b:=λq=>e (Sum.inr.inj q)
  rw[decide_eq_false h,decide_eq_false e]
theorem a63 (a:Int) (b:Str):decide ((kj a:Key)=gN b)=false:=decide_eq_false (λq=>nomatch q)
theorem a64 (a:Str) (b:Int):decide ((gN a:Key)=kj b)=false:=decide_eq_false (λq=>nomatch q)
noncomputable def Bd (prog:aX) (w:bB):PySem.KeyKind prog w Key where
 is:=Nc
 hash:=bm0 w
 inj:=λv a b ha hb=>by
  rcases Az ha with ⟨i,t,rfl,rfl⟩|⟨x,t,rfl,rfl⟩
  .rcases Az hb with ⟨j,u,rfl,e⟩|⟨y,u,rfl,e⟩
   .injection e with e1 _;rw[e1]
   .exact nomatch e
  .rcases Az hb with ⟨j,u,rfl,e⟩|⟨y,u,rfl,e⟩
   .exact nomatch e
   .injection e with e1 _;rw[e1]
 byValue:=λk v h=>by
  rcases Az h with ⟨i,t,rfl,rfl⟩|⟨x,t,rfl,rfl⟩ <;> rfl
 pyHash:=λhv h=>by
  rcases Az hv with ⟨i,t,rfl,rfl⟩|⟨x,t,rfl,rfl⟩
  .exact wpAny_pyHash_int h
  .exact wpAny_pyHash_str h
 eqBool:=λhu hv h=>by
  rcases Az hu with ⟨i,t,rfl,rfl⟩|⟨x,t,rfl,rfl⟩
  .rcases Az hv with ⟨j,u,rfl,rfl⟩|⟨y,u,rfl,rfl⟩
   .rw[a62] at h;exact wpAny_eqBool_int h
   .rw[a63] at h;exact kE i t y u _ _ _ _ h
  .rcases Az hv with ⟨j,u,rfl,rfl⟩|⟨y,u,rfl,rfl⟩
   .rw[a64] at h;exact kG x t j u _ _ _ _ h
   .rw[a65] at h;exact wpAny_eqBool_str h
 «strs»:=λk x t v h=>by
  rcases Az h with ⟨i,u,rfl,e⟩|⟨y,u,rfl,e⟩
  .exact nomatch e
  .injection e with e1 _
   subst e1
   cases v <;> rfl
theorem Q4 (prog:aX) (w:bB) (i:Int) (t:Tok):(Bd prog w).is (.inl i) (.int i t)=true:=Xv i t
theorem Q5 (prog:aX) (w:bB) (x:Str) (t:Tok):(Bd prog w).is (.inr x) (.str x t)=true:=Xw x t
inductive V where
 |non|bl (b:Bool)|int (i:Int)|str (x:Str)|byt (b:Array UInt8)|stk (x:Str) (n:Nat) (ex:Bool)|ref (a:Addr)|ty (n:String)
 deriving DecidableEq
noncomputable def RelV:V->ai->Prop
 |.non,u=>u=bi
 |.bl b,u=>u=jO b
 |.int i,u=>∃ t,u=kI i t
 |.str x,u=>∃ t,u=h_ x t
 |.byt b,u=>∃ t,u=Value.bytes b t
 |.stk x n ex,u=>∃ t,u=h_ x t/\(if ex=true then t=n else n<=t)
 |.ref a,u=>u=bv a
 |.ty n,u=>u=dN n
noncomputable def V.pl:V->Bool
 |.stk _ _ _=>false
 |_=>true
noncomputable abbrev Vals:List V->List ai->Prop:=g6 RelV
theorem Vals.length {xs:List V} {us:List ai} (r:Vals xs us):xs.length=us.length:=i6 r
theorem Vals.get:∀ {xs:List V} {us:List ai} {i:Nat} {x:V},Vals xs us->xs[i]? = some x -> ∃ u,us[i]? = some u/\RelV x u
 |_,_,_,_,.nil,e=>by simp at e
 |_,_,0,_,.cons r _,e=>by simp at e;subst e;exact⟨_,rfl,r⟩
 | _,_,i+1,x,.cons _ t,e=>by
  obtain⟨u,h1,h2⟩:=Vals.get (i:=i) (x:=x) t (by simpa using e)
  exact⟨u,by simpa using h1,h2⟩
theorem Vals.append:∀ {xs ys:List V} {us ws:List ai},Vals xs us->Vals ys ws->Vals (xs++ys) (us++ws)
 |_,_,_,_,.nil,s=>s
 |_,_,_,_,.cons r t,s=>.cons r (Vals.append t s)
theorem Vals.take:∀ {xs:List V} {us:List ai} (n:Nat),Vals xs us->Vals (xs.take n) (us.take n)
 |_,_,0,_=>.nil
 |_,_,_+1,.nil=>.nil
 |_,_,n+1,.cons r t=>.cons r (Vals.take n t)
theorem Vals.drop:∀ {xs:List V} {us:List ai} (n:Nat),Vals xs us->Vals (xs.drop n) (us.drop n)
 |_,_,0,r=>r
 |_,_,_+1,.nil=>.nil
 |_,_,n+1,.cons _ t=>Vals.drop n t
noncomputable def RelO:Option V->Option ai->Prop
 |some v,some u=>RelV v u
 |none,none=>True
 |_,_=>False
noncomputable def KV {κ:Type}:List (κ×V)->List (κ×ai)->Prop:=g6 λ(p:κ×V) (q:κ×ai)=>p.1=q.1/\RelV p.2 q.2
noncomputable def kV:Key->V
 |.inl i=>.int i
 |.inr x=>.str x
noncomputable def Bv:V->Bool
 |.non=>true
 |.bl _=>true
 |.int _=>true
 |.str _=>true
 |_=>false
noncomputable def eqV:V->V->Bool
 |.non,.non=>true
 |.bl a,.bl b=>a==b
 |.bl a,.int b=>(if a then 1 else 0)==b
 |.int a,.bl b=>a==(if b then 1 else 0)
 |.int a,.int b=>a==b
 |.str a,.str b=>a==b
 |_,_=>false
theorem Oe {A:bj} {s:am} {y x:V} {u v:ai} (ry:RelV y u) (rx:RelV x v) (fy:Bv y=true) (fx:Bv x=true):bw A s u v (eqV y x):=by
 cases y with
 |non=>
  cases ry
  cases x with
  |non=>cases rx;exact SeqAt.EqAt.same _
  |bl b=>cases rx;exact SeqAt.EqAt.none_bool b
  |int b=>obtain⟨t,rfl⟩:=rx;exact SeqAt.EqAt.none_int b t
  |str b=>obtain⟨t,rfl⟩:=rx;exact SeqAt.EqAt.none_str b t
  |_=>exact absurd (show false=true from fx) av
 |bl a=>
  cases ry
  cases x with
  |non=>cases rx;exact SeqAt.EqAt.bool_none a
  |bl b=>cases rx;exact SeqAt.EqAt.bool_bool a b
  |int b=>obtain⟨t,rfl⟩:=rx;exact SeqAt.EqAt.bool_int a b t
  |str b=>obtain⟨t,rfl⟩:=rx;exact SeqAt.EqAt.bool_str a b t
  |_=>exact absurd (show false=true from fx) av
 |int a=>
  obtain⟨t',rfl⟩:=ry
  cases x with
  |non=>cases rx;exact SeqAt.EqAt.int_none a t'
  |bl b=>cases rx;exact SeqAt.EqAt.int_bool a t' b
  |int b=>obtain⟨t,rfl⟩:=rx;exact SeqAt.EqAt.int_int a t' b t
  |str b=>obtain⟨t,rfl⟩:=rx;exact kE a t' b t
  |_=>exact absurd (show false=true from fx) av
 |str a=>
  obtain⟨t',rfl⟩:=ry
  cases x with
  |non=>cases rx;exact SeqAt.EqAt.str_none a t'
  |bl b=>cases rx;exact SeqAt.EqAt.str_bool a t' b
  |int b=>obtain⟨t,rfl⟩:=rx;exact kG a t' b t
  |str b=>obtain⟨t,rfl⟩:=rx;exact SeqAt.EqAt.str_str a t' b t
  |_=>exact absurd (show false=true from fx) av
 |_=>exact absurd (show false=true from fy) av
inductive TK where
 |at_ (k:Key)
 |tup (l:List TK)
noncomputable instance:DecidableEq TK:=λ_ _=>Classical.propDecidable _
mutual
noncomputable def TkIs (P:aX) (w:bB) (h:Heap):TK->ai->Prop
 |.at_ k,v=>(Bd P w).is k v=true
 |.tup l,v=>∃ a items,v=.ref a/\ma h a items/\TksAre P w h l items.toList
noncomputable def TksAre (P:aX) (w:bB) (h:Heap):List TK->List ai->Prop
 |[],vs=>vs=[]
 |k::ks,vs=>∃ v r,vs=v::r/\TkIs P w h k v/\TksAre P w h ks r
end
mutual
noncomputable def Fo (w:bB):TK->Int
 |.at_ k=>bm0 w k
 |.tup l=>reduceHash (cg (Bh w l))
noncomputable def Bh (w:bB):List TK->List Int
 |[]=>[]
 |k::ks=>Fo w k::Bh w ks
end
mutual
noncomputable def Dj:TK->Nat
 |.at_ _=>1
 |.tup l=>Bu l+1
noncomputable def Bu:List TK->Nat
 |[]=>0
 |k::ks=>Dj k+Bu ks
end
mutual
noncomputable def Ar:TK->Nat
 |.at_ _=>0
 |.tup l=>Cd l+1
noncomputable def Cd:List TK->Nat
 |[]=>0
 |k::ks=>Nat.max (Ar k) (Cd ks)
end
theorem E0:∀ {l:List TK} {k:TK},k∈l->Ar k<=Cd l
 |[],_,h=>by cases h
 | x::l,k,h=>by
  unfold Cd
  rcases List.mem_cons.mp h with rfl|h
  .exact Nat.le_max_left _ _
  .exact aY (E0 h) (Nat.le_max_right _ _)
theorem Hh (w:bB):∀ (a b:List TK),Bh w (a++b)=Bh w a++Bh w b
 |[],_=>by unfold Bh;rfl
 | x::a,b=>by
  show Fo w x::Bh w (a++b)=Fo w x::(Bh w a++Bh w b)
  rw[Hh w a b]
theorem Hd:∀ (a b:List TK),Bu (a++b)=Bu a+Bu b
 |[],_=>by show Bu _=0+_;rw[cT];rfl
 | x::a,b=>by
  show Dj x+Bu (a++b)=Dj x+Bu a+Bu b
  rw[Hd a b,g7]
section
variable {P:aX} {w:bB}
theorem Yw (k:TK):∀ {A:bj} {E:ai->am->Prop} {s:am} {v:ai} {Q:Int->am->Prop},A.units+Ar k<cLine->TkIs P w s.heap k v->Q (Fo w k) { s with toks:=s.toks+Dj k }->aQ (model P w) A (pyHash v) Q E s:=by
 refine TK.rec (motive_1:=λk=>∀ {A:bj} {E:ai->am->Prop} {s:am} {v:ai} {Q:Int->am->Prop},A.units+Ar k<cLine->TkIs P w s.heap k v->Q (Fo w k) { s with toks:=s.toks+Dj k }->aQ (model P w) A (pyHash v) Q E s)
  (motive_2:=λl=>∀ k∈l,∀ {A:bj} {E:ai->am->Prop} {s:am} {v:ai} {Q:Int->am->Prop},A.units+Ar k<cLine->TkIs P w s.heap k v->Q (Fo w k) { s with toks:=s.toks+Dj k }->aQ (model P w) A (pyHash v) Q E s)
  ?_ ?_ ?_ ?_ k
 .intro k A E s v Q _ hk h
  unfold TkIs at hk
  exact (Bd P w).pyHash hk h
 .intro l ih A E s v Q hu hk h
  unfold TkIs at hk
  obtain⟨a,items,rfl,ht,hi⟩:=hk
  have hT:=ht.typeIs
  obtain⟨o,ho,hc,n,hd⟩:=id ht
  have hu:A.units+(Cd l+1)<cLine:=hu
  unfold pyHash
  first|unfold pyHashByItsType|skip
  first|refine af (wpAny_cRoomFor_or (.inr (by omega)) ?_)|skip
  refine af (ig hT F.slot_tuple_hash.lookup ?_)
  show aQ _ _ (if (some (Value.builtin "tuple.__hash__")==some bi)=true then _ else _) Q E s
  rw[if_neg (by rw[beq_builtin_none];exact av)]
  refine af (ig hT F.slot_tuple_hash.lookup ?_)
  show aQ _ _ (callSpecialIfBoundUnlessNone? (.ref a) "__hash__" _ >>= _) Q E s
  refine af (wpAny_callSpecialIfBoundUnlessNone?_slot hT gE (cI gE hT F.entry_tuple_hash ?_ (F.args_tuple_hash_1 _)))
  show aQ _ _ (Builtin.Tuple.tupleItemsOf (.ref a) >>= _) _ _ s
  refine af (wpAny_tupleItemsOf ho hd ?_)
  refine af ?_
  rw[<- iu]
  refine wpAny_forIn_list _
   (λrest (b:Array Int) s'=>∃ done left,l=done++left/\TksAre P w s.heap left rest/\b.toList=Bh w done/\s'={ s with toks:=s.toks+Bu done })
   _ ?_ ?_ _ _ ⟨[],l,rfl,hi,rfl,rfl⟩
  .rintro x rest b s' ⟨done,left,rfl,hl,hb,rfl⟩
   cases left with
   |nil=>unfold TksAre at hl;cases hl
   |cons k ks=>
    unfold TksAre at hl
    obtain⟨v,r,e,h1,hl'⟩:=hl
    cases e
    have hm:k∈done++k::ks:=aM _ aN
    have dk:=E0 hm
    have dr:Bu (done++[k])=Bu done+Dj k:=by rw[Hd];show _+(Dj k+0)=_;omega
    have hh:Bh w (done++[k])=Bh w done++[Fo w k]:=by rw[Hh];rfl
    refine af (ih k hm (by first|omega|(show A.units+1+Ar k<cLine;omega)) h1 ?_)
    first
     |exact ao ⟨done++[k],ks,by simp,hl',by rw[hh];simp[hb],by rw[dr];simp[g7]⟩
     |exact af (ao (ao ⟨done++[k],ks,by simp,hl',by rw[hh];simp[hb],by rw[dr];simp[g7]⟩))
  .rintro b s' ⟨done,left,rfl,hl,hb,rfl⟩
   cases left with
   |cons k ks=>unfold TksAre at hl;obtain⟨v,r,e,_⟩:=hl;cases e
   |nil=>
    rw[bI] at h
    show aQ _ _ (retInt (cg b.toList)) _ _ _
    rw[hb]
    refine wpAny_ret_mkInt ?_
    show aQ _ _ (if (decide (-(2:Int) ^ 63<=cg (Bh w done))&&decide (cg (Bh w done)<2 ^ 63))=true then _ else _) Q E _
    have h:Q (reduceHash (cg (Bh w done))) { s with toks:=s.toks+(Bu done+1) }:=h
    unfold reduceHash at h
    by_cases hr:(decide (-(2:Int) ^ 63<=cg (Bh w done))&&decide (cg (Bh w done)<2 ^ 63))=true
    .rw[if_pos hr]
     rw[if_pos hr] at h
     exact ao (by simpa [g7] using h)
    .rw[if_neg hr]
     rw[if_neg hr] at h
     exact af (k0 (ao (by simpa [g7] using h)))
 .exact λk h=>by cases h
 .intro k l h1 h2 x hx
  rcases List.mem_cons.mp hx with rfl|hx
  .exact h1
  .exact h2 x hx
theorem TkIs.inj {h:Heap} (x:TK):∀ {y:TK} {v:ai},TkIs P w h x v->TkIs P w h y v->x=y:=by
 refine TK.rec (motive_1:=λx=>∀ {y:TK} {v:ai},TkIs P w h x v->TkIs P w h y v->x=y) (motive_2:=λl=>∀ {l':List TK} {vs:List ai},TksAre P w h l vs->TksAre P w h l' vs->l=l') ?_ ?_ ?_ ?_ x
 .intro k y v h1 h2
  unfold TkIs at h1
  cases y with
  |at_ k'=>unfold TkIs at h2;rw[(Bd P w).inj v k k' h1 h2]
  |tup l=>
   unfold TkIs at h2
   obtain⟨a,its,rfl,_⟩:=h2
   rcases Az h1 with ⟨i,t,_,e⟩|⟨z,t,_,e⟩ <;> cases e
 .intro l ih y v h1 h2
  unfold TkIs at h1
  obtain⟨a,its,rfl,t1,i1⟩:=h1
  cases y with
  |at_ k'=>
   unfold TkIs at h2
   rcases Az h2 with ⟨i,t,_,e⟩|⟨z,t,_,e⟩ <;> cases e
  |tup l'=>
   unfold TkIs at h2
   obtain⟨b,its',e,t2,i2⟩:=h2
   cases e
   obtain⟨o,ho,_,n,hd⟩:=t1
   obtain⟨o',ho',_,n',hd'⟩:=t2
   rw[ho] at ho'
   cases ho'
   rw[hd] at hd'
   cases hd'
   rw[ih i1 i2]
 .intro l' vs h1 h2
  unfold TksAre at h1
  subst h1
  cases l' with
  |nil=>rfl
  |cons k r=>unfold TksAre at h2;obtain⟨v,r',e,_⟩:=h2;cases e
 .intro k l ih1 ih2 l' vs h1 h2
  unfold TksAre at h1
  obtain⟨v,r,rfl,q1,q2⟩:=h1
  cases l' with
  |nil=>unfold TksAre at h2;cases h2
  |cons k' l'=>
   unfold TksAre at h2
   obtain⟨v',r',e,q3,q4⟩:=h2
   cases e
   rw[ih1 q1 q3,ih2 q2 q4]
theorem TkIs.up {h h':Heap} (k:∀ a its,ma h a its->ma h' a its) (x:TK):∀ {v:ai},TkIs P w h x v->TkIs P w h' x v:=by
 refine TK.rec (motive_1:=λx=>∀ {v:ai},TkIs P w h x v->TkIs P w h' x v) (motive_2:=λl=>∀ {vs:List ai},TksAre P w h l vs->TksAre P w h' l vs) ?_ ?_ ?_ ?_ x
 .intro k v q;unfold TkIs at q ⊢;exact q
 .intro l ih v q
  unfold TkIs at q ⊢
  obtain⟨a,its,e,t,i⟩:=q
  exact⟨a,its,e,k a its t,ih i⟩
 .intro vs q;unfold TksAre at q ⊢;exact q
 .intro x l h1 h2 vs q
  unfold TksAre at q ⊢
  obtain⟨v,r,e,q1,q2⟩:=q
  exact⟨v,r,e,h1 q1,h2 q2⟩
theorem TksAre.len {h:Heap}:∀ {l:List TK} {vs:List ai},TksAre P w h l vs->vs.length=l.length
 |[],vs,q=>by unfold TksAre at q;rw[q];rfl
 | k::l,vs,q=>by
  unfold TksAre at q
  obtain⟨v,r,rfl,_,q2⟩:=q
  rw[aO,aO,TksAre.len q2]
theorem TksAre.get {h:Heap}:∀ {l:List TK} {vs:List ai} {j:Nat} {v:ai},TksAre P w h l vs->vs[j]? = some v -> ∃ k,l[j]? = some k/\TkIs P w h k v
 |[],vs,j,v,q,e=>by unfold TksAre at q;rw[q] at e;simp at e
 | k::l,vs,j,v,q,e=>by
  unfold TksAre at q
  obtain⟨v',r,rfl,q1,q2⟩:=q
  cases j with
  |zero=>
   have:v'=v:=by simpa using e
   exact⟨k,rfl,this▸q1⟩
  |succ j=>
   obtain⟨k',e1,e2⟩:=TksAre.get q2 (show r[j]? = some v by simpa using e)
   exact⟨k',by simpa using e1,e2⟩
theorem Oq {k:Key} {v:ai} (h:(Bd P w).is k v=true):RelV (kV k) v:=by
 rcases Az h with ⟨i,t,rfl,rfl⟩|⟨x,t,rfl,rfl⟩ <;> exact⟨t,rfl⟩
theorem Op (k:Key):Bv (kV k)=true:=by cases k <;> rfl
theorem Z8 (k k':Key):decide (TK.at_ k=TK.at_ k')=eqV (kV k) (kV k'):=by
 have e:(TK.at_ k=TK.at_ k') ↔ k=k':=⟨λh=>by injection h,λh=>by rw[h]⟩
 rw[bQ,decide_eq_true_iff,e]
 cases k with
 |inl i=>
  cases k' with
  |inl j=>show _ ↔ (i==j)=true;rw[beq_iff_eq];exact⟨λh=>by injection h,λh=>by rw[h]⟩
  |inr y=>exact⟨λh=>(nomatch h),λh=>absurd (show false=true from h) av⟩
 |inr x=>
  cases k' with
  |inl j=>exact⟨λh=>(nomatch h),λh=>absurd (show false=true from h) av⟩
  |inr y=>show _ ↔ (x==y)=true;rw[beq_iff_eq];exact⟨λh=>by injection h,λh=>by rw[h]⟩
theorem ad3 {l l':List TK} (z:TK) (h:l.length=l'.length):decide (l=l')=(ay l.length).all λj=>decide (l.getD j z=l'.getD j z):=by
 rw[bQ,decide_eq_true_iff,ba]
 refine⟨λe j _=>by rw[e];exact decide_eq_true rfl,λq=>List.ext_getElem h λi h1 h2=>?_⟩
 have:=of_decide_eq_true (q i (List.mem_range.mpr h1))
 rwa[ar,ar,ag h1,ag h2] at this
theorem bw2 (x:TK):∀ {y:TK} {A:bj} {s:am} {u v:ai},A.units+Ar x<cLine->TkIs P w s.heap x u->TkIs P w s.heap y v->bw A s u v (decide (x=y)):=by
 refine TK.rec (motive_1:=λx=>∀ {y:TK} {A:bj} {s:am} {u v:ai},A.units+Ar x<cLine->TkIs P w s.heap x u->TkIs P w s.heap y v->bw A s u v (decide (x=y)))
  (motive_2:=λl=>∀ x∈l,∀ {y:TK} {A:bj} {s:am} {u v:ai},A.units+Ar x<cLine->TkIs P w s.heap x u->TkIs P w s.heap y v->bw A s u v (decide (x=y))) ?_ ?_ ?_ ?_ x
 .intro k y A s u v hu h1 h2
  unfold TkIs at h1
  have hu:A.units+0<cLine:=hu
  cases y with
  |at_ k'=>unfold TkIs at h2;rw[Z8];exact Oe (Oq h1) (Oq h2) (Op k) (Op k')
  |tup l=>
   unfold TkIs at h2
   obtain⟨a,its,rfl,t,_⟩:=h2
   rw[decide_eq_false (λz=>by cases z)]
   rcases Az h1 with ⟨i,t',rfl,rfl⟩|⟨x,t',rfl,rfl⟩
   .exact .int_tuple i t' t (by omega)
   .exact .str_tuple x t' t (by omega)
 .intro l ih y A s u v hu h1 h2
  have hd:A.units+(Cd l+1)<cLine:=hu
  have h0:=h1
  unfold TkIs at h1
  obtain⟨a,its,rfl,t1,i1⟩:=h1
  cases y with
  |at_ k'=>
   unfold TkIs at h2
   rw[decide_eq_false (λz=>by cases z)]
   rcases Az h2 with ⟨i,t',rfl,rfl⟩|⟨x,t',rfl,rfl⟩
   .exact .tuple_int i t' t1 (by omega)
   .exact .tuple_str x t' t1 (by omega)
  |tup l'=>
   have h3:=h2
   unfold TkIs at h2
   obtain⟨b,its',rfl,t2,i2⟩:=h2
   by_cases e:a=b
   .subst e
    rw[decide_eq_true (TkIs.inj _ h0 h3)]
    exact .same _
   refine .of_refs e ?_
   have e1:=i1.len
   have e2:=i2.len
   have T:=iU (A:=A) (s:=s) (e:=λj=>decide (l.getD j (.tup [])=l'.getD j (.tup []))) t1 t2 (by omega) λj q1 q2=>by
    obtain⟨k1,g1,r1⟩:=i1.get (j:=j) (v:=its[j]) (by simp[q1])
    obtain⟨k2,g2,r2⟩:=i2.get (j:=j) (v:=its'[j]) (by simp[q2])
    have hm:=al g1
    have:=E0 hm
    rw[ar,ar,g1,g2]
    exact ih k1 hm (by show A.units+1+Ar k1<cLine;omega) r1 r2
   have dt:decide (TK.tup l=TK.tup l')=decide (l=l'):=by
    rw[bQ,decide_eq_true_iff,decide_eq_true_iff]
    exact⟨λh=>by injection h,λh=>by rw[h]⟩
   rw[dt]
   have s1:its.size=l.length:=by rw[<- e1];simp
   have s2:its'.size=l'.length:=by rw[<- e2];simp
   rw[s1,s2] at T
   by_cases hl:l.length=l'.length
   .rw[ad3 (.tup []) hl]
    rw[hl,lj,beq_self_eq_true,f_] at T
    rw[hl]
    exact T
   .rw[decide_eq_false λz=>hl (by rw[z])]
    rw[beq_eq_false_iff_ne.mpr hl,gQ] at T
    exact T
 .exact λk h=>by cases h
 .intro k l h1 h2 x hx
  rcases List.mem_cons.mp hx with rfl|hx
  .exact h1
  .exact h2 x hx
theorem an1 (x:TK):∀ {n:Nat} {A:bj} {E:ai->am->Prop} {s:am} {v:ai} {Q:Bool->am->Prop},Ar x<=n->TkIs P w s.heap x v->Q true s->aQ (model P w) A (lJ n v) Q E s:=by
 refine TK.rec (motive_1:=λx=>∀ {n:Nat} {A:bj} {E:ai->am->Prop} {s:am} {v:ai} {Q:Bool->am->Prop},Ar x<=n->TkIs P w s.heap x v->Q true s->aQ (model P w) A (lJ n v) Q E s)
  (motive_2:=λl=>∀ x∈l,∀ {n:Nat} {A:bj} {E:ai->am->Prop} {s:am} {v:ai} {Q:Bool->am->Prop},Ar x<=n->TkIs P w s.heap x v->Q true s->aQ (model P w) A (lJ n v) Q E s) ?_ ?_ ?_ ?_ x
 .intro k n A E s v Q _ hk h
  unfold TkIs at hk
  rw[eqIsQuiet_byValue _ ((Bd P w).byValue _ _ hk)]
  exact ao h
 .intro l ih n A E s v Q hn hk h
  have hn:Cd l+1<=n:=hn
  obtain⟨m,rfl⟩:∃ m,n=m+1:=⟨n - 1,by omega⟩
  unfold TkIs at hk
  obtain⟨a,items,rfl,ht,hi⟩:=hk
  have hT:=ht.typeIs
  obtain⟨o,ho,hc,n',hd⟩:=id ht
  unfold lJ
  refine af (ig hT F.slot_tuple_eq.lookup ?_)
  show aQ _ _ (isInstance (.ref a) (.type "tuple") >>= _) _ _ s
  refine af (fX hT isSubtype_tuple_tuple ?_)
  simp only[ku,bq,if_false]
  refine af (wpAny_seqItems ho hd ?_)
  refine af ?_
  show aQ _ _ (forIn items _ _) _ _ s
  rw[<- iu]
  refine wpAny_forIn_list _ (λrest r s'=>r.1=none/\s'=s /\ ∀ v∈rest,∃ k∈l,TkIs P w s.heap k v) _ ?_ ?_ _ _ ⟨rfl,rfl,λv hv=>?_⟩
  .rintro v rest r s' ⟨hr,rfl,hall⟩
   obtain⟨k,hk,q⟩:=hall v aN
   have:=E0 hk
   refine af (ih k hk (by omega) q ?_)
   simp only[ku,bq,if_false]
   exact ao ⟨rfl,rfl,λu hu'=>hall u (az _ hu')⟩
  .rintro⟨r1,r2⟩ s' ⟨hr,rfl,_⟩
   simp only at hr
   subst hr
   exact ao h
  .obtain⟨j,hj⟩:=List.mem_iff_getElem?.mp hv
   obtain⟨k,e,q⟩:=hi.get hj
   exact⟨k,al e,q⟩
 .exact λk h=>by cases h
 .intro k l h1 h2 x hx
  rcases List.mem_cons.mp hx with rfl|hx
  .exact h1
  .exact h2 x hx
noncomputable def C8 (P:aX) (w:bB):HeapKind P w TK where
 is h k a:=Ar k<=8/\TkIs P w h k (.ref a)
 hash:=Fo w
 draws:=Dj
 room A:=A.units+8<cLine
 inj hx hy:=TkIs.inj _ hx.2 hy.2
 keeps x ho hd hs:=⟨x.1,x.2.up (λa its ⟨o',h1,h2,n,h3⟩=>⟨o',(hs.2 a (by
  rintro rfl
  rw[ho] at h1
  cases h1
  rw[hd] at h3
  cases h3)).trans h1,h2,n,h3⟩) _⟩
 pyHash hu hk h:=Yw _ (by have:=hk.1;omega) hk.2 h
 eqBool hu hx hy h:=bw2 _ (by have:=hx.1;omega) hx.2 hy.2 _ _ _ _ h
 quiet hk h:=an1 _ hk.1 hk.2 h
end
inductive HO where
 |lst (xs:List V)
 |tup (xs:List V)
 |dK (kvs:List (Key×V))|dT (kvs:List (TK×V))
 |set (S:Int->Bool) (n:Nat)
 |ins (C dx:Addr) (fs:List (Str×V))
 |own (x:Addr)
 |xd (fs:List (Str×V))
 |met (f x:Addr)
 |rng (lo hi:Int)
 |frz (o:Obj) (u:HO)
 |tbl (ps:Array ai)
 |ext (φ:Heap->Prop)
noncomputable abbrev Hp:=Addr->Option HO
noncomputable def upd (H:Hp) (a:Addr) (o:HO):Hp:=λb=>if b=a then some o else H b
theorem Aa {H:Hp} {a:Addr} {o:HO}:upd H a o a=some o:=by unfold upd;rw[if_pos rfl]
theorem Ad {H:Hp} {a b:Addr} {o:HO} (h:b≠a):upd H a o b=H b:=by unfold upd;rw[if_neg h]
theorem bm2 {H:Hp} {a b:Addr} {o u:HO} (h:H a=some o) (h':H b=some u) (d:o≠u):a≠b:=by
 intro e;subst e;rw[h] at h';exact d (aH h')
theorem Ai {H:Hp} {a b:Addr} {o:HO} (h:H a=some o) (h':H b=none):a≠b:=by
 intro e;subst e;rw[h] at h';cases h'
mutual
noncomputable def TkAt (H:Hp):TK->V->Prop
 |.at_ k,v=>v=kV k
 |.tup l,v=>∃ a xs,v=.ref a/\H a=some (.tup xs)/\Ay H l xs
noncomputable def Ay (H:Hp):List TK->List V->Prop
 |[],vs=>vs=[]
 |k::ks,vs=>∃ v r,vs=v::r/\TkAt H k v/\Ay H ks r
end
theorem TkAt.up {H H':Hp} (h:∀ b ys,H b=some (.tup ys)->H' b=some (.tup ys)) (x:TK):∀ {v:V},TkAt H x v->TkAt H' x v:=by
 refine TK.rec (motive_1:=λx=>∀ {v:V},TkAt H x v->TkAt H' x v) (motive_2:=λl=>∀ {vs:List V},Ay H l vs->Ay H' l vs) ?_ ?_ ?_ ?_ x
 .intro k v q;unfold TkAt at q ⊢;exact q
 .intro l ih v q
  unfold TkAt at q ⊢
  obtain⟨a,xs,e,t,i⟩:=q
  exact⟨a,xs,e,h _ _ t,ih i⟩
 .intro vs q;unfold Ay at q ⊢;exact q
 .intro x l h1 h2 vs q
  unfold Ay at q ⊢
  obtain⟨v,r,e,q1,q2⟩:=q
  exact⟨v,r,e,h1 q1,h2 q2⟩
section
variable (P:aX) (w:bB)
noncomputable def ObjOk (H:Hp) (h:Heap) (a:Addr):HO->Prop
 |.lst xs=>xs.length<=sizeLine /\ ∃ (its:List ai) (n:Nat),Vals xs its/\h.get? a=some { cls:=.type "list", data:=.seq its.toArray n }
 |.tup xs=>xs.length<=sizeLine /\ ∃ its:List ai,Vals xs its/\ma h a its.toArray
 |.dK kvs=>kvs.length<=sizeLine/\(a==du)=false /\ ∃ vs,KV kvs vs/\h.DictOf (Bd P w) a vs
 | .dT kvs=>kvs.length<=sizeLine/\(a==du)=false /\ ∃ xs:List (TK×Addr×ai),
   g6 (λ(p:TK×V) (q:TK×Addr×ai)=>p.1=q.1/\(Ar p.1<=8/\TkAt H p.1 (.ref q.2.1))/\RelV p.2 q.2.2) kvs xs /\
   ∃ o es ep,h.get? a=some o/\o.ExactDict/\o.data=.dict es ep/\es.toList=xs.map (entryOfKey (C8 P w))/\(xs.map (·.1)).Nodup
 |.set S n=>h.SetOf (intKind P w) a S n
 | .ins C dx fs=>H dx=some (.own a)/\fs.length<=1000/\dx≠a/\h.get? a=some (dG C dx) /\
   ∃ mA,h.Ns1 dx mA/\(∀ f,RelO (fs.lookup f) (mA f))/\jH mA (fs.map (·.1))
 |.own _=>∃ o,h.get? a=some o
 |.xd fs=>∃ mA,h.Ns1 a mA /\ ∀ f,RelO (fs.lookup f) (mA f)
 |.rng lo hi=>∃ t u v,h.get? a=some { cls:=.type "range", data:=.fields #[.int lo t,.int hi u,.int 1 v] }
 |.frz o u=>h.get? a=some o/\ObjOk H h a u
 |.tbl ps=>h.get? a=some { cls:=.none,data:=.fields ps }
 |.met f x=>h.get? a=some (iS (.ref f) (.ref x))
 |.ext φ=>φ h/\(∃ o,h.get? a=some o) /\ ∀ h1 h2:Heap,φ h1->(∀ o,h1.get? a=some o->h2.get? a=some o)->φ h2
noncomputable def HOk (H:Hp) (h:Heap):Prop:=∀ a o,H a=some o->ObjOk P w H h a o
end
section
variable {P:aX} {w:bB} {H H':Hp} {h h':Heap} {a:Addr} {o:HO}
theorem ObjOk.lt (x:ObjOk P w H h a o):a<h.objs.size:=by
 cases o with
 |lst xs=>obtain⟨_,_,_,_,e⟩:=x;exact aD e
 |tup xs=>obtain⟨_,_,_,p⟩:=x;exact p.lt
 |dK kvs=>obtain⟨_,_,_,_,o,_,_,e,_⟩:=x;exact aD e
 |dT kvs=>obtain⟨_,_,_,_,o,_,_,e,_⟩:=x;exact aD e
 |set S n=>obtain⟨o,_,_,_,e,_⟩:=x;exact aD e
 |ins C dx fs=>obtain⟨_,_,_,e,_⟩:=x;exact aD e
 |own y=>obtain⟨_,e⟩:=x;exact aD e
 |xd fs=>obtain⟨_,⟨_,_,_,e,_⟩,_⟩:=x;exact aD e
 |rng lo hi=>obtain⟨_,_,_,e⟩:=x;exact aD e
 |frz ob u=>obtain⟨e,_⟩:=x;exact aD e
 |tbl ps=>exact aD (show h.get? a=some _ from x)
 |met f y=>exact aD (show h.get? a=some _ from x)
 |ext φ=>obtain⟨_,⟨_,e⟩,_⟩:=x;exact aD e
theorem Paired.mapP {α β:Type} {F G:α->β->Prop}:∀ {l₁:List α} {l₂:List β},g6 F l₁ l₂->(∀ a b,F a b->G a b)->g6 G l₁ l₂
 |_,_,.nil,_=>.nil
 |_,_,.cons r t,f=>.cons (f _ _ r) (Paired.mapP t f)
theorem ObjOk.stay (x:ObjOk P w H h a o) (k:∀ b u,(b=a\/H b=some (.own a))->h.get? b=some u->h'.get? b=some u)
  (ho:∀ b,H b=some (.own a)->H' b=some (.own a)) (ht:∀ b xs,H b=some (.tup xs)->H' b=some (.tup xs)):ObjOk P w H' h' a o:=by
 induction o with
 |lst xs=>obtain⟨z,its,n,r,e⟩:=x;exact⟨z,its,n,r,k _ _ (.inl rfl) e⟩
 |tup xs=>obtain⟨z,its,r,ob,e,c⟩:=x;exact⟨z,its,r,ob,k _ _ (.inl rfl) e,c⟩
 |dK kvs=>obtain⟨z,y,vs,r,ob,es,ep,e,c⟩:=x;exact⟨z,y,vs,r,ob,es,ep,k _ _ (.inl rfl) e,c⟩
 |dT kvs=>
  obtain⟨z,y,xs,r,ob,es,ep,e,c⟩:=x
  exact⟨z,y,xs,Paired.mapP r λp q z=>⟨z.1,⟨z.2.1.1,z.2.1.2.up ht _⟩,z.2.2⟩,ob,es,ep,k _ _ (.inl rfl) e,c⟩
 |set S n=>obtain⟨ob,es,ep,t,e,c⟩:=x;exact⟨ob,es,ep,t,k _ _ (.inl rfl) e,c⟩
 |ins C dx fs=>
  obtain⟨d,z,ne,e,mA,⟨od,es,ep,e2,c⟩,r⟩:=x
  exact⟨ho _ d,z,ne,k _ _ (.inl rfl) e,mA,⟨od,es,ep,k _ _ (.inr d) e2,c⟩,r⟩
 |own y=>obtain⟨ob,e⟩:=x;exact⟨ob,k _ _ (.inl rfl) e⟩
 |xd fs=>obtain⟨mA,⟨od,es,ep,e,c⟩,r⟩:=x;exact⟨mA,⟨od,es,ep,k _ _ (.inl rfl) e,c⟩,r⟩
 |rng lo hi=>obtain⟨t,u,v,e⟩:=x;exact⟨t,u,v,k _ _ (.inl rfl) e⟩
 |frz ob u ih=>obtain⟨e,q⟩:=x;exact⟨k _ _ (.inl rfl) e,ih q⟩
 |tbl ps=>
  have e:h.get? a=some { cls:=.none,data:=.fields ps }:=x
  show h'.get? a=some { cls:=.none,data:=.fields ps }
  exact k a _ (.inl rfl) e
 |met f y=>
  have e:h.get? a=some (iS (.ref f) (.ref y)):=x
  show h'.get? a=some (iS (.ref f) (.ref y))
  exact k a _ (.inl rfl) e
 |ext φ=>obtain⟨p,⟨o,e⟩,st⟩:=x;exact⟨st _ _ p λo q=>k _ _ (.inl rfl) q,⟨o,k _ _ (.inl rfl) e⟩,st⟩
theorem HOk.lt (x:HOk P w H h) (e:H a=some o):a<h.objs.size:=(x a o e).lt
theorem HOk.fresh (x:HOk P w H h) (e:h.objs.size<=a):H a=none:=by
 cases q:H a with
 |none=>rfl
 |some u=>exact absurd (aL (x.lt q) e) (fI _)
theorem HOk.kept (x:HOk P w H h) (k:∀ b u,h.get? b=some u->h'.get? b=some u):HOk P w H h':=λa o e=>
 (x a o e).stay (λb u _ q=>k b u q) (λ_ q=>q) λ_ _ q=>q
theorem HOk.laid (x:HOk P w H h) (k:∀ b u,h.get? b=some u->h'.get? b=some u) (hp:h.objs.size<=a) (new:ObjOk P w (upd H a o) h' a o):HOk P w (upd H a o) h':=λb u e=>by
 have hn:=x.fresh hp
 by_cases hb:b=a
 .subst hb;rw[Aa] at e;cases e;exact new
 .rw[Ad hb] at e
  exact (x b u e).stay (λc v _ q=>k c v q) (λc q=>by rw[Ad (Ai q hn)];exact q) λc xs q=>by rw[Ad (Ai q hn)];exact q
end
noncomputable def Rd (H:Hp) (a:Addr) (u:HO):Prop:=H a=some u \/ ∃ o,H a=some (.frz o u)
theorem Rd.ok {P:aX} {w:bB} {H:Hp} {h:Heap} {a:Addr} {u:HO} (r:Rd H a u) (x:HOk P w H h):ObjOk P w H h a u:=by
 rcases r with r|⟨o,r⟩
 .exact x a u r
 .obtain⟨_,q⟩:=x a _ r
  exact q
noncomputable def Mut:Option HO->Prop
 |some (.lst _)=>True
 |some (.dK _)=>True
 |some (.dT _)=>True
 |some (.set _ _)=>True
 |some (.ins _ _ _)=>True
 |some (.ext _)=>True
 |_=>False
section
variable {P:aX} {w:bB} {H:Hp} {h h':Heap} {x e:Addr} {o':HO}
theorem HOk.write (ok:HOk P w H h) (mu:Mut (H x)) (he:e=x\/H e=some (.own x)) (k:∀ b u,b≠e->h.get? b=some u->h'.get? b=some u) (heo:∃ u,h'.get? e=some u)
  (new:ObjOk P w (upd H x o') h' x o'):HOk P w (upd H x o') h':=λb u q=>by
 have nown:∀ c y,H c=some (.own y)->c≠x:=λc y r z=>by subst z;rw[r] at mu;exact mu
 have ntup:∀ c xs,H c=some (.tup xs)->c≠x:=λc xs r z=>by subst z;rw[r] at mu;exact mu
 by_cases hb:b=x
 .subst hb;rw[Aa] at q;cases q;exact new
 .rw[Ad hb] at q
  by_cases hbe:b=e
  .have q':H b=some (.own x):=by
    rcases he with z|z
    .exact absurd (hbe.trans z) hb
    .rw[hbe];exact z
   rw[q] at q';cases q'
   obtain⟨v,hv⟩:=heo
   exact⟨v,by rw[hbe];exact hv⟩
  .refine (ok b u q).stay (λc v hc r=>k c v ?_ r) (λc r=>by rw[Ad (nown c b r)];exact r) λc xs r=>by rw[Ad (ntup c xs r)];exact r
   rcases hc with rfl|hc
   .exact hbe
   .rintro rfl
    rcases he with z|z
    .exact nown c b hc z
    .rw[hc] at z;cases z;exact hb rfl
end
structure Un (fs ex:List Addr) (H H':Hp) (h h':Heap):Prop where
 keep:∀ b o,h.get? b=some o->H b=none->b∉fs->b∉ex->h'.get? b=some o
 slot:∀ b o,h.get? b=some o->H b=none->b∈fs->b∉ex -> ∃ sl,h'.get? b=some { o with slots:=sl }
 free:∀ b o,h.get? b=some o->H b=none->b∉ex->H' b=none
 there:∀ b o,h.get? b=some o->b∉ex -> ∃ o',h'.get? b=some o'
 tups:∀ b xs,H b=some (.tup xs)->H' b=some (.tup xs)
 frzs:∀ b o u,H b=some (.frz o u)->H' b=some (.frz o u)
 tbls:∀ b ps,H b=some (.tbl ps) -> ∃ more,H' b=some (.tbl (ps++more))
section
variable {fs fs' ex ex':List Addr} {H H1 H2:Hp} {h h1 h2 h':Heap} {a x e:Addr} {o:HO}
theorem Un.any (u:Un fs ex H H1 h h1) {b:Addr} {ob:Obj} (q:h.get? b=some ob) (n:H b=none) (hx:b∉ex):∃ sl,h1.get? b=some { ob with slots:=sl }:=by
 by_cases hb:b∈fs
 .exact u.slot b ob q n hb hx
 .exact⟨ob.slots,u.keep b ob q n hb hx⟩
theorem Un.kept (k:∀ b u,h.get? b=some u->h'.get? b=some u):Un fs ex H H h h':=
 ⟨λb ob q _ _ _=>k b ob q,λb ob q _ _ _=>⟨ob.slots,k b ob q⟩,λ_ _ _ n _=>n,λb ob q _=>⟨ob,k b ob q⟩,λ_ _ q=>q,λ_ _ _ q=>q,λ_ ps q=>⟨#[],by rw[q];simp⟩⟩
theorem Un.refl:Un fs ex H H h h:=Un.kept λ_ _ q=>q
theorem Un.laid (k:∀ b u,h.get? b=some u->h'.get? b=some u) (hp:h.objs.size<=a) (hn:H a=none):Un fs ex H (upd H a o) h h' where
 keep:=λb u q _ _ _=>k b u q
 slot:=λb u q _ _ _=>⟨u.slots,k b u q⟩
 free:=λb u q n _=>by rw[Ad (aJ (aL (aD q) hp))];exact n
 there:=λb u q _=>⟨u,k b u q⟩
 tups:=λb xs q=>by rw[Ad (Ai q hn)];exact q
 frzs:=λb u xs q=>by rw[Ad (Ai q hn)];exact q
 tbls:=λb ps q=>⟨#[],by rw[Ad (Ai q hn),q];simp⟩
theorem Un.write (mu:Mut (H x)) (he:e=x\/H e=some (.own x)) (k:∀ b u,b≠e->h.get? b=some u->h'.get? b=some u) (heo:∃ u,h'.get? e=some u):Un fs ex H (upd H x o) h h':=by
 have hx:∀ b,H b=none->b≠x:=λb n z=>by subst z;rw[n] at mu;exact mu
 have hb:∀ b,H b=none->b≠e:=λb n z=>by
  subst z
  rcases he with r|r
  .exact hx b n r
  .rw[n] at r;cases r
 have hm:∀ b u,H b=some u -> ¬ Mut (some u)->b≠x:=λb u q nm z=>by subst z;rw[q] at mu;exact nm mu
 refine⟨λb u q n _ _=>k b u (hb b n) q,λb u q n _ _=>⟨u.slots,k b u (hb b n) q⟩,λb u q n _=>by rw[Ad (hx b n)];exact n,λb u q _=>?_,
  λb xs q=>by rw[Ad (hm b _ q λz=>z)];exact q,λb u xs q=>by rw[Ad (hm b _ q λz=>z)];exact q,λb ps q=>⟨#[],by rw[Ad (hm b _ q λz=>z),q];simp⟩⟩
 by_cases hbe:b=e
 .subst hbe;exact heo
 .exact⟨u,k b u hbe q⟩
end
noncomputable def trk (h:Heap) (H:Hp):List Addr:=(ay h.objs.size).filter λa=>(H a).isSome
noncomputable def Oj (h:Heap) (H:Hp):Heap:=PySem.W.hideAll h (trk h H)
theorem Xr (h:Heap) (H:Hp):(Oj h H).objs.size=h.objs.size:=PySem.W.hideAll_size _ _
theorem ac2 {h:Heap} {H:Hp} {b:Addr} {o:Obj} (e:h.get? b=some o) (n:H b=none):(Oj h H).get? b=some o:=
 PySem.W.hideAll_get _ e λhm=>by
  have q:(H b).isSome=true:=(List.mem_filter.mp hm).2
  rw[n] at q;simp at q
theorem at9 {h:Heap} {H:Hp} {b:Addr} {o:Obj} (e:(Oj h H).get? b=some o):h.get? b=some o/\H b=none:=by
 have e':h.get? b=some o:=PySem.W.of_hideAll (trk h H) e
 refine⟨e',?_⟩
 cases q:H b with
 |none=>rfl
 |some x=>
  have hm:b∈trk h H:=List.mem_filter.mpr ⟨List.mem_range.mpr (aD e'),by simp[q]⟩
  have z:(Oj h H).get? b=none:=PySem.W.hideAll_none (trk h H) hm
  rw[z] at e;cases e
structure Mod (K:ac) (mg:Str->Option ai) (base:Heap):Prop where
 kin:K.In base
 glob:base.Ns mainGlobals mg
 blt:∃ mb,base.Ns iW mb /\ ∀ x:Str,x ≠ "__name__" -> mb x=cV x
 nolimit:base.NoLimit
structure Cx where
 prog:aX
 w:bB
 K:ac
 mg:Str->Option ai
 base:Heap
 A:bj
 N:List Str
 s₀:am
 H₀:Hp
 env:Env
 outer:List Env
 stack:List Env
 ex:List Addr
 fn:Str->Bool
 calm:Bool
 pn:List (Addr×Obj)
 xe:ai->am->Prop
noncomputable def frs (l:List Env):List Addr:=l.filterMap (·.frame)
noncomputable abbrev Cx.fs (X:Cx):List Addr:=frs X.outer
noncomputable def Vis (sc:Scope) (x:Str):Prop:=sc.names.lookup x=some .local\/sc.names.lookup x=some .cell\/sc.names.lookup x=some .free
noncomputable def Loc (sc:Scope) (x:Str):Prop:=sc.names.lookup x=some .local\/sc.names.lookup x=some .cell
noncomputable def bw9 (env:Env) (h:Heap) (m:Str->Option ai) (x:Str) (u:ai):Prop:=
 (env.kindOf x=some .local/\m x=some u)\/((env.kindOf x=some .cell\/env.kindOf x=some .free) /\ ∃ c,env.cells.lookup x=some c/\h.IsCell c (some u))
noncomputable def Vx (_:ac) (_:Nat):Prop:=True
structure Cx.Ok (X:Cx):Prop where
 mod:Mod X.K X.mg X.base
 kind:X.env.scope.kind=.function
 glob:X.env.globals=mainGlobals
 blt:X.env.builtins=iW
 above:X.s₀.heap.objs.size<=X.env.locals
 inj:∀ x y c,X.env.cells.lookup x=some c->X.env.cells.lookup y=some c->x=y
 has:∀ x,(X.env.kindOf x=some .cell\/X.env.kindOf x=some .free) -> ∃ c,X.env.cells.lookup x=some c
 cab:∀ x c,X.fn x=true->X.env.cells.lookup x=some c->X.s₀.heap.objs.size<=c
 hd:X.calm=true->X.A.handled=none
 frames:X.A.frames=some X.stack
 stk:X.stack=X.outer\/(X.stack=X.env::X.outer/\X.env.frame=some X.env.locals)
 exf:∀ b∈X.ex,b≠X.env.locals /\ ∀ x c,X.env.cells.lookup x=some c->c≠b
 bs:∀ b o,X.base.get? b=some o->X.s₀.heap.get? b=some o/\X.H₀ b=none
 bsz:X.base.objs.size<=X.s₀.heap.objs.size
 noex:∀ b o,X.base.get? b=some o->b∉X.ex
 exfs:∀ b∈X.ex,b∉X.fs
 funs:X.s₀.heap.FunFrames X.base X.outer
 frf:∀ b∈X.fs,X.H₀ b=none
 tk:Vx X.K X.s₀.toks
structure Inv (X:Cx) (pins:List (Addr×Obj)) (U:List (Option V)) (H:Hp) (s:am):Prop where
 ok:X.Ok
 os:s.os=X.s₀.os/\X.s₀.toks<=s.toks
 bare:j7 s.gens
 base:Un X.fs X.ex X.H₀ H X.s₀.heap s.heap
 loc:∃ m,s.heap.Ns X.env.locals m /\ ∀ (i:Nat) (x:Str) (v:V),X.N[i]? = some x->U[i]? = some (some v)->Vis X.env.scope x -> ∃ u,RelV v u/\bw9 X.env s.heap m x u
 cell:∀ x c,X.env.cells.lookup x=some c -> ∃ v,s.heap.IsCell c v
 free:H X.env.locals=none
 freeC:∀ x c,X.env.cells.lookup x=some c->H c=none
 pin:∀ p∈X.pn++pins,s.heap.get? p.1=some p.2/\H p.1=none/\p.1≠X.env.locals/\p.1∉X.fs /\ ∀ v,p.2.data≠.cell v
 hok:HOk X.prog X.w H s.heap
 len:U.length=X.N.length
section
variable {X:Cx} {pins:List (Addr×Obj)} {U:List (Option V)} {H H':Hp} {s:am} {h':Heap}
theorem Cx.Ok.nofr (ok:X.Ok) {b:Addr} {o:Obj} (e:X.base.get? b=some o):b∉X.fs:=λhb=>by
 have:=(ok.funs.mem hb).1
 rw[e] at this;cases this
theorem Inv.bs (I:Inv X pins U H s):∀ b o,X.base.get? b=some o->s.heap.get? b=some o/\H b=none:=λb o e=>
 ⟨I.base.keep b o (I.ok.bs b o e).1 (I.ok.bs b o e).2 (I.ok.nofr e) (I.ok.noex b o e),I.base.free b o (I.ok.bs b o e).1 (I.ok.bs b o e).2 (I.ok.noex b o e)⟩
theorem Inv.bk (I:Inv X pins U H s):∀ b o,X.base.get? b=some o->s.heap.get? b=some o:=λb o e=>(I.bs b o e).1
theorem Inv.mod (I:Inv X pins U H s):Mod X.K X.mg X.base:=I.ok.mod
theorem Inv.kIn (I:Inv X pins U H s):X.K.In s.heap:=I.ok.mod.kin.keeps I.bk
theorem Inv.lt (I:Inv X pins U H s):X.env.locals<s.heap.objs.size:=let ⟨_,hn,_⟩:=I.loc;hn.lt
theorem Inv.sz (I:Inv X pins U H s):X.s₀.heap.objs.size<=s.heap.objs.size:=aY I.ok.above (ez I.lt)
theorem Inv.nofs (I:Inv X pins U H s) {a:Addr} (h:s.heap.objs.size<=a):a∉X.fs:=λhb=>by
 obtain⟨_,o,ho,_⟩:=I.ok.funs.mem hb
 exact absurd (aL (aD ho) (aY I.sz h)) (fI _)
theorem Inv.cne (I:Inv X pins U H s):∀ x c,X.env.cells.lookup x=some c->c≠X.env.locals:=λx c e z=>by
 obtain⟨v,o,ho,hd⟩:=I.cell x c e
 obtain⟨m,⟨o',es,ep,ho',hd',_⟩,_⟩:=I.loc
 rw[z,ho'] at ho;cases ho;rw[hd'] at hd;cases hd
theorem Inv.funs (I:Inv X pins U H s):s.heap.FunFrames X.base X.outer:=by
 have all:∀ (l:List Env),(∀ b∈frs l,b∈X.fs)->X.s₀.heap.FunFrames X.base l->s.heap.FunFrames X.base l:=by
  intro l
  induction l with
  |nil=>intro _ _;trivial
  |cons env r ih=>
   intro hs hl
   obtain⟨hk,⟨L,o,hf,hn,ho,hd⟩,hr⟩:=hl
   have hL:L∈X.fs:=hs L (by unfold frs;rw[eG,hf];exact aN)
   obtain⟨sl,e⟩:=I.base.slot L o ho (I.ok.frf L hL) hL λz=>I.ok.exfs L z hL
   exact⟨hk,⟨L,_,hf,hn,e,hd⟩,ih (λb hb=>hs b (by unfold frs;rw[eG,hf];exact az _ hb)) hr⟩
 exact all X.outer (λ_ hb=>hb) I.ok.funs
theorem Inv.stack (I:Inv X pins U H s):s.heap.FunFrames X.base X.stack:=by
 rcases I.ok.stk with e|⟨e,hf⟩
 .rw[e];exact I.funs
 .rw[e]
  obtain⟨m,hn,_⟩:=I.loc
  refine .cons (by rw[I.ok.kind];decide) hf hn ?_ I.funs
  exact Heap.get?_none_of_le (aY I.ok.bsz I.ok.above)
theorem Inv.stkSub (I:Inv X pins U H s):∀ b∈frs X.stack,b∈X.env.locals::X.fs:=λb hb=>by
 rcases I.ok.stk with e|⟨e,hf⟩
 .rw[e] at hb;exact az _ hb
 .rw[e] at hb
  unfold frs at hb
  rw[eG,hf] at hb
  exact hb
theorem Inv.stkFree (I:Inv X pins U H s):∀ b∈frs X.stack,H b=none:=λb hb=>by
 rcases List.mem_cons.mp (I.stkSub b hb) with e|hb
 .rw[e];exact I.free
 .obtain⟨_,o,ho,_⟩:=I.ok.funs.mem hb
  exact I.base.free b o ho (I.ok.frf b hb) λz=>I.ok.exfs b z hb
theorem Inv.step {g':Array lU} {t':Nat} {d':Drawn} {ch:List Addr} (I:Inv X pins U H s)
  (hch:∀ b∈ch,(b∈X.ex\/X.s₀.heap.objs.size<=b)/\b≠X.env.locals/\(∀ x c,X.env.cells.lookup x=some c->c≠b) /\ ∀ p∈X.pn++pins,p.1≠b)
  (keep:∀ b o,b≠X.env.locals->b∉X.fs->b∉ch->s.heap.get? b=some o->H b=none->h'.get? b=some o)
  (slot:∀ b o,b≠X.env.locals->b∈X.fs->b∉ch->s.heap.get? b=some o->H b=none -> ∃ sl,h'.get? b=some { o with slots:=sl }) (free:∀ b o,b∉ch->s.heap.get? b=some o->H b=none->H' b=none)
  (there:∀ b o,b∉ch->s.heap.get? b=some o -> ∃ o',h'.get? b=some o')
  (tups:∀ b xs,H b=some (.tup xs)->H' b=some (.tup xs)) (frzs:∀ b o u,H b=some (.frz o u)->H' b=some (.frz o u)) (tbls:∀ b ps,H b=some (.tbl ps) -> ∃ more,H' b=some (.tbl (ps++more)))
  (ns:∀ m,s.heap.Ns X.env.locals m->h'.Ns X.env.locals m) (hok:HOk X.prog X.w H' h') (hg:j7 g') (ht:s.toks<=t':=by first|exact ah _|exact aZ _ _|assumption|omega|(dsimp only;omega)) :
  Inv X pins U H' { s with heap:=h',gens:=g',drawn:=d',toks:=t' }:=by
 have neL:∀ b o,X.s₀.heap.get? b=some o->b≠X.env.locals:=λb o e=>aJ (aL (aD e) I.ok.above)
 have neC:∀ b o,X.s₀.heap.get? b=some o->b∉X.ex->b∉ch:=λb o e hx hb=>by
  rcases (hch b hb).1 with z|z
  .exact hx z
  .exact absurd (aL (aD e) z) (fI _)
 have cellK:∀ x c,X.env.cells.lookup x=some c -> ∀ v,s.heap.IsCell c v->h'.IsCell c v:=λx c e v ⟨o,ho,hd⟩=>by
  have nch:c∉ch:=λz=>(hch c z).2.2.1 x c e rfl
  by_cases hc:c∈X.fs
  .obtain⟨sl,q⟩:=slot c o (I.cne x c e) hc nch ho (I.freeC x c e)
   exact⟨_,q,hd⟩
  .exact⟨o,keep c o (I.cne x c e) hc nch ho (I.freeC x c e),hd⟩
 refine⟨I.ok,⟨I.os.1,aY I.os.2 ht⟩,hg,⟨λb o e n hb hx=>?_,λb o e n hb hx=>?_,λb o e n hx=>?_,λb o e hx=>?_,λb xs e=>tups b xs (I.base.tups b xs e),λb o xs e=>frzs b o xs (I.base.frzs b o xs e),λb ps e=>?_⟩,?_,λx c e=>?_,?_,λx c e=>?_,λp hp=>?_,hok,I.len⟩
 .exact keep b o (neL b o e) hb (neC b o e hx) (I.base.keep b o e n hb hx) (I.base.free b o e n hx)
 .obtain⟨sl,e1⟩:=I.base.slot b o e n hb hx
  obtain⟨sl',e2⟩:=slot b _ (neL b o e) hb (neC b o e hx) e1 (I.base.free b o e n hx)
  exact⟨sl',e2⟩
 .obtain⟨o',e1⟩:=I.base.there b o e hx
  exact free b o' (neC b o e hx) e1 (I.base.free b o e n hx)
 .obtain⟨o',e1⟩:=I.base.there b o e hx
  exact there b o' (neC b o e hx) e1
 .obtain⟨m1,e1⟩:=I.base.tbls b ps e
  obtain⟨m2,e2⟩:=tbls b _ e1
  exact⟨m1++m2,by rw[e2,Array.append_assoc]⟩
 .obtain⟨m,hn,hl⟩:=I.loc
  refine⟨m,ns m hn,λi x v e1 e2 e3=>?_⟩
  obtain⟨u,r,l⟩:=hl i x v e1 e2 e3
  refine⟨u,r,?_⟩
  rcases l with l|⟨k,c,e,z⟩
  .exact .inl l
  .exact .inr ⟨k,c,e,cellK x c e _ z⟩
 .obtain⟨v,z⟩:=I.cell x c e
  exact⟨v,cellK x c e v z⟩
 .obtain⟨m,⟨o,_,_,ho,_⟩,_⟩:=I.loc
  exact free _ o (λz=>(hch _ z).2.1 rfl) ho I.free
 .obtain⟨v,o,ho,hd⟩:=I.cell x c e
  exact free c o (λz=>(hch c z).2.2.1 x c e rfl) ho (I.freeC x c e)
 .obtain⟨e,n,ne,nf,d⟩:=I.pin p hp
  have nch:p.1∉ch:=λz=>(hch p.1 z).2.2.2 p hp rfl
  exact⟨keep p.1 p.2 ne nf nch e n,free p.1 p.2 nch e n,ne,nf,d⟩
theorem Inv.un {t':Nat} (I:Inv X pins U H s) (u:Un X.fs [] H H' s.heap h') (hok:HOk X.prog X.w H' h') (ht:s.toks<=t':=by first|exact ah _|exact aZ _ _|assumption|omega|(dsimp only;omega)):Inv X pins U H' { s with heap:=h',toks:=t' }:=by
 obtain⟨m,⟨o,es,ep,ho,r⟩,_⟩:=id I.loc
 obtain⟨sl,hL⟩:=u.any ho I.free (by simp)
 exact I.step (g':=s.gens) (d':=s.drawn) (ch:=[]) (λ_ z=>nomatch z) (λb o _ hb _ e n=>u.keep b o e n hb (by simp)) (λb o _ hb _ e n=>u.slot b o e n hb (by simp)) (λb o _ e n=>u.free b o e n (by simp)) (λb o _ e=>u.there b o e (by simp)) u.tups u.frzs u.tbls (λm' hm=>by
  obtain⟨o',es',ep',ho',r'⟩:=hm
  rw[ho] at ho';cases ho'
  exact⟨_,es',ep',hL,r'⟩) hok I.bare
theorem Inv.call {g':Array lU} {t':Nat} {d':Drawn} {ch:List Addr} (I:Inv X pins U H s) (u:Un (frs X.stack) ch H H' s.heap h') (hok:HOk X.prog X.w H' h') (hg:j7 g')
  (hch:∀ b∈ch,(b∈X.ex\/X.s₀.heap.objs.size<=b)/\b≠X.env.locals/\(∀ x c,X.env.cells.lookup x=some c->c≠b) /\ ∀ p∈X.pn++pins,p.1≠b) (ht:s.toks<=t':=by first|exact ah _|exact aZ _ _|assumption|omega|(dsimp only;omega)) :
  Inv X pins U H' { s with heap:=h',gens:=g',drawn:=d',toks:=t' }:=by
 obtain⟨m,⟨o,es,ep,ho,r⟩,_⟩:=id I.loc
 obtain⟨sl,hL⟩:=u.any ho I.free λz=>(hch _ z).2.1 rfl
 exact I.step (ch:=ch) hch (λb o hL hb hc e n=>u.keep b o e n (λz=>(List.mem_cons.mp (I.stkSub b z)).elim hL hb) hc) (λb o _ _ hc e n=>u.any e n hc) (λb o hc e n=>u.free b o e n hc) (λb o hc e=>u.there b o e hc) u.tups u.frzs u.tbls (λm' hm=>by
  obtain⟨o',es',ep',ho',r'⟩:=hm
  rw[ho] at ho';cases ho'
  exact⟨_,es',ep',hL,r'⟩) hok hg
theorem Inv.turned {t':Nat} {it:Addr} (I:Inv X pins U H s) (k:∀ b o,b≠it->s.heap.get? b=some o->h'.get? b=some o) (hn:H it=none) (hL:it≠X.env.locals)
  (h1:it∈X.ex\/X.s₀.heap.objs.size<=it) (h2:∀ x c,X.env.cells.lookup x=some c->c≠it) (h3:∀ p∈X.pn++pins,p.1≠it) (ht:s.toks<=t':=by first|exact ah _|exact aZ _ _|assumption|omega|(dsimp only;omega)):Inv X pins U H { s with heap:=h',toks:=t' }:=by
 have nit:∀ b u,H b=some u->b≠it:=λb u e z=>by rw[z,hn] at e;cases e
 refine I.step (g':=s.gens) (d':=s.drawn) (ch:=[it]) (λb hb=>?_) (λb o _ _ hc e _=>k b o (λz=>hc (by simp[z])) e) (λb o _ _ hc e _=>⟨o.slots,k b o (λz=>hc (by simp[z])) e⟩) (λ_ _ _ _ n=>n)
  (λb o hc e=>⟨o,k b o (λz=>hc (by simp[z])) e⟩) (λ_ _ e=>e) (λ_ _ _ e=>e) (λb ps e=>⟨#[],by rw[e];simp⟩) (λm hm=>?_) (λb u e=>?_) I.bare
 .have e:b=it:=by simpa using hb
  subst e
  exact⟨h1,hL,h2,h3⟩
 .obtain⟨o,es,ep,ho,r⟩:=hm
  exact⟨o,es,ep,k _ o (cy hL) ho,r⟩
 .refine (I.hok b u e).stay (λc v hc q=>k c v ?_ q) (λ_ q=>q) λ_ _ q=>q
  rcases hc with z|z
  .rw[z];exact nit b u e
  .exact nit c _ z
theorem Inv.tok (I:Inv X pins U H s) (t:Nat) (ht:s.toks<=t:=by first|exact ah _|exact aZ _ _|assumption|omega|(dsimp only;omega)):Inv X pins U H { s with toks:=t }:=I.un (h':=s.heap) (t':=t) Un.refl I.hok ht
theorem Inv.kept {t':Nat} (I:Inv X pins U H s) (k:∀ b u,s.heap.get? b=some u->h'.get? b=some u) (ht:s.toks<=t':=by first|exact ah _|exact aZ _ _|assumption|omega|(dsimp only;omega)):Inv X pins U H { s with heap:=h',toks:=t' }:=I.un (Un.kept k) (I.hok.kept k) ht
theorem Inv.laid {a:Addr} {o:HO} {t':Nat} (I:Inv X pins U H s) (k:∀ b u,s.heap.get? b=some u->h'.get? b=some u) (hp:s.heap.objs.size<=a) (new:ObjOk X.prog X.w (upd H a o) h' a o) (ht:s.toks<=t':=by first|exact ah _|exact aZ _ _|assumption|omega|(dsimp only;omega)) :
  Inv X pins U (upd H a o) { s with heap:=h',toks:=t' }:=I.un (Un.laid k hp (I.hok.fresh hp)) (I.hok.laid k hp new) ht
theorem Inv.write {x e:Addr} {o:HO} {t':Nat} (I:Inv X pins U H s) (mu:Mut (H x)) (he:e=x\/H e=some (.own x)) (k:∀ b u,b≠e->s.heap.get? b=some u->h'.get? b=some u) (heo:∃ u,h'.get? e=some u)
  (new:ObjOk X.prog X.w (upd H x o) h' x o) (ht:s.toks<=t':=by first|exact ah _|exact aZ _ _|assumption|omega|(dsimp only;omega)):Inv X pins U (upd H x o) { s with heap:=h',toks:=t' }:=I.un (Un.write mu he k heo) (I.hok.write mu he k heo new) ht
theorem Inv.pins_of {pins':List (Addr×Obj)} (I:Inv X pins U H s) (h:∀ p∈pins',s.heap.get? p.1=some p.2/\H p.1=none/\p.1≠X.env.locals/\p.1∉X.fs /\ ∀ v,p.2.data≠.cell v):Inv X pins' U H s:=
 ⟨I.ok,I.os,I.bare,I.base,I.loc,I.cell,I.free,I.freeC,λp hp=>(List.mem_append.mp hp).elim (λz=>I.pin p (cm _ z)) (h p),I.hok,I.len⟩
theorem Q9 {N:List Str} (hN:N.Nodup) {i j:Nat} {x:Str} (a:N[i]? = some x) (b:N[j]? = some x):i=j:=by
 obtain⟨h1,e1⟩:=List.getElem?_eq_some_iff.mp a
 obtain⟨h2,e2⟩:=List.getElem?_eq_some_iff.mp b
 exact (cH hN).mp (e1.trans e2.symm)
theorem Yt {M:Model} {A:bj} {E:ai->am->Prop} {i:Nat} {x:Str} {v:V} {u:ai} {Q:Unit->am->Prop} (I:Inv X pins U H s) (hN:X.N.Nodup) (hi:X.N[i]? = some x) (hx:Loc X.env.scope x) (r:RelV v u)
  (h:∀ s',Inv X pins (U.set i (some v)) H s'->(∃ a,a9 a s.heap s'.heap/\(a=X.env.locals\/X.env.cells.lookup x=some a))->Q () s') (hf:X.fn x=true\/X.env.scope.names.lookup x=some .local:=by first|exact .inl rfl|exact .inr rfl|assumption):aQ M A (storeName X.env x u) Q E s:=by
 obtain⟨m,hn,hl⟩:=id I.loc
 have hcls:(X.env.scope.kind==.class||(X.env.scope.kind==.module&&X.env.locals != X.env.globals))=false:=by rw[I.ok.kind];rfl
 have hiU:i<U.length:=by rw[I.len];exact (List.getElem?_eq_some_iff.mp hi).1
 have cne:=I.cne
 have tracked:∀ {a:Addr} {h':Heap},(∃ o,s.heap.get? a=some o/\H a=none)->a9 a s.heap h'->HOk X.prog X.w H h':=λ{a h'} ha hs b ob e=>by
  obtain⟨_,_,hfree⟩:=ha
  refine (I.hok b ob e).stay (λc w' hc q=>(hs.2 c ?_).trans q) (λ_ q=>q) λ_ _ q=>q
  rintro rfl
  rcases hc with rfl|hc
  .rw[hfree] at e;cases e
  .rw[hfree] at hc;cases hc
 rcases hx with hk|hk
 .refine wpAny_storeName_local hk hn (λh' hn' hs=>?_) hcls
  obtain⟨oL,_,_,hoL,_⟩:=id hn
  refine h _ ⟨I.ok,⟨I.os.1,aY I.os.2 (by first|exact ah _|exact aZ _ _)⟩,I.bare,⟨λb o e n hb hx=>?_,λb o e n hb hx=>?_,I.base.free,λb o e hx=>?_,I.base.tups,I.base.frzs,I.base.tbls⟩,⟨_,hn',λj y v' e1 e2 e3=>?_⟩,λy c e=>?_,I.free,I.freeC,λp hp=>?_,tracked ⟨oL,hoL,I.free⟩ hs,by simpa using I.len⟩ ⟨_,hs,.inl rfl⟩
  .exact (hs.2 b (aJ (aL (aD e) I.ok.above))).trans (I.base.keep b o e n hb hx)
  .obtain⟨sl,e1⟩:=I.base.slot b o e n hb hx
   exact⟨sl,(hs.2 b (aJ (aL (aD e) I.ok.above))).trans e1⟩
  .obtain⟨o',e1⟩:=I.base.there b o e hx
   exact⟨o',(hs.2 b (aJ (aL (aD e) I.ok.above))).trans e1⟩
  .by_cases hj:j=i
   .subst hj
    rw[hi] at e1;cases e1
    rw[jq hiU] at e2
    cases e2
    exact⟨u,r,.inl ⟨hk,by simp⟩⟩
   .rw[jR (cy hj)] at e2
    obtain⟨u',r',q⟩:=hl j y v' e1 e2 e3
    refine⟨u',r',?_⟩
    rcases q with ⟨k,e⟩|⟨k,c,e,z⟩
    .refine .inl ⟨k,?_⟩
     have:y≠x:=λe=>hj (Q9 hN e1 (e▸hi))
     simp[this,e]
    .exact .inr ⟨k,c,e,z.sameBut hs (cne y c e)⟩
  .obtain⟨w',z⟩:=I.cell y c e
   exact⟨w',z.sameBut hs (cne y c e)⟩
  .obtain⟨e,n,ne,nf,d⟩:=I.pin p hp
   exact⟨(hs.2 p.1 ne).trans e,n,ne,nf,d⟩
 .have hfn:X.fn x=true:=by
   rcases hf with z|z
   .exact z
   .rw[z] at hk;cases hk
  obtain⟨c,hc⟩:=I.ok.has x (.inl hk)
  obtain⟨w',z⟩:=I.cell x c hc
  refine wpAny_storeName_cell I.ok.kind hk hc z (λh' hc' hs=>?_)
  obtain⟨oc,hoc,hocd⟩:=id z
  refine h { s with heap:=h' } ⟨I.ok,I.os,I.bare,⟨λb o e n hb hx=>?_,λb o e n hb hx=>?_,I.base.free,λb o e hx=>?_,I.base.tups,I.base.frzs,I.base.tbls⟩,⟨m,hn.sameBut hs (cy (cne x c hc)),λj y v' e1 e2 e3=>?_⟩,λy c' e=>?_,I.free,I.freeC,λp hp=>?_,tracked ⟨oc,hoc,I.freeC x c hc⟩ hs,by simpa using I.len⟩ ⟨c,hs,.inr hc⟩
  .exact (hs.2 b (aJ (aL (aD e) (I.ok.cab x c hfn hc)))).trans (I.base.keep b o e n hb hx)
  .obtain⟨sl,e1⟩:=I.base.slot b o e n hb hx
   exact⟨sl,(hs.2 b (aJ (aL (aD e) (I.ok.cab x c hfn hc)))).trans e1⟩
  .obtain⟨o',e1⟩:=I.base.there b o e hx
   exact⟨o',(hs.2 b (aJ (aL (aD e) (I.ok.cab x c hfn hc)))).trans e1⟩
  .by_cases hj:j=i
   .subst hj
    rw[hi] at e1;cases e1
    rw[jq hiU] at e2
    cases e2
    exact⟨u,r,.inr ⟨.inl hk,c,hc,hc'⟩⟩
   .rw[jR (cy hj)] at e2
    obtain⟨u',r',q⟩:=hl j y v' e1 e2 e3
    refine⟨u',r',?_⟩
    rcases q with q|⟨k,c',e,z'⟩
    .exact .inl q
    .refine .inr ⟨k,c',e,z'.sameBut hs ?_⟩
     rintro rfl
     exact hj (Q9 hN e1 (I.ok.inj _ _ _ e hc▸hi))
  .by_cases hcc:c'=c
   .subst hcc;exact⟨_,hc'⟩
   .obtain⟨w2,z2⟩:=I.cell y c' e
    exact⟨w2,z2.sameBut hs hcc⟩
  .obtain⟨e,n,ne,nf,d⟩:=I.pin p hp
   refine⟨(hs.2 p.1 ?_).trans e,n,ne,nf,d⟩
   intro q
   rw[q,hoc] at e
   have q':oc=p.2:=aH e
   exact d w' (by rw[<- q'];exact hocd)
theorem K5 {M:Model} {A:bj} {E:ai->am->Prop} {i:Nat} {x:Str} {v:V} {u:ai} {Q:Unit->am->Prop} (I:Inv X pins U H s) (hN:X.N.Nodup) (hi:X.N[i]? = some x) (hx:Loc X.env.scope x) (r:RelV v u)
  (h:∀ s',Inv X pins (U.set i (some v)) H s'->Q () s') (hf:X.fn x=true\/X.env.scope.names.lookup x=some .local:=by first|exact .inl rfl|exact .inr rfl|assumption):aQ M A (storeName X.env x u) Q E s:=
 Yt I hN hi hx r (λs' I' _=>h s' I') hf
theorem Inv.call' {s':am} {ch:List Addr} (I:Inv X pins U H s) (ho:s'.os=s.os/\s.toks<=s'.toks) (u:Un (frs X.stack) ch H H' s.heap s'.heap) (hok:HOk X.prog X.w H' s'.heap) (hg:j7 s'.gens)
  (hch:∀ b∈ch,(b∈X.ex\/X.s₀.heap.objs.size<=b)/\b≠X.env.locals/\(∀ x c,X.env.cells.lookup x=some c->c≠b) /\ ∀ p∈X.pn++pins,p.1≠b):Inv X pins U H' s':=by
 obtain⟨h',g',d',t',o'⟩:=s'
 have e:o'=s.os:=ho.1
 subst e
 exact I.call (g':=g') (t':=t') (d':=d') u hok hg hch ho.2
end
noncomputable abbrev XK:=ai->Option Addr->Hp->Prop
noncomputable abbrev St:=List (Option V)
noncomputable abbrev VK:=V->Hp->Prop
noncomputable abbrev TE:=St->Hp->VK->Prop
noncomputable abbrev TT:=St->Hp->(Bool->Hp->Prop)->Prop
noncomputable abbrev TA:=St->Hp->(List V->Hp->Prop)->Prop
structure Qg where
 nx:St->Hp->Prop
 rt:VK
 bk:St->Hp->Prop:=λ_ _=>False
 ct:St->Hp->Prop:=λ_ _=>False
noncomputable abbrev TS:=Qg->St->Hp->Prop
noncomputable def EP (X:Cx) (pins:List (Addr×Obj)) (U:St) (Q:VK) (u:ai) (s':am):Prop:=∃ v H',Inv X pins U H' s'/\RelV v u/\Q v H'
noncomputable def TP (X:Cx) (pins:List (Addr×Obj)) (U:St) (Q:Bool->Hp->Prop) (b:Bool) (s':am):Prop:=∃ H',Inv X pins U H' s'/\Q b H'
noncomputable def AP (X:Cx) (pins:List (Addr×Obj)) (U:St) (Q:List V->Hp->Prop) (us:List ai) (s':am):Prop:=∃ vs H',Inv X pins U H' s'/\Vals vs us/\Q vs H'
noncomputable def SP (X:Cx) (pins:List (Addr×Obj)) (D:Qg) (f:Flow) (s':am):Prop:=
 match f with
 |.next=>∃ U' H',Inv X pins U' H' s'/\D.nx U' H'
 |.brk=>∃ U' H',Inv X pins U' H' s'/\D.bk U' H'
 |.cont=>∃ U' H',Inv X pins U' H' s'/\D.ct U' H'
 |.ret u=>∃ v U' H',Inv X pins U' H' s'/\RelV v u/\D.rt v H'
noncomputable def PE (X:Cx) (e:Expr) (t:TE):Prop:=
 ∀ (pins:List (Addr×Obj)) (s:am) (U:St) (H:Hp) (Q:VK),Inv X pins U H s->t U H Q->aQ (model X.prog X.w) X.A (eval e X.env) (EP X pins U Q) X.xe s
noncomputable def PT (X:Cx) (e:Expr) (t:TT):Prop:=
 ∀ (pins:List (Addr×Obj)) (s:am) (U:St) (H:Hp) (Q:Bool->Hp->Prop),Inv X pins U H s->t U H Q->aQ (model X.prog X.w) X.A (isTrue e X.env (eval e X.env)) (TP X pins U Q) X.xe s
noncomputable def PW (X:Cx) (e:Expr) (t:TT):Prop:=
 ∀ (whole:Sem ai) (pins:List (Addr×Obj)) (s:am) (U:St) (H:Hp) (Q:Bool->Hp->Prop),Inv X pins U H s->t U H Q->aQ (model X.prog X.w) X.A (isTrue e X.env whole) (TP X pins U Q) X.xe s
theorem PW.pt {X:Cx} {e:Expr} {t:TT} (h:PW X e t):PT X e t:=h _
noncomputable def PA (X:Cx) (es:List Expr) (t:TA):Prop:=
 ∀ (pos:Pos) (pins:List (Addr×Obj)) (s:am) (U:St) (H:Hp) (Q:List V->Hp->Prop),Inv X pins U H s->t U H Q->aQ (model X.prog X.w) X.A (spliced (iV pos (cW es X.env))) (AP X pins U Q) X.xe s
noncomputable def PS (X:Cx) (st:Stmt) (t:TS):Prop:=
 ∀ (pins:List (Addr×Obj)) (s:am) (U:St) (H:Hp) (D:Qg),Inv X pins U H s->t D U H->aQ (model X.prog X.w) X.A (exec st X.env) (SP X pins D) X.xe s
noncomputable def PSs (X:Cx) (st:List Stmt) (t:TS):Prop:=
 ∀ (pins:List (Addr×Obj)) (s:am) (U:St) (H:Hp) (D:Qg),Inv X pins U H s->t D U H->aQ (model X.prog X.w) X.A (execs st X.env) (SP X pins D) X.xe s
theorem thn {α:Type} {t:Sem α} {Q Q':α->am->Prop} {M:Model} {A:bj} {E:ai->am->Prop} {s:am} (h:aQ M A t Q E s) (hQ:∀ a s,Q a s->Q' a s):aQ M A t Q' E s:=bZ h hQ λ_ _ x=>x
section
variable {X:Cx}
noncomputable def bz7 (i:Nat):TE:=λU H Q=>∃ v,U[i]? = some (some v)/\Q v H
noncomputable def tC (v:V):TE:=λ_ H Q=>Q v H
theorem bd9 {i:Nat} {x:Str} {pos:Pos} (hN:X.N[i]? = some x) (hv:Vis X.env.scope x) (hd:(x==("__debug__" : Str))=false:=by decide) (hcd:(x==("__classdict__" : Str))=false:=by decide):PE X (.Name x pos) (bz7 i):=by
 intro pins s U H Q I h
 obtain⟨v,e,h⟩:=h
 obtain⟨m,hn,hl⟩:=I.loc
 obtain⟨u,r,l⟩:=hl i x v hN e hv
 have fin:EP X pins U Q u s:=⟨v,H,I,r,h⟩
 rcases l with ⟨hk,hm⟩|⟨hk,c,hc,hcell⟩
 .exact wpAny_Name (wpAny_loadName_local I.ok.kind hk hn hm fin) hd
 .rcases hk with hk|hk
  .exact wpAny_Name (wpAny_loadName_cell I.ok.kind hk hc hcell fin) hd
  .exact wpAny_Name (wpAny_loadName_free I.ok.kind hk hc hcell fin hcd) hd
theorem bd3 {i j pos}:PE X (.Constant (.int i) j pos) (tC (.int i)):=λ_ _ _ H _ I h=>wpAny_Constant_int ⟨.int i,H,I.tok _,⟨_,rfl⟩,h⟩
theorem bp6 {b j pos}:PE X (.Constant (.bool b) j pos) (tC (.bl b)):=λ_ _ _ H _ I h=>Constant_bool ⟨.bl b,H,I,rfl,h⟩
theorem bd5 {j pos}:PE X (.Constant .none j pos) (tC .non):=λ_ _ _ H _ I h=>Constant_none ⟨.non,H,I,rfl,h⟩
theorem bd7 {x j pos}:PE X (.Constant (.str x) j pos) (tC (.str x)):=λ_ _ _ H _ I h=>Calls.Constant_str ⟨.str x,H,I.tok _,⟨_,rfl⟩,h⟩
noncomputable def Gl (X:Cx) (x:Str):Prop:=X.env.kindOf x=some .globalImplicit
theorem Gv {E:ai->am->Prop} {pins:List (Addr×Obj)} {s:am} {U:St} {H:Hp} {x:Str} {u:ai} {pos:Pos} {Q:ai->am->Prop} (I:Inv X pins U H s) (hg:Gl X x) (hm:X.mg x=some u) (h:Q u s)
  (hd:(x==("__debug__" : Str))=false:=by decide):aQ (model X.prog X.w) X.A (eval (.Name x pos) X.env) Q E s:=
 im I.ok.kind hg (Calls.loadGlobal_global (by rw[I.ok.glob];exact I.mod.glob.keeps I.bk) hm h) hd
theorem C9 {E:ai->am->Prop} {pins:List (Addr×Obj)} {s:am} {U:St} {H:Hp} {x:Str} {u:ai} {pos:Pos} {Q:ai->am->Prop} (I:Inv X pins U H s) (hg:Gl X x) (hm:X.mg x=none) (hv:cV x=some u) (h:Q u s)
  (hn:x ≠ "__name__" := by decide) (hd:(x==("__debug__" : Str))=false:=by decide):aQ (model X.prog X.w) X.A (eval (.Name x pos) X.env) Q E s:=by
 obtain⟨mb,h1,h2⟩:=I.mod.blt
 exact im I.ok.kind hg (Calls.loadGlobal_builtin (by rw[I.ok.glob];exact I.mod.glob.keeps I.bk) hm (by rw[I.ok.blt];exact h1.keeps I.bk) ((h2 x hn).trans hv) h) hd
theorem Wj {x:Str} {v:V} {u:ai} {pos:Pos} (hg:Gl X x) (hm:X.mg x=some u) (r:RelV v u) (hd:(x==("__debug__" : Str))=false:=by decide):PE X (.Name x pos) (tC v):=
 λ_ _ _ H _ I h=>Gv I hg hm ⟨v,H,I,r,h⟩ hd
theorem au8 {x:Str} {v:V} {u:ai} {pos:Pos} (hg:Gl X x) (hm:X.mg x=none) (hv:cV x=some u) (r:RelV v u) (hn:x ≠ "__name__" := by decide) (hd:(x==("__debug__" : Str))=false:=by decide):PE X (.Name x pos) (tC v):=
 λ_ _ _ H _ I h=>C9 I hg hm hv ⟨v,H,I,r,h⟩ hn hd
variable {a b:Expr} {ta tb:TE} {pos:Pos}
variable {tA tB':TT} {rest:List Expr}
noncomputable def by8 (t u:TT):TT:=λU H Q=>t U H λc H1=>if c=true then u U H1 Q else Q false H1
noncomputable def tOr (t u:TT):TT:=λU H Q=>t U H λc H1=>if c=true then Q true H1 else u U H1 Q
noncomputable def bz3 (t:TT):TT:=λU H Q=>t U H λc H1=>Q (!c) H1
theorem av9 (ha:PT X a tA):PW X (.BoolOp .And [a] pos) tA:=by
 intro wh pins s U H Q I h
 refine isTrue_and (thn (ha pins s U H Q I h) λc s1 e=>?_)
 cases c with
 |true=>exact isTrue_and_nil e
 |false=>exact e
theorem be7 (ha:PT X a tA):PW X (.BoolOp .Or [a] pos) tA:=by
 intro wh pins s U H Q I h
 refine isTrue_or (thn (ha pins s U H Q I h) λc s1 e=>?_)
 cases c with
 |false=>exact isTrue_or_nil e
 |true=>exact e
theorem be6 (ha:PT X a tA) (hb:PW X (.BoolOp .And (b::rest) pos) tB'):PW X (.BoolOp .And (a::b::rest) pos) (by8 tA tB'):=by
 intro wh pins s U H Q I h
 refine isTrue_and (thn (ha pins s U H _ I h) λc s1 ⟨H1,I1,q1⟩=>?_)
 cases c with
 |true=>exact hb wh pins s1 U H1 Q I1 q1
 |false=>exact⟨H1,I1,q1⟩
theorem bq2 (ha:PT X a tA) (hb:PW X (.BoolOp .Or (b::rest) pos) tB'):PW X (.BoolOp .Or (a::b::rest) pos) (tOr tA tB'):=by
 intro wh pins s U H Q I h
 refine isTrue_or (thn (ha pins s U H _ I h) λc s1 ⟨H1,I1,q1⟩=>?_)
 cases c with
 |true=>exact⟨H1,I1,q1⟩
 |false=>exact hb wh pins s1 U H1 Q I1 q1
theorem be5 (ha:PT X a tA):PT X (.UnaryOp .Not a pos) (bz3 tA):=by
 intro pins s U H Q I h
 exact isTrue_not (ha pins s U H (λc H1=>Q (!c) H1) I h)
theorem bd6 {op} {t:TE} (h:PE X a t):PE X (.BoolOp op [a] pos) t:=λpins s U H Q I hw=>BoolOp_one (h pins s U H Q I hw)
noncomputable def tIf (t:TT) (ta tb:TE):TE:=λU H Q=>t U H λc H1=>if c=true then ta U H1 Q else tb U H1 Q
theorem ag5 {c:Expr} (hc:PT X c tA) (ha:PE X a ta) (hb:PE X b tb):PE X (.IfExp c a b pos) (tIf tA ta tb):=by
 intro pins s U H Q I h
 refine wpAny_IfExp (thn (hc pins s U H _ I h) λd s1 ⟨H1,I1,q1⟩=>?_)
 cases d with
 |true=>exact ha pins s1 U H1 Q I1 q1
 |false=>exact hb pins s1 U H1 Q I1 q1
end
noncomputable def SqL (K:ac) (H:Hp) (a:Addr) (xs:List V):Prop:=
 Rd H a (.lst xs) \/
  ∃ (o:Obj) (its:Array ai) (n:Nat),K.lookup a=some o/\o.cls=.type "list" /\ o.dict=none/\o.data=.seq its n/\its.size<=sizeLine/\xs.all V.pl=true/\Vals xs its.toList
noncomputable def SqT (K:ac) (H:Hp) (a:Addr) (xs:List V):Prop:=
 Rd H a (.tup xs) \/
  ∃ (o:Obj) (its:Array ai) (n:Nat),K.lookup a=some o/\o.cls=.type "tuple" /\ o.data=.seq its n/\its.size<=sizeLine/\xs.all V.pl=true/\Vals xs its.toList
noncomputable def bx1:ai->Option V
 |.none=>some .non
 |.bool b=>some (.bl b)
 |.int i _=>some (.int i)
 |.str x _=>some (.str x)
 |.bytes b _=>some (.byt b)
 |.ref a=>some (.ref a)
 |.type n=>some (.ty n)
 |_=>none
theorem RelV.abs {x:V} {u:ai} (r:RelV x u) (p:x.pl=true):bx1 u=some x:=by
 cases x with
 |non=>cases r;rfl
 |bl _=>cases r;rfl
 |int _=>obtain⟨t,rfl⟩:=r;rfl
 |str _=>obtain⟨t,rfl⟩:=r;rfl
 |byt _=>obtain⟨t,rfl⟩:=r;rfl
 |stk _ _ _=>cases p
 |ref _=>cases r;rfl
 |ty _=>cases r;rfl
theorem RelV.inj {x y:V} {u:ai} (r:RelV x u) (q:RelV y u) (p:x.pl=true) (p':y.pl=true):x=y:=aH ((r.abs p).symm.trans (q.abs p'))
theorem Vals.inj:∀ {xs ys:List V} {us:List ai},Vals xs us->Vals ys us->xs.all V.pl=true->ys.all V.pl=true->xs=ys
 |_,_,_,.nil,.nil,_,_=>rfl
 | _,_,_,.cons r t,.cons r' t',p,q=>by
  simp only[bW,aU] at p q
  rw[r.inj r' p.1 q.1,Vals.inj t t' p.2 q.2]
section
variable {X:Cx} {pins:List (Addr×Obj)} {U:St} {H:Hp} {s:am} {a:Addr} {xs ys:List V}
theorem SqL.of {K:ac} (h:H a=some (.lst xs)):SqL K H a xs:=.inl (.inl h)
theorem SqT.of {K:ac} (h:H a=some (.tup xs)):SqT K H a xs:=.inl (.inl h)
theorem Inv.list (I:Inv X pins U H s) (h:SqL X.K H a xs):∃ its:List ai,Vals xs its/\PlainL s.heap a its.toArray/\xs.length<=sizeLine:=by
 rcases h with h|⟨o,its,n,hk,hc,hd,hs,hz,_,r⟩
 .obtain⟨z,its,n,r,e⟩:=h.ok I.hok
  exact⟨its,r,⟨_,n,e,rfl,rfl,rfl⟩,z⟩
 .refine⟨its.toList,r,⟨o,n,I.kIn a o hk,hc,hd,by simpa using hs⟩,?_⟩
  have e:=r.length
  simp only[bU] at e
  omega
theorem Inv.tuple (I:Inv X pins U H s) (h:SqT X.K H a xs):∃ its:List ai,Vals xs its/\ma s.heap a its.toArray/\xs.length<=sizeLine:=by
 rcases h with h|⟨o,its,n,hk,hc,hs,hz,_,r⟩
 .obtain⟨z,its,r,p⟩:=h.ok I.hok
  exact⟨its,r,p,z⟩
 .refine⟨its.toList,r,⟨o,I.kIn a o hk,hc,n,by simpa using hs⟩,?_⟩
  have e:=r.length
  simp only[bU] at e
  omega
theorem Inv.notK (I:Inv X pins U H s) {o:HO} {ob:Obj} (h:Rd H a o) (e:X.K.lookup a=some ob):False:=by
 have n:=(I.bs a ob (I.mod.kin a ob e)).2
 rcases h with h|⟨u,h⟩
 .rw[n] at h;cases h
 .rw[n] at h;cases h
theorem Inv.list_inj (I:Inv X pins U H s) (h:SqL X.K H a xs) (h':SqL X.K H a ys):xs=ys:=by
 rcases h with h|⟨o,its,n,hk,hc,hd,hs,hz,p,r⟩
 .rcases h' with h'|⟨o',its',n',hk',hc',hd',hs',hz',p',r'⟩
  .rcases h with h|⟨u,h⟩ <;> rcases h' with h'|⟨u',h'⟩ <;> (rw[h] at h';first|(cases h';rfl)|cases h')
  .exact (I.notK h hk').elim
 .rcases h' with h'|⟨o',its',n',hk',hc',hd',hs',hz',p',r'⟩
  .exact (I.notK h' hk).elim
  .rw[hk] at hk';cases hk'
   rw[hs] at hs';cases hs'
   exact r.inj r' p p'
theorem Inv.tuple_inj (I:Inv X pins U H s) (h:SqT X.K H a xs) (h':SqT X.K H a ys):xs=ys:=by
 rcases h with h|⟨o,its,n,hk,hc,hs,hz,p,r⟩
 .rcases h' with h'|⟨o',its',n',hk',hc',hs',hz',p',r'⟩
  .rcases h with h|⟨u,h⟩ <;> rcases h' with h'|⟨u',h'⟩ <;> (rw[h] at h';first|(cases h';rfl)|cases h')
  .exact (I.notK h hk').elim
 .rcases h' with h'|⟨o',its',n',hk',hc',hs',hz',p',r'⟩
  .exact (I.notK h' hk).elim
  .rw[hk] at hk';cases hk'
   rw[hs] at hs';cases hs'
   exact r.inj r' p p'
end
noncomputable abbrev Cx.wish (X:Cx) (E:ai->am->Prop):Cx:={ X with xe:=E }
noncomputable abbrev Cx.nox (X:Cx):Cx:=X.wish λ_ _=>False
theorem Cx.Ok.wish {X:Cx} (ok:X.Ok) (E:ai->am->Prop):(X.wish E).Ok:=
 ⟨ok.mod,ok.kind,ok.glob,ok.blt,ok.above,ok.inj,ok.has,ok.cab,ok.hd,ok.frames,ok.stk,ok.exf,ok.bs,ok.bsz,ok.noex,ok.exfs,ok.funs,ok.frf,ok.tk⟩
theorem Cx.Ok.unwish {X:Cx} {E:ai->am->Prop} (ok:(X.wish E).Ok):X.Ok:=
 ⟨ok.mod,ok.kind,ok.glob,ok.blt,ok.above,ok.inj,ok.has,ok.cab,ok.hd,ok.frames,ok.stk,ok.exf,ok.bs,ok.bsz,ok.noex,ok.exfs,ok.funs,ok.frf,ok.tk⟩
section
variable {X:Cx} {pins:List (Addr×Obj)} {U:St} {H:Hp} {s:am} {E:ai->am->Prop}
theorem Inv.wish (I:Inv X pins U H s) (E:ai->am->Prop):Inv (X.wish E) pins U H s:=⟨I.ok.wish E,I.os,I.bare,I.base,I.loc,I.cell,I.free,I.freeC,I.pin,I.hok,I.len⟩
theorem Inv.unwish (I:Inv (X.wish E) pins U H s):Inv X pins U H s:=⟨I.ok.unwish,I.os,I.bare,I.base,I.loc,I.cell,I.free,I.freeC,I.pin,I.hok,I.len⟩
theorem SP.unwish {D:Qg} {f:Flow} {s':am} (h:SP (X.wish E) pins D f s'):SP X pins D f s':=by
 cases f with
 |next=>obtain⟨U',H',I,q⟩:=h;exact⟨U',H',I.unwish,q⟩
 |brk=>obtain⟨U',H',I,q⟩:=h;exact⟨U',H',I.unwish,q⟩
 |cont=>obtain⟨U',H',I,q⟩:=h;exact⟨U',H',I.unwish,q⟩
 |ret u=>obtain⟨v,U',H',I,r,q⟩:=h;exact⟨v,U',H',I.unwish,r,q⟩
theorem PE.nox {e:Expr} {t:TE} (h:PE X.nox e t):PE X e t:=λpins s U H Q I hw=>
 bZ (h pins s U H Q (I.wish _) hw) (λ_ _ ⟨v,H',I',r,q⟩=>⟨v,H',I'.unwish,r,q⟩) λ_ _ z=>cq z
theorem PSs.nox {st:List Stmt} {t:TS} (h:PSs X.nox st t):PSs X st t:=λpins s U H D I hw=>
 bZ (h pins s U H D (I.wish _) hw) (λ_ _ q=>q.unwish) λ_ _ z=>cq z
end
section
variable {X:Cx} {st:Stmt} {rest:List Stmt} {t u:TS} {e:Expr} {te:TE} {pos:Pos}
noncomputable def a23:TS:=λD U H=>D.nx U H
noncomputable def bz5 (t u:TS):TS:=λD U H=>t { D with nx:=u D } U H
theorem av6:PSs X [] a23:=λ_ _ U H _ I h=>jK ⟨U,H,I,h⟩
theorem ah3 (h1:PS X st t) (h2:PSs X rest u):PSs X (st::rest) (bz5 t u):=by
 intro pins s U H D I h
 refine wpAny_execs_cons (thn (h1 pins s U H { D with nx:=u D } I h) λf s1 q=>?_)
 cases f with
 |next=>
  obtain⟨U',H',I',q⟩:=q
  exact h2 pins s1 U' H' D I' q
 |ret v=>exact q
 |brk=>exact q
 |cont=>exact q
noncomputable def bi1:TS:=λD U H=>D.bk U H
noncomputable def br5:TS:=λD U H=>D.ct U H
theorem av4:PS X (.Pass pos) a23:=λ_ _ U H _ I h=>wpAny_Pass ⟨U,H,I,h⟩
theorem ah2:PS X (.Break pos) bi1:=λ_ _ U H _ I h=>wpAny_Break ⟨U,H,I,h⟩
theorem Ri:PS X (.Continue pos) br5:=λ_ _ U H _ I h=>wpAny_Continue ⟨U,H,I,h⟩
theorem Inv.quiet {pins:List (Addr×Obj)} {U:St} {H:Hp} {s:am} (I:Inv X pins U H s):interactive X.env=false:=by simp[interactive,I.ok.kind]
noncomputable def br6 (te:TE):TS:=λD U H=>te U H λ_ H1=>D.nx U H1
theorem av3 (he:PE X e te) (hs:iX e none pos.line X.env=pure false:=by rfl):PS X (.Expr e pos) (br6 te):=by
 intro pins s U H D I h
 exact wpAny_Expr_any (thn (he pins s U H _ I h) λv s1 ⟨x,H1,I1,r1,q1⟩=>⟨U,H1,I1,q1⟩) I.quiet hs
noncomputable def bz4 (te:TE):TS:=λD U H=>te U H D.rt
theorem be3 (he:PE X e te):PS X (.Return (some e) pos) (bz4 te):=by
 intro pins s U H D I h
 exact wpAny_Return_some (thn (he pins s U H _ I h) λv s1 ⟨x,H1,I1,r1,q1⟩=>⟨x,U,H1,I1,r1,q1⟩)
noncomputable def br7:TS:=λD _ H=>D.rt .non H
theorem av5:PS X (.Return none pos) br7:=λ_ _ U H _ I h=>wpAny_Return_none ⟨.non,U,H,I,rfl,h⟩
noncomputable def bz0 (c:TT) (t u:TS):TS:=λD U H=>c U H λb H1=>if b=true then t D U H1 else u D U H1
theorem bq1 {c:Expr} {a b:List Stmt} {tc:TT} (hc:PT X c tc) (ha:PSs X a t) (hb:PSs X b u):PS X (.If c a b pos) (bz0 tc t u):=by
 intro pins s U H D I h
 refine wpAny_If (thn (hc pins s U H _ I h) λd s1 ⟨H1,I1,q1⟩=>?_)
 cases d with
 |true=>exact ha pins s1 U H1 D I1 q1
 |false=>exact hb pins s1 U H1 D I1 q1
end
noncomputable abbrev TG:=V->St->Hp->(St->Hp->Prop)->Prop
noncomputable abbrev TGs:=List V->St->Hp->(St->Hp->Prop)->Prop
noncomputable def PG (X:Cx) (target:Expr) (t:TG):Prop:=
 ∀ (pins:List (Addr×Obj)) (s:am) (U:St) (H:Hp) (v:V) (u:ai) (Q:St->Hp->Prop),Inv X pins U H s->RelV v u->t v U H Q ->
  aQ (model X.prog X.w) X.A (lx target X.env u) (λ_ s'=>∃ U' H',Inv X pins U' H' s'/\Q U' H') X.xe s
noncomputable def PGs (X:Cx) (ts:List Expr) (t:TGs):Prop:=
 ∀ (pins:List (Addr×Obj)) (s:am) (U:St) (H:Hp) (vs:List V) (us:List ai) (Q:St->Hp->Prop),Inv X pins U H s->Vals vs us->t vs U H Q ->
  aQ (model X.prog X.w) X.A (assignInOrder ((dq ts X.env).map (·.2)) us) (λ_ s'=>∃ U' H',Inv X pins U' H' s'/\Q U' H') X.xe s
noncomputable abbrev a38:=V->V->V->Hp->(Hp->Prop)->Prop
noncomputable def bj3 (X:Cx) (t:a38):Prop:=
 ∀ (pins:List (Addr×Obj)) (s:am) (U:St) (H:Hp) (o i v:V) (ov iv u:ai) (Q:Hp->Prop),Inv X pins U H s->RelV o ov->RelV i iv->RelV v u->t o i v H Q ->
  aQ (model X.prog X.w) X.A (setItem ov iv u) (λ_ s'=>∃ H',Inv X pins U H' s'/\Q H') X.xe s
section
variable {X:Cx} {pos:Pos}
noncomputable def ab9 (i:Nat):TG:=λv U H Q=>Q (U.set i (some v)) H
theorem av0 {i:Nat} {x:Str} (hN:X.N.Nodup) (hi:X.N[i]? = some x) (hx:Loc X.env.scope x) (hf:X.fn x=true\/X.env.scope.names.lookup x=some .local:=by first|exact .inl rfl|exact .inr rfl|assumption):PG X (.Name x pos) (ab9 i):=by
 intro pins s U H v u Q I r h
 exact wpAny_assign_Name (K5 I hN hi hx r (λs' I'=>⟨_,H,I',h⟩) hf)
noncomputable def bx5:TGs:=λvs U H Q=>vs=[]/\Q U H
noncomputable def bk5 (t:TG) (u:TGs):TGs:=λvs U H Q=>∃ v r,vs=v::r/\t v U H λU' H'=>u r U' H' Q
theorem av1:PGs X [] bx5:=by
 intro pins s U H vs us Q I r h
 obtain⟨e,h⟩:=h
 subst e
 cases r
 exact assignInOrder_nil ⟨U,H,I,h⟩
theorem ag6 {e:Expr} {es:List Expr} {t:TG} {u:TGs} (h1:PG X e t) (h2:PGs X es u)
  (hs:(dq (e::es) X.env).map (·.2)=lx e X.env::(dq es X.env).map (·.2):=by rfl):PGs X (e::es) (bk5 t u):=by
 intro pins s U H vs us Q I r h
 obtain⟨v,vr,e1,h⟩:=h
 subst e1
 cases r with
 |cons r rr=>
  rw[hs]
  refine assignInOrder_cons (thn (h1 pins s U H _ _ _ I r h) λ_ s1 ⟨U1,H1,I1,q1⟩=>?_)
  exact h2 pins s1 U1 H1 _ _ Q I1 rr q1
noncomputable def bx7 (K:ac) (n:Nat) (t:TGs):TG:=λv U H Q=>∃ a xs,v=.ref a/\SqT K H a xs/\xs.length=n/\t xs U H Q
theorem be1 {es:List Expr} {k:Nat} {t:TGs} {n:Nat} (hc:X.calm=true) (h:PGs X es t)
  (hn:(dq es X.env).length=n:=by rfl) (hst:(dq es X.env).findIdx? (·.1)=none:=by rfl):PG X (.Tuple es k pos) (bx7 X.K n t):=by
 intro pins s U H v u Q I r hw
 obtain⟨a,xs,e1,hq,hl,hw⟩:=hw
 subst e1
 cases r
 obtain⟨its,rv,ht,hz⟩:=I.tuple hq
 refine assign_Tuple_tuple (I.ok.hd hc) ht (by simp[hn,<- hl,rv.length]) hst λh' hx=>?_
 have I1:Inv X pins U H { s with heap:=h' }:=I.kept (t':=s.toks) λb o e=>hx b o (aJ (aD e)) e
 exact h pins _ U H xs _ Q I1 (by simpa using rv) hw
noncomputable def bx6 (to ti:TE) (t:a38):TG:=λv U H Q=>to U H λo H1=>ti U H1 λi H2=>t o i v H2 λH3=>Q U H3
theorem be0 {o i:Expr} {to ti:TE} {t:a38} (ho:PE X o to) (hi:PE X i ti) (hs:bj3 X t)
  (ha:∀ v,lx (.Subscript o i pos) X.env v=(do
   let ov <- lK [v] (eval o X.env)
   let iv <- lK [v,ov] (eval i X.env)
   standAt pos
   lK [v,ov,iv] (setItem ov iv v)
   release [v,ov,iv] []):=by intro _;rfl):PG X (.Subscript o i pos) (bx6 to ti t):=by
 intro pins s U H v u Q I r h
 rw[ha]
 refine af (cb (thn (ho pins s U H _ I h) λov s1 ⟨x,H1,I1,r1,q1⟩=>?_))
 refine af (cb (thn (hi pins s1 U H1 _ I1 q1) λiv s2 ⟨y,H2,I2,r2,q2⟩=>?_))
 refine af (gp (af (cb (thn (hs pins s2 U H2 x y v ov iv u _ I2 r1 r2 r q2) λ_ s3 ⟨H3,I3,q3⟩=>?_))))
 exact wpAny_release ⟨U,H3,I3,q3⟩
noncomputable def bi0 (te:TE) (g:TG):TS:=λD U H=>te U H λx H1=>g x U H1 D.nx
theorem ah1 {tg e:Expr} {te:TE} {g:TG} (he:PE X e te) (hg:PG X tg g) (hs:kL [tg] e pos.line X.env=pure false:=by rfl) (hw:swappedStores [tg] e X.env=pure none:=by rfl)
  (h1:(dq [tg] X.env).map (·.2)=[lx tg X.env]:=by rfl):PS X (.Assign [tg] e pos) (bi0 te g):=by
 intro pins s U H D I h
 refine wpAny_Assign_stores (thn (he pins s U H _ I h) λv s1 ⟨x,H1,I1,r1,q1⟩=>?_) hs hw
 rw[h1]
 exact thn (hg pins s1 U H1 x v _ I1 r1 q1) λ_ s2 q=>q
theorem be4 {i:Nat} {x:Str} {e:Expr} {te:TE} {pos':Pos} (hN:X.N.Nodup) (hi:X.N[i]? = some x) (hx:Loc X.env.scope x) (he:PE X e te) (hs:iX e (some (.Name x pos')) pos.line X.env=pure false:=by rfl) (hf:X.fn x=true\/X.env.scope.names.lookup x=some .local:=by first|exact .inl rfl|exact .inr rfl|assumption) :
  PS X (.Assign [.Name x pos'] e pos) (bi0 te (ab9 i)):=by
 intro pins s U H D I h
 refine wpAny_Assign_Name (thn (he pins s U H _ I h) λv s1 ⟨y,H1,I1,r1,q1⟩=>?_) hs
 exact K5 I1 hN hi hx r1 (λs2 I2=>⟨_,H1,I2,q1⟩) hf
end
structure It where
 go:Nat->Hp->Prop
 yld:Nat->Hp->V->Hp->Prop
 stop:Nat->Hp->Prop
noncomputable def Dn (X:Cx) (pins:List (Addr×Obj)) (H:Hp) (b:Addr):Prop:=
 H b=none/\b≠X.env.locals/\b∉X.fs/\(b∈X.ex\/X.s₀.heap.objs.size<=b)/\(∀ x c,X.env.cells.lookup x=some c->c≠b) /\ ∀ p∈X.pn++pins,p.1≠b
theorem Inv.fpOk {X:Cx} {pins:List (Addr×Obj)} {U:St} {H H':Hp} {s:am} {b:Addr} (I:Inv X pins U H s) (hb:s.heap.objs.size<=b) (hn:H' b=none):Dn X pins H' b:=by
 refine⟨hn,eC (aL I.lt hb),I.nofs hb,.inr (aY I.sz hb),λx c e z=>?_,λp hp z=>?_⟩
 .obtain⟨v,q⟩:=I.cell x c e
  exact absurd (aL q.lt (by rw[z];exact hb)) (fI _)
 .exact absurd (aL (aD (I.pin p hp).1) (by rw[z];exact hb)) (fI _)
structure Lq (P:aX) (w:bB) (K:ac) (tg:Expr) (J:It) (fp:List Addr) (it:Addr) (tn:Nat->Heap->Prop):Prop where
 mem:it∈fp
 obj:∀ i h,tn i h -> ∀ b∈fp,∃ o,h.get? b=some o /\ ∀ v,o.data≠.cell v
 keep:∀ i h h',tn i h->(∀ b∈fp,∀ o,h.get? b=some o->h'.get? b=some o)->tn i h'
 item:∀ (X:Cx),X.prog=P->X.w=w->X.K=K->X.calm=true -> ∀ (i:Nat) (pins:List (Addr×Obj)) (s:am) (U:St) (H:Hp) (E:ai->am->Prop),Inv X pins U H s->(∀ b∈fp,Dn X pins H b)->tn i s.heap->J.go i H ->
  aQ (model P w) X.A (f9 (.ref it)) (λr s1=>∃ u,r=some u /\
   aQ (model P w) X.A (ic tg (.ref it) u) (λ_ s2=>∃ x H',Inv X pins U H' s2/\RelV x u/\J.yld i H x H'/\tn (i+1) s2.heap /\ ∀ b∈fp,H' b=none) E s1) E s
 done:∀ (X:Cx),X.prog=P->X.w=w->X.K=K->X.calm=true -> ∀ (i:Nat) (pins:List (Addr×Obj)) (s:am) (U:St) (H:Hp) (E:ai->am->Prop),Inv X pins U H s->(∀ b∈fp,Dn X pins H b)->tn i s.heap->J.stop i H ->
  aQ (model P w) X.A (f9 (.ref it)) (λr s1=>r=none/\Inv X pins U H s1) E s
 self:∀ (A:bj) (i:Nat) (s:am) (Q:ai->am->Prop) (E:ai->am->Prop),tn i s.heap->Q (.ref it) s->aQ (model P w) A (lN (.ref it)) Q E s
noncomputable abbrev TI:=St->Hp->(It->Hp->Prop)->Prop
noncomputable def PIE (X:Cx) (pins:List (Addr×Obj)) (U:St) (tg:Expr) (R:It->Hp->Prop) (itv:ai) (s2:am):Prop:=
 ∃ (it:Addr) (fp:List Addr) (tn:Nat->Heap->Prop) (J:It) (H':Hp),itv=.ref it/\Inv X pins U H' s2/\Lq X.prog X.w X.K tg J fp it tn/\tn 0 s2.heap/\(∀ b∈fp,Dn X pins H' b)/\R J H'
noncomputable def PI (X:Cx) (tg iter:Expr) (wi:TI):Prop:=
 ∀ (pins:List (Addr×Obj)) (s:am) (U:St) (H:Hp) (R:It->Hp->Prop),Inv X pins U H s->wi U H R ->
  aQ (model X.prog X.w) X.A (eval iter X.env) (λv s1=>aQ (model X.prog X.w) X.A (lN v) (PIE X pins U tg R) X.xe s1) X.xe s
theorem Ke {M:Model} {A:bj} {E:ai->am->Prop} {s:am} {tg:Expr} {it:Addr} {u:ai} {o:Obj} {n:String} {vs:Array ai} {Q:Unit->am->Prop} (ho:s.heap.get? it=some o) (hc:o.cls=.type n) (hd:o.data=.fields vs)
    (hn:["enumerate", "zip", "dict_itemiterator", "dict_reverseitemiterator", "odict_iterator", "itertools.zip_longest", "itertools.pairwise"].contains n=false) (hQ:Q () s):aQ M A (ic tg (.ref it) u) Q E s:=by
  unfold ic
  cases tg <;> first
    |exact ao hQ
    | (cases u <;> first
        |exact ao hQ
        | (refine af (wpAny_load ho ?_)
           rw[hc,hd]
           show aQ M A (if (["enumerate", "zip", "dict_itemiterator", "dict_reverseitemiterator", "odict_iterator", "itertools.zip_longest", "itertools.pairwise"].contains n&&vs[0]? == some (eE _))=true then _ else _) Q E s
           rw[if_neg (by intro h;rw[hn,jY] at h;cases h)]
           exact ao hQ))
noncomputable def Itl (K:ac) (a:Addr):It:=
 ⟨λi H=>∃ xs x,SqL K H a xs/\xs[i]? = some x,λi H x H'=>H'=H /\ ∀ xs,SqL K H a xs->xs[i]? = some x,λi H=>∃ xs,SqL K H a xs/\xs.length<=i⟩
noncomputable def Itt (K:ac) (a:Addr):It:=
 ⟨λi H=>∃ xs x,SqT K H a xs/\xs[i]? = some x,λi H x H'=>H'=H /\ ∀ xs,SqT K H a xs->xs[i]? = some x,λi H=>∃ xs,SqT K H a xs/\xs.length<=i⟩
noncomputable def Itr (lo:Int) (n:Nat):It:=⟨λi _=>i<n,λi H x H'=>H'=H/\x=.int (lo+i),λi _=>n<=i⟩
theorem Yz {P:aX} {w:bB} {K:ac} {tg:Expr} (a it:Addr):Lq P w K tg (Itl K a) [it] it (λi h=>h.IsListIter it a i) where
 mem:=by simp
 obj:=λi h st b hb=>by
  have e:b=it:=by simpa using hb
  subst e
  obtain⟨o,e,c,d⟩:=st
  exact⟨o,e,λv z=>by rw[d] at z;cases z⟩
 keep:=λi h h' st k=>st.at λo e=>k it (by simp) o e
 item:=by
  intro X hP hw hK hc i pins s U H E I hf st hg
  subst hP hw hK
  obtain⟨xs,x,hq,hx⟩:=hg
  obtain⟨its,rv,p,hz⟩:=I.list hq
  obtain⟨u,hu,ru⟩:=rv.get hx
  obtain⟨f0,f1,f2,f3,f4,f5⟩:=hf it (by simp)
  refine wpAny_pyNext_list_item st p.isList (x:=u) (by simpa using hu) λh' st' sb=>?_
  have I1:Inv X pins U H { s with heap:=h' }:=I.turned (t':=s.toks) (λb o hb e=>(sb.2 b hb).trans e) f0 f1 f3 f4 f5
  obtain⟨o,e,c,d⟩:=id st'
  exact⟨u,rfl,Ke (s:={ s with heap:=h' }) e c d (by decide) ⟨x,H,I1,ru,⟨rfl,λys hy=>by rw[I.list_inj hy hq];exact hx⟩,st',λb hb=>(hf b hb).1⟩⟩
 done:=by
  intro X hP hw hK hc i pins s U H E I hf st hg
  subst hP hw hK
  obtain⟨xs,hq,hx⟩:=hg
  obtain⟨its,rv,p,hz⟩:=I.list hq
  obtain⟨f0,f1,f2,f3,f4,f5⟩:=hf it (by simp)
  have hl:=rv.length
  exact wpAny_pyNext_list_end (I.ok.hd hc) st p.isList (by simp;omega) λh' eb=>⟨rfl,I.turned (t':=s.toks) (λb o hb e=>eb b o hb e) f0 f1 f3 f4 f5⟩
 self:=λ_ _ _ _ _ st h=>wpAny_pyIter_listiter st h
theorem Vh {P:aX} {w:bB} {K:ac} {tg:Expr} (a it:Addr):Lq P w K tg (Itt K a) [it] it (λi h=>h.IsTupleIter it a i) where
 mem:=by simp
 obj:=λi h st b hb=>by
  have e:b=it:=by simpa using hb
  subst e
  obtain⟨o,e,c,d⟩:=st
  exact⟨o,e,λv z=>by rw[d] at z;cases z⟩
 keep:=λi h h' st k=>st.at λo e=>k it (by simp) o e
 item:=by
  intro X hP hw hK hc i pins s U H E I hf st hg
  subst hP hw hK
  obtain⟨xs,x,hq,hx⟩:=hg
  obtain⟨its,rv,p,hz⟩:=I.tuple hq
  obtain⟨u,hu,ru⟩:=rv.get hx
  obtain⟨f0,f1,f2,f3,f4,f5⟩:=hf it (by simp)
  refine wpAny_pyNext_tuple_item st (show s.heap.IsTuple a its.toArray from p) (x:=u) (by simpa using hu) λh' st' sb=>?_
  have I1:Inv X pins U H { s with heap:=h' }:=I.turned (t':=s.toks) (λb o hb e=>(sb.2 b hb).trans e) f0 f1 f3 f4 f5
  obtain⟨o,e,c,d⟩:=id st'
  exact⟨u,rfl,Ke (s:={ s with heap:=h' }) e c d (by decide) ⟨x,H,I1,ru,⟨rfl,λys hy=>by rw[I.tuple_inj hy hq];exact hx⟩,st',λb hb=>(hf b hb).1⟩⟩
 done:=by
  intro X hP hw hK hc i pins s U H E I hf st hg
  subst hP hw hK
  obtain⟨xs,hq,hx⟩:=hg
  obtain⟨its,rv,p,hz⟩:=I.tuple hq
  obtain⟨f0,f1,f2,f3,f4,f5⟩:=hf it (by simp)
  have hl:=rv.length
  exact wpAny_pyNext_tuple_end (I.ok.hd hc) st (show s.heap.IsTuple a its.toArray from p) (by simp;omega) λh' eb=>⟨rfl,I.turned (t':=s.toks) (λb o hb e=>eb b o hb e) f0 f1 f3 f4 f5⟩
 self:=λ_ _ _ _ _ st h=>wpAny_pyIter_tupleiter st h
theorem Vg {P:aX} {w:bB} {K:ac} {tg:Expr} (it:Addr) (lo:Int) (n:Nat):Lq P w K tg (Itr lo n) [it] it (λi h=>IsRangeIter h it (lo+(i:Nat) * 1) ((n:Int) - (i:Nat)) 1) where
 mem:=by simp
 obj:=λi h st b hb=>by
  have e:b=it:=by simpa using hb
  subst e
  exact⟨_,st,λv z=>by
   have z':Data.fields _=Data.cell v:=z
   cases z'⟩
 keep:=λi h h' st k=>k it (by simp) _ st
 item:=by
  intro X hP hw hK hc i pins s U H E I hf st hg
  subst hP hw hK
  obtain⟨f0,f1,f2,f3,f4,f5⟩:=hf it (by simp)
  have W:=Walks.range (prog:=X.prog) (w:=X.w) (I.ok.hd hc) it lo 1 n
  refine bE (ah _) (W.item i s _ _ hg st λv h' tk hv st' kk htk=>?_)
  obtain⟨t,rfl⟩:=hv
  have I1:Inv X pins U H { s with heap:=h',toks:=tk }:=I.turned (λb o hb e=>kk b o (by simpa using hb) e) f0 f1 f3 f4 f5
  refine⟨_,rfl,Ke (s:={ s with heap:=h',toks:=tk }) (n := "range_iterator") st' rfl rfl (by decide) ⟨.int (lo+i),H,I1,⟨t,?_⟩,⟨rfl,rfl⟩,st',λb hb=>(hf b hb).1⟩⟩
  rw[Int.mul_one]
 done:=by
  intro X hP hw hK hc i pins s U H E I hf st hg
  subst hP hw hK
  obtain⟨f0,f1,f2,f3,f4,f5⟩:=hf it (by simp)
  exact wpAny_pyNext_range_end (I.ok.hd hc) st (by have:n<=i:=hg;omega) λh' eb=>⟨rfl,I.turned (t':=s.toks) (λb o hb e=>eb b o hb e) f0 f1 f3 f4 f5⟩
 self:=λ_ _ _ _ _ st h=>wpAny_pyIter_rangeiter st h
section
variable {X:Cx} {tg:Expr}
theorem Rn {pins:List (Addr×Obj)} {U:St} {H:Hp} {s:am} {R:It->Hp->Prop} {E:ai->am->Prop} {lo hi:Int} {t u v:Tok} {tk:Nat} (I:Inv X pins U H s) (htk:s.toks<=tk) (h1:-(2 ^ 62)<=lo) (h2:lo<2 ^ 62) (h3:-(2 ^ 62)<=hi) (h4:hi<2 ^ 62)
  (q:R (Itr lo (hi - lo).toNat) H):aQ (model X.prog X.w) X.A (lN (.ref s.heap.objs.size)) (PIE X pins U tg R) E { s with heap:=s.heap.push { cls:=.type "range", data:=.fields #[.int lo t,.int hi u,.int 1 v] },toks:=tk }:=by
 refine wpAny_pyIter_range (IsRange.new ..) (small_one h1 h2 h3 h4) ?_
 have I1:Inv X pins U H { s with heap:=s.heap.push { cls:=.type "range", data:=.fields #[.int lo t,.int hi u,.int 1 v] },toks:=tk }:=I.kept λb o e=>aj _ e
 refine⟨(s.heap.push { cls:=.type "range", data:=.fields #[.int lo t,.int hi u,.int 1 v] }).objs.size,[(s.heap.push { cls:=.type "range", data:=.fields #[.int lo t,.int hi u,.int 1 v] }).objs.size],_,_,H,rfl,
  I1.kept (t':=tk) λb o e=>aj _ e,Vg _ lo (hi - lo).toNat,?_,λb hb=>?_,q⟩
 .have e1:lo+((0:Nat):Int) * 1=lo:=by simp
  have e2:(((hi - lo).toNat:Nat):Int) - ((0:Nat):Int)=Builtin.Range.rangeSize lo hi 1:=by rw[rangeSize_one];split <;> omega
  show IsRangeIter _ _ (lo+((0:Nat):Int) * 1) ((((hi - lo).toNat:Nat):Int) - ((0:Nat):Int)) 1
  rw[e1,e2]
  exact aB _ rfl
 .have e:b=(s.heap.push { cls:=.type "range", data:=.fields #[.int lo t,.int hi u,.int 1 v] }).objs.size:=by simpa using hb
  subst e
  exact I1.fpOk (ah _) (I1.hok.fresh (ah _))
noncomputable def by9 (wi:TI) (g:TG) (tb:TS):TS:=λD U H=>wi U H λJ H1=>∃ W:Nat->Nat->St->Hp->Prop,(∃ m,W 0 m U H1) /\ ∀ i m U H,W i m U H ->
 (J.stop i H/\D.nx U H)\/(J.go i H /\ ∃ N:St->Hp->Prop,(∀ U' H',N U' H' -> ∃ m',m'<m/\W (i+1) m' U' H') /\ ∀ x H',J.yld i H x H'->g x U H' λU2 H2=>tb { D with nx:=N,ct:=N,bk:=D.nx } U2 H2)
noncomputable def Ia (fp:List Addr) (h:Heap):List (Addr×Obj):=fp.filterMap λb=>(h.get? b).map λo=>(b,o)
theorem Ew {fp:List Addr} {h:Heap} {b:Addr} {o:Obj} (hb:b∈fp) (e:h.get? b=some o):(b,o)∈Ia fp h:=List.mem_filterMap.mpr ⟨b,hb,by rw[e];rfl⟩
theorem X9 {fp:List Addr} {h:Heap} {p:Addr×Obj} (hp:p∈Ia fp h):p.1∈fp/\h.get? p.1=some p.2:=by
 obtain⟨b,hb,e⟩:=List.mem_filterMap.mp hp
 cases q:h.get? b with
 |none=>rw[q] at e;cases e
 |some o=>
  rw[q] at e
  have e':(b,o)=p:=aH e
  subst e'
  exact⟨hb,q⟩
theorem Inv.pinned {pins:List (Addr×Obj)} {U:St} {H:Hp} {s:am} {fp:List Addr} (I:Inv X pins U H s) (hf:∀ b∈fp,Dn X pins H b) (ho:∀ b∈fp,∃ o,s.heap.get? b=some o /\ ∀ v,o.data≠.cell v):Inv X (pins++Ia fp s.heap) U H s:=
 I.pins_of λp hp=>(List.mem_append.mp hp).elim (λz=>I.pin p (aM _ z)) λz=>by
  obtain⟨hb,e⟩:=X9 z
  obtain⟨f0,f1,f2,_⟩:=hf p.1 hb
  obtain⟨o,e',d⟩:=ho p.1 hb
  rw[e] at e';cases e'
  exact⟨e,f0,f1,f2,d⟩
theorem Inv.unpinned {pins pl:List (Addr×Obj)} {U:St} {H:Hp} {s:am} (I:Inv X (pins++pl) U H s):Inv X pins U H s:=I.pins_of λp hp=>I.pin p (aM _ (cm _ hp))
theorem be2 {iter:Expr} {body:List Stmt} {wi:TI} {g:TG} {tb:TS} {pos:Pos} (hp:jC (model X.prog X.w) X.A X.env X.xe) (hc:X.calm=true) (hi:PI X tg iter wi) (hg:PG X tg g) (hb:PSs X body tb)
  (hs:∀ x,fK iter X.env x=pure x:=by intro _;rfl):PS X (.For tg iter body [] pos) (by9 wi g tb):=by
 intro pins s U H D I h
 refine wpAny_For (thn (hi pins s U H _ I h) λv s1 h1=>thn h1 λitv s2 h2=>?_) hs
 obtain⟨it,fp,tn,J,H2,e,I2,T,st2,f2,W,⟨m0,w0⟩,turn⟩:=h2
 subst e
 have stat:∀ {H':Hp},(∀ b∈fp,H' b=none) -> ∀ b∈fp,Dn X pins H' b:=λhn b hb=>⟨hn b hb,(f2 b hb).2⟩
 refine codeAny_forLoop_any (λn s'=>∃ i U' H',Inv X pins U' H' s'/\tn i s'.heap/\(∀ b∈fp,H' b=none)/\W i n U' H') ?_ m0 ⟨0,U,H2,I2,st2,λb hb=>(f2 b hb).1,w0⟩
 rintro n s3 ⟨i,U3,H3,I3,st3,fr3,w3⟩
 rcases turn i n U3 H3 w3 with ⟨stop,qn⟩|⟨go,N,hN,step⟩
 .refine gn hp (thn (T.done X rfl rfl rfl hc i pins s3 U3 H3 X.xe I3 (stat fr3) st3 stop) λr s4 ⟨hr,I4⟩=>?_)
  subst hr
  exact jK ⟨U3,H3,I4,qn⟩
 .refine gn hp (thn (T.item X rfl rfl rfl hc i pins s3 U3 H3 X.xe I3 (stat fr3) st3 go) λr s4 ⟨u,hr,h4⟩=>?_)
  subst hr
  refine gn hp (thn h4 λ_ s5 ⟨x,H5,I5,r5,y5,st5,fr5⟩=>?_)
  have I5':=I5.pinned (stat fr5) (T.obj _ _ st5)
  refine gn hp (thn (hg _ s5 U3 H5 x u _ I5' r5 (step x H5 y5)) λ_ s6 ⟨U6,H6,I6,q6⟩=>?_)
  refine gn hp (thn (hb _ s6 U6 H6 _ I6 q6) λf s7 q7=>?_)
  have again:∀ {U7:St} {H7:Hp},Inv X (pins++Ia fp s5.heap) U7 H7 s7->N U7 H7 -> ∃ m,m<n /\ ∃ i U' H',Inv X pins U' H' s7/\tn i s7.heap/\(∀ b∈fp,H' b=none)/\W i m U' H':=λ{U7 H7} I7 n7=>by
   obtain⟨m',hm,w7⟩:=hN U7 H7 n7
   refine⟨m',hm,i+1,U7,H7,I7.unpinned,T.keep _ _ _ st5 λb hb o e=>(I7.pin (b,o) (aM _ (aM _ (Ew hb e)))).1,λb hb=>?_,w7⟩
   obtain⟨o,e,d⟩:=T.obj _ _ st5 b hb
   exact (I7.pin (b,o) (aM _ (aM _ (Ew hb e)))).2.1
  cases f with
  |next=>obtain⟨U7,H7,I7,n7⟩:=q7;exact again I7 n7
  |cont=>obtain⟨U7,H7,I7,n7⟩:=q7;exact again I7 n7
  |brk=>obtain⟨U7,H7,I7,q7⟩:=q7;exact⟨U7,H7,I7.unpinned,q7⟩
  |ret v=>obtain⟨x7,U7,H7,I7,r7,q7⟩:=q7;exact⟨x7,U7,H7,I7.unpinned,r7,q7⟩
end
noncomputable abbrev R2:=V->V->Hp->VK->Prop
noncomputable def OpR (X:Cx) (f:ai->ai->Sem ai) (r:R2):Prop:=
 ∀ (pins:List (Addr×Obj)) (s:am) (U:St) (H:Hp) (x y:V) (v u:ai) (Q:VK),Inv X pins U H s->RelV x v->RelV y u->r x y H Q ->
  aQ (model X.prog X.w) X.A (f v u) (EP X pins U Q) X.xe s
noncomputable def UnR (X:Cx) (f:ai->Sem ai) (r:V->Hp->VK->Prop):Prop:=
 ∀ (pins:List (Addr×Obj)) (s:am) (U:St) (H:Hp) (x:V) (v:ai) (Q:VK),Inv X pins U H s->RelV x v->r x H Q ->
  aQ (model X.prog X.w) X.A (f v) (EP X pins U Q) X.xe s
noncomputable def Cj (X:Cx) (f:ai) (r:List V->Hp->VK->Prop):Prop:=
 ∀ (pins:List (Addr×Obj)) (s:am) (U:St) (H:Hp) (xs:List V) (us:List ai) (Q:VK),Inv X pins U H s->Vals xs us->r xs H Q ->
  aQ (model X.prog X.w) X.A (call f us) (EP X pins U Q) X.xe s
noncomputable def bj5 (X:Cx) (r:V->Hp->(Bool->Hp->Prop)->Prop):Prop:=
 ∀ (pins:List (Addr×Obj)) (s:am) (U:St) (H:Hp) (x:V) (v:ai) (Q:Bool->Hp->Prop),Inv X pins U H s->RelV x v->r x H Q ->
  aQ (model X.prog X.w) X.A (truthy v) (TP X pins U Q) X.xe s
noncomputable def tOp (r:R2) (ta tb:TE):TE:=λU H Q=>ta U H λx H1=>tb U H1 λy H2=>r x y H2 Q
noncomputable def tUn (r:V->Hp->VK->Prop) (ta:TE):TE:=λU H Q=>ta U H λx H1=>r x H1 Q
noncomputable def rI (C:Int->Int->Prop) (g:Int->Int->V):R2:=λx y H Q=>∃ i j,x=.int i/\y=.int j/\C i j/\Q (g i j) H
noncomputable def rI0 (g:Int->Int->V):R2:=λx y H Q=>∃ i j,x=.int i/\y=.int j/\Q (g i j) H
noncomputable def rU (g:Int->V):V->Hp->VK->Prop:=λx H Q=>∃ i,x=.int i/\Q (g i) H
section
variable {X:Cx} {a b c:Expr} {ta tb tc:TE} {pos:Pos}
theorem a40 (ha:PE X a ta) (hb:PE X b tb) {pins:List (Addr×Obj)} {s:am} {U:St} {H:Hp} {R:V->V->Hp->Prop} (I:Inv X pins U H s)
  (h:ta U H λx H1=>tb U H1 λy H2=>R x y H2) {Q:ai->am->Prop} {f:ai->ai->Sem ai}
  (hf:∀ v u s2 x y H2,Inv X pins U H2 s2->RelV x v->RelV y u->R x y H2->aQ (model X.prog X.w) X.A (f v u) Q X.xe s2) :
  aQ (model X.prog X.w) X.A (eval a X.env) (λv s₁=>aQ (model X.prog X.w) X.A (eval b X.env) (λu s₂=>aQ (model X.prog X.w) X.A (f v u) Q X.xe s₂) X.xe s₁) X.xe s:=by
 refine thn (ha pins s U H _ I h) λv s1 ⟨x,H1,I1,r1,q1⟩=>?_
 refine thn (hb pins s1 U H1 _ I1 q1) λu s2 ⟨y,H2,I2,r2,q2⟩=>?_
 exact hf v u s2 x y H2 I2 r1 r2 q2
theorem bp8 {op:lV} {r:R2} (ho:OpR X (dR op) r) (ha:PE X a ta) (hb:PE X b tb):PE X (.BinOp a op b pos) (tOp r ta tb):=by
 intro pins s U H Q I h
 exact wpAny_BinOp (a40 ha hb I h λv u s2 x y H2 I2 rx ry q=>ho pins s2 U H2 x y v u Q I2 rx ry q)
theorem a14 {op:UnaryOp} {r:V->Hp->VK->Prop} (ho:UnR X (l_ op) r) (ha:PE X a ta):PE X (.UnaryOp op a pos) (tUn r ta):=by
 intro pins s U H Q I h
 exact UnaryOp_ (thn (ha pins s U H _ I h) λv s1 ⟨x,H1,I1,r1,q1⟩=>ho pins s1 U H1 x v Q I1 r1 q1)
theorem opI {f:ai->ai->Sem ai} {C:Int->Int->Prop} {g:Int->Int->Int}
  (rule:∀ (i j:Int) (t u:Tok) (s:am) (Q:ai->am->Prop) (E:ai->am->Prop),C i j->Q (.int (g i j) s.toks) { s with toks:=s.toks+1 }->aQ (model X.prog X.w) X.A (f (.int i t) (.int j u)) Q E s) :
  OpR X f (rI C λi j=>.int (g i j)):=by
 intro pins s U H x y v u Q I rx ry h
 obtain⟨i,j,rfl,rfl,hc,q⟩:=h
 obtain⟨t,rfl⟩:=rx
 obtain⟨t',rfl⟩:=ry
 exact rule i j t t' s _ _ hc ⟨.int (g i j),H,I.tok _,⟨_,rfl⟩,q⟩
theorem af9 {f:ai->ai->Sem ai} {g:Int->Int->Int}
  (rule:∀ (i j:Int) (t u:Tok) (s:am) (Q:ai->am->Prop) (E:ai->am->Prop),Q (.int (g i j) s.toks) { s with toks:=s.toks+1 }->aQ (model X.prog X.w) X.A (f (.int i t) (.int j u)) Q E s) :
  OpR X f (rI0 λi j=>.int (g i j)):=by
 intro pins s U H x y v u Q I rx ry h
 obtain⟨i,j,rfl,rfl,q⟩:=h
 obtain⟨t,rfl⟩:=rx
 obtain⟨t',rfl⟩:=ry
 exact rule i j t t' s _ _ ⟨.int (g i j),H,I.tok _,⟨_,rfl⟩,q⟩
theorem au1 {f:ai->ai->Sem ai} {g:Int->Int->Bool}
  (rule:∀ (i j:Int) (t u:Tok) (s:am) (Q:ai->am->Prop) (E:ai->am->Prop),Q (.bool (g i j)) s->aQ (model X.prog X.w) X.A (f (.int i t) (.int j u)) Q E s) :
  OpR X f (rI0 λi j=>.bl (g i j)):=by
 intro pins s U H x y v u Q I rx ry h
 obtain⟨i,j,rfl,rfl,q⟩:=h
 obtain⟨t,rfl⟩:=rx
 obtain⟨t',rfl⟩:=ry
 exact rule i j t t' s _ _ ⟨.bl (g i j),H,I,rfl,q⟩
noncomputable def bj1 (i j:Int):Prop:=0<j/\j<1073741824
noncomputable def ao6 (i j:Int):Prop:=0<=j/\j<=1000000/\i.natAbs<2 ^ 64
noncomputable def CMul (i j:Int):Prop:=(-(2 ^ 64)<i/\i<2 ^ 64)\/(-(2 ^ 64)<j/\j<2 ^ 64)
theorem CMul.ok {i j:Int} (h:CMul i j):IntMulOk i j:=by
 rcases h with ⟨h1,h2⟩|⟨h1,h2⟩
 .exact .of_left (intBits_le_64 h1 h2)
 .exact .of_right (intBits_le_64 h1 h2)
theorem Vi (k:Nat):(0:Int)<=2 ^ k:=by
 rw[two_pow_cast]
 exact Int.natCast_nonneg _
theorem bb8:OpR X (dR .Add) (rI0 λi j=>.int (i+j)):=af9 λ_ _ _ _ _ _ _ q=>add_int q
theorem bd0:OpR X (dR .Sub) (rI0 λi j=>.int (i - j)):=af9 λ_ _ _ _ _ _ _ q=>sub_int q
theorem bc4:OpR X (dR .Mult) (rI CMul λi j=>.int (i * j)):=opI λ_ _ _ _ _ _ _ hc q=>mul_int q hc.ok
theorem au3:OpR X (dR .FloorDiv) (rI bj1 λi j=>.int (i / j)):=opI λi j _ _ _ _ _ hc q=>by
 have h1:(0:Int)<j:=hc.1
 have h2:j<1073741824:=hc.2
 exact floordiv_int (by omega) (by rw[io i (by omega)];exact q) (.inl (PyProof.noPylong_small (by omega)))
theorem bc3:OpR X (dR .Mod) (rI (λ_ j=>0<j) λi j=>.int (i % j)):=opI λi j _ _ _ _ _ hc q=>by
 have h1:(0:Int)<j:=hc
 exact mod_int' (by omega) (by rw[Int.fmod_eq_emod_of_nonneg i (by omega)];exact q)
theorem bc7:OpR X (dR .Pow) (rI ao6 λi j=>.int (i ^ j.toNat)):=opI λ_ _ _ _ _ _ _ hc q=>pow_int_small hc.1 hc.2.1 hc.2.2 q
theorem bc8:OpR X (dR .LShift) (rI ao6 λi j=>.int (i * 2 ^ j.toNat)):=opI λ_ _ _ _ _ _ _ hc q=>lshift_int_small hc.1 hc.2.1 hc.2.2 q
theorem bc9:OpR X (dR .RShift) (rI (λ_ j=>0<=j) λi j=>.int (i / 2 ^ j.toNat)):=opI λi j _ _ _ _ _ hc q=>
 rshift_int hc (by rw[io i (Vi _)];exact q)
theorem bb9:OpR X (dR .BitAnd) (rI0 λi j=>.int (bO i j)):=af9 λ_ _ _ _ _ _ _ q=>and_int q
theorem bp4:OpR X (dR .BitOr) (rI0 λi j=>.int (c_ i j)):=af9 λ_ _ _ _ _ _ _ q=>or_int q
theorem bd1:OpR X (dR .BitXor) (rI0 λi j=>.int (Builtin.bitXor i j)):=af9 λ_ _ _ _ _ _ _ q=>xor_int q
theorem unI {f:ai->Sem ai} {g:Int->Int}
  (rule:∀ (i:Int) (t:Tok) (s:am) (Q:ai->am->Prop) (E:ai->am->Prop),Q (.int (g i) s.toks) { s with toks:=s.toks+1 }->aQ (model X.prog X.w) X.A (f (.int i t)) Q E s) :
  UnR X f (rU λi=>.int (g i)):=by
 intro pins s U H x v Q I rx h
 obtain⟨i,rfl,q⟩:=h
 obtain⟨t,rfl⟩:=rx
 exact rule i t s _ _ ⟨.int (g i),H,I.tok _,⟨_,rfl⟩,q⟩
theorem bi6:UnR X (l_ .USub) (rU λi=>.int (-i)):=unI λ_ _ _ _ _ q=>neg_int q
theorem bi5:UnR X (l_ .Invert) (rU λi=>.int (cj i)):=unI λ_ _ _ _ _ q=>invert_int q
end
noncomputable def bh8:V->V->Bool
 |.non,.non=>true | .non,.int _=>true | .int _,.non=>true | .non,.bl _=>true | .bl _,.non=>true | .non,.str _=>true | .str _,.non=>true
 |.int _,.int _=>true | .bl _,.bl _=>true | .str _,.str _=>true | .byt _,.byt _=>true
 |.int _,.str _=>true | .str _,.int _=>true | .bl _,.str _=>true | .str _,.bl _=>true
 |_,_=>false
noncomputable def rEq:R2:=λx y H Q=>bh8 x y=true/\Q (.bl (decide (x=y))) H
noncomputable def rNe:R2:=λx y H Q=>bh8 x y=true/\Q (.bl (!decide (x=y))) H
theorem Ji {i j:Int}:decide (V.int i=V.int j)=(i==j):=by
 rw[bQ]
 simp
theorem Oc {i j:Bool}:decide (V.bl i=V.bl j)=(i==j):=by
 rw[bQ]
 simp
theorem Jj {i j:Str}:decide (V.str i=V.str j)=(i==j):=by
 rw[bQ]
 simp
theorem V9 {i j:Array UInt8}:decide (V.byt i=V.byt j)=(i.toList==j.toList):=by
 rw[bQ]
 cases i
 cases j
 simp
section
variable {X:Cx} {a b c:Expr} {ta tb tc:TE} {pos:Pos}
theorem Ax {pins:List (Addr×Obj)} {U:St} {H:Hp} {s:am} {Q:VK} {k k':Bool} (I:Inv X pins U H s) (q:Q (.bl k) H) (e:k=k'):EP X pins U Q (.bool k') s:=by
 subst e
 exact⟨.bl k,H,I,rfl,q⟩
theorem Wh:OpR X (cG .Eq) rEq:=by
 intro pins s U H x y v u Q I rx ry h
 obtain⟨hs,q⟩:=h
 cases x with
 |non=>
  cases rx
  cases y with
  |non=>cases ry;exact PySem.EqNone.eq_none_none (Ax I q (by simp))
  |bl j=>cases ry;exact PySem.EqNone.eq_none_bool (Ax I q (by simp))
  |int j=>obtain⟨t',rfl⟩:=ry;exact PySem.EqNone.eq_none_int (Ax I q (by simp))
  |str j=>obtain⟨t',rfl⟩:=ry;exact PySem.EqNone.eq_none_str (Ax I q (by simp))
  |_=>exact absurd (show false=true from hs) av
 |bl i=>
  cases rx
  cases y with
  |non=>cases ry;exact PySem.EqNone.eq_bool_none (Ax I q (by simp))
  |bl j=>cases ry;exact eq_bool (Ax I q Oc)
  |str j=>obtain⟨t',rfl⟩:=ry;exact PySem.EqMixed.eq_bool_str (Ax I q (by simp))
  |_=>exact absurd (show false=true from hs) av
 |int i=>
  obtain⟨t,rfl⟩:=rx
  cases y with
  |non=>cases ry;exact PySem.EqNone.eq_int_none (Ax I q (by simp))
  |int j=>obtain⟨t',rfl⟩:=ry;exact eq_int (Ax I q Ji)
  |str j=>obtain⟨t',rfl⟩:=ry;exact PySem.EqMixed.eq_int_str (Ax I q (by simp))
  |_=>exact absurd (show false=true from hs) av
 |str i=>
  obtain⟨t,rfl⟩:=rx
  cases y with
  |non=>cases ry;exact PySem.EqNone.eq_str_none (Ax I q (by simp))
  |bl j=>cases ry;exact PySem.EqMixed.eq_str_bool (Ax I q (by simp))
  |int j=>obtain⟨t',rfl⟩:=ry;exact PySem.EqMixed.eq_str_int (Ax I q (by simp))
  |str j=>obtain⟨t',rfl⟩:=ry;exact eq_str (Ax I q Jj)
  |_=>exact absurd (show false=true from hs) av
 |byt i=>
  obtain⟨t,rfl⟩:=rx
  cases y with
  |byt j=>obtain⟨t',rfl⟩:=ry;exact PySem.W.eq_bytes (Ax I q V9)
  |_=>exact absurd (show false=true from hs) av
 |_=>cases y <;> exact absurd (show false=true from hs) av
theorem Wi:OpR X (cG .NotEq) rNe:=by
 intro pins s U H x y v u Q I rx ry h
 obtain⟨hs,q⟩:=h
 cases x with
 |non=>
  cases rx
  cases y with
  |non=>cases ry;exact PySem.EqNone.ne_none_none (Ax I q (by simp))
  |bl j=>cases ry;exact PySem.EqNone.ne_none_bool (Ax I q (by simp))
  |int j=>obtain⟨t',rfl⟩:=ry;exact PySem.EqNone.ne_none_int (Ax I q (by simp))
  |str j=>obtain⟨t',rfl⟩:=ry;exact PySem.EqNone.ne_none_str (Ax I q (by simp))
  |_=>exact absurd (show false=true from hs) av
 |bl i=>
  cases rx
  cases y with
  |non=>cases ry;exact PySem.EqNone.ne_bool_none (Ax I q (by simp))
  |bl j=>cases ry;exact ne_bool (Ax I q (congrArg not Oc))
  |str j=>obtain⟨t',rfl⟩:=ry;exact PySem.EqMixed.ne_bool_str (Ax I q (by simp))
  |_=>exact absurd (show false=true from hs) av
 |int i=>
  obtain⟨t,rfl⟩:=rx
  cases y with
  |non=>cases ry;exact PySem.EqNone.ne_int_none (Ax I q (by simp))
  |int j=>obtain⟨t',rfl⟩:=ry;exact ne_int (Ax I q (congrArg not Ji))
  |str j=>obtain⟨t',rfl⟩:=ry;exact PySem.EqMixed.ne_int_str (Ax I q (by simp))
  |_=>exact absurd (show false=true from hs) av
 |str i=>
  obtain⟨t,rfl⟩:=rx
  cases y with
  |non=>cases ry;exact PySem.EqNone.ne_str_none (Ax I q (by simp))
  |bl j=>cases ry;exact PySem.EqMixed.ne_str_bool (Ax I q (by simp))
  |int j=>obtain⟨t',rfl⟩:=ry;exact PySem.EqMixed.ne_str_int (Ax I q (by simp))
  |str j=>obtain⟨t',rfl⟩:=ry;exact ne_str (Ax I q (congrArg not Jj))
  |_=>exact absurd (show false=true from hs) av
 |byt i=>
  obtain⟨t,rfl⟩:=rx
  cases y with
  |byt j=>obtain⟨t',rfl⟩:=ry;exact PySem.W.ne_bytes (Ax I q (congrArg not V9))
  |_=>exact absurd (show false=true from hs) av
 |_=>cases y <;> exact absurd (show false=true from hs) av
theorem bp3:OpR X (cG .Lt) (rI0 λi j=>.bl (decide (i<j))):=au1 λ_ _ _ _ _ _ _ q=>lt_int q
theorem bp2:OpR X (cG .LtE) (rI0 λi j=>.bl (decide (i<=j))):=au1 λ_ _ _ _ _ _ _ q=>le_int q
theorem bp1:OpR X (cG .Gt) (rI0 λi j=>.bl (decide (j<i))):=au1 λ_ _ _ _ _ _ _ q=>gt_int q
theorem bp0:OpR X (cG .GtE) (rI0 λi j=>.bl (decide (j<=i))):=au1 λ_ _ _ _ _ _ _ q=>ge_int q
theorem Yc:OpR X (cG .Lt) (λx y H Q=>∃ i j,x=.str i/\y=.str j/\Q (.bl (decide (i.cps.toList<j.cps.toList))) H):=by
 intro pins s U H x y v u Q I rx ry h
 obtain⟨i,j,rfl,rfl,q⟩:=h
 obtain⟨t,rfl⟩:=rx
 obtain⟨t',rfl⟩:=ry
 exact lt_str (Ax I q rfl)
theorem bc2:OpR X (cG .Is) (λx y H Q=>y=.non/\Q (.bl (decide (x=.non))) H):=by
 intro pins s U H x y v u Q I rx ry h
 obtain⟨rfl,q⟩:=h
 cases ry
 refine is_none_gen (Ax I q ?_)
 cases x <;> first
  |(cases rx;rfl)
  |(obtain⟨t,rfl⟩:=rx;rfl)
  |(obtain⟨t,rfl,_⟩:=rx;rfl)
theorem au4:OpR X (cG .IsNot) (λx y H Q=>y=.non/\Q (.bl (!decide (x=.non))) H):=by
 intro pins s U H x y v u Q I rx ry h
 obtain⟨rfl,q⟩:=h
 cases ry
 refine isnot_none_gen (Ax I q ?_)
 cases x <;> first
  |(cases rx;rfl)
  |(obtain⟨t,rfl⟩:=rx;rfl)
  |(obtain⟨t,rfl,_⟩:=rx;rfl)
theorem OpR.or {f:ai->ai->Sem ai} {r r':R2} (h:OpR X f r) (h':OpR X f r'):OpR X f (λx y H Q=>r x y H Q\/r' x y H Q):=by
 intro pins s U H x y v u Q I rx ry q
 rcases q with q|q
 .exact h pins s U H x y v u Q I rx ry q
 .exact h' pins s U H x y v u Q I rx ry q
theorem au9 {op:lS} {r:R2} (ho:OpR X (cG op) r) (ha:PE X a ta) (hb:PE X b tb) (hm:jc op b=false):PE X (.Compare a [op] [b] pos) (tOp r ta tb):=by
 intro pins s U H Q I h
 exact wpAny_Compare1 (a40 ha hb I h λv u s2 x y H2 I2 rx ry q=>ho pins s2 U H2 x y v u Q I2 rx ry q) hm
noncomputable def bj6 (K:ac) (x:V) (H:Hp) (k:Bool):Prop:=
 match x with
 |.non=>k=false
 |.bl b=>k=b
 |.int i=>k=(i != 0)
 |.str y=>y.length<=sizeLine/\k=((y.length:Int) != 0)
 |.byt y=>y.size<=sizeLine/\k=((y.size:Int) != 0)
 |.ref p=>(∃ xs,SqL K H p xs/\k = !xs.isEmpty)\/(∃ xs,SqT K H p xs/\k = !xs.isEmpty) \/ ∃ kvs,H p=some (.dK kvs)/\k = !kvs.isEmpty
 |_=>False
theorem Tg {κ:Type} {kvs:List (κ×V)} {vs:List (κ×ai)} (r:KV kvs vs):(!vs.isEmpty) = !kvs.isEmpty:=by
 cases r <;> rfl
theorem Kh {xs:List V} {its:List ai} (r:Vals xs its):(!its.toArray.isEmpty) = !xs.isEmpty:=by
 cases r <;> simp
theorem Hs:(sizeLine:Nat)<2 ^ 63:=by rw[bN];decide
theorem Ll:bj5 X (λx H Q=>∃ k,bj6 X.K x H k/\Q k H):=by
 intro pins s U H x v Q I rx h
 obtain⟨k,e,q⟩:=h
 have hl:=Hs
 have hs:sizeLine=16777216:=bN
 cases x with
 |non=>
  cases rx
  have e':k=false:=e
  subst e'
  exact truthy_none ⟨H,I,q⟩
 |bl b=>
  cases rx
  have e':k=b:=e
  subst e'
  exact eo ⟨H,I,q⟩
 |int i=>
  obtain⟨t,rfl⟩:=rx
  have e':k=(i != 0):=e
  subst e'
  exact PySem.P.truthy_int ⟨H,I,q⟩
 |str y=>
  obtain⟨t,rfl⟩:=rx
  obtain⟨hy,e'⟩:y.length<=sizeLine/\k=((y.length:Int) != 0):=e
  subst e'
  exact PySem.P.truthy_str (by omega) ⟨H,I.tok _,q⟩
 |byt y=>
  obtain⟨t,rfl⟩:=rx
  obtain⟨hy,e'⟩:y.size<=sizeLine/\k=((y.size:Int) != 0):=e
  subst e'
  exact PySem.W.truthy_bytes (by omega) ⟨H,I.tok _,q⟩
 |ref p=>
  cases rx
  have e':(∃ xs,SqL X.K H p xs/\k = !xs.isEmpty)\/(∃ xs,SqT X.K H p xs/\k = !xs.isEmpty) \/ ∃ kvs,H p=some (.dK kvs)/\k = !kvs.isEmpty:=e
  rcases e' with ⟨xs,hx,e'⟩|⟨xs,hx,e'⟩|⟨kvs,hx,e'⟩
  .subst e'
   obtain⟨its,r,pl,hz⟩:=I.list hx
   have hlen:=r.length
   exact wpAny_truthy_list pl.isList (by simp only[ax];omega) ⟨H,I.tok _,by rw[Kh r];exact q⟩
  .subst e'
   obtain⟨its,r,pl,hz⟩:=I.tuple hx
   have hlen:=r.length
   exact truthy_tuple pl (by simp only[ax];omega) ⟨H,I.tok _,by rw[Kh r];exact q⟩
  .subst e'
   obtain⟨hz,hS,vs,r,m⟩:kvs.length<=sizeLine/\(p==du)=false /\ ∃ vs,KV kvs vs/\s.heap.DictOf (Bd X.prog X.w) p vs:=I.hok p _ hx
   have hlen:kvs.length=vs.length:=i6 r
   exact wpAny_truthy_dict hS m (by omega) ⟨H,I.tok _,by rw[Tg r];exact q⟩
 |_=>exact (show False from e).elim
theorem Tz:OpR X (dR .Add) (λx y H Q=>∃ i j,x=.str i/\y=.str j/\i.length+j.length<=sizeLine/\Q (.str (i++j)) H):=by
 intro pins s U H x y v u Q I rx ry h
 obtain⟨i,j,rfl,rfl,hz,q⟩:=h
 obtain⟨t,rfl⟩:=rx
 obtain⟨t',rfl⟩:=ry
 exact bE (ah _) (add_str (λt' tk htk=>⟨.str (i++j),H,I.tok _ htk,⟨_,rfl⟩,q⟩) hz)
theorem D9 {x:V} {us:List ai} (r:Vals [x] us):∃ u,us=[u]/\RelV x u:=by
 cases r with
 |cons r1 r2=>cases r2;exact⟨_,rfl,r1⟩
theorem bw6 {x y:V} {us:List ai} (r:Vals [x,y] us):∃ u w',us=[u,w']/\RelV x u/\RelV y w':=by
 cases r with
 |cons r1 r2=>
  cases r2 with
  |cons r3 r4=>cases r4;exact⟨_,_,rfl,r1,r3⟩
theorem Mw:Cj X (.type "int") (λxs H Q=>(∃ i,xs=[.int i]/\Q (.int i) H) \/ ∃ k,xs=[.bl k]/\Q (.int (if k then 1 else 0)) H):=by
 intro pins s U H xs us Q I r h
 rcases h with ⟨i,rfl,q⟩|⟨k,rfl,q⟩
 .obtain⟨u,rfl,t,rfl⟩:=D9 r
  exact call_int_int ⟨.int i,H,I,⟨_,rfl⟩,q⟩
 .obtain⟨u,rfl,r1⟩:=D9 r
  cases r1
  exact call_int_bool ⟨.int (if k then 1 else 0),H,I.tok _,⟨_,rfl⟩,q⟩
end
structure ObjM (h:Heap) (x dx C:Addr) (mA:Str->Option ai):Prop where
 obj:h.get? x=some (dG C dx)
 ns:h.Ns1 dx mA
 ne:dx≠x
theorem Xz {h:Heap} {dx:Addr} {mA:Str->Option ai} (n:h.Ns1 dx mA):∃ od,h.get? dx=some od /\ ∀ name,iA name od=some (mA name):=by
 obtain⟨o,es,ep,ho,hd,hk,_,hm⟩:=n
 refine⟨o,ho,λname=>?_⟩
 have e:=hm name
 unfold nsFind findBy at e
 rw[<- Array.find?_toList] at e
 unfold iA
 rw[hd]
 dsimp only
 split
 .rename_i y q
  rw[q] at e
  exact congrArg some e
 .rename_i q
  rw[q] at e
  have a:es.toList.any (·.refKey)=false:=by
   rw[gH]
   intro y hy
   obtain⟨z,t,hkey⟩:=hk y (Array.mem_toList_iff.mp hy)
   simp[DictEntry.refKey,hkey]
  have a':¬ es.toList.any (·.refKey)=true:=by rw[a];exact av
  rw[if_neg a']
  exact congrArg some e
theorem ObjM.look {h:Heap} {x dx C:Addr} {mA:Str->Option ai} (I:ObjM h x dx C mA):∃ od,PySem.W.InstAt h x (dG C dx) C (some od) /\ ∀ name,iA name od=some (mA name):=
 let ⟨od,ho,hl⟩:=Xz I.ns
 ⟨od,⟨I.obj,rfl,rfl,ho⟩,hl⟩
section
variable {prog:aX} {w:bB} {A:bj} {E:ai->am->Prop} {s:am} {K:ac} {x dx C f:Addr} {mA:Str->Option ai} {name:Str} {v:ai}
theorem Ak {expr:Bool} {Q:ai->am->Prop} (X:K.In s.heap) (I:ObjM s.heap x dx C mA) (hg:fW K C name=true) (hh:gL K C=true)
  (ha:bC K (.ref C) name=some none) (hv:mA name=some v) (hv':PySem.W.handedIn v=true) (h:Q v { s with toks:=s.toks+1 }) :
  aQ (model prog w) A (getAttr (.ref x) name expr) Q E s:=by
 obtain⟨od,J,hl⟩:=I.look
 exact PySem.W.get_value X J (h9 hg).1 (PySem.W.findObj_own hh ha rfl (by rw[hl,hv])) hv' h
theorem ac0 {pl:Sem Bool} {Q:ai×List ai->am->Prop} (X:K.In s.heap) (I:ObjM s.heap x dx C mA) (hg:fW K C name=true)
  (hf:bC K (.ref C) name=some (some (.ref f))) (ht:dE K (.ref f)=true) (hv:mA name=none) (h:Q (.ref f,[.ref x]) s) :
  aQ (model prog w) A (getMethod (.ref x) name pl) Q E s:=by
 obtain⟨od,J,hl⟩:=I.look
 exact PySem.W.method_fn X J (h9 hg).1 (h9 hg).2 hf (beq_iff_eq.mp ht) (by show (iA name od).map (·.isSome)=some false;rw[hl,hv];rfl) h
theorem ax9 {ns:List Str} {Q:Unit->am->Prop} (X:K.In s.heap) (I:ObjM s.heap x dx C mA)
  (hs:bC K (.ref C) "__setattr__" = some (some (.builtin "object.__setattr__"))) (hp:iT K C=true) (ht:jG K C name=some none) (hh:gL K C=true)
  (hw:jH mA ns) (hsz:ns.length<=sizeLine)
  (h:∀ h',ObjM h' x dx C (λy=>if y=name then some v else mA y)->a9 dx s.heap h'->Q () { s with heap:=h',toks:=s.toks+2 }) :
  aQ (model prog w) A (setAttr (.ref x) name v) Q E s:=by
 obtain⟨od,J,hl⟩:=I.look
 refine PySem.W.set_plain X J hs (PySem.W.osa_open (s:={ s with toks:=s.toks+1 }) (r:=none) X J hp ht λb=>?_)
 obtain⟨cd,hc,hd'⟩:=PySem.W.any_some hh
 have hx:s.heap.get? x=some ⟨.ref C,some dx,.plain,#[]⟩:=I.obj
 refine af (ao (af (af (wpAny_loadPart hx (af (PySem.W.Looks.here (s:={ s with toks:=s.toks+1 }) (PySem.W.looks_clsIn X hc) ?_))))))
 rw[hd']
 refine ao (a:=some dx) (af (ao (af ?_)))
 refine wpAny_nsSet1 (s:={ s with toks:=s.toks+1 }) I.ns λh' hn2 hs2=>?_
 obtain⟨oD,esD,epD,hoD,hdD,hcD⟩:=hn2.count (PySem.Within.cons name v hw)
 refine af (wpAny_lookBehind hoD (by rw[hdD];exact pastItsLine_dict (aY hcD (by rw[aO];omega))) ?_)
 exact ao (h _ ⟨(hs2.2 _ (cy I.ne)).trans I.obj,hn2,I.ne⟩ hs2)
theorem ad5 {R:Result->am->Prop} {vs:List ai} {kw:List (Str×ai)} (X:K.In s.heap) (hm:dH K C=true)
  (hi:bC K (.ref C) "__init__" = some (some (.ref f))) (hf:PySem.W.typeIn K (.ref f)=some (.type "function"))
  (h:iB (model prog w) (A.under (.builtin "type.__call__" ⟨.ref C::vs,kw⟩)) (.call (.ref f) ⟨.ref (s.heap.objs.size+1)::vs,kw⟩) (PySem.W.InitBack (s.heap.objs.size+1) R)
   {s with heap:=(s.heap.push cK).push (dG C s.heap.objs.size) }) :
  iB (model prog w) A (.call (.ref C) ⟨vs,kw⟩) R s:=by
 obtain⟨hh,g,d,t,os⟩:=s
 exact PySem.W.make_core (PySem.W.makes_of X hm) (PySem.W.looks_findIn X hi) (λself=>PySem.W.bind_fn X self hf) (.inl rfl) h
end
noncomputable def Dv (f:Str) (v:V):List (Str×V)->List (Str×V)
 |[]=>[(f,v)]
 |(g,x)::r=>if g=f then (g,v)::r else (g,x)::Dv f v r
theorem Iq (f g:Str) (v:V):∀ fs:List (Str×V),(Dv f v fs).lookup g=if g=f then some v else fs.lookup g
 | []=>by
  show gJ g [(f,v)]=_
  by_cases h:g=f
  .have hb:(g==f)=true:=beq_iff_eq.mpr h
   simp only[gJ,hb,if_pos h]
  .have hb:(g==f)=false:=beq_eq_false_iff_ne.mpr h
   simp only[gJ,hb,if_neg h]
 | (k,x)::r=>by
  have ih:=Iq f g v r
  rw[show Dv f v ((k,x)::r)=(if k=f then (k,v)::r else (k,x)::Dv f v r) from rfl]
  by_cases hk:k=f
  .rw[if_pos hk]
   by_cases h:g=k
   .have hb:(g==k)=true:=beq_iff_eq.mpr h
    simp only[gJ,hb,if_pos (h.trans hk)]
   .have hb:(g==k)=false:=beq_eq_false_iff_ne.mpr h
    simp only[gJ,hb,if_neg (λe:g=f=>h (e.trans hk.symm))]
  .rw[if_neg hk]
   by_cases h:g=k
   .have hb:(g==k)=true:=beq_iff_eq.mpr h
    simp only[gJ,hb,if_neg (λe:g=f=>hk (h.symm.trans e))]
   .have hb:(g==k)=false:=beq_eq_false_iff_ne.mpr h
    simp only[gJ,hb]
    exact ih
theorem Hr (f:Str) (v:V):∀ fs:List (Str×V),f∈(Dv f v fs).map (·.1) /\ ∀ g,g∈fs.map (·.1)->g∈(Dv f v fs).map (·.1)
 |[]=>⟨by simp[Dv],λg h=>by simp at h⟩
 | (k,x)::r=>by
  obtain⟨i1,i2⟩:=Hr f v r
  rw[show Dv f v ((k,x)::r)=(if k=f then (k,v)::r else (k,x)::Dv f v r) from rfl]
  by_cases hk:k=f
  .rw[if_pos hk]
   subst hk
   exact⟨by simp,λg h=>by simpa using h⟩
  .rw[if_neg hk]
   refine⟨?_,λg h=>?_⟩
   .rw[aP]
    exact az _ i1
   .rw[aP] at h ⊢
    rcases List.mem_cons.mp h with e|e
    .exact List.mem_cons.mpr (.inl e)
    .exact az _ (i2 g e)
theorem Io (f:Str) (v:V):∀ fs:List (Str×V),(Dv f v fs).length<=fs.length+1
 |[]=>by simp[Dv]
 | (k,x)::r=>by
  have ih:=Io f v r
  rw[show Dv f v ((k,x)::r)=(if k=f then (k,v)::r else (k,x)::Dv f v r) from rfl]
  by_cases hk:k=f
  .rw[if_pos hk,aO,aO];omega
  .rw[if_neg hk,aO,aO];omega
theorem RelO.some_of {v:V} {o:Option ai} (r:RelO (some v) o):∃ u,o=some u/\RelV v u:=by
 cases o with
 |none=>exact (show False from r).elim
 |some u=>exact⟨u,rfl,r⟩
theorem RelO.none_of {o:Option ai} (r:RelO none o):o=none:=by
 cases o with
 |none=>rfl
 |some u=>exact (show False from r).elim
theorem Xq {v:V} {u:ai} (r:RelV v u):PySem.W.handedIn u=true:=by
 cases v with
 |non=>cases (show u=bi from r);rfl
 |bl b=>cases (show u=jO b from r);rfl
 |int i=>obtain⟨t,e⟩:=(show ∃ t,u=kI i t from r);cases e;rfl
 |str x=>obtain⟨t,e⟩:=(show ∃ t,u=h_ x t from r);cases e;rfl
 |byt b=>obtain⟨t,e⟩:=(show ∃ t,u=Value.bytes b t from r);cases e;rfl
 |stk y n ex=>obtain⟨t,e,_⟩:=(show ∃ t,u=h_ y t/\(if ex=true then t=n else n<=t) from r);cases e;rfl
 |ref a=>cases (show u=bv a from r);rfl
 |ty n=>cases (show u=dN n from r);rfl
section
variable {P:aX} {w:bB} {H H':Hp} {h h':Heap} {a C dx:Addr} {fs fs':List (Str×V)}
theorem Jp (hok:HOk P w H h) (e:H a=some (.ins C dx fs)):∃ mA,ObjM h a dx C mA/\(∀ f,RelO (fs.lookup f) (mA f))/\jH mA (fs.map (·.1))/\fs.length<=1000/\H dx=some (.own a):=by
 obtain⟨d,z,ne,ob,mA,n,r,q⟩:=(show ObjOk P w H h a (.ins C dx fs) from hok a _ e)
 exact⟨mA,⟨ob,n,ne⟩,r,q,z,d⟩
end
structure Cls (K:ac) (C:Addr):Prop where
 pg:fW K C fE=true
 hd:gL K C=true
 po:iT K C=true
 sa:bC K (.ref C) "__setattr__" = some (some (.builtin "object.__setattr__"))
theorem Cls.get {K:ac} {C:Addr} (c:Cls K C) (f:Str):fW K C f=true:=c.pg
noncomputable def NoAttr (K:ac) (C:Addr) (f:Str):Prop:=bC K (.ref C) f=some none
theorem NoAttr.taker {K:ac} {C:Addr} {f:Str} (n:NoAttr K C f):jG K C f=some none:=by
 unfold jG
 rw[show bC K (.ref C) f=some none from n]
 rfl
structure Nw (K:ac) (C:Addr) (m:Str) (f:Addr):Prop where
 at_:bC K (.ref C) m=some (some (.ref f))
 fn:dE K (.ref f)=true
 kp:bA K (.ref f)=true
section
variable {X:Cx} {pins:List (Addr×Obj)} {U:St} {H:Hp} {s:am} {a C dx:Addr} {fs:List (Str×V)} {f:Str} {v:V} {A:bj} {E:ai->am->Prop}
theorem Tc {b:Bool} {Q:ai->am->Prop} (I:Inv X pins U H s) (e:H a=some (.ins C dx fs)) (c:Cls X.K C) (n:NoAttr X.K C f) (l:fs.lookup f=some v)
  (h:∀ u s',Inv X pins U H s'->RelV v u->Q u s'):aQ (model X.prog X.w) A (getAttr (.ref a) f b) Q E s:=by
 obtain⟨mA,O,r,_,_,_⟩:=Jp I.hok e
 obtain⟨u,hu,ru⟩:=RelO.some_of (v:=v) (o:=mA f) (by rw[<- l];exact r f)
 exact Ak I.kIn O (c.get f) c.hd n hu (Xq ru) (h u _ (I.tok _) ru)
theorem Kd {m:Str} {g:Addr} {pl:Sem Bool} {Q:ai×List ai->am->Prop} (I:Inv X pins U H s) (e:H a=some (.ins C dx fs)) (c:Cls X.K C) (k:Nw X.K C m g) (l:fs.lookup m=none)
  (h:Q (.ref g,[.ref a]) s):aQ (model X.prog X.w) A (getMethod (.ref a) m pl) Q E s:=by
 obtain⟨mA,O,r,_,_,_⟩:=Jp I.hok e
 have hn:mA m=none:=RelO.none_of (by rw[<- l];exact r m)
 exact ac0 I.kIn O (c.get m) k.at_ k.fn hn h
theorem Uh {y:V} {u:ai} {Q:Unit->am->Prop} (I:Inv X pins U H s) (e:H a=some (.ins C dx fs)) (c:Cls X.K C) (n:NoAttr X.K C f) (hl:fs.length<1000) (ry:RelV y u)
  (h:∀ s',Inv X pins U (upd H a (.ins C dx (Dv f y fs))) s'->Q () s'):aQ (model X.prog X.w) A (setAttr (.ref a) f u) Q E s:=by
 obtain⟨mA,O,r,wi,_,ho⟩:=Jp I.hok e
 have hz:(fs.map (·.1)).length<=sizeLine:=by rw[ae,bN];omega
 refine ax9 I.kIn O c.sa c.po n.taker c.hd wi hz λh' O' sb=>h _ ?_
 have hd:∃ o,h'.get? dx=some o:=let ⟨o,_,_,e',_⟩:=O'.ns;⟨o,e'⟩
 refine I.write (x:=a) (e:=dx) (by rw[e];exact aR) (.inr ho) (λb q hb z=>(sb.2 b hb).trans z) hd ?_
 refine⟨by rw[Ad O.ne];exact ho,?_,O.ne,O'.obj,_,O'.ns,λg=>?_,λg hg=>?_⟩
 .have:=Io f y fs;omega
 .show RelO ((Dv f y fs).lookup g) (if g=f then some u else mA g)
  rw[Iq]
  by_cases q:g=f
  .rw[if_pos q,if_pos q];exact ry
  .rw[if_neg q,if_neg q];exact r g
 .by_cases q:g=f
  .rw[q];exact (Hr f y fs).1
  .refine (Hr f y fs).2 g (wi g λz=>hg ?_)
   show (if g=f then some u else mA g)=none
   rw[if_neg q];exact z
theorem Inv.made (I:Inv X pins U H s):Inv X pins U (upd (upd H s.heap.objs.size (.own (s.heap.objs.size+1))) (s.heap.objs.size+1) (.ins C s.heap.objs.size []))
  {s with heap:=(s.heap.push cK).push (dG C s.heap.objs.size) }:=by
 have e1:(s.heap.push cK).get? s.heap.objs.size=some cK:=aB s.heap rfl
 have e2:((s.heap.push cK).push (dG C s.heap.objs.size)).get? (s.heap.objs.size+1)=some (dG C s.heap.objs.size):=by
  have:=aB (s.heap.push cK) (o:=dG C s.heap.objs.size) rfl
  rwa[dB] at this
 have e3:(s.heap.push cK).Ns s.heap.objs.size (λ_=>none):=⟨cK,#[],_,e1,rfl,(λe he=>absurd he (by simp)),λ_=>rfl⟩
 have I1:=I.laid (a:=s.heap.objs.size) (o:=.own (s.heap.objs.size+1)) (h':=s.heap.push cK) (t':=s.toks) (λb u q=>aj _ q) (ah _) ⟨_,e1⟩
 refine I1.laid (a:=s.heap.objs.size+1) (o:=.ins C s.heap.objs.size []) (t':=s.toks) (λb u q=>aj _ q) (lh (dB _ _)) ?_
 have ne:s.heap.objs.size≠s.heap.objs.size+1:=aJ (cw _)
 refine⟨by rw[Ad ne,Aa],bb _,ne,e2,λ_=>none,(Heap.Ns1.of_empty e3).at λo q=>aj _ q,λ_=>aR,λy hy=>absurd rfl hy⟩
theorem ar0 {prog:aX} {w:bB} {env:Env} {e:Expr} {f:Str} {pos:Pos} {s:am} {Q:ai->am->Prop} (hb:jb e f env (eval e env)=eval e env)
  (h:aQ (model prog w) A (eval e env) (λo s₁=>aQ (model prog w) A (getAttr o f true) Q E s₁) E s):aQ (model prog w) A (eval (.Attribute e f pos) env) Q E s:=
 Attribute_any_ h (by rw[arm_eval_Attribute,hb])
end
section
variable {X:Cx} {pins:List (Addr×Obj)} {U:St} {H:Hp} {s:am} {A:bj} {E:ai->am->Prop} {Q:ai->am->Prop} {c:ai} {b:Bool}
inductive TyOf (K:ac) (H:Hp):V->ai->Prop where
 |non:TyOf K H .non (.type "NoneType")
 |bl (x:Bool):TyOf K H (.bl x) (.type "bool")
 |int (i:Int):TyOf K H (.int i) (.type "int")
 |str (x:Str):TyOf K H (.str x) (.type "str")
 |stk (x:Str) (n:Nat) (ex:Bool):TyOf K H (.stk x n ex) (.type "str")
 |lst {a:Addr} {xs:List V} (e:H a=some (.lst xs)):TyOf K H (.ref a) (.type "list")
 |frz {a:Addr} {o:Obj} {xs:List V} (e:H a=some (.frz o (.lst xs))):TyOf K H (.ref a) (.type "list")
 |tup {a:Addr} {xs:List V} (e:H a=some (.tup xs)):TyOf K H (.ref a) (.type "tuple")
 |dK {a:Addr} {kvs:List (Key×V)} (e:H a=some (.dK kvs)):TyOf K H (.ref a) (.type "dict")
 |dT {a:Addr} {kvs:List (TK×V)} (e:H a=some (.dT kvs)):TyOf K H (.ref a) (.type "dict")
 | ins {a C dx:Addr} {fs:List (Str×V)} (e:H a=some (.ins C dx fs)) (cl:Cls K C) (ha:bC K (.ref C) "__class__" = some (some (.builtin "object.__class__")))
   (hn:PySem.W.specialIn K (.builtin "object.__class__") "__get__" = some (some (.builtin "getset_descriptor.__get__"))) (htk:PySem.W.takesIn K (.builtin "object.__class__")=some true)
   (hm:PySem.W.mroIn K C (.type "object")=some true):TyOf K H (.ref a) (.ref C)
theorem Nb {x:V} {u t:ai} (I:Inv X pins U H s) (rx:RelV x u) (ty:TyOf X.K H x t) (e:fT X.K t c=some b) (h:∀ tk,Q (.bool b) { s with toks:=tk }) :
  aQ (model X.prog X.w) A (call (.builtin "isinstance") [u,c]) Q E s:=by
 cases ty with
 |non=>cases (show u=bi from rx);exact ce PySem.W.kitx_none I.kIn aR e (λz=>nomatch z) h
 |bl y=>cases (show u=jO y from rx);exact ce PySem.W.kitx_bool I.kIn aR e (λz=>nomatch z) h
 |int i=>obtain⟨t,q⟩:=(show ∃ t,u=kI i t from rx);cases q;exact ce PySem.W.kitx_int I.kIn aR e (λz=>nomatch z) h
 |str y=>obtain⟨t,q⟩:=(show ∃ t,u=h_ y t from rx);cases q;exact ce PySem.W.kitx_str I.kIn aR e (λz=>nomatch z) h
 |stk y n ex=>obtain⟨t,q,_⟩:=(show ∃ t,u=h_ y t/\(if ex=true then t=n else n<=t) from rx);cases q;exact ce PySem.W.kitx_str I.kIn aR e (λz=>nomatch z) h
 |@lst a xs ea=>
  cases (show u=bv a from rx)
  obtain⟨_,_,n,_,h1⟩:=(show ObjOk X.prog X.w H s.heap a (.lst xs) from I.hok a _ ea)
  exact ce iR I.kIn ⟨_,h1,rfl⟩ e (λz=>nomatch z) h
 |@frz a ob xs ea=>
  cases (show u=bv a from rx)
  obtain⟨_,_,_,n,_,h1⟩:=(show ObjOk X.prog X.w H s.heap a (.frz ob (.lst xs)) from I.hok a _ ea)
  exact ce iR I.kIn ⟨_,h1,rfl⟩ e (λz=>nomatch z) h
 |@tup a xs ea=>
  cases (show u=bv a from rx)
  obtain⟨_,_,_,p⟩:=(show ObjOk X.prog X.w H s.heap a (.tup xs) from I.hok a _ ea)
  obtain⟨o,h1,h2,_⟩:=p
  exact ce kD I.kIn ⟨o,h1,h2⟩ e (λz=>nomatch z) h
 |@dK a kvs ea=>
  cases (show u=bv a from rx)
  obtain⟨_,_,vs,_,p⟩:=(show ObjOk X.prog X.w H s.heap a (.dK kvs) from I.hok a _ ea)
  obtain⟨o,es,ep,h1,h2,_⟩:=p
  exact ce PySem.W.kitx_dict I.kIn ⟨o,h1,h2.1⟩ e (λz=>nomatch z) h
 |@dT a kvs ea=>
  cases (show u=bv a from rx)
  obtain⟨_,_,xs,_,o,es,ep,h1,h2,_⟩:=(show ObjOk X.prog X.w H s.heap a (.dT kvs) from I.hok a _ ea)
  exact ce PySem.W.kitx_dict I.kIn ⟨o,h1,h2.1⟩ e (λz=>nomatch z) h
 |@ins a C dx fs ea cl ha hn htk hm=>
  cases (show u=bv a from rx)
  obtain⟨mA,O,_⟩:=Jp I.hok ea
  obtain⟨od,J,_⟩:=O.look
  exact ce (PySem.W.kitx_own (cl.get _) cl.hd ha hn htk hm) I.kIn J e (λz=>nomatch z) h
end
structure Room (k:Nat) (A:bj):Prop where
 hd:A.handled=none
 dp:A.depth+3 * k+5<recursionLimit
 un:A.units+16 * k+200<cLine
theorem Room.mono {j k:Nat} {A:bj} (r:Room k A) (h:j<=k):Room j A:=⟨r.hd,by have:=r.dp;omega,by have:=r.un;omega⟩
theorem Room.deeper {k:Nat} {A:bj} (r:Room (k+1) A) (env:Env):Room k (A.deeper env):=
 ⟨r.hd,by have:=r.dp;show A.depth+1+3 * k+5<_;omega,by have:=r.un;show A.units+3+16 * k+200<_;omega⟩
theorem Room.in1 {k:Nat} {A:bj} (r:Room (k+1) A):Room k A.in1:=
 ⟨r.hd,by have:=r.dp;show A.depth+3 * k+5<_;omega,by have:=r.un;show A.units+1+16 * k+200<_;omega⟩
theorem Tp {A:bj} {C:Addr} {us:List ai} {kw:List (Str×ai)}:(A.under (.builtin "type.__call__" ⟨.ref C::us,kw⟩)).depth=A.depth+1:=by
 first|rfl|simp[k8,Code.weight,Code.isCreation,Code.isGuard,Code.isCaller,Code.frames,k9,guardIds]
theorem Tq {A:bj} {C:Addr} {us:List ai} {kw:List (Str×ai)}:(A.under (.builtin "type.__call__" ⟨.ref C::us,kw⟩)).units=A.units+1:=by
 first|rfl|simp[k8,Code.cUnits,Code.frames,k9]
theorem Room.make {k:Nat} {A:bj} (r:Room (k+1) A) (C:Addr) (us:List ai) (kw:List (Str×ai)):Room k (A.under (.builtin "type.__call__" ⟨.ref C::us,kw⟩)):=
 ⟨r.hd,by have:=r.dp;rw[Tp];omega,by have:=r.un;rw[Tq];omega⟩
theorem Room.depth {k:Nat} {A:bj} (r:Room k A):A.depth<recursionLimit:=by have:=r.dp;omega
theorem Room.units {k:Nat} {A:bj} (r:Room k A):A.units+64<cLine:=by have:=r.un;omega
noncomputable def bz2:TA:=λ_ H Q=>Q [] H
noncomputable def br4 (ta:TE) (tr:TA):TA:=λU H Q=>ta U H λx H1=>tr U H1 λxs H2=>Q (x::xs) H2
section
variable {X:Cx} {e:Expr} {es:List Expr} {te:TE} {t:TA} {pos:Pos}
theorem bd2:PA X [] bz2:=λ_ _ _ _ H Q I h=>d7 ⟨[],H,I,.nil,h⟩
theorem au7 (ha:PE X e te) (hr:PA X es t) (hs:cW (e::es) X.env=(false,eval e X.env)::cW es X.env:=by rfl):PA X (e::es) (br4 te t):=by
 intro pos pins s U H Q I h
 rw[hs]
 show aQ _ _ (spliced ((false,eval e X.env)::iV pos (cW es X.env))) _ _ s
 refine dO (thn (ha pins s U H _ I h) λu s1 ⟨x,H1,I1,r1,q1⟩=>?_)
 exact thn (hr pos pins s1 U H1 _ I1 q1) λus s2 ⟨xs,H2,I2,r2,q2⟩=>⟨x::xs,H2,I2,.cons r1 r2,q2⟩
noncomputable def bz6 (t:TA):TE:=λU H Q=>t U H λxs H1=>xs.length<=sizeLine /\ ∀ p,H1 p=none->Q (.ref p) (upd H1 p (.tup xs))
noncomputable def bz1 (t:TA):TE:=λU H Q=>t U H λxs H1=>xs.length<=sizeLine /\ ∀ p,H1 p=none->Q (.ref p) (upd H1 p (.lst xs))
theorem bd8 {x1} (h:PA X es t):PE X (.Tuple es x1 pos) (bz6 t):=by
 intro pins s U H Q I hq
 refine wpAny_Tuple_spliced (thn (h pos pins s U H _ I hq) λus s1 ⟨xs,H1,I1,r,z,q⟩=>⟨by rw[<- r.length];exact z,?_⟩)
 have hf:H1 s1.heap.objs.size=none:=I1.hok.fresh (ah _)
 refine⟨.ref s1.heap.objs.size,upd H1 s1.heap.objs.size (.tup xs),I1.laid (t':=s1.toks) (λb u e=>aj _ e) (ah _) ?_,rfl,q _ hf⟩
 exact⟨z,us,r,⟨_,aB _ rfl,rfl,_,rfl⟩⟩
theorem bd4 (h:PA X es t):PE X (.List es pos) (bz1 t):=by
 intro pins s U H Q I hq
 refine wpAny_List_spliced (thn (h pos pins s U H _ I hq) λus s1 ⟨xs,H1,I1,r,z,q⟩=>⟨by rw[<- r.length];exact z,?_⟩)
 have hf:H1 s1.heap.objs.size=none:=I1.hok.fresh (ah _)
 refine⟨.ref s1.heap.objs.size,upd H1 s1.heap.objs.size (.lst xs),I1.laid (t':=s1.toks) (λb u e=>aj _ e) (ah _) ?_,rfl,q _ hf⟩
 exact⟨z,us,0,r,aB _ rfl⟩
end
noncomputable abbrev Sp:=List V->Hp->VK->XK->Prop
noncomputable abbrev CXT:=List Env->Hp->am->XK->ai->am->Prop
structure Env0 (P:aX) (w:bB) (K:ac) (mg:Str->Option ai) (base:Heap) (A:bj) (outer:List Env) (s:am) (H:Hp):Prop where
 frames:A.frames=some outer
 mod:Mod K mg base
 bs:∀ b o,base.get? b=some o->s.heap.get? b=some o/\H b=none
 bsz:base.objs.size<=s.heap.objs.size
 funs:s.heap.FunFrames base outer
 frf:∀ b∈frs outer,H b=none
 hok:HOk P w H s.heap
 bare:j7 s.gens
 tk:Vx K s.toks
noncomputable def CE (outer:List Env) (P:aX) (w:bB) (H:Hp) (s:am) (Q:VK) (u:ai) (s':am):Prop:=
 ∃ v H',(s'.os=s.os/\s.toks<=s'.toks)/\j7 s'.gens/\Un (frs outer) [] H H' s.heap s'.heap/\HOk P w H' s'.heap/\RelV v u/\Q v H'
noncomputable def CR (CX:CXT) (outer:List Env) (P:aX) (w:bB) (H:Hp) (s:am) (Q:VK) (E:XK) (r:Result) (s':am):Prop:=
 match r with
 |.ok (.ret u)=>CE outer P w H s Q u s'
 |.ok _=>False
 |.error e=>CX outer H s E e s'
structure FnOk (P:aX) (w:bB) (K:ac) (mg:Str->Option ai) (base:Heap) (CX:CXT) (k:Nat) (f:Addr) (fd:a8) (ps:List Str) (sp:Sp):Prop where
 len:∀ vs H Q E,sp vs H Q E->vs.length=ps.length
 run:∀ (A:bj) (outer:List Env) (s:am) (H:Hp) (args:Args) (us:List ai) (vs:List V) (Q:VK) (E:XK),Room k A->Env0 P w K mg base A outer s H->kO s fd args (ps.zip us)->Vals vs us->sp vs H Q E ->
  iB (model P w) A (.call (.ref f) args) (CR CX outer P w H s Q E) s
theorem FnOk.imp {P:aX} {w:bB} {K:ac} {mg:Str->Option ai} {base:Heap} {CX:CXT} {k:Nat} {f:Addr} {fd:a8} {ps:List Str} {sp sp':Sp} (F:FnOk P w K mg base CX k f fd ps sp)
  (h:∀ vs H Q E,sp' vs H Q E->sp vs H Q E):FnOk P w K mg base CX k f fd ps sp':=
 ⟨λvs H Q E q=>F.len vs H Q E (h _ _ _ _ q),λA outer s H args us vs Q E hr he hb hv hs=>F.run A outer s H args us vs Q E hr he hb hv (h _ _ _ _ hs)⟩
theorem Env0.make {P:aX} {w:bB} {K:ac} {mg:Str->Option ai} {base:Heap} {A:bj} {outer:List Env} {s:am} {H:Hp} (e:Env0 P w K mg base A outer s H) (C:Addr) (us:List ai) (kw:List (Str×ai)) :
  Env0 P w K mg base (A.under (.builtin "type.__call__" ⟨.ref C::us,kw⟩)) outer s H:=⟨by first|exact e.frames|(simpa [k8,Code.envs,k9,pushEnvs] using e.frames),e.mod,e.bs,e.bsz,e.funs,e.frf,e.hok,e.bare,e.tk⟩
theorem Env0.in1 {P:aX} {w:bB} {K:ac} {mg:Str->Option ai} {base:Heap} {A:bj} {outer:List Env} {s:am} {H:Hp} (e:Env0 P w K mg base A outer s H) :
  Env0 P w K mg base A.in1 outer s H:=⟨e.frames,e.mod,e.bs,e.bsz,e.funs,e.frf,e.hok,e.bare,e.tk⟩
section
variable {X:Cx} {pins:List (Addr×Obj)} {U:St} {H:Hp} {s s':am}
theorem Inv.env0 (I:Inv X pins U H s):Env0 X.prog X.w X.K X.mg X.base X.A X.stack s H:=
 ⟨I.ok.frames,I.ok.mod,I.bs,aY I.ok.bsz I.sz,I.stack,I.stkFree,I.hok,I.bare,aR⟩
theorem Inv.after {Q:VK} {u:ai} (I:Inv X pins U H s) (h:CE X.stack X.prog X.w H s Q u s'):EP X pins U Q u s':=by
 obtain⟨v,H',os,bare,un,hok,r,q⟩:=h
 obtain⟨hh,g,d,t,os'⟩:=s'
 obtain rfl:os'=s.os:=os.1
 exact⟨v,H',I.call (h':=hh) (g':=g) (d':=d) (t':=t) (ch:=[]) un hok bare (λb z=>absurd z (by simp)) os.2,r,q⟩
end
noncomputable def Binds (K:ac) (fd:a8) (ps:List Str) (ds:List ai):Prop:=
 ∀ (s:am) (us:List ai),K.In s.heap->(us++ds).length=ps.length->kO s fd ⟨us,[]⟩ (ps.zip (us++ds))
theorem Binds.all {K:ac} {fd:a8} {ps:List Str} (h:∀ us:List ai,us.length=ps.length->g_ fd ⟨us,[]⟩=pure (ps.zip us)):Binds K fd ps []:=λs us _ hl=>by
 rw[bI] at hl ⊢
 exact .of_eq (h us hl)
section
variable {X:Cx} {CX:CXT} {k:Nat} {f C:Addr} {fd:a8} {ps:List Str} {sp:Sp} {dvs:List V} {ds:List ai} {E:XK} {x m:Str} {p pos apos:Pos} {e o:Expr} {es:List Expr} {ta:TE} {t:TA}
structure Mk (K:ac) (C f:Addr):Prop where
 makes:dH K C=true
 init:bC K (.ref C) "__init__" = some (some (.ref f))
 fn:dE K (.ref f)=true
 kp:bA K (.ref C)=true
end
structure Cw (N P:List Str) (sc:Scope):Prop where
 kind:sc.kind=.function
 co:sc.isCoroutine=false
 gen:sc.isGenerator=false
 nd:N.Nodup
 pre:N.take P.length=P
 par:∀ x∈P,sc.names.lookup x=some .local\/sc.names.lookup x=some .cell
 nofree:∀ y∈sc.names,y.2≠.free
theorem Mv {kindOf:Str->Option cC} {x:Str}:∀ {binds:List (Str×ai)} {m:Str->Option ai},(∀ v,(x,v)∉binds)->bindL kindOf binds m x=m x
 |[],_,_=>rfl
 | (n,v)::r,m,h=>by
  unfold bindL
  rw[Mv λw hw=>h w (az _ hw)]
  split
  .have:x≠n:=by rintro rfl;exact h v aN
   simp[this]
  .rfl
theorem Mt {kindOf:Str->Option cC} {x:Str}:∀ {binds:List (Str×ai)} {m:Str->Option ai},(∀ v,(x,v)∉binds)->bindC kindOf binds m x=m x
 |[],_,_=>rfl
 | (n,v)::r,m,h=>by
  unfold bindC
  rw[Mt λw hw=>h w (az _ hw)]
  split
  .rfl
  .have:x≠n:=by rintro rfl;exact h v aN
   simp[this]
theorem Mu {kindOf:Str->Option cC} {x:Str} {v:ai}:∀ {P:List Str} {vs:List ai} {i:Nat} {m:Str->Option ai},P.Nodup->P[i]? = some x->vs[i]? = some v->kindOf x=some .local ->
  bindL kindOf (P.zip vs) m x=some v
 |[],_,_,_,_,h,_,_=>by simp at h
 |_::_,[],_,_,_,_,h,_=>by simp at h
 | p::P,w::vs,0,m,nd,h1,h2,hk=>by
  simp at h1 h2;subst h1;subst h2
  show bindL kindOf ((p,w)::P.zip vs) m p=_
  unfold bindL
  rw[Mv λv hv=>(List.nodup_cons.mp nd).1 (hX hv).1,if_pos hk]
  simp
 | p::P,w::vs,i+1,m,nd,h1,h2,hk=>by
  show bindL kindOf ((p,w)::P.zip vs) m x=_
  unfold bindL
  exact Mu (i:=i) (List.nodup_cons.mp nd).2 (by simpa using h1) (by simpa using h2) hk
theorem Ms {kindOf:Str->Option cC} {x:Str} {v:ai}:∀ {P:List Str} {vs:List ai} {i:Nat} {m:Str->Option ai},P.Nodup->P[i]? = some x->vs[i]? = some v->kindOf x≠some .local ->
  bindC kindOf (P.zip vs) m x=some v
 |[],_,_,_,_,h,_,_=>by simp at h
 |_::_,[],_,_,_,_,h,_=>by simp at h
 | p::P,w::vs,0,m,nd,h1,h2,hk=>by
  simp at h1 h2;subst h1;subst h2
  show bindC kindOf ((p,w)::P.zip vs) m p=_
  unfold bindC
  rw[Mt λv hv=>(List.nodup_cons.mp nd).1 (hX hv).1,if_neg hk]
  simp
 | p::P,w::vs,i+1,m,nd,h1,h2,hk=>by
  show bindC kindOf ((p,w)::P.zip vs) m x=_
  unfold bindC
  exact Ms (i:=i) (List.nodup_cons.mp nd).2 (by simpa using h1) (by simpa using h2) hk
noncomputable def D0 (N:List Str) (vs:List V):St:=vs.map some++jZ (N.length - vs.length) none
noncomputable def J5 (CX:CXT) (P:aX) (w:bB) (K:ac) (mg:Str->Option ai) (base:Heap) (N:List Str) (qual:Str) (scope:Scope) (f:Addr) (cd:ai) (A:bj) (outer:List Env) (s:am) (H:Hp) (E:XK):Cx where
 prog:=P
 w:=w
 K:=K
 mg:=mg
 base:=base
 A:=A.deeper (j5 qual scope s.heap.objs.size f cd)
 N:=N
 s₀:=s
 H₀:=H
 env:=j5 qual scope s.heap.objs.size f cd
 outer:=outer
 stack:=j5 qual scope s.heap.objs.size f cd::outer
 ex:=[]
 calm:=true
 fn:=λ_=>true
 pn:=[]
 xe:=λe s'=>aQ (model P w) (A.deeper (j5 qual scope s.heap.objs.size f cd)) (leaving (j5 qual scope s.heap.objs.size f cd) e) (λ_ s''=>CX outer H s E e s'') (λe' s''=>CX outer H s E e' s'') s'
theorem Gj {sc:Scope} {n:Nat} {x:Str} (h:sc.names.lookup x=some .cell):∃ c,(lI n sc.names []).lookup x=some c:=by
 have q:=gy sc.names n [] (.inl h)
 exact Option.isSome_iff_exists.mp q
theorem M9 {CX:CXT} {P:aX} {w:bB} {K:ac} {mg:Str->Option ai} {base:Heap} {N ps:List Str} {qual:Str} {scope:Scope} {f:Addr} {cd:ai} {A:bj} {outer:List Env} {s s1:am} {H:Hp} {E:XK} {us:List ai} {vs:List V}
  (S:Cw N ps scope) (hd:A.handled=none) (e0:Env0 P w K mg base A outer s H) (htk:s.toks<=s1.toks) (hl:vs.length=ps.length) (r:Vals vs us)
  (x:InCallC s s.heap.objs.size (bindL (j5 qual scope s.heap.objs.size f cd).kindOf (ps.zip us) λ_=>none) (lI (s.heap.objs.size+1) scope.names []) (bindC (j5 qual scope s.heap.objs.size f cd).kindOf (ps.zip us) λ_=>none) s1) :
  Inv (J5 CX P w K mg base N qual scope f cd A outer s H E) [] (D0 N vs) H s1:=by
 have hpl:ps.length<=N.length:=by have:=congrArg b9 S.pre;rw[aG] at this;omega
 obtain⟨h1,tk,rfl,hk⟩:=x.done
 have noA:∀ b:Addr,b∉(J5 CX P w K mg base N qual scope f cd A outer s H E).ex:=λb z=>absurd (show b∈([]:List Addr) from z) (by simp)
 refine⟨⟨e0.mod,S.kind,rfl,rfl,ah _,λy z c h1 h2=>?_,λy hy=>?_,λy c _ h=>?_,λ_=>hd,Around.frames_deeper e0.frames,.inr ⟨rfl,rfl⟩,λb z=>absurd z (noA b),e0.bs,e0.bsz,λb _ _=>noA b,λb z=>absurd z (noA b),e0.funs,e0.frf,e0.tk⟩,
  ⟨rfl,htk⟩,e0.bare,Un.kept hk,⟨_,x.toInCall.ns,λi y v h1 h2 h3=>?_⟩,λy c h=>⟨_,x.cell y c h⟩,e0.hok.fresh (ah _),λy c h=>?_,λp hp=>absurd (show p∈([]:List (Addr×Obj)) from hp) (by simp),e0.hok.kept hk,?_⟩
 .exact name_of_addr x.apart (ca h1) (ca h2)
 .have hy:scope.names.lookup y=some .cell\/scope.names.lookup y=some .free:=hy
  rcases hy with hy|hy
  .exact Gj hy
  .exact absurd rfl (S.nofree _ (ca hy))
 .exact ez (x.above y c (ca h))
 .have hi:i<vs.length:=by
   unfold D0 at h2
   by_cases hi:i<vs.length
   .exact hi
   .rw[be (by simpa using hi)] at h2
    rw[eI] at h2
    split at h2 <;> cases h2
  have ha:vs[i]? = some v:=by
   unfold D0 at h2
   rw[bG (by simpa using hi),ak] at h2
   cases e:vs[i]? with
   |none=>rw[e] at h2;cases h2
   |some a=>rw[e] at h2;cases h2;rfl
  obtain⟨u,hu,rv⟩:=r.get ha
  have hp:ps[i]? = some y:=by
   rw[<- S.pre,List.getElem?_take_of_lt (by omega)];exact h1
  have ndP:ps.Nodup:=by rw[<- S.pre];exact S.nd.sublist (d8 _ _)
  refine⟨u,rv,?_⟩
  rcases S.par y (al hp) with k|k
  .exact .inl ⟨k,Mu ndP hp hu k⟩
  .obtain⟨c,e⟩:=Gj (n:=s.heap.objs.size+1) k
   refine .inr ⟨.inl k,c,e,?_⟩
   have q:=x.cell y c e
   rw[Ms ndP hp hu (by show scope.names.lookup y≠_;rw[k];decide)] at q
   exact q
 .exact e0.hok.fresh (ez (x.above y c (ca h)))
 .unfold D0
  show _=N.length
  rw[aS,ae,List.length_replicate]
  omega
theorem a05 {CX:CXT} {P:aX} {w:bB} {K:ac} {mg:Str->Option ai} {base:Heap} {k:Nat} {f:Addr} {name qual:Str} {params:Arguments} {body:List Stmt} {scope:Scope} {dV kV doc pm cdv ct oc:ai} {an od:Option Addr}
  {osl:Array (Option ai)} {N ps:List Str} {sp:Sp} (lk:K.lookup f=some ⟨oc,od,.func (cu name qual params body scope dV kV doc pm an cdv ct),osl⟩) (hcd:dD K cdv qual=true) (S:Cw N ps scope)
  (len:∀ vs H Q E,sp vs H Q E->vs.length=ps.length)
  (hbody:∀ (A:bj) (outer:List Env) (s:am) (H:Hp) (vs:List V) (Q:VK) (E:XK),Room k (A.deeper (j5 qual scope s.heap.objs.size f cdv))->sp vs H Q E ->
   ∃ t,PSs (J5 CX P w K mg base N qual scope f cdv A outer s H E) body t/\t { nx:=λ_ H'=>Q .non H',rt:=Q } (D0 N vs) H) :
  FnOk P w K mg base CX (k+1) f (cu name qual params body scope dV kV doc pm an cdv ct) ps sp:=by
 refine⟨len,λA outer s H args us vs Q E hr e0 hb r hsp=>?_⟩
 have hl:=len _ _ _ _ hsp
 have KX:K.In s.heap:=e0.mod.kin.keeps λb o e=>(e0.bs b o e).1
 have lim:s.heap.NoLimit:=e0.mod.nolimit.keeps λb o e=>(e0.bs b o e).1
 have hkind:∀ y∈ps.zip us,scope.names.lookup y.1=some .local\/(scope.names.lookup y.1=some .cell/\((lI (s.heap.objs.size+1) scope.names []).lookup y.1).isSome=true):=fun⟨n,v⟩ hy=>by
  rcases S.par n (hX hy).1 with q|q
  .exact .inl q
  .exact .inr ⟨q,gy _ _ _ (.inl q)⟩
 refine codeAny_call_function hr.depth (KX _ _ lk) rfl S.co S.gen rfl (PySem.W.codeRec_of KX hcd) (hb _ _ _ _ ?_)
 refine bE (ah _) (ir S.kind hkind λenv he s1 x htk=>?_)
 subst he
 refine⟨lim.keeps x.toInCall.keep,codeAny_func ?_⟩
 obtain⟨t,ht,hq⟩:=hbody A outer s H vs Q E (hr.deeper _) hsp
 have I:Inv (J5 CX P w K mg base N qual scope f cdv A outer s H E) [] (D0 N vs) H s1:=M9 S hr.hd e0 htk hl r x
 refine bZ (ht [] s1 (D0 N vs) H _ I hq) (λfl s' hs=>?_) λe s' hs=>hs
 have fin:∀ {U':St} {H':Hp} {v:V} {u:ai},Inv (J5 CX P w K mg base N qual scope f cdv A outer s H E) [] U' H' s'->RelV v u->Q v H'->CE outer P w H s Q u s':=
  λ{U' H' v u} J rv q=>⟨v,H',J.os,J.bare,J.base,J.hok,rv,q⟩
 cases fl with
 |ret u=>
  obtain⟨v,U',H',J,rv,q⟩:=hs
  exact fin J rv q
 |next=>
  obtain⟨U',H',J,q⟩:=hs
  exact fin (v:=V.non) (u:=bi) J rfl q
 |brk=>
  obtain⟨_,_,_,q⟩:=hs
  exact cq q
 |cont=>
  obtain⟨_,_,_,q⟩:=hs
  exact cq q
section
variable {X:Cx} {x:Str} {p pos:Pos} {e:Expr} {es:List Expr} {t:TA} {id T:String} {r:List V->Hp->VK->Prop}
noncomputable def tCB (r:List V->Hp->VK->Prop) (t:TA):TE:=λU H Q=>t U H λvs H1=>r vs H1 Q
theorem ag4 (hc:Cj X (.builtin id) r) (hg:Gl X x) (hm:X.mg x=none) (hv:cV x=some (.builtin id)) (ha:PA X (e::es) t) (hn:x ≠ "__name__" := by decide) (hdb:(x==("__debug__" : Str))=false:=by decide)
  (he:cW (e::es) X.env=(false,eval e X.env)::cW es X.env:=by rfl) (hpl:(iV pos (cW es X.env)).any (·.1)=false:=by rfl):PE X (.Call (.Name x p) (e::es) [] pos) (tCB r t):=by
 intro pins s U H Q I h
 refine bT (C9 I hg hm hv ?_ hn hdb)
 exact gX (thn (ha pos pins s U H _ I h) λus s1 ⟨vs,H1,I1,r1,q1⟩=>hc pins s1 U H1 vs us Q I1 r1 q1) he hpl
theorem Yd (hc:Cj X (.type T) r) (hg:Gl X x) (hm:X.mg x=none) (hv:cV x=some (.type T)) (ha:PA X (e::es) t) (hn:x ≠ "__name__" := by decide) (hdb:(x==("__debug__" : Str))=false:=by decide)
  (he:cW (e::es) X.env=(false,eval e X.env)::cW es X.env:=by rfl) (hpl:(iV pos (cW es X.env)).any (·.1)=false:=by rfl):PE X (.Call (.Name x p) (e::es) [] pos) (tCB r t):=by
 intro pins s U H Q I h
 refine bT (C9 I hg hm hv ?_ hn hdb)
 exact bL (thn (ha pos pins s U H _ I h) λus s1 ⟨vs,H1,I1,r1,q1⟩=>hc pins s1 U H1 vs us Q I1 r1 q1) he hpl
end
end L2
namespace HT
open PySem PyProof.Rows
section
variable {prog:aX} {w:bB} {A:bj} {E:ai->am->Prop} {s:am}
theorem cat_tup {t b:Addr} {vs ws:List ai} {Q:ai->am->Prop} (ht:ma s.heap t vs.toArray) (hb:ma s.heap b ws.toArray) (hv:vs≠[])
  (h1:ws=[]->Q (.ref t) s) (h2:ws≠[]->Q (.ref s.heap.objs.size) { s with heap:=s.heap.push { cls:=.type "tuple", data:=.seq (vs++ws).toArray } })
  (hsz:vs.length+ws.length<=sizeLine):aQ (model prog w) A (dR .Add (.ref t) (.ref b)) Q E s:=by
 obtain⟨⟨cls,dd,data,sl⟩,ho,hc,n,hd⟩:=id ht
 obtain⟨⟨cls2,dd2,data2,sl2⟩,ho2,hc2,n2,hd2⟩:=id hb
 simp only at hc hd hc2 hd2
 subst hc hd hc2 hd2
 have e:vs.toArray++ws.toArray=(vs++ws).toArray:=by simp
 by_cases hw:ws=[]
 .exact lA ⟨_,ho,rfl⟩ ⟨_,ho2,rfl⟩ jn kK gx gg (f7 _ _)
   (tuple_addW1 t b vs.toArray ws.toArray n n2 dd dd2 sl sl2 (by simpa using hv) (by simp[hw])) ⟨ho,ho2,h1 hw⟩
 .refine lA ⟨_,ho,rfl⟩ ⟨_,ho2,rfl⟩ jn kK gx gg (f7 _ _)
   (tuple_addW2 t b vs.toArray ws.toArray n n2 dd dd2 sl sl2 (by simpa using hv) (by simpa using hw) (by rw[ax,ax];exact hsz)) ⟨ho,ho2,?_⟩
  rw[e]
  exact h2 hw
end
end HT
namespace L2
open PySem PySem.Spec PyProof.Rows
noncomputable abbrev TO:=St->Hp->(Option Int->Hp->Prop)->Prop
noncomputable def PO (X:Cx) (e:Option Expr) (t:TO):Prop:=
 ∀ (pins:List (Addr×Obj)) (s:am) (U:St) (H:Hp) (Q:Option Int->Hp->Prop),Inv X pins U H s->t U H Q ->
  aQ (model X.prog X.w) X.A (evalPart e X.env) (λu s'=>∃ o H',Inv X pins U H' s'/\IsPart u o/\Q o H') X.xe s
noncomputable def ay6:TO:=λ_ H Q=>Q none H
theorem Te {ns:List Int}:∀ {us:List ai},Vals (ns.map V.int) us->ke us ns:=by
 induction ns with
 |nil=>intro us r;rw[fv] at r;cases r;exact .nil
 |cons n ns ih=>
  intro us r
  rw[aP] at r
  cases r with
  |cons r1 r2=>
   obtain⟨t,e⟩:=r1
   subst e
   exact .cons n t (ih r2)
section
variable {X:Cx} {e:Expr} {te:TE} {lo hi:Option Expr} {tl th:TO} {pos p2:Pos}
theorem av2:PO X none ay6:=by
 intro pins s U H Q I h
 rw[evalPart_none]
 exact ao ⟨none,H,I,.none,h⟩
noncomputable def a18 (K:ac):R2:=λx y H Q=>∃ a b xs ys,x=.ref a/\y=.ref b/\SqT K H a xs/\SqT K H b ys/\xs≠[]/\xs.length+ys.length<=sizeLine /\
 (ys=[]->Q (.ref a) H)/\(ys≠[] -> ∀ p,H p=none->Q (.ref p) (upd H p (.tup (xs++ys))))
theorem Vals.nil_iff {xs:List V} {us:List ai} (r:Vals xs us):us=[] ↔ xs=[]:=by
 cases r with
 |nil=>simp
 |cons _ _=>simp
theorem op_catT:OpR X (dR .Add) (a18 X.K):=by
 intro pins s U H x y v u Q I rx ry h
 obtain⟨a,b,xs,ys,rfl,rfl,ha,hb,hx,hz,q1,q2⟩:=h
 cases rx
 cases ry
 obtain⟨its,r1,p1,_⟩:=I.tuple ha
 obtain⟨its2,r2,p2,_⟩:=I.tuple hb
 refine HT.cat_tup p1 p2 (λz=>hx (r1.nil_iff.mp z)) (λz=>⟨.ref a,H,I,rfl,q1 (r2.nil_iff.mp z)⟩) (λz=>?_) (by rw[<- r1.length,<- r2.length];exact hz)
 refine⟨.ref s.heap.objs.size,_,I.laid (t':=s.toks) (o:=.tup (xs++ys)) (λb ob q=>aj _ q) (ah _) ?_,rfl,q2 (λw=>z (r2.nil_iff.mpr w)) _ (I.hok.fresh (ah _))⟩
 exact⟨by rw[aS];exact hz,_,r1.append r2,IsTup.new _ _⟩
end
noncomputable def ixN (n:Nat) (i:Int):Option Nat:=if 0<=i then (if i<n then some i.toNat else none) else if -(n:Int)<=i then some (i+n).toNat else none
noncomputable def atI {α:Type} (xs:List α) (i:Int):Option α:=(ixN xs.length i).bind λj=>xs[j]?
theorem as7 {n:Nat} {i:Int} {j:Nat} (h:ixN n i=some j):seqIndex? i n=some j/\j<n /\ -(n:Int)<=i/\i<n:=by
 unfold ixN at h
 by_cases h0:0<=i
 .rw[if_pos h0] at h
  by_cases h1:i<n
  .rw[if_pos h1] at h
   have e:i.toNat=j:=aH h
   exact⟨by rw[seqIndex_of h0 h1,e],by omega,by omega,h1⟩
  .rw[if_neg h1] at h;cases h
 .rw[if_neg h0] at h
  by_cases h1:-(n:Int)<=i
  .rw[if_pos h1] at h
   have e:(i+n).toNat=j:=aH h
   exact⟨by rw[seqIndex_neg (by omega) h1,e],by omega,h1,by omega⟩
  .rw[if_neg h1] at h;cases h
theorem Nz {α:Type} {xs:List α} {i:Int} {v:α} (h:atI xs i=some v):∃ j,seqIndex? i xs.length=some j/\xs[j]? = some v/\j<xs.length /\ -(xs.length:Int)<=i/\i<xs.length:=by
 unfold atI at h
 cases e:ixN xs.length i with
 |none=>rw[e] at h;cases h
 |some j=>
  rw[e] at h
  obtain⟨h1,h2,h3,h4⟩:=as7 e
  exact⟨j,h1,h,h2,h3,h4⟩
theorem Bn {α:Type} {xs:List α} {j:Nat} {v:α} (h:xs[j]? = some v):atI xs (j:Int)=some v:=by
 have hj:j<xs.length:=(List.getElem?_eq_some_iff.mp h).1
 have e:ixN xs.length (j:Int)=some j:=by
  unfold ixN
  rw[if_pos (by omega),if_pos (by omega)];simp
 unfold atI;rw[e];exact h
noncomputable def Vw (b:Expr):Prop:=∀ o i,subscripted b false o i=operate [o,i] (getItem o i)
noncomputable def IxR (X:Cx) (r:R2):Prop:=
 ∀ (value slice:Expr) (pins:List (Addr×Obj)) (s:am) (U:St) (H:Hp) (x y:V) (v u:ai) (Q:VK),Inv X pins U H s->RelV x v->RelV y u->r x y H Q ->
  subscripted slice false v u=operate [v,u] (getItem v u)->aQ (model X.prog X.w) X.A (subscriptTail value slice v u) (EP X pins U Q) X.xe s
noncomputable def MtR (X:Cx) (id:String) (r:V->List V->Hp->VK->Prop):Prop:=
 ∀ (pins:List (Addr×Obj)) (s:am) (U:St) (H:Hp) (x:V) (xs:List V) (v:ai) (us:List ai) (Q:VK),Inv X pins U H s->RelV x v->Vals xs us->r x xs H Q ->
  aQ (model X.prog X.w) X.A (call (.builtin id) (v::us)) (EP X pins U Q) X.xe s
section
variable {X:Cx} {a b:Expr} {ta tb:TE} {pos:Pos}
theorem bp7 {r:R2} (hr:IxR X r) (ha:PE X a ta) (hb:PE X b tb) (hs:Vw b):PE X (.Subscript a b pos) (tOp r ta tb):=by
 intro pins s U H Q I h
 exact Subscript_ (a40 ha hb I h λv u s2 x y H2 I2 rx ry q=>hr a b pins s2 U H2 x y v u Q I2 rx ry q (hs _ _))
noncomputable def by3 (K:ac):R2:=λx y H Q=>∃ p xs i v,x=.ref p/\y=.int i/\SqL K H p xs/\atI xs i=some v/\Q v H
noncomputable def by5 (K:ac):R2:=λx y H Q=>∃ p xs i v,x=.ref p/\y=.int i/\SqT K H p xs/\atI xs i=some v/\Q v H
noncomputable def by4:R2:=λx y H Q=>∃ z i c,x=.str z/\y=.int i/\z.length<=sizeLine/\atI z.cps.toList i=some c/\Q (.str ⟨#[c]⟩) H
theorem as8:IxR X (by3 X.K):=by
 intro value slice pins s U H x y v u Q I rx ry h hs
 obtain⟨p,xs,i,z,rfl,rfl,hq,he,q⟩:=h
 cases rx
 obtain⟨t,rfl⟩:=ry
 obtain⟨its,r,pl,hz⟩:=I.list hq
 obtain⟨j,h1,h2,h3,h4,h5⟩:=Nz he
 obtain⟨w,ew,rw'⟩:=r.get h2
 have hl:=r.length
 have hn:=Hs
 have fin:EP X pins U Q w s:=⟨z,H,I,rw',q⟩
 by_cases h0:0<=i
 .have hj:i.toNat=j:=by
   rw[seqIndex_of h0 h5] at h1
   exact aH h1
  exact item_listR pl.isList h0 (by omega) (by rw[hj];simpa using ew) fin hs
 .have hj:(i+(its.toArray.size:Int)).toNat=j:=by
   rw[seqIndex_neg (by omega) h4] at h1
   rw[ax,<- hl]
   exact aH h1
  exact jt (x:=w) pl.isList.typeIs slot_list_getitem.lookup
   (wpAny_getItem_list_neg (Q:=λr s'=>r=w/\EP X pins U Q r s') pl.isList (by omega) (by rw[ax] <;> omega) (by omega) (by rw[hj];simpa using ew) ⟨rfl,fin⟩) hs
theorem a61:IxR X (by5 X.K):=by
 intro value slice pins s U H x y v u Q I rx ry h hs
 obtain⟨p,xs,i,z,rfl,rfl,hq,he,q⟩:=h
 cases rx
 obtain⟨t,rfl⟩:=ry
 obtain⟨its,r,pl,hz⟩:=I.tuple hq
 obtain⟨j,h1,h2,h3,h4,h5⟩:=Nz he
 obtain⟨w,ew,rw'⟩:=r.get h2
 have hl:=r.length
 have hn:=Hs
 have fin:EP X pins U Q w s:=⟨z,H,I,rw',q⟩
 exact jt (x:=w) pl.typeIs slot_tuple_getitem.lookup
  (getItem_tuple (j:=j) (Q:=λr s'=>r=w/\EP X pins U Q r s') pl (by omega) (by omega) (by rw[ax,<- hl];exact h1) (by simpa using ew) ⟨rfl,fin⟩) hs
theorem a60:IxR X by4:=by
 intro value slice pins s U H x y v u Q I rx ry h hs
 obtain⟨z,i,c,rfl,rfl,hz,he,q⟩:=h
 obtain⟨t,rfl⟩:=rx
 obtain⟨t',rfl⟩:=ry
 obtain⟨j,h1,h2,h3,h4,h5⟩:=Nz he
 have hl:z.cps.toList.length=z.length:=by simp[Str.length]
 rw[hl] at h1 h4 h5
 have hn:=Hs
 exact tail_any (typeIs_str s z t) slot_str_getitem.lookup (getItem_str (c:=c) (by
  have e1:decide (i < -(2 ^ 63:Int))=false:=decide_eq_false (by omega)
  have e2:decide (i ≥ 2 ^ 63)=false:=decide_eq_false (by omega)
  rw[e1,e2,Bool.or_false]) (by rw[h1];simpa using h2) ⟨.str ⟨#[c]⟩,H,I.tok _,⟨_,rfl⟩,q⟩) hs
theorem Inv.lst {pins:List (Addr×Obj)} {U:St} {H:Hp} {s:am} {p:Addr} {xs:List V} (I:Inv X pins U H s) (h:H p=some (.lst xs)) :
  ∃ (its:List ai) (n:Nat),Vals xs its/\s.heap.get? p=some { cls:=.type "list", data:=.seq its.toArray n }/\xs.length<=sizeLine:=by
 obtain⟨z,its,n,r,e⟩:=I.hok p _ h
 exact⟨its,n,r,e,z⟩
noncomputable def eqU (x:V) (u:ai):Bool:=match u with
 |.none=>eqV .non x
 |.bool b=>eqV (.bl b) x
 |.int i _=>eqV (.int i) x
 |.str z _=>eqV (.str z) x
 |_=>false
theorem ab7 {x y:V} {u:ai} (r:RelV y u) (f:Bv y=true):eqU x u=eqV y x:=by
 cases y with
 |non=>cases r;rfl
 |bl b=>cases r;rfl
 |int i=>obtain⟨t,rfl⟩:=r;rfl
 |str z=>obtain⟨t,rfl⟩:=r;rfl
 |_=>exact absurd (show false=true from f) av
theorem Gh {x:V}:∀ {xs:List V} {us:List ai},Vals xs us->xs.all Bv=true->us.any (eqU x)=xs.any λy=>eqV y x
 |_,_,.nil,_=>rfl
 | y::xs,u::us,.cons r t,f=>by
  rw[bW,aU] at f
  rw[gd,gd,ab7 r f.1,Gh t f.2]
theorem Ff {A:bj} {s:am} {x:V} {v:ai} (rx:RelV x v) (fx:Bv x=true):∀ {xs:List V} {us:List ai},Vals xs us->xs.all Bv=true -> ∀ u∈us,bw A s u v (eqU x u)
 |_,_,.nil,_=>λu hu=>by cases hu
 | y::xs,u::us,.cons r t,f=>λu' hu=>by
  rw[bW,aU] at f
  rcases List.mem_cons.mp hu with rfl|hu
  .rw[ab7 r f.1];exact Oe r rx f.1 fx
  .exact Ff rx fx t f.2 u' hu
noncomputable def inV (x:V) (xs:List V):Bool:=xs.any λy=>eqV y x
noncomputable def rIn (K:ac) (neg:Bool):R2:=λx y H Q=>∃ p xs,y=.ref p/\(SqL K H p xs\/SqT K H p xs)/\Bv x=true/\xs.all Bv=true/\Q (.bl (if neg then !inV x xs else inV x xs)) H
theorem Ya:OpR X (cG .In) (rIn X.K false):=by
 intro pins s U H x y v u Q I rx ry h
 obtain⟨p,xs,rfl,hq,fx,fs,q⟩:=h
 cases ry
 rcases hq with hq|hq
 .obtain⟨its,r,pl,hz⟩:=I.list hq
  refine SeqAt.in_listAt (eqU x) pl.isList (λw hw=>Ff rx fx r fs w (by simpa using hw)) ⟨.bl _,H,I,rfl,?_⟩
  rw[show its.toArray.any (eqU x)=its.any (eqU x) by simp,Gh r fs]
  exact q
 .obtain⟨its,r,pl,hz⟩:=I.tuple hq
  refine SeqAt.in_tupleAt (eqU x) pl (λw hw=>Ff rx fx r fs w (by simpa using hw)) ⟨.bl _,H,I,rfl,?_⟩
  rw[show its.toArray.any (eqU x)=its.any (eqU x) by simp,Gh r fs]
  exact q
theorem O7:OpR X (cG .NotIn) (rIn X.K true):=by
 intro pins s U H x y v u Q I rx ry h
 obtain⟨p,xs,rfl,hq,fx,fs,q⟩:=h
 cases ry
 rcases hq with hq|hq
 .obtain⟨its,r,pl,hz⟩:=I.list hq
  refine SeqAt.notIn_listAt (eqU x) pl.isList (λw hw=>Ff rx fx r fs w (by simpa using hw)) ⟨.bl _,H,I,rfl,?_⟩
  rw[show its.toArray.any (eqU x)=its.any (eqU x) by simp,Gh r fs]
  exact q
 .obtain⟨its,r,pl,hz⟩:=I.tuple hq
  refine SeqAt.notIn_tupleAt (eqU x) pl (λw hw=>Ff rx fx r fs w (by simpa using hw)) ⟨.bl _,H,I,rfl,?_⟩
  rw[show its.toArray.any (eqU x)=its.any (eqU x) by simp,Gh r fs]
  exact q
theorem N1:Cj X (.builtin "len") (λxs H Q=>∃ p ys,xs=[.ref p]/\(SqL X.K H p ys\/SqT X.K H p ys)/\Q (.int ys.length) H):=by
 intro pins s U H xs us Q I r h
 obtain⟨p,ys,rfl,hq,q⟩:=h
 obtain⟨u,rfl,rx⟩:=D9 r
 cases rx
 have hn:=Hs
 rcases hq with hq|hq
 .obtain⟨its,r',pl,hz⟩:=I.list hq
  have hlen:=r'.length
  exact Calls.call_len_list pl.isList (by simp only[ax] <;> omega) ⟨.int ys.length,H,I.tok _,⟨s.toks+1,by rw[ax,hlen]⟩,q⟩
 .obtain⟨its,r',pl,hz⟩:=I.tuple hq
  have hlen:=r'.length
  exact len_tuple pl (by simp only[ax] <;> omega) ⟨.int ys.length,H,I.tok _,⟨s.toks+1,by rw[ax,hlen]⟩,q⟩
theorem N2:Cj X (.builtin "len") (λxs H Q=>∃ z,xs=[.str z]/\z.length<=sizeLine/\Q (.int z.length) H):=by
 intro pins s U H xs us Q I r h
 obtain⟨z,rfl,hz,q⟩:=h
 obtain⟨u,rfl,t,rfl⟩:=D9 r
 have hn:=Hs
 exact len_str (by omega) ⟨.int z.length,H,I.tok _,⟨_,rfl⟩,q⟩
theorem N3:Cj X (.type "list") (λxs H Q=>∃ p ys,xs=[.ref p]/\(SqL X.K H p ys\/SqT X.K H p ys) /\ ∀ l,H l=none->Q (.ref l) (upd H l (.lst ys))):=by
 intro pins s U H xs us Q I r h
 obtain⟨p,ys,rfl,hq,q⟩:=h
 obtain⟨u,rfl,rx⟩:=D9 r
 cases rx
 have fin:∀ (its:List ai),Vals ys its->ys.length<=sizeLine -> ∀ (h':Heap) (c':Nat),(∀ b o',s.heap.get? b=some o'->h'.get? b=some o') ->
   h'.get? s.heap.objs.size=some { cls:=.type "list", dict:=none,data:=.seq its.toArray c',slots:=#[] }->EP X pins U Q (.ref s.heap.objs.size) { s with heap:=h' }:=λits r' hz h' c' kp e=>
  ⟨.ref s.heap.objs.size,_,I.laid (t':=s.toks) kp (ah _) (show ObjOk X.prog X.w _ h' _ (.lst ys) from⟨hz,its,c',r',e⟩),rfl,q _ (I.hok.fresh (ah _))⟩
 rcases hq with hq|hq
 .obtain⟨its,r',pl,hz⟩:=I.list hq
  have hlen:=r'.length
  obtain⟨o,ho,hc,n,hd⟩:=pl.isList
  exact call_list_seq p (.inl rfl) ho hc hd (λh' c' kp e=>fin its r' hz h' c' kp e) (by simp only[ax] <;> omega)
 .obtain⟨its,r',pl,hz⟩:=I.tuple hq
  have hlen:=r'.length
  obtain⟨o,ho,hc,n,hd⟩:=pl
  exact call_list_seq p (.inr rfl) ho hc hd (λh' c' kp e=>fin its r' hz h' c' kp e) (by simp only[ax] <;> omega)
theorem Lr:Cj X (.type "tuple") (λxs H Q=>∃ p ys,xs=[.ref p]/\((SqL X.K H p ys /\ ∀ l,H l=none->Q (.ref l) (upd H l (.tup ys)))\/(SqT X.K H p ys/\Q (.ref p) H))):=by
 intro pins s U H xs us Q I r h
 obtain⟨p,ys,rfl,h⟩:=h
 obtain⟨u,rfl,rx⟩:=D9 r
 cases rx
 rcases h with ⟨hq,q⟩|⟨hq,q⟩
 .obtain⟨its,r',pl,hz⟩:=I.list hq
  have hlen:=r'.length
  refine call_tuple_list pl.isList (λh' kp=>?_) (by simp only[ax] <;> omega)
  have I1:Inv X pins U H { s with heap:=h' }:=I.kept (t':=s.toks) kp
  have I2:Inv X pins U (upd H h'.objs.size (.tup ys)) { s with heap:=h'.push { cls:=.type "tuple", data:=.seq its.toArray } }:=
   I1.laid (t':=s.toks) (λb o e=>aj _ e) (ah _) (show ObjOk X.prog X.w _ _ _ (.tup ys) from⟨hz,its,r',IsTup.new _ _⟩)
  exact⟨.ref h'.objs.size,_,I2,rfl,q _ (I1.hok.fresh (ah _))⟩
 .obtain⟨its,r',pl,hz⟩:=I.tuple hq
  exact call_tuple_same pl ⟨.ref p,H,I,rfl,q⟩
noncomputable def tyV (K:ac) (T:String) (x:V) (H:Hp):Prop:=match x with
 |.str _=>T = "str"
 |.int _=>T = "int"
 | .ref p=>(T = "list" /\ ∃ xs,SqL K H p xs)\/(T = "tuple" /\ ∃ o,K.lookup p=some o/\o.cls=.type "tuple" /\ o.dict=none) \/
   (T = "dict" /\ ((∃ kvs,H p=some (.dK kvs)) \/ ∃ kvs,H p=some (.dT kvs)))\/(T = "set" /\ ∃ S n,H p=some (.set S n))
 |_=>False
theorem an7 {pins:List (Addr×Obj)} {U:St} {H:Hp} {s:am} {T:String} {x:V} {v:ai} (I:Inv X pins U H s) (r:RelV x v) (ty:tyV X.K T x H) :
  s.TypeIs v T /\ ∀ a,v=.ref a -> ∃ ob,s.heap.get? a=some ob/\ob.dict=none:=by
 cases x with
 |str z=>
  obtain⟨t,rfl⟩:=r
  cases (show T = "str" from ty)
  exact⟨typeIs_str s z t,λ_ e=>nomatch e⟩
 |int i=>
  obtain⟨t,rfl⟩:=r
  cases (show T = "int" from ty)
  exact⟨typeIs_int s i t,λ_ e=>nomatch e⟩
 |ref p=>
  cases r
  rcases ty with ⟨rfl,xs,hq⟩|⟨rfl,o,hk,hc,hd⟩|⟨rfl,hk⟩|⟨rfl,S,n,hk⟩
  .obtain⟨its,_,pl,_⟩:=I.list hq
   refine⟨pl.isList.typeIs,λa e=>?_⟩
   cases e
   obtain⟨o,n,e,c,hd,_⟩:=pl
   exact⟨o,e,hd⟩
  .refine⟨⟨o,I.kIn p o hk,hc⟩,λa e=>?_⟩
   cases e
   exact⟨o,I.kIn _ o hk,hd⟩
  .have z:∃ o,s.heap.get? p=some o/\o.ExactDict:=by
    rcases hk with ⟨kvs,hk⟩|⟨kvs,hk⟩
    .obtain⟨_,_,_,_,o,_,_,e,ex,_⟩:=I.hok p _ hk
     exact⟨o,e,ex⟩
    .obtain⟨_,_,_,_,o,_,_,e,ex,_⟩:=I.hok p _ hk
     exact⟨o,e,ex⟩
   obtain⟨o,e,ex⟩:=z
   refine⟨⟨o,e,ex.1⟩,λa e2=>?_⟩
   cases e2
   exact⟨o,e,ex.2.1⟩
  .obtain⟨o,_,_,_,e,ex,_⟩:=I.hok p _ hk
   refine⟨⟨o,e,ex.1⟩,λa e2=>?_⟩
   cases e2
   exact⟨o,e,ex.2.1⟩
 |_=>exact cq ty
variable {o e:Expr} {es:List Expr} {to:TE} {t:TA} {name:Str} {apos cpos:Pos} {T id:String} {r:V->List V->Hp->VK->Prop}
end
noncomputable def MtM (X:Cx) (id:String) (r:V->List V->Hp->VK->Prop):Prop:=
 ∀ (pins:List (Addr×Obj)) (s:am) (U:St) (H:Hp) (x:V) (xs:List V) (v:ai) (us:List ai) (Q:VK),Inv X pins U H s->RelV x v->Vals xs us->r x xs H Q ->
  aQ (model X.prog X.w) X.A (call (.builtin id) (v::us)) (EP X pins U Q) X.xe s
theorem Vals.one:∀ {x:V} {us:List ai},Vals [x] us -> ∃ u,us=[u]/\RelV x u
 |_,_,.cons r .nil=>⟨_,rfl,r⟩
theorem Vals.two:∀ {x y:V} {us:List ai},Vals [x,y] us -> ∃ u v,us=[u,v]/\RelV x u/\RelV y v
 |_,_,_,.cons r (.cons q .nil)=>⟨_,_,rfl,r,q⟩
theorem Vals.zero:∀ {us:List ai},Vals [] us->us=[]
 |_,.nil=>rfl
section
variable {X:Cx} {pins:List (Addr×Obj)} {U:St} {H:Hp} {s:am} {l b:Addr} {xs ys zs:List V}
theorem Inv.lset {its its':List ai} {n:Nat} {f:Array ai->Array ai} {t':Nat} (I:Inv X pins U H s) (hH:H l=some (.lst xs))
  (e:s.heap.get? l=some { cls:=.type "list", data:=.seq its.toArray n }) (hf:f its.toArray=its'.toArray) (hv:Vals ys its') (hz:ys.length<=sizeLine) (ht:s.toks<=t':=by first|exact ah _|exact aZ _ _|assumption|omega|(dsimp only;omega)) :
  Inv X pins U (upd H l (.lst ys)) { s with heap:=s.heap.update l (a7 f),toks:=t' }:=by
 have q:=PySem.IsL.update e f
 rw[hf] at q
 refine I.write (x:=l) (e:=l) (by rw[hH];exact trivial) (.inl rfl) (λb' u hb hu=>(dI s.heap (a7 f) (cy hb)).trans hu) ⟨_,q⟩ ?_
 exact⟨hz,its',_,hv,q⟩
theorem Inv.lnew {its:List ai} {t':Nat} (I:Inv X pins U H s) (hv:Vals ys its) (hz:ys.length<=sizeLine) (ht:s.toks<=t':=by first|exact ah _|exact aZ _ _|assumption|omega|(dsimp only;omega)) :
  Inv X pins U (upd H s.heap.objs.size (.lst ys)) { s with heap:=s.heap.push { cls:=.type "list", data:=.seq its.toArray },toks:=t' }:=
 I.laid (λ_ _ q=>aj _ q) (ah _) ⟨hz,its,0,hv,aB _ rfl⟩ ht
theorem Inv.fresh (I:Inv X pins U H s):H s.heap.objs.size=none:=I.hok.fresh (ah _)
theorem Inv.lstM (I:Inv X pins U H s) (hH:H l=some (.lst xs)):xs.length<=sizeLine /\ ∃ (its:List ai) (n:Nat),Vals xs its/\xs.length=its.length/\s.heap.get? l=some { cls:=.type "list", data:=.seq its.toArray n }:=by
 obtain⟨z,its,n,r,e⟩:=I.hok l _ hH
 exact⟨z,its,n,r,r.length,e⟩
theorem af3 {n:Nat} (h:n<=sizeLine):f6 n=false:=by
 unfold f6
 exact decide_eq_false (by omega)
end
section
variable {X:Cx}
noncomputable def B8:V->List V->Hp->VK->Prop:=λx vs H Q=>∃ l xs y,x=.ref l/\vs=[y]/\H l=some (.lst xs)/\xs.length<sizeLine/\Q .non (upd H l (.lst (xs++[y])))
theorem Nh:MtM X "list.append" B8:=by
 intro pins s U H x vs v us Q I rx rv h
 obtain⟨l,xs,y,rfl,rfl,hH,hz,q⟩:=h
 cases rx
 obtain⟨u,rfl,ru⟩:=rv.one
 obtain⟨z,its,n,r,hl,e⟩:=I.lstM hH
 refine kU F.slot_list_append ⟨_,e,rfl⟩ F.entry_list_append (F.args_list_append_2 _ _) (PySem.list_append l its.toArray n u (by rw[ax];omega)) ⟨e,?_⟩
 refine⟨.non,_,I.lset (its':=its++[u]) hH e (by simp) (r.append (.cons ru .nil)) ?_,rfl,q⟩
 rw[aS,b7]
 omega
noncomputable def Jz:V->List V->Hp->VK->Prop:=λx vs H Q=>∃ l b xs zs,x=.ref l/\vs=[.ref b]/\H l=some (.lst xs)/\H b=some (.lst zs)/\xs.length+zs.length<=sizeLine/\Q .non (upd H l (.lst (xs++zs)))
theorem X3:MtM X "list.extend" Jz:=by
 intro pins s U H x vs v us Q I rx rv h
 obtain⟨l,b,xs,zs,rfl,rfl,hH,hB,hz,q⟩:=h
 cases rx
 obtain⟨u,rfl,ru⟩:=rv.one
 cases ru
 obtain⟨z,its,n,r,hl,e⟩:=I.lstM hH
 obtain⟨z2,its2,n2,r2,hl2,e2⟩:=I.lstM hB
 have hsz:its.toArray.size+its2.toArray.size<=sizeLine:=by rw[ax,ax];omega
 have hlong:¬ (!its.toArray.isEmpty&&f6 (its.toArray.size+its2.toArray.size))=true:=by
  rw[af3 hsz,gQ]
  exact av
 refine kU F.slot_list_extend ⟨_,e,rfl⟩ F.entry_list_extend (F.args_list_extend_2 _ _)
  (AutoSeq1.list_extend_list_list_0 l its.toArray n b its2.toArray n2 hlong (by rw[ax];omega) (by omega)) ⟨e,e2,?_⟩
 refine⟨.non,_,I.lset (its':=its++its2) hH e (by simp) (r.append r2) ?_,rfl,q⟩
 rw[aS]
 omega
noncomputable def Uc:V->List V->Hp->VK->Prop:=λx vs H Q=>∃ l xs,x=.ref l/\vs=[]/\H l=some (.lst xs)/\Q .non (upd H l (.lst []))
theorem ae5:MtM X "list.clear" Uc:=by
 intro pins s U H x vs v us Q I rx rv h
 obtain⟨l,xs,rfl,rfl,hH,q⟩:=h
 cases rx
 have hus:=rv.zero
 subst hus
 obtain⟨z,its,n,r,hl,e⟩:=I.lstM hH
 refine kU F.slot_list_clear ⟨_,e,rfl⟩ F.entry_list_clear (F.args_list_clear_1 _) (AutoSeq1.list_clear_list_0 l its.toArray n (by rw[ax];omega)) ⟨e,?_⟩
 exact⟨.non,_,I.lset (its':=[]) (ys:=[]) hH e rfl .nil (bb _),rfl,q⟩
noncomputable def bq9:R2:=λx y H Q=>∃ l b xs zs,x=.ref l/\y=.ref b/\H l=some (.lst xs)/\H b=some (.lst zs)/\xs.length+zs.length<=sizeLine /\ ∀ p,H p=none->Q (.ref p) (upd H p (.lst (xs++zs)))
theorem op_cat:OpR X (dR .Add) bq9:=by
 intro pins s U H x y v u Q I rx ry h
 obtain⟨l,b,xs,zs,rfl,rfl,hH,hB,hz,q⟩:=h
 cases rx
 cases ry
 obtain⟨z,its,n,r,hl,e⟩:=I.lstM hH
 obtain⟨z2,its2,n2,r2,hl2,e2⟩:=I.lstM hB
 refine PySem.P.add_list e e2 ?_ (by rw[ax,ax];omega)
 have ea:its.toArray++its2.toArray=(its++its2).toArray:=by simp
 rw[ea]
 exact⟨.ref _,_,I.lnew (t':=s.toks) (r.append r2) (by rw[aS];omega),rfl,q _ I.fresh⟩
end
end L2
namespace Att
open PySem PySem.W PySem.Calls PyProof.Rows
theorem Ix {P:Params} {h:Heap}:∀ (ns:List Int) (vs:List ai),WellAll P h vs (ns.map WData.int)->ke vs ns:=by
 intro ns
 induction ns with
 |nil=>
  intro vs w
  rw[fv] at w
  cases w
  exact .nil
 |cons n ns ih=>
  intro vs w
  rw[aP] at w
  cases w with
  |cons a b=>
   cases a
   exact .cons _ _ (ih _ b)
theorem Yn {l:OpenLaw} {n:Nat} (hn:l.most=some n) {P:Params} {h:Heap} {args:List WData} {vals:List ai}
  (hpre:l.row.toRowW.claim.pre args=true) (hwl:WellAll P h vals args) :
  ∃ a vs ns,vals=[bv a]/\args=[WData.list (ns.map WData.int)]/\h.get? a=some { cls:=.type "list", data:=.seq vs.toArray }/\ke vs ns/\ns.length<=n:=by
 have hsh:WShape.hasAll [] args [.list .int]=true:=(pre_splitW hpre).1
 have hc:l.pre.holds [] { args:=args }=true:=(pre_splitW hpre).2
 obtain⟨d,r,rfl,h1,h2⟩:=hasAllW_cons hsh
 obtain rfl:=hasAllW_nil h2
 obtain⟨xs,rfl,h3⟩:=hasW_list h1
 obtain⟨ns,rfl⟩:=items_int h3
 have hlen:ns.length<=n:=by
  unfold OpenLaw.pre at hc
  have h4:(WTm.not (.lt (.lit (.int (n:Int))) (.len (.arg 0)))).holds [] { args:=[.list (ns.map .int)] }=true:=by
   have h4:=(holds_andW hc).1
   rw[hn] at h4
   exact h4
  have h5:=condW_of h4 (w_not (w_lt w_lit (w_len_list (w_arg rfl))))
  rw[ae] at h5
  refine Nat.le_of_not_lt λq=>?_
  have q':(n:Int)<((ns.length:Nat):Int):=by omega
  first
   |(rw[decide_eq_true q'] at h5;exact absurd h5 (by decide))
   |(simp at h5;omega)
 cases hwl with
 |cons w1 w2=>
  cases w2
  cases w1 with
  |list ho hall=>exact⟨_,_,ns,rfl,rfl,ho,Ix ns _ hall,hlen⟩
theorem Yf (l:OpenLaw) (args:List WData):l.row.toRowW.claim.post args (.bool true) args=true:=
 postW_of (r:=l.row.toRowW) (X:=(true==true))
  (show WShape.has [] (.bool true) .bool=true by first|rfl|decide|simp[WShape.has,WShape.arms,WShape.armsAll])
  (show (WTm.eq .res (.lit (.bool true))).value [] { args:=args,res:=some (.bool true),after:=args }=some (.bool (true==true)) from w_eq_bool (w_res rfl) w_lit) rfl
theorem attach_call {l:OpenLaw} {n:Nat} {q:aX} {loose:List Str} {XP:(Str->Option ai)->Heap->Prop} {YP:bB->Heap->Prop} {d:DefRec}
  (hn:l.most=some n) (hdf:d.params.defaults=[])
  (call:∀ (w:bB) (s₀ s₁:am) (mg mb:Str->Option ai) (fa:Addr) (o:Obj) (pm cd doc:ai) (a:Addr) (vs:List ai) (ns:List Int),
   Ground q loose [] XP w s₀ mg mb s₁.heap->YP w s₁.heap ->
   s₁.heap.get? fa=some o->o.data=.func (docDef d.name d.params d.body d.scope pm cd doc)->s₁.heap.CodeRec cd d.name->mg d.name=some (.ref fa) ->
   s₁.heap.get? a=some { cls:=.type "list", data:=.seq vs.toArray }->ke vs ns->ns.length<=n->s₁.gens = #[] ->
   iB (model l.prog w) lH (.call (.ref fa) ⟨[.ref a],[]⟩) (λr s'=>r=.ok (.ret (.bool true))/\OldK s₁.heap s'.heap/\s'.os=s₁.os/\j7 s'.gens) s₁) :
  WalkO q loose XP YP l.row.toRowW d [] (λf vs=>PySem.call f vs):=by
 intro w s₀ s₁ mg mb G Y fa o pm cd doc dV kV ho hd hcd hD hmg hg args vals as hpre hlay hrd hwl hlo
 obtain rfl:dV=.none:=Dflts.none hD hdf
 obtain rfl:kV=.none:=Dflts.noKw hD
 obtain⟨a,vs,ns,rfl,rfl,hobj,hints,hlen⟩:=Yn hn hpre hwl
 refine enter_call (f8 (call w s₀ s₁ mg mb fa o pm cd doc a vs ns G Y ho (fd_plain hd) hcd hmg hobj hints hlen hg) λr s' hq=>?_)
 obtain⟨rfl,h2,h3,h4⟩:=hq
 exact⟨.inl ⟨.bool true,.bool true,[],rfl,λ_=>rfl,.bool true,Yf l _,λ_=>⟨iJ,λ_ hm=>(nomatch hm)⟩⟩,h2,h3,h4⟩
end Att
namespace L2
open PySem PySem.Spec PyProof.Rows
theorem Nr:∀ {vs:List ai} {ns:List Int},ke vs ns->Vals (ns.map V.int) vs
 |_,_,.nil=>.nil
 |_,_,.cons n t h=>.cons ⟨t,rfl⟩ (Nr h)
noncomputable def Av (s:Stmt) (j:Nat):Stmt:=match s with
 |.ClassDef _ _ _ body _ _ _ _ _ _ _=>body.getD j (.Pass ⟨0,0,0,0⟩)
 |_=>.Pass ⟨0,0,0,0⟩
noncomputable def B4 (s:Stmt):Arguments:=match s with
 |.FunctionDef _ a _ _ _ _ _ _ _ _=>a
 |_=>{ posonlyargs:=[],args:=[],vararg:=none,kwonlyargs:=[],kw_defaults:=[],kwarg:=none,defaults:=[] }
noncomputable def Bl (s:Stmt):List Stmt:=match s with
 |.FunctionDef _ _ b _ _ _ _ _ _ _=>b
 |_=>[]
noncomputable def Aq (s:Stmt):Scope:=match s with
 |.FunctionDef _ _ _ _ _ _ sc _ _ _=>sc
 |_=>{ kind:=.function,names:=[],isGenerator:=false,isCoroutine:=false }
noncomputable abbrev CX0:CXT:=λ_ _ _ _ _ _=>False
structure Fun (K:ac) (x qual:Str) (st:Stmt) (f:Addr) (fd:a8):Prop where
 ex:∃ (oc:ai) (od:Option Addr) (kV doc pm:ai) (an:Option Addr) (cdv ct:ai) (osl:Array (Option ai)),
  fd=cu x qual (B4 st) (Bl st) (Aq st) .none kV doc pm an cdv ct/\K.lookup f=some ⟨oc,od,.func fd,osl⟩/\dD K cdv qual=true
 kp:bA K (.ref f)=true
section
variable {P:aX} {w:bB} {K:ac} {mg:Str->Option ai} {base:Heap}
theorem Fun.binds {x qual:Str} {st:Stmt} {f:Addr} {fd:a8} {ps:List Str} (F:Fun K x qual st f fd)
  (h:∀ (kV doc pm:ai) (an:Option Addr) (cdv ct:ai) (us:List ai),us.length=ps.length->g_ (cu x qual (B4 st) (Bl st) (Aq st) .none kV doc pm an cdv ct) ⟨us,[]⟩=pure (ps.zip us)):Binds K fd ps []:=by
 obtain⟨oc,od,kV,doc,pm,an,cdv,ct,osl,rfl,lk,hcd⟩:=F.ex
 exact .all (h kV doc pm an cdv ct)
theorem Og {x qual:Str} {st:Stmt} {f:Addr} {oc:ai} {od an:Option Addr} {osl:Array (Option ai)} {kV doc pm cdv ct:ai} (l:K.lookup f=some ⟨oc,od,.func (cu x qual (B4 st) (Bl st) (Aq st) .none kV doc pm an cdv ct),osl⟩)
  (c:dD K cdv qual=true) (k:bA K (.ref f)=true):Fun K x qual st f (cu x qual (B4 st) (Bl st) (Aq st) .none kV doc pm an cdv ct):=⟨⟨oc,od,kV,doc,pm,an,cdv,ct,osl,rfl,l,c⟩,k⟩
end
theorem ac7 {A B:Prop} (h:B):if false=true then A else B:=by
 rw[if_neg av]
 exact h
theorem Ol {A B:Prop} (h:A):if true=true then A else B:=by
 rw[if_pos rfl]
 exact h
theorem Eu {c A B:Prop} [Decidable c] (h1:c->A) (h2:¬ c->B):if c then A else B:=by
 by_cases h:c
 .rw[if_pos h]
  exact h1 h
 .rw[if_neg h]
  exact h2 h
noncomputable def Same (H H':Hp):Prop:=∀ b o,H b=some o->H' b=some o
theorem Same.refl (H:Hp):Same H H:=λ_ _ h=>h
theorem Same.trans {H H1 H2:Hp} (a:Same H H1) (b:Same H1 H2):Same H H2:=λc o h=>b c o (a c o h)
theorem Same.free {H H':Hp} (e:Same H H') {l:Addr} (h:H' l=Option.none):H l=Option.none:=by
 cases q:H l with
 |none=>rfl
 |some o=>
  rw[e l o q] at h
  cases h
noncomputable def Cx.comp (X:Cx) (N':List Str) (scope:Scope) (cl:List (Str×Addr)) (fp:List Addr) (C:Addr) (s:am) (H:Hp) (xe:ai->am->Prop):Cx:=
 {prog:=X.prog,w:=X.w,K:=X.K,mg:=X.mg,base:=X.base,A:=X.A,N:=N',s₀:=s,H₀:=H,env:=compEnvC scope cl C X.env,outer:=X.stack,stack:=X.stack,
  ex:=fp,fn:=λx=>(cl.lookup x).isNone,calm:=X.calm,pn:=[],xe:=xe }
noncomputable def Ss (srcs:List (Option Nat)) (U:St):St:=srcs.map λo=>o.bind λj=>(U[j]?).join
structure J2 (X:Cx) (N':List Str) (srcs:List (Option Nat)) (scope:Scope) (cl:List (Str×Addr)):Prop where
 clos:jP scope X.env=pure cl
 nocell:∀ y∈scope.names,y.2≠.cell
 kind:scope.kind=.function
 names:∀ y∈scope.names,y.2=.local->scope.names.lookup y.1=some .local
 sub:∀ x c,cl.lookup x=some c->X.env.cells.lookup x=some c
 has:∀ x,((iC scope X.env).names.lookup x=some .cell\/(iC scope X.env).names.lookup x=some .free) -> ∃ c,cl.lookup x=some c
 len:srcs.length=N'.length
 src:∀ (k j:Nat) (x:Str),N'[k]? = some x->srcs[k]? = some (some j)->X.N[j]? = some x/\(X.env.scope.names.lookup x=some .cell\/X.env.scope.names.lookup x=some .free) /\
  ((iC scope X.env).names.lookup x=some .cell\/(iC scope X.env).names.lookup x=some .free)
noncomputable def Xd (X:Cx) (ifs:List Expr) (t:TT):Prop:=
 ∀ (pins:List (Addr×Obj)) (s:am) (U:St) (H:Hp) (Q:Bool->Hp->Prop),Inv X pins U H s->t U H Q ->
  aQ (model X.prog X.w) X.A (forIn ifs true λc r=>if r=true then do let ok <- isTrue c X.env (eval c X.env);pure (fh ok) else pure (fh r)) (TP X pins U Q) X.xe s
noncomputable def bz8:TT:=λ_ H Q=>Q true H
theorem ag8 {X:Cx}:Xd X [] bz8:=λ_ _ _ H _ I h=>wpAny_tests_nil ⟨H,I,h⟩
theorem ag9 {X:Cx} {c:Expr} {t:TT} (h:PT X c t):Xd X [c] t:=λpins s U H Q I q=>wpAny_tests_one (h pins s U H Q I q)
noncomputable def an0 (srcs:List (Option Nat)) (wi:TI) (g:TG) (tc:TT) (te:TE):TE:=λU H Q=>wi U H λJ H1=>∀ D,H1 D=none ->
 ∃ W:Nat->Nat->St->Hp->Prop,(∃ m,W 0 m (Ss srcs U) (upd H1 D (.lst []))) /\ ∀ i m U' H',W i m U' H' ->
  (J.stop i H'/\Q (.ref D) H')\/(J.go i H' /\ ∃ N:St->Hp->Prop,(∀ U2 H2,N U2 H2 -> ∃ m',m'<m/\W (i+1) m' U2 H2) /\ ∀ x H2,J.yld i H' x H2->g x U' H2 λU3 H3=>tc U3 H3 λb H4=>if b=true then
    te U3 H4 λv H5=>∃ ys,H5 D=some (.lst ys)/\ys.length<sizeLine/\N U3 (upd H5 D (.lst (ys++[v])))
   else N U3 H4)
section
variable {prog:aX} {w:bB} {A:bj} {E:ai->am->Prop} {R:Result->am->Prop} {s:am}
theorem N9 {elt target iter:Expr} {ifs:List Expr} {scope:Scope} {pos:Pos} {it acc:ai} {env:Env} (I:Nat->am->Prop)
  (turn:∀ n s,I n s->aQ (model prog w) A (f9 it) (λr s₁=>match r with
   |none=>R (.ok .next) s₁
   |some v=>aQ (model prog w) A (ic target it v) (λ_ s₀=>aQ (model prog w) A (lx target env v) (λ_ s₂=>
     aQ (model prog w) A (forIn ifs true λc r=>if r=true then do let ok <- isTrue c env (eval c env);pure (fh ok) else pure (fh r)) (λok s₃=>
      if ok=true then aQ (model prog w) A (eval elt env) (λx s₄=>
       aQ (model prog w) A (call (.builtin "list.append") [acc,x]) (λ_ s₅=>∃ m,m<n/\I m s₅) (kW (model prog w) A env λe s'=>R (.error e) s') s₄) (kW (model prog w) A env λe s'=>R (.error e) s') s₃
      else ∃ m,m<n/\I m s₃) (kW (model prog w) A env λe s'=>R (.error e) s') s₂) (kW (model prog w) A env λe s'=>R (.error e) s') s₀) (kW (model prog w) A env λe s'=>R (.error e) s') s₁) (kW (model prog w) A env λe s'=>R (.error e) s') s)
  (n:Nat) (h:I n s) :
  iB (model prog w) A (.compLoop (.ListComp elt [⟨target,iter,ifs,0⟩] scope pos) 0 it acc env) R s:=by
 refine codeAny_loop rfl I (λn s hI=>?_) n h
 show aQ _ A ((compTurn (.ListComp elt [⟨target,iter,ifs,0⟩] scope pos) 0 it acc env).onRaise (λx=>do noteFrame x env;theTreesLotGoes x)) _ _ s
 refine wpAny_noted ?_
 rw[compTurn_list]
 refine af (gp (af (bZ (turn n s hI) (λr s₁ h₁=>?_) λ_ _ h'=>h')))
 cases r with
 |none=>exact ao h₁
 |some v=>
  refine af (bZ h₁ (λ_ s₀ h₀=>?_) λ_ _ h'=>h')
  refine af (bZ h₀ (λ_ s₂ h₂=>af (bZ h₂ (λok s₃ h₃=>?_) λ_ _ h'=>h')) λ_ _ h'=>h')
  cases ok with
  |false=>exact ao ⟨rfl,h₃⟩
  |true=>
   exact af (af (bZ h₃ (λx s₄ h₄=>af (bZ h₄ (λ_ s₅ h₅=>ao (ao ⟨rfl,h₅⟩)) λ_ _ h'=>h')) λ_ _ h'=>h'))
end
section
variable {X:Cx} {elt tg iter:Expr} {ifs:List Expr} {scope:Scope} {pos:Pos} {N':List Str} {srcs:List (Option Nat)} {cl:List (Str×Addr)} {wi:TI} {g:TG} {tc:TT} {te:TE}
theorem Su {xe:ai->am->Prop} {pins:List (Addr×Obj)} {U:St} {H:Hp} {s:am} {fp:List Addr} {C D:Addr} {h₁:Heap} {tk:Nat} (S:J2 X N' srcs scope cl) (I:Inv X pins U H s) (f:∀ b∈fp,Dn X pins H b) (fo:∀ b∈fp,b<s.heap.objs.size)
  (hD:s.heap.objs.size<=D) (hC:s.heap.objs.size<=C) (hDC:C≠D) (hns:∃ m,h₁.Ns C m) (old:∀ b o,s.heap.get? b=some o->h₁.get? b=some o) (hacc:∃ n,h₁.get? D=some { cls:=.type "list", data:=.seq ([]:List ai).toArray n }) (ht:s.toks<=tk:=by first|exact ah _|exact aZ _ _|assumption|omega|(dsimp only;omega)) :
  Inv (X.comp N' scope cl fp C s H xe) [] (Ss srcs U) (upd H D (.lst [])) { s with heap:=h₁,toks:=tk }:=by
 have hfD:=I.hok.fresh hD
 have ok:(X.comp N' scope cl fp C s H xe).Ok:=by
  refine⟨I.ok.mod,S.kind,I.ok.glob,I.ok.blt,hC,λx y c a b=>I.ok.inj x y c (S.sub x c a) (S.sub y c b),S.has,λx c hf hl=>?_,I.ok.hd,I.ok.frames,.inl rfl,λb hb=>⟨?_,λx c hl=>?_⟩,I.bs,aY I.ok.bsz I.sz,λb o e hb=>?_,λb hb hfs=>?_,I.stack,I.stkFree,aR⟩
  .have hl':cl.lookup x=some c:=hl
   have hf':(cl.lookup x).isNone=true:=hf
   rw[hl'] at hf'
   cases hf'
  .exact aJ (aL (fo b hb) hC)
  .exact (f b hb).2.2.2.2.1 x c (S.sub x c hl)
  .rcases (f b hb).2.2.2.1 with z|z
   .exact I.ok.noex b o e z
   .exact absurd (aL (aD e) (aY I.ok.bsz z)) (fI _)
  .rcases List.mem_cons.mp (I.stkSub b hfs) with z|z
   .exact (f b hb).2.1 z
   .exact (f b hb).2.2.1 z
 obtain⟨m0,hns⟩:=hns
 obtain⟨nn,hacc⟩:=hacc
 refine⟨ok,⟨rfl,ht⟩,I.bare,Un.laid old hD hfD,⟨m0,hns,λk x v e1 e2 e3=>?_⟩,λx c hl=>?_,?_,λx c hl=>?_,λp hp=>absurd (show p∈([]:List (Addr×Obj)) from hp) (by simp),I.hok.laid old hD ⟨bb _,[],nn,.nil,hacc⟩,?_⟩
 ·-- the captured names
  have e1:N'[k]? = some x:=e1
  have e2:(srcs.map λo=>o.bind λj=>(U[j]?).join)[k]? = some (some v):=e2
  rw[ak] at e2
  cases hk:srcs[k]? with
  |none=>rw[hk] at e2;cases e2
  |some o=>
   rw[hk] at e2
   cases o with
   |none=>cases e2
   |some j=>
    have e2':(U[j]?).join=some v:=aH e2
    have e3':U[j]? = some (some v):=by
     cases hj:U[j]? with
     |none=>rw[hj] at e2';cases e2'
     |some y=>rw[hj] at e2';exact congrArg some e2'
    obtain⟨a1,a2,a3⟩:=S.src k j x e1 hk
    obtain⟨m,hn,hl⟩:=I.loc
    obtain⟨u,r,l⟩:=hl j x v a1 e3' (a2.elim (λz=>.inr (.inl z)) λz=>.inr (.inr z))
    refine⟨u,r,.inr ⟨a3,?_⟩⟩
    obtain⟨c,hc⟩:=S.has x a3
    refine⟨c,hc,?_⟩
    rcases l with ⟨z,_⟩|⟨_,c',hc',o,ho,hd⟩
    .have z':X.env.scope.names.lookup x=some .local:=z
     rcases a2 with q|q <;> rw[q] at z' <;> cases z'
    .have e:=S.sub x c hc
     rw[hc'] at e
     cases e
     exact⟨o,old _ o ho,hd⟩
 .obtain⟨v,o,ho,hd⟩:=I.cell x c (S.sub x c hl)
  exact⟨v,o,old _ o ho,hd⟩
 .show upd H D (.lst []) C=none
  rw[Ad hDC]
  exact I.hok.fresh hC
 .have hx:=S.sub x c hl
  obtain⟨v,o,ho,hd⟩:=I.cell x c hx
  rw[Ad (aJ (aL (aD ho) hD))]
  exact I.freeC x c hx
 .show (Ss srcs U).length=N'.length
  unfold Ss
  rw[ae,S.len]
noncomputable def Bs (X:Cx) (scope:Scope) (cl:List (Str×Addr)) (use:Option (ai->Sem Unit)) (Q2:ai->am->Prop) (D C:Addr):ai->am->Prop:=
 kW (model X.prog X.w) X.A (compEnvC scope cl C X.env) λe s'=>compPost (model X.prog X.w) X.A X.xe use Q2 (.ref D) C (.error e) s'
theorem M1 {pins:List (Addr×Obj)} {s:am} {U:St} {H:Hp} {Q:VK} {use:Option (ai->Sem Unit)} {Q2:ai->am->Prop} (hc:X.calm=true) (S:J2 X N' srcs scope cl) (hi:PI X tg iter wi)
  (hb:∀ fp C D s2 H2,Inv X pins U H2 s2->(∀ b∈fp,Dn X pins H2 b)->s2.heap.objs.size<=C->PG (X.comp N' scope cl fp C s2 H2 (Bs X scope cl use Q2 D C)) tg g/\Xd (X.comp N' scope cl fp C s2 H2 (Bs X scope cl use Q2 D C)) ifs tc/\PE (X.comp N' scope cl fp C s2 H2 (Bs X scope cl use Q2 D C)) elt te)
  (I:Inv X pins U H s) (h:an0 srcs wi g tc te U H Q)
  (fin:∀ (D C:Addr) (H':Hp) (s':am),Inv X pins U H' s'->(∃ m,s'.heap.Ns C m)->Dn X pins H' C->Q (.ref D) H'->compPost (model X.prog X.w) X.A X.xe use Q2 (.ref D) C (.ok .next) s')
  (hs:∀ x,fK iter X.env x=pure x) :
  aQ (model X.prog X.w) X.A (comprehension (.ListComp elt [⟨tg,iter,ifs,0⟩] scope pos) scope X.env (firstIterPos [⟨tg,iter,ifs,0⟩] pos) (newList []) false (eval iter X.env) use) Q2 X.xe s:=by
 refine wpAny_comprehension_free rfl hs S.clos S.kind S.names (thn (hi pins s U H _ I h) λv s1 h1=>thn h1 λitv s2 h2=>?_)
 obtain⟨it,fp,tn,J,H2,e,I2,T,st2,f2,q2⟩:=h2
 subst e
 refine c9 (wpAny_newFunctionEnv S.nocell (by intro y hy;simp at hy) (λh₁ hns₁ hsb₁=>?_) S.kind)
 dsimp only at hns₁ hsb₁ ⊢
 generalize hH2:s2.heap.push { cls:=.type "list", dict:=none,data:=.seq ([]:List ai).toArray }=G2 at hns₁ hsb₁ ⊢
 have hCe:G2.objs.size=s2.heap.objs.size+1:=by rw[<- hH2,dB]
 have hDC:G2.objs.size≠s2.heap.objs.size:=by rw[hCe];exact eC (cw _)
 have hCle:s2.heap.objs.size<=G2.objs.size:=by rw[hCe];exact dW _
 have old:∀ b o,s2.heap.get? b=some o->h₁.get? b=some o:=λb o e=>
  hsb₁.extBut b o (aJ (aL (aD e) hCle)) (aj _ (hH2▸aj _ e))
 have hacc:∃ n,h₁.get? s2.heap.objs.size=some { cls:=.type "list", data:=.seq ([]:List ai).toArray n }:=⟨_,hsb₁.extBut _ _ (cy hDC) (aj _ (hH2▸aB _ rfl))⟩
 have fo:∀ b∈fp,b<s2.heap.objs.size:=λb hb=>by
  obtain⟨o,ho,_⟩:=T.obj _ _ st2 b hb
  exact aD ho
 have st3:tn 0 h₁:=T.keep _ _ _ st2 λb _ o e=>old b o e
 obtain⟨hg,ht,he⟩:=hb fp G2.objs.size s2.heap.objs.size s2 H2 I2 f2 hCle
 obtain⟨W,⟨m0,w0⟩,turn⟩:=q2 s2.heap.objs.size (I2.hok.fresh (ah _))
 have loop:∀ s3:am,s3={ s2 with heap:=h₁,toks:=s2.toks+([]:List (Str×ai)).length } ->
   iB (model X.prog X.w) X.A (.compLoop (.ListComp elt [⟨tg,iter,ifs,0⟩] scope pos) 0 (.ref it) (.ref s2.heap.objs.size) (compEnvC scope cl G2.objs.size X.env))
    (compPost (model X.prog X.w) X.A X.xe use Q2 (.ref s2.heap.objs.size) G2.objs.size) s3:=by
  rintro s3 rfl
  have I3:Inv (X.comp N' scope cl fp G2.objs.size s2 H2 (Bs X scope cl use Q2 s2.heap.objs.size G2.objs.size)) [] (Ss srcs U) (upd H2 s2.heap.objs.size (.lst [])) { s2 with heap:=h₁,toks:=s2.toks+([]:List (Str×ai)).length }:=
   Su S I2 f2 fo (ah _) hCle hDC ⟨_,hns₁⟩ old hacc
  have stat:∀ {H':Hp},(∀ b∈fp,H' b=none) -> ∀ b∈fp,Dn (X.comp N' scope cl fp G2.objs.size s2 H2 (Bs X scope cl use Q2 s2.heap.objs.size G2.objs.size)) [] H' b:=λhn b hb=>
   ⟨hn b hb,aJ (aL (fo b hb) hCle),(λz=>(List.mem_cons.mp (I2.stkSub b z)).elim (f2 b hb).2.1 (f2 b hb).2.2.1),.inl hb,λx c hl=>(f2 b hb).2.2.2.2.1 x c (S.sub x c hl),λp hp=>absurd (show p∈([]:List (Addr×Obj)) from hp) (by simp)⟩
  refine N9 (λn s'=>∃ i U' H',Inv (X.comp N' scope cl fp G2.objs.size s2 H2 (Bs X scope cl use Q2 s2.heap.objs.size G2.objs.size)) [] U' H' s'/\tn i s'.heap/\(∀ b∈fp,H' b=none)/\W i n U' H') ?_ m0
   ⟨0,_,_,I3,st3,λb hb=>by rw[Ad (aJ (fo b hb))];exact (f2 b hb).1,w0⟩
  rintro n s4 ⟨i,U4,H4,I4,st4,fr4,w4⟩
  rcases turn i n U4 H4 w4 with ⟨stop,qn⟩|⟨go,NN,hNN,step⟩
  .refine thn (T.done (X.comp N' scope cl fp G2.objs.size s2 H2 (Bs X scope cl use Q2 s2.heap.objs.size G2.objs.size)) rfl rfl rfl hc i [] s4 U4 H4 _ I4 (stat fr4) st4 stop) λr s5 ⟨hr,I5⟩=>?_
   subst hr
   obtain⟨m5,hn5,_⟩:=id I5.loc
   have I6:Inv X pins U H4 s5:=I2.call' (ch:=fp) I5.os I5.base I5.hok I5.bare λb hb=>⟨(f2 b hb).2.2.2.1,(f2 b hb).2.1,(f2 b hb).2.2.2.2.1,(f2 b hb).2.2.2.2.2⟩
   exact fin _ _ H4 s5 I6 ⟨m5,hn5⟩ (I2.fpOk hCle I5.free) qn
  .refine thn (T.item (X.comp N' scope cl fp G2.objs.size s2 H2 (Bs X scope cl use Q2 s2.heap.objs.size G2.objs.size)) rfl rfl rfl hc i [] s4 U4 H4 _ I4 (stat fr4) st4 go) λr s5 ⟨u,hr,h5⟩=>?_
   subst hr
   refine thn h5 λ_ s6 ⟨x,H6,I6,r6,y6,st6,fr6⟩=>?_
   have I6':=I6.pinned (stat fr6) (T.obj _ _ st6)
   refine thn (hg _ s6 U4 H6 x u _ I6' r6 (step x H6 y6)) λ_ s7 ⟨U7,H7,I7,q7⟩=>?_
   have again:∀ {s9:am} {H9:Hp},Inv (X.comp N' scope cl fp G2.objs.size s2 H2 (Bs X scope cl use Q2 s2.heap.objs.size G2.objs.size)) ([]++Ia fp s6.heap) U7 H9 s9->NN U7 H9 ->
     ∃ m,m<n /\ ∃ i U' H',Inv (X.comp N' scope cl fp G2.objs.size s2 H2 (Bs X scope cl use Q2 s2.heap.objs.size G2.objs.size)) [] U' H' s9/\tn i s9.heap/\(∀ b∈fp,H' b=none)/\W i m U' H':=λ{s9 H9} I9 n9=>by
    obtain⟨m',hm,w9⟩:=hNN U7 H9 n9
    refine⟨m',hm,i+1,U7,H9,I9.unpinned,T.keep _ _ _ st6 λb hb o e=>(I9.pin (b,o) (aM _ (aM _ (Ew hb e)))).1,λb hb=>?_,w9⟩
    obtain⟨o,e,d⟩:=T.obj _ _ st6 b hb
    exact (I9.pin (b,o) (aM _ (aM _ (Ew hb e)))).2.1
   refine thn (ht _ s7 U7 H7 _ I7 q7) λb s8 ⟨H8,I8,q8⟩=>?_
   cases b with
   |false=>
    rw[if_neg av] at q8
    exact again I8 q8
   |true=>
    rw[if_pos rfl] at q8
    refine thn (he _ s8 U7 H8 _ I8 q8) λy s9 ⟨v9,H9,I9,r9,ys,hD,hlen,w9⟩=>?_
    refine thn (Nh (X:=X.comp N' scope cl fp G2.objs.size s2 H2 (Bs X scope cl use Q2 s2.heap.objs.size G2.objs.size)) ([]++Ia fp s6.heap) s9 U7 H9 (.ref s2.heap.objs.size) [v9] (.ref s2.heap.objs.size) [y] (λ_ H'=>H'=upd H9 s2.heap.objs.size (.lst (ys++[v9]))) I9 rfl (.cons r9 .nil)
     ⟨_,ys,v9,rfl,rfl,hD,hlen,rfl⟩) λ_ s10 ⟨_,H10,I10,_,e10⟩=>?_
    subst e10
    exact again I10 w9
 exact codeAny_compStart_list (loop _ rfl) (T.self X.A 0 _ _ _ st3 (loop _ rfl))
theorem aa8 {pins:List (Addr×Obj)} {s:am} {U:St} {H:Hp} {Q:VK} (hc:X.calm=true) (S:J2 X N' srcs scope cl) (hi:PI X tg iter wi)
  (hb:∀ Q2 fp C D s2 H2,Inv X pins U H2 s2->(∀ b∈fp,Dn X pins H2 b)->s2.heap.objs.size<=C->PG (X.comp N' scope cl fp C s2 H2 (Bs X scope cl none Q2 D C)) tg g/\Xd (X.comp N' scope cl fp C s2 H2 (Bs X scope cl none Q2 D C)) ifs tc/\PE (X.comp N' scope cl fp C s2 H2 (Bs X scope cl none Q2 D C)) elt te)
  (I:Inv X pins U H s) (h:an0 srcs wi g tc te U H Q) (hs:∀ x,fK iter X.env x=pure x) :
  aQ (model X.prog X.w) X.A (eval (.ListComp elt [⟨tg,iter,ifs,0⟩] scope pos) X.env) (EP X pins U Q) X.xe s:=by
 rw[eval_ListComp]
 refine M1 (use:=none) hc S hi (λfp C D s2 H2=>hb _ fp C D s2 H2) I h (λD C H' s' I' ns fo q=>?_) hs
 obtain⟨m,hn⟩:=ns
 obtain⟨f0,f1,f2,f3,f4,f5⟩:=fo
 exact⟨m,hn,λh' sb=>⟨.ref D,H',I'.turned (t':=s'.toks) (λb o hb e=>(sb.2 b hb).trans e) f0 f1 f3 f4 f5,rfl,q⟩⟩
theorem aa7 {i:Nat} {x:Str} {pos' spos:Pos} {pins:List (Addr×Obj)} {s:am} {U:St} {H:Hp} {D:Qg} (hc:X.calm=true) (hN:X.N.Nodup) (hx:X.N[i]? = some x) (hl:X.env.scope.names.lookup x=some .local) (S:J2 X N' srcs scope cl) (hi:PI X tg iter wi)
  (hb:∀ us Q2 fp C D s2 H2,Inv X pins U H2 s2->(∀ b∈fp,Dn X pins H2 b)->s2.heap.objs.size<=C->PG (X.comp N' scope cl fp C s2 H2 (Bs X scope cl us Q2 D C)) tg g/\Xd (X.comp N' scope cl fp C s2 H2 (Bs X scope cl us Q2 D C)) ifs tc/\PE (X.comp N' scope cl fp C s2 H2 (Bs X scope cl us Q2 D C)) elt te)
  (I:Inv X pins U H s) (h:bi0 (an0 srcs wi g tc te) (ab9 i) D U H)
  (hsw:iX (.ListComp elt [⟨tg,iter,ifs,0⟩] scope pos) (some (.Name x pos')) spos.line X.env=pure true) (hs:∀ x,fK iter X.env x=pure x) :
  aQ (model X.prog X.w) X.A (exec (.Assign [.Name x pos'] (.ListComp elt [⟨tg,iter,ifs,0⟩] scope pos) spos) X.env) (SP X pins D) X.xe s:=by
 rw[exec_Assign_Name_used _ _ _ _ hsw]
 refine af (gp (af ?_))
 show aQ _ X.A (do let _ <- comprehension (.ListComp elt [⟨tg,iter,ifs,0⟩] scope pos) scope X.env _ (newList []) false (eval iter X.env) (some (lx (.Name x pos') X.env))) _ _ s
 refine af (thn (M1 (use:=some (lx (.Name x pos') X.env)) (Q:=λv H'=>D.nx (U.set i (some v)) H') (Q2:=λ_ s'=>SP X pins D .next s') hc S hi (λfp C D s2 H2=>hb _ _ fp C D s2 H2) I h (λL C H' s' I' ns fo q=>?_) hs) λ_ s' hq=>ao (ao hq))
 obtain⟨m,hn⟩:=ns
 obtain⟨f0,f1,f2,f3,f4,f5⟩:=fo
 obtain⟨oC,es,ep,hoC,hd,hr⟩:=id hn
 have I2:Inv X (pins++[(C,oC)]) U H' s':=I'.pins_of λp hp=>(List.mem_append.mp hp).elim (λz=>I'.pin p (aM _ z)) λz=>by
  have z':p=(C,oC):=by simpa using z
  subst z'
  exact⟨hoC,f0,f1,f2,λv e=>by rw[hd] at e;cases e⟩
 refine wpAny_assign_Name (K5 (i:=i) (v:=.ref L) I2 hN hx (.inl hl) rfl (λs2 I3=>?_) (.inr hl))
 have hoC':=(I3.pin (C,oC) (aM _ (aM _ (by simp)))).1
 refine⟨m,⟨oC,es,ep,hoC',hd,hr⟩,λh' sb=>?_⟩
 exact⟨_,H',(I3.unpinned).turned (t':=s2.toks) (λb o hb e=>(sb.2 b hb).trans e) f0 f1 f3 f4 f5,q⟩
end
noncomputable def Its (x:Str):It:=⟨λi _=>i<x.cps.size,λi H v H'=>H'=H /\ ∃ c,x.cps[i]? = some c/\v=.str ⟨#[c]⟩,λi _=>i=x.cps.size⟩
theorem an5 {P:aX} {w:bB} {K:ac} {tg:Expr} (it:Addr) (x:Str) (t:Tok) (ty:String) (hty:ty = "str_ascii_iterator" \/ ty = "str_iterator") :
  Lq P w K tg (Its x) [it] it (λi h=>h.IsStrIter it ty x t i) where
 mem:=by simp
 obj:=λi h st b hb=>by
  have e:b=it:=by simpa using hb
  subst e
  obtain⟨o,e,c,d⟩:=st
  exact⟨o,e,λv z=>by rw[d] at z;cases z⟩
 keep:=λi h h' st k=>by
  obtain⟨o,e,r⟩:=st
  exact⟨o,k it (by simp) o e,r⟩
 item:=by
  intro X hP hw hK hc i pins s U H E I hf st hg
  subst hP hw hK
  obtain⟨f0,f1,f2,f3,f4,f5⟩:=hf it (by simp)
  have W:me X.prog X.w X.A it [it] [it] x.cps.size (SignAt x) (λi h=>h.IsStrIter it ty x t i):=by
   rcases hty with rfl|rfl
   .exact Walks.strAscii (I.ok.hd hc) it x t
   .exact Walks.strWide (I.ok.hd hc) it x t
  refine bE (ah _) (W.item i s _ _ hg st λv h' tk hv st' kk htk=>?_)
  obtain⟨c,u,hcp,rfl⟩:=hv
  have I1:Inv X pins U H { s with heap:=h',toks:=tk }:=I.turned (λb o hb e=>kk b o (by simpa using hb) e) f0 f1 f3 f4 f5
  obtain⟨o,e,cc,d⟩:=id st'
  exact⟨_,rfl,Ke (s:={ s with heap:=h',toks:=tk }) e cc d (by rcases hty with rfl|rfl <;> decide) ⟨.str ⟨#[c]⟩,H,I1,⟨_,rfl⟩,⟨rfl,c,hcp,rfl⟩,st',λb hb=>(hf b hb).1⟩⟩
 done:=by
  intro X hP hw hK hc i pins s U H E I hf st hg
  subst hP hw hK
  obtain⟨f0,f1,f2,f3,f4,f5⟩:=hf it (by simp)
  have hg:i=x.cps.size:=hg
  subst hg
  have W:me X.prog X.w X.A it [it] [it] x.cps.size (SignAt x) (λi h=>h.IsStrIter it ty x t i):=by
   rcases hty with rfl|rfl
   .exact Walks.strAscii (I.ok.hd hc) it x t
   .exact Walks.strWide (I.ok.hd hc) it x t
  exact bE (ah _) (W.done s _ _ st λh' tk kk htk=>⟨rfl,I.turned (λb o hb e=>kk b o (by simpa using hb) e) f0 f1 f3 f4 f5⟩)
 self:=by
  intro A i s Q E st h
  rcases hty with rfl|rfl
  .exact wpAny_pyIter_striter_ascii st h
  .exact wpAny_pyIter_striter_wide st h
section
variable {X:Cx} {pins:List (Addr×Obj)} {U:St} {H:Hp} {s:am} {h':Heap} {ch:List Addr} {t':Nat}
theorem Inv.turnedL (I:Inv X pins U H s) (hf:∀ b∈ch,Dn X pins H b) (k:∀ b o,b∉ch->s.heap.get? b=some o->h'.get? b=some o) (ht:s.toks<=t':=by first|exact ah _|exact aZ _ _|assumption|omega|(dsimp only;omega)):Inv X pins U H { s with heap:=h',toks:=t' }:=by
 have tr:∀ b ob,H b=some ob->b∉ch:=λb ob e hb=>by rw[(hf b hb).1] at e;cases e
 refine I.step (g':=s.gens) (d':=s.drawn) (ch:=ch) (λb hb=>⟨(hf b hb).2.2.2.1,(hf b hb).2.1,(hf b hb).2.2.2.2.1,(hf b hb).2.2.2.2.2⟩) (λb o _ _ hb e _=>k b o hb e) (λb o _ _ hb e _=>⟨o.slots,k b o hb e⟩) (λ_ _ _ _ n=>n) (λb o hb e=>⟨o,k b o hb e⟩)
  (λ_ _ e=>e) (λ_ _ _ e=>e) (λb ps e=>⟨#[],by rw[e];simp⟩) (λm hm=>?_) (λb ob e=>?_) I.bare
 .obtain⟨o,es,ep,ho,r⟩:=hm
  exact⟨o,es,ep,k _ o (λz=>(hf _ z).2.1 rfl) ho,r⟩
 .refine (I.hok b ob e).stay (λb' w' hc' q=>k b' w' ?_ q) (λ_ q=>q) λ_ _ q=>q
  rcases hc' with rfl|hc'
  .exact tr _ _ e
  .exact tr _ _ hc'
theorem Inv.turnedN {T:Addr} {o:HO} (I:Inv X pins U H s) (hf:∀ b∈ch,Dn X pins H b) (k:∀ b o,b∉ch->s.heap.get? b=some o->h'.get? b=some o) (hT:s.heap.objs.size<=T) (new:ObjOk X.prog X.w (upd H T o) h' T o) (ht:s.toks<=t':=by first|exact ah _|exact aZ _ _|assumption|omega|(dsimp only;omega)) :
  Inv X pins U (upd H T o) { s with heap:=h',toks:=t' }:=by
 have tr:∀ b ob,H b=some ob->b∉ch:=λb ob e hb=>by rw[(hf b hb).1] at e;cases e
 have hn:=I.hok.fresh hT
 have nT:∀ {b o},s.heap.get? b=some o->b≠T:=λe=>aJ (aL (aD e) hT)
 refine I.step (g':=s.gens) (d':=s.drawn) (ch:=ch) (λb hb=>⟨(hf b hb).2.2.2.1,(hf b hb).2.1,(hf b hb).2.2.2.2.1,(hf b hb).2.2.2.2.2⟩) (λb o _ _ hb e _=>k b o hb e) (λb o _ _ hb e _=>⟨o.slots,k b o hb e⟩) (λb o _ e n=>by rw[Ad (nT e)];exact n) (λb o hb e=>⟨o,k b o hb e⟩)
  (λb zs e=>by rw[Ad (Ai e hn)];exact e) (λb o zs e=>by rw[Ad (Ai e hn)];exact e) (λb ps e=>⟨#[],by rw[Ad (Ai e hn),e];simp⟩) (λm hm=>?_) (λb ob e=>?_) I.bare
 .obtain⟨o,es,ep,ho,r⟩:=hm
  exact⟨o,es,ep,k _ o (λz=>(hf _ z).2.1 rfl) ho,r⟩
 .by_cases hb:b=T
  .subst hb
   rw[Aa] at e
   cases e
   exact new
  .rw[Ad hb] at e
   refine (I.hok b ob e).stay (λb' w' hc' q=>k b' w' ?_ q) (λb' q=>by rw[Ad (Ai q hn)];exact q) λb' zs q=>by rw[Ad (Ai q hn)];exact q
   rcases hc' with rfl|hc'
   .exact tr _ _ e
   .exact tr _ _ hc'
end
theorem Yl {bs:List Bool}:(ay bs.length).all (λi=>bs.getD i true)=bs.all λb=>b:=by
 rw[bQ,ba,ba]
 constructor
 .intro h b hb
  obtain⟨i,hi,e⟩:=List.mem_iff_getElem.mp hb
  have q:=h i (List.mem_range.mpr hi)
  rw[ar,ag hi,e] at q
  exact q
 .intro h i hi
  have hi:=List.mem_range.mp hi
  rw[ar,ag hi]
  exact h _ (bY hi)
section
variable {X:Cx}
theorem aa3 (hc:X.calm=true):Cj X (.builtin "all") (λxs H Q=>∃ (p:Addr) (bs:List Bool),xs=[.ref p]/\SqL X.K H p (bs.map V.bl)/\Q (.bl (bs.all λb=>b)) H):=by
 intro pins s U H xs us Q I r h
 obtain⟨p,bs,rfl,hq,q⟩:=h
 obtain⟨u,rfl,ru⟩:=r.one
 cases ru
 obtain⟨its,rv,pl,hz⟩:=I.list hq
 have hlen:=rv.length
 rw[ae] at hlen
 obtain⟨o,n,e,c,hd,ds⟩:=id pl
 have plt:=aD e
 refine bE (ah _) (call_all_walk (iY pl.isList ?_))
 refine⟨s.heap.objs.size,_,_,_,_,_,(λi=>bs.getD i true),rfl,Walks.list (A:=X.A.in1) (show X.A.in1.handled=none from I.ok.hd hc) s.heap.objs.size p (aJ plt) its.toArray,⟨⟨_,aB _ rfl,rfl,rfl⟩,pl.isList.push _⟩,?_,λh' tk kk htk=>?_⟩
 .intro i v s' Q' E' hv hq'
  have hv:its[i]? = some v:=by simpa using hv
  have hi:i<bs.length:=by rw[hlen];exact (List.getElem?_eq_some_iff.mp hv).1
  have e1:(bs.map V.bl)[i]? = some (.bl bs[i]):=by simp[hi]
  obtain⟨u',hu',ru'⟩:=rv.get e1
  rw[hv] at hu'
  cases hu'
  cases ru'
  have e2:bs.getD i true=bs[i]:=by simp[ar,hi]
  have hq':Q' (bs.getD i true) s':=hq'
  rw[e2] at hq'
  exact eo hq'
 .have e3:(ay its.toArray.size).all (λi=>bs.getD i true)=bs.all λb=>b:=by
   rw[ax,<- hlen]
   exact Yl
  rw[e3]
  refine⟨.bl _,H,I.kept (t':=tk) λb o' eb=>kk b o' ?_ (aj _ eb),rfl,q⟩
  have hb:b≠s.heap.objs.size:=aJ (aD eb)
  simpa using hb
theorem aa4:Cj X (.builtin "isinstance") (λxs H Q=>∃ x T t b,xs=[x,.ty T]/\TyOf X.K H x t/\fT X.K t (.type T)=some b/\Q (.bl b) H):=by
 intro pins s U H xs us Q I r h
 obtain⟨x,T,t,b,rfl,ty,e,q⟩:=h
 obtain⟨u,v,rfl,ru,rv⟩:=r.two
 cases rv
 exact bE (ah _) (Nb I ru ty e λtk htk=>⟨.bl b,H,I.tok tk htk,rfl,q⟩)
theorem Yb:OpR X (cG .LtE) (λx y H Q=>∃ i j,x=.str i/\y=.str j/\Q (.bl (!decide (j.cps.toList<i.cps.toList))) H):=by
 intro pins s U H x y v u Q I rx ry h
 obtain⟨i,j,rfl,rfl,q⟩:=h
 obtain⟨t,rfl⟩:=rx
 obtain⟨t',rfl⟩:=ry
 exact PySem.P.le_str ⟨.bl _,H,I,rfl,q⟩
theorem at5:MtR X "int.bit_length" (λx xs H Q=>∃ i,x=.int i/\xs=[]/\Q (.int (hG i:Nat)) H):=by
 intro pins s U H x xs v us Q I rx rs h
 obtain⟨i,rfl,rfl,q⟩:=h
 obtain⟨t,rfl⟩:=rx
 cases rs
 exact call_gives F.slot_int_bit_length (typeIs_int s i t) F.entry_int_bit_length (F.args_int_bit_length_1 _) (AutoIntG2.int_bit_length_int_0 i t) ⟨.int _,H,I.tok _,⟨_,rfl⟩,q⟩
end
noncomputable def Of (xs ys:List V):Bool:=decide (xs.length=ys.length)&&(ay xs.length).all λj=>eqV (xs.getD j .non) (ys.getD j .non)
theorem C5 {xs ys:List V} (h:xs.length≠ys.length):Of xs ys=false:=by
 unfold Of
 rw[decide_eq_false h]
 rfl
noncomputable def bh6 (K:ac) (neg:Bool):R2:=λx y H Q=>∃ a b xs ys,x=.ref a/\y=.ref b/\SqL K H a xs/\SqL K H b ys/\xs.all Bv=true/\ys.all Bv=true/\Q (.bl (if neg then !Of xs ys else Of xs ys)) H
section
variable {X:Cx}
theorem Kj {A:bj} {s:am} {xs ys:List V} {us ws:List ai} (rx:Vals xs us) (ry:Vals ys ws) (fx:xs.all Bv=true) (fy:ys.all Bv=true) (j:Nat) (h1:j<us.toArray.size) (h2:j<ws.toArray.size) :
  bw A s us.toArray[j] ws.toArray[j] (eqV (xs.getD j .non) (ys.getD j .non)):=by
 have e1:=rx.length
 have e2:=ry.length
 have h1':j<us.length:=by simpa using h1
 have h2':j<ws.length:=by simpa using h2
 have a1:xs[j]? = some (xs[j]'(by omega)):=by simp
 have a2:ys[j]? = some (ys[j]'(by omega)):=by simp
 obtain⟨u,hu,ru⟩:=rx.get a1
 obtain⟨v,hv,rv⟩:=ry.get a2
 have b1:us.toArray[j]=u:=by
  have:us[j]? = some us[j]:=by simp
  rw[this] at hu
  simpa using aH hu
 have b2:ws.toArray[j]=v:=by
  have:ws[j]? = some ws[j]:=by simp
  rw[this] at hv
  simpa using aH hv
 have c1:xs.getD j .non=xs[j]'(by omega):=by rw[ar,a1];rfl
 have c2:ys.getD j .non=ys[j]'(by omega):=by rw[ar,a2];rfl
 rw[b1,b2,c1,c2]
 exact Oe ru rv (List.all_eq_true.mp fx _ (bY _)) (List.all_eq_true.mp fy _ (bY _))
theorem bc1 (hu:X.A.units<cLine):OpR X (cG .Eq) (bh6 X.K false):=by
 intro pins s U H x y v u Q I rx ry h
 obtain⟨a,b,xs,ys,rfl,rfl,qa,qb,fx,fy,q⟩:=h
 cases rx
 cases ry
 obtain⟨its,r,pl,hz⟩:=I.list qa
 obtain⟨its2,r2,pl2,hz2⟩:=I.list qb
 have e1:=r.length
 have e2:=r2.length
 by_cases hl:xs.length=ys.length
 .refine SeqAt.eq_listAt (e:=λj=>eqV (xs.getD j .non) (ys.getD j .non)) pl.isList pl2.isList (by simp;omega) hu (λj h1 h2=>Kj r r2 fx fy j h1 h2) ⟨.bl _,H,I,rfl,?_⟩
  have e:Of xs ys=(ay its.toArray.size).all λj=>eqV (xs.getD j .non) (ys.getD j .non):=by
   unfold Of
   rw[decide_eq_true hl,ax,<- e1]
   rfl
  rw[<- e]
  exact q
 .refine SeqAt.eq_list_lengthsAt pl.isList pl2.isList (by simp;omega) hu ⟨.bl _,H,I,rfl,?_⟩
  rw[C5 hl] at q
  exact q
theorem bc6 (hu:X.A.units<cLine):OpR X (cG .NotEq) (bh6 X.K true):=by
 intro pins s U H x y v u Q I rx ry h
 obtain⟨a,b,xs,ys,rfl,rfl,qa,qb,fx,fy,q⟩:=h
 cases rx
 cases ry
 obtain⟨its,r,pl,hz⟩:=I.list qa
 obtain⟨its2,r2,pl2,hz2⟩:=I.list qb
 have e1:=r.length
 have e2:=r2.length
 by_cases hl:xs.length=ys.length
 .refine SeqAt.RcNeAt.lists (e:=λj=>eqV (xs.getD j .non) (ys.getD j .non)) pl.isList pl2.isList (by simp;omega) hu (λj h1 h2=>Kj r r2 fx fy j h1 h2) _ _ _ _ ⟨.bl _,H,I,rfl,?_⟩
  have e:Of xs ys=(ay its.toArray.size).all λj=>eqV (xs.getD j .non) (ys.getD j .non):=by
   unfold Of
   rw[decide_eq_true hl,ax,<- e1]
   rfl
  rw[<- e]
  exact q
 .refine ip pl.isList pl2.isList (by simp;omega) hu _ _ _ _ ⟨.bl _,H,I,rfl,?_⟩
  rw[C5 hl] at q
  exact q
end
theorem ad6 {cl:List (Str×Addr)} {x:Str} (h:x∈cl.map (·.1)):∃ c,cl.lookup x=some c:=by
 induction cl with
 |nil=>simp at h
 |cons p r ih=>
  obtain⟨n,a⟩:=p
  rw[jh]
  cases e:x==n with
  |true=>exact⟨a,rfl⟩
  |false=>
   refine ih ?_
   rcases List.mem_cons.mp h with q|q
   .rw[show x=n from q] at e;simp at e
   .exact q
section
variable {X:Cx} {e:Expr} {te:TE} {lo hi:Option Expr} {tl th:TO} {pos p2:Pos}
theorem Ve {ys:List Str}:∀ {us:List ai},Vals (ys.map V.str) us->StrsAre us ys:=by
 induction ys with
 |nil=>intro us r;rw[fv] at r;cases r;exact .nil
 |cons y ys ih=>
  intro us r
  rw[aP] at r
  cases r with
  |cons r1 r2=>
   obtain⟨t,e⟩:=r1
   subst e
   exact .cons y t (ih r2)
theorem at7:MtR X "str.join" (λx xs H Q=>∃ z p ys,x=.str z/\xs=[.ref p]/\SqL X.K H p (ys.map V.str)/\(ys.map (·.length)).sum+ys.length * z.length<=16777216/\Q (.str (Txt.join z ys)) H):=by
 intro pins s U H x xs v us Q I rx rs h
 obtain⟨z,p,ys,rfl,rfl,hq,hz,q⟩:=h
 obtain⟨t,rfl⟩:=rx
 obtain⟨u,rfl,ru⟩:=rs.one
 cases ru
 obtain⟨its,rv,pl,_⟩:=I.list hq
 exact bE (ah _) (PyProof.Rows.join_list pl.isList (by simpa using Ve rv) hz λt' k htk=>⟨.str _,H,I.tok k htk,⟨_,rfl⟩,q⟩)
end
section
variable {κ:Type} [DecidableEq κ]
noncomputable def B3 (kvs:List (κ×V)) (k:κ):Option V:=(kvs.find? λkv=>decide (kv.1=k)).map (·.2)
noncomputable def Cu (kvs:List (κ×V)) (k:κ) (v:V):List (κ×V):=
 if (kvs.any λkv=>decide (kv.1=k))=true then kvs.map (λkv=>if kv.1=k then (kv.1,v) else kv) else kvs++[(k,v)]
theorem Hi {p:κ×V} {r:List (κ×V)} {k:κ} (e:p.1=k):B3 (p::r) k=some p.2:=by simp[B3,fu,e]
theorem Fr {p:κ×V} {r:List (κ×V)} {k:κ} (e:¬ p.1=k):B3 (p::r) k=B3 r k:=by simp[B3,fu,e]
theorem Lo (k:κ):∀ kvs:List (κ×V),(kvs.any λkv=>decide (kv.1=k))=(B3 kvs k).isSome
 |[]=>rfl
 | p::r=>by
  rw[gd]
  by_cases e:p.1=k
  .simp only[Hi e,decide_eq_true e,Bool.true_or,Option.isSome_some]
  .rw[Fr e,decide_eq_false e,iZ];exact Lo k r
theorem Ip (kvs:List (κ×V)) (k:κ) (v:V):(Cu kvs k v).length<=kvs.length+1:=by
 unfold Cu
 split
 .rw[ae];omega
 .rw[aS,aO,jA];omega
theorem Dw {kvs:List (κ×V)} {k:κ} (v:V) (h:B3 kvs k=none):Cu kvs k v=kvs++[(k,v)]:=by
 unfold Cu
 rw[Lo,h]
 exact if_neg (by decide)
theorem RelO.isSome_eq {o:Option V} {u:Option ai} (r:RelO o u):o.isSome=u.isSome:=by
 cases o with
 | none=>cases u with
  |none=>rfl
  |some _=>exact (show False from r).elim
 | some _=>cases u with
  |none=>exact (show False from r).elim
  |some _=>rfl
theorem RelO.getD {o:Option V} {u:Option ai} {d:V} {d':ai} (r:RelO o u) (rd:RelV d d'):RelV (o.getD d) (u.getD d'):=by
 cases o with
 | none=>cases u with
  |none=>exact rd
  |some _=>exact (show False from r).elim
 | some _=>cases u with
  |none=>exact (show False from r).elim
  |some _=>exact r
theorem KV.val {kvs:List (κ×V)} {vs:List (κ×ai)} (r:KV kvs vs) (k:κ):RelO (B3 kvs k) (kY vs k):=by
 unfold KV at r
 induction r with
 |nil=>exact aR
 |@cons p q ps qs h t ih=>
  obtain⟨h1,h2⟩:=h
  by_cases e:p.1=k
  .have e':q.1=k:=h1.symm.trans e
   have b:kY (q::qs) k=some q.2:=by simp[kY,fu,e']
   rw[Hi e,b];exact h2
  .have e':¬ q.1=k:=λz=>e (h1.trans z)
   have b:kY (q::qs) k=kY qs k:=by simp[kY,fu,e']
   rw[Fr e,b];exact ih
theorem KV.any {kvs:List (κ×V)} {vs:List (κ×ai)} (r:KV kvs vs) (k:κ):(kvs.any λkv=>decide (kv.1=k))=vs.any λkv=>decide (kv.1=k):=by
 unfold KV at r
 induction r with
 |nil=>rfl
 |cons h t ih=>rw[gd,gd,ih,h.1]
theorem KV.repl {kvs:List (κ×V)} {vs:List (κ×ai)} (r:KV kvs vs) (k:κ) {y:V} {u:ai} (ry:RelV y u) :
  KV (kvs.map λkv=>if kv.1=k then (kv.1,y) else kv) (vs.map λkv=>if kv.1=k then (kv.1,u) else kv):=by
 unfold KV at r ⊢
 induction r with
 |nil=>exact .nil
 |@cons p q ps qs h t ih=>
  rw[aP,aP]
  refine .cons ?_ ih
  obtain⟨h1,h2⟩:=h
  by_cases e:p.1=k
  .rw[if_pos e,if_pos (h1.symm.trans e)];exact⟨h1,ry⟩
  .rw[if_neg e,if_neg (λz=>e (h1.trans z))];exact⟨h1,h2⟩
theorem KV.put {kvs:List (κ×V)} {vs:List (κ×ai)} (r:KV kvs vs) (k:κ) {y:V} {u:ai} (ry:RelV y u):KV (Cu kvs k y) (stored vs k u):=by
 unfold Cu stored
 rw[r.any k]
 by_cases e:(vs.any λkv=>decide (kv.1=k))=true
 .rw[if_pos e,if_pos e];exact r.repl k ry
 .rw[if_neg e,if_neg e];exact Paired.snoc r ⟨rfl,ry⟩
theorem KV.keys {kvs:List (κ×V)} {vs:List (κ×ai)} (r:KV kvs vs):kvs.map (·.1)=vs.map (·.1):=by
 unfold KV at r
 induction r with
 |nil=>rfl
 |cons h t ih=>rw[aP,aP,ih,h.1]
theorem KV.length {kvs:List (κ×V)} {vs:List (κ×ai)} (r:KV kvs vs):kvs.length=vs.length:=i6 r
end
theorem Kk {P:aX} {w:bB} {k:Key} {u:ai} (r:RelV (kV k) u):(Bd P w).is k u=true:=by
 cases k with
 |inl i=>obtain⟨t,e⟩:=(show ∃ t,u=kI i t from r);subst e;exact Q4 P w i t
 |inr x=>obtain⟨t,e⟩:=(show ∃ t,u=h_ x t from r);subst e;exact Q5 P w x t
noncomputable abbrev KT (H:Hp):List (TK×V)->List (TK×Addr×ai)->Prop:=g6 λp q=>p.1=q.1/\(Ar p.1<=8/\TkAt H p.1 (.ref q.2.1))/\RelV p.2 q.2.2
theorem KT.val {H:Hp} {kvs:List (TK×V)} {xs:List (TK×Addr×ai)} (r:KT H kvs xs) (k:TK):RelO (B3 kvs k) ((mf xs k).map (·.2)):=by
 induction r with
 |nil=>exact aR
 |@cons p q ps qs h t ih=>
  obtain⟨h1,_,h2⟩:=h
  by_cases e:p.1=k
  .have e':q.1=k:=h1.symm.trans e
   have b:mf (q::qs) k=some q.2:=by simp[mf,fu,e']
   rw[Hi e,b];exact h2
  .have e':¬ q.1=k:=λz=>e (h1.trans z)
   have b:mf (q::qs) k=mf qs k:=by simp[mf,fu,e']
   rw[Fr e,b];exact ih
theorem KT.repl {H:Hp} {kvs:List (TK×V)} {xs:List (TK×Addr×ai)} (r:KT H kvs xs) (k:TK) {y:V} {u:ai} (ry:RelV y u) :
  KT H (kvs.map λkv=>if kv.1=k then (kv.1,y) else kv) (xs.map (putAt k u)):=by
 induction r with
 |nil=>exact .nil
 |@cons p q ps qs h t ih=>
  rw[aP,aP]
  refine .cons ?_ ih
  obtain⟨h1,h2,h3⟩:=h
  unfold putAt
  by_cases e:p.1=k
  .rw[if_pos e,if_pos (h1.symm.trans e)];exact⟨h1,h2,ry⟩
  .rw[if_neg e,if_neg (λz=>e (h1.trans z))];exact⟨h1,h2,h3⟩
theorem KT.put {H:Hp} {kvs:List (TK×V)} {xs:List (TK×Addr×ai)} (r:KT H kvs xs) (k:TK) {b:Addr} {y:V} {u:ai} (hb:(Ar k<=8/\TkAt H k (.ref b))) (ry:RelV y u) :
  KT H (Cu kvs k y) (storedH xs k b u):=by
 have e:(kvs.any λkv=>decide (kv.1=k))=(mf xs k).isSome:=by
  rw[Lo,(r.val k).isSome_eq,iP]
 unfold Cu storedH
 rw[e]
 by_cases q:(mf xs k).isSome=true
 .rw[if_pos q,if_pos q];exact r.repl k ry
 .rw[if_neg q,if_neg q];exact Paired.snoc r ⟨rfl,hb,ry⟩
theorem KT.keeps {H H':Hp} {kvs:List (TK×V)} {xs:List (TK×Addr×ai)} (r:KT H kvs xs) (ht:∀ b ys,H b=some (.tup ys)->H' b=some (.tup ys)):KT H' kvs xs:=
 Paired.mapP r λ_ _ z=>⟨z.1,⟨z.2.1.1,z.2.1.2.up ht _⟩,z.2.2⟩
section
variable {P:aX} {w:bB} {H:Hp} {h:Heap} {a:Addr}
theorem a21 {u:HO} (ok:HOk P w H h) (e:Rd H a u):ObjOk P w H h a u:=e.ok ok
theorem Dd {kvs:List (Key×V)} (ok:HOk P w H h) (e:Rd H a (.dK kvs)):kvs.length<=sizeLine/\(a==du)=false /\ ∃ vs,KV kvs vs/\h.DictOf (Bd P w) a vs:=
 show ObjOk P w H h a (.dK kvs) from a21 ok e
theorem a04 {kvs:List (Key×V)} (ok:HOk P w H h) (e:H a=some (.dK kvs)):kvs.length<=sizeLine/\(a==du)=false /\ ∃ vs,KV kvs vs/\h.DictOf (Bd P w) a vs:=Dd ok (.inl e)
theorem bw3 (ok:HOk P w H h) (x:TK):∀ {v:V} {u:ai},TkAt H x v->RelV v u->TkIs P w h x u:=by
 refine TK.rec (motive_1:=λx=>∀ {v:V} {u:ai},TkAt H x v->RelV v u->TkIs P w h x u) (motive_2:=λl=>∀ {vs:List V} {us:List ai},Ay H l vs->Vals vs us->TksAre P w h l us) ?_ ?_ ?_ ?_ x
 .intro k v u q r
  unfold TkAt at q
  unfold TkIs
  subst q
  exact Kk r
 .intro l ih v u q r
  unfold TkAt at q
  unfold TkIs
  obtain⟨a,xs,rfl,e,i⟩:=q
  cases r
  obtain⟨_,its,r,t⟩:=(show ObjOk P w H h a (.tup xs) from ok a _ e)
  exact⟨a,its.toArray,rfl,t,by simpa using ih i r⟩
 .intro vs us q r
  unfold Ay at q
  unfold TksAre
  subst q
  cases r
  rfl
 .intro x l h1 h2 vs us q r
  unfold Ay at q
  unfold TksAre
  obtain⟨v,r',rfl,q1,q2⟩:=q
  cases r with
  |cons r1 r2=>exact⟨_,_,rfl,h1 q1 r1,h2 q2 r2⟩
theorem F8 {k:TK} (ok:HOk P w H h) (e:Ar k<=8/\TkAt H k (.ref a)):(C8 P w).is h k a:=⟨e.1,bw3 ok k e.2 rfl⟩
theorem J9 {kvs:List (TK×V)} (ok:HOk P w H h) (e:Rd H a (.dT kvs)):kvs.length<=sizeLine/\(a==du)=false /\
  ∃ xs,KT H kvs xs/\h.DictOfH (C8 P w) a xs:=by
 obtain⟨z,y,xs,r,o,es,ep,h1,h2,h3,h4,h5⟩:=(show ObjOk P w H h a (.dT kvs) from a21 ok e)
 refine⟨z,y,xs,r,o,es,ep,h1,h2,h3,h4,λx hx=>?_,h5⟩
 have all:∀ {l:List (TK×V)} {m:List (TK×Addr×ai)},KT H l m -> ∀ x∈m,(C8 P w).is h x.1 x.2.1:=by
  intro l m q
  induction q with
  |nil=>intro x hx;exact nomatch hx
  |@cons p q ps qs hq t ih=>
   intro x hx
   rcases List.mem_cons.mp hx with e|hx
   .subst e
    exact F8 ok (by rw[<- hq.1];exact hq.2.1)
   .exact ih x hx
 exact all r x hx
theorem bk3 {kvs:List (TK×V)} (ok:HOk P w H h) (e:H a=some (.dT kvs)):kvs.length<=sizeLine/\(a==du)=false /\
  ∃ xs,KT H kvs xs/\h.DictOfH (C8 P w) a xs:=J9 ok (.inl e)
end
noncomputable def DGet (H:Hp) (a:Addr) (y:V) (r:Option V):Prop:=
 (∃ kvs k,Rd H a (.dK kvs)/\y=kV k/\r=B3 kvs k) \/ ∃ kvs k b,Rd H a (.dT kvs)/\y=.ref b/\(Ar k<=8/\TkAt H k (.ref b))/\r=B3 kvs k
noncomputable def DPut (H:Hp) (a:Addr) (y v:V) (H':Hp):Prop:=
 (∃ kvs k,H a=some (.dK kvs)/\y=kV k/\kvs.length<sizeLine/\H'=upd H a (.dK (Cu kvs k v))) \/
 ∃ kvs k b,H a=some (.dT kvs)/\y=.ref b/\(Ar k<=8/\TkAt H k (.ref b))/\kvs.length<sizeLine/\H'=upd H a (.dT (Cu kvs k v))
theorem DGet.k {H:Hp} {a:Addr} {kvs:List (Key×V)} {k:Key} (e:H a=some (.dK kvs)):DGet H a (kV k) (B3 kvs k):=.inl ⟨kvs,k,.inl e,rfl,rfl⟩
theorem DGet.t {H:Hp} {a b:Addr} {kvs:List (TK×V)} {k:TK} (e:H a=some (.dT kvs)) (eb:(Ar k<=8/\TkAt H k (.ref b))):DGet H a (.ref b) (B3 kvs k):=.inr ⟨kvs,k,b,.inl e,rfl,eb,rfl⟩
theorem DPut.k {H:Hp} {a:Addr} {kvs:List (Key×V)} {k:Key} {v:V} (e:H a=some (.dK kvs)) (hl:kvs.length<sizeLine):DPut H a (kV k) v (upd H a (.dK (Cu kvs k v))):=.inl ⟨kvs,k,e,rfl,hl,rfl⟩
theorem DPut.t {H:Hp} {a b:Addr} {kvs:List (TK×V)} {k:TK} {v:V} (e:H a=some (.dT kvs)) (eb:(Ar k<=8/\TkAt H k (.ref b))) (hl:kvs.length<sizeLine) :
  DPut H a (.ref b) v (upd H a (.dT (Cu kvs k v))):=.inr ⟨kvs,k,b,e,rfl,eb,hl,rfl⟩
section
variable {X:Cx} {pins:List (Addr×Obj)} {U:St} {H:Hp} {s:am} {a:Addr} {y v:V} {u r:ai} {o:Option V} {A:bj} {E:ai->am->Prop}
theorem Inv.big (I:Inv X pins U H s):du<s.heap.objs.size:=by
 have h:mainGlobals<s.heap.objs.size:=(I.mod.glob.keeps I.bk).lt
 exact Nat.lt_trans (by decide) h
theorem Xm {Q:ai->am->Prop} (hu:A.units+9<cLine) (I:Inv X pins U H s) (g:DGet H a y (some v)) (ry:RelV y u) (h:∀ w' s',Inv X pins U H s'->RelV v w'->Q w' s') :
  aQ (model X.prog X.w) A (getItem (.ref a) u) Q E s:=by
 rcases g with ⟨kvs,k,e,ey,l⟩|⟨kvs,k,b,e,ey,eb,l⟩
 .subst ey
  obtain⟨z,hd,vs,rel,dd⟩:=Dd I.hok e
  obtain⟨w',hw,rw'⟩:=RelO.some_of (v:=v) (o:=kY vs k) (by rw[l];exact rel.val k)
  exact wpAny_getItem_of (Kk ry) dd.mapOf hw (h w' _ (I.tok _) rw')
 .subst ey
  cases (show u=bv b from ry)
  obtain⟨z,hd,xs,rel,dd⟩:=J9 I.hok e
  obtain⟨w',hw,rw'⟩:=RelO.some_of (v:=v) (o:=(mf xs k).map (·.2)) (by rw[l];exact rel.val k)
  obtain⟨p,hp,hp2⟩:=Option.map_eq_some_iff.mp hw
  refine wpAny_getItem_heap (show A.units+1+8<cLine by omega) (F8 I.hok eb) dd hp ?_
  rw[hp2]
  exact h w' _ (I.tok _) rw'
theorem bx3 {Q:ai->am->Prop} (hu:A.units+9<cLine) (I:Inv X pins U H s) (g:DGet H a y o) (ry:RelV y u) (h:∀ s',Inv X pins U H s'->Q (.bool o.isSome) s') :
  aQ (model X.prog X.w) A (cG .In u (.ref a)) Q E s:=by
 rcases g with ⟨kvs,k,e,ey,l⟩|⟨kvs,k,b,e,ey,eb,l⟩
 .subst ey
  obtain⟨z,hd,vs,rel,dd⟩:=Dd I.hok e
  refine wpAny_in_of (Kk ry) hd dd.mapOf ?_
  rw[<- (rel.val k).isSome_eq,<- l]
  exact h _ (I.tok _)
 .subst ey
  cases (show u=bv b from ry)
  obtain⟨z,hd,xs,rel,dd⟩:=J9 I.hok e
  refine wpAny_in_heap (show A.units+1+8<cLine by omega) (F8 I.hok eb) hd dd ?_
  have q:=(rel.val k).isSome_eq
  rw[iP] at q
  rw[<- q,<- l]
  exact h _ (I.tok _)
theorem ar6 {Q:ai->am->Prop} (hu:A.units+9<cLine) (I:Inv X pins U H s) (g:DGet H a y o) (ry:RelV y u) (h:∀ s',Inv X pins U H s'->Q (.bool (!o.isSome)) s') :
  aQ (model X.prog X.w) A (cG .NotIn u (.ref a)) Q E s:=by
 rcases g with ⟨kvs,k,e,ey,l⟩|⟨kvs,k,b,e,ey,eb,l⟩
 .subst ey
  obtain⟨z,hd,vs,rel,dd⟩:=Dd I.hok e
  refine wpAny_notIn_of (Kk ry) hd dd.mapOf ?_
  rw[<- (rel.val k).isSome_eq,<- l]
  exact h _ (I.tok _)
 .subst ey
  cases (show u=bv b from ry)
  obtain⟨z,hd,xs,rel,dd⟩:=J9 I.hok e
  refine wpAny_notIn_heap (show A.units+1+8<cLine by omega) (F8 I.hok eb) hd dd ?_
  have q:=(rel.val k).isSome_eq
  rw[iP] at q
  rw[<- q,<- l]
  exact h _ (I.tok _)
theorem Ob {h':Heap} {t':Nat} {ob:HO} (I:Inv X pins U H s) (mu:Mut (H a)) (hs:a9 a s.heap h') (he:∃ q,h'.get? a=some q) (new:ObjOk X.prog X.w (upd H a ob) h' a ob) (ht:s.toks<=t':=by first|exact ah _|exact aZ _ _|assumption|omega|(dsimp only;omega)) :
  Inv X pins U (upd H a ob) { s with heap:=h',toks:=t' }:=
 I.write (x:=a) (e:=a) mu (.inl rfl) (λb q hb z=>(hs.2 b hb).trans z) he new
theorem Sx {P:aX} {w:bB} {H':Hp} {h':Heap} {kvs:List (Key×V)} {vs:List (Key×ai)} (z:kvs.length<=sizeLine) (hd:(a==du)=false) (rel:KV kvs vs) (dd:h'.DictOf (Bd P w) a vs) :
  ObjOk P w H' h' a (.dK kvs):=⟨z,hd,vs,rel,dd⟩
theorem Xn {H':Hp} {Q:Unit->am->Prop} (hu:A.units+9<cLine) (I:Inv X pins U H s) (g:DPut H a y v H') (ry:RelV y u) (rv:RelV v r) (h:∀ s',Inv X pins U H' s'->Q () s') :
  aQ (model X.prog X.w) A (setItem (.ref a) u r) Q E s:=by
 rcases g with ⟨kvs,k,e,ey,l,eH⟩|⟨kvs,k,b,e,ey,eb,l,eH⟩
 .subst ey eH
  obtain⟨z,hd,vs,rel,dd⟩:=a04 I.hok e
  have hz:vs.length<=sizeLine:=by rw[<- rel.length];exact z
  have hl:(Cu kvs k v).length<=sizeLine:=by have:=Ip kvs k v;omega
  refine wpAny_setItem_pairs (hsz:=hz) (Kk ry) dd λh' dd' hs=>h _ ?_
  have he:∃ q,h'.get? a=some q:=let ⟨q,_,_,hq,_⟩:=dd';⟨q,hq⟩
  exact Ob I (by rw[e];exact aR) hs he (Sx hl hd (rel.put k rv) dd')
 .subst ey eH
  cases (show u=bv b from ry)
  obtain⟨z,hd,xs,rel,dd⟩:=bk3 I.hok e
  have hz:xs.length<=sizeLine:=by rw[<- i6 rel];exact z
  have hl:(Cu kvs k v).length<=sizeLine:=by have:=Ip kvs k v;omega
  refine wpAny_setItem_heap (hsz:=hz) (show A.units+1+8<cLine by omega) (F8 I.hok eb) dd λh' dd' hs=>h _ ?_
  obtain⟨q,es,ep,hq,h2,h3,h4,_,h5⟩:=dd'
  refine Ob I (by rw[e];exact aR) hs ⟨q,hq⟩ ⟨hl,hd,_,(rel.put k eb rv).keeps λc ys ec=>?_,q,es,ep,hq,h2,h3,h4,h5⟩
  rw[Ad (bm2 ec e (λz=>nomatch z))]
  exact ec
end
section
variable {X:Cx} {pins:List (Addr×Obj)} {U:St} {H:Hp} {s:am} {a:Addr} {kvs:List (Key×V)} {k:Key} {u:ai} {A:bj} {E:ai->am->Prop}
theorem ar5 {Q:ai->am->Prop} (I:Inv X pins U H s) (e:H a=some (.dK kvs)) (h:∀ s',Inv X pins U (upd H a (.dK [])) s'->Q .none s'):aQ (model X.prog X.w) A (call (.builtin "dict.clear") [.ref a]) Q E s:=by
 obtain⟨z,hd,vs,rel,dd⟩:=a04 I.hok e
 refine gY i_ dd.typeIs PySem.F.entry_dict_clear (PySem.F.args_dict_clear_1 _) (meets_dict_clear (Bd X.prog X.w) a) ⟨vs,dd,by rw[<- rel.length];exact z,λh' dd' hs=>h _ ?_⟩
 have he:∃ q,h'.get? a=some q:=let ⟨q,_,_,hq,_⟩:=dd';⟨q,hq⟩
 exact Ob (t':=s.toks) I (by rw[e];exact aR) hs he (Sx (bb _) hd .nil dd')
theorem bk1 {Q:ai->am->Prop} (I:Inv X pins U H s) (e:Rd H a (.dK kvs)) (h:∀ t s',Inv X pins U H s'->Q (.int kvs.length t) s'):aQ (model X.prog X.w) A (call (.builtin "len") [.ref a]) Q E s:=by
 obtain⟨z,hd,vs,rel,dd⟩:=Dd I.hok e
 refine call_len_dict hd dd (by rw[<- rel.length];rw[bN] at z;omega) ?_
 rw[<- rel.length]
 exact h _ _ (I.tok _)
end
theorem Qs {X:Cx} {pins:List (Addr×Obj)} {U:St} {H:Hp} {s:am} {a:Addr} {y:V} {o:Option V} (I:Inv X pins U H s) (g:DGet H a y o):s.TypeIs (.ref a) "dict" := by
 rcases g with ⟨kvs,k,e,_,_⟩|⟨kvs,k,b,e,_,_,_⟩
 .obtain⟨_,_,vs,_,dd⟩:=Dd I.hok e
  exact dd.typeIs
 .obtain⟨_,_,xs,_,dd⟩:=J9 I.hok e
  exact dd.typeIs
theorem ab3 {P:aX} {w:bB} {H:Hp} (h:Heap) (hb:du<h.objs.size):ObjOk P w H (h.push { cls:=.type "dict", data:=.dict #[] }) h.objs.size (.dK []):=
 ⟨bb _,beq_eq_false_iff_ne.mpr (cy (aJ hb)),[],.nil,Heap.DictOf.new h⟩
theorem ab4 {P:aX} {w:bB} {H:Hp} (h:Heap) (hb:du<h.objs.size):ObjOk P w H (h.push { cls:=.type "dict", data:=.dict #[] }) h.objs.size (.dT []):=
 ⟨bb _,beq_eq_false_iff_ne.mpr (cy (aJ hb)),[],.nil,_,#[],0,aB _ rfl,⟨rfl,rfl,rfl⟩,rfl,rfl,gR⟩
section
variable {X:Cx} {pins:List (Addr×Obj)} {U:St} {H:Hp} {s:am} {a:Addr} {y d:V} {u r:ai} {o:Option V} {A:bj} {E:ai->am->Prop}
theorem a47 {Q:ai->am->Prop} (hu:A.units+9<cLine) (I:Inv X pins U H s) (g:DGet H a y o) (ry:RelV y u) (h:∀ w' s',Inv X pins U H s'->RelV (o.getD .non) w'->Q w' s') :
  aQ (model X.prog X.w) A (call (.builtin "dict.get") [.ref a,u]) Q E s:=by
 rcases g with ⟨kvs,k,e,ey,l⟩|⟨kvs,k,b,e,ey,eb,l⟩
 .subst ey
  obtain⟨z,hd,vs,rel,dd⟩:=Dd I.hok e
  refine gY dQ dd.typeIs eZ (i8 _ _) (meets_dict_get (Bd X.prog X.w) a (Kk ry) hd) ⟨_,dd.mapOf,h _ _ (I.tok _) ?_⟩
  rw[l]
  exact (rel.val k).getD rfl
 .subst ey
  cases (show u=bv b from ry)
  obtain⟨z,hd,xs,rel,dd⟩:=J9 I.hok e
  refine gY dQ dd.typeIs eZ (i8 _ _) (meetsH_dict_get (C8 X.prog X.w) a b hd) ⟨show A.units+1+8<cLine by omega,k,xs,F8 I.hok eb,dd,h _ _ (I.tok _) ?_⟩
  rw[l]
  exact (rel.val k).getD rfl
theorem a48 {Q:ai->am->Prop} (hu:A.units+9<cLine) (I:Inv X pins U H s) (g:DGet H a y o) (ry:RelV y u) (rd:RelV d r) (h:∀ w' s',Inv X pins U H s'->RelV (o.getD d) w'->Q w' s') :
  aQ (model X.prog X.w) A (call (.builtin "dict.get") [.ref a,u,r]) Q E s:=by
 rcases g with ⟨kvs,k,e,ey,l⟩|⟨kvs,k,b,e,ey,eb,l⟩
 .subst ey
  obtain⟨z,hd,vs,rel,dd⟩:=Dd I.hok e
  refine gY dQ dd.typeIs eZ (i9 _ _ _) (meets_dict_get_default (Bd X.prog X.w) a (Kk ry) hd r) ⟨_,dd.mapOf,h _ _ (I.tok _) ?_⟩
  rw[l]
  exact (rel.val k).getD rd
 .subst ey
  cases (show u=bv b from ry)
  obtain⟨z,hd,xs,rel,dd⟩:=J9 I.hok e
  refine gY dQ dd.typeIs eZ (i9 _ _ _) (meetsH_dict_get_default (C8 X.prog X.w) a b hd r) ⟨show A.units+1+8<cLine by omega,k,xs,F8 I.hok eb,dd,h _ _ (I.tok _) ?_⟩
  rw[l]
  exact (rel.val k).getD rd
end
noncomputable abbrev EK:=Addr->Hp->Prop
noncomputable abbrev DE:=St->Hp->VK->EK->Prop
noncomputable abbrev DT:=St->Hp->(Bool->Hp->Prop)->EK->Prop
noncomputable abbrev DA:=St->Hp->(List V->Hp->Prop)->EK->Prop
structure Outs where
 nx:St->Hp->Prop
 rt:VK
 bk:St->Hp->Prop
 ct:St->Hp->Prop
 ex:St->EK
noncomputable abbrev DS:=Outs->St->Hp->Prop
noncomputable def Meets (_:Cx) (Ex:St->EK):Prop:=∀ (U:St) (a:Addr) (H:Hp),¬ Ex U a H
noncomputable def QE (X:Cx) (e:Expr) (t:DE):Prop:=∀ Ex,Meets X Ex->PE X e (λU H Q=>t U H Q (Ex U))
noncomputable def QT (X:Cx) (e:Expr) (t:DT):Prop:=∀ Ex,Meets X Ex->PT X e (λU H Q=>t U H Q (Ex U))
noncomputable def QW (X:Cx) (e:Expr) (t:DT):Prop:=∀ Ex,Meets X Ex->PW X e (λU H Q=>t U H Q (Ex U))
noncomputable def QA (X:Cx) (es:List Expr) (t:DA):Prop:=∀ Ex,Meets X Ex->PA X es (λU H Q=>t U H Q (Ex U))
noncomputable def bp5 (Ex:St->EK) (D:Qg):Outs:=⟨D.nx,D.rt,D.bk,D.ct,Ex⟩
noncomputable def QS (X:Cx) (st:Stmt) (t:DS):Prop:=∀ Ex,Meets X Ex->PS X st (λD U H=>t (bp5 Ex D) U H)
noncomputable def QSs (X:Cx) (st:List Stmt) (t:DS):Prop:=∀ Ex,Meets X Ex->PSs X st (λD U H=>t (bp5 Ex D) U H)
noncomputable def dNo:DE:=λ_ _ _ _=>False
noncomputable def Ab (i:Nat):DE:=λU H Q _=>match U[i]? with
 |some (some v)=>Q v H
 |_=>False
noncomputable def dC (v:V):DE:=λ_ H Q _=>Q v H
noncomputable def Ah (r:R2) (a b:DE):DE:=λU H Q E=>a U H (λx H1=>b U H1 (λy H2=>r x y H2 Q) E) E
noncomputable def dUn (r:V->Hp->VK->Prop) (a:DE):DE:=λU H Q E=>a U H (λx H1=>r x H1 Q) E
noncomputable def Eb (r r':R2) (a b c:DE):DE:=λU H Q E=>a U H (λx H1=>b U H1 (λy H2=>r x y H2 λz H3=>match z with
 |.bl k=>if k=true then c U H3 (λw H4=>r' y w H4 Q) E else Q (.bl false) H3
 |_=>False) E) E
noncomputable def J6 (a b:DT):DT:=λU H Q E=>a U H (λk H1=>if k=true then b U H1 Q E else Q false H1) E
noncomputable def dOr (a b:DT):DT:=λU H Q E=>a U H (λk H1=>if k=true then Q true H1 else b U H1 Q E) E
noncomputable def Ed (a:DT):DT:=λU H Q E=>a U H (λk H1=>Q (!k) H1) E
noncomputable def bj9 (t:DT) (a b:DE):DE:=λU H Q E=>t U H (λk H1=>if k=true then a U H1 Q E else b U H1 Q E) E
noncomputable def an3 (K:ac) (x:V) (H:Hp) (Q:Bool->Hp->Prop):Prop:=match x with
 |.bl k=>Q k H
 |.non=>Q false H
 |.int i=>Q (i != 0) H
 |.str y=>y.length<=sizeLine/\Q ((y.length:Int) != 0) H
 |.ref p=>∃ k,bj6 K (.ref p) H k/\Q k H
 |_=>False
noncomputable def M2 (K:ac) (a b:DE):DE:=λU H Q E=>a U H (λx H1=>an3 K x H1 λk H2=>if k=true then b U H2 Q E else Q x H2) E
noncomputable def bk0 (K:ac) (a b:DE):DE:=λU H Q E=>a U H (λx H1=>an3 K x H1 λk H2=>if k=true then Q x H2 else b U H2 Q E) E
noncomputable def aa9 (K:ac) (a:DE):DE:=λU H Q E=>a U H (λx H1=>an3 K x H1 λk H2=>Q (.bl (!k)) H2) E
noncomputable def C4 (K:ac) (a:DE):DT:=λU H Q E=>a U H (λx H1=>an3 K x H1 Q) E
noncomputable def Bb (a:DE):DT:=λU H Q E=>a U H (λx H1=>match x with
 |.bl k=>Q k H1
 |_=>False) E
noncomputable def Af:DA:=λ_ H Q _=>Q [] H
noncomputable def Ac (a:DE) (r:DA):DA:=λU H Q E=>a U H (λx H1=>r U H1 (λxs H2=>Q (x::xs) H2) E) E
noncomputable def Et (t:DA):DE:=λU H Q E=>t U H (λxs H1=>xs.length<=sizeLine /\ ∀ p,H1 p=none->Q (.ref p) (upd H1 p (.tup xs))) E
noncomputable def B6 (t:DA):DE:=λU H Q E=>t U H (λxs H1=>xs.length<=sizeLine /\ ∀ p,H1 p=none->Q (.ref p) (upd H1 p (.lst xs))) E
noncomputable def dFn (r:List V->Hp->VK->EK->Prop) (t:DA):DE:=λU H Q E=>t U H (λvs H1=>r vs H1 Q E) E
noncomputable def dMt (r:V->Hp->(Hp->(List V->Hp->Prop)->Prop)->VK->Prop) (o:DE) (t:DA):DE:=λU H Q E=>o U H (λx H1=>r x H1 (λH2 R=>t U H2 R E) Q) E
noncomputable def Ag:DS:=λD U H=>D.nx U H
noncomputable def Bj:DS:=λ_ _ _=>False
noncomputable def Outs.thn (D:Outs) (f:St->Hp->Prop):Outs:={ D with nx:=f }
noncomputable def Outs.lp (D:Outs) (P:St->Hp->Prop):Outs:={ D with nx:=P,ct:=P,bk:=D.nx }
noncomputable def Ae (t u:DS):DS:=λD U H=>t (D.thn (u D)) U H
noncomputable def As (e:DE):DS:=λD U H=>e U H D.rt (D.ex U)
noncomputable def a02:DS:=λD _ H=>D.rt .non H
noncomputable def C3 (e:DE):DS:=λD U H=>e U H (λ_ H1=>D.nx U H1) (D.ex U)
noncomputable def dIf (c:DT) (t u:DS):DS:=λD U H=>c U H (λb H1=>if b=true then t D U H1 else u D U H1) (D.ex U)
noncomputable def bj7:DS:=λD U H=>D.bk U H
noncomputable def bj8:DS:=λD U H=>D.ct U H
noncomputable def Ao (i:Nat) (e:DE):DS:=λD U H=>e U H (λv H1=>D.nx (U.set i (some v)) H1) (D.ex U)
noncomputable abbrev DG:=TG
noncomputable def Ea (e:DE) (g:DG):DS:=λD U H=>e U H (λv H1=>g v U H1 D.nx) (D.ex U)
noncomputable abbrev DI:=St->Hp->(It->Hp->Prop)->EK->Prop
noncomputable def F0 (J:It) (g:DG) (tb:DS) (D:Outs) (U:St) (H:Hp):Prop:=∃ W:Nat->Nat->St->Hp->Prop,(∃ m,W 0 m U H) /\ ∀ i m U H,W i m U H ->
 (J.stop i H/\D.nx U H)\/(J.go i H /\ ∃ N:St->Hp->Prop,(∀ U' H',N U' H' -> ∃ m',m'<m/\W (i+1) m' U' H') /\ ∀ x H',J.yld i H x H'->g x U H' (λU2 H2=>tb (D.lp N) U2 H2))
noncomputable def Thaw (H0 H:Hp) (P:Hp->Prop):Prop:=P H \/ ∃ p o kvs,H0 p=some (.dK kvs)/\H p=some (.frz o (.dK kvs))/\P (upd H p (.dK kvs))
noncomputable def Outs.thw (D:Outs) (H:Hp):Outs:={ D with nx:=λU' H'=>Thaw H H' (D.nx U') }
noncomputable def Cb (wi:DI) (g:DG) (tb:DS):DS:=λD U H=>wi U H (λJ H1=>F0 J g tb (D.thw H) U H1) (D.ex U)
noncomputable def E8 (J:It) (g:DG) (tc:DT) (te:DE) (D:Addr) (R:Hp->Prop) (U:St) (H:Hp) (E:EK):Prop:=
 ∃ W:Nat->Nat->St->Hp->Prop,(∃ m,W 0 m U H) /\ ∀ i m U' H',W i m U' H' ->
  (J.stop i H'/\R H')\/(J.go i H' /\ ∃ N:St->Hp->Prop,(∀ U2 H2,N U2 H2 -> ∃ m',m'<m/\W (i+1) m' U2 H2) /\ ∀ x H2,J.yld i H' x H2->g x U' H2 (λU3 H3=>tc U3 H3 (λb H4=>if b=true then
    te U3 H4 (λv H5=>∃ ys,H5 D=some (.lst ys)/\ys.length<sizeLine/\N U3 (upd H5 D (.lst (ys++[v])))) E
   else N U3 H4) E))
noncomputable def A3 (srcs:List (Option Nat)) (wi:DI) (g:DG) (tc:DT) (te:DE):DE:=λU H Q E=>wi U H (λJ H1=>∀ D,H1 D=none->E8 J g tc te D (λH'=>Q (.ref D) H') (Ss srcs U) (upd H1 D (.lst [])) E) E
noncomputable def Cc:DT:=λ_ H Q _=>Q true H
noncomputable def gdN (i:Nat):DG:=λv U H Q=>Q (U.set i (some v)) H
open PySem.W
inductive TyX (K:ac) (H:Hp) (x:V) (t:ai):Prop where
 |of (h:TyOf K H x t)
 |sqT {a:Addr} {xs:List V} (ex:x=.ref a) (e:SqT K H a xs) (et:t=.type "tuple")
 |sqL {a:Addr} {xs:List V} (ex:x=.ref a) (e:SqL K H a xs) (et:t=.type "list")
section
variable {X:Cx} {pins:List (Addr×Obj)} {U:St} {H:Hp} {s:am} {A:bj} {E:ai->am->Prop} {a C:Addr} {fs:List (Str×V)}
theorem Ki {Q:ai->am->Prop} {c:ai} {b:Bool} {x:V} {u t:ai} (I:Inv X pins U H s) (rx:RelV x u) (ty:TyX X.K H x t) (e:fT X.K t c=some b) (h:∀ tk,Q (.bool b) { s with toks:=tk }) :
  aQ (model X.prog X.w) A (call (.builtin "isinstance") [u,c]) Q E s:=by
 cases ty with
 |of ty=>exact Nb I rx ty e h
 |@sqT a xs ex q et=>
  subst ex et
  cases (show u=bv a from rx)
  obtain⟨_,_,⟨o,h1,h2,_⟩,_⟩:=I.tuple q
  exact ce kD I.kIn ⟨o,h1,h2⟩ e (λz=>nomatch z) h
 |@sqL a xs ex q et=>
  subst ex et
  cases (show u=bv a from rx)
  obtain⟨_,_,⟨o,_,h1,h2,_⟩,_⟩:=I.list q
  exact ce iR I.kIn ⟨o,h1,h2⟩ e (λz=>nomatch z) h
variable {CX:CXT} {k:Nat} {f:Addr} {fd:a8} {ps:List Str} {sp:Sp} {dvs:List V} {ds us:List ai} {vs:List V} {Q:VK}
end
end L2
namespace L2
open PySem PySem.Spec PyProof.Rows
noncomputable def Ite (K:ac) (l:Addr):It:=
  ⟨λi H=>∃ xs x,SqL K H l xs/\xs[i]? = some x,
   λi H v H'=>∃ T x,H T=none/\v=.ref T/\(∀ xs,SqL K H l xs->xs[i]? = some x)/\H'=upd H T (.tup [.int i,x]),
   λi H=>∃ xs,SqL K H l xs/\xs.length<=i⟩
theorem Yy {P:aX} {w:bB} {K:ac} {elts:List Expr} {kt:Nat} {pt:Pos} {e it l:Addr} (ne:e≠it) :
  Lq P w K (.Tuple elts kt pt) (Ite K l) [e,it] e (λi h=>(∃ old,jy h e it (i:Int) old)/\h.IsListIter it l i) where
 mem:=by simp
 obj:=λi h st b hb=>by
  obtain⟨⟨old,he⟩,⟨o1,e1,c1,d1⟩⟩:=st
  have hb:b=e\/b=it:=by simpa using hb
  rcases hb with rfl|rfl
  .exact⟨_,he,λv q=>nomatch q⟩
  .exact⟨o1,e1,λv q=>by rw[d1] at q;cases q⟩
 keep:=λi h h' st k=>by
  obtain⟨⟨old,he⟩,h1⟩:=st
  exact⟨⟨old,k e (by simp) _ he⟩,h1.at λo q=>k it (by simp) o q⟩
 item:=by
  intro X hP hw hK hc i pins s U H E I hf st hg
  subst hP hw hK
  obtain⟨xs,x,q1,hx⟩:=hg
  obtain⟨its1,r1,p1,z1⟩:=I.list q1
  obtain⟨u,hu,ru⟩:=r1.get hx
  obtain⟨⟨old,he⟩,h1⟩:=st
  refine wpAny_pyNext_enum_item he h1 p1.isList (x:=u) (by simpa using hu) ne λh' a1 a2 a3 a4 hk=>?_
  refine⟨_,rfl,iq a1 λh'' hz' hs'=>?_⟩
  have hT:=I.hok.fresh (ah s.heap.objs.size)
  have up':∀ b o,b∉[e,it]->s.heap.get? b=some o->h''.get? b=some o:=λb o hb q=>by
   have b1:b≠e:=by rintro rfl;exact hb (by simp)
   have b2:b≠it:=by rintro rfl;exact hb (by simp)
   exact hs'.extBut b o b1 (hk b o b1 b2 q)
  have nT:∀ {b o},s.heap.get? b=some o->b≠s.heap.objs.size:=λq=>aJ (aD q)
  have Tnew:h''.get? s.heap.objs.size=some { cls:=.type "tuple", data:=.seq #[.int i s.toks,u] }:=hs'.extBut _ _ (cy (nT he)) a3
  have I1:Inv X pins U (upd H s.heap.objs.size (.tup [.int i,x])) { s with heap:=h'',toks:=s.toks+1 }:=
   I.turnedN (t':=s.toks+1) (ch:=[e,it]) (λb hb=>hf b hb) up' (ah _) ⟨by show 2<=sizeLine;decide,[.int i s.toks,u],.cons ⟨_,rfl⟩ (.cons ru .nil),⟨_,Tnew,rfl,_,rfl⟩⟩
  refine⟨.ref s.heap.objs.size,_,I1,rfl,⟨s.heap.objs.size,x,hT,rfl,λxs' h'=>by rw[I.list_inj h' q1];exact hx,rfl⟩,⟨⟨_,hz'⟩,a2.at λo q=>hs'.extBut _ o (cy ne) q⟩,λb hb=>?_⟩
  have q:=(hf b hb).1
  rw[Ad ?_]
  .exact q
  .have hb:b=e\/b=it:=by simpa using hb
   rcases hb with rfl|rfl
   .exact nT he
   .obtain⟨_,q,_⟩:=h1;exact nT q
 done:=by
  intro X hP hw hK hc i pins s U H E I hf st hg
  subst hP hw hK
  obtain⟨xs,q1,hx⟩:=hg
  obtain⟨its1,r1,p1,z1⟩:=I.list q1
  have e1:=r1.length
  obtain⟨⟨old,he⟩,h1⟩:=st
  refine wpAny_pyNext_enum_end (I.ok.hd hc) he h1 p1.isList (by simp;omega) λh' hk=>⟨rfl,?_⟩
  refine I.turnedL (t':=s.toks) (ch:=[e,it]) (λb hb=>hf b hb) λb o hb q=>?_
  have b2:b≠it:=by rintro rfl;exact hb (by simp)
  exact hk b o b2 q
 self:=λA i s Q E st h=>let ⟨_,he⟩:=st.1;gO he h
section
variable {X:Cx} {pins:List (Addr×Obj)} {U U0:St} {H H0:Hp} {s s0:am} {p:Addr} {kvs:List (Key×V)} {o:Obj}
noncomputable def Xc (o:Obj) (ep:Nat):Prop:=∃ es,o.data=.dict es ep
theorem Inv.froze (I:Inv X pins U H s) (h:H p=some (.dK kvs)):∃ ob ep,s.heap.get? p=some ob/\Xc ob ep/\Inv X pins U (upd H p (.frz ob (.dK kvs))) s:=by
 have K:=I.hok p _ h
 obtain⟨z,y,vs,r,ob,es,ep,e,c,d,q⟩:=id K
 refine⟨ob,ep,e,⟨es,d⟩,?_⟩
 exact I.write (x:=p) (e:=p) (t':=s.toks) (h':=s.heap) (by rw[h];trivial) (.inl rfl) (λb u _ q=>q) ⟨ob,e⟩ ⟨e,K⟩
theorem Inv.thaw (I0:Inv X pins U0 H0 s0) (h0:H0 p=some (.dK kvs)) (I:Inv X pins U H s) (h:H p=some (.frz o (.dK kvs))):Inv X pins U (upd H p (.dK kvs)) s:=by
 have ne:∀ b,H b=none->b≠p:=λb e z=>by rw[z,h] at e;cases e
 have ntup:∀ b xs,H b=some (.tup xs)->b≠p:=λb xs e z=>by rw[z,h] at e;cases e
 have nown:∀ b c,H b=some (.own c)->b≠p:=λb c e z=>by rw[z,h] at e;cases e
 refine⟨I.ok,I.os,I.bare,⟨I.base.keep,I.base.slot,λb ob e n hx=>?_,I.base.there,λb xs e=>?_,λb ob u e=>?_,λb ps e=>?_⟩,I.loc,I.cell,?_,λx c e=>?_,λq hq=>?_,λb u e=>?_,I.len⟩
 .have q:=I.base.free b ob e n hx
  rw[Ad (ne b q)];exact q
 .have q:=I.base.tups b xs e
  rw[Ad (ntup b xs q)];exact q
 .have q:=I.base.frzs b ob u e
  have n:b≠p:=λz=>by
   have q0:=I0.base.frzs b ob u e
   rw[z,h0] at q0;cases q0
  rw[Ad n];exact q
 .obtain⟨more,q⟩:=I.base.tbls b ps e
  have n:b≠p:=λz=>by rw[z,h] at q;cases q
  exact⟨more,by rw[Ad n];exact q⟩
 .rw[Ad (ne _ I.free)];exact I.free
 .have q:=I.freeC x c e
  rw[Ad (ne _ q)];exact q
 .obtain⟨a,b,c⟩:=I.pin q hq
  exact⟨a,by rw[Ad (ne _ b)];exact b,c⟩
 .by_cases z:b=p
  .subst z
   rw[Aa] at e
   cases e
   exact (I.hok b _ h).2
  .rw[Ad z] at e
   exact (I.hok b u e).stay (λ_ _ _ q=>q) (λc q=>by rw[Ad (nown c b q)];exact q) λc xs q=>by rw[Ad (ntup c xs q)];exact q
theorem Thaw.inv {P:Hp->Prop} (I0:Inv X pins U0 H0 s0) (I:Inv X pins U H s) (t:Thaw H0 H P):∃ H',Inv X pins U H' s/\P H':=by
 rcases t with t|⟨p,o,kvs,h0,h,t⟩
 .exact⟨H,I,t⟩
 .exact⟨_,I0.thaw h0 I h,t⟩
theorem Inv.kdict (I:Inv X pins U H s) (h:H p=some (.frz o (.dK kvs))) {ep:Nat} (he:Xc o ep):∃ vs,KV kvs vs/\s.heap.DictAt (Bd X.prog X.w) p vs ep/\(p==du)=false:=by
 obtain⟨e1,z,y,vs,r,ob,es,ep',e,c,d,q⟩:=I.hok p _ h
 obtain⟨es',d'⟩:=he
 rw[e1] at e
 cases e
 have d2:=d
 rw[d'] at d2
 cases d2
 exact⟨vs,r,⟨o,_,e1,c,d,q⟩,y⟩
end
noncomputable def Itd (p:Addr) (o:Obj) (kvs:List (Key×V)):It:=
 ⟨λi H=>H p=some (.frz o (.dK kvs))/\i<kvs.length,λi H x H'=>H'=H /\ ∃ k v,kvs[i]? = some (k,v)/\x=kV k,λi H=>H p=some (.frz o (.dK kvs))/\kvs.length<=i⟩
theorem Wf:∀ {kvs:List (Key×V)} {vs:List (Key×ai)} {i:Nat} {k:Key} {v:V},KV kvs vs->kvs[i]? = some (k,v) -> ∃ u,vs[i]? = some (k,u)/\RelV v u
 | _,_,0,k,v,.cons (b:=q) r _,e=>by
  simp only[dA,fJ] at e
  subst e
  exact⟨q.2,congrArg some (Prod.ext r.1.symm rfl),r.2⟩
 | _,_,i+1,k,v,.cons r t,e=>by
  simp only[bx] at e ⊢
  exact Wf t e
theorem ac6 {P:aX} {w:bB} {k:Key} {u:ai} (h:(Bd P w).is k u=true):RelV (kV k) u:=by
 cases k with
 |inl i=>obtain⟨t,rfl⟩:=Value.isInt_shape (show lG i u=true from h);exact⟨t,rfl⟩
 |inr z=>obtain⟨t,rfl⟩:=kl (show g9 z u=true from h);exact⟨t,rfl⟩
theorem Yx {P:aX} {w:bB} {K:ac} {tg:Expr} (p it:Addr) (o:Obj) (kvs:List (Key×V)) {ep:Nat} (he:Xc o ep):Lq P w K tg (Itd p o kvs) [it] it (λi h=>h.IsKeyIter it p i kvs.length ep) where
 mem:=by simp
 obj:=λi h st b hb=>by
  have e:b=it:=by simpa using hb
  subst e
  obtain⟨o,e,c,d⟩:=st
  exact⟨o,e,λv z=>by rw[d] at z;cases z⟩
 keep:=λi h h' st k=>st.at λo e=>k it (by simp) o e
 item:=by
  intro X hP hw hK hc i pins s U H E I hf st hg
  subst hP hw hK
  obtain⟨hH,hi⟩:=hg
  obtain⟨vs,rel,hd,hm⟩:=I.kdict hH he
  obtain⟨f0,f1,f2,f3,f4,f5⟩:=hf it (by simp)
  obtain⟨⟨k,v⟩,hx⟩:∃ q,kvs[i]? = some q:=⟨kvs[i],by simp[hi]⟩
  obtain⟨u,hu,_⟩:=Wf rel hx
  have hl:kvs.length=vs.length:=rel.length
  rw[hl] at st
  refine ju st hd hu λkey h' hk st' sb=>?_
  have I1:Inv X pins U H { s with heap:=h' }:=I.turned (t':=s.toks) (λb o hb e=>sb.extBut b o hb e) f0 f1 f3 f4 f5
  obtain⟨o1,e,c,d⟩:=id st'
  exact⟨key,rfl,Ke (s:={ s with heap:=h' }) e c d (by decide) ⟨kV k,H,I1,ac6 hk,⟨rfl,k,v,hx,rfl⟩,by rw[hl];exact st',λb hb=>(hf b hb).1⟩⟩
 done:=by
  intro X hP hw hK hc i pins s U H E I hf st hg
  subst hP hw hK
  obtain⟨hH,hi⟩:=hg
  obtain⟨vs,rel,hd,hm⟩:=I.kdict hH he
  obtain⟨f0,f1,f2,f3,f4,f5⟩:=hf it (by simp)
  have hl:kvs.length=vs.length:=rel.length
  rw[hl] at st
  exact wpAny_pyNext_dict_end (I.ok.hd hc) st hd (by simp;omega) λh' eb=>⟨rfl,I.turned (t':=s.toks) (λb o hb e=>eb b o hb e) f0 f1 f3 f4 f5⟩
 self:=λ_ _ _ _ _ st h=>jW st h
theorem ar9 {X:Cx} {tg:Expr} {pins:List (Addr×Obj)} {U:St} {H:Hp} {s:am} {R:It->Hp->Prop} {E:ai->am->Prop} {p:Addr} {o:Obj} {kvs:List (Key×V)} (I:Inv X pins U H s) (h:H p=some (.frz o (.dK kvs)))
  (q:R (Itd p o kvs) H):aQ (model X.prog X.w) X.A (lN (.ref p)) (PIE X pins U tg R) E s:=by
 have he:∃ ep,Xc o ep:=by
  obtain⟨e1,z,y,vs,r,ob,es,ep,e,c,d,_⟩:=I.hok p _ h
  rw[e1] at e;cases e
  exact⟨ep,es,d⟩
 obtain⟨ep,he⟩:=he
 obtain⟨vs,rel,hd,hm⟩:=I.kdict h he
 refine fM hm hd ?_
 refine⟨s.heap.objs.size,[s.heap.objs.size],_,_,H,rfl,I.kept (t':=s.toks) λb o e=>aj _ e,Yx p _ o kvs he,⟨_,aB _ rfl,rfl,by rw[rel.length];rfl⟩,λb hb=>?_,q⟩
 have e:b=s.heap.objs.size:=by simpa using hb
 subst e
 exact I.fpOk (ah _) (I.hok.fresh (ah _))
section
variable {prog:aX} {w:bB} {A:bj} {E:ai->am->Prop} {s:am} {d it:Addr} {ob:Obj} {es:Array lB} {ep i:Nat}
theorem as2 {Q:ai->am->Prop} (nm:(d==du)=false) (g:s.heap.get? d=some ob) (c:ob.ExactDict) (e:ob.data=.dict es ep)
  (q:Q (.ref s.heap.objs.size) { s with heap:=s.heap.push { cls:=.type "dict_keyiterator", data:=.fields #[.ref d,.int 0 0,.int es.size 0,.int ep 0] } }):aQ (model prog w) A (lN (.ref d)) Q E s:=by
 have T:s.TypeIs (.ref d) "dict" := ⟨ob,g,c.1⟩
 refine wpAny_pyIter_slot T F.slot_dict_iter (cI F.slot_dict_iter T F.entry_dict_iter ?_ (F.args_dict_iter_1 _))
 unfold aK.«dict.__iter__»
 refine af ?_
 unfold Builtin.Dict.dictSlotNone
 refine af (wpAny_notOrdered_dict T (show aQ _ _ (pure (bv d)) _ _ s from ao ?_))
 show aQ _ _ (jv d >>= _) _ _ s
 unfold jv
 rw[if_neg (by rw[nm];exact av)]
 refine af (ao (af (eh g e (af (fF g e ?_)))))
 refine af (c9 (ao ⟨_,rfl, "dict_keyiterator", _,⟨_,aB _ rfl,rfl⟩,F.slot_dict_keyiterator_next.lookup,?_⟩))
 simpa [eE] using q
theorem as1 {Q:Option ai->am->Prop} (t:s.heap.IsKeyIter it d i es.size ep) (g:s.heap.get? d=some ob) (e:ob.data=.dict es ep) (hi:i<es.size)
  (q:∀ h',h'.IsKeyIter it d (i+1) es.size ep->a9 it s.heap h'->Q (some es[i].key) { s with heap:=h' }):aQ (model prog w) A (f9 (.ref it)) Q E s:=by
 obtain⟨o,ho,hc,hd⟩:=id t
 unfold f9
 refine af (fL (cz (name:=cU "__next__") t.typeIs bV (cI bV t.typeIs eU ?_ (eu _))))
 refine af (ao (af (af ?_)))
 first|refine af (cf t.typeIs (ao ?_))|refine af (cL t.typeIs (ao ?_))
 refine af (dX ho hd ?_)
 simp only[show cM "dict_keyiterator" = false by decide,bq,if_false]
 show aQ _ _ (if (bv d==bi)=true then _ else _) _ _ s
 rw[if_neg (show ¬ ((bv d==bi)=true) from av)]
 refine af (ao (af (eh g e ?_)))
 rw[if_neg (by simp)]
 refine af (ao (af (fF g e ?_)))
 rw[if_neg (by simp)]
 refine ao ?_
 simp only[show ¬ ((i:Int)<0) from by omega,if_false,aT,dS hi]
 refine af ?_
 first|refine af (cf t.typeIs (ao ?_))|refine af (cL t.typeIs (ao ?_))
 refine af (jL t.typeIs ?_)
 show aQ _ _ (jQ (.ref it) 1 (eE ((i:Int)+1)) >>= _) _ _ s
 refine af (iE ho hd (by simp) ?_)
 have t':(s.heap.update it (Obj.mapFields (·.setIfInBounds 1 (eE ((i:Int)+1))))).IsKeyIter it d (i+1) es.size ep:=
  ⟨_,dP _ ho (Obj.isFreed_of_fields (kC hd _)),(Obj.cls_mapFields ..).trans hc,by rw[kC hd];simp[eE]⟩
 refine af (cb (af (jL (s:={ s with heap:=s.heap.update it (Obj.mapFields (·.setIfInBounds 1 (eE ((i:Int)+1)))) }) t'.typeIs ?_)))
 show aQ _ _ (pure es[i].key) _ _ _
 exact ao (ao ⟨_,rfl,ao (q _ t' (bD ..))⟩)
theorem a51 {Q:Option ai->am->Prop} (hh:A.handled=none) (t:s.heap.IsKeyIter it d i es.size ep) (g:s.heap.get? d=some ob) (e:ob.data=.dict es ep) (hi:es.size<=i)
  (q:∀ h',j9 it s.heap h'->Q none { s with heap:=h' }):aQ (model prog w) A (f9 (.ref it)) Q E s:=by
 obtain⟨o,ho,hc,hd⟩:=id t
 unfold f9
 refine af (fL (cz (name:=cU "__next__") t.typeIs bV (cI bV t.typeIs eU ?_ (eu _))))
 refine af (ao (af (af ?_)))
 first|refine af (cf t.typeIs (ao ?_))|refine af (cL t.typeIs (ao ?_))
 refine af (dX ho hd ?_)
 simp only[show cM "dict_keyiterator" = false by decide,bq,if_false]
 show aQ _ _ (if (bv d==bi)=true then _ else _) _ _ s
 rw[if_neg (show ¬ ((bv d==bi)=true) from av)]
 refine af (ao (af (eh g e ?_)))
 rw[if_neg (by simp)]
 refine af (ao (af (fF g e ?_)))
 rw[if_neg (by simp)]
 refine ao ?_
 simp only[show ¬ ((i:Int)<0) from by omega,if_false,aT,gu hi]
 refine af ?_
 first|refine af (cf t.typeIs (ao ?_))|refine af (cL t.typeIs (ao ?_))
 show aQ _ _ (jQ (.ref it) 0 .none >>= _) _ _ s
 refine af (iE ho hd (by simp) ?_)
 show aQ _ _ (mh (.type "StopIteration") [] >>= _) _ _ _
 refine af ?_
 simp only[mh,l9]
 refine af (c9 ?_ (by size_fits))
 refine af (m:=fV _ _) (lP (a:=bi) (by first|rfl|(simp only[fV];rfl)) ?_)
 refine c9 ?_ (by size_fits)
 simp only[raiseNew]
 refine af (kM ?_)
 rw[show A.in1.handled=none from hh]
 refine af (ao (lQ ?_))
 refine af (fX (T := "StopIteration") (b:=true) ⟨_,aB _ rfl,rfl⟩ j6 ?_)
 exact ao (q _ (((bD ..).extBut.push _).push _))
end
section
variable {X:Cx} {pins:List (Addr×Obj)} {U:St} {H:Hp} {s:am} {p:Addr} {kvs:List (TK×V)} {o:Obj}
theorem Inv.frozeT (I:Inv X pins U H s) (h:H p=some (.dT kvs)):∃ ob,Inv X pins U (upd H p (.frz ob (.dT kvs))) s:=by
 have K:=I.hok p _ h
 obtain⟨z,y,vs,r,ob,es,ep,e,c,d,q⟩:=id K
 exact⟨ob,I.write (x:=p) (e:=p) (t':=s.toks) (h':=s.heap) (by rw[h];trivial) (.inl rfl) (λb u _ q=>q) ⟨ob,e⟩ ⟨e,K.stay (λ_ _ _ q=>q) (λc q=>by rw[Ad λz=>by rw[z,h] at q;cases q];exact q) λc xs q=>by rw[Ad λz=>by rw[z,h] at q;cases q];exact q⟩⟩
theorem Inv.tdict (I:Inv X pins U H s) (h:H p=some (.frz o (.dT kvs))):∃ es ep,s.heap.get? p=some o/\o.ExactDict/\o.data=.dict es ep/\(p==du)=false/\es.size=kvs.length /\ ∀ (i:Nat) (hi:i<es.size),∃ k v b,kvs[i]? = some (k,v)/\es[i].key=.ref b/\Ar k<=8/\TkAt H k (.ref b):=by
 obtain⟨e1,z,y,xs,r,ob,es,ep,e,c,d,q,_⟩:=I.hok p _ h
 rw[e1] at e
 cases e
 have hl:es.size=kvs.length:=by
  have:=congrArg b9 q
  rw[ae] at this
  rw[r.length,<- this,bU]
 refine⟨es,ep,e1,c,d,y,hl,λi hi=>?_⟩
 have all:∀ {l:List (TK×V)} {m:List (TK×Addr×ai)} {j:Nat} {x:TK×Addr×ai},g6 (λ(p:TK×V) (q:TK×Addr×ai)=>p.1=q.1/\(Ar p.1<=8/\TkAt H p.1 (.ref q.2.1))/\RelV p.2 q.2.2) l m->m[j]? = some x -> ∃ k v,l[j]? = some (k,v)/\Ar k<=8/\TkAt H k (.ref x.2.1):=by
  intro l m j x q
  induction q generalizing j with
  |nil=>intro e;simp at e
  |@cons a b _ _ hq t ih=>
   intro e
   cases j with
   |zero=>cases e;exact⟨a.1,a.2,rfl,hq.2.1⟩
   |succ j=>exact ih (by simpa using e)
 have hx:i<xs.length:=by
  have:=congrArg b9 q
  rw[ae,bU] at this
  omega
 obtain⟨k,v,e2,e3⟩:=all r (ag hx)
 refine⟨k,v,(xs[i]).2.1,e2,?_,e3⟩
 have:es.toList[i]? = some (entryOfKey (C8 X.prog X.w) xs[i]):=by rw[q,ak,ag hx];rfl
 rw[cJ,dS hi] at this
 rw[aH this]
 rfl
end
noncomputable def aq4 (p:Addr) (o:Obj) (kvs:List (TK×V)):It:=
 ⟨λi H=>H p=some (.frz o (.dT kvs))/\i<kvs.length,λi H x H'=>H'=H /\ ∃ k v,kvs[i]? = some (k,v)/\Ar k<=8/\TkAt H k x /\ ∃ b,x=.ref b,λi H=>H p=some (.frz o (.dT kvs))/\kvs.length<=i⟩
theorem az5 {P:aX} {w:bB} {K:ac} {tg:Expr} (p it:Addr) (o:Obj) (kvs:List (TK×V)) {es:Array lB} {ep:Nat} (he:o.data=.dict es ep):Lq P w K tg (aq4 p o kvs) [it] it (λi h=>h.IsKeyIter it p i es.size ep) where
 mem:=by simp
 obj:=λi h st b hb=>by
  have e:b=it:=by simpa using hb
  subst e
  obtain⟨o,e,c,d⟩:=st
  exact⟨o,e,λv z=>by rw[d] at z;cases z⟩
 keep:=λi h h' st k=>st.at λo e=>k it (by simp) o e
 item:=by
  intro X hP hw hK hc i pins s U H E I hf st hg
  subst hP hw hK
  obtain⟨hH,hi⟩:=hg
  obtain⟨es',ep',g,c,d,_,hl,hk⟩:=I.tdict hH
  rw[he] at d
  cases d
  obtain⟨f0,f1,f2,f3,f4,f5⟩:=hf it (by simp)
  have hi':i<es.size:=by omega
  obtain⟨k,v,b,e1,e2,e3,e4⟩:=hk i hi'
  refine as1 st g he hi' λh' st' sb=>?_
  have I1:Inv X pins U H { s with heap:=h' }:=I.turned (t':=s.toks) (λb o hb e=>sb.extBut b o hb e) f0 f1 f3 f4 f5
  obtain⟨o1,e,c,d⟩:=id st'
  exact⟨_,rfl,Ke (s:={ s with heap:=h' }) e c d (by decide) ⟨.ref b,H,I1,e2,⟨rfl,k,v,e1,e3,e4,b,rfl⟩,st',λb hb=>(hf b hb).1⟩⟩
 done:=by
  intro X hP hw hK hc i pins s U H E I hf st hg
  subst hP hw hK
  obtain⟨hH,hi⟩:=hg
  obtain⟨es',ep',g,c,d,_,hl,hk⟩:=I.tdict hH
  rw[he] at d
  cases d
  obtain⟨f0,f1,f2,f3,f4,f5⟩:=hf it (by simp)
  exact a51 (I.ok.hd hc) st g he (by omega) λh' eb=>⟨rfl,I.turned (t':=s.toks) (λb o hb e=>eb b o hb e) f0 f1 f3 f4 f5⟩
 self:=λ_ _ _ _ _ st h=>jW st h
theorem bk2 {X:Cx} {tg:Expr} {pins:List (Addr×Obj)} {U:St} {H:Hp} {s:am} {R:It->Hp->Prop} {E:ai->am->Prop} {p:Addr} {kvs:List (TK×V)} (I:Inv X pins U H s) (h:H p=some (.dT kvs))
  (q:∀ o,R (aq4 p o kvs) (upd H p (.frz o (.dT kvs)))):aQ (model X.prog X.w) X.A (lN (.ref p)) (PIE X pins U tg R) E s:=by
 obtain⟨o,I1⟩:=I.frozeT h
 obtain⟨es,ep,g,c,d,nm,hl,_⟩:=I1.tdict Aa
 refine as2 nm g c d ?_
 refine⟨s.heap.objs.size,[s.heap.objs.size],_,_,_,rfl,I1.kept (t':=s.toks) λb o e=>aj _ e,az5 p _ o kvs d,⟨_,aB _ rfl,rfl,rfl⟩,λb hb=>?_,q o⟩
 have e:b=s.heap.objs.size:=by simpa using hb
 subst e
 exact I1.fpOk (ah _) (I1.hok.fresh (ah _))
end L2
namespace PySem
theorem Sem.wp_never {α:Type} (M:Model) (Γ:Ctx):∀ (t:Sem α) (p:Pos) (s:am),Sem.wp M Γ t (λ_ _ _=>False) (λ_ _ _=>False) p s->False:=by
 intro t
 induction t with
 |pure a=>intro p s h;exact h
 |raise e=>intro p s h;exact h
 |unsupported w=>intro p s h;exact h
 |finish e=>intro p s h;exact h
 |rule tag k ih=>intro p s h;exact ih () p s h
 |«at» q k ih=>intro p s h;exact ih () q s h
 |load a part k ih=>intro p s h;obtain⟨o,_,h⟩:=h;exact ih o p s h
 |update a part f k ih=>intro p s h;exact ih () p _ h.2
 |alloc o k ih=>intro p s h;exact ih _ p _ h
 |loadIfAlive a k ih=>intro p s h;exact ih _ p s h
 |point l k ih=>intro p s h;exact ih () p s h
 |register a k ih=>intro p s h;exact h
 |fresh k ih=>intro p s h;exact ih _ p _ h
 |ask k ih=>intro p s h;exact ih _ p s h
 |choose src n k ih=>intro p s h;exact ih _ p _ h.2
 |os q l k ih=>intro p s h;exact ih _ p _ h
 |call c hd g l k ih=>intro p s h;obtain⟨r,s',_,h⟩:=h;exact ih r p s' h
 |handled own k ih=>intro p s h;exact ih _ p s h
 |newGen c k ih=>intro p s h;exact ih _ p _ h
 |genState g k ih=>intro p s h;obtain⟨st,_,h⟩:=h;exact ih _ p s h
 |resume g r l k ih=>intro p s h;obtain⟨res,s',_,h⟩:=h;exact ih res p s' h
 |yield v g l k ih=>intro p s h;exact h
 |stack k ih=>intro p s h;exact ih _ p s h
 |fork c k ih=>intro p s h;exact h
 |thread k ih=>intro p s h;first|exact ih _ p s h|exact h
 |await a tk d l k ih=>intro p s h;first|exact h|exact ih _ p s h
section
variable {prog:aX} {w:bB} {A:bj} {E:ai->am->Prop} {s:am}
theorem X8 {v:ai} {P:ai->am->Prop} (h:aQ (model prog w) A (f9 v) (λr s'=>∃ u,r=some u/\P u s') (λ_ _=>False) s):aQ (model prog w) A (bF v) P E s:=by
 intro Γ p hΓ
 have h:=h Γ p hΓ
 unfold f9 Sem.attempt at h
 unfold bF
 rw[lq,Sem.wp_tryCatch,Sem.wp_bind] at h
 rw[lq]
 refine Sem.wp_mono _ _ _ (λo p' s' q=>?_) (λe p' s' q=>?_) p s h
 .cases o with
  |none=>exact (show False from q).elim
  |some u=>
   obtain⟨u',e,q⟩:=q
   cases e
   exact q
 .refine (Sem.wp_never (model prog w) Γ (isInstance e (.type "StopIteration")) p' s' ?_).elim
  have q:Sem.wp (model prog w) Γ (isInstance e (.type "StopIteration") >>= λb=>if b=true then pure none else throw e) (λr _ s'=>∃ u,r=some u/\P u s') (λ_ _ _=>False) p' s':=q
  rw[lq] at q
  refine Sem.wp_mono _ _ _ (λb p2 s2 q=>?_) (λ_ _ _ z=>z) p' s' q
  cases b with
  |true=>obtain⟨u,z,_⟩:=q;cases z
  |false=>exact q
variable {κ:Type} [DecidableEq κ] {knd:KeyKind prog w κ} {d it:Addr} {ep i:Nat} {kvs:List (κ×ai)}
theorem Iy {Q:ai->am->Prop} (hh:A.handled=none) (hit:s.heap.IsKeyIter it d i kvs.length ep) (hm:s.heap.DictAt knd d kvs ep) (hx:kvs[i]? = none)
  (hE:∀ h' x,j9 it s.heap h'->(∃ o,h'.get? x=some o/\o.cls=.type "StopIteration")->E (.ref x) { s with heap:=h' }):aQ (model prog w) A (bF (.ref it)) Q E s:=by
 have ⟨oi,ei,ci,di⟩:=hit
 have ⟨od,es,ed,_,dd,_,pr,_⟩:=hm
 have size:es.size=kvs.length:=pr.length▸(by simp)
 have past:es.size<=i:=by rw[size];simpa using hx
 have own:cM "dict_keyiterator" = false:=by decide
 have nx:¬ ((i:Int)<0):=by omega
 have noNone:¬ ((bv d==bi)=true):=av
 unfold bF
 refine af (cz (name:=cU "__next__") hit.typeIs bV (cI bV hit.typeIs eU ?_ (eu _)))
 refine af (ao (af (af ?_)))
 first|refine af (cf hit.typeIs (ao (af (dX ei di ?_))))|refine af (cL hit.typeIs (ao (af (dX ei di ?_))))
 simp only[own,bq,if_false]
 show aQ _ _ (if (bv d==bi)=true then _ else _) _ _ s
 rw[if_neg noNone]
 refine af (ao (af (eh ed dd ?_)))
 rw[if_neg (show ¬ _ by rw[size];simp)]
 refine af (ao (af (fF ed dd ?_)))
 rw[if_neg (show ¬ _ by simp)]
 refine ao ?_
 simp only[nx,if_false,aT,gu past]
 refine af ?_
 first|refine af (cf hit.typeIs (ao ?_))|refine af (cL hit.typeIs (ao ?_))
 show aQ _ _ (jQ (.ref it) 0 .none >>= λ_=>mh (.type "StopIteration") [] >>= _) _ _ s
 refine af (iE ei di (by simp) (af ?_))
 simp only[mh,l9]
 refine af (c9 (af (m:=fV _ _) (lP (a:=bi) (by first|rfl|(simp only[fV];rfl)) (c9 ?_ (by size_fits)))) (by size_fits))
 simp only[raiseNew]
 refine af (kM ?_)
 rw[show A.in1.handled=none from hh]
 refine af (ao (lQ ?_))
 exact hE _ _ (((bD ..).extBut.push _).push _) ⟨_,aB _ rfl,rfl⟩
theorem Hv {k:κ} {v:ai} {Q:ai->am->Prop} (hit:s.heap.IsKeyIter it d i kvs.length ep) (hm:s.heap.DictAt knd d kvs ep) (hx:kvs[i]? = some (k,v))
  (hQ:∀ key h',knd.is k key=true->h'.IsKeyIter it d (i+1) kvs.length ep->a9 it s.heap h'->Q key { s with heap:=h' }):aQ (model prog w) A (bF (.ref it)) Q E s:=
 X8 (ju hit hm hx λkey h' a b c=>⟨key,rfl,hQ key h' a b c⟩)
theorem Xp {e:Addr} {old:ai} {J:ai->Heap->Prop} {Q:ai->am->Prop} (he:jy s.heap e it i old) (hne:e≠it)
  (nx:∀ (A:bj) (P:ai->am->Prop) (E:ai->am->Prop),(∀ x h1,J x h1->a9 it s.heap h1->P x { s with heap:=h1 })->aQ (model prog w) A (bF (.ref it)) P E s)
  (hJ:∀ x h1 h2,J x h1->(∀ o,h1.get? it=some o->h2.get? it=some o)->J x h2)
  (hQ:∀ x h',IsEnumOut h' e it ((i:Int)+1) x s.heap.objs.size->J x h'->h'.get? s.heap.objs.size=some { cls:=.type "tuple", data:=.seq #[.int i s.toks,x] } ->
   (∀ b o,b≠e->b≠it->s.heap.get? b=some o->h'.get? b=some o)->Q (.ref s.heap.objs.size) { s with heap:=h',toks:=s.toks+1 }) :
  aQ (model prog w) A (aK.«enumerate.__next__» ⟨[.ref e],[]⟩) (λfin s'=>∃ v,fin=.done (.ret v)/\Q v s') E s:=by
 have lt:e<s.heap.objs.size:=aD he
 obtain⟨h0,gs,dr,tk,ops⟩:=s
 show aQ _ _ (field (.ref e) 2 >>= λz=>bF z >>= _) _ _ _
 refine af (eQ he rfl (x:=.ref it) rfl (af (nx _ _ _ λx h1 j1 s1=>?_)))
 have k1:a9 it h0 h1:=s1
 have e1:jy h1 e it i old:=(k1.2 e hne).trans he
 refine af (eQ (s:=⟨h1,gs,dr,tk,ops⟩) e1 rfl (x:=eE i) rfl ?_)
 refine af (m:=field (.ref e) 4) (eQ (s:=⟨h1,gs,dr,tk,ops⟩) e1 rfl (x:=.none) rfl ?_)
 show aQ _ _ (mkInt i >>= _) _ _ ⟨h1,gs,dr,tk,ops⟩
 refine af (wpAny_mkInt ?_)
 show aQ _ _ (jQ (.ref e) 3 (eE ((i:Int)+1)) >>= λ_=>jQ (.ref e) 4 .none >>= _) _ _ ⟨h1,gs,dr,tk+1,ops⟩
 refine af (b5 e1 (by simp) λh2 e2 s2=>af (b5 (s:=⟨h2,gs,dr,tk+1,ops⟩) (show jy h2 e it ((i:Int)+1) old from e2) (by simp) λh3 e3 s3=>?_))
 have k2:a9 e h1 h2:=s2
 have k3:a9 e h2 h3:=s3
 have e3:jy h3 e it ((i:Int)+1) old:=e3
 show aQ _ _ (l9 [.int i tk,x] >>= _) _ _ ⟨h3,gs,dr,tk+1,ops⟩
 refine af (gS ?_)
 have size:h3.objs.size=h0.objs.size:=by rw[k3.1,k2.1,k1.1]
 have up:∃ h4:Heap,h4=h3.push { cls:=.type "tuple", data:=.seq #[.int i tk,x] }:=⟨_,rfl⟩
 obtain⟨h4,eh4⟩:=up
 rw[<- eh4]
 have e4:jy h4 e it ((i:Int)+1) old:=by rw[eh4];exact aj _ e3
 have t4:h4.get? h0.objs.size=some { cls:=.type "tuple", data:=.seq #[.int i tk,x] }:=by rw[eh4,<- size];exact aB _ rfl
 have j4:J x h4:=hJ x h1 h4 j1 λo q=>by rw[eh4];exact aj _ (k3.extBut it o (cy hne) (k2.extBut it o (cy hne) q))
 have all4:∀ b o,b≠e->b≠it->h0.get? b=some o->h4.get? b=some o:=λb o b1 b2 q=>by
  rw[eh4]
  exact aj _ (k3.extBut b o b1 (k2.extBut b o b1 (k1.extBut b o b2 q)))
 show aQ _ _ (fY (.ref e) >>= _) _ _ ⟨h4,gs,dr,tk+1,ops⟩
 rw[size]
 refine af ?_
 unfold fY
 refine af (eQ e4 rfl (x:=.none) rfl (ao ?_))
 simp only[if_true]
 refine af (k0 (af (eQ e4 rfl (x:=old) rfl (af (b5 e4 (by simp) λh5 e5 s5=>?_)))))
 have e5:jy h5 e it ((i:Int)+1) x:=e5
 have k5:a9 e h4 h5:=s5
 show aQ _ _ (fP (.ref e) (.ref h0.objs.size) >>= _) _ _ ⟨h5,gs,dr,tk+1,ops⟩
 refine af ?_
 unfold fP
 refine af (b5 e5 (by simp) λh6 e6 s6=>b5 (s:=⟨h6,gs,dr,tk+1,ops⟩) (show IsEnumOut h6 e it ((i:Int)+1) x h0.objs.size from e6) (by simp) λh7 e7 s7=>?_)
 have k6:a9 e h5 h6:=s6
 have k7:a9 e h6 h7:=s7
 have on:∀ b o,b≠e->h4.get? b=some o->h7.get? b=some o:=λb o n q=>k7.extBut b o n (k6.extBut b o n (k5.extBut b o n q))
 exact af (kr (ao ⟨_,rfl,hQ x h7 e7 (hJ x h4 h7 j4 λo q=>on it o (cy hne) q) (on _ _ (eC lt) t4) λb o b1 b2 q=>on b o b1 (all4 b o b1 b2 q)⟩))
theorem Ky {e:Addr} {old:ai} {J:ai->Heap->Prop} {Q:Option ai->am->Prop} (he:jy s.heap e it i old) (hne:e≠it)
  (nx:∀ (A:bj) (P:ai->am->Prop) (E:ai->am->Prop),(∀ x h1,J x h1->a9 it s.heap h1->P x { s with heap:=h1 })->aQ (model prog w) A (bF (.ref it)) P E s)
  (hJ:∀ x h1 h2,J x h1->(∀ o,h1.get? it=some o->h2.get? it=some o)->J x h2)
  (hQ:∀ x h',IsEnumOut h' e it ((i:Int)+1) x s.heap.objs.size->J x h'->h'.get? s.heap.objs.size=some { cls:=.type "tuple", data:=.seq #[.int i s.toks,x] } ->
   (∀ b o,b≠e->b≠it->s.heap.get? b=some o->h'.get? b=some o)->Q (some (.ref s.heap.objs.size)) { s with heap:=h',toks:=s.toks+1 }):aQ (model prog w) A (f9 (.ref e)) Q E s:=by
 have ty:s.TypeIs (.ref e) "enumerate" := ⟨_,he,rfl⟩
 unfold f9
 exact af (fL (cz (name:=cU "__next__") ty fg (cI fg ty jp (Xp he hne nx hJ λx h' a b c d=>ao (hQ x h' a b c d)) (i3 _))))
theorem Ic {e:Addr} {old:ai} {Q:Option ai->am->Prop} (hh:A.handled=none) (he:jy s.heap e it i old) (hit:s.heap.IsKeyIter it d i kvs.length ep) (hm:s.heap.DictAt knd d kvs ep) (hx:kvs[i]? = none)
  (hQ:∀ h',j9 it s.heap h'->Q none { s with heap:=h' }):aQ (model prog w) A (f9 (.ref e)) Q E s:=by
 have ty:s.TypeIs (.ref e) "enumerate" := ⟨_,he,rfl⟩
 unfold f9
 refine af (fL (cz (name:=cU "__next__") ty fg (cI fg ty jp ?_ (i3 _))))
 show aQ _ _ (field (.ref e) 2 >>= λz=>bF z >>= _) _ _ _
 refine af (eQ he rfl (x:=.ref it) rfl (af (Iy hh hit hm hx λh' x hk ⟨o,ho,hc⟩=>?_)))
 exact af (fX (T := "StopIteration") (b:=true) ⟨o,ho,hc⟩ j6 (ao (hQ _ hk)))
theorem Sn {Q:ai->am->Prop} (hd:(d==du)=false) (hm:s.heap.DictAt knd d kvs ep)
  (h:∀ h',jy h' (s.heap.objs.size+1) s.heap.objs.size 0 .none->h'.IsKeyIter s.heap.objs.size d 0 kvs.length ep->(∀ b o,s.heap.get? b=some o->h'.get? b=some o)->Q (.ref (s.heap.objs.size+1)) { s with heap:=h' }) :
  aQ (model prog w) A (call (.type "enumerate") [.ref d]) Q E s:=by
 have g:MeetsIn prog w (aK.«enumerate.__new__» ⟨[.type "enumerate", .ref d],[]⟩) (λ_ R s=>s.heap.DictAt knd d kvs ep /\
   R (.ok (.ret (.ref (s.heap.objs.size+1)))) { s with heap:=(s.heap.push { cls:=.type "dict_keyiterator", data:=.fields #[.ref d,.int 0 0,.int kvs.length 0,.int ep 0] }).push { cls:=.type "enumerate", data:=.fields #[.none,.bool false,.ref s.heap.objs.size,eE 0,.none,.none] } }):=by
  refine .of_wp λA R s h=>?_
  obtain⟨hp,g,d',tk,os⟩:=s
  obtain⟨hm,h⟩:=h
  have hsub:=sub_enumerate
  obtain⟨o,es,ho,hcl,hdat,q⟩:=id hm
  have hz:(hp.push { cls:=.type "dict_keyiterator", data:=.fields #[.ref d,.int 0 0,.int kvs.length 0,.int ep 0] }).objs.size=hp.objs.size+1:=dB ..
  wp_walk using fM hd hm
  refine wpAny_stack_any λst=>ao ?_
  have h2:R (.ok (.ret (.ref (hp.push { cls:=.type "dict_keyiterator", data:=.fields #[.ref d,.int 0 0,.int kvs.length 0,.int ep 0] }).objs.size))) ⟨(hp.push { cls:=.type "dict_keyiterator", data:=.fields #[.ref d,.int 0 0,.int kvs.length 0,.int ep 0] }).push { cls:=.type "enumerate", data:=.fields #[.none,.bool false,.ref hp.objs.size,eE 0,.none,.none] },g,d',tk,os⟩:=by rw[hz];exact h
  split
  .rename_i c _ _ _ _ _
   cases (c==dN "enumerate")
   .wp_walk using fM hd hm
    exact⟨_,rfl,h2⟩
   .wp_walk using fM hd hm
    exact⟨_,rfl,h2⟩
  .wp_walk using fM hd hm
   exact⟨_,rfl,h2⟩
 refine callType_newIn F.called_enumerate (by decide) (F.typeCall_enumerate_1 _) (F.newCall_enumerate_1 _) (λobj=>F.args_object_init_2 obj _) F.entry_enumerate_new g ⟨hm,?_⟩
 have hz:(s.heap.push { cls:=.type "dict_keyiterator", data:=.fields #[.ref d,.int 0 0,.int kvs.length 0,.int ep 0] }).objs.size=s.heap.objs.size+1:=dB ..
 have he:jy ((s.heap.push { cls:=.type "dict_keyiterator", data:=.fields #[.ref d,.int 0 0,.int kvs.length 0,.int ep 0] }).push { cls:=.type "enumerate", data:=.fields #[.none,.bool false,.ref s.heap.objs.size,eE 0,.none,.none] }) (s.heap.objs.size+1) s.heap.objs.size 0 .none:=hz▸aB _ rfl
 exact⟨⟨_,he,rfl⟩,h _ he ⟨_,aj _ (aB _ rfl),rfl,rfl⟩ λb o x=>aj _ (aj _ x)⟩
end
end PySem
namespace L2
open PySem PySem.Spec PyProof.Rows
noncomputable def Zz (p:Addr) (o:Obj) (kvs:List (Key×V)):It:=
  ⟨λi H=>H p=some (.frz o (.dK kvs))/\i<kvs.length,
   λi H x H'=>∃ T k v,H T=none/\x=.ref T/\kvs[i]? = some (k,v)/\H'=upd H T (.tup [.int i,kV k]),
   λi H=>H p=some (.frz o (.dK kvs))/\kvs.length<=i⟩
theorem Vf {P:aX} {w:bB} {K:ac} {elts:List Expr} {kt:Nat} {pt:Pos} {e it p:Addr} {o:Obj} {kvs:List (Key×V)} {ep:Nat} (ne:e≠it) (he:Xc o ep) :
  Lq P w K (.Tuple elts kt pt) (Zz p o kvs) [e,it] e (λi h=>(∃ old,jy h e it (i:Int) old)/\h.IsKeyIter it p i kvs.length ep) where
 mem:=by simp
 obj:=λi h st b hb=>by
  obtain⟨⟨old,he⟩,⟨o1,e1,c1,d1⟩⟩:=st
  rcases List.mem_cons.mp hb with rfl|hb
  .exact⟨_,he,λv q=>nomatch q⟩
  .rw[List.mem_singleton.mp hb];exact⟨o1,e1,λv q=>by rw[d1] at q;cases q⟩
 keep:=λi h h' st k=>let ⟨⟨old,he⟩,h1⟩:=st;⟨⟨old,k e (by simp) _ he⟩,h1.at λo q=>k it (by simp) o q⟩
 item:=by
  intro X hP hw hK hc i pins s U H E I hf st hg
  subst hP hw hK
  obtain⟨hH,hi⟩:=hg
  obtain⟨vs,rel,hd,hm⟩:=I.kdict hH he
  obtain⟨⟨k,v⟩,hx⟩:∃ q,kvs[i]? = some q:=⟨kvs[i],by simp[hi]⟩
  obtain⟨u,hu,_⟩:=Wf rel hx
  have hl:kvs.length=vs.length:=rel.length
  obtain⟨⟨old,en⟩,h1⟩:=st
  rw[hl] at h1
  refine Ky en ne (J:=λx h=>(Bd X.prog X.w).is k x=true/\h.IsKeyIter it p (i+1) vs.length ep) (λA P E hQ=>Hv h1 hd hu λkey h' a b c=>hQ key h' ⟨a,b⟩ c) (λx h1 h2 j k=>⟨j.1,j.2.at k⟩) λkey h' a1 ⟨hk,a2⟩ a3 hk'=>?_
  refine⟨_,rfl,iq a1 λh'' hz' hs'=>?_⟩
  have hT:=I.hok.fresh (ah s.heap.objs.size)
  have nT:∀ {b ob},s.heap.get? b=some ob->b≠s.heap.objs.size:=λq=>aJ (aD q)
  have up:∀ b ob,b∉[e,it]->s.heap.get? b=some ob->h''.get? b=some ob:=λb ob hb q=>by
   have b1:b≠e:=by rintro rfl;exact hb (by simp)
   have b2:b≠it:=by rintro rfl;exact hb (by simp)
   exact hs'.extBut b ob b1 (hk' b ob b1 b2 q)
  have Tnew:h''.get? s.heap.objs.size=some { cls:=.type "tuple", data:=.seq #[.int i s.toks,key] }:=hs'.extBut _ _ (cy (nT en)) a3
  have I1:Inv X pins U (upd H s.heap.objs.size (.tup [.int i,kV k])) { s with heap:=h'',toks:=s.toks+1 }:=
   I.turnedN (t':=s.toks+1) (ch:=[e,it]) (λb hb=>hf b hb) up (ah _) ⟨by show 2<=sizeLine;decide,[.int i s.toks,key],.cons ⟨_,rfl⟩ (.cons (ac6 hk) .nil),⟨_,Tnew,rfl,_,rfl⟩⟩
  refine⟨.ref s.heap.objs.size,_,I1,rfl,⟨s.heap.objs.size,k,v,hT,rfl,hx,rfl⟩,⟨⟨_,hz'⟩,by rw[hl];exact a2.at λo q=>hs'.extBut _ o (cy ne) q⟩,λb hb=>?_⟩
  have q:=(hf b hb).1
  rw[Ad ?_]
  .exact q
  .rcases List.mem_cons.mp hb with rfl|hb
   .exact nT en
   .rw[List.mem_singleton.mp hb];obtain⟨_,q,_⟩:=h1;exact nT q
 done:=by
  intro X hP hw hK hc i pins s U H E I hf st hg
  subst hP hw hK
  obtain⟨hH,hi⟩:=hg
  obtain⟨vs,rel,hd,hm⟩:=I.kdict hH he
  have hl:kvs.length=vs.length:=rel.length
  obtain⟨⟨old,en⟩,h1⟩:=st
  rw[hl] at h1
  refine Ic (I.ok.hd hc) en h1 hd (by simp;omega) λh' hk=>⟨rfl,?_⟩
  refine I.turnedL (t':=s.toks) (ch:=[e,it]) (λb hb=>hf b hb) λb o hb q=>hk b o (by rintro rfl;exact hb (by simp)) q
 self:=λA i s Q E st h=>let ⟨_,he⟩:=st.1;gO he h
theorem ab6 {X:Cx} {elts:List Expr} {kt:Nat} {pt:Pos} {pins:List (Addr×Obj)} {U:St} {H:Hp} {s:am} {R:It->Hp->Prop} {E:ai->am->Prop} {p:Addr} {o:Obj} {kvs:List (Key×V)} (I:Inv X pins U H s) (h:H p=some (.frz o (.dK kvs)))
  (q:R (Zz p o kvs) H):aQ (model X.prog X.w) X.A (call (.type "enumerate") [.ref p]) (λv s1=>aQ (model X.prog X.w) X.A (lN v) (PIE X pins U (.Tuple elts kt pt) R) E s1) E s:=by
 have he:∃ ep,Xc o ep:=by
  obtain⟨e1,z,y,vs,r,ob,es,ep,e,c,d,_⟩:=I.hok p _ h
  rw[e1] at e;cases e
  exact⟨ep,es,d⟩
 obtain⟨ep,he⟩:=he
 obtain⟨vs,rel,hd,hm⟩:=I.kdict h he
 refine Sn hm hd λh' en hit hk=>gO en ?_
 refine⟨_,_,_,_,H,rfl,I.kept (t':=s.toks) hk,Vf (Nat.succ_ne_self _) he,⟨⟨_,en⟩,by rw[rel.length];exact hit⟩,λb hb=>?_,q⟩
 have hb:b=s.heap.objs.size+1\/b=s.heap.objs.size:=by simpa using hb
 have le:s.heap.objs.size<=b:=hb.elim (λe=>e▸aZ _ 1) λe=>e▸ah _
 exact I.fpOk le (I.hok.fresh le)
end L2
namespace PySem
open PyProof.Rows
section
variable {κ:Type} [DecidableEq κ]
noncomputable def Ct (xs:List κ):List κ:=xs.foldl (λU k=>if U.any (λj=>decide (j=k)) then U else U++[k]) []
theorem Ng (xs:List κ) (k:κ):Ct (xs++[k])=if (Ct xs).any (λj=>decide (j=k)) then Ct xs else Ct xs++[k]:=by
 unfold Ct
 rw[fG]
 rfl
theorem ad7 (xs:List κ) (k j:κ):(Ct (xs++[k])).any (λi=>decide (i=j))=((Ct xs).any (λi=>decide (i=j))||decide (j=k)):=by
 rw[Ng]
 by_cases h:(Ct xs).any (λi=>decide (i=k))=true
 .rw[if_pos h]
  by_cases e:j=k
  .subst e;rw[h];rfl
  .simp[e]
 .rw[if_neg h,List.any_append]
  congr 1
  simp[eq_comm]
theorem Q3 (xs:List κ):(Ct xs).length<=xs.length:=by
 have:∀ (ys acc:List κ),(ys.foldl (λU k=>if U.any (λj=>decide (j=k)) then U else U++[k]) acc).length<=acc.length+ys.length:=by
  intro ys
  induction ys with
  |nil=>intro acc;exact ah _
  |cons y ys ih=>
   intro acc
   refine aY (ih _) ?_
   rw[aO]
   dsimp only
   split
   .omega
   .rw[aS,b7];omega
 exact aY (this xs []) (by simp)
end
section
variable {prog:aX} {w:bB} {A:bj} {R:Result->am->Prop} {I:Addr} {fp wr:List Addr} {G:Array lU->Array lU->Prop} {P:Nat->ai->Prop} {St:Nat->am->Prop} {κ:Type} [DecidableEq κ] {knd:KeyKind prog w κ} {ks:List κ}
noncomputable abbrev Fa (knd:KeyKind prog w κ) (h:Heap) (S:Addr) (ks:List κ):Prop:=h.SetOf knd S (λk=>(Ct ks).any (λj=>decide (j=k))) (Ct ks).length
theorem M3 {h h':Heap} {S:Addr} (x:Fa knd h S ks) (k:∀ o,h.get? S=some o->h'.get? S=some o):Fa knd h' S ks:=
 let ⟨o,es,ep,t,ho,r⟩:=x;⟨o,es,ep,t,k o ho,r⟩
theorem Rt (W:WalksS prog w A.in1 I fp wr G ks.length P St) (S:Addr) (out:S∉fp) (hv:∀ i v,P i v -> ∃ k,ks[i]? = some k/\knd.is k v=true/\v.scannable=true) (few:ks.length+1<scanBound) (left:Nat) :
  ∀ (i:Nat) (s:am),i+left=ks.length->St i s->Fa knd s.heap S (ks.take i)->(∀ s',Moved (S::wr) G s s'->Fa knd s'.heap S ks->R (.ok (.ret .none)) s') ->
   iB (model prog w) A (.builtin "set.update.loop" ⟨[.ref S,.ref I],[]⟩) R s:=by
 have outw:S∉wr:=λz=>out (W.sub _ z)
 have into:∀ b∈wr,b∈S::wr:=λb z=>.tail _ z
 induction left with
 |zero=>
  intro i s hi st fl hR
  have ei:i=ks.length:=hi
  subst ei
  rw[aw] at fl
  refine d9 i4 (dZ ga _ ▸ ?_)
  show aQ _ A.in1 (f9 (.ref I) >>= _) _ _ s
  exact af (W.done s _ _ st λs' mv=>ao (hR s' (mv.mono into) (M3 fl λo e=>mv.heap S o outw e)))
 |succ left ih=>
  intro i s hi st fl hR
  have lt:i<ks.length:=by omega
  refine d9 i4 (dZ ga _ ▸ ?_)
  show aQ _ A.in1 (f9 (.ref I) >>= _) _ _ s
  refine af (W.item i s _ _ lt st λv s1 pv st1 mv=>?_)
  obtain⟨k,ek,ik,sk⟩:=hv i v pv
  have fl1:Fa knd s1.heap S (ks.take i):=M3 fl λo e=>mv.heap S o outw e
  have tk:ks.take (i+1)=ks.take i++[k]:=by rw[List.take_succ,ek];rfl
  show aQ _ A.in1 (lK [v] (setAdd S v) >>= _) _ _ s1
  refine af (cb ?_)
  unfold setAdd
  refine cb (af (knd.pyHash (k:=k) ik ?_))
  have room:(Ct (ks.take i)).length+1<scanBound:=by
   have:=Q3 (ks.take i)
   rw[aG] at this
   omega
  refine wpAny_setAddHashed_of (knd:=knd) (s:={ s1 with toks:=s1.toks+1 }) ik sk fl1 room λh' sb fl2=>?_
  have fl3:Fa knd h' S (ks.take (i+1)):=by
   have eS:(λj=>(Ct (ks.take i)).any (λm=>decide (m=j))||decide (j=k))=λj=>(Ct (ks.take i++[k])).any (λm=>decide (m=j)):=funext λj=>(ad7 (ks.take i) k j).symm
   have en:(if (Ct (ks.take i)).any (λm=>decide (m=k))=true then (Ct (ks.take i)).length else (Ct (ks.take i)).length+1)=(Ct (ks.take i++[k])).length:=by
    rw[Ng];split <;> simp
   rw[tk]
   show h'.SetOf knd S _ _
   rw[<- eS,<- en]
   exact fl2
  refine ao ⟨jd ga _,ih (i+1) _ (by omega) (W.frame _ s1 _ _ st1 (dW _) λb hb o e=>?_) fl3 λs2 mv2 fl4=>?_⟩
  .exact (sb.2 b λz=>out (z▸hb)).trans e
  .exact hR s2 (Moved.trans W.gtrans ((mv.mono into).then_heap (dW _) λb o hb e=>(sb.2 b λz=>hb (z▸aN)).trans e) mv2) fl4
end
section
variable {prog:aX} {w:bB} {A:bj} {E:ai->am->Prop} {s:am} {κ:Type} [DecidableEq κ] {knd:KeyKind prog w κ} {ks:List κ}
noncomputable abbrev Cy (led:Bool):Obj:={ cls:=.type "set", dict:=none,data:=.set #[] 0 (.fresh 0 0 led) }
theorem Ru {l:Addr} {items:Array ai} {Q:ai->am->Prop} (hh:A.handled=none) (hl:s.heap.IsList l items) (hv:∀ (i:Nat) (v:ai),items[i]? = some v -> ∃ k,ks[i]? = some k/\knd.is k v=true/\v.scannable=true) (hs:items.size=ks.length) (few:ks.length+1<scanBound)
  (h:∀ (h':Heap) (tk:Nat),Fa knd h' s.heap.objs.size ks->(∀ b o,b<s.heap.objs.size->s.heap.get? b=some o->h'.get? b=some o)->Q (.ref s.heap.objs.size) { s with heap:=h',toks:=tk }) :
  aQ (model prog w) A (call (.type "set") [.ref l]) Q E s:=by
 obtain⟨c,tl,hmro⟩:=F.called_set.mro
 have m1:=F.called_set.made
 have m2:=F.called_set.sub
 have m3:=F.called_set.notType
 have m4:=F.called_set.canCreate
 have m5:=F.typeCall_set_1 (.ref l)
 refine kZ (codeAny_of_tree (show aQ _ _ (callAny (.type "set") _) _ _ _ from ao ⟨kx _ (by decide +kernel),d9 F.entry_type_call ?_⟩))
 rw[Around.under_plain (weight_type_call_type "set" [.ref l] []) rfl]
 repeat (any_goals (first|assumption|wp_step))
 refine f8 (code_set_new_1 (.ref l) (E:=E) (Q₁:=λobj s₁=>∃ led:Bool,obj=.ref s.heap.objs.size/\s₁={ s with heap:=s.heap.push (Cy led) }) λled=>⟨led,rfl,rfl⟩) λr s₁ hr=>?_
 cases r with
 |error e=>exact hr
 |ok fl=>
  cases fl with
  |ret obj=>
   obtain⟨led,rfl,rfl⟩:=hr
   have new:(s.heap.push (Cy led)).get? s.heap.objs.size=some (Cy led):=aB _ rfl
   have ty:kH { s with heap:=s.heap.push (Cy led) } (.ref s.heap.objs.size) "set" := ⟨_,new,rfl⟩
   have m6:=F.called_set.init.lookup
   have m7:=F.called_set.init.bind (.ref s.heap.objs.size)
   repeat (any_goals (first|assumption|wp_step))
   refine f8 (codeAny_call_builtin (R:=wants (λr s₂=>r=.none /\ ∃ h' tk,s₂={ s with heap:=h',toks:=tk }/\Fa knd h' s.heap.objs.size ks/\(∀ b o,b<s.heap.objs.size->s.heap.get? b=some o->h'.get? b=some o)) E) F.called_set.init.plain F.entry_set_init (check_set_init_1 ty ?_)) λr2 s2 hr2=>?_
   .obtain⟨⟨oc,odict,od,osl⟩,ol,hc,n,hd⟩:=hl
    simp only at hc hd
    subst hc;subst hd
    have lt:l<s.heap.objs.size:=aD ol
    have ol2:(s.heap.push (Cy led)).get? l=some { cls:=.type "list", dict:=odict,data:=.seq items n,slots:=osl }:=aj _ ol
    have m8:=F.sub_list_set
    have m9:=F.sub_list_frozenset
    have m10:(dN "list" == dN "dict")=false:=by decide
    have isl:(s.heap.push (Cy led)).IsList l items:=⟨_,ol2,rfl,n,rfl⟩
    have size:(s.heap.push (Cy led)).objs.size=s.heap.objs.size+1:=dB ..
    unfold aK.«set.__init__» noKeywords Builtin.Frozenset.updateFrom
    generalize hPI:lN=PI
    wp_walk
    subst hPI
    refine iY isl (af (wpAny_runValue ?_))
    have quiet:A.in1.in1.in1.handled=none:=by simp[hh]
    have ne1:l≠(s.heap.push (Cy led)).objs.size:=size▸aJ (c7 lt)
    have out:s.heap.objs.size∉[(s.heap.push (Cy led)).objs.size,l]:=by
     simp only[size,aE,cS,or_false,not_or]
     exact⟨aJ (cw _),eC lt⟩
    have W:=(Walks.list (prog:=prog) (w:=w) quiet (s.heap.push (Cy led)).objs.size l ne1 items).toS
    rw[hs] at W
    refine Rt (ks:=ks) W s.heap.objs.size out hv few ks.length 0 _ (cT _) ⟨⟨_,aB _ rfl,rfl,rfl⟩,isl.push _⟩ ?_ λs' mv fl=>?_
    .exact (setObjOf_fresh (knd:=knd) led).setOf (aj _ new) (by unfold scanBound;omega)
    .obtain⟨h',g',d',tk',os'⟩:=s'
     have e1:g'=s.gens:=mv.gens
     have e2:d'=s.drawn:=mv.drawn
     have e3:os'=s.os:=mv.os
     subst e1;subst e2;subst e3
     refine (show aQ _ _ _ _ _ _ from ao (show aQ _ _ (ret bi) _ _ _ from ao ⟨rfl,h',tk',rfl,fl,λb o hb e=>?_⟩))
     refine mv.heap b o ?_ (aj _ (aj _ e))
     simp only[size,aE,cS,or_false,not_or]
     exact⟨aJ hb,aJ (c7 hb)⟩
   .cases r2 with
    |error e=>exact hr2
    |ok f2=>
     cases f2 with
     |ret r=>
      obtain⟨rfl,h',tk,rfl,fl,kept⟩:=hr2
      repeat (any_goals (first|assumption|wp_step))
      exact h _ _ fl kept
     |_=>exact hr2.elim
  |_=>exact hr.elim
end
end PySem
namespace L2
open PySem PySem.Spec PyProof.Rows
section
variable {X:Cx} {e:Expr} {de:DE} {p p2 pos pos2:Pos}
noncomputable def G4 (K:ac):V->Hp->VK->Prop:=λx H Q=>match x with
 |.ref l=>(∃ ys:List Str,SqL K H l (ys.map V.str)/\ys.length<30/\Q (.int (Ct ys).length) H) \/ ∃ ns:List Int,SqL K H l (ns.map V.int)/\ns.length<1000/\Q (.int (Ct ns).length) H
 |_=>False
theorem W7:∀ {ys:List Str} {us:List ai} {i:Nat} {v:ai},Vals (ys.map V.str) us->us[i]? = some v -> ∃ k t,ys[i]? = some k/\v=.str k t
 |[],_,i,v,r,e=>by rw[fv] at r;cases r;simp at e
 | y::ys,_,i,v,r,e=>by
  rw[aP] at r
  cases r with
  |cons r1 r2=>
   obtain⟨t,rfl⟩:=r1
   cases i with
   |zero=>simp only[dA,fJ] at e;exact⟨y,t,rfl,e.symm⟩
   |succ i=>simp only[bx] at e ⊢;exact W7 r2 e
theorem Wd:∀ {ns:List Int} {us:List ai} {i:Nat} {v:ai},Vals (ns.map V.int) us->us[i]? = some v -> ∃ k t,ns[i]? = some k/\v=.int k t
 |[],_,i,v,r,e=>by rw[fv] at r;cases r;simp at e
 | y::ys,_,i,v,r,e=>by
  rw[aP] at r
  cases r with
  |cons r1 r2=>
   obtain⟨t,rfl⟩:=r1
   cases i with
   |zero=>simp only[dA,fJ] at e;exact⟨y,t,rfl,e.symm⟩
   |succ i=>simp only[bx] at e ⊢;exact Wd r2 e
theorem Qx {κ:Type} [DecidableEq κ] {knd:KeyKind X.prog X.w κ} {ks:List κ} {pins:List (Addr×Obj)} {U:St} {H:Hp} {s:am} {l:Addr} {its:List ai} {Q:VK} (hc:X.calm=true) (I:Inv X pins U H s) (pl:PlainL s.heap l its.toArray) (hl:its.length=ks.length) (few:ks.length<1000)
  (hv:∀ (i:Nat) (v:ai),its[i]? = some v -> ∃ k,ks[i]? = some k/\knd.is k v=true/\v.scannable=true) (q:Q (.int (Ct ks).length) H) :
  aQ (model X.prog X.w) X.A (call (.type "set") [.ref l]) (λv s1=>aQ (model X.prog X.w) X.A (call (.builtin "len") [v]) (EP X pins U Q) X.xe s1) X.xe s:=by
 refine bE (ah _) (Ru (knd:=knd) (ks:=ks) (I.ok.hd hc) pl.isList (λi v e=>hv i v (by simpa using e)) (by simpa using hl) (by unfold scanBound;omega) λh' tk fl kept htk=>?_)
 have I1:Inv X pins U H { s with heap:=h',toks:=tk }:=I.kept (t':=tk) λb o e=>kept b o (aD e) e
 obtain⟨o,es,ep,t,ho,hex,hd,hel,hmem,hb,hf,hn⟩:=fl
 refine call_len_set ho hex hd hf ?_ ?_
 .have:=Q3 ks
  rw[hn];omega
 .rw[hn]
  exact⟨.int _,H,I1.tok _,⟨_,rfl⟩,q⟩
theorem as9 {pins:List (Addr×Obj)} {U:St} {H:Hp} {s:am} {x:V} {u:ai} {Q:VK} (hc:X.calm=true) (I:Inv X pins U H s) (rx:RelV x u) (h:G4 X.K x H Q) :
  aQ (model X.prog X.w) X.A (call (.type "set") [u]) (λv s1=>aQ (model X.prog X.w) X.A (call (.builtin "len") [v]) (EP X pins U Q) X.xe s1) X.xe s:=by
 cases x with
 |ref l=>
  cases rx
  rcases h with ⟨ys,hq,few,q⟩|⟨ns,hq,few,q⟩
  .obtain⟨its,rv,pl,hz⟩:=I.list hq
   refine Qx (knd:=PySem.strKind X.prog X.w) (ks:=ys) hc I pl (by rw[<- rv.length,ae]) (by omega) (λi v e=>?_) q
   obtain⟨k,t,ek,rfl⟩:=W7 rv e
   exact⟨k,ek,by show g9 k (.str k t)=true;simp[g9],rfl⟩
  .obtain⟨its,rv,pl,hz⟩:=I.list hq
   refine Qx (knd:=PySem.intKind X.prog X.w) (ks:=ns) hc I pl (by rw[<- rv.length,ae]) (by omega) (λi v e=>?_) q
   obtain⟨k,t,ek,rfl⟩:=Wd rv e
   exact⟨k,ek,intKind_is _ _ _ _,rfl⟩
 |_=>exact (show False from h).elim
end
end L2
namespace PySem
open PyProof.Rows
section
variable {prog:aX} {w:bB} {A:bj} {E:ai->am->Prop} {s:am} {κ:Type} [DecidableEq κ] {knd:KeyKind prog w κ} {d it:Addr} {ep i:Nat} {kvs:List (κ×ai)}
noncomputable def ItemsAt (h:Heap) (it d:Addr) (i n ep:Nat):Prop:=
 ∃ f0 f1 k v,h.get? it=some { cls:=.type "dict_itemiterator", dict:=none,data:=.fields #[f0,f1,.ref d,.int i 0,.int n 0,.int ep 0,k,v],slots:=#[] }/\(f0=.none \/ ∃ a:Nat,f0=eE a/\a≠it /\ ∃ o,h.get? a=some o)
theorem ItemsAt.on {h h':Heap} {n:Nat} (x:ItemsAt h it d i n ep) (k:∀ o,h.get? it=some o->h'.get? it=some o) (t:∀ b o,h.get? b=some o -> ∃ o',h'.get? b=some o'):ItemsAt h' it d i n ep:=
 let ⟨f0,f1,a,b,e,r⟩:=x;⟨f0,f1,a,b,k _ e,r.imp id fun⟨c,e,n,o,q⟩=>⟨c,e,n,t c o q⟩⟩
theorem Ti {k:κ} {v:ai} {Q:Option ai->am->Prop} (hit:ItemsAt s.heap it d i kvs.length ep) (hm:s.heap.DictAt knd d kvs ep) (hx:kvs[i]? = some (k,v))
  (hQ:∀ key h',knd.is k key=true->ItemsAt h' it d (i+1) kvs.length ep->h'.get? s.heap.objs.size=some { cls:=.type "tuple", data:=.seq #[key,v] } ->
   (∀ b o,b≠it->s.heap.get? b=some o->h'.get? b=some o)->Q (some (.ref s.heap.objs.size)) { s with heap:=h' }):aQ (model prog w) A (f9 (.ref it)) Q E s:=by
 obtain⟨f0,f1,ok,ov,ei,hf0⟩:=hit
 obtain⟨h0,gs,dr,tk,ops⟩:=s
 obtain⟨od,es,ed,_,dd,_,pr,_⟩:=id hm
 have lt:i<kvs.length:=by
  rcases Nat.lt_or_ge i kvs.length with h|h
  .exact h
  .simp[bH h] at hx
 have size:es.size=kvs.length:=pr.length▸(by simp)
 have lt2:i<es.size:=size▸lt
 obtain⟨isk,isv⟩:=pr.get? (e:=es[i]) (by simp[lt2]) hx
 have ty:kH ⟨h0,gs,dr,tk,ops⟩ (.ref it) "dict_itemiterator" := ⟨_,ei,rfl⟩
 have own:cM "dict_itemiterator" = true:=by decide
 have noNone:¬ ((bv d==bi)=true):=av
 have nx:¬ ((i:Int)<0):=by omega
 unfold f9
 refine af (fL (cz (name:=cU "__next__") ty dv (cI dv ty gT ?_ (gC _))))
 refine af (ao (af (af ?_)))
 first|refine af (dn ty (ao (af (dX ei rfl ?_))))|refine af (dY ty (ao (af (dX ei rfl ?_))))
 simp only[own,if_true]
 show aQ _ _ (if (bv d==bi)=true then _ else _) _ _ _
 rw[if_neg noNone]
 refine af (ao (af (eh ed dd ?_)))
 rw[if_neg (show ¬ _ by rw[size];simp)]
 refine af (ao (af (fF ed dd ?_)))
 rw[if_neg (show ¬ _ by simp)]
 refine ao ?_
 simp only[nx,if_false,aT,dS lt2]
 refine af ?_
 first|refine af (dn ty (ao (af (e9 ty ?_))))|refine af (dY ty (ao (af (e9 ty ?_))))
 show aQ _ _ (jQ (.ref it) 3 (eE ((i:Int)+1)) >>= _) _ _ ⟨h0,gs,dr,tk,ops⟩
 refine af (b5 ei (by simp) λh1 e1 s1=>?_)
 have k1:a9 it h0 h1:=s1
 have e1:h1.get? it=some { cls:=.type "dict_itemiterator", dict:=none,data:=.fields #[f0,f1,.ref d,.int (i+1:Nat) 0,.int kvs.length 0,.int ep 0,ok,ov],slots:=#[] }:=by
  have e:((i+1:Nat):Int)=(i:Int)+1:=by omega
  rw[e];simpa [eE] using e1
 have ty1:kH ⟨h1,gs,dr,tk,ops⟩ (.ref it) "dict_itemiterator" := ⟨_,e1,rfl⟩
 refine af (cb (af (e9 (s:=⟨h1,gs,dr,tk,ops⟩) ty1 (af (e9 (s:=⟨h1,gs,dr,tk,ops⟩) ty1 ?_)))))
 show aQ _ _ (gr (.ref it) 6 es[i].key es[i].val) _ _ ⟨h1,gs,dr,tk,ops⟩
 unfold gr
 refine af (gS ?_)
 have up:∃ h2:Heap,h2=h1.push { cls:=.type "tuple", data:=.seq #[es[i].key,es[i].val] }:=⟨_,rfl⟩
 obtain⟨h2,eh2⟩:=up
 rw[<- eh2,show h1.objs.size=h0.objs.size from k1.1]
 have e2:=aj { cls:=.type "tuple", data:=.seq #[es[i].key,es[i].val] } e1
 have t2:h2.get? h0.objs.size=some { cls:=.type "tuple", data:=.seq #[es[i].key,v] }:=by rw[eh2,<- isv,<- show h1.objs.size=h0.objs.size from k1.1];exact aB _ rfl
 have all2:∀ b o,b≠it->h0.get? b=some o->h2.get? b=some o:=λb o hb e=>by rw[eh2];exact aj _ (k1.extBut b o hb e)
 rw[<- eh2] at e2
 have lti:it<h0.objs.size:=aD ei
 have ne:h0.objs.size≠it:=eC lti
 refine af ?_
 unfold Builtin.Dict_items.ownedTupleIsFree
 refine af (eQ (s:=⟨h2,gs,dr,tk,ops⟩) e2 rfl (x:=f0) rfl ?_)
 rcases hf0 with rfl|⟨a,rfl,na,oa,ea⟩
 .refine ao ?_
  simp only[if_true]
  refine af (eQ (s:=⟨h2,gs,dr,tk,ops⟩) e2 rfl (x:=ok) rfl (af (eQ (s:=⟨h2,gs,dr,tk,ops⟩) e2 rfl (x:=ov) rfl ?_)))
  refine af (b5 (s:=⟨h2,gs,dr,tk,ops⟩) e2 (by simp) λh3 e3 s3=>af (b5 (s:=⟨h3,gs,dr,tk,ops⟩) e3 (by simp) λh4 e4 s4=>?_))
  refine af (b5 (s:=⟨h4,gs,dr,tk,ops⟩) e4 (by simp) λh5 e5 s5=>af (b5 (s:=⟨h5,gs,dr,tk,ops⟩) e5 (by simp) λh6 e6 s6=>?_))
  have on:∀ b o,b≠it->h2.get? b=some o->h6.get? b=some o:=λb o n q=>s6.extBut b o n (s5.extBut b o n (s4.extBut b o n (s3.extBut b o n q)))
  refine af (kr (ao (ao ⟨_,rfl,ao (hQ es[i].key h6 isk ?_ (on _ _ ne t2) λb o n q=>on b o n (all2 b o n q))⟩)))
  exact⟨eE h0.objs.size,_,_,_,e6,.inr ⟨_,rfl,ne,_,on _ _ ne t2⟩⟩
 .show aQ _ _ (loadIfAlive (a:Int).toNat >>= _) _ _ ⟨h2,gs,dr,tk,ops⟩
  have a2:h2.get? a=some oa:=all2 a oa na ea
  have la:∀ {α:Type} {k:Option Obj->Sem α} {Q':α->am->Prop} {E':ai->am->Prop},aQ (model prog w) A.in1 (k (some oa)) Q' E' ⟨h2,gs,dr,tk,ops⟩->aQ (model prog w) A.in1 (loadIfAlive (a:Int).toNat >>= k) Q' E' ⟨h2,gs,dr,tk,ops⟩:=λ{α k Q' E'} h Γ p hΓ=>by
   have z:=h Γ p hΓ
   show Sem.wp _ _ (Sem.loadIfAlive (a:Int).toNat λx=>k x) _ _ _ _
   rw[Sem.wp_loadIfAlive]
   rw[aT]
   rw[show (Shared.heap ⟨h2,gs,dr,tk,ops⟩).get? a=some oa from a2]
   exact z
  refine la ?_
  simp only[Option.isNone_some,bq,if_false]
  refine af (eQ (s:=⟨h2,gs,dr,tk,ops⟩) e2 rfl (x:=f1) rfl ?_)
  have fin:∀ h3:Heap,(∀ b o,b≠it->h2.get? b=some o->h3.get? b=some o)->ItemsAt h3 it d (i+1) kvs.length ep->Q (some (.ref h0.objs.size)) ⟨h3,gs,dr,tk,ops⟩:=λh3 on at3=>hQ es[i].key h3 isk at3 (on _ _ ne t2) λb o n q=>on b o n (all2 b o n q)
  by_cases c:(f1 != jO true)=true
  .rw[if_pos c]
   refine af (b5 (s:=⟨h2,gs,dr,tk,ops⟩) e2 (by simp) λh3 e3 s3=>ao ?_)
   simp only[bq,if_false]
   exact ao (ao ⟨_,rfl,ao (fin h3 (λb o n q=>s3.extBut b o n q) ⟨_,_,_,_,e3,.inr ⟨a,rfl,na,oa,s3.extBut _ _ na a2⟩⟩)⟩)
  .rw[if_neg c]
   refine ao ?_
   simp only[bq,if_false]
   exact ao (ao ⟨_,rfl,ao (fin h2 (λb o n q=>q) ⟨_,_,_,_,e2,.inr ⟨a,rfl,na,oa,a2⟩⟩)⟩)
theorem Xu {Q:Option ai->am->Prop} (hh:A.handled=none) (hit:ItemsAt s.heap it d i kvs.length ep) (hm:s.heap.DictAt knd d kvs ep) (hx:kvs[i]? = none)
  (hQ:∀ h',j9 it s.heap h'->Q none { s with heap:=h' }):aQ (model prog w) A (f9 (.ref it)) Q E s:=by
 obtain⟨f0,f1,ok,ov,ei,_⟩:=hit
 obtain⟨od,es,ed,_,dd,_,pr,_⟩:=id hm
 have size:es.size=kvs.length:=pr.length▸(by simp)
 have past:es.size<=i:=by rw[size];simpa using hx
 have ty:s.TypeIs (.ref it) "dict_itemiterator" := ⟨_,ei,rfl⟩
 have own:cM "dict_itemiterator" = true:=by decide
 have noNone:¬ ((bv d==bi)=true):=av
 have nx:¬ ((i:Int)<0):=by omega
 unfold f9
 refine af (fL (cz (name:=cU "__next__") ty dv (cI dv ty gT ?_ (gC _))))
 refine af (ao (af (af ?_)))
 first|refine af (dn ty (ao (af (dX ei rfl ?_))))|refine af (dY ty (ao (af (dX ei rfl ?_))))
 simp only[own,if_true]
 show aQ _ _ (if (bv d==bi)=true then _ else _) _ _ s
 rw[if_neg noNone]
 refine af (ao (af (eh ed dd ?_)))
 rw[if_neg (show ¬ _ by rw[size];simp)]
 refine af (ao (af (fF ed dd ?_)))
 rw[if_neg (show ¬ _ by simp)]
 refine ao ?_
 simp only[nx,if_false,aT,gu past]
 refine af ?_
 first|refine af (dn ty (ao ?_))|refine af (dY ty (ao ?_))
 show aQ _ _ (jQ (.ref it) 2 .none >>= λ_=>mh (.type "StopIteration") [] >>= _) _ _ s
 refine af (iE ei rfl (by simp) (af ?_))
 simp only[mh,l9]
 refine af (c9 (af (m:=fV _ _) (lP (a:=bi) (by first|rfl|(simp only[fV];rfl)) (c9 ?_ (by size_fits)))) (by size_fits))
 simp only[raiseNew]
 refine af (kM ?_)
 rw[show A.in1.handled=none from hh]
 refine af (ao (lQ ?_))
 exact af (fX (T := "StopIteration") (b:=true) ⟨_,aB _ rfl,rfl⟩ j6 (ao (hQ _ (((bD ..).extBut.push _).push _))))
end
end PySem
namespace L2
open PySem PySem.Spec PyProof.Rows
noncomputable abbrev Z1 (H H':Hp):Prop:=∀ b o,H b=some o->H' b=some o
section
variable {X:Cx} {pins:List (Addr×Obj)} {U:St} {A:bj} {E:ai->am->Prop} {R:Result->am->Prop} {p it S:Addr} {ep:Nat} {kvs:List (Key×V)} {vs:List (Key×ai)} {res:ai}
noncomputable def aq5 (H0 H:Hp) (kvs:List (Key×V)) (Ts:List Addr):Prop:=∀ (j:Nat) k v T,kvs[j]? = some (k,v)->Ts[j]? = some T->H0 T=none/\H T=some (.tup [kV k,v])
theorem Th (H0:Hp) (rel:KV kvs vs) (hh:A.handled=none) (small:vs.length<sizeLine) (n1:it≠S) (n2:p≠it) (n3:p≠S) (left:Nat) :
  ∀ (i:Nat) (s:am) (H:Hp) (Ts:List Addr),i+left=vs.length->Inv X pins U H s->Dn X pins H it->(∀ b o,b≠S->H0 b=some o->H b=some o)->H S=some (.lst (Ts.map V.ref))->H0 S=none->ItemsAt s.heap it p i vs.length ep->s.heap.DictAt (Bd X.prog X.w) p vs ep->Ts.length=i ->
   aq5 H0 H kvs Ts->(∀ s' H' Ts',Inv X pins U H' s'->Z1 H0 H'->H' S=some (.lst (Ts'.map V.ref))->Ts'.length=vs.length->aq5 H0 H' kvs Ts'->R (.ok (.ret res)) s') ->
   iB (model X.prog X.w) A (.builtin "list.extend.loop" ⟨[.ref S,.ref it,res],[]⟩) R s:=by
 induction left with
 |zero=>
  intro i s H Ts hi I fp top hS h0 at1 hd hl laid hR
  refine d9 j8 (dZ hU _ ▸ ?_)
  show aQ _ A.in1 (f9 (.ref it) >>= _) _ _ s
  obtain⟨f0,f1,f2,f3,f4,f5⟩:=fp
  refine af (Xu hh at1 hd (by simp;omega) λh' ext=>ao (hR _ H Ts (I.turned (t':=s.toks) (λb o hb e=>ext b o hb e) f0 f1 f3 f4 f5) (λb o e=>top b o (λz=>by rw[z,h0] at e;cases e) e) hS (by omega) laid))
 |succ left ih=>
  intro i s H Ts hi I fp top hS h0 at1 hd hl laid hR
  have lt:i<kvs.length:=by rw[rel.length];omega
  obtain⟨⟨k,v⟩,hx⟩:∃ q,kvs[i]? = some q:=⟨kvs[i],by simp[lt]⟩
  obtain⟨u,hu,ru⟩:=Wf rel hx
  refine d9 j8 (dZ hU _ ▸ ?_)
  show aQ _ A.in1 (f9 (.ref it) >>= _) _ _ s
  refine af (Ti at1 hd hu λkey h' isk at2 t2 all2=>?_)
  have fresh:H s.heap.objs.size=none:=I.hok.fresh (ah _)
  have ltS:S<s.heap.objs.size:=(I.hok S _ hS).lt
  have lti:it<s.heap.objs.size:=by obtain⟨_,_,_,_,e,_⟩:=at1;exact aD e
  have I1:Inv X pins U (upd H s.heap.objs.size (.tup [kV k,v])) { s with heap:=h' }:=
   I.turnedN (t':=s.toks) (ch:=[it]) (λb hb=>by rw[List.mem_singleton.mp hb];exact fp) (λb o hb e=>all2 b o (λz=>hb (by simp[z])) e) (ah _) ⟨by show 2<=sizeLine;decide,[key,u],.cons (ac6 isk) (.cons ru .nil),⟨_,t2,rfl,_,rfl⟩⟩
  have S1:upd H s.heap.objs.size (.tup [kV k,v]) S=some (.lst (Ts.map V.ref)):=by rw[Ad (aJ ltS)];exact hS
  obtain⟨its,n,r,ho,hz⟩:=I1.lst S1
  have li:its.length=i:=by rw[<- r.length,ae];exact hl
  show aQ _ A.in1 (lO S (·.push (.ref s.heap.objs.size)) >>= _) _ _ { s with heap:=h' }
  refine af ?_
  refine ii ho rfl (ao ⟨jd hU _,?_⟩) (by rw[ax,li];omega) (by show (its.toArray.push _).size<=sizeLine+1;rw[Array.size_push,ax,li];omega)
  have I2:=I1.lset (t':=s.toks) (f:=λz=>z.push (.ref s.heap.objs.size)) (its':=its++[.ref s.heap.objs.size]) (ys:=(Ts++[s.heap.objs.size]).map V.ref) S1 ho (by simp) (by rw[aq];exact r.append (.cons rfl .nil)) (by rw[ae,aS,b7,hl];omega)
  have nS:∀ b,b≠S->(h'.update S (a7 λz=>z.push (.ref s.heap.objs.size))).get? b=h'.get? b:=λb n=>dI _ _ (cy n)
  refine ih (i+1) _ _ (Ts++[s.heap.objs.size]) (by omega) I2 ?_ (λb o n e=>?_) Aa h0 (at2.on (λo e=>(nS it n1).trans e) λb o e=>?_) ?_ (by rw[aS,b7,hl]) (λj k' v' T e1 e2=>?_) hR
  .obtain⟨f0,f1,f2,f3,f4,f5⟩:=fp
   exact⟨by rw[Ad n1,Ad (aJ lti)];exact f0,f1,f2,f3,f4,f5⟩
  .rw[Ad n,Ad (Ai (top b o n e) fresh)];exact top b o n e
  .by_cases z:b=S
   .subst z;exact⟨_,dP _ e (by rw[ho] at e;cases e;rfl)⟩
   .exact⟨o,(nS b z).trans e⟩
  .obtain⟨od,es,ed,q⟩:=hd
   exact⟨od,es,(nS p n3).trans (all2 p od n2 ed),q⟩
  .by_cases hj:j<Ts.length
   .rw[bG hj] at e2
    obtain⟨q1,q2⟩:=laid j k' v' T e1 e2
    refine⟨q1,?_⟩
    have nT:T≠S:=λz=>by rw[z,hS] at q2;cases q2
    rw[Ad nT,Ad (Ai q2 fresh)];exact q2
   .have hj2:j=i:=by
     have:j<(Ts++[s.heap.objs.size]).length:=by
      rcases Nat.lt_or_ge j (Ts++[s.heap.objs.size]).length with h|h
      .exact h
      .rw[bH h] at e2;cases e2
     rw[aS,b7] at this
     omega
    subst hj2
    rw[be (by omega),hl,fA] at e2
    cases e2
    rw[hx] at e1
    cases e1
    refine⟨?_,by rw[Ad (eC ltS)];exact Aa⟩
    cases q:H0 s.heap.objs.size with
    |none=>rfl
    |some o=>exact absurd (top _ o (eC ltS) q) (by rw[fresh];intro z;cases z)
end
section
variable {X:Cx} {pins:List (Addr×Obj)} {U:St} {A:bj} {E:ai->am->Prop}
theorem Td {s:am} {r:Addr} {Q:Bool->am->Prop} {prog:aX} {w:bB} (ty:s.TypeIs (.ref r) "dict_items") (h:Q false s):aQ (model prog w) A (fe (.ref r)) Q E s:=by
 unfold fe
 refine af (ig ty PySem.F.slot_dict_items_len.lookup ?_)
 generalize eid:("dict_items.__len__" : String)=name
 wp_delta
 rw[show splitId name=some ("dict_items", "__len__") from eid▸by decide +kernel]
 subst eid
 refine af (fX (T := "dict_items") (b:=true) ty (by rw[isSubtype_type];kernel_rfl) (jM (λz=>absurd z (by decide)) λ_=>jM (λ_=>af (wpAny_typeOf ty (ao h))) λz=>absurd (by decide +kernel) z))
theorem Tm {H:Hp} {s:am} {p:Addr} {kvs:List (Key×V)} {Q:ai->am->Prop} (hc:X.calm=true) (I:Inv X pins U H s) (e:Rd H p (.dK kvs)) (few:kvs.length<1000)
  (h:∀ l Ts H' s',Inv X pins U H' s'->Z1 H H'->H l=none->H' l=some (.lst (Ts.map V.ref))->Ts.length=kvs.length->aq5 H H' kvs Ts->Q (.ref l) s') :
  aQ (model X.prog X.w) X.A (call (.builtin "dict.items") [.ref p]) (λv s1=>aQ (model X.prog X.w) X.A (call (.type "list") [v]) Q X.xe s1) X.xe s:=by
 obtain⟨z,lo,vs,rel,dof⟩:=Dd I.hok e
 obtain⟨ep,dat⟩:=dof.dictAt
 have lp:p<s.heap.objs.size:=dat.lt_size
 refine gY ja dof.typeIs PySem.F.entry_dict_items (PySem.F.args_dict_items_1 _) (meets_dict_items _ p lo) ⟨⟨vs,dof⟩,?_⟩
 have zv:(s.heap.push { cls:=.type "dict_items", data:=.fields #[.ref p] }).objs.size=s.heap.objs.size+1:=dB ..
 have view:(s.heap.push { cls:=.type "dict_items", data:=.fields #[.ref p] }).get? s.heap.objs.size=some { cls:=.type "dict_items", data:=.fields #[.ref p] }:=aB _ rfl
 have on1:∀ b o,s.heap.get? b=some o->(s.heap.push { cls:=.type "dict_items", data:=.fields #[.ref p] }).get? b=some o:=λb o q=>aj _ q
 generalize s.heap.push { cls:=.type "dict_items", data:=.fields #[.ref p] }=h1 at zv view on1 ⊢
 refine callType_codes (s:={ s with heap:=h1 }) (Q₁:=λobj s2=>obj=.ref (s.heap.objs.size+1)/\s2={ s with heap:=h1.push { cls:=.type "list", data:=.seq #[] } }) PySem.F.called_list (PySem.F.typeCall_list_1 _) PySem.F.entry_list_init
  (code_list_new _ ⟨by show bv h1.objs.size=_;rw[zv],rfl⟩) λobj s2 hs=>?_
 obtain⟨rfl,rfl⟩:=hs
 have S2:(h1.push { cls:=.type "list", data:=.seq #[] }).get? (s.heap.objs.size+1)=some { cls:=.type "list", data:=.seq #[] }:=zv▸aB _ rfl
 have z2:(h1.push { cls:=.type "list", data:=.seq #[] }).objs.size=s.heap.objs.size+2:=by rw[dB,zv]
 have view2:=aj { cls:=.type "list", data:=.seq #[] } view
 have on2:∀ b o,s.heap.get? b=some o->(h1.push { cls:=.type "list", data:=.seq #[] }).get? b=some o:=λb o q=>aj _ (on1 b o q)
 generalize h1.push { cls:=.type "list", data:=.seq #[] }=h2 at S2 z2 view2 on2 ⊢
 refine⟨⟨_,S2,rfl⟩,PySem.F.args_list_init_2 _ _,?_⟩
 show aQ _ _ (do let old <- jo (.ref (s.heap.objs.size+1));Builtin.List.listUpdate (.ref (s.heap.objs.size+1)) (λ_=>#[]);letGo old.toList.reverse;dF (.ref (s.heap.objs.size+1)) (.ref s.heap.objs.size) .none) _ _ { s with heap:=h2 }
 refine af ?_
 unfold jo
 refine af (wpAny_seqItems (s:={ s with heap:=h2 }) S2 rfl (ao ?_))
 show aQ _ _ (lO (s.heap.objs.size+1) (λ_=>#[]) >>= λ_=>letGo (#[]:Array ai).toList.reverse >>= λ_=>dF (.ref (s.heap.objs.size+1)) (.ref s.heap.objs.size) .none) _ _ { s with heap:=h2 }
 refine af (ii (s:={ s with heap:=h2 }) S2 rfl (af (kr ?_)))
 have S3:∃ c,(h2.update (s.heap.objs.size+1) (a7 (λ_=>(#[]:Array ai)))).get? (s.heap.objs.size+1)=some { cls:=.type "list", data:=.seq #[] c }:=⟨_,dP _ S2 rfl⟩
 have o3:∀ b o,b≠s.heap.objs.size+1->h2.get? b=some o->(h2.update (s.heap.objs.size+1) (a7 (λ_=>(#[]:Array ai)))).get? b=some o:=λb o n q=>(dI _ _ (cy n)).trans q
 have z3:(h2.update (s.heap.objs.size+1) (a7 (λ_=>(#[]:Array ai)))).objs.size=s.heap.objs.size+2:=by rw[(bD ..).1,z2]
 generalize h2.update (s.heap.objs.size+1) (a7 (λ_=>(#[]:Array ai)))=h3 at S3 o3 z3 ⊢
 obtain⟨c3,S3⟩:=S3
 have view3:h3.get? s.heap.objs.size=some { cls:=.type "dict_items", data:=.fields #[.ref p] }:=o3 _ _ (aJ (cw _)) view2
 have on3:∀ b o,s.heap.get? b=some o->h3.get? b=some o:=λb o q=>o3 b o (aJ (c7 (aD q))) (on2 b o q)
 have isv:Heap.IsItemsView h3 s.heap.objs.size p:=⟨_,view3,rfl,rfl⟩
 have dat3:h3.DictAt (Bd X.prog X.w) p vs ep:=dat.keep on3
 unfold dF
 refine af (wpAny_typeOf (s:={ s with heap:=h3 }) (T := "dict_items") isv.typeIs ?_)
 have t1:iI (.ref (s.heap.objs.size+1)) (.ref s.heap.objs.size)=false:=by simp[iI]
 have t2:(dN "dict_items" == dN "list")=false:=by decide
 have t3:(dN "dict_items" == dN "tuple")=false:=by decide
 simp only[t1,t2,t3,Bool.or_false,bq,if_false]
 refine af (wpAny_pyIter_items (s:={ s with heap:=h3 }) isv dat3 ?_)
 have it4:(h3.push { cls:=.type "dict_itemiterator", data:=.fields #[.none,.bool false,.ref p,.int 0 0,.int vs.length 0,.int ep 0,.none,.none] }).get? (s.heap.objs.size+2)=some { cls:=.type "dict_itemiterator", data:=.fields #[.none,.bool false,.ref p,.int 0 0,.int vs.length 0,.int ep 0,.none,.none] }:=z3▸aB _ rfl
 have o4:∀ b o,h3.get? b=some o->(h3.push { cls:=.type "dict_itemiterator", data:=.fields #[.none,.bool false,.ref p,.int 0 0,.int vs.length 0,.int ep 0,.none,.none] }).get? b=some o:=λb o q=>aj _ q
 show aQ _ _ (lK [.ref h3.objs.size] (fe (.ref s.heap.objs.size)) >>= _) _ _ { s with heap:=h3.push _ }
 rw[z3]
 generalize h3.push { cls:=.type "dict_itemiterator", data:=.fields #[.none,.bool false,.ref p,.int 0 0,.int vs.length 0,.int ep 0,.none,.none] }=h4 at it4 o4 ⊢
 refine af (cb (Td (s:={ s with heap:=h4 }) ⟨_,o4 _ _ view3,rfl⟩ ?_))
 have S4:=o4 _ _ S3
 have loop:∀ (h:Heap) (c tk:Nat),s.toks<=tk->(∀ b o,b≠s.heap.objs.size+1->h4.get? b=some o->h.get? b=some o)->h.get? (s.heap.objs.size+1)=some { cls:=.type "list", data:=.seq #[] c } ->
   iB (model X.prog X.w) X.A.in1 (.builtin "list.extend.loop" ⟨[.ref (s.heap.objs.size+1),.ref (s.heap.objs.size+2),.none],[]⟩) (wants (λr s₂=>r=.none/\Q (.ref (s.heap.objs.size+1)) s₂) X.xe) { s with heap:=h,toks:=tk }:=by
  intro hh c tk htk k5 S5
  have on5:∀ b o,s.heap.get? b=some o->hh.get? b=some o:=λb o q=>k5 b o (aJ (c7 (aD q))) (o4 b o (on3 b o q))
  have fr:H (s.heap.objs.size+1)=none:=I.hok.fresh (aZ _ 1)
  have I5:Inv X pins U (upd H (s.heap.objs.size+1) (.lst [])) { s with heap:=hh,toks:=tk }:=I.laid (t':=tk) on5 (aZ _ 1) ⟨bb _,[],c,.nil,S5⟩
  have ni:s.heap.objs.size+2≠s.heap.objs.size+1:=by omega
  refine Th (X:=X) (pins:=pins) (U:=U) (A:=X.A.in1) (kvs:=kvs) (ep:=ep) H rel (by simp[I.ok.hd hc]) (by rw[<- rel.length,bN];omega) ni (aJ (aL lp (aZ _ 2))) (aJ (c7 lp)) vs.length 0 _ _ [] (cT _) I5
   (I.fpOk (aZ _ 2) (by rw[Ad ni];exact I.hok.fresh (aZ _ 2))) (λb o n q=>by rw[Ad n];exact q) Aa fr ⟨_,_,_,_,k5 _ _ ni it4,.inl rfl⟩ (dat.keep on5) rfl (λj k v T _ e2=>by simp at e2) λs' H' Ts' I' top hS hl laid=>?_
  exact⟨rfl,h _ Ts' H' s' I' top fr hS (by rw[hl,rel.length]) laid⟩
 refine jM (λ_=>?_) (λ_=>ao ⟨jd hU _,loop h4 c3 s.toks (ah _) (λb o _ q=>q) S4⟩)
 refine af (k0 (af ?_))
 show aQ _ _ (lO (s.heap.objs.size+1) (·.push .none) >>= λ_=>lO (s.heap.objs.size+1) (·.pop)) _ _ _
 have S5:=dP (a7 (·.push bi)) S4 rfl
 refine af (ii (s:={ s with heap:=h4 }) S4 rfl (ii (hz:=by seq_fits) S5 rfl (ao ⟨jd hU _,loop _ _ s.toks (ah _) (λb o n q=>?_) (dP (a7 (·.pop)) S5 rfl)⟩)))
 exact (dI _ _ (cy n)).trans ((dI _ _ (cy n)).trans q)
end
section
variable {X:Cx}
noncomputable def a17 (K:ac):R2:=λx y H Q=>∃ a b ys,x=.ref a/\y=.ref b/\SqT K H a []/\SqT K H b ys/\Q (.ref b) H
theorem au2:OpR X (dR .Add) (a17 X.K):=by
 intro pins s U H x y v u Q I rx ry h
 obtain⟨a,b,ys,rfl,rfl,ha,hb,q⟩:=h
 cases rx
 cases ry
 obtain⟨its,r1,p1,_⟩:=I.tuple ha
 obtain⟨its2,r2,p2,_⟩:=I.tuple hb
 cases r1
 obtain⟨⟨c1,d1,da1,s1⟩,ho,hc,n,hd⟩:=id p1
 obtain⟨⟨c2,d2,da2,s2⟩,ho2,hc2,n2,hd2⟩:=id p2
 simp only at hc hd hc2 hd2
 subst hc hd hc2 hd2
 exact lA ⟨_,ho,rfl⟩ ⟨_,ho2,rfl⟩ jn kK gx gg (f7 _ _)
   (tuple_addW0 a b _ _ n n2 d1 d2 s1 s2 rfl) ⟨ho,ho2,⟨.ref b,H,I,rfl,q⟩⟩
theorem Jq (hu:X.A.units+64<cLine):IxR X (λx y H Q=>∃ a v,x=.ref a/\DGet H a y (some v)/\Q v H):=by
 intro value slice pins s U H x y v u Q I rx ry h hs
 obtain⟨a,w',rfl,g,q⟩:=h
 cases rx
 exact tail_any (Qs I g) PySem.F.slot_dict_getitem.lookup (Xm (by omega) I g ry λw1 s' I' r'=>⟨w',H,I',r',q⟩) hs
end
section
variable {X:Cx} {pins:List (Addr×Obj)} {U:St} {H:Hp} {s:am} {Q:VK}
theorem Xa:∀ {ys:List V} {us:List ai},ys.length=us.length->(∀ (i:Nat) y u,ys[i]? = some y->us[i]? = some u->RelV y u)->Vals ys us
 |[],[],_,_=>.nil
 |y::ys,u::us,hl,h=>.cons (h 0 y u rfl rfl) (Xa (by simpa using hl) λi y u e1 e2=>h (i+1) y u (by rw[bx];exact e1) (by rw[bx];exact e2))
 |[],_::_,hl,_=>by simp at hl
 |_::_,[],hl,_=>by simp at hl
noncomputable def Kz:V->Hp->VK->Prop:=λx H Q=>match x with
 |.int n=>n<=1000 /\ -(2 ^ 62)<=n /\ ∀ D,H D=none->Q (.ref D) (upd H D (.lst ((ay n.toNat).map λi:Nat=>V.int (i:Int))))
 |_=>False
theorem ad4 {n:Int} {t:Tok} (hc:X.calm=true) (I:Inv X pins U H s) (hn:n<=1000) (h0:-(2 ^ 62)<=n) (q:∀ D,H D=none->Q (.ref D) (upd H D (.lst ((ay n.toNat).map λi:Nat=>V.int (i:Int))))) :
  aQ (model X.prog X.w) X.A (call (.type "range") [.int n t]) (λv s1=>aQ (model X.prog X.w) X.A (call (.type "list") [v]) (EP X pins U Q) X.xe s1) X.xe s:=by
 refine call_range_1 ?_
 have zv:(s.heap.push { cls:=.type "range", data:=.fields #[.int 0 s.toks,.int n t,.int 1 (s.toks+1)] }).objs.size=s.heap.objs.size+1:=dB ..
 have hr:IsRange (s.heap.push { cls:=.type "range", data:=.fields #[.int 0 s.toks,.int n t,.int 1 (s.toks+1)] }) s.heap.objs.size 0 n 1 s.toks t (s.toks+1):=IsRange.new ..
 have on1:∀ b o,s.heap.get? b=some o->(s.heap.push { cls:=.type "range", data:=.fields #[.int 0 s.toks,.int n t,.int 1 (s.toks+1)] }).get? b=some o:=λb o q=>aj _ q
 generalize s.heap.push { cls:=.type "range", data:=.fields #[.int 0 s.toks,.int n t,.int 1 (s.toks+1)] }=h1 at zv hr on1 ⊢
 refine bE (n:=s.toks) (show s.toks<=s.toks+1+1 by omega) (call_list_range (n:=(n - 0).toNat) (I.ok.hd hc) hr (small_one (by omega) (by omega) (by omega) (by omega)) (rangeSize_nat _ _) (by omega) λh' tk acc c k e it htk=>?_)
 rw[zv] at e ⊢
 rw[Int.sub_zero] at it
 refine⟨.ref (s.heap.objs.size+1),_,I.laid (t':=tk) (a:=s.heap.objs.size+1) (λb o q=>k b o (on1 b o q)) (dW _) (show ObjOk X.prog X.w _ h' _ (.lst ((ay n.toNat).map λi:Nat=>V.int (i:Int))) from⟨?_,acc.toList,c,Xa ?_ λi y u e1 e2=>?_,by simpa using e⟩),rfl,q _ (I.hok.fresh (dW _))⟩
 .rw[ae,aV]
  exact aY (show n.toNat<=1000 by omega) (by decide)
 .rw[ae,aV,bU,it.1]
 .rw[cJ] at e2
  obtain⟨tt,ev⟩:=it.2 i u e2
  have hi:i<n.toNat:=by
   have:=(Array.getElem?_eq_some_iff.mp e2).1
   rw[it.1] at this
   exact this
  rw[ak,cY hi] at e1
  cases e1
  exact⟨tt,by rw[ev];congr 1;omega⟩
end
inductive Dt where
 |at_ (v:V)
 |lst (l:List Dt)
 |tup (l:List Dt)
mutual
noncomputable def deq:Dt->Dt->Bool
 |.at_ v,.at_ w=>eqV v w
 |.lst xs,.lst ys=>E9 xs ys
 |.tup xs,.tup ys=>E9 xs ys
 |_,_=>false
noncomputable def E9:List Dt->List Dt->Bool
 |[],[]=>true
 |x::xs,y::ys=>deq x y&&E9 xs ys
 |_,_=>false
end
mutual
noncomputable def dep:Dt->Nat
 |.at_ _=>0
 |.lst l=>D7 l+1
 |.tup l=>D7 l+1
noncomputable def D7:List Dt->Nat
 |[]=>0
 |x::xs=>Nat.max (dep x) (D7 xs)
end
mutual
noncomputable def At (K:ac) (H:Hp):Dt->V->Prop
 |.at_ v,x=>x=v/\Bv v=true
 |.lst ds,x=>∃ a xs,x=.ref a/\SqL K H a xs/\AtL K H ds xs
 |.tup ds,x=>∃ a xs,x=.ref a/\SqT K H a xs/\AtL K H ds xs
noncomputable def AtL (K:ac) (H:Hp):List Dt->List V->Prop
 |[],xs=>xs=[]
 |d::ds,xs=>∃ y ys,xs=y::ys/\At K H d y/\AtL K H ds ys
end
theorem AtL.length {K:ac} {H:Hp}:∀ {ds:List Dt} {xs:List V},AtL K H ds xs->xs.length=ds.length
 |[],xs,h=>by unfold AtL at h;subst h;rfl
 | d::ds,xs,h=>by
  unfold AtL at h
  obtain⟨y,ys,rfl,_,h2⟩:=h
  rw[aO,aO,AtL.length h2]
theorem ab8 {v:V} (h:Bv v=true):eqV v v=true:=by
 cases v <;> first|rfl|(exact beq_self_eq_true _)|exact absurd (show false=true from h) av
mutual
theorem Gn {K:ac} {H:Hp}:∀ {d:Dt} {x:V},At K H d x->deq d d=true
 |.at_ v,x,h=>by unfold At at h;unfold deq;exact ab8 h.2
 |.lst l,x,h=>by unfold At at h;obtain⟨a,xs,_,_,h⟩:=h;unfold deq;exact Ho h
 |.tup l,x,h=>by unfold At at h;obtain⟨a,xs,_,_,h⟩:=h;unfold deq;exact Ho h
theorem Ho {K:ac} {H:Hp}:∀ {ds:List Dt} {xs:List V},AtL K H ds xs->E9 ds ds=true
 |[],xs,h=>by unfold E9;rfl
 | d::ds,xs,h=>by
  unfold AtL at h
  obtain⟨y,ys,rfl,h1,h2⟩:=h
  unfold E9
  rw[Gn h1,Ho h2]
  rfl
end
theorem Fd:∀ {xs ys:List Dt},xs.length≠ys.length->E9 xs ys=false
 |[],[],h=>absurd rfl h
 |[],_::_,_=>by unfold E9;rfl
 |_::_,[],_=>by unfold E9;rfl
 | x::xs,y::ys,h=>by
  unfold E9
  rw[Fd (xs:=xs) (ys:=ys) (λe=>h (by rw[aO,aO,e])),gQ]
theorem Dp (z:Dt):∀ {xs ys:List Dt},xs.length=ys.length->E9 xs ys=(ay xs.length).all λj=>deq (xs.getD j z) (ys.getD j z)
 |[],[],_=>by unfold E9;rfl
 |[],_::_,h=>by simp at h
 |_::_,[],h=>by simp at h
 | x::xs,y::ys,h=>by
  unfold E9
  rw[aO,List.range_succ_eq_map,bW,gU,Dp z (xs:=xs) (ys:=ys) (by simpa using h)]
  rfl
section
variable {X:Cx} {pins:List (Addr×Obj)} {U:St} {H:Hp} {s:am}
theorem Rb {a:Addr} {xs ys:List V} (I:Inv X pins U H s) (h:SqL X.K H a xs) (h':SqT X.K H a ys):False:=by
 obtain⟨its,r,⟨o,n,e,c,_,d⟩,_⟩:=I.list h
 obtain⟨its',r',⟨o',e',c',n',d'⟩,_⟩:=I.tuple h'
 rw[e] at e';cases e'
 rw[c] at c'
 injection c' with c'
 exact absurd c' (by decide)
mutual
theorem Sh (I:Inv X pins U H s):∀ {d d':Dt} {x:V},At X.K H d x->At X.K H d' x->d=d'
 |.at_ v,.at_ w,x,h,h'=>by unfold At at h h';rw[<- h.1,<- h'.1]
 | .at_ v,.lst l,x,h,h'=>by
  unfold At at h h'
  obtain⟨a,xs,rfl,_⟩:=h'
  rw[<- h.1] at h
  exact absurd (show false=true from h.2) av
 | .at_ v,.tup l,x,h,h'=>by
  unfold At at h h'
  obtain⟨a,xs,rfl,_⟩:=h'
  rw[<- h.1] at h
  exact absurd (show false=true from h.2) av
 | .lst l,.at_ v,x,h,h'=>by
  unfold At at h h'
  obtain⟨a,xs,rfl,_⟩:=h
  rw[<- h'.1] at h'
  exact absurd (show false=true from h'.2) av
 | .tup l,.at_ v,x,h,h'=>by
  unfold At at h h'
  obtain⟨a,xs,rfl,_⟩:=h
  rw[<- h'.1] at h'
  exact absurd (show false=true from h'.2) av
 | .lst l,.lst l',x,h,h'=>by
  unfold At at h h'
  obtain⟨a,xs,rfl,q,h⟩:=h
  obtain⟨a',xs',e,q',h'⟩:=h'
  cases e
  rw[I.list_inj q q'] at h
  rw[N0 I h h']
 | .tup l,.tup l',x,h,h'=>by
  unfold At at h h'
  obtain⟨a,xs,rfl,q,h⟩:=h
  obtain⟨a',xs',e,q',h'⟩:=h'
  cases e
  rw[I.tuple_inj q q'] at h
  rw[N0 I h h']
 | .lst l,.tup l',x,h,h'=>by
  unfold At at h h'
  obtain⟨a,xs,rfl,q,h⟩:=h
  obtain⟨a',xs',e,q',h'⟩:=h'
  cases e
  exact (Rb I q q').elim
 | .tup l,.lst l',x,h,h'=>by
  unfold At at h h'
  obtain⟨a,xs,rfl,q,h⟩:=h
  obtain⟨a',xs',e,q',h'⟩:=h'
  cases e
  exact (Rb I q' q).elim
theorem N0 (I:Inv X pins U H s):∀ {ds ds':List Dt} {xs:List V},AtL X.K H ds xs->AtL X.K H ds' xs->ds=ds'
 |[],[],_,_,_=>rfl
 |[],_::_,_,h,h'=>by unfold AtL at h h';obtain⟨y,ys,e,_⟩:=h';rw[h] at e;cases e
 |_::_,[],_,h,h'=>by unfold AtL at h h';obtain⟨y,ys,e,_⟩:=h;rw[h'] at e;cases e
 | d::ds,d'::ds',xs,h,h'=>by
  unfold AtL at h h'
  obtain⟨y,ys,rfl,h1,h2⟩:=h
  obtain⟨y',ys',e,h1',h2'⟩:=h'
  cases e
  rw[Sh I h1 h1',N0 I h2 h2']
end
theorem M4 {A:bj} {v:V} {u:ai} {a:Addr} {its:Array ai} (f:Bv v=true) (r:RelV v u) (hl:s.heap.IsList a its) (hu:A.units<cLine):bw A s u (.ref a) false/\bw A s (.ref a) u false:=by
 cases v with
 |non=>cases r;exact⟨.none_list hl hu,.list_none hl hu⟩
 |bl b=>cases r;exact⟨.bool_list b hl hu,.list_bool b hl hu⟩
 |int i=>obtain⟨t,rfl⟩:=r;exact⟨.int_list i t hl hu,.list_int i t hl hu⟩
 |str i=>obtain⟨t,rfl⟩:=r;exact⟨.str_list i t hl hu,.list_str i t hl hu⟩
 |_=>exact absurd (show false=true from f) av
theorem Ka {A:bj} {v:V} {u:ai} {a:Addr} {its:Array ai} (f:Bv v=true) (r:RelV v u) (hl:s.heap.IsTuple a its) (hu:A.units<cLine):bw A s u (.ref a) false/\bw A s (.ref a) u false:=by
 cases v with
 |non=>cases r;exact⟨.none_tuple hl hu,.tuple_none hl hu⟩
 |bl b=>cases r;exact⟨.bool_tuple b hl hu,.tuple_bool b hl hu⟩
 |int i=>obtain⟨t,rfl⟩:=r;exact⟨.int_tuple i t hl hu,.tuple_int i t hl hu⟩
 |str i=>obtain⟨t,rfl⟩:=r;exact⟨.str_tuple i t hl hu,.tuple_str i t hl hu⟩
 |_=>exact absurd (show false=true from f) av
mutual
theorem a50 (I:Inv X pins U H s):∀ (d d':Dt) (A:bj) (x y:V) (u v:ai),At X.K H d x->At X.K H d' y->RelV x u->RelV y v->A.units+dep d<cLine->bw A s u v (deq d d')
 | .at_ p,.at_ q,A,x,y,u,v,h,h',r,r',hu=>by
  unfold At at h h';unfold deq
  obtain⟨rfl,f⟩:=h
  obtain⟨rfl,f'⟩:=h'
  exact Oe r r' f f'
 | .at_ p,.lst l,A,x,y,u,v,h,h',r,r',hu=>by
  unfold At at h h';unfold deq
  obtain⟨rfl,f⟩:=h
  obtain⟨a,xs,rfl,q,_⟩:=h'
  obtain⟨its,_,pl,_⟩:=I.list q
  cases r'
  exact (M4 f r pl.isList (by omega)).1
 | .at_ p,.tup l,A,x,y,u,v,h,h',r,r',hu=>by
  unfold At at h h';unfold deq
  obtain⟨rfl,f⟩:=h
  obtain⟨a,xs,rfl,q,_⟩:=h'
  obtain⟨its,_,pl,_⟩:=I.tuple q
  cases r'
  exact (Ka f r pl (by omega)).1
 | .lst l,.at_ p,A,x,y,u,v,h,h',r,r',hu=>by
  unfold At at h h';unfold deq
  obtain⟨rfl,f⟩:=h'
  obtain⟨a,xs,rfl,q,_⟩:=h
  obtain⟨its,_,pl,_⟩:=I.list q
  cases r
  exact (M4 f r' pl.isList (by omega)).2
 | .tup l,.at_ p,A,x,y,u,v,h,h',r,r',hu=>by
  unfold At at h h';unfold deq
  obtain⟨rfl,f⟩:=h'
  obtain⟨a,xs,rfl,q,_⟩:=h
  obtain⟨its,_,pl,_⟩:=I.tuple q
  cases r
  exact (Ka f r' pl (by omega)).2
 | .lst l,.tup l',A,x,y,u,v,h,h',r,r',hu=>by
  unfold At at h h';unfold deq
  obtain⟨a,xs,rfl,q,_⟩:=h
  obtain⟨b,ys,rfl,q',_⟩:=h'
  obtain⟨its,_,pl,_⟩:=I.list q
  obtain⟨its',_,pl',_⟩:=I.tuple q'
  cases r;cases r'
  exact .list_tuple pl.isList pl' (by omega)
 | .tup l,.lst l',A,x,y,u,v,h,h',r,r',hu=>by
  unfold At at h h';unfold deq
  obtain⟨a,xs,rfl,q,_⟩:=h
  obtain⟨b,ys,rfl,q',_⟩:=h'
  obtain⟨its,_,pl,_⟩:=I.tuple q
  obtain⟨its',_,pl',_⟩:=I.list q'
  cases r;cases r'
  exact .tuple_list pl pl'.isList (by omega)
 | .lst l,.lst l',A,x,y,u,v,h,h',r,r',hu=>by
  by_cases e:x=y
  .subst e
   have:=Sh I h h'
   rw[<- this,Gn h]
   have hx:∃ a,x=.ref a:=by unfold At at h;obtain⟨a,_,e,_⟩:=h;exact⟨a,e⟩
   obtain⟨a,rfl⟩:=hx
   cases r;cases r'
   exact .same _
  .unfold At at h h';unfold deq
   unfold dep at hu
   obtain⟨a,xs,rfl,q,h⟩:=h
   obtain⟨b,ys,rfl,q',h'⟩:=h'
   obtain⟨its,ri,pl,_⟩:=I.list q
   obtain⟨its',ri',pl',_⟩:=I.list q'
   cases r;cases r'
   have ne:a≠b:=λz=>e (by rw[z])
   have e1:=h.length
   have e2:=h'.length
   have e3:=ri.length
   have e4:=ri'.length
   refine .of_refs ne ?_
   by_cases hl:l.length=l'.length
   .rw[Dp (.lst []) hl]
    have hsz:its.toArray.size=l.length:=by simp;omega
    rw[<- hsz]
    exact .lists pl.isList pl'.isList (by simp;omega) (by omega) λj h1 h2=>by
     have:=Go I l l' A.in1 xs ys its its' h h' ri ri' (by show A.units+1+D7 l<cLine;omega) j (by simpa using h1) (by simpa using h2)
     simpa using this
   .rw[Fd hl]
    exact .lists_lengths pl.isList pl'.isList (by simp;omega) (by omega)
 | .tup l,.tup l',A,x,y,u,v,h,h',r,r',hu=>by
  by_cases e:x=y
  .subst e
   have:=Sh I h h'
   rw[<- this,Gn h]
   have hx:∃ a,x=.ref a:=by unfold At at h;obtain⟨a,_,e,_⟩:=h;exact⟨a,e⟩
   obtain⟨a,rfl⟩:=hx
   cases r;cases r'
   exact .same _
  .unfold At at h h';unfold deq
   unfold dep at hu
   obtain⟨a,xs,rfl,q,h⟩:=h
   obtain⟨b,ys,rfl,q',h'⟩:=h'
   obtain⟨its,ri,pl,_⟩:=I.tuple q
   obtain⟨its',ri',pl',_⟩:=I.tuple q'
   cases r;cases r'
   have ne:a≠b:=λz=>e (by rw[z])
   have e1:=h.length
   have e2:=h'.length
   have e3:=ri.length
   have e4:=ri'.length
   refine .of_refs ne ?_
   have T:=iU (A:=A) (s:=s) (e:=λj=>deq (l.getD j (.lst [])) (l'.getD j (.lst []))) pl pl' (by omega) λj h1 h2=>by
     have:=Go I l l' A.in1 xs ys its its' h h' ri ri' (by show A.units+1+D7 l<cLine;omega) j (by simpa using h1) (by simpa using h2)
     simpa using this
   by_cases hl:l.length=l'.length
   .rw[Dp (.lst []) hl]
    have hsz:its.toArray.size=l.length:=by simp;omega
    have hsz':its'.toArray.size=l.length:=by simp;omega
    rw[hsz,hsz',lj,beq_self_eq_true,f_] at T
    exact T
   .rw[Fd hl]
    have hne:(its.toArray.size==its'.toArray.size)=false:=by
     rw[beq_eq_false_iff_ne];simp;omega
    rw[hne,gQ] at T
    exact T
theorem Go (I:Inv X pins U H s):∀ (ds ds':List Dt) (A:bj) (xs ys:List V) (us vs:List ai),AtL X.K H ds xs->AtL X.K H ds' ys->Vals xs us->Vals ys vs->A.units+D7 ds<cLine ->
  ∀ (j:Nat) (h1:j<us.length) (h2:j<vs.length),bw A s us[j] vs[j] (deq (ds.getD j (.lst [])) (ds'.getD j (.lst [])))
 | [],_,A,xs,ys,us,vs,h,h',r,r',hu=>λj h1 h2=>by
  unfold AtL at h
  subst h
  cases r
  cases h1
 | _::_,[],A,xs,ys,us,vs,h,h',r,r',hu=>λj h1 h2=>by
  unfold AtL at h'
  subst h'
  cases r'
  cases h2
 | d::ds,d'::ds',A,xs,ys,us,vs,h,h',r,r',hu=>λj h1 h2=>by
  unfold AtL at h h'
  obtain⟨y,ys,rfl,q1,q2⟩:=h
  obtain⟨z,zs,rfl,q1',q2'⟩:=h'
  cases r with
  |cons r1 r2=>
   cases r' with
   |cons r1' r2'=>
    unfold D7 at hu
    have m1:dep d<=Nat.max (dep d) (D7 ds):=Nat.le_max_left _ _
    have m2:D7 ds<=Nat.max (dep d) (D7 ds):=Nat.le_max_right _ _
    cases j with
    |zero=>exact a50 I d d' A _ _ _ _ q1 q1' r1 r1' (by omega)
    |succ j=>exact Go I ds ds' A _ _ _ _ q2 q2' r2 r2' (by omega) j (by simpa using h1) (by simpa using h2)
end
theorem Fv {K:ac} {d:Dt} {a:Addr} (h:At K H d (.ref a)):(∃ l xs,d=.lst l/\SqL K H a xs/\AtL K H l xs)\/(∃ l xs,d=.tup l/\SqT K H a xs/\AtL K H l xs):=by
 cases d with
 |at_ v=>
  unfold At at h
  rw[<- h.1] at h
  exact absurd (show false=true from h.2) av
 |lst l=>unfold At at h;obtain⟨b,xs,e,q,h⟩:=h;cases e;exact .inl ⟨l,xs,rfl,q,h⟩
 |tup l=>unfold At at h;obtain⟨b,xs,e,q,h⟩:=h;cases e;exact .inr ⟨l,xs,rfl,q,h⟩
theorem Ra {K:ac} {d:Dt} {x:V} (h:At K H d x) (f:∀ a,x≠.ref a):d=.at_ x/\Bv x=true:=by
 cases d with
 |at_ v=>unfold At at h;rw[h.1];exact⟨rfl,h.2⟩
 |lst l=>unfold At at h;obtain⟨b,xs,e,_⟩:=h;exact absurd e (f b)
 |tup l=>unfold At at h;obtain⟨b,xs,e,_⟩:=h;exact absurd e (f b)
theorem by7 (I:Inv X pins U H s) {A:bj} {d d':Dt} {a b:Addr} (h:At X.K H d (.ref a)) (h':At X.K H d' (.ref b)) (hu:A.units+dep d<cLine):gM A s (.ref a) (.ref b) (deq d d')/\fC A s (.ref a) (.ref b) (!deq d d'):=by
 rcases Fv h with ⟨l,xs,rfl,q,h⟩|⟨l,xs,rfl,q,h⟩
 .rcases Fv h' with ⟨l',ys,rfl,q',h'⟩|⟨l',ys,rfl,q',h'⟩
  .unfold deq
   unfold dep at hu
   obtain⟨its,ri,pl,_⟩:=I.list q
   obtain⟨its',ri',pl',_⟩:=I.list q'
   have e1:=h.length
   have e2:=h'.length
   have e3:=ri.length
   have e4:=ri'.length
   have it:∀ j (h1:j<its.toArray.size) (h2:j<its'.toArray.size),bw A.in1 s its.toArray[j] its'.toArray[j] (deq (l.getD j (.lst [])) (l'.getD j (.lst []))):=λj h1 h2=>by
    have:=Go I l l' A.in1 xs ys its its' h h' ri ri' (by show A.units+1+D7 l<cLine;omega) j (by simpa using h1) (by simpa using h2)
    simpa using this
   by_cases hl:l.length=l'.length
   .rw[Dp (.lst []) hl]
    have hsz:its.toArray.size=l.length:=by simp;omega
    rw[<- hsz]
    exact⟨.lists pl.isList pl'.isList (by simp;omega) (by omega) it,.lists pl.isList pl'.isList (by simp;omega) (by omega) it⟩
   .rw[Fd hl]
    exact⟨.lists_lengths pl.isList pl'.isList (by simp;omega) (by omega),.lists_lengths pl.isList pl'.isList (by simp;omega) (by omega)⟩
  .unfold deq
   obtain⟨its,ri,pl,_⟩:=I.list q
   obtain⟨its',ri',pl',_⟩:=I.tuple q'
   exact⟨.list_tuple pl.isList pl' (by omega),.list_tuple pl.isList pl' (by omega)⟩
 .rcases Fv h' with ⟨l',ys,rfl,q',h'⟩|⟨l',ys,rfl,q',h'⟩
  .unfold deq
   obtain⟨its,ri,pl,_⟩:=I.tuple q
   obtain⟨its',ri',pl',_⟩:=I.list q'
   exact⟨.tuple_list pl pl'.isList (by omega),.tuple_list pl pl'.isList (by omega)⟩
  .unfold deq
   unfold dep at hu
   obtain⟨its,ri,pl,_⟩:=I.tuple q
   obtain⟨its',ri',pl',_⟩:=I.tuple q'
   have e1:=h.length
   have e2:=h'.length
   have e3:=ri.length
   have e4:=ri'.length
   have it:∀ j (h1:j<its.toArray.size) (h2:j<its'.toArray.size),bw A.in1 s its.toArray[j] its'.toArray[j] (deq (l.getD j (.lst [])) (l'.getD j (.lst []))):=λj h1 h2=>by
    have:=Go I l l' A.in1 xs ys its its' h h' ri ri' (by show A.units+1+D7 l<cLine;omega) j (by simpa using h1) (by simpa using h2)
    simpa using this
   have T:=iU pl pl' (by omega) it
   have T':=SeqAt.RcNeAt.tuples pl pl' (by omega) it
   by_cases hl:l.length=l'.length
   .rw[Dp (.lst []) hl]
    have hsz:its.toArray.size=l.length:=by simp;omega
    have hsz':its'.toArray.size=l.length:=by simp;omega
    rw[hsz,hsz',lj,beq_self_eq_true,f_] at T T'
    exact⟨T,T'⟩
   .rw[Fd hl]
    have hne:(its.toArray.size==its'.toArray.size)=false:=by
     rw[beq_eq_false_iff_ne];simp;omega
    rw[hne,gQ] at T T'
    exact⟨T,T'⟩
theorem Wx (I:Inv X pins U H s) {A:bj} {d:Dt} {a:Addr} {v:V} {u:ai} (h:At X.K H d (.ref a)) (f:Bv v=true) (r:RelV v u) (hu:A.units<cLine) :
  gM A s (.ref a) u false/\fC A s (.ref a) u true/\gM A s u (.ref a) false/\fC A s u (.ref a) true:=by
 rcases Fv h with ⟨l,xs,rfl,q,h⟩|⟨l,xs,rfl,q,h⟩
 .obtain⟨its,ri,pl,_⟩:=I.list q
  cases v with
  |non=>cases r;exact⟨.list_none pl.isList hu,.list_none pl.isList hu,.none_list pl.isList hu,.none_list pl.isList hu⟩
  |bl b=>cases r;exact⟨.list_bool b pl.isList hu,.list_bool b pl.isList hu,.bool_list b pl.isList hu,.bool_list b pl.isList hu⟩
  |int b=>obtain⟨t,rfl⟩:=r;exact⟨.list_int b t pl.isList hu,.list_int b t pl.isList hu,.int_list b t pl.isList hu,.int_list b t pl.isList hu⟩
  |str b=>obtain⟨t,rfl⟩:=r;exact⟨.list_str b t pl.isList hu,.list_str b t pl.isList hu,.str_list b t pl.isList hu,.str_list b t pl.isList hu⟩
  |_=>exact absurd (show false=true from f) av
 .obtain⟨its,ri,pl,_⟩:=I.tuple q
  cases v with
  |non=>cases r;exact⟨.tuple_none pl hu,.tuple_none pl hu,.none_tuple pl hu,.none_tuple pl hu⟩
  |bl b=>cases r;exact⟨.tuple_bool b pl hu,.tuple_bool b pl hu,.bool_tuple b pl hu,.bool_tuple b pl hu⟩
  |int b=>obtain⟨t,rfl⟩:=r;exact⟨.tuple_int b t pl hu,.tuple_int b t pl hu,.int_tuple b t pl hu,.int_tuple b t pl hu⟩
  |str b=>obtain⟨t,rfl⟩:=r;exact⟨.tuple_str b t pl hu,.tuple_str b t pl hu,.str_tuple b t pl hu,.str_tuple b t pl hu⟩
  |_=>exact absurd (show false=true from f) av
noncomputable def ai9 (K:ac) (neg:Bool):R2:=λx y H Q=>∃ d d',At K H d x/\At K H d' y/\dep d<=40/\Q (.bl (if neg then !deq d d' else deq d d')) H
theorem aj4 (I:Inv X pins U H s) {A:bj} {d d':Dt} {x y:V} {u v:ai} (h:At X.K H d x) (h':At X.K H d' y) (r:RelV x u) (r':RelV y v) (hr:(∃ a,x=.ref a) \/ ∃ b,y=.ref b) (hu:A.units+dep d<cLine) :
  gM A s u v (deq d d')/\fC A s u v (!deq d d'):=by
 by_cases hx:∃ a,x=.ref a
 .obtain⟨a,rfl⟩:=hx
  cases r
  by_cases hy:∃ b,y=.ref b
  .obtain⟨b,rfl⟩:=hy
   cases r'
   exact by7 I h h' hu
  .obtain⟨rfl,f⟩:=Ra h' (λb e=>hy ⟨b,e⟩)
   obtain⟨q1,q2,_⟩:=Wx I h f r' (show A.units<cLine by omega)
   have e:deq d (.at_ y)=false:=by
    rcases Fv h with ⟨l,xs,rfl,_⟩|⟨l,xs,rfl,_⟩ <;> (unfold deq;rfl)
   rw[e]
   exact⟨q1,q2⟩
 .have hy:∃ b,y=.ref b:=hr.resolve_left hx
  obtain⟨b,rfl⟩:=hy
  cases r'
  obtain⟨rfl,f⟩:=Ra h (λb e=>hx ⟨b,e⟩)
  obtain⟨_,_,q1,q2⟩:=Wx I h' f r (show A.units<cLine by omega)
  have e:deq (.at_ x) d'=false:=by
   rcases Fv h' with ⟨l,xs,rfl,_⟩|⟨l,xs,rfl,_⟩ <;> (unfold deq;rfl)
  rw[e]
  exact⟨q1,q2⟩
theorem T7 (hu:X.A.units+64<cLine) {x y:V} {u v:ai} {Q:VK} (I:Inv X pins U H s) (rx:RelV x u) (ry:RelV y v) (hr:(∃ a,x=.ref a) \/ ∃ b,y=.ref b) (h:ai9 X.K false x y H Q):aQ (model X.prog X.w) X.A (cG .Eq u v) (EP X pins U Q) X.xe s:=by
 obtain⟨d,d',h1,h2,hd,q⟩:=h
 exact (aj4 I h1 h2 rx ry hr (A:=X.A) (by omega)).1 _ _ _ _ ⟨.bl _,H,I,rfl,q⟩
theorem T8 (hu:X.A.units+64<cLine) {x y:V} {u v:ai} {Q:VK} (I:Inv X pins U H s) (rx:RelV x u) (ry:RelV y v) (hr:(∃ a,x=.ref a) \/ ∃ b,y=.ref b) (h:ai9 X.K true x y H Q):aQ (model X.prog X.w) X.A (cG .NotEq u v) (EP X pins U Q) X.xe s:=by
 obtain⟨d,d',h1,h2,hd,q⟩:=h
 exact (aj4 I h1 h2 rx ry hr (A:=X.A) (by omega)).2 _ _ _ _ ⟨.bl _,H,I,rfl,q⟩
end
open AutoSeq1 (wpAny_loadPart')
open MeetsSeq MeetsSeq2 MeetsSeq3 SeqRoads2
noncomputable def bh5 (K:ac) (neg:Bool):R2:=λx y H Q=>match x,y with
 |.ref a,.ref b=>False\/(∃ kvs,Rd H a (.dK kvs)/\Rd H b (.dK [])/\Q (.bl (if neg then !kvs.isEmpty else kvs.isEmpty)) H)\/(∃ xs ys,SqL K H a xs/\SqL K H b ys/\xs.length≠ys.length/\Q (.bl neg) H)
 |_,_=>False
section
variable {X:Cx} {pins:List (Addr×Obj)} {U:St} {H:Hp} {s:am}
theorem bc0 (hu:X.A.units+64<cLine) {x y:V} {u v:ai} {Q:VK} (I:Inv X pins U H s) (rx:RelV x u) (ry:RelV y v) (h:bh5 X.K false x y H Q):aQ (model X.prog X.w) X.A (cG .Eq u v) (EP X pins U Q) X.xe s:=by
 cases x <;> cases y <;> first|exact (show False from h).elim|skip
 cases rx;cases ry
 rcases h with h|⟨kvs,h1,h2,q⟩|⟨xs,ys,h1,h2,len,q⟩
 .exact h.elim
 .obtain⟨_,z1,ka,r1,d1⟩:=Dd I.hok h1
  obtain⟨_,z2,kb,r2,d2⟩:=Dd I.hok h2
  cases r2
  refine PySem.W.keq_eq (r:=true) z1 z2 d1 d2 (by omega) (λe=>?_) ?_
  .rw[List.length_eq_zero_iff.mp e];exact .nil
  .have e:(ka.length==([]:List (Key×ai)).length&&true)=kvs.isEmpty:=by
    rw[f_,<- r1.length]
    cases kvs <;> rfl
   rw[e]
   exact⟨.bl _,H,I,rfl,q⟩
 .obtain⟨its,ri,pl,_⟩:=I.list h1
  obtain⟨its',ri',pl',_⟩:=I.list h2
  have e3:=ri.length
  have e4:=ri'.length
  exact SeqAt.RcAt.lists_lengths pl.isList pl'.isList (by simp;omega) (by omega) _ _ _ _ ⟨.bl _,H,I,rfl,q⟩
theorem bc5 (hu:X.A.units+64<cLine) {x y:V} {u v:ai} {Q:VK} (I:Inv X pins U H s) (rx:RelV x u) (ry:RelV y v) (h:bh5 X.K true x y H Q):aQ (model X.prog X.w) X.A (cG .NotEq u v) (EP X pins U Q) X.xe s:=by
 cases x <;> cases y <;> first|exact (show False from h).elim|skip
 cases rx;cases ry
 rcases h with h|⟨kvs,h1,h2,q⟩|⟨xs,ys,h1,h2,len,q⟩
 .exact h.elim
 .obtain⟨_,z1,ka,r1,d1⟩:=Dd I.hok h1
  obtain⟨_,z2,kb,r2,d2⟩:=Dd I.hok h2
  cases r2
  refine PySem.W.keq_ne (r:=true) z1 z2 d1 d2 (by omega) (λe=>?_) ?_
  .rw[List.length_eq_zero_iff.mp e];exact .nil
  .have e:(!(ka.length==([]:List (Key×ai)).length&&true)) = !kvs.isEmpty:=by
    rw[f_,<- r1.length]
    cases kvs <;> rfl
   rw[e]
   exact⟨.bl _,H,I,rfl,q⟩
 .obtain⟨its,ri,pl,_⟩:=I.list h1
  obtain⟨its',ri',pl',_⟩:=I.list h2
  have e3:=ri.length
  have e4:=ri'.length
  exact ip pl.isList pl'.isList (by simp;omega) (by omega) _ _ _ _ ⟨.bl _,H,I,rfl,q⟩
end
end L2
namespace L2
open PySem PySem.Spec PyProof.Rows
section
variable {X:Cx} {pins:List (Addr×Obj)} {U:St} {H:Hp} {s:am}
noncomputable def Pf:List V->Hp->VK->Prop:=λxs H Q=>∃ p kvs,xs=[.ref p]/\Rd H p (.dK kvs) /\ ∀ q,H q=none->Q (.ref q) (upd H q (.dK kvs))
theorem Sm:Cj X (.type "dict") Pf:=by
 intro pins s U H xs us Q I r h
 obtain⟨p,kvs,rfl,e,q⟩:=h
 obtain⟨u,rfl,rx⟩:=D9 r
 cases rx
 obtain⟨z,hd,vs,rel,dd⟩:=Dd I.hok e
 refine kt_call_dict hd dd (by rw[<- rel.length];exact z) λh' hm hs=>?_
 have kp:∀ b o',s.heap.get? b=some o'->h'.get? b=some o':=λb o' hb=>by
  have hlt:=aD hb
  rw[hs.2 b (aJ hlt)]
  exact aj _ hb
 exact⟨.ref s.heap.objs.size,_,I.laid (t':=s.toks) kp (ah _) (Sx z (by rw[beq_eq_false_iff_ne];exact cy (aJ I.big)) rel hm),rfl,q _ (I.hok.fresh (ah _))⟩
theorem boot_dict:cV "dict" = some (.type "dict"):=by decide +kernel
end
noncomputable def rNo:R2:=λ_ _ _ _=>False
noncomputable def Bf (K:ac):R2:=λx y H Q=>match x,y with
 |.int i,.int j=>Q (.int (i+j)) H
 |.str a,.str b=>a.length+b.length<=sizeLine/\Q (.str (a++b)) H
 |.ref a,.ref b=>bq9 (.ref a) (.ref b) H Q\/a18 K (.ref a) (.ref b) H Q\/a17 K (.ref a) (.ref b) H Q
 |_,_=>False
noncomputable def aj3:R2:=λx y H Q=>match x,y with
 |.int i,.int j=>Q (.int (i - j)) H
 |_,_=>False
noncomputable def Dg (K:ac):R2:=λx y H Q=>match x,y with
 |.int i,.int j=>CMul i j/\Q (.int (i * j)) H
 |_,_=>False
noncomputable def Dx:R2:=λx y H Q=>match x,y with
 |.int i,.int j=>bj1 i j/\Q (.int (i / j)) H
 |_,_=>False
noncomputable def Bc:R2:=λx y H Q=>match x,y with
 |.int i,.int j=>0<j/\Q (.int (i % j)) H
 |_,_=>False
noncomputable def a19:R2:=λx y H Q=>match x,y with
 |.int i,.int j=>ao6 i j/\Q (.int (i ^ j.toNat)) H
 |_,_=>False
noncomputable def Nn:R2:=λx y H Q=>match x,y with
 |.int i,.int j=>ao6 i j/\Q (.int (i * 2 ^ j.toNat)) H
 |_,_=>False
noncomputable def Wv:R2:=λx y H Q=>match x,y with
 |.int i,.int j=>0<=j/\Q (.int (i / 2 ^ j.toNat)) H
 |_,_=>False
noncomputable def Eo:R2:=λx y H Q=>match x,y with
 |.int i,.int j=>Q (.int (bO i j)) H
 |_,_=>False
noncomputable def aj1:R2:=λx y H Q=>match x,y with
 |.int i,.int j=>Q (.int (c_ i j)) H
 |_,_=>False
noncomputable def br0:R2:=λx y H Q=>match x,y with
 |.int i,.int j=>Q (.int (Builtin.bitXor i j)) H
 |_,_=>False
noncomputable def rOp (K:ac):lV->R2
 |.Add=>Bf K
 |.Sub=>aj3
 |.Mult=>Dg K
 |.FloorDiv=>Dx
 |.Mod=>Bc
 |.Pow=>a19
 |.LShift=>Nn
 |.RShift=>Wv
 |.BitAnd=>Eo
 |.BitOr=>aj1
 |.BitXor=>br0
 |_=>rNo
section
variable {X:Cx}
theorem bx9 (op:lV):OpR X (dR op) (rOp X.K op):=by
 intro pins s U H x y v u Q I rx ry h
 cases op with
 |Add=>
  cases x <;> cases y <;> first
   |exact (show False from h).elim
   |exact bb8 pins s U H _ _ v u Q I rx ry ⟨_,_,rfl,rfl,h⟩
   |exact Tz pins s U H _ _ v u Q I rx ry ⟨_,_,rfl,rfl,h⟩
   |exact (op_cat.or (op_catT.or au2)) pins s U H _ _ v u Q I rx ry h
 |Sub=>cases x <;> cases y <;> first|exact (show False from h).elim|exact bd0 pins s U H _ _ v u Q I rx ry ⟨_,_,rfl,rfl,h⟩
 |Mult=>cases x <;> cases y <;> first|exact (show False from h).elim|exact bc4 pins s U H _ _ v u Q I rx ry ⟨_,_,rfl,rfl,h⟩
 |FloorDiv=>cases x <;> cases y <;> first|exact (show False from h).elim|exact au3 pins s U H _ _ v u Q I rx ry ⟨_,_,rfl,rfl,h⟩
 |Mod=>cases x <;> cases y <;> first|exact (show False from h).elim|exact bc3 pins s U H _ _ v u Q I rx ry ⟨_,_,rfl,rfl,h⟩
 |Pow=>cases x <;> cases y <;> first|exact (show False from h).elim|exact bc7 pins s U H _ _ v u Q I rx ry ⟨_,_,rfl,rfl,h⟩
 |LShift=>cases x <;> cases y <;> first|exact (show False from h).elim|exact bc8 pins s U H _ _ v u Q I rx ry ⟨_,_,rfl,rfl,h⟩
 |RShift=>cases x <;> cases y <;> first|exact (show False from h).elim|exact bc9 pins s U H _ _ v u Q I rx ry ⟨_,_,rfl,rfl,h⟩
 |BitAnd=>cases x <;> cases y <;> first|exact (show False from h).elim|exact bb9 pins s U H _ _ v u Q I rx ry ⟨_,_,rfl,rfl,h⟩
 |BitOr=>cases x <;> cases y <;> first|exact (show False from h).elim|exact bp4 pins s U H _ _ v u Q I rx ry ⟨_,_,rfl,rfl,h⟩
 |BitXor=>cases x <;> cases y <;> first|exact (show False from h).elim|exact bd1 pins s U H _ _ v u Q I rx ry ⟨_,_,rfl,rfl,h⟩
 |_=>exact (show False from h).elim
end
noncomputable def Br (K:ac) (neg:Bool):R2:=λx y H Q=>match x,y with
 |.ref a,.ref b=>bh6 K neg (.ref a) (.ref b) H Q\/ai9 K neg (.ref a) (.ref b) H Q\/bh5 K neg (.ref a) (.ref b) H Q\/False\/False
 |.ref a,y=>ai9 K neg (.ref a) y H Q\/False
 |x,.ref b=>ai9 K neg x (.ref b) H Q
 |.int i,.int j=>Q (.bl (if neg then !decide (i=j) else decide (i=j))) H
 |.str i,.str j=>Q (.bl (if neg then !decide (i=j) else decide (i=j))) H
 |.bl i,.bl j=>Q (.bl (if neg then !(i==j) else (i==j))) H
 |x,y=>bh8 x y=true/\Q (.bl (if neg then !decide (x=y) else decide (x=y))) H
noncomputable def bh7:R2:=λx y H Q=>match x,y with
 |.int i,.int j=>Q (.bl (decide (i<j))) H
 |.str i,.str j=>Q (.bl (decide (i.cps.toList<j.cps.toList))) H
 |_,_=>False
noncomputable def G3:R2:=λx y H Q=>match x,y with
 |.int i,.int j=>Q (.bl (decide (i<=j))) H
 |.str i,.str j=>Q (.bl (!decide (j.cps.toList<i.cps.toList))) H
 |_,_=>False
noncomputable def Pg:R2:=λx y H Q=>match x,y with
 |.int i,.int j=>Q (.bl (decide (j<i))) H
 |_,_=>False
noncomputable def by2:R2:=λx y H Q=>match x,y with
 |.int i,.int j=>Q (.bl (decide (j<=i))) H
 |_,_=>False
noncomputable def Ph (K:ac) (neg:Bool):R2:=λx y H Q=>match x,y with
 |.non,_=>False
 |x,.ref p=>rIn K neg x (.ref p) H Q \/ ∃ o,DGet H p x o/\Q (.bl (if neg then !o.isSome else o.isSome)) H
 |_,_=>False
noncomputable def aj0 (neg:Bool):R2:=λx y H Q=>match y with
 |.non=>Q (.bl (if neg then !decide (x=.non) else decide (x=.non))) H
 | .bl d=>(match x with
  |.bl c=>Q (.bl (if neg then !(c==d) else (c==d))) H
  |_=>False)
 |_=>False
noncomputable def L0 (K:ac):lS->R2
 |.Eq=>Br K false
 |.NotEq=>Br K true
 |.Lt=>bh7
 |.LtE=>G3
 |.Gt=>Pg
 |.GtE=>by2
 |.In=>Ph K false
 |.NotIn=>Ph K true
 |.Is=>aj0 false
 |.IsNot=>aj0 true
section
variable {X:Cx}
theorem M0 (hu:X.A.units+64<cLine) (op:lS):OpR X (cG op) (L0 X.K op):=by
  intro pins s U H x y v u Q I rx ry h
  cases op with
  |Eq=>
    cases x <;> cases y <;> first
      | (rcases h with h|h|h|h|h
         . exact bc1 (by omega) pins s U H _ _ v u Q I rx ry h
         . exact T7 hu I rx ry (.inl ⟨_,rfl⟩) h
         . exact bc0 hu I rx ry h
         . exact h.elim
         . exact h.elim)
      | (rcases h with h|h
         . exact T7 hu I rx ry (.inl ⟨_,rfl⟩) h
         . exact h.elim)
      |exact T7 hu I rx ry (.inr ⟨_,rfl⟩) h
      |exact Wh pins s U H _ _ v u Q I rx ry h
      |exact Wh pins s U H _ _ v u Q I rx ry ⟨rfl,by rw[Ji,fc];exact h⟩
      |exact Wh pins s U H _ _ v u Q I rx ry ⟨rfl,by rw[Jj,fc];exact h⟩
      |exact Wh pins s U H _ _ v u Q I rx ry ⟨rfl,by rw[Oc];exact h⟩
  |NotEq=>
    cases x <;> cases y <;> first
      | (rcases h with h|h|h|h|h
         . exact bc6 (by omega) pins s U H _ _ v u Q I rx ry h
         . exact T8 hu I rx ry (.inl ⟨_,rfl⟩) h
         . exact bc5 hu I rx ry h
         . exact h.elim
         . exact h.elim)
      | (rcases h with h|h
         . exact T8 hu I rx ry (.inl ⟨_,rfl⟩) h
         . exact h.elim)
      |exact T8 hu I rx ry (.inr ⟨_,rfl⟩) h
      |exact Wi pins s U H _ _ v u Q I rx ry h
      |exact Wi pins s U H _ _ v u Q I rx ry ⟨rfl,by rw[Ji,fc];exact h⟩
      |exact Wi pins s U H _ _ v u Q I rx ry ⟨rfl,by rw[Jj,fc];exact h⟩
      |exact Wi pins s U H _ _ v u Q I rx ry ⟨rfl,by rw[Oc];exact h⟩
  |Lt=>cases x <;> cases y <;> first|exact (show False from h).elim|exact bp3 pins s U H _ _ v u Q I rx ry ⟨_,_,rfl,rfl,h⟩|exact Yc pins s U H _ _ v u Q I rx ry ⟨_,_,rfl,rfl,h⟩
  |LtE=>cases x <;> cases y <;> first|exact (show False from h).elim|exact bp2 pins s U H _ _ v u Q I rx ry ⟨_,_,rfl,rfl,h⟩|exact Yb pins s U H _ _ v u Q I rx ry ⟨_,_,rfl,rfl,h⟩
  |Gt=>cases x <;> cases y <;> first|exact (show False from h).elim|exact bp1 pins s U H _ _ v u Q I rx ry ⟨_,_,rfl,rfl,h⟩
  |GtE=>cases x <;> cases y <;> first|exact (show False from h).elim|exact bp0 pins s U H _ _ v u Q I rx ry ⟨_,_,rfl,rfl,h⟩
  |In=>cases x <;> cases y <;> first|exact (show False from h).elim|exact h.elim (Ya pins s U H _ _ v u Q I rx ry) (fun⟨o,g,q⟩=>by cases ry;exact bx3 (by omega) I g rx λs' I'=>⟨.bl _,H,I',rfl,q⟩)
  |NotIn=>cases x <;> cases y <;> first|exact (show False from h).elim|exact h.elim (O7 pins s U H _ _ v u Q I rx ry) (fun⟨o,g,q⟩=>by cases ry;exact ar6 (by omega) I g rx λs' I'=>⟨.bl _,H,I',rfl,q⟩)
  |Is=>cases y <;> first|exact (show False from h).elim|exact bc2 pins s U H _ _ v u Q I rx ry ⟨rfl,h⟩|(cases x <;> first|exact (show False from h).elim|(cases rx;cases ry;exact is_bool ⟨.bl _,H,I,rfl,h⟩))
  |IsNot=>cases y <;> first|exact (show False from h).elim|exact au4 pins s U H _ _ v u Q I rx ry ⟨rfl,h⟩|(cases x <;> first|exact (show False from h).elim|(cases rx;cases ry;exact isnot_bool ⟨.bl _,H,I,rfl,h⟩))
end
noncomputable def Wt:V->Hp->VK->Prop:=λx H Q=>match x with
 |.int i=>Q (.int (-i)) H
 |_=>False
theorem b28 {X:Cx}:UnR X (l_ .USub) Wt:=by
 intro pins s U H x v Q I rx h
 cases x <;> first|exact (show False from h).elim|exact bi6 pins s U H _ v Q I rx ⟨_,rfl,h⟩
noncomputable def Wr:V->Hp->VK->Prop:=λx H Q=>match x with
 |.int i=>Q (.int (cj i)) H
 |_=>False
theorem bl8 {X:Cx}:UnR X (l_ .Invert) Wr:=by
 intro pins s U H x v Q I rx h
 cases x <;> first|exact (show False from h).elim|exact bi5 pins s U H _ v Q I rx ⟨_,rfl,h⟩
theorem W9 {X:Cx}:bj5 X (an3 X.K):=by
 intro pins s U H x v Q I rx h
 cases x with
 |non=>exact Ll pins s U H _ v Q I rx ⟨_,rfl,h⟩
 |bl b=>exact Ll pins s U H _ v Q I rx ⟨_,rfl,h⟩
 |int i=>exact Ll pins s U H _ v Q I rx ⟨_,rfl,h⟩
 |str y=>exact Ll pins s U H _ v Q I rx ⟨_,⟨h.1,rfl⟩,h.2⟩
 |ref p=>exact Ll pins s U H _ v Q I rx h
 |_=>exact (show False from h).elim
inductive SqX (K:ac) (H:Hp) (p:Addr) (i:Int) (xs:List V):Prop where
 |inl (h:SqL K H p xs)
 |inr (h:SqT K H p xs)
 |dk (h:∀ v,atI xs i=some v->DGet H p (.int i) (some v))
noncomputable def A8 (K:ac):R2:=λx y H Q=>match x,y with
 |.str z,.int i=>z.length<=sizeLine /\ ∃ c,atI z.cps.toList i=some c/\Q (.str ⟨#[c]⟩) H
 |.ref p,.int i=>∃ xs v,SqX K H p i xs/\atI xs i=some v/\Q v H
 |.ref p,.str k=>∃ v,DGet H p (.str k) (some v)/\Q v H
 |.ref p,.ref b=>∃ v,DGet H p (.ref b) (some v)/\Q v H
 |_,_=>False
theorem bx8 {X:Cx} (hu:X.A.units+64<cLine):IxR X (A8 X.K):=by
  intro value slice pins s U H x y v u Q I rx ry h hs
  cases x <;> cases y <;> first
    |exact (show False from h).elim
    |(obtain⟨h1,c,h2,h3⟩:=h;exact a60 value slice pins s U H _ _ v u Q I rx ry ⟨_,_,c,rfl,rfl,h1,h2,h3⟩ hs)
    | (obtain⟨xs,w,h1|h1|h1,h2,h3⟩:=h
       . exact as8 value slice pins s U H _ _ v u Q I rx ry ⟨_,_,_,_,rfl,rfl,h1,h2,h3⟩ hs
       . exact a61 value slice pins s U H _ _ v u Q I rx ry ⟨_,_,_,_,rfl,rfl,h1,h2,h3⟩ hs
       . exact Jq hu value slice pins s U H _ _ v u Q I rx ry ⟨_,w,rfl,h1 w h2,h3⟩ hs)
    |(obtain⟨w,h1,h2⟩:=h;exact Jq hu value slice pins s U H _ _ v u Q I rx ry ⟨_,w,rfl,h1,h2⟩ hs)
noncomputable def a20:V->V->V->Hp->(Hp->Prop)->Prop:=λo i v H N=>match o,i with
 |.ref p,.int k=>False \/ ∃ H',DPut H p (.int k) v H'/\N H'
 |.ref p,i=>∃ H',DPut H p i v H'/\N H'
 |_,_=>False
theorem br3 {X:Cx} (hu:X.A.units+64<cLine):bj3 X a20:=by
 intro pins s U H o i v ov iv u Q I ro ri rv h
 cases o with
 |ref p=>
  have dp:∀ {H'},DPut H p i v H'->Q H'->aQ (model X.prog X.w) X.A (setItem ov iv u) (λ_ s'=>∃ H',Inv X pins U H' s'/\Q H') X.xe s:=λ{H'} g q=>by
   cases ro
   exact Xn (by omega) I g ri rv λs' I'=>⟨H',I',q⟩
  cases i with
  |int k=>
   rcases h with h|⟨H',g,q⟩
   .exact h.elim
   .exact dp g q
  |_=>obtain⟨H',g,q⟩:=h;exact dp g q
 |_=>exact (show False from h).elim
noncomputable def A5 (K:ac) (f:Str):V->Hp->VK->Prop:=λx H Q=>match x with
 |.ref a=>(∃ C dx fs v,H a=some (.ins C dx fs)/\Cls K C/\NoAttr K C f/\fs.lookup f=some v/\Q v H)\/False
 |_=>False
noncomputable def Wu (K:ac) (f:Str):V->V->Hp->(Hp->Prop)->Prop:=λx y H N=>match x with
 |.ref a=>(∃ C dx fs,H a=some (.ins C dx fs)/\Cls K C/\NoAttr K C f/\fs.length<1000/\N (upd H a (.ins C dx (Dv f y fs))))\/False
 |_=>False
section
variable {X:Cx} {pins:List (Addr×Obj)} {U:St} {H:Hp} {s:am} {A:bj} {E:ai->am->Prop}
theorem bk6 {f:Str} {x:V} {u:ai} {b:Bool} {Q:VK} (I:Inv X pins U H s) (rx:RelV x u) (h:A5 X.K f x H Q):aQ (model X.prog X.w) A (getAttr u f b) (EP X pins U Q) E s:=by
 cases x with
 |ref a=>
  cases rx
  rcases h with ⟨C,dx,fs,v,ea,c,n,l,q⟩|h
  .exact Tc I ea c n l λu' s2 I2 ru=>⟨v,H,I2,ru,q⟩
  .exact h.elim
 |_=>exact (show False from h).elim
theorem br2 {f:Str} {x y:V} {u v:ai} {N:Hp->Prop} {Q:Unit->am->Prop} (I:Inv X pins U H s) (rx:RelV x u) (ry:RelV y v) (h:Wu X.K f x y H N) (hQ:∀ H' s',Inv X pins U H' s'->N H'->Q () s') :
  aQ (model X.prog X.w) A (setAttr u f v) Q E s:=by
 cases x with
 |ref a=>
  cases rx
  rcases h with ⟨C,dx,fs,ea,c,n,l,q⟩|h
  .exact Uh I ea c n l ry λs3 I3=>hQ _ _ I3 q
  .exact h.elim
 |_=>exact (show False from h).elim
end
structure FI where
 f:Addr
 fd:a8
 ps:List Str
 k:Nat
 sp:Sp
 dfs:List V
 ds:List ai
structure MI where
 C:Addr
 i:FI
inductive GB where
 |fn (i:FI)
 |cls (C:Addr) (i:Option FI)
 |met (m:Str) (l:List MI)
 |val (v:V) (u:ai)
noncomputable def Dh:List (Str×GB)->Str->Option (List MI)
 |[],_=>none
 |(_,.met m l)::r,x=>if m=x then some l else Dh r x
 |_::r,x=>Dh r x
theorem C6:∀ {gb:List (Str×GB)} {x:Str} {l:List MI},Dh gb x=some l -> ∃ k,(k,GB.met x l)∈gb
 | (k,.met m l')::r,x,l,h=>by
  unfold Dh at h
  by_cases e:m=x
  .rw[if_pos e] at h;cases h;subst e;exact⟨k,by simp⟩
  .rw[if_neg e] at h;obtain⟨k,q⟩:=C6 h;exact⟨k,az _ q⟩
 |(_,.fn _)::r,x,l,h=>by unfold Dh at h;obtain⟨k,q⟩:=C6 h;exact⟨k,az _ q⟩
 |(_,.cls _ _)::r,x,l,h=>by unfold Dh at h;obtain⟨k,q⟩:=C6 h;exact⟨k,az _ q⟩
 |(_,.val _ _)::r,x,l,h=>by unfold Dh at h;obtain⟨k,q⟩:=C6 h;exact⟨k,az _ q⟩
structure Sg where
 K:ac
 N:List Str
 sc:List (Str×cC)
 gb:List (Str×GB)
 bl:List Str
 top:Bool
 calm:Bool
noncomputable def Dy:List Str->Str->Nat->Option Nat
 |[],_,_=>none
 |y::r,x,i=>if y=x then some i else Dy r x (i+1)
theorem No:∀ {N:List Str} {x:Str} {i j:Nat},Dy N x j=some i->j<=i/\N[i - j]? = some x
 |[],_,_,_,h=>by cases h
 | y::r,x,i,j,h=>by
  unfold Dy at h
  by_cases e:y=x
  .rw[if_pos e] at h
   cases h
   refine⟨ah _,?_⟩
   rw[fA,e]
   rfl
  .rw[if_neg e] at h
   obtain⟨h1,h2⟩:=No h
   refine⟨by omega,?_⟩
   have:i - j=(i - (j+1))+1:=by omega
   rw[this,bx]
   exact h2
theorem Fk {N:List Str} {x:Str} {i:Nat} (h:Dy N x 0=some i):N[i]? = some x:=(No h).2
noncomputable def En (x:Str):Bool:=!(x==("__debug__" : Str)) && !(x==("__classdict__" : Str)) && !(x==("__name__" : Str))
noncomputable def Lw (G:Sg) (x:Str):Bool:=(G.sc.lookup x==some .globalImplicit)&&En x
noncomputable def Vj (x:Str):Option String:=
 if x = "int" then some "int" else if x = "bool" then some "bool" else if x = "str" then some "str" else if x = "list" then some "list" else if x = "tuple" then some "tuple" else if x = "dict" then some "dict" else if x = "ValueError" then some "ValueError" else none
theorem ar4:cV "ValueError" = some (.type "ValueError"):=by decide +kernel
theorem Y0 {x:Str} {T:String} (h:Vj x=some T):cV x=some (.type T):=by
 unfold Vj at h
 by_cases e1:x = "int"
 .rw[if_pos e1] at h;cases h;rw[e1];exact jE
 rw[if_neg e1] at h
 by_cases e2:x = "bool"
 .rw[if_pos e2] at h;cases h;rw[e2];exact PyProof.Rows.boot_bool
 rw[if_neg e2] at h
 by_cases e3:x = "str"
 .rw[if_pos e3] at h;cases h;rw[e3];exact PyProof.Rows.boot_str
 rw[if_neg e3] at h
 by_cases e4:x = "list"
 .rw[if_pos e4] at h;cases h;rw[e4];exact eY
 rw[if_neg e4] at h
 by_cases e5:x = "tuple"
 .rw[if_pos e5] at h;cases h;rw[e5];exact i7
 rw[if_neg e5] at h
 by_cases e6:x = "dict"
 .rw[if_pos e6] at h;cases h;rw[e6];exact PyProof.Rows.boot_dict
 rw[if_neg e6] at h
 by_cases e7:x = "ValueError"
 .rw[if_pos e7] at h;cases h;rw[e7];exact ar4
 rw[if_neg e7] at h
 cases h
noncomputable def Vv (CX:CXT) (X:Cx):Prop:=∀ Ex,Meets X Ex -> ∀ (pins:List (Addr×Obj)) (U:St) (H:Hp) (s:am) (e:ai) (s':am),Inv X pins U H s->CX X.stack H s (λv _ H'=>∃ a,v=.ref a/\Ex U a H') e s'->X.xe e s'
structure Hj (X:Cx) (i:FI):Prop where
 kp:bA X.K (.ref i.f)=true
 ok:∃ CX,(∀ X':Cx,X'.prog=X.prog->X'.w=X.w->Vv CX X')/\FnOk X.prog X.w X.K X.mg X.base CX i.k i.f i.fd i.ps i.sp
 room:Room i.k X.A
 binds:∀ j,j<=i.dfs.length->Binds X.K i.fd i.ps (i.ds.drop j)
 vals:Vals i.dfs i.ds
noncomputable def Z0 (X:Cx) (C:Addr):Option FI->Prop
 |none=>dH X.K C=true/\bC X.K (.ref C) "__init__" = some (some (.builtin "object.__init__"))
 |some i=>dH X.K C=true/\bC X.K (.ref C) "__init__" = some (some (.ref i.f))/\dE X.K (.ref i.f)=true/\Hj X i/\Room (i.k+1) X.A
noncomputable def GBOk (X:Cx) (x:Str):GB->Prop
 |.fn i=>X.mg x=some (.ref i.f)/\Hj X i
 |.val v u=>X.mg x=some u/\RelV v u
 |.cls C oi=>X.mg x=some (.ref C)/\bA X.K (.ref C)=true/\Z0 X C oi
 |.met m l=>∀ mi∈l,Cls X.K mi.C/\Nw X.K mi.C m mi.i.f/\Hj X mi.i
theorem GBOk.to {X X':Cx} (hm:X'.mg=X.mg) (hK:X'.K=X.K) (hP:X'.prog=X.prog) (hw:X'.w=X.w) (hA:∀ k,Room k X.A->Room k X'.A) (hf:∀ i,Hj X i->Hj X' i) {x:Str} {g:GB} (h:GBOk X x g):GBOk X' x g:=by
 cases g with
 |fn i=>exact⟨hm▸h.1,hf i h.2⟩
 |val v u=>exact⟨hm▸h.1,h.2⟩
 |cls C oi=>
  obtain⟨a,b,d⟩:=h
  refine⟨hm▸a,hK▸b,?_⟩
  cases oi with
  |none=>unfold Z0 at d ⊢;rw[hK];exact d
  |some i=>obtain⟨d1,d2,d3,d4,d5⟩:=d;exact⟨hK▸d1,hK▸d2,hK▸d3,hf i d4,hA _ d5⟩
 |met m l=>exact λmi hi=>⟨hK▸(h mi hi).1,hK▸(h mi hi).2.1,hf _ (h mi hi).2.2⟩
noncomputable def FrH (X:Cx):Prop:=∃ (e0:Env) (o0:List Env) (L:Addr),X.stack=e0::o0/\e0.frame=some L/\X.env.frame=some L
structure GOk (X:Cx) (G:Sg):Prop where
 K:X.K=G.K
 kind:X.env.scope.kind=.function
 own:G.top=true->jC (model X.prog X.w) X.A X.env X.xe
 N:X.N=G.N
 nd:G.N.Nodup
 sc:∀ x,X.env.scope.names.lookup x=G.sc.lookup x
 vis:∀ x∈G.N,Vis X.env.scope x
 top:G.top=true -> ∀ x,X.fn x=true
 calm:G.calm=X.calm
 hd:X.calm=true->X.A.handled=none
 units:X.A.units+64<cLine
 cel:∀ x,(X.env.scope.names.lookup x=some .cell\/X.env.scope.names.lookup x=some .free) -> ∃ c,X.env.cells.lookup x=some c
 gb:∀ x g,(x,g)∈G.gb->GBOk X x g
 bl:∀ x,G.bl.contains x=true->X.mg x=none
 frm:G.top=true->X.stack=X.env::X.outer/\X.env.frame=some X.env.locals
 fr:FrH X
section
variable {X:Cx} {G:Sg}
theorem GOk.at_ (O:GOk X G) (x:Str) (g:GB) (e:G.gb.lookup x=some g):GBOk X x g:=O.gb x g (ca e)
theorem GOk.met (O:GOk X G) (m:Str) (l:List MI) (e:Dh G.gb m=some l):∀ mi∈l,Cls X.K mi.C/\Nw X.K mi.C m mi.i.f/\Hj X mi.i:=by
 obtain⟨x,hx⟩:=C6 e
 exact O.gb x _ hx
theorem GOk.gl (O:GOk X G) {x:Str} (h:Lw G x=true):Gl X x:=by
 unfold Lw at h
 rw[aU] at h
 have:=cQ h.1
 unfold Gl
 show X.env.scope.names.lookup x=_
 rw[O.sc x]
 exact this
theorem O9 {x:Str} (h:En x=true):(x==("__debug__" : Str))=false/\(x==("__classdict__" : Str))=false/\x ≠ "__name__" := by
 unfold En at h
 simp only[aU,iH] at h
 exact⟨h.1.1,h.1.2,λe=>by rw[e] at h;simp at h⟩
theorem ac5 {x:Str} (h:Lw G x=true):(x==("__debug__" : Str))=false/\(x==("__classdict__" : Str))=false/\x ≠ "__name__" := by
 unfold Lw at h
 rw[aU] at h
 exact O9 h.2
noncomputable def ao1 (G:Sg) (x:Str):DE:=
 match Dy G.N x 0 with
 |some i=>if En x=true then Ab i else dNo
 | none=>if Lw G x=true then (match G.gb.lookup x with
   |some (.val v _)=>dC v
   |some (.cls C _)=>dC (.ref C)
   |some _=>dNo
   | none=>if G.bl.contains x=true then (match Vj x with
    |some T=>dC (.ty T)
    |none=>dNo) else dNo) else dNo
theorem Bt {e:Expr}:QE X e dNo:=λ_ _ _ _ _ _ _ _ h=>h.elim
theorem bg2 {i:Nat} {x:Str} {pos:Pos} (hN:X.N[i]? = some x) (hv:Vis X.env.scope x) (hp:En x=true):QE X (.Name x pos) (Ab i):=by
 intro Ex _ pins s U H Q I h
 unfold Ab at h
 split at h
 .rename_i v e
  exact bd9 hN hv (O9 hp).1 (O9 hp).2.1 pins s U H Q I ⟨v,e,h⟩
 .exact h.elim
theorem aw5 (O:GOk X G) (x:Str) (pos:Pos):QE X (.Name x pos) (ao1 G x):=by
 unfold ao1
 split
 .rename_i i e
  split
  .rename_i hp
   have hi:=Fk e
   exact bg2 (by rw[O.N];exact hi) (O.vis x (al hi)) hp
  .exact Bt
 .split
  .rename_i hg
   have dd:=ac5 hg
   split
   .rename_i v u e
    obtain⟨h1,h2⟩:=O.at_ x _ e
    exact λ_ _=>Wj (O.gl hg) h1 h2 dd.1
   .rename_i C oi e
    exact λ_ _=>Wj (v:=.ref C) (O.gl hg) (O.at_ x _ e).1 rfl dd.1
   .exact Bt
   .split
    .rename_i hb
     split
     .rename_i T e
      exact λ_ _=>au8 (O.gl hg) (O.bl x hb) (Y0 e) rfl dd.2.2 dd.1
     .exact Bt
    .exact Bt
  .exact Bt
noncomputable def an9:Const->DE
 |.int i=>dC (.int i)
 |.bool b=>dC (.bl b)
 |.none=>dC .non
 |.str x=>dC (.str x)
 |_=>dNo
theorem ai0 (c:Const) (j:Nat) (pos:Pos):QE X (.Constant c j pos) (an9 c):=by
 cases c with
 |int i=>exact λ_ _=>bd3
 |bool b=>exact λ_ _=>bp6
 |none=>exact λ_ _=>bd5
 |str x=>exact λ_ _=>bd7
 |_=>exact Bt
variable {a b c:Expr} {da db dc:DE} {ta tb:DT} {es:List Expr} {r:DA} {pos:Pos}
theorem ah6 (op:lV) (ha:QE X a da) (hb:QE X b db):QE X (.BinOp a op b pos) (Ah (rOp X.K op) da db):=λEx m=>bp8 (bx9 op) (ha Ex m) (hb Ex m)
theorem bf5 (ha:QE X a da):QE X (.UnaryOp .USub a pos) (dUn Wt da):=λEx m=>a14 b28 (ha Ex m)
theorem bf1 (ha:QE X a da):QE X (.UnaryOp .Invert a pos) (dUn Wr da):=λEx m=>a14 bl8 (ha Ex m)
theorem bf0 (hu:X.A.units+64<cLine) (op:lS) (ha:QE X a da) (hb:QE X b db) (hm:jc op b=false):QE X (.Compare a [op] [b] pos) (Ah (L0 X.K op) da db):=λEx m=>au9 (M0 hu op) (ha Ex m) (hb Ex m) hm
theorem bh0 (hu:X.A.units+64<cLine) (op:lS) (ha:QE X a da) (hb:QE X b db) (hm:jc op b=false):QT X (.Compare a [op] [b] pos) (Bb (Ah (L0 X.K op) da db)):=by
 intro Ex m pins s U H Q I h
 refine wpAny_isTrue_Compare1 (thn (ha Ex m pins s U H _ I h) λv s1 ⟨x,H1,I1,r1,q1⟩=>thn (hb Ex m pins s1 U H1 _ I1 q1) λu s2 ⟨y,H2,I2,r2,q2⟩=>
  thn (M0 hu op pins s2 U H2 x y v u _ I2 r1 r2 q2) λc s3 ⟨z,H3,I3,r3,q3⟩=>?_) hm
 cases z with
 |bl k=>cases r3;exact eo ⟨H3,I3,q3⟩
 |_=>exact (show False from q3).elim
theorem ah9 (hu:X.A.units+64<cLine) (op op':lS) (ha:QE X a da) (hb:QE X b db) (hc:QE X c dc) (hm:lastMarks [op,op'] [b,c]=false) :
  QE X (.Compare a [op,op'] [b,c] pos) (Eb (L0 X.K op) (L0 X.K op') da db dc):=by
 intro Ex m pins s U H Q I h
 refine Compare_chain (thn (ha Ex m pins s U H _ I h) λv s1 ⟨x,H1,I1,r1,q1⟩=>chain_link (thn (hb Ex m pins s1 U H1 _ I1 q1) λu s2 ⟨y,H2,I2,r2,q2⟩=>
  thn (M0 hu op pins s2 U H2 x y v u _ I2 r1 r2 q2) λd s3 ⟨z,H3,I3,r3,q3⟩=>?_)) hm
 cases z with
 |bl k=>
  cases r3
  refine eo ?_
  cases k with
  |false=>exact ite_ff ⟨.bl false,H3,I3,rfl,q3⟩
  |true=>exact ite_tt (chain_last (thn (hc Ex m pins s3 U H3 _ I3 q3) λw' s4 ⟨z',H4,I4,r4,q4⟩=>M0 hu op' pins s4 U H4 y z' u w' Q I4 r2 r4 q4))
 |_=>exact (show False from q3).elim
theorem ai7 (hu:X.A.units+64<cLine) (op op':lS) (ha:QE X a da) (hb:QE X b db) (hc:QE X c dc) (hm:lastMarks [op,op'] [b,c]=false) :
  QT X (.Compare a [op,op'] [b,c] pos) (Bb (Eb (L0 X.K op) (L0 X.K op') da db dc)):=by
 intro Ex m pins s U H Q I h
 refine isTrue_chain (thn (ha Ex m pins s U H _ I h) λv s1 ⟨x,H1,I1,r1,q1⟩=>test_link (thn (hb Ex m pins s1 U H1 _ I1 q1) λu s2 ⟨y,H2,I2,r2,q2⟩=>
  thn (M0 hu op pins s2 U H2 x y v u _ I2 r1 r2 q2) λd s3 ⟨z,H3,I3,r3,q3⟩=>?_)) hm
 cases z with
 |bl k=>
  cases r3
  refine eo ?_
  cases k with
  |false=>exact ite_ff ⟨H3,I3,q3⟩
  |true=>
   refine ite_tt (test_last (thn (hc Ex m pins s3 U H3 _ I3 q3) λw' s4 ⟨z',H4,I4,r4,q4⟩=>thn (M0 hu op' pins s4 U H4 y z' u w' _ I4 r2 r4 q4) λd' s5 ⟨z2,H5,I5,r5,q5⟩=>?_))
   cases z2 with
   |bl k2=>cases r5;exact eo ⟨H5,I5,q5⟩
   |_=>exact (show False from q5).elim
 |_=>exact (show False from q3).elim
noncomputable def ah0:Expr->Bool
 |.UnaryOp .Not _ _=>false
 |.BoolOp _ _ _=>false
 |.IfExp _ _ _ _=>false
 |.Compare _ _ _ _=>false
 |_=>true
theorem Ye {e:Expr} (h:ah0 e=true) (whole:Sem ai):isTrue e X.env whole=(do let v <- whole;standAt e.pos;lK [v] (truthy v)):=by
 cases e with
 |UnaryOp op _ _=>cases op <;> first|rfl|cases h
 |BoolOp _ _ _=>cases h
 |IfExp _ _ _ _=>cases h
 |Compare _ _ _ _=>cases h
 |_=>rfl
theorem bh2 (ha:QE X a da) (h:ah0 a=true):QT X a (C4 X.K da):=by
 intro Ex m pins s U H Q I hw
 exact isTrue_plain (thn (ha Ex m pins s U H _ I hw) λv s1 ⟨x,H1,I1,r1,q1⟩=>W9 pins s1 U H1 x v Q I1 r1 q1) (Ye h _)
theorem bh1 (ha:QT X a ta):QT X (.UnaryOp .Not a pos) (Ed ta):=λEx m=>be5 (ha Ex m)
theorem ax4 (ha:QT X a ta):QW X (.BoolOp .And [a] pos) ta:=λEx m=>av9 (ha Ex m)
theorem bh4 (ha:QT X a ta):QW X (.BoolOp .Or [a] pos) ta:=λEx m=>be7 (ha Ex m)
theorem bh3 (ha:QT X a ta) (hb:QW X (.BoolOp .And (b::es) pos) tb):QW X (.BoolOp .And (a::b::es) pos) (J6 ta tb):=λEx m=>be6 (ha Ex m) (hb Ex m)
theorem bq8 (ha:QT X a ta) (hb:QW X (.BoolOp .Or (b::es) pos) tb):QW X (.BoolOp .Or (a::b::es) pos) (dOr ta tb):=λEx m=>bq2 (ha Ex m) (hb Ex m)
theorem bf7 {op:BoolOp} (ha:QE X a da):QE X (.BoolOp op [a] pos) da:=λEx m=>bd6 (ha Ex m)
theorem be8 (ha:QE X a da) (hb:QE X (.BoolOp .And (b::es) pos) db):QE X (.BoolOp .And (a::b::es) pos) (M2 X.K da db):=by
 intro Ex m pins s U H Q I h
 refine BoolOp_and (thn (ha Ex m pins s U H _ I h) λv s1 ⟨x,H1,I1,r1,q1⟩=>thn (W9 pins s1 U H1 x v _ I1 r1 q1) λk s2 ⟨H2,I2,q2⟩=>?_)
 cases k with
 |true=>exact hb Ex m pins s2 U H2 Q I2 q2
 |false=>exact⟨x,H2,I2,r1,q2⟩
theorem bq6 (ha:QE X a da) (hb:QE X (.BoolOp .Or (b::es) pos) db):QE X (.BoolOp .Or (a::b::es) pos) (bk0 X.K da db):=by
 intro Ex m pins s U H Q I h
 refine BoolOp_or (thn (ha Ex m pins s U H _ I h) λv s1 ⟨x,H1,I1,r1,q1⟩=>thn (W9 pins s1 U H1 x v _ I1 r1 q1) λk s2 ⟨H2,I2,q2⟩=>?_)
 cases k with
 |false=>exact hb Ex m pins s2 U H2 Q I2 q2
 |true=>exact⟨x,H2,I2,r1,q2⟩
theorem bf6 (ha:QE X a da):QE X (.UnaryOp .Not a pos) (aa9 X.K da):=by
 intro Ex m pins s U H Q I h
 refine UnaryOp_ (thn (ha Ex m pins s U H _ I h) λv s1 ⟨x,H1,I1,r1,q1⟩=>not_of (thn (W9 pins s1 U H1 x v _ I1 r1 q1) λk s2 ⟨H2,I2,q2⟩=>?_))
 exact⟨.bl (!k),H2,I2,rfl,q2⟩
theorem bq3 {t:Expr} (ht:QT X t ta) (ha:QE X a da) (hb:QE X b db):QE X (.IfExp t a b pos) (bj9 ta da db):=λEx m=>ag5 (ht Ex m) (ha Ex m) (hb Ex m)
noncomputable def Ba:Expr->Bool
 |.Starred _ _=>false
 |_=>true
theorem A0 {e:Expr} (h:Ba e=true) (es:List Expr) (env:Env):cW (e::es) env=(false,eval e env)::cW es env:=by
 cases e with
 |Starred _ _=>cases h
 |_=>rfl
theorem Bw {es:List Expr} (h:es.all Ba=true) (env:Env) (pos:Pos):(iV pos (cW es env)).any (·.1)=false:=by
 induction es with
 |nil=>rfl
 |cons e es ih=>
  rw[bW,aU] at h
  rw[A0 h.1]
  show (false||(iV pos (cW es env)).any (·.1))=false
  rw[ih h.2]
  rfl
theorem Ir {es:List Expr} (h:es.all Ba=true) (env:Env) (pos:Pos):(iV pos (cW es env)).all (λx=>!x.1)=true:=by
 induction es with
 |nil=>rfl
 |cons e es ih=>
  rw[bW,aU] at h
  rw[A0 h.1]
  show (true&&(iV pos (cW es env)).all (λx=>!x.1))=true
  rw[ih h.2]
  rfl
theorem T9:QA X [] Af:=λ_ _=>bd2
theorem Pa (ha:QE X a da) (hr:QA X es r) (hs:Ba a=true):QA X (a::es) (Ac da r):=λEx m=>au7 (ha Ex m) (hr Ex m) (A0 hs es X.env)
theorem bf9 {k:Nat} (h:QA X es r):QE X (.Tuple es k pos) (Et r):=λEx m=>bd8 (h Ex m)
theorem bf2 (h:QA X es r):QE X (.List es pos) (B6 r):=λEx m=>bd4 (h Ex m)
noncomputable def Gy:Expr->Bool
 |.Slice _ _ _ _=>false
 |_=>true
theorem Tw {e:Expr} (h:Gy e=true):Vw e:=by
 intro o i
 cases e with
 |Slice _ _ _ _=>cases h
 |_=>rfl
theorem bq4 (hu:X.A.units+64<cLine) (ha:QE X a da) (hb:QE X b db) (h:Gy b=true):QE X (.Subscript a b pos) (Ah (A8 X.K) da db):=λEx m=>bp7 (bx8 hu) (ha Ex m) (hb Ex m) (Tw h)
theorem aw0 {f:Str} (ha:QE X a da) (h:jb a f X.env (eval a X.env)=eval a X.env):QE X (.Attribute a f pos) (dUn (A5 X.K f) da):=by
 intro Ex m pins s U H Q I hw
 exact ar0 h (thn (ha Ex m pins s U H _ I hw) λu s1 ⟨x,H1,I1,rx,q⟩=>bk6 I1 rx q)
end
end L2
namespace PySem.SeqAt
open AutoSeq1 (wpAny_loadPart')
open MeetsSeq MeetsSeq2 MeetsSeq3
end PySem.SeqAt
namespace PySem.W
open PySem PySem.Calls PyProof.Rows
noncomputable def kRun {α:Type} (n:Nat) (lt:Nat->Nat->Bool):KasT α->Option α
 |.ret a=>some a
 |.ask i j k=>if i<n/\j<n then kRun n lt (k (lt i j)) else none
theorem kRun_wp {α:Type} {n:Nat} {lt:Nat->Nat->Bool} {cmp:Nat->Nat->(Bool->am->Prop)->am->Prop} {G:α->am->Prop} {s:am} (h:∀ i j C,i<n->j<n->C (lt i j) s->cmp i j C s) :
  ∀ {t:KasT α} {a:α},kRun n lt t=some a->G a s->t.kasWp cmp G s
 | .ret b,a,e,g=>by
  have:b=a:=aH e
  subst this
  exact g
 | .ask i j k,a,e,g=>by
  unfold kRun at e
  split at e
  .rename_i hij
   exact h i j _ hij.1 hij.2 (kRun_wp h e g)
  .cases e
section
variable {prog:aX} {w:bB} {A:bj} {E:ai->am->Prop} {s:am} {vs:List ai}
noncomputable def SoFin (a:Addr) (e:Nat) (out:List ai) (C:am->Prop) (s:am):Prop:=
 s.heap.get? a=some (bo "list" #[] e) /\ ∀ h' c,h'.get? a=some (bo "list" (cn out) c)->a9 a s.heap h'->C { s with heap:=h' }
theorem SoFin.mono {a:Addr} {e:Nat} {out:List ai} {C C':am->Prop} (h:SoFin a e out C s) (hc:∀ s,C s->C' s):SoFin a e out C' s:=⟨h.1,λh' c x y=>hc _ (h.2 h' c x y)⟩
theorem Po {n:Nat} {a:Addr} {P:lF->am->Prop} (ho:s.heap.get? a=some (bo "list" vs.toArray n)) (h2:2<=vs.length) (h64:vs.length<64)
  (h:∀ e1 h',h'.get? a=some (bo "list" #[] e1)->(∀ b o,b≠a->s.heap.get? b=some o->h'.get? b=some o) ->
   aQ (model prog w) A (l7 vs.toArray) (λκ s'=>(kas_sort vs.length).kasWp (kas_ask prog w A κ vs) (λp s''=>SoFin a e1 (p.toList.map λi=>vs.getD i bi) (λs3=>P (.done (.ret .none)) s3) s'') s') (λ_ _=>False) { s with heap:=h' }) :
  aQ (model prog w) A (aK.«list.sort» ⟨[.ref a],[]⟩) P E s:=by
 have ha:a<s.heap.objs.size:=aD ho
 have s1:=bD s.heap a (a7 λ_=>(#[]:Array ai))
 obtain⟨e1,ho1⟩:∃ e1,(s.heap.update a (a7 λ_=>(#[]:Array ai))).get? a=some (bo "list" #[] e1):=⟨_,d_ ho λ_=>#[]⟩
 have ask:=h e1 (((s.heap.update a (a7 λ_=>(#[]:Array ai))).push (bo "tuple" vs.toArray 0)).push (bo "list" #[] 0)) (aj _ (aj _ ho1))
  (λb o nb e=>aj _ (aj _ ((s1.2 b nb).trans e)))
 rw[list_sort_plain]
 refine af (jJ ho rfl ?_)
 refine af (eO ho rfl ?_ (by rw[ax,bN];omega) (bb _))
 refine af (ie ho1 rfl ?_)
 refine af (gS ?_ (by show vs.length<=_;rw[bN];omega))
 refine af (gj ?_ (bb _))
 refine cb ?_
 show aQ (model prog w) A _ P E { s with heap:=((s.heap.update a (a7 λ_=>(#[]:Array ai))).push (bo "tuple" vs.toArray 0)).push (bo "list" #[] 0) }
 dsimp only
 have hn2:¬ vs.toArray.size<2:=by rw[ax];omega
 rw[if_neg hn2,if_neg hn2]
 refine af (bZ ask (λκ s0 hk=>?_) λ_ _ x=>x.elim)
 refine af (bZ (kat_run (Q:=λst' s'=>∃ p:Array Nat,p.size=vs.length/\arrOf st'=p.map (kas_item (vs.toArray.zip vs.toArray))/\failedOf st'=none/\SoFin a e1 (p.toList.map λi=>vs.getD i bi) (λs''=>P (.done (.ret .none)) s'') s')
  rfl h2 h64 (λp' st' s' a1 a2 a3 a4=>⟨p',a1,a2,a3,a4⟩) hk) ?_ λ_ _ e=>e)
 rintro⟨⟨⟩,st'⟩ s' ⟨p,hp,har,hf,na,k⟩
 dsimp only
 have hout:=kat_snds rfl har
 have hsz:(cn (p.toList.map λi=>vs.getD i bi)).size=vs.length:=by rw[ax,ae,bU,hp]
 rw[hout]
 have s2:=bD s'.heap a (a7 λ_=>cn (p.toList.map λi=>vs.getD i bi))
 obtain⟨c2,hc2⟩:∃ c2,(s'.heap.update a (a7 λ_=>cn (p.toList.map λi=>vs.getD i bi))).get? a=some (bo "list" (cn (p.toList.map λi=>vs.getD i bi)) c2):=⟨_,d_ na λ_=>cn (p.toList.map λi=>vs.getD i bi)⟩
 refine af (ie na rfl ?_)
 refine af (eO na rfl ?_ (bb _) (aY (lh hsz) (by rw[bN];omega)))
 rw[hf]
 simp only[bne_self_eq_false,bq,if_false]
 exact ao (k _ c2 hc2 s2)
end
end PySem.W
namespace L2
open PySem PySem.Spec PyProof.Rows
section
variable {X:Cx} {pins:List (Addr×Obj)} {U:St} {H:Hp} {s:am}
theorem R8 {xs:List V} {us:List ai} (r:Vals xs us) {i:Nat} (h:i<us.length):∃ x,xs[i]? = some x/\RelV x (us.getD i bi):=by
 have hl:=r.length
 obtain⟨u,hu,ru⟩:=r.get (i:=i) (x:=xs[i]'(by omega)) (ag (by omega))
 refine⟨_,ag (by omega),?_⟩
 rw[ar,hu]
 exact ru
theorem Nt {xs:List V} {us:List ai} (r:Vals xs us):∀ (p:List Nat),(∀ i∈p,i<us.length)->Vals (p.map λi=>xs.getD i .non) (p.map λi=>us.getD i bi)
 |[],_=>.nil
 | i::p,h=>by
  obtain⟨x,hx,rx⟩:=R8 r (h i aN)
  refine .cons ?_ (Nt r p λj hj=>h j (az _ hj))
  show RelV (xs.getD i .non) _
  rw[ar,hx]
  exact rx
end
theorem Im:cV "sorted" = some (.builtin "sorted"):=by decide +kernel
end L2
namespace PySem.W
open PySem PySem.Calls PyProof.Rows
section
variable {n:Nat} {lt:Nat->Nat->Bool}
theorem Dk {α β:Type} {f:α->KasT β}:∀ t:KasT α,kRun n lt (t.bind f)=(kRun n lt t).bind λa=>kRun n lt (f a)
 |.ret a=>rfl
 | .ask i j k=>by
  show (if i<n/\j<n then kRun n lt ((k (lt i j)).bind f) else none)=(if i<n/\j<n then kRun n lt (k (lt i j)) else none).bind _
  by_cases h:i<n/\j<n
  .rw[if_pos h,if_pos h,Dk (k (lt i j))]
  .rw[if_neg h,if_neg h];rfl
structure Tot (n:Nat) (lt:Nat->Nat->Bool):Prop where
 tot:∀ i j,i<n->j<n->i≠j->lt i j = !lt j i
 tr:∀ i j k,i<n->j<n->k<n->lt i j=true->lt j k=true->lt i k=true
noncomputable def pg (p:Array Nat) (i:Nat):Nat:=p.getD i 0
noncomputable def PermN (n:Nat) (p:Array Nat):Prop:=p.toList.Perm (ay n)
theorem PermN.size {p:Array Nat} (h:PermN n p):p.size=n:=by
 have:=h.length_eq
 simpa using this
theorem pg_get {p:Array Nat} {i:Nat} (h:i<p.size):p[i]? = some (pg p i):=by
 unfold pg
 rw[Array.getD_eq_getD_getElem?,dS h]
 rfl
theorem PermN.bd {p:Array Nat} (h:PermN n p) {i:Nat} (hi:i<n):pg p i<n:=by
 have hs:i<p.size:=by rw[h.size];exact hi
 have hm:pg p i∈p.toList:=by
  have:=pg_get hs
  rw[<- cJ] at this
  exact al this
 exact List.mem_range.mp (h.mem_iff.mp hm)
theorem PermN.inj {p:Array Nat} (h:PermN n p) {i j:Nat} (hi:i<n) (hj:j<n) (e:pg p i=pg p j):i=j:=by
 have nd:p.toList.Nodup:=(h.nodup_iff).mpr List.nodup_range
 have ei:=pg_get (p:=p) (i:=i) (by rw[h.size];exact hi)
 have ej:=pg_get (p:=p) (i:=j) (by rw[h.size];exact hj)
 rw[<- cJ] at ei ej
 have li:i<p.toList.length:=by rw[bU,h.size];exact hi
 refine (List.getElem?_inj li nd).mp ?_
 rw[ei,ej,e]
noncomputable def Srt (lt:Nat->Nat->Bool) (p:Array Nat) (m:Nat):Prop:=∀ i j,i<j->j<m->lt (pg p i) (pg p j)=true
noncomputable def Dsc (lt:Nat->Nat->Bool) (p:Array Nat) (m:Nat):Prop:=∀ i j,i<j->j<m->lt (pg p j) (pg p i)=true
theorem Ej {α:Type} {i j:Nat} {k:Bool->KasT α} (hi:i<n) (hj:j<n):kRun n lt (.ask i j k)=kRun n lt (k (lt i j)):=if_pos ⟨hi,hj⟩
variable (T:Tot n lt) {p:Array Nat} (h:PermN n p)
include T h
theorem Gi:∀ f k,1<=k->k+f<=n->Srt lt p k -> ∃ m,kRun n lt (lL p f k)=some m/\k<=m/\m<=k+f/\Srt lt p m
 |0,k,h1,h2,hs=>⟨k,rfl,ah _,ah _,hs⟩
 | f+1,k,h1,h2,hs=>by
  have e:kRun n lt (lL p (f+1) k)=kRun n lt (if lt (pg p k) (pg p (k - 1))=true then .ret k else lL p f (k+1)):=Ej (h.bd (by omega)) (h.bd (by omega))
  rw[e]
  cases c:lt (pg p k) (pg p (k - 1)) with
  |true=>exact⟨k,rfl,ah _,by omega,hs⟩
  |false=>
   have c1:lt (pg p (k - 1)) (pg p k)=true:=by
    rw[T.tot _ _ (h.bd (by omega)) (h.bd (by omega)) (λq=>by have:=h.inj (by omega) (by omega) q;omega),c];rfl
   obtain⟨m,r1,r2,r3,r4⟩:=Gi f (k+1) (by omega) (by omega) (λi j hij hj=>by
    by_cases hk:j<k
    .exact hs i j hij hk
    .have:j=k:=by omega
     subst this
     by_cases hi:i=j - 1
     .subst hi;exact c1
     .exact T.tr _ _ _ (h.bd (by omega)) (h.bd (by omega)) (h.bd (by omega)) (hs i (j - 1) (by omega) (by omega)) c1)
   exact⟨m,r1,by omega,by omega,r4⟩
theorem Qr:∀ f k,1<=k->k+f<=n->Dsc lt p k -> ∃ m,kRun n lt (kJ f p k 0)=some (p,m,0)/\k<=m/\m<=k+f/\Dsc lt p m
 |0,k,h1,h2,hs=>⟨k,rfl,ah _,ah _,hs⟩
 | f+1,k,h1,h2,hs=>by
  have e:kRun n lt (kJ (f+1) p k 0)=kRun n lt (if lt (pg p k) (pg p (k - 1))=true then (if 0 > 0 then kJ f (jI p (k - (0+1)) k) (k+1) 0 else kJ f p (k+1) 0) else .ask (pg p (k - 1)) (pg p k) λd=>if d=true then .ret (p,k,0) else kJ f p (k+1) (0+1)):=Ej (h.bd (by omega)) (h.bd (by omega))
  rw[e]
  cases c:lt (pg p k) (pg p (k - 1)) with
  |true=>
   rw[if_pos rfl,if_neg (by omega)]
   obtain⟨m,r1,r2,r3,r4⟩:=Qr f (k+1) (by omega) (by omega) (λi j hij hj=>by
    by_cases hk:j<k
    .exact hs i j hij hk
    .have:j=k:=by omega
     subst this
     by_cases hi:i=j - 1
     .subst hi;exact c
     .exact T.tr _ _ _ (h.bd (by omega)) (h.bd (by omega)) (h.bd (by omega)) c (hs i (j - 1) (by omega) (by omega)))
   exact⟨m,r1,by omega,by omega,r4⟩
  |false=>
   have c1:lt (pg p (k - 1)) (pg p k)=true:=by
    rw[T.tot _ _ (h.bd (by omega)) (h.bd (by omega)) (λq=>by have:=h.inj (by omega) (by omega) q;omega),c];rfl
   rw[if_neg av,Ej (h.bd (by omega)) (h.bd (by omega)),c1]
   exact⟨k,rfl,ah _,by omega,hs⟩
omit T in
theorem ax6 {m:Nat} (hm:m<=n) (hd:Dsc lt p m):PermN n (jI p 0 m)/\Srt lt (jI p 0 m) m:=by
 have hp:PermN n (jI p 0 m):=by
  have:=mirror_perm p 0 m ((m - 0) / 2)
  exact (Array.perm_iff_toList_perm.mp this).trans h
 have gt:∀ k,k<m->pg (jI p 0 m) k=pg p (m - 1 - k):=λk hk=>by
  have e:=getElem?_mirror_all (xs:=p) (i:=0) (j:=m) (by rw[h.size];exact hm) k
  have e1:(jI p 0 m)[k]? = some (pg (jI p 0 m) k):=pg_get (by rw[hp.size];omega)
  have e2:p[m - 1 - k]? = some (pg p (m - 1 - k)):=pg_get (by rw[h.size];omega)
  have e':(jI p 0 m)[k]? = p[m - 1 - k]?:=by
   refine e.trans ?_
   rw[if_pos (by omega)]
   congr 1
   omega
  rw[e1,e2] at e'
  exact aH e'
 refine⟨hp,λi j hij hj=>?_⟩
 rw[gt i (by omega),gt j hj]
 exact hd _ _ (by omega) (by omega)
theorem Xl (hn:1<=n):∃ m p',kRun n lt (lM n p)=some (m,p')/\PermN n p'/\1<=m/\m<=n/\Srt lt p' m:=by
 obtain⟨m,r1,r2,r3,r4⟩:=Gi T h (n - 1) 1 (ah _) (by omega) (λi j hij hj=>by omega)
 unfold lM
 rw[Dk,r1,g4]
 by_cases hm:m=n
 .have e:(m==n)=true:=by rw[hm];exact beq_self_eq_true n
  rw[if_pos e]
  exact⟨m,p,rfl,h,r2,by omega,r4⟩
 .have e:¬ (m==n)=true:=λq=>hm (beq_iff_eq.mp q)
  rw[if_neg e]
  by_cases h1:m > 1
  .rw[if_pos h1]
   have:=Ej (n:=n) (lt:=lt) (k:=λc=>if c=true then KasT.ret (m,p) else kas_descPart m n (jI p 0 m)) (h.bd (i:=0) (by omega)) (h.bd (i:=m - 1) (by omega))
   refine⟨m,p,this.trans ?_,h,r2,by omega,r4⟩
   have e1:lt (pg p 0) (pg p (m - 1))=true:=r4 0 (m - 1) (by omega) (by omega)
   rw[e1]
   rfl
  .rw[if_neg h1]
   have hm1:m=1:=by omega
   subst hm1
   unfold kas_descPart
   have hd:∃ d,kRun n lt (kJ (n - (1+1)) p (1+1) 0)=some (p,d,0)/\1<=d/\d<=n/\Dsc lt p d:=by
    by_cases c:lt (pg p 1) (pg p 0)=true
    .obtain⟨d,q1,q2,q3,q4⟩:=Qr T h (n - 2) 2 (by omega) (by omega) (λi j hij hj=>by
      have:i=0:=by omega
      have:j=1:=by omega
      subst i j;exact c)
     exact⟨d,q1,by omega,by omega,q4⟩
    .exfalso
     have e:=Gi T h (n - 1) 1 (ah _) (by omega) (λi j hij hj=>by omega)
     obtain⟨m',a1,a2,a3,a4⟩:=e
     obtain⟨f,hf⟩:∃ f,n - 1=f+1:=⟨n - 2,by omega⟩
     rw[hf] at r1
     have e2:kRun n lt (lL p (f+1) 1)=kRun n lt (if lt (pg p 1) (pg p (1 - 1))=true then .ret 1 else lL p f (1+1)):=Ej (h.bd (by omega)) (h.bd (by omega))
     rw[e2,if_neg c] at r1
     have c0:lt (pg p 1) (pg p 0)=false:=by simpa using c
     have c1:lt (pg p 0) (pg p 1)=true:=by
      rw[T.tot _ _ (h.bd (by omega)) (h.bd (by omega)) (λq=>by have:=h.inj (by omega) (by omega) q;omega),c0];rfl
     obtain⟨m2,b1,b2,b3,b4⟩:=Gi T h f 2 (by omega) (by omega) (λi j hij hj=>by
      have:i=0:=by omega
      have:j=1:=by omega
      subst i j;exact c1)
     rw[r1] at b1
     cases b1
     omega
   obtain⟨d,q1,q2,q3,q4⟩:=hd
   rw[Dk,q1,g4]
   show ∃ m p',kRun n lt (if 0 > 0 then _ else kas_tail3 d n p)=some (m,p')/\_
   rw[if_neg (by omega)]
   unfold kas_tail3
   obtain⟨hp,hs⟩:=ax6 h q3 q4
   obtain⟨m',a1,a2,a3,a4⟩:=Gi T hp (n - d) d q2 (by omega) hs
   rw[Dk,a1,g4]
   exact⟨m',_,rfl,hp,by omega,by omega,a4⟩
theorem Ib {k:Nat} (hk:k<n) (hs:Srt lt p k):∀ f l r,l<=r->r<=k->r - l<=f->(∀ i,i<l->lt (pg p i) (pg p k)=true)->(∀ i,r<=i->i<k->lt (pg p k) (pg p i)=true) ->
  ∃ m,kRun n lt (ib p k f l r)=some m/\m<=k/\(∀ i,i<m->lt (pg p i) (pg p k)=true)/\(∀ i,m<=i->i<k->lt (pg p k) (pg p i)=true)
 |0,l,r,h1,h2,h3,hl,hr=>⟨l,rfl,by omega,hl,λi a b=>hr i (by omega) b⟩
 | f+1,l,r,h1,h2,h3,hl,hr=>by
  by_cases hlr:l ≥ r
  .have e:ib p k (f+1) l r=.ret l:=by unfold ib;rw[if_pos hlr]
   rw[e]
   exact⟨l,rfl,by omega,hl,λi a b=>hr i (by omega) b⟩
  .have e:kRun n lt (ib p k (f+1) l r)=kRun n lt (if lt (pg p k) (pg p ((l+r) / 2))=true then ib p k f l ((l+r) / 2) else ib p k f ((l+r) / 2+1) r):=by
    conv=>lhs;unfold ib
    rw[if_neg hlr]
    exact Ej (h.bd hk) (h.bd (by omega))
   rw[e]
   have hm1:l<=(l+r) / 2:=by omega
   have hm2:(l+r) / 2<r:=by omega
   generalize (l+r) / 2=mid at hm1 hm2 ⊢
   cases c:lt (pg p k) (pg p mid) with
   |true=>
    rw[if_pos rfl]
    refine Ib hk hs f l mid hm1 (by omega) (by omega) hl λi a b=>?_
    by_cases hi:i=mid
    .subst hi;exact c
    .exact T.tr _ _ _ (h.bd hk) (h.bd (by omega)) (h.bd (by omega)) c (hs mid i (by omega) b)
   |false=>
    rw[if_neg av]
    have c1:lt (pg p mid) (pg p k)=true:=by
     rw[T.tot _ _ (h.bd (by omega)) (h.bd hk) (λq=>by have:=h.inj (by omega) hk q;omega),c];rfl
    refine Ib hk hs f (mid+1) r (by omega) h2 (by omega) (λi a=>?_) hr
    by_cases hi:i=mid
    .subst hi;exact c1
    .exact T.tr _ _ _ (h.bd (by omega)) (h.bd (by omega)) (h.bd hk) (hs i mid (by omega) (by omega)) c1
omit T in
theorem Sk {k l:Nat} (hk:k<n) (hl:l<=k) (hs:Srt lt p k) (h1:∀ i,i<l->lt (pg p i) (pg p k)=true) (h2:∀ i,l<=i->i<k->lt (pg p k) (pg p i)=true):PermN n (lR p k (k - l))/\Srt lt (lR p k (k - l)) (k+1):=by
 have hp:PermN n (lR p k (k - l)):=(Array.perm_iff_toList_perm.mp (bubble_perm p k (k - l))).trans h
 have hk':k<p.size:=by rw[h.size];exact hk
 have gt:∀ i,i<k+1->pg (lR p k (k - l)) i=if i=l then pg p k else if l<i then pg p (i - 1) else pg p i:=λi hi=>by
  have e:=getElem?_bubble hk' (k - l) (by omega) i
  have e1:(lR p k (k - l))[i]? = some (pg (lR p k (k - l)) i):=pg_get (by rw[hp.size];omega)
  rw[e1,show k - (k - l)=l by omega] at e
  by_cases a:i=l
  .rw[if_pos a] at e ⊢
   rw[pg_get hk'] at e
   exact aH e
  .rw[if_neg a] at e ⊢
   by_cases b:l<i
   .rw[if_pos ⟨b,by omega⟩] at e
    rw[if_pos b]
    rw[pg_get (by rw[h.size];omega)] at e
    exact aH e
   .rw[if_neg (λq=>b q.1)] at e
    rw[if_neg b]
    rw[pg_get (by rw[h.size];omega)] at e
    exact aH e
 refine⟨hp,λi j hij hj=>?_⟩
 rw[gt i (by omega),gt j hj]
 by_cases a:i=l
 .rw[if_pos a,if_neg (by omega),if_pos (by omega)]
  exact h2 (j - 1) (by omega) (by omega)
 .rw[if_neg a]
  by_cases b:l<i
  .rw[if_pos b,if_neg (by omega),if_pos (by omega)]
   exact hs (i - 1) (j - 1) (by omega) (by omega)
  .rw[if_neg b]
   by_cases c:j=l
   .rw[if_pos c];exact h1 i (by omega)
   .rw[if_neg c]
    by_cases d:l<j
    .rw[if_pos d]
     exact hs i (j - 1) (by omega) (by omega)
    .rw[if_neg d];exact hs i j hij (by omega)
end
theorem V4 {n:Nat} {lt:Nat->Nat->Bool} (T:Tot n lt):∀ (f:Nat) (p:Array Nat) (k:Nat),PermN n p->k+f=n->Srt lt p k -> ∃ p',kRun n lt (kas_bin f p k)=some p'/\PermN n p'/\Srt lt p' n
 |0,p,k,h,e,hs=>⟨p,rfl,h,by rw[<- e];exact hs⟩
 | f+1,p,k,h,e,hs=>by
  obtain⟨l,a1,a2,a3,a4⟩:=Ib T h (k:=k) (by omega) hs k 0 k (bb _) (ah _) (by omega) (λi hi=>by omega) (λi a b=>by omega)
  obtain⟨b1,b2⟩:=Sk h (by omega) a2 hs a3 a4
  obtain⟨p',c1,c2,c3⟩:=V4 T f _ (k+1) b1 (by omega) b2
  refine⟨p',?_,c2,c3⟩
  show kRun n lt ((ib p k k 0 k).bind λl=>kas_bin f (lR p k (k - l)) (k+1))=some p'
  rw[Dk,a1]
  exact c1
theorem sort_run {n:Nat} {lt:Nat->Nat->Bool} (T:Tot n lt) (hn:1<=n):∃ p,kRun n lt (kas_sort n)=some p/\PermN n p/\Srt lt p n:=by
 have h0:PermN n (cn (ay n)):=by show (cn (ay n)).toList.Perm _;exact ix _
 obtain⟨m,p,r1,r2,r3,r4,r5⟩:=Xl T h0 hn
 unfold kas_sort
 rw[Dk,r1,g4]
 show ∃ q,kRun n lt (if m<n then kas_bin (n - max m 1) p (max m 1) else .ret p)=some q/\_
 by_cases h:m<n
 .rw[if_pos h,Nat.max_eq_left r3]
  exact V4 T (n - m) p m r2 (by omega) r5
 .rw[if_neg h]
  have:m=n:=by omega
  subst this
  exact⟨p,rfl,r2,r5⟩
end PySem.W
namespace L2
open PySem PySem.Spec PyProof.Rows
section
variable {α:Type}
noncomputable def Xt (lt:α->α->Bool) (z:α):List α->List α
 |[]=>[z]
 |y::ys=>if lt z y=true then z::y::ys else y::Xt lt z ys
noncomputable def B0 (lt:α->α->Bool):List α->List α
 |[]=>[]
 |z::zs=>Xt lt z (B0 lt zs)
structure OrdL (lt:α->α->Bool) (zs:List α):Prop where
 tot:∀ a∈zs,∀ b∈zs,a≠b->lt a b = !lt b a
 tr:∀ a∈zs,∀ b∈zs,∀ c∈zs,lt a b=true->lt b c=true->lt a c=true
 nd:zs.Nodup
theorem Hq (lt:α->α->Bool) (z:α):∀ ys:List α,(Xt lt z ys).Perm (z::ys)
 |[]=>ix _
 | y::ys=>by
  unfold Xt
  split
  .exact ix _
  .exact ((Hq lt z ys).cons y).trans (List.Perm.swap z y ys)
theorem A9 (lt:α->α->Bool):∀ zs:List α,(B0 lt zs).Perm zs
 |[]=>ix _
 |z::zs=>(Hq lt z _).trans ((A9 lt zs).cons z)
theorem OrdL.of {lt:α->α->Bool} {zs ys:List α} (h:OrdL lt zs) (hs:∀ a∈ys,a∈zs) (nd:ys.Nodup):OrdL lt ys:=⟨λa ha b hb=>h.tot a (hs a ha) b (hs b hb),λa ha b hb c hc=>h.tr a (hs a ha) b (hs b hb) c (hs c hc),nd⟩
theorem M7 {lt:α->α->Bool} {z:α}:∀ {ys:List α},OrdL lt (z::ys)->ys.Pairwise (λa b=>lt a b=true)->(Xt lt z ys).Pairwise (λa b=>lt a b=true)
 |[],_,_=>List.pairwise_singleton _ _
 | y::ys,h,hp=>by
  rw[fb] at hp
  have nd:=h.nd
  rw[bS] at nd
  have ny:=nd.2
  rw[bS] at ny
  unfold Xt
  split
  .rename_i c
   refine List.pairwise_cons.mpr ⟨λb hb=>?_,List.pairwise_cons.mpr hp⟩
   rcases List.mem_cons.mp hb with rfl|hb'
   .exact c
   .exact h.tr z (.head _) y (.tail _ (.head _)) b (.tail _ hb) c (hp.1 b hb')
  .rename_i c
   have c:lt z y=false:=by simpa using c
   have c1:lt y z=true:=by rw[h.tot y (.tail _ (.head _)) z (.head _) (λe=>nd.1 (e▸.head _)),c];rfl
   have hz:OrdL lt (z::ys):=h.of (λa ha=>by rcases List.mem_cons.mp ha with rfl|q;exact .head _;exact .tail _ (.tail _ q)) (List.nodup_cons.mpr ⟨λq=>nd.1 (.tail _ q),ny.2⟩)
   refine List.pairwise_cons.mpr ⟨λb hb=>?_,M7 hz hp.2⟩
   rcases List.mem_cons.mp ((Hq lt z ys).mem_iff.mp hb) with rfl|hb'
   .exact c1
   .exact hp.1 b hb'
theorem Dl {lt:α->α->Bool}:∀ {zs:List α},OrdL lt zs->(B0 lt zs).Pairwise (λa b=>lt a b=true)
 |[],_=>iJ
 | z::zs,h=>by
  have nd:=List.nodup_cons.mp h.nd
  have hz:OrdL lt zs:=h.of (λa ha=>.tail _ ha) nd.2
  refine M7 (h.of (λa ha=>?_) ?_) (Dl hz)
  .rcases List.mem_cons.mp ha with rfl|q
   .exact .head _
   .exact .tail _ ((A9 lt zs).mem_iff.mp q)
  .exact List.nodup_cons.mpr ⟨λq=>nd.1 ((A9 lt zs).mem_iff.mp q),((A9 lt zs).nodup_iff).mpr nd.2⟩
theorem Fx {lt:α->α->Bool}:∀ {xs ys:List α},OrdL lt xs->xs.Perm ys->xs.Pairwise (λa b=>lt a b=true)->ys.Pairwise (λa b=>lt a b=true)->xs=ys
 |[],ys,_,h,_,_=>(List.Perm.nil_eq h)
 |x::xs,[],_,h,_,_=>absurd h.symm.nil_eq (by simp)
 | x::xs,y::ys,o,h,hx,hy=>by
  rw[fb] at hx hy
  have e:x=y:=by
   apply fQ
   intro ne
   have m1:x∈ys:=by
    have:x∈y::ys:=h.mem_iff.mp (.head _)
    rcases List.mem_cons.mp this with q|q
    .exact absurd q ne
    .exact q
   have m2:y∈xs:=by
    have:y∈x::xs:=h.mem_iff.mpr (.head _)
    rcases List.mem_cons.mp this with q|q
    .exact absurd q.symm ne
    .exact q
   have a:=hx.1 y m2
   have b:=hy.1 x m1
   rw[o.tot x (.head _) y (.tail _ m2) ne,b] at a
   cases a
  subst e
  have nd:=List.nodup_cons.mp o.nd
  rw[Fx (o.of (λa ha=>.tail _ ha) nd.2) ((List.perm_cons x).mp h) hx.2 hy.2]
theorem Yr {lt:α->α->Bool} {xs ys:List α} (h:xs.Perm ys) (o:OrdL lt xs):B0 lt xs=B0 lt ys:=by
 have o2:OrdL lt ys:=o.of (λa ha=>h.mem_iff.mpr ha) ((h.nodup_iff).mp o.nd)
 exact Fx (o.of (λa ha=>(A9 lt xs).mem_iff.mp ha) (((A9 lt xs).nodup_iff).mpr o.nd)) ((A9 lt xs).trans (h.trans (A9 lt ys).symm)) (Dl o) (Dl o2)
theorem Yq {lt:α->α->Bool} {zs:List α} (d:α) (o:OrdL lt zs) (hn:1<=zs.length) :
  ∃ p,PySem.W.kRun zs.length (λi j=>lt (zs.getD i d) (zs.getD j d)) (PySem.W.kas_sort zs.length)=some p/\p.toList.length=zs.length/\(∀ i∈p.toList,i<zs.length)/\(p.toList.map λi=>zs.getD i d)=B0 lt zs:=by
 have gm:∀ i,i<zs.length->zs.getD i d∈zs:=λi hi=>by rw[ar,ag hi];exact bY hi
 have gi:∀ i j,i<zs.length->j<zs.length->zs.getD i d=zs.getD j d->i=j:=λi j hi hj e=>by
  rw[ar,ag hi,ar,ag hj] at e
  exact (cH o.nd).mp e
 obtain⟨p,h1,h2,h3⟩:=PySem.W.sort_run (n:=zs.length) (lt:=λi j=>lt (zs.getD i d) (zs.getD j d)) ⟨λi j hi hj ne=>o.tot _ (gm i hi) _ (gm j hj) (λe=>ne (gi i j hi hj e)),λi j k hi hj hk=>o.tr _ (gm i hi) _ (gm j hj) _ (gm k hk)⟩ hn
 have hp:(p.toList.map λi=>zs.getD i d).Perm zs:=by
  have q:=h2.map (λi=>zs.getD i d)
  have e:((ay zs.length).map λi=>zs.getD i d)=zs:=by
   apply gI
   intro i
   rw[ak]
   by_cases hi:i<zs.length
   .rw[cY hi,ag hi,fB,ar,ag hi];rfl
   .rw[bH (by simp;omega),bH (by omega)];rfl
  rw[e] at q
  exact q
 refine⟨p,h1,by rw[bU,h2.size],λi hi=>List.mem_range.mp (h2.mem_iff.mp hi),?_⟩
 refine Fx (o.of (λa ha=>hp.mem_iff.mp ha) ((hp.nodup_iff).mpr o.nd)) (hp.trans (A9 lt zs).symm) ?_ (Dl o)
 rw[dU]
 intro i j hi hj hij
 rw[ae,bU,h2.size] at hi hj
 have g:∀ k (hk:k<zs.length),∃ hk',(p.toList.map λi=>zs.getD i d)[k]'hk'=zs.getD (PySem.W.pg p k) d:=λk hk=>by
  have e:=PySem.W.pg_get (p:=p) (i:=k) (by rw[h2.size];exact hk)
  rw[<- cJ] at e
  obtain⟨a,b⟩:=List.getElem?_eq_some_iff.mp e
  refine⟨by rw[ae];exact a,?_⟩
  rw[cR,b]
 obtain⟨a1,b1⟩:=g i hi
 obtain⟨a2,b2⟩:=g j hj
 rw[b1,b2]
 exact h3 i j hij hj
end
noncomputable def ltS (a b:Str):Bool:=decide (a.cps.toList<b.cps.toList)
theorem Gw {zs:List Str} (nd:zs.Nodup):OrdL ltS zs where
 nd:=nd
 tot:=λa _ b _ ne=>by
  unfold ltS
  rw[<- decide_not]
  refine decide_eq_decide.mpr ⟨λh q=>List.lt_irrefl _ (List.lt_trans h q),λh=>?_⟩
  apply fQ
  intro q
  exact ne (Str.ext' (Array.toList_inj.mp (List.le_antisymm (List.not_lt.mp h) (List.not_lt.mp q))))
 tr:=λa _ b _ c _ h q=>by
  unfold ltS at h q ⊢
  exact decide_eq_true (List.lt_trans (of_decide_eq_true h) (of_decide_eq_true q))
end L2
namespace PySem.W
open PySem PySem.Calls PyProof.Rows
section
variable {prog:aX} {w:bB} {A:bj} {E:ai->am->Prop} {s:am} {vs:List ai}
theorem collect_src {T:String} {r d:Addr} {n:Nat} {P:Nat->ai->Prop} {OK:Heap->Prop} {Q:List ai->am->Prop} (K:KdlSrc prog w T r d n P OK) (hh:A.handled=none) (hok:OK s.heap) (hn:n<=sizeLine)
  (h:∀ h' tk (us:List ai),(∀ b o,s.heap.get? b=some o->h'.get? b=some o)->s.heap.objs.size<h'.objs.size->us.length=n->(∀ j v,us[j]? = some v->P j v)->Q us { s with heap:=h',toks:=tk }) :
  aQ (model prog w) A (lY (.ref r)) Q E s:=by
 have hlt:=K.there _ hok
 unfold lY
 refine af (wpAny_runValue (d9 entry_proto_collect' ?_))
 show aQ _ _ (do again (.builtin "list.__iadd__" ⟨[<- newList [],.ref r],[]⟩)) _ _ s
 refine af (gj (ao ⟨kx _ (by decide +kernel),d9 entry_list_iadd' ?_⟩))
 show aQ _ _ (dF (.ref s.heap.objs.size) (.ref r) (.ref s.heap.objs.size)) _ _ { s with heap:=s.heap.push (bo "list" #[] 0) }
 rw[dZ PySem.F.plain_list_iadd _]
 refine kdl_extend (A:=A) (R:=wants _ _) (s:={ s with heap:=s.heap.push (bo "list" #[] 0) }) K hh (K.keep _ _ hok λb _ o e=>aj _ e) s.heap.objs.size (eC hlt.1) (eC hlt.2) _ 0 (aB _ rfl) (λh' tk acc' c' hk hS' hacc=>?_) hn
 show aQ (model prog w) A (do
   let o <- load s.heap.objs.size
   match o.data with
   |.seq xs _=>pure xs.toList
   |_=>unsupported "internal:collect") Q E { s with heap:=h',toks:=tk }
 refine af (wpAny_load hS' ?_)
 exact ao (h h' tk acc'.toList (λb o e=>hk b o (aJ (aD e)) (aj _ e)) (aD hS') (by rw[bU];exact hacc.1) λj v e=>hacc.2 j v (by rw[<- cJ];exact e))
theorem L6 {n:Nat} {a:Addr} {P:lF->am->Prop} (ho:s.heap.get? a=some (bo "list" vs.toArray n)) (h2:vs.length<2)
  (h:∀ h' c,h'.get? a=some (bo "list" vs.toArray c)->(∀ b o,b≠a->s.heap.get? b=some o->h'.get? b=some o)->P (.done (.ret .none)) { s with heap:=h' }) :
  aQ (model prog w) A (aK.«list.sort» ⟨[.ref a],[]⟩) P E s:=by
 have ha:a<s.heap.objs.size:=aD ho
 have s1:=bD s.heap a (a7 λ_=>(#[]:Array ai))
 obtain⟨e1,ho1⟩:∃ e1,(s.heap.update a (a7 λ_=>(#[]:Array ai))).get? a=some (bo "list" #[] e1):=⟨_,d_ ho λ_=>#[]⟩
 rw[list_sort_plain]
 refine af (jJ ho rfl ?_)
 refine af (eO ho rfl ?_ (by rw[ax,bN];omega) (bb _))
 refine af (ie ho1 rfl ?_)
 refine af (gS ?_ (by show vs.length<=_;rw[bN];omega))
 refine af (gj ?_ (bb _))
 refine cb ?_
 show aQ (model prog w) A _ P E { s with heap:=((s.heap.update a (a7 λ_=>(#[]:Array ai))).push (bo "tuple" vs.toArray 0)).push (bo "list" #[] 0) }
 dsimp only
 have hn2:vs.toArray.size<2:=by rw[ax];omega
 rw[if_pos hn2,if_pos hn2]
 refine af (ao ?_)
 rw[StateT.run_pure]
 refine af (ao ?_)
 dsimp only
 have ho6:(((s.heap.update a (a7 λ_=>(#[]:Array ai))).push (bo "tuple" vs.toArray 0)).push (bo "list" #[] 0)).get? a=some (bo "list" #[] e1):=aj _ (aj _ ho1)
 have o6:∀ b o,b≠a->s.heap.get? b=some o->(((s.heap.update a (a7 λ_=>(#[]:Array ai))).push (bo "tuple" vs.toArray 0)).push (bo "list" #[] 0)).get? b=some o:=λb o nb e=>aj _ (aj _ ((s1.2 b nb).trans e))
 generalize ((s.heap.update a (a7 λ_=>(#[]:Array ai))).push (bo "tuple" vs.toArray 0)).push (bo "list" #[] 0)=h6 at ho6 o6 ⊢
 have hout:iF (λx:Keyed=>x.snd) (arrOf (kQ lZ (vs.toArray.zip vs.toArray) #[] 7 none))=vs.toArray:=by
  show iF (λx:Keyed=>x.snd) (vs.toArray.zip vs.toArray)=vs.toArray
  apply Array.ext'
  simp only[Array.toList_map,Array.toList_zip]
  exact jj (ah _)
 refine af (ie (s:={ s with heap:=h6 }) ho6 rfl ?_)
 refine af (eO (s:={ s with heap:=h6 }) ho6 rfl ?_ (bb _) (by rw[hout,ax,bN];omega))
 have s2:=bD h6 a (a7 λ_=>iF (λx:Keyed=>x.snd) (arrOf (kQ lZ (vs.toArray.zip vs.toArray) #[] 7 none)))
 obtain⟨c2,hc2⟩:∃ c2,(h6.update a (a7 λ_=>iF (λx:Keyed=>x.snd) (arrOf (kQ lZ (vs.toArray.zip vs.toArray) #[] 7 none)))).get? a=some (bo "list" (iF (λx:Keyed=>x.snd) (arrOf (kQ lZ (vs.toArray.zip vs.toArray) #[] 7 none))) c2):=⟨_,d_ ho6 λ_=>_⟩
 rw[hout] at hc2 s2 ⊢
 simp only[bne_self_eq_false,bq,if_false]
 exact ao (h _ c2 hc2 λb o nb e=>(s2.2 b nb).trans (o6 b o nb e))
theorem so_sortedG {x:ai} {OKQ:List ai->am->Prop} {Q:ai->am->Prop} (hc:∀ R:List ai->am->Prop,(∀ us s',OKQ us s'->R us s')->aQ (model prog w) A.in1 (lY x) R (λ_ _=>False) s)
  (h:∀ us s',OKQ us s'->us.length<64/\((us.length<2 -> ∀ h2 c,h2.get? s'.heap.objs.size=some (bo "list" us.toArray c)->(∀ b o,s'.heap.get? b=some o->h2.get? b=some o)->Q (.ref s'.heap.objs.size) { s' with heap:=h2 })/\(2<=us.length -> ∀ D e1 h2,s'.heap.objs.size<=D->h2.get? D=some (bo "list" #[] e1)->(∀ b o,s'.heap.get? b=some o->h2.get? b=some o) ->
   aQ (model prog w) A.in1.in1 (l7 us.toArray) (λκ s''=>(kas_sort us.length).kasWp (kas_ask prog w A.in1.in1 κ us) (λp s3=>SoFin D e1 (p.toList.map λi=>us.getD i bi) (λs4=>Q (.ref D) s4) s3) s'') (λ_ _=>False) { s' with heap:=h2 }))) :
  aQ (model prog w) A (call (.builtin "sorted") [x]) Q E s:=by
 refine Calls.call_function_entry kind_sorted plain_sorted entry_sorted (args_sorted1 _) ?_
 unfold aK.«sorted»
 refine af (m:=checkCount "sorted" 1 1 _) (ao ?_)
 refine af (bZ (hc _ λus s' ok=>?_) (λ_ _ z=>z) λ_ _ z=>z.elim)
 obtain⟨h64,hs,hb⟩:=h us s' ok
 refine af (gj ?_ (by rw[bN];omega))
 have hoL:(s'.heap.push (bo "list" us.toArray 0)).get? s'.heap.objs.size=some (bo "list" us.toArray 0):=aB _ rfl
 show aQ _ _ _ _ _ { s' with heap:=s'.heap.push (bo "list" us.toArray 0) }
 refine af (cb (cI slot_list_sort ⟨_,hoL,rfl⟩ entry_list_sort ?body (args_list_sort _)))
 case body=>
  by_cases h2:2<=us.length
  .refine Po (s:={ s' with heap:=s'.heap.push (bo "list" us.toArray 0) }) hoL h2 h64 λe1 h2' g k=>?_
   refine bZ (hb h2 _ e1 h2' (ah _) g λb o q=>k b o (aJ (aD q)) (aj _ q)) (λκ s' hk=>?_) λ_ _ x=>x
   rw[kat_ask_eq rfl] at hk ⊢
   exact kas_wp_mono hk λp s'' hk'=>hk'.mono λs3 hq=>⟨_,rfl,ao ⟨_,rfl,hq⟩⟩
  .have h2:us.length<2:=by omega
   refine L6 (s:={ s' with heap:=s'.heap.push (bo "list" us.toArray 0) }) hoL h2 λh3 c g k=>?_
   exact⟨_,rfl,ao ⟨_,rfl,hs h2 h3 c g λb o q=>k b o (aJ (aD q)) (aj _ q)⟩⟩
end
end PySem.W
namespace L2
open PySem PySem.Spec PyProof.Rows
theorem Xb:∀ {xs:List V} {us:List ai},xs.length=us.length->(∀ (i:Nat) x u,xs[i]? = some x->us[i]? = some u->RelV x u)->Vals xs us
 |[],[],_,_=>.nil
 |[],_::_,h,_=>by simp at h
 |_::_,[],h,_=>by simp at h
 |x::xs,u::us,h,g=>.cons (g 0 x u rfl rfl) (Xb (by simpa using h) λi a b ha hb=>g (i+1) a b ha hb)
theorem Xx {P:aX} {w:bB} {kvs:List (Key×V)} {vs:List (Key×ai)} {us:List ai} (rel:KV kvs vs) (hl:us.length=vs.length) (h:∀ (j:Nat) v,us[j]? = some v -> ∃ k x,vs[j]? = some (k,x)/\(Bd P w).is k v=true):Vals (kvs.map λkv=>kV kv.1) us:=by
 refine Xb (by rw[ae,rel.length,hl]) λi x u hx hu=>?_
 obtain⟨k,y,hk,his⟩:=h i u hu
 have e:(kvs.map (·.1))[i]? = some k:=by rw[rel.keys,ak,hk];rfl
 rw[ak] at hx e
 obtain⟨kv,hkv,rfl⟩:=Option.map_eq_some_iff.mp hx
 rw[hkv] at e
 cases e
 exact Oq his
section
variable {X:Cx}
noncomputable def aj2 (K:ac):List V->Hp->VK->Prop:=λxs H Q=>∃ p zs,xs=[.ref p]/\(SqL K H p (zs.map V.str) \/ ∃ kvs,Rd H p (.dK kvs)/\kvs.map (·.1)=zs.map gN)/\zs.Nodup/\zs.length<64 /\ ∀ D,H D=none->Q (.ref D) (upd H D (.lst ((B0 ltS zs).map V.str)))
theorem W5 {zs:List Str} (h:zs.length<2):B0 ltS zs=zs:=by
 match zs,h with
 |[],_=>rfl
 |[z],_=>rfl
theorem Vd {zs:List Str} {us:List ai} (r:Vals (zs.map V.str) us) {i:Nat} (h:i<zs.length):∃ t,us.getD i bi=.str (zs.getD i fE) t:=by
 have hl:us.length=zs.length:=by have:=r.length;simpa using this.symm
 obtain⟨x,hx,rx⟩:=R8 r (i:=i) (by omega)
 rw[ak,ag h] at hx
 cases hx
 obtain⟨t,e⟩:=rx
 refine⟨t,?_⟩
 rw[ar (l:=zs),ag h]
 exact e
theorem aj7 {pins:List (Addr×Obj)} {s:am} {U:St} {H:Hp} {Q:VK} {u:ai} {zs:List Str} (I:Inv X pins U H s) (nd:zs.Nodup) (h64:zs.length<64)
  (hc:∀ R:List ai->am->Prop,(∀ (us:List ai) (ys:List Str) (h':Heap) (tk:Nat) (d:Drawn),ys.Perm zs->(∀ b o,s.heap.get? b=some o->h'.get? b=some o)->s.heap.objs.size<=h'.objs.size->s.toks<=tk->Vals (ys.map V.str) us->R us { s with heap:=h',toks:=tk,drawn:=d })->aQ (model X.prog X.w) X.A.in1 (lY u) R (λ_ _=>False) s)
  (q:∀ D,H D=none->Q (.ref D) (upd H D (.lst ((B0 ltS zs).map V.str)))):aQ (model X.prog X.w) X.A (call (.builtin "sorted") [u]) (EP X pins U Q) X.xe s:=by
 refine PySem.W.so_sortedG (OKQ:=λus s'=>∃ (ys:List Str) (h':Heap) (tk:Nat) (d:Drawn),s'={ s with heap:=h',toks:=tk,drawn:=d }/\ys.Perm zs/\(∀ b o,s.heap.get? b=some o->h'.get? b=some o)/\s.heap.objs.size<=h'.objs.size/\s.toks<=tk/\Vals (ys.map V.str) us) (λR hR=>hc R λus ys h' tk d p k z e r=>hR us _ ⟨ys,h',tk,d,rfl,p,k,z,e,r⟩) λus s' ⟨ys,h',tk,d,e,perm,keep,hD,htk,rv⟩=>?_
 subst e
 have I1:Inv X pins U H { s with drawn:=d }:={ I with }
 have nd2:ys.Nodup:=perm.nodup_iff.mpr nd
 have same:B0 ltS ys=B0 ltS zs:=Yr perm (Gw nd2)
 have hyz:=perm.length_eq
 rw[<- same] at q
 have hl:us.length=ys.length:=by have:=rv.length;simpa using this.symm
 refine⟨by omega,λh2 h2' c g k=>?_,λh2 D e1 h2' hD2 gD k=>?_⟩
 .refine⟨.ref h'.objs.size,_,I1.laid (t':=tk) (λb o e=>k b o (keep b o e)) hD (o:=.lst ((B0 ltS ys).map V.str)) ⟨?_,us,c,?_,g⟩,rfl,q _ (I.hok.fresh hD)⟩
  .rw[W5 (by omega),ae,bN];omega
  .rw[W5 (by omega)];exact rv
 .refine PySem.W.kas_kind (T:=.type "str") h2 (λv hv=>?_) rfl rfl ?_
  .obtain⟨i,hi,rfl⟩:=List.getElem_of_mem hv
   obtain⟨t,e⟩:=Vd rv (i:=i) (by omega)
   rw[ar,ag hi] at e
   rw[show us[i]=_ from e]
   exact .now
  .obtain⟨pp,h1,h3,h4,h5⟩:=Yq (lt:=ltS) (zs:=ys) fE (Gw nd2) (by omega)
   refine PySem.W.kRun_wp (n:=us.length) (lt:=λi j=>ltS (ys.getD i fE) (ys.getD j fE)) (a:=pp) (λi j C hi hj hC=>?_) (by rw[hl];exact h1) ⟨gD,λh3' c g2 sb=>?_⟩
   .unfold PySem.W.kas_ask
    obtain⟨t1,e1⟩:=Vd rv (i:=i) (by omega)
    obtain⟨t2,e2⟩:=Vd rv (i:=j) (by omega)
    rw[e1,e2]
    exact PySem.W.kas_lt_str hC
   .refine⟨.ref D,_,I1.laid (t':=tk) (λb o e=>(sb.2 b (aJ (aL (aD e) (aY hD hD2)))).trans (k b o (keep b o e))) (aY hD hD2) (o:=.lst ((B0 ltS ys).map V.str)) ⟨?_,_,c,?_,g2⟩,rfl,q D (I.hok.fresh (aY hD hD2))⟩
    .rw[ae,(A9 ltS ys).length_eq,bN];omega
    .have v:=Nt rv pp.toList (λi hi=>by rw[hl];exact h4 i hi)
     have e:(pp.toList.map λi=>(ys.map V.str).getD i .non)=(B0 ltS ys).map V.str:=by
      rw[<- h5,aI]
      refine bK λi hi=>?_
      have:=h4 i hi
      rw[ar,ak,ag this]
      show V.str ys[i]=V.str (ys.getD i fE)
      rw[ar,ag this]
      rfl
     rwa[e] at v
theorem Sr (hc:X.calm=true):Cj X (.builtin "sorted") (aj2 X.K):=by
 intro pins s U H xs us Q I r h
 obtain⟨p,zs,rfl,hp,nd,h64,q⟩:=h
 obtain⟨u,rfl,ru⟩:=D9 r
 cases ru
 refine aj7 I nd h64 (λR hR=>?_) q
 rcases hp with hp|⟨kvs,hp,ek⟩
 .obtain⟨its,ri,pl,hz⟩:=I.list hp
  refine collect_list pl.isList (hR _ _ _ s.toks s.drawn (.refl _) (λb o e=>?_) ?_ (ah _) ri) (by have:=ri.length;rw[ae] at this;rw[bN];omega)
  .have hlt:b<s.heap.objs.size:=aD e
   rw[j_ _ _ _ _ (aJ hlt)]
   exact aj _ e
  .rw[jf,kX]
   exact dW _
 .obtain⟨z,lo,vs,rel,dof⟩:=Dd I.hok hp
  obtain⟨ep,dat⟩:=dof.dictAt
  refine bE (ah _) (PySem.W.collect_src (PySem.W.kdl_dict lo) (by simp[I.ok.hd hc]) dat (by rw[<- rel.length];exact z) λh' tk us hk hs hl hi htk=>?_)
  refine hR us zs h' tk s.drawn (.refl _) hk (ez hs) htk ?_
  have v:=Xx rel hl hi
  have e:(kvs.map λkv=>kV kv.1)=zs.map V.str:=by
   have:=congrArg (List.map kV) ek
   rw[aI,aI] at this
   exact this
  rwa[e] at v
end
end L2
namespace PySem.W
open PySem PySem.Calls PyProof.Rows
section
variable {prog:aX} {w:bB} {A:bj} {E:ai->am->Prop} {s:am} {vs:List ai} {κ:SortKind} {it:Array Keyed}
theorem Z7 {cmp:Nat->Nat->(Bool->am->Prop)->am->Prop} {n:Nat} {s:am} {Q:Nat->am->Prop} (h:∀ j C,0<j->j<n->C false s->cmp j (j - 1) C s):∀ f k:Nat,1<=k->k+f=n->Q n s->(lL (cn (ay n)) f k).kasWp cmp Q s
 | 0,k,_,e,q=>by
  have e:k=n:=e
  subst e
  exact q
 | f+1,k,hk,e,q=>by
  have g:∀ {j:Nat},j<n->(cn (ay n)).getD j 0=j:=λ{j} hj=>by simp[Array.getD,hj]
  show cmp ((cn (ay n)).getD k 0) ((cn (ay n)).getD (k - 1) 0) _ s
  rw[g (by omega),g (by omega)]
  refine h k _ hk (by omega) ?_
  simp only[bq,if_false]
  exact Z7 h f (k+1) (by omega) (by omega) q
theorem Xf {cmp:Nat->Nat->(Bool->am->Prop)->am->Prop} {n:Nat} {s:am} {Q:Nat×Array Nat->am->Prop} (h1:1<=n) (h:∀ j C,0<j->j<n->C false s->cmp j (j - 1) C s) (q:Q (n,cn (ay n)) s):(lM n (cn (ay n))).kasWp cmp Q s:=by
 unfold lM
 rw[KasT.kasWp_bind]
 refine Z7 h (n - 1) 1 (ah _) (by omega) ?_
 simp only[beq_self_eq_true,if_true]
 exact q
theorem asc_sort {cmp:Nat->Nat->(Bool->am->Prop)->am->Prop} {n:Nat} {s:am} {Q:Array Nat->am->Prop} (h1:1<=n) (h:∀ j C,0<j->j<n->C false s->cmp j (j - 1) C s) (q:Q (cn (ay n)) s):(kas_sort n).kasWp cmp Q s:=by
 unfold kas_sort
 rw[KasT.kasWp_bind]
 refine Xf h1 h ?_
 rw[if_neg (fI n)]
 exact q
theorem range_pick {us:List ai}:((cn (ay us.length)).toList.map λi=>us.getD i bi)=us:=by
 apply List.ext_getElem
 .simp
 .intro i h1 h2
  simp[h2]
end
end PySem.W
namespace L2
open PySem PySem.Spec PyProof.Rows
section
variable {X:Cx}
noncomputable def ax5 (K:ac):List V->Hp->VK->Prop:=λxs H Q=>∃ (p:Addr) (ns:List Int),xs=[.ref p]/\SqL K H p (ns.map V.int)/\Q (.int ns.sum) H
theorem aa6 (hc:X.calm=true):Cj X (.builtin "sum") (ax5 X.K):=by
 intro pins s U H xs us Q I r h
 obtain⟨p,ns,rfl,hp,q⟩:=h
 obtain⟨u,rfl,ru⟩:=D9 r
 cases ru
 obtain⟨its,ri,pl,hz⟩:=I.list hp
 have ia:=Te ri
 obtain⟨xs,e⟩:=ia.allInts.items
 have hl:=pl.isList
 rw[e] at hl
 refine bE (ah _) (sum_intListG (I.ok.hd hc) hl λh' tk t' hk htk=>?_)
 refine⟨.int ns.sum,H,I.kept (t':=tk) hk htk,⟨t',?_⟩,q⟩
 rw[preSum_eq,gw (by simp),<- nums_intItems,<- e,show its.toArray.toList=its from rfl,ia.numsOf]
end
end L2
namespace PySem.W
open PySem PySem.Calls PyProof.Rows
section
variable {prog:aX} {w:bB} {A:bj} {E:ai->am->Prop} {s:am} {vs:List ai}
noncomputable def SkFin (a b:Addr) (e e1:Nat) (ks out:List ai) (C:am->Prop) (s:am):Prop:=
 s.heap.get? a=some (bo "list" #[] e1)/\s.heap.get? b=some (bo "list" ks.toArray e) /\ ∀ h' c,h'.get? a=some (bo "list" (cn out) c)->(∀ d,d≠a->d≠b->h'.get? d=s.heap.get? d)->C { s with heap:=h' }
theorem W3 {a kS:Addr} {ks:List ai} {st:SortSt} {e e1:Nat} {out:List ai} {P:lF->am->Prop} (hne:a≠kS) (har:iF (λx:Keyed=>x.snd) (arrOf st)=out.toArray) (h64:out.length<64) (k64:ks.length<64) (hf:failedOf st=none)
  (h:SkFin a kS e e1 ks out (λs'=>P (.done (.ret .none)) s') s):aQ (model prog w) A (ksk_tail a false e1 (.ref kS) st) P E s:=by
 obtain⟨ha,hk,q⟩:=h
 unfold ksk_tail
 rw[har,hf]
 have s1:=bD s.heap kS (a7 λ_=>(#[]:Array ai))
 have ha1:(s.heap.update kS (a7 λ_=>(#[]:Array ai))).get? a=some (bo "list" #[] e1):=(s1.2 a hne).trans ha
 refine af (eO hk rfl ?_ (by rw[ax,bN];omega) (bb _))
 refine af (kr ?_)
 refine af (ie (s:={ s with heap:=s.heap.update kS (a7 λ_=>(#[]:Array ai)) }) ha1 rfl ?_)
 refine af (eO (s:={ s with heap:=s.heap.update kS (a7 λ_=>(#[]:Array ai)) }) ha1 rfl ?_ (bb _) (by simp only[bq,if_false];rw[ax,bN];omega))
 simp only[bne_self_eq_false,bq,if_false]
 have s2:=bD (s.heap.update kS (a7 λ_=>(#[]:Array ai))) a (a7 λ_=>out.toArray)
 obtain⟨c2,hc2⟩:∃ c2,((s.heap.update kS (a7 λ_=>(#[]:Array ai))).update a (a7 λ_=>out.toArray)).get? a=some (bo "list" out.toArray c2):=⟨_,d_ ha1 λ_=>_⟩
 exact ao (q _ c2 hc2 λd d1 d2=>(s2.2 d d1).trans (s1.2 d d2))
theorem ay1 {n:Nat} {a:Addr} {f:ai} {P:lF->am->Prop} (ho:s.heap.get? a=some (bo "list" vs.toArray n)) (h64:vs.length<64)
  (h:∀ e1 kS h',s.heap.objs.size<=kS->h'.get? a=some (bo "list" #[] e1)->h'.get? kS=some (bo "list" #[] 0)->(∀ b o,b≠a->s.heap.get? b=some o->h'.get? b=some o) ->
   ∃ G:List ai->am->Prop,(∀ e,h'.get? kS=some (bo "list" #[] e)->G [] { s with heap:=h' }) /\
    (∀ (j:Nat) x ks e s',vs[j]? = some x->ks.length=j->s'.heap.get? kS=some (bo "list" ks.toArray e)->G ks s'->aQ (model prog w) A (call f [x]) (λk s''=>s''.heap.get? kS=some (bo "list" ks.toArray e) /\ ∀ h2 c,h2.get? kS=some (bo "list" (ks++[k]).toArray c)->a9 kS s''.heap h2->G (ks++[k]) { s'' with heap:=h2 }) (λ_ _=>False) s') /\
    (∀ ks e s',ks.length=vs.length->s'.heap.get? kS=some (bo "list" ks.toArray e)->G ks s'->(vs.length<2->SkFin a kS e e1 ks vs (λs3=>P (.done (.ret .none)) s3) s')/\(2<=vs.length ->
     aQ (model prog w) A (l7 ks.toArray) (λκ s''=>(kas_sort vs.length).kasWp (kas_ask prog w A κ ks) (λp s3=>SkFin a kS e e1 ks (p.toList.map λi=>vs.getD i bi) (λs4=>P (.done (.ret .none)) s4) s3) s'') (λ_ _=>False) s'))) :
  aQ (model prog w) A (ksk_tree a f false) P E s:=by
 have ha:a<s.heap.objs.size:=aD ho
 have s1:=bD s.heap a (a7 λ_=>(#[]:Array ai))
 obtain⟨e1,ho1⟩:∃ e1,(s.heap.update a (a7 λ_=>(#[]:Array ai))).get? a=some (bo "list" #[] e1):=⟨_,d_ ho λ_=>#[]⟩
 have hsz:((s.heap.update a (a7 λ_=>(#[]:Array ai))).push (bo "tuple" vs.toArray 0)).objs.size=s.heap.objs.size+1:=by rw[kX,jf]
 unfold ksk_tree
 refine af (jJ ho rfl ?_)
 refine af (eO ho rfl ?_ (by rw[ax,bN];omega) (bb _))
 refine af (ie ho1 rfl ?_)
 refine af (gS ?_ (by show vs.length<=_;rw[bN];omega))
 refine af (gj ?_ (bb _))
 refine cb ?_
 show aQ (model prog w) A (ksk_rest a f false vs.toArray e1 (.ref ((s.heap.update a (a7 λ_=>(#[]:Array ai))).push (bo "tuple" vs.toArray 0)).objs.size)) P E { s with heap:=((s.heap.update a (a7 λ_=>(#[]:Array ai))).push (bo "tuple" vs.toArray 0)).push (bo "list" #[] 0) }
 have hk0:(((s.heap.update a (a7 λ_=>(#[]:Array ai))).push (bo "tuple" vs.toArray 0)).push (bo "list" #[] 0)).get? (((s.heap.update a (a7 λ_=>(#[]:Array ai))).push (bo "tuple" vs.toArray 0)).objs.size)=some (bo "list" #[] 0):=aB _ rfl
 have ha0:(((s.heap.update a (a7 λ_=>(#[]:Array ai))).push (bo "tuple" vs.toArray 0)).push (bo "list" #[] 0)).get? a=some (bo "list" #[] e1):=aj _ (aj _ ho1)
 obtain⟨G,g0,gs,gf⟩:=h e1 _ _ (by rw[hsz];exact dW _) ha0 hk0 (λb o nb e=>aj _ (aj _ ((s1.2 b nb).trans e)))
 have hne:a≠((s.heap.update a (a7 λ_=>(#[]:Array ai))).push (bo "tuple" vs.toArray 0)).objs.size:=by rw[hsz];exact aJ (c7 ha)
 have gz:=g0 0 hk0
 generalize ((s.heap.update a (a7 λ_=>(#[]:Array ai))).push (bo "tuple" vs.toArray 0)).objs.size=kS at *
 generalize ((s.heap.update a (a7 λ_=>(#[]:Array ai))).push (bo "tuple" vs.toArray 0)).push (bo "list" #[] 0)=h' at *
 unfold ksk_rest
 refine af (k0 ?_)
 rw[<- iu]
 refine af (ksk_fold (λj s'=>∃ ks e,ks.length=j/\s'.heap.get? kS=some (bo "list" ks.toArray e)/\G ks s') vs 0 _ ⟨[],0,rfl,hk0,gz⟩ (λj x s' hx ⟨ks,e,hl,hk,hg⟩=>?_) λs' ⟨ks,e,hl,hk,hg⟩=>?_)
 .rw[cT] at hl
  have hj:j<vs.length:=(List.getElem?_eq_some_iff.mp hx).1
  refine af (fL (bZ (gs j x ks e s' hx hl hk hg) (λk s'' hq=>?_) λ_ _ z=>z.elim))
  obtain⟨hk2,hq⟩:=hq
  dsimp only
  refine af (eO hk2 rfl ?_ (by rw[ax,bN];omega) (by rw[Array.size_push,ax,bN];omega))
  have e3:(ks.toArray.push k)=(ks++[k]).toArray:=by simp
  obtain⟨c,hc⟩:∃ c,(s''.heap.update kS (a7 λx=>x.push k)).get? kS=some (bo "list" (ks++[k]).toArray c):=⟨_,by rw[<- e3];exact d_ hk2 λx=>x.push k⟩
  exact ao ⟨rfl,ks++[k],c,by rw[aS,hl,cT];rfl,hc,hq _ c hc (bD _ _ _)⟩
 .rw[cT] at hl
  obtain⟨q1,q2⟩:=gf ks e s' hl hk hg
  refine af (jJ hk rfl ?_)
  unfold ksk_end
  simp only[bq,if_false]
  by_cases h2:vs.toArray.size<2
  .rw[if_pos h2,if_pos h2]
   refine af (ao ?_)
   rw[StateT.run_pure]
   refine af (ao ?_)
   dsimp only
   refine W3 hne ?_ h64 (by omega) rfl (q1 (by simpa using h2))
   show iF (λx:Keyed=>x.snd) (ks.toArray.zip vs.toArray)=vs.toArray
   apply Array.ext'
   simp only[Array.toList_map,Array.toList_zip]
   exact jj (by omega)
  .have h2':2<=vs.length:=by rw[ax] at h2;omega
   rw[if_neg h2,if_neg h2]
   refine af (bZ (q2 h2') (λκ s0 hk0=>?_) λ_ _ x=>x.elim)
   refine af (bZ (kat_run (Q:=λst' s'=>∃ p:Array Nat,p.size=vs.length/\arrOf st'=p.map (kas_item (ks.toArray.zip vs.toArray))/\failedOf st'=none/\SkFin a kS e e1 ks (p.toList.map λi=>vs.getD i bi) (λs''=>P (.done (.ret .none)) s'') s')
    hl h2' h64 (λp' st' s' a1 a2 a3 a4=>⟨p',a1,a2,a3,a4⟩) hk0) ?_ λ_ _ e=>e)
   rintro⟨⟨⟩,st'⟩ s' ⟨p,hp,har,hf,hq⟩
   exact W3 hne (kat_snds hl har) (by rw[ae,bU,hp];exact h64) (by omega) hf hq
theorem sk_sorted {x:ai} {b:Addr} {OKQ:List ai->Heap->Nat->Prop} {Q:ai->am->Prop} (hc:∀ R:List ai->am->Prop,(∀ us h' tk,OKQ us h' tk->R us { s with heap:=h',toks:=tk })->aQ (model prog w) A.in1 (lY x) R (λ_ _=>False) s)
  (h:∀ us h' tk,OKQ us h' tk->us.length<64 /\ ∀ D e1 kS h2,h'.objs.size<=D->D<kS->h2.get? D=some (bo "list" #[] e1)->h2.get? kS=some (bo "list" #[] 0)->(∀ b o,h'.get? b=some o->h2.get? b=some o) ->
   ∃ G:List ai->am->Prop,G [] { s with heap:=h2,toks:=tk } /\
    (∀ (j:Nat) x ks e s',us[j]? = some x->ks.length=j->s'.heap.get? kS=some (bo "list" ks.toArray e)->G ks s'->aQ (model prog w) A.in1.in1 (call (.ref b) [x]) (λk s''=>s''.heap.get? kS=some (bo "list" ks.toArray e) /\ ∀ h2 c,h2.get? kS=some (bo "list" (ks++[k]).toArray c)->a9 kS s''.heap h2->G (ks++[k]) { s'' with heap:=h2 }) (λ_ _=>False) s') /\
    (∀ ks e s',ks.length=us.length->s'.heap.get? kS=some (bo "list" ks.toArray e)->G ks s'->(us.length<2->SkFin D kS e e1 ks us (λs3=>Q (.ref D) s3) s')/\(2<=us.length ->
     aQ (model prog w) A.in1.in1 (l7 ks.toArray) (λκ s''=>(kas_sort us.length).kasWp (kas_ask prog w A.in1.in1 κ ks) (λp s3=>SkFin D kS e e1 ks (p.toList.map λi=>us.getD i bi) (λs4=>Q (.ref D) s4) s3) s'') (λ_ _=>False) s'))) :
  aQ (model prog w) A (call (.builtin "sorted") [x] [("key", .ref b)]) Q E s:=by
 refine call_function_entry_kw kind_sorted plain_sorted entry_sorted (ksk_s1 _ _) ?_
 unfold aK.«sorted»
 refine af (m:=checkCount "sorted" 1 1 _) (ao ?_)
 refine af (bZ (hc _ λus h' tk ok=>?_) (λ_ _ z=>z) λ_ _ z=>z.elim)
 obtain⟨h64,hb⟩:=h us h' tk ok
 refine af (gj ?_ (by rw[bN];omega))
 have hoL:(h'.push (bo "list" us.toArray 0)).get? h'.objs.size=some (bo "list" us.toArray 0):=aB _ rfl
 show aQ _ _ _ _ _ { s with heap:=h'.push (bo "list" us.toArray 0),toks:=tk }
 refine af (cb (wpAny_call_entry_kw slot_list_sort ⟨_,hoL,rfl⟩ entry_list_sort ?body (ksk_l1 _ _)))
 case body=>
  rw[ksk_t1]
  refine ay1 (s:={ s with heap:=h'.push (bo "list" us.toArray 0),toks:=tk }) hoL h64 λe1 kS h2 hk g gk k=>?_
  have hk2:h'.objs.size<kS:=by
   have hk:(h'.push (bo "list" us.toArray 0)).objs.size<=kS:=hk
   rw[kX] at hk;omega
  obtain⟨G,g0,gs,gf⟩:=hb h'.objs.size e1 kS h2 (ah _) hk2 g gk λb o q=>k b o (aJ (aD q)) (aj _ q)
  refine⟨G,λ_ _=>g0,gs,λks e s' hl hk hg=>?_⟩
  obtain⟨q1,q2⟩:=gf ks e s' hl hk hg
  refine⟨λh2=>?_,λh2=>bZ (q2 h2) (λκ s'' hk=>?_) λ_ _ x=>x⟩
  .obtain⟨r1,r2,r3⟩:=q1 h2
   exact⟨r1,r2,λh' c x y=>⟨_,rfl,ao ⟨_,rfl,r3 h' c x y⟩⟩⟩
  .rw[kat_ask_eq hl] at hk ⊢
   exact kas_wp_mono hk λp s3 ⟨r1,r2,r3⟩=>⟨r1,r2,λh' c x y=>⟨_,rfl,ao ⟨_,rfl,r3 h' c x y⟩⟩⟩
end
end PySem.W
namespace L2
open PySem PySem.Spec PyProof.Rows
section
variable {X:Cx} {pins:List (Addr×Obj)} {U:St} {H:Hp} {s:am}
theorem Inv.adopt {a d:Addr} {o:HO} {h':Heap} (I:Inv X pins U H s) (fa:Dn X pins H a) (fd:Dn X pins H d) (k:∀ b u,b≠a->b≠d->s.heap.get? b=some u->h'.get? b=some u) (new:ObjOk X.prog X.w (upd H a o) h' a o):Inv X pins U (upd H a o) { s with heap:=h' }:=by
 have nit:∀ b u,H b=some u->b≠a/\b≠d:=λb u e=>⟨Ai e fa.1,Ai e fd.1⟩
 have nc:∀ {b:Addr},b∉[a,d]->b≠a/\b≠d:=λh=>by simpa using h
 refine I.step (g':=s.gens) (d':=s.drawn) (t':=s.toks) (ch:=[a,d]) (λb hb=>?_) (λb u _ _ hc e _=>k b u (nc hc).1 (nc hc).2 e) (λb u _ _ hc e _=>⟨u.slots,k b u (nc hc).1 (nc hc).2 e⟩) (λb u hc e n=>by rw[Ad (nc hc).1];exact n)
  (λb u hc e=>⟨u,k b u (nc hc).1 (nc hc).2 e⟩) (λb xs q=>by rw[Ad (nit b _ q).1];exact q) (λb u v q=>by rw[Ad (nit b _ q).1];exact q) (λb ps q=>⟨#[],by rw[Ad (nit b _ q).1,q];simp⟩) (λm hm=>?_) (λb u e=>?_) I.bare
 .rcases List.mem_cons.mp hb with rfl|hb
  .exact⟨fa.2.2.2.1,fa.2.1,fa.2.2.2.2.1,fa.2.2.2.2.2⟩
  .have e:b=d:=by simpa using hb
   subst e
   exact⟨fd.2.2.2.1,fd.2.1,fd.2.2.2.2.1,fd.2.2.2.2.2⟩
 .obtain⟨u,es,ep,ho,r⟩:=hm
  exact⟨u,es,ep,k _ u (cy fa.2.1) (cy fd.2.1) ho,r⟩
 .by_cases hb:b=a
  .subst hb;rw[Aa] at e;cases e;exact new
  .rw[Ad hb] at e
   refine (I.hok b u e).stay (λc v hc q=>?_) (λc q=>by rw[Ad (nit c _ q).1];exact q) λc xs q=>by rw[Ad (nit c _ q).1];exact q
   rcases hc with z|z
   .rw[z] at q ⊢;exact k _ v (nit b u e).1 (nit b u e).2 q
   .exact k c v (nit c _ z).1 (nit c _ z).2 q
end
noncomputable abbrev RF:=List V->Hp->VK->Prop
noncomputable def Na (x:V) (T:String):Bool:=match x with
 |.int _=>T == "int"
 |.bl _=>T == "bool" || T == "int"
 |.str _=>T == "str"
 |_=>false
noncomputable def okT (T:String):Bool:=["int", "bool", "str", "list", "tuple", "dict"].contains T
noncomputable def G1 (K:ac):RF:=λxs H Q=>match xs with
 |[.int i,.ty T]=>okT T=true/\Q (.bl (Na (.int i) T)) H
 |[.bl i,.ty T]=>okT T=true/\Q (.bl (Na (.bl i) T)) H
 |[.str i,.ty T]=>okT T=true/\Q (.bl (Na (.str i) T)) H
 |[.non,.ty T]=>okT T=true/\Q (.bl (Na .non T)) H
 |[x,.ty T]=>∃ t b,TyX K H x t/\fT K t (.type T)=some b/\Q (.bl b) H
 |[x,.ref C]=>(∃ t b,TyX K H x t/\fT K t (.ref C)=some b/\Q (.bl b) H)\/False
 |_=>False
noncomputable def Da (K:ac):RF:=λxs H Q=>match xs with
 |[.str z]=>z.length<=sizeLine/\Q (.int z.length) H
 |[.ref p]=>(∃ ys,(SqL K H p ys\/SqT K H p ys)/\Q (.int ys.length) H) \/ ∃ kvs,Rd H p (.dK kvs)/\Q (.int kvs.length) H
 |_=>False
noncomputable def Rm (K:ac):RF:=λxs H Q=>match xs with
 |[.ref p]=>∃ bs:List Bool,SqL K H p (bs.map V.bl)/\Q (.bl (bs.all λb=>b)) H
 |_=>False
noncomputable def Yk:RF:=λxs H Q=>match xs with
 |[.int i]=>Q (.int i) H
 |[.bl k]=>Q (.int (if k then 1 else 0)) H
 |_=>False
noncomputable def Pj (K:ac):RF:=λxs H Q=>match xs with
 |[.ref p]=>∃ ys,(SqL K H p ys\/SqT K H p ys) /\ ∀ l,H l=none->Q (.ref l) (upd H l (.lst ys))
 |_=>False
noncomputable def Gb (K:ac):RF:=λxs H Q=>match xs with
 |[.ref p]=>∃ ys,(SqL K H p ys /\ ∀ l,H l=none->Q (.ref l) (upd H l (.tup ys)))\/(SqT K H p ys/\Q (.ref p) H)
 |_=>False
noncomputable def Pi (K:ac) (calm:Bool):RF:=λxs H Q=>Pj K xs H Q\/(calm=true/\False)
noncomputable def Pl (K:ac) (calm:Bool):RF:=λxs H Q=>False\/(calm=true/\(aj2 K xs H Q\/False))
inductive BF where
 |bf (id:String)|ty (T:String)
noncomputable def a43 (K:ac) (calm:Bool) (x:Str):Option (BF×RF):=
 if x = "len" then some (.bf "len", Da K) else
 if x = "isinstance" then some (.bf "isinstance", G1 K) else
 if x = "all" then (if calm=true then some (.bf "all", Rm K) else none) else
 if x = "int" then some (.ty "int", Yk) else
 if x = "list" then some (.ty "list", Pi K calm) else
 if x = "tuple" then some (.ty "tuple", Gb K) else
 if x = "sorted" then some (.bf "sorted", Pl K calm) else
 if x = "sum" then (if calm=true then some (.bf "sum", ax5 K) else none) else
 if x = "dict" then some (.ty "dict", Pf) else none
noncomputable def BF.val:BF->ai
 |.bf id=>.builtin id
 |.ty T=>.type T
section
variable {X:Cx}
theorem Tk {K:ac} {x:V} {T:String} (hx:Bv x=true) (h:okT T=true):∃ t,(∀ H,TyOf K H x t)/\fT K t (.type T)=some (Na x T):=by
 have hT:T = "int" \/ T = "bool" \/ T = "str" \/ T = "list" \/ T = "tuple" \/ T = "dict" := by
  unfold okT at h
  simpa using h
 cases x with
 |int i=>refine⟨_,λH=>TyOf.int i,?_⟩;rcases hT with rfl|rfl|rfl|rfl|rfl|rfl <;> rfl
 |bl i=>refine⟨_,λH=>TyOf.bl i,?_⟩;rcases hT with rfl|rfl|rfl|rfl|rfl|rfl <;> rfl
 |str i=>refine⟨_,λH=>TyOf.str i,?_⟩;rcases hT with rfl|rfl|rfl|rfl|rfl|rfl <;> rfl
 |non=>refine⟨_,λH=>TyOf.non,?_⟩;rcases hT with rfl|rfl|rfl|rfl|rfl|rfl <;> rfl
 |_=>cases hx
theorem aa5:Cj X (.builtin "isinstance") (G1 X.K):=by
 intro pins s U H xs us Q I r h
 have sc:∀ x T,xs=[x,.ty T]->Bv x=true->okT T=true->Q (.bl (Na x T)) H->aQ (model X.prog X.w) X.A (call (.builtin "isinstance") us) (EP X pins U Q) X.xe s:=λx T e hx hT q=>by
  subst e
  obtain⟨t,ht,hk⟩:=Tk (K:=X.K) hx hT
  exact aa4 pins s U H _ us Q I r ⟨x,T,t,_,rfl,ht H,hk,q⟩
 unfold G1 at h
 split at h
 .exact sc _ _ rfl rfl h.1 h.2
 .exact sc _ _ rfl rfl h.1 h.2
 .exact sc _ _ rfl rfl h.1 h.2
 .exact sc _ _ rfl rfl h.1 h.2
 .obtain⟨t,b,ty,e,q⟩:=h
  obtain⟨u,v,rfl,ru,rv⟩:=r.two
  cases rv
  exact bE (ah _) (Ki I ru ty e λtk htk=>⟨.bl b,H,I.tok tk htk,rfl,q⟩)
 .obtain⟨u,v,rfl,ru,rv⟩:=r.two
  rcases h with ⟨t,b,ty,e,q⟩|h
  .cases rv
   exact bE (ah _) (Ki I ru ty e λtk htk=>⟨.bl b,H,I.tok tk htk,rfl,q⟩)
  .exact h.elim
 .exact h.elim
theorem Xi:Cj X (.builtin "len") (Da X.K):=by
 intro pins s U H xs us Q I r h
 unfold Da at h
 split at h
 .exact N2 pins s U H _ us Q I r ⟨_,rfl,h.1,h.2⟩
 .rcases h with ⟨ys,h1,h2⟩|⟨kvs,h1,h2⟩
  .exact N1 pins s U H _ us Q I r ⟨_,ys,rfl,h1,h2⟩
  .obtain⟨u,rfl,ru⟩:=D9 r
   cases ru
   exact bk1 I h1 λt s' I'=>⟨.int _,H,I',⟨t,rfl⟩,h2⟩
 .exact h.elim
theorem Xg (hc:X.calm=true):Cj X (.builtin "all") (Rm X.K):=by
 intro pins s U H xs us Q I r h
 unfold Rm at h
 split at h
 .obtain⟨bs,h1,h2⟩:=h
  exact aa3 hc pins s U H _ us Q I r ⟨_,bs,rfl,h1,h2⟩
 .exact h.elim
theorem Xh:Cj X (.type "int") Yk:=by
 intro pins s U H xs us Q I r h
 unfold Yk at h
 split at h
 .exact Mw pins s U H _ us Q I r (.inl ⟨_,rfl,h⟩)
 .exact Mw pins s U H _ us Q I r (.inr ⟨_,rfl,h⟩)
 .exact h.elim
theorem So:Cj X (.type "list") (Pj X.K):=by
 intro pins s U H xs us Q I r h
 unfold Pj at h
 split at h
 .obtain⟨ys,h1,h2⟩:=h
  exact N3 pins s U H _ us Q I r ⟨_,ys,rfl,h1,h2⟩
 .exact h.elim
theorem Xj:Cj X (.type "tuple") (Gb X.K):=by
 intro pins s U H xs us Q I r h
 unfold Gb at h
 split at h
 .obtain⟨ys,h1⟩:=h
  exact Lr pins s U H _ us Q I r ⟨_,ys,rfl,h1⟩
 .exact h.elim
theorem ar3 (hu:X.A.units+64<cLine) {x:Str} {f:BF} {r:RF} {c:Bool} (h:a43 X.K c x=some (f,r)) (hc:c=X.calm):cV x=some f.val/\Cj X f.val r:=by
 unfold a43 at h
 by_cases e:x = "len"
 .rw[if_pos e] at h;cases h;rw[e];exact⟨PySem.boot_len,Xi⟩
 rw[if_neg e] at h
 by_cases e:x = "isinstance"
 .rw[if_pos e] at h;cases h;rw[e];exact⟨PyProof.Rows.boot_isinstance,aa5⟩
 rw[if_neg e] at h
 by_cases e:x = "all"
 .rw[if_pos e] at h
  by_cases ec:c=true
  .rw[if_pos ec] at h;cases h;rw[e];exact⟨PyProof.Rows.boot_all,Xg (hc▸ec)⟩
  .rw[if_neg ec] at h;cases h
 rw[if_neg e] at h
 by_cases e:x = "int"
 .rw[if_pos e] at h;cases h;rw[e];exact⟨jE,Xh⟩
 rw[if_neg e] at h
 by_cases e:x = "list"
 .rw[if_pos e] at h;cases h;rw[e];exact⟨eY,λpins s U H xs us Q I r h=>h.elim (So pins s U H xs us Q I r) λz=>z.2.elim⟩
 rw[if_neg e] at h
 by_cases e:x = "tuple"
 .rw[if_pos e] at h;cases h;rw[e];exact⟨i7,Xj⟩
 rw[if_neg e] at h
 by_cases e:x = "sorted"
 .rw[if_pos e] at h;cases h;rw[e];exact⟨Im,λpins s U H xs us Q I r h=>h.elim cq λz=>z.2.elim (Sr (hc▸z.1) pins s U H xs us Q I r) cq⟩
 rw[if_neg e] at h
 by_cases e:x = "sum"
 .rw[if_pos e] at h
  by_cases ec:c=true
  .rw[if_pos ec] at h;cases h;rw[e];exact⟨PyProof.Rows.boot_sum,aa6 (hc▸ec)⟩
  .rw[if_neg ec] at h;cases h
 rw[if_neg e] at h
 by_cases e:x = "dict"
 .rw[if_pos e] at h;cases h;rw[e];exact⟨boot_dict,Sm⟩
 rw[if_neg e] at h
 cases h
noncomputable abbrev RM:=V->List V->Hp->VK->Prop
structure BM where
 T:String
 id:String
 r:RM
noncomputable def rMt (K:ac) (bs:List BM):V->Hp->(Hp->(List V->Hp->Prop)->Prop)->VK->Prop:=λx H1 ta Q=>
 match bs with
 |[]=>False
 |[b]=>tyV K b.T x H1/\ta H1 λxs H2=>b.r x xs H2 Q
 |b::rest=>(tyV K b.T x H1/\ta H1 λxs H2=>b.r x xs H2 Q)\/rMt K rest x H1 ta Q
structure a27 (X:Cx) (m:Str) (b:BM):Prop where
 pa:PlainAttrs b.T
 slot:Slot b.T m b.id
 ty:typeOf (.builtin b.id)=pure (.type "method_descriptor")
 mt:MtR X b.id b.r
noncomputable def Nm (K:ac):RM:=λx xs H Q=>∃ z p ys,x=.str z/\xs=[.ref p]/\(SqL K H p (ys.map V.str)\/False)/\(ys.map (·.length)).sum+ys.length * z.length<=16777216/\Q (.str (Txt.join z ys)) H
theorem ae6 {X:Cx}:MtR X "str.join" (Nm X.K):=by
 intro pins s U H x xs v us Q I rx rs h
 obtain⟨z,p,ys,rfl,rfl,hq,hz,q⟩:=h
 exact at7 pins s U H _ _ v us Q I rx rs ⟨z,p,ys,rfl,rfl,hq.resolve_right id,hz,q⟩
noncomputable def ai8:RM:=λx xs H Q=>∃ i,x=.int i/\xs=[]/\Q (.int (hG i:Nat)) H
noncomputable def G0:RM:=λx xs H Q=>match x,xs with
 |.ref a,[y]=>∃ o,DGet H a y o/\Q (o.getD .non) H
 |.ref a,[y,z]=>∃ o,DGet H a y o/\Q (o.getD z) H
 |_,_=>False
theorem at6 (hu:X.A.units+64<cLine):MtR X "dict.get" G0:=by
 intro pins s U H x xs v us Q I rx rs h
 unfold G0 at h
 split at h
 .obtain⟨o,g,q⟩:=h
  obtain⟨u,rfl,ru⟩:=rs.one
  cases rx
  exact a47 (by omega) I g ru λw' s' I' r'=>⟨_,H,I',r',q⟩
 .obtain⟨o,g,q⟩:=h
  obtain⟨u,w,rfl,ru,rw'⟩:=rs.two
  cases rx
  exact a48 (by omega) I g ru rw' λw' s' I' r'=>⟨_,H,I',r',q⟩
 .exact h.elim
noncomputable def Jy:RM:=λx xs H Q=>∃ p kvs,x=.ref p/\xs=[]/\H p=some (.dK kvs)/\Q .non (upd H p (.dK []))
theorem X2:MtR X "dict.clear" Jy:=by
 intro pins s U H x xs v us Q I rx rs h
 obtain⟨p,kvs,rfl,rfl,e,q⟩:=h
 cases rx
 cases rs
 exact ar5 I e λs' I'=>⟨.non,_,I',rfl,q⟩
theorem Sz {i:Nat} (h:i<sizeLine):dL (i:Int)=true:=by
 have hs:sizeLine<=9223372036854775807:=aF rfl
 have e:(2:Int) ^ 63=9223372036854775808:=rfl
 unfold dL
 rw[e,aU]
 exact⟨decide_eq_true (by omega),decide_eq_true (by omega)⟩
noncomputable def J0:RM:=λx vs H Q=>∃ l xs y,∃ i:Nat,x=.ref l/\vs=[.int (i:Int),y]/\H l=some (.lst xs)/\i<=xs.length/\xs.length<sizeLine/\Q .non (upd H l (.lst (xs.take i++y::xs.drop i)))
theorem X4:MtR X "list.insert" J0:=by
 intro pins s U H x vs v us Q I rx rv h
 obtain⟨l,xs,y,i,rfl,rfl,hH,hi,hz,q⟩:=h
 cases rx
 obtain⟨u1,u2,rfl,⟨t,rfl⟩,r2⟩:=rv.two
 obtain⟨z,its,n,r,hl,e⟩:=I.lstM hH
 have hf:dL (i:Int)=true:=Sz (a_ hi hz)
 have hz':its.toArray.size<=sizeLine:=by rw[ax,<- hl];exact z
 obtain⟨j,hj⟩:∃ j:Int,j=(i:Int):=⟨_,rfl⟩
 rw[<- hj] at hf ⊢
 have hf':¬ (!dL j)=true:=by rw[hf];decide
 have M:=AutoSeq1.list_insert_list_int_val_1 l its.toArray n j t u2 hf' hz'
 refine kU iQ ⟨_,e,rfl⟩ PySem.F.entry_list_insert (PySem.F.args_list_insert_3 _ _ _) M ⟨e,?_⟩
 refine⟨.non,_,I.lset (its':=its.take i++u2::its.drop i) hH e ?_ ((r.take i).append (.cons r2 (r.drop i))) ?_,rfl,q⟩
 .have hk:(if j<0 then (j+(its.toArray.size:Int)).toNat else min j.toNat its.toArray.size)=i:=by
   rw[if_neg (by omega),ax,hj,aT]
   omega
  show (its.toArray.extract 0 (if j<0 then (j+(its.toArray.size:Int)).toNat else min j.toNat its.toArray.size)).push u2++its.toArray.extract (if j<0 then (j+(its.toArray.size:Int)).toNat else min j.toNat its.toArray.size)=_
  rw[hk]
  apply Array.toList_inj.mp
  simp
  exact gw (by simp)
 .rw[aS,aO,aG,List.length_drop]
  omega
noncomputable def mtR (K:ac) (m:Str):List BM:=
 if m = "append" then [⟨"list", "list.append", B8⟩] else
 if m = "get" then [⟨"dict", "dict.get", G0⟩] else
 if m = "extend" then [⟨"list", "list.extend", Jz⟩] else
 if m = "clear" then [⟨"list", "list.clear", Uc⟩,⟨"dict", "dict.clear", Jy⟩] else
 if m = "join" then [⟨"str", "str.join", Nm K⟩] else
 if m = "bit_length" then [⟨"int", "int.bit_length", ai8⟩] else
 if m = "insert" then [⟨"list", "list.insert", J0⟩] else []
theorem ae2 {m:Str} {b:BM} (hu:X.A.units+64<cLine) (h:b∈mtR X.K m):a27 X m b:=by
 unfold mtR at h
 by_cases e:m = "append"
 .rw[if_pos e] at h
  have:b=⟨"list", "list.append", B8⟩:=by simpa using h
  subst this;subst e
  exact⟨eK,PySem.F.slot_list_append,PySem.F.type_list_append,Nh⟩
 rw[if_neg e] at h
 by_cases e:m = "get"
 .rw[if_pos e] at h
  have:b=⟨"dict", "dict.get", G0⟩:=by simpa using h
  subst this;subst e
  exact⟨gh,dQ,PySem.F.type_dict_get,at6 hu⟩
 rw[if_neg e] at h
 by_cases e:m = "extend"
 .rw[if_pos e] at h
  have:b=⟨"list", "list.extend", Jz⟩:=by simpa using h
  subst this;subst e
  exact⟨eK,PySem.F.slot_list_extend,PySem.F.type_list_extend,X3⟩
 rw[if_neg e] at h
 by_cases e:m = "clear"
 .rw[if_pos e] at h
  rcases List.mem_cons.mp h with this|h
  .subst this;subst e
   exact⟨eK,PySem.F.slot_list_clear,PySem.F.type_list_clear,ae5⟩
  .have:b=⟨"dict", "dict.clear", Jy⟩:=by simpa using h
   subst this;subst e
   exact⟨gh,i_,PySem.F.type_dict_clear,X2⟩
 rw[if_neg e] at h
 by_cases e:m = "join"
 .rw[if_pos e] at h
  have:b=⟨"str", "str.join", Nm X.K⟩:=by simpa using h
  subst this;subst e
  exact⟨PySem.F.plainAttrs_str,PySem.F.slot_str_join,PySem.F.type_str_join,ae6⟩
 rw[if_neg e] at h
 by_cases e:m = "bit_length"
 .rw[if_pos e] at h
  have:b=⟨"int", "int.bit_length", ai8⟩:=by simpa using h
  subst this;subst e
  exact⟨PySem.F.plainAttrs_int,PySem.F.slot_int_bit_length,PySem.F.type_int_bit_length,at5⟩
 rw[if_neg e] at h
 by_cases e:m = "insert"
 .rw[if_pos e] at h
  have:b=⟨"list", "list.insert", J0⟩:=by simpa using h
  subst this;subst e
  exact⟨eK,iQ,PySem.F.type_list_insert,X4⟩
 rw[if_neg e] at h
 cases h
theorem Pk {K:ac}:∀ {bs:List BM} {x:V} {H1:Hp} {ta:Hp->(List V->Hp->Prop)->Prop} {Q:VK},rMt K bs x H1 ta Q -> ∃ b∈bs,tyV K b.T x H1/\ta H1 λxs H2=>b.r x xs H2 Q
 |[],_,_,_,_,h=>h.elim
 |[b],_,_,_,_,h=>⟨b,by simp,h⟩
 | b::c::rest,x,H1,ta,Q,h=>by
  rcases h with h|h
  .exact⟨b,by simp,h⟩
  .obtain⟨d,hd,q⟩:=Pk h
   exact⟨d,az _ hd,q⟩
noncomputable def C0:Expr->Bool
 |.Call (.Name x _) [] [] _=>!(x==("super" : Str))
 |_=>true
theorem Du {e:Expr} (h:C0 e=true) (f:Str) (env:Env) (whole:Sem ai):jb e f env whole=whole:=by
 unfold jb
 split
 .rename_i id p pos
  have:(id==("super" : Str))=false:=by
   have h':(!(id==("super" : Str)))=true:=h
   simpa using h'
  have e2:(id != "super")=true:=by
   show (!(id == "super"))=true
   rw[this]
   rfl
  rw[e2]
  simp
 .rfl
variable {o:Expr} {do':DE} {es:List Expr} {r:DA} {m:Str} {apos cpos:Pos}
theorem bf4 {bs:List BM} (hb:∀ b∈bs,a27 X m b) (ho:QE X o do') (h1:C0 o=true) (h4:(apos.endLine==cpos.line)=true) :
  QE X (.Call (.Attribute o m apos) [] [] cpos) (dMt (rMt X.K bs) do' Af):=by
 intro Ex mt pins s U H Q I h
 refine je (Du h1 m X.env _) h4 (thn (ho Ex mt pins s U H _ I h) λv s1 ⟨x,H1,I1,r1,q1⟩=>?_)
 obtain⟨b,hbm,ty,q⟩:=Pk q1
 obtain⟨k1,k2⟩:=an7 I1 r1 ty
 have B:=hb b hbm
 exact⟨b.T,b.id,B.pa,B.slot,B.ty,k1,k2,gv rfl (kh (B.mt pins s1 U H1 x [] v [] Q I1 r1 .nil q))⟩
theorem bq5 {bs:List BM} {e:Expr} (hb:∀ b∈bs,a27 X m b) (ho:QE X o do') (ha:QA X (e::es) r) (h1:C0 o=true) (h2:(e::es).all Ba=true) (h3:(e::es).length<30) (h4:(apos.endLine==cpos.line)=true) :
  QE X (.Call (.Attribute o m apos) (e::es) [] cpos) (dMt (rMt X.K bs) do' r):=by
 intro Ex mt pins s U H Q I h
 have hs:=bW▸h2
 rw[aU] at hs
 have hfew:((iV cpos (cW (e::es) X.env)).all (λx=>!x.1)&&(lX cpos (kq [] X.env)).all (λx=>x.1.isSome)
   && decide ((e::es).length+([]:List lE).length+(if ([]:List lE).isEmpty then 0 else 1)<30))=true:=by
  rw[Ir h2]
  have:decide ((e::es).length+([]:List lE).length+(if ([]:List lE).isEmpty then 0 else 1)<30)=true:=by
   rw[decide_eq_true_iff]
   simpa using h3
  rw[this]
  rfl
 refine wpAny_Call_method_late (Du h1 m X.env _) hfew h4 rfl (thn (ho Ex mt pins s U H _ I h) λv s1 ⟨x,H1,I1,r1,q1⟩=>?_)
 obtain⟨b,hbm,ty,q⟩:=Pk q1
 obtain⟨k1,k2⟩:=an7 I1 r1 ty
 have B:=hb b hbm
 refine⟨b.T,b.id,B.pa,B.slot,B.ty,k1,k2,?_⟩
 have hA:=ha Ex mt cpos pins s1 U H1 _ I1 q
 rw[A0 hs.1] at hA ⊢
 refine gv (by show (false||(iV cpos (cW es X.env)).any (·.1))=false;rw[Bw hs.2] <;> rfl) (Calls.evalArgs_plain ?_)
 exact thn hA λus s2 ⟨vs,H2,I2,r2,q2⟩=>B.mt pins s2 U H2 x vs v us Q I2 r1 r2 q2
variable {x:Str} {p pos:Pos} {G:Sg}
theorem be9 {f:BF} {rf:RF} {e:Expr} (hc:Cj X f.val rf) (hg:Gl X x) (hm:X.mg x=none) (hv:cV x=some f.val) (ha:QA X (e::es) r) (hs:(e::es).all Ba=true) (hn:x ≠ "__name__") (hdb:(x==("__debug__" : Str))=false) :
  QE X (.Call (.Name x p) (e::es) [] pos) (dFn (λvs H Q _=>rf vs H Q) r):=by
 intro Ex mt
 have h:=bW▸hs
 rw[aU] at h
 cases f with
 |bf id=>exact ag4 hc hg hm hv (ha Ex mt) hn hdb (A0 h.1 es X.env) (Bw h.2 X.env pos)
 |ty T=>exact Yd hc hg hm hv (ha Ex mt) hn hdb (A0 h.1 es X.env) (Bw h.2 X.env pos)
noncomputable def spE (sp:Sp) (dvs:List V):List V->Hp->VK->EK->Prop:=λvs H Q E=>sp (vs++dvs) H Q (λv _ H'=>∃ a,v=.ref a/\E a H')
theorem J1 {i:FI} (F:Hj X i) {j:Nat} (hj:j<=i.dfs.length) {Ex:St->EK} (mt:Meets X Ex) {pins:List (Addr×Obj)} {U:St} {H:Hp} {s:am} {Q:VK} {us:List ai} {vs:List V}
  (I:Inv X pins U H s) (r:Vals vs us) (h:spE i.sp (i.dfs.drop j) vs H Q (Ex U)):aQ (model X.prog X.w) X.A (call (.ref i.f) us) (EP X pins U Q) X.xe s:=by
 obtain⟨CX,hx,FO⟩:=F.ok
 have r2:Vals (vs++i.dfs.drop j) (us++i.ds.drop j):=r.append (F.vals.drop j)
 have hl:(us++i.ds.drop j).length=i.ps.length:=by rw[<- r2.length];exact FO.len _ _ _ _ h
 refine kZ (f8 (FO.run X.A X.stack s H ⟨us,[]⟩ (us++i.ds.drop j) (vs++i.dfs.drop j) Q _ F.room I.env0 (F.binds j hj s us I.kIn hl) r2 h) λr s' hq=>?_)
 cases r with
 |error e=>exact hx X rfl rfl Ex mt pins U H s e s' I hq
 |ok fl=>
  cases fl with
  |ret u=>exact I.after hq
  |next=>exact cq hq
  |brk=>exact cq hq
  |cont=>exact cq hq
theorem ah7 {i:FI} (F:Hj X i) {j:Nat} (hj:j<=i.dfs.length) (hg:Gl X x) (hm:X.mg x=some (.ref i.f)) (hdb:(x==("__debug__" : Str))=false) :
  QE X (.Call (.Name x p) [] [] pos) (dFn (spE i.sp (i.dfs.drop j)) Af):=by
 intro Ex mt pins s U H Q I h
 refine bT (Gv I hg hm ?_ hdb)
 exact hZ I.kIn F.kp (J1 (us:=[]) F hj mt I .nil h)
theorem aw1 {i:FI} {e:Expr} (F:Hj X i) {j:Nat} (hj:j<=i.dfs.length) (hg:Gl X x) (hm:X.mg x=some (.ref i.f)) (ha:QA X (e::es) r) (hs:(e::es).all Ba=true) (hdb:(x==("__debug__" : Str))=false) :
  QE X (.Call (.Name x p) (e::es) [] pos) (dFn (spE i.sp (i.dfs.drop j)) r):=by
 intro Ex mt pins s U H Q I h
 have h2:=bW▸hs
 rw[aU] at h2
 refine bT (Gv I hg hm ?_ hdb)
 refine iw (h₀:=X.base) I.ok.mod.kin F.kp (thn (ha Ex mt pos pins s U H _ I h) λus s1 ⟨vs,H1,I1,r,q⟩=>⟨I1.kIn,?_⟩) (A0 h2.1 es X.env) (Bw h2.2 X.env pos)
 exact J1 F hj mt I1 r q
noncomputable def mkC (C:Addr):Option FI->Nat->List V->Hp->VK->EK->Prop
 |none,_=>λ_ _ _ _=>False
 | some i,j=>λvs H Q E=>∀ a dx,H a=none->H dx=none->dx≠a ->
   i.sp (.ref a::(vs++i.dfs.drop j)) (upd (upd H dx (.own a)) a (.ins C dx [])) (λv H2=>v=.non/\Q (.ref a) H2) (λv _ H'=>∃ b,v=.ref b/\E b H')
theorem ax8 {C f:Addr} {CX:CXT} {k:Nat} {fd:a8} {ps:List Str} {sp:Sp} {ds:List ai} {dvs:List V} {E:XK} {pins:List (Addr×Obj)} {U:St} {H:Hp} {s:am} {Q:VK} {us:List ai} {vs:List V}
  (M:Mk X.K C f) (F:FnOk X.prog X.w X.K X.mg X.base CX k f fd ps sp) (hr:Room (k+1) X.A) (hb:Binds X.K fd ps ds) (hd:Vals dvs ds) (hx:∀ H1 s1 e s',Inv X pins U H1 s1->CX X.stack H1 s1 E e s'->X.xe e s') (I:Inv X pins U H s) (r:Vals vs us)
  (h:∀ x dx,H x=none->H dx=none->dx≠x->sp (.ref x::(vs++dvs)) (upd (upd H dx (.own x)) x (.ins C dx [])) (λv H2=>v=.non/\Q (.ref x) H2) E) :
  aQ (model X.prog X.w) X.A (call (.ref C) us) (EP X pins U Q) X.xe s:=by
 have hq:=h (s.heap.objs.size+1) s.heap.objs.size (I.hok.fresh (dW _)) (I.hok.fresh (ah _)) (aJ (cw _))
 have I2:=Inv.made (C:=C) I
 have r2:Vals (V.ref (s.heap.objs.size+1)::(vs++dvs)) (bv (s.heap.objs.size+1)::(us++ds)):=.cons rfl (r.append hd)
 have hl:(bv (s.heap.objs.size+1)::us++ds).length=ps.length:=by
  have e:=r2.length
  rw[F.len _ _ _ _ hq] at e
  exact e.symm
 refine kZ (ad5 (f:=f) I.kIn M.makes M.init (beq_iff_eq.mp M.fn) (f8 (F.run _ X.stack _ _ ⟨bv (s.heap.objs.size+1)::us,[]⟩ (bv (s.heap.objs.size+1)::(us++ds)) _ _ E (hr.make C us [])
  (I2.env0.make C us []) (hb _ (bv (s.heap.objs.size+1)::us) I2.kIn hl) r2 hq) λr s' hq'=>?_))
 cases r with
 |error e=>exact hx _ _ e s' I2 hq'
 |ok fl=>
  cases fl with
  |ret u=>
   obtain⟨v,H',I3,rv,ev,q3⟩:=I2.after hq'
   subst ev
   exact⟨rv,⟨V.ref (s.heap.objs.size+1),H',I3,rfl,q3⟩⟩
  |next=>exact cq hq'
  |brk=>exact cq hq'
  |cont=>exact cq hq'
theorem W0 {C:Addr} {oi:Option FI} {j:Nat} (hi:Z0 X C oi) (hj:∀ i,oi=some i->j<=i.dfs.length) {Ex:St->EK} (mt:Meets X Ex) {pins:List (Addr×Obj)} {U:St} {H:Hp} {s:am} {Q:VK} {us:List ai} {vs:List V}
  (I:Inv X pins U H s) (rv:Vals vs us) (kp:bA X.K (.ref C)=true) (h:mkC C oi j vs H Q (Ex U)):aQ (model X.prog X.w) X.A (call (.ref C) us) (EP X pins U Q) X.xe s:=by
 cases oi with
 |none=>exact h.elim
 |some i=>
  obtain⟨h0,h1,h2,F,hr⟩:=hi
  obtain⟨CX,hx,FO⟩:=F.ok
  exact ax8 ⟨h0,h1,h2,kp⟩ FO hr (F.binds j (hj i rfl)) (F.vals.drop j) (λH1 s1 e s' I1 q=>hx X rfl rfl Ex mt pins U H1 s1 e s' I1 q) I rv h
theorem Wm {C:Addr} {oi:Option FI} {j:Nat} (hi:Z0 X C oi) (hj:∀ i,oi=some i->j<=i.dfs.length) (kp:bA X.K (.ref C)=true) (hg:Gl X x) (hm:X.mg x=some (.ref C)) (hdb:(x==("__debug__" : Str))=false) :
  QE X (.Call (.Name x p) [] [] pos) (dFn (mkC C oi j) Af):=by
 intro Ex mt pins s U H Q I h
 refine bT (Gv I hg hm ?_ hdb)
 exact hZ I.kIn kp (W0 (us:=[]) hi hj mt I .nil kp h)
theorem bf3 {C:Addr} {oi:Option FI} {j:Nat} {e:Expr} (hi:Z0 X C oi) (hj:∀ i,oi=some i->j<=i.dfs.length) (kp:bA X.K (.ref C)=true) (hg:Gl X x) (hm:X.mg x=some (.ref C)) (ha:QA X (e::es) r) (hs:(e::es).all Ba=true) (hdb:(x==("__debug__" : Str))=false) :
  QE X (.Call (.Name x p) (e::es) [] pos) (dFn (mkC C oi j) r):=by
 intro Ex mt pins s U H Q I h
 have h2:=bW▸hs
 rw[aU] at h2
 refine bT (Gv I hg hm ?_ hdb)
 refine iw (h₀:=X.base) I.ok.mod.kin kp (thn (ha Ex mt pos pins s U H _ I h) λus s1 ⟨vs,H1,I1,r,q⟩=>⟨I1.kIn,?_⟩) (A0 h2.1 es X.env) (Bw h2.2 X.env pos)
 exact W0 hi hj mt I1 r kp q
noncomputable def Bz (m:Str) (n:Nat) (l:List MI) (o:DE) (t:DA):DE:=λU H Q E=>o U H (λx H1=>∃ a dx fs mi,x=.ref a/\mi∈l/\H1 a=some (.ins mi.C dx fs)/\fs.lookup m=none/\(n+1<=mi.i.ps.length/\mi.i.ps.length<=n+1+mi.i.dfs.length) /\
 t U H1 (λvs H2=>spE mi.i.sp (mi.i.dfs.drop (n+1+mi.i.dfs.length - mi.i.ps.length)) (.ref a::vs) H2 Q E) E) E
theorem Rg {es:List Expr} {P:ai->am->Prop} {s:am} (h1:C0 o=true) (h2:es.all Ba=true) (h3:es.length<30) (h4:(apos.endLine==cpos.line)=true)
  (h:aQ (model X.prog X.w) X.A (eval o X.env) (λov s1=>∀ pl,aQ (model X.prog X.w) X.A (getMethod ov m pl) (λfx s2=>aQ (model X.prog X.w) X.A (callWith cpos fx.1 fx.2 (iV cpos (cW es X.env)) (lX cpos (kq [] X.env))) P X.xe s2) X.xe s1) X.xe s) :
  aQ (model X.prog X.w) X.A (eval (.Call (.Attribute o m apos) es [] cpos) X.env) P X.xe s:=by
 have few:methodCallForm (es.length+([]:List lE).length) (iV cpos (cW es X.env)) (lX cpos (kq [] X.env))=true:=by
  unfold methodCallForm
  rw[Ir h2]
  simpa [lX,kq] using h3
 rw[arm_eval_Call,Du h1]
 refine af (thn h λov s1 h1=>af (gp ?_))
 unfold methodCall calleeOf
 rw[few,if_pos rfl]
 refine af (cb (thn (h1 _) λfx s2 h2=>?_))
 have hp:methodCallPos true o X.env apos cpos=pure cpos:=by unfold methodCallPos;rw[h4];rfl
 rw[hp]
 exact af (ao h2)
theorem aw6 {l:List MI} (hl:∀ mi∈l,Cls X.K mi.C/\Nw X.K mi.C m mi.i.f/\Hj X mi.i) (ho:QE X o do') (h1:C0 o=true) (h4:(apos.endLine==cpos.line)=true) :
  QE X (.Call (.Attribute o m apos) [] [] cpos) (Bz m 0 l do' Af):=by
 intro Ex mt pins s U H Q I h
 refine Rg (es:=[]) h1 rfl (by decide) h4 (thn (ho Ex mt pins s U H _ I h) λu s1 ⟨x,H1,I1,rx,a,dx,fs,mi,ex,hm,ea,hf,hn,q⟩ pl=>?_)
 subst ex
 obtain rfl:u=bv a:=rx
 obtain⟨c,k,F⟩:=hl mi hm
 refine Kd I1 ea c k hf ?_
 exact hZ (first:=[.ref a]) I1.kIn k.kp (J1 (us:=[.ref a]) (vs:=[.ref a]) F (by omega) mt I1 (.cons rfl .nil) q)
theorem bf8 {l:List MI} {e:Expr} (hl:∀ mi∈l,Cls X.K mi.C/\Nw X.K mi.C m mi.i.f/\Hj X mi.i) (ho:QE X o do') (ha:QA X (e::es) r) (h1:C0 o=true) (h2:(e::es).all Ba=true) (h3:(e::es).length<30) (h4:(apos.endLine==cpos.line)=true) :
  QE X (.Call (.Attribute o m apos) (e::es) [] cpos) (Bz m (es.length+1) l do' r):=by
 intro Ex mt pins s U H Q I h
 refine Rg h1 h2 h3 h4 (thn (ho Ex mt pins s U H _ I h) λu s1 ⟨x,H1,I1,rx,a,dx,fs,mi,ex,hm,ea,hf,hn,q⟩ pl=>?_)
 subst ex
 obtain rfl:u=bv a:=rx
 obtain⟨c,k,F⟩:=hl mi hm
 refine Kd I1 ea c k hf ?_
 have hs:=bW▸h2
 rw[aU] at hs
 refine iw (first:=[.ref a]) (h₀:=X.base) I.ok.mod.kin k.kp (thn (ha Ex mt cpos pins s1 U H1 _ I1 q) λus s2 ⟨vs,H2,I2,r2,q2⟩=>⟨I2.kIn,?_⟩) (A0 hs.1 es X.env) (Bw hs.2 X.env cpos)
 exact J1 (us:=.ref a::us) (vs:=.ref a::vs) F (by omega) mt I2 (.cons rfl r2) q2
noncomputable def Do:DE:=λ_ H Q _=>∀ p,H p=none->Q (.ref p) (upd H p (.dK []))\/Q (.ref p) (upd H p (.dT []))
theorem aw3:QE X (.Dict [] [] pos) Do:=λEx mt pins s U H Q I h=>by
 have fr:=I.hok.fresh (ah s.heap.objs.size)
 rcases h _ fr with q|q
 .exact wpAny_Dict_empty ⟨.ref _,_,I.laid (a:=s.heap.objs.size) (o:=.dK []) (t':=s.toks) (λ_ _ q=>aj _ q) (ah _) (ab3 s.heap I.big),rfl,q⟩
 .exact wpAny_Dict_empty ⟨.ref _,_,I.laid (a:=s.heap.objs.size) (o:=.dT []) (t':=s.toks) (λ_ _ q=>aj _ q) (ah _) (ab4 s.heap I.big),rfl,q⟩
theorem Yj {a:Expr} {da:DE} {p2 pos2:Pos} (hc:X.calm=true) (hg:Gl X "len") (hm:X.mg "len" = none) (hg2:Gl X "set") (hm2:X.mg "set" = none) (ha:QE X a da) (hs:Ba a=true) :
  QE X (.Call (.Name "len" p) [.Call (.Name "set" p2) [a] [] pos2] [] pos) (dUn (G4 X.K) da):=by
 intro Ex mt pins s U H Q I h
 refine bT (C9 I hg hm PySem.boot_len (gX (dO ?_) rfl rfl) (by decide) (by decide))
 refine bT (C9 I hg2 hm2 PyProof.Rows.boot_set (bL ?_ (A0 hs [] X.env) rfl) (by decide) (by decide))
 rw[A0 hs]
 show aQ _ _ (spliced ((false,eval a X.env)::iV pos2 (cW [] X.env))) _ _ s
 refine dO (thn (ha Ex mt pins s U H _ I h) λu s1 ⟨x,H1,I1,r1,q1⟩=>d7 ?_)
 exact thn (as9 hc I1 r1 q1) λv s2 q=>d7 q
theorem Ua {a:Expr} {da:DE} {p2 pos2:Pos} (hc:X.calm=true) (hg:Gl X "list") (hm:X.mg "list" = none) (hg2:Gl X "range") (hm2:X.mg "range" = none) (ha:QE X a da) (hs:Ba a=true) :
  QE X (.Call (.Name "list" p) [.Call (.Name "range" p2) [a] [] pos2] [] pos) (dUn Kz da):=by
 intro Ex mt pins s U H Q I h
 refine bT (C9 I hg hm eY (bL (dO ?_) rfl rfl) (by decide) (by decide))
 refine bT (C9 I hg2 hm2 boot_range (bL ?_ (A0 hs [] X.env) rfl) (by decide) (by decide))
 rw[A0 hs]
 show aQ _ _ (spliced ((false,eval a X.env)::iV pos2 (cW [] X.env))) _ _ s
 refine dO (thn (ha Ex mt pins s U H _ I h) λu s1 ⟨x,H1,I1,r1,q1⟩=>d7 ?_)
 cases x with
 |int n=>
  obtain⟨t,rfl⟩:=r1
  exact thn (ad4 hc I1 q1.1 q1.2.1 q1.2.2) λv s2 q=>d7 q
 |_=>exact (show False from q1).elim
noncomputable def Ez (K:ac):V->Hp->VK->Prop:=λx H Q=>match x with
 |.ref p=>∃ kvs,Rd H p (.dK kvs)/\kvs.length<1000 /\ ∀ l Ts H',Z1 H H'->H l=none->H' l=some (.lst (Ts.map V.ref))->Ts.length=kvs.length->aq5 H H' kvs Ts->Q (.ref l) H'
 |_=>False
theorem Pd {o:Expr} {do':DE} {ap cp:Pos} (hc:X.calm=true) (hg:Gl X "list") (hm:X.mg "list" = none) (ho:QE X o do') (h1:C0 o=true) (h4:(ap.endLine==cp.line)=true) :
  QE X (.Call (.Name "list" p) [.Call (.Attribute o "items" ap) [] [] cp] [] pos) (dUn (Ez X.K) do'):=by
 intro Ex mt pins s U H Q I h
 refine bT (C9 I hg hm eY (bL (dO ?_) rfl rfl) (by decide) (by decide))
 refine je (Du h1 "items" X.env _) h4 (thn (ho Ex mt pins s U H _ I h) λv s1 ⟨x,H1,I1,r1,q1⟩=>?_)
 cases x with
 |ref a=>
  cases r1
  obtain⟨kvs,rd,few,q⟩:=q1
  obtain⟨_,lo,vs,rel,dof⟩:=Dd I1.hok rd
  obtain⟨ob,es,ep,e,c,_⟩:=id dof
  refine⟨"dict", "dict.items", gh,ja,PySem.F.type_dict_items,dof.typeIs,λa' e'=>?_,gv rfl (kh ?_)⟩
  .cases e';exact⟨ob,e,c.2.1⟩
  .exact thn (Tm hc I1 rd few λl Ts H' s' I' top fr hl len laid=>⟨.ref l,H',I',rfl,q l Ts H' top fr hl len laid⟩) λv s2 q=>d7 q
 |_=>exact (show False from q1).elim
end
noncomputable def QI (X:Cx) (tg e:Expr) (t:DI):Prop:=∀ Ex,Meets X Ex->PI X tg e (λU H R=>t U H R (Ex U))
noncomputable def iNo:DI:=λ_ _ _ _=>False
noncomputable def onD (p:Addr) (H:Hp) (R:Obj->List (Key×V)->Hp->Prop):Prop:=(∃ kvs,H p=some (.dK kvs) /\ ∀ o,R o kvs (upd H p (.frz o (.dK kvs)))) \/ ∃ o kvs,H p=some (.frz o (.dK kvs))/\R o kvs H
theorem af7 {X:Cx} {pins:List (Addr×Obj)} {U:St} {H:Hp} {s:am} {p:Addr} {R:Obj->List (Key×V)->Hp->Prop} (I:Inv X pins U H s) (h:onD p H R):∃ o kvs H',Inv X pins U H' s/\H' p=some (.frz o (.dK kvs))/\R o kvs H':=by
 rcases h with ⟨kvs,e,q⟩|⟨o,kvs,e,q⟩
 .obtain⟨o,ep,_,_,I'⟩:=I.froze e
  exact⟨o,kvs,_,I',Aa,q o⟩
 .exact⟨o,kvs,H,I,e,q⟩
noncomputable def Bi (K:ac) (a:DE):DI:=λU H R E=>a U H (λx H1=>match x with
 |.str z=>R (Its z) H1
 |.ref p=>((∃ xs,SqL K H1 p xs)/\R (Itl K p) H1)\/((∃ xs,SqT K H1 p xs)/\R (Itt K p) H1)\/(onD p H1 λo kvs H2=>R (Itd p o kvs) H2) \/ ∃ kvs,H1 p=some (.dT kvs) /\ ∀ o,R (aq4 p o kvs) (upd H1 p (.frz o (.dT kvs)))
 |_=>False) E
noncomputable def F3 (t:DA):DI:=λU H R E=>t U H (λvs H1=>match vs with
 |[.int j]=>(-(2 ^ 62)<=j/\j<2 ^ 62)/\R (Itr 0 j.toNat) H1
 |[.int i,.int j]=>(-(2 ^ 62)<=i/\i<2 ^ 62 /\ -(2 ^ 62)<=j/\j<2 ^ 62)/\R (Itr i (j - i).toNat) H1
 |_=>False) E
noncomputable def iEn (K:ac) (t:DA):DI:=λU H R E=>t U H (λvs H1=>match vs with
 |[.ref a]=>((∃ xs,SqL K H1 a xs)/\R (Ite K a) H1)\/onD a H1 λo kvs H2=>R (Zz a o kvs) H2
 |_=>False) E
section
variable {X:Cx} {tg e a b:Expr} {da:DE} {r:DA} {p pos:Pos}
theorem a15:QI X tg e iNo:=λ_ _ _ _ _ _ _ _ h=>h.elim
theorem ai4 (ha:QE X e da):QI X tg e (Bi X.K da):=by
 intro Ex mt pins s U H R I h
 refine thn (ha Ex mt pins s U H _ I h) λv s1 ⟨x,H1,I1,r1,q1⟩=>?_
 cases x with
 |str z=>
  obtain⟨t,rfl⟩:=r1
  refine wpAny_pyIter_strU ?_
  refine⟨s1.heap.objs.size,[s1.heap.objs.size],_,_,H1,rfl,I1.kept (t':=s1.toks) λb o e=>aj _ e,an5 s1.heap.objs.size z t (strIterType z) (by unfold strIterType;split <;> simp),⟨_,aB _ rfl,rfl,rfl⟩,λb hb=>?_,q1⟩
  have e:b=s1.heap.objs.size:=by simpa using hb
  subst e
  exact I1.fpOk (ah _) (I1.hok.fresh (ah _))
 |ref a=>
  cases r1
  rcases q1 with ⟨⟨xs,hq⟩,q⟩|⟨⟨xs,hq⟩,q⟩|q|⟨kvs,hq,q⟩
  .obtain⟨its,rv,p,hz⟩:=I1.list hq
   refine iY p.isList ?_
   refine⟨s1.heap.objs.size,[s1.heap.objs.size],_,_,H1,rfl,I1.kept (t':=s1.toks) λb o e=>aj _ e,Yz a _,⟨_,aB _ rfl,rfl,rfl⟩,λb hb=>?_,q⟩
   have e:b=s1.heap.objs.size:=by simpa using hb
   subst e
   exact I1.fpOk (ah _) (I1.hok.fresh (ah _))
  .obtain⟨its,rv,p,hz⟩:=I1.tuple hq
   refine wpAny_pyIter_tuple (show s1.heap.IsTuple a its.toArray from p) ?_
   refine⟨s1.heap.objs.size,[s1.heap.objs.size],_,_,H1,rfl,I1.kept (t':=s1.toks) λb o e=>aj _ e,Vh a _,⟨_,aB _ rfl,rfl,rfl⟩,λb hb=>?_,q⟩
   have e:b=s1.heap.objs.size:=by simpa using hb
   subst e
   exact I1.fpOk (ah _) (I1.hok.fresh (ah _))
  .obtain⟨o,kvs,H2,I2,e,q⟩:=af7 I1 q
   exact ar9 I2 e q
  .exact bk2 I1 hq q
 |_=>exact (show False from q1).elim
variable {es:List Expr}
theorem ai3 (hg:Gl X "range") (hm:X.mg "range" = none) (ha:QA X (a::es) r) (hs:(a::es).all Ba=true):QI X tg (.Call (.Name "range" p) (a::es) [] pos) (F3 r):=by
 intro Ex mt pins s U H R I h
 have h2:=bW▸hs
 rw[aU] at h2
 refine Call_ (C9 I hg hm boot_range (bL (thn (ha Ex mt pos pins s U H _ I h) λus s1 ⟨vs,H1,I1,r1,q1⟩=>?_) (A0 h2.1 es X.env) (Bw h2.2 X.env pos)))
 dsimp only at q1
 split at q1
 .obtain⟨⟨h1,h2⟩,q⟩:=q1
  obtain⟨u,rfl,t,rfl⟩:=D9 r1
  exact call_range_1 (Rn I1 (by first|exact ah _|exact aZ _ _|omega|(dsimp only;omega)) (by omega) (by omega) h1 h2 (by simpa using q))
 .obtain⟨⟨h1,h2,h3,h4⟩,q⟩:=q1
  obtain⟨u,v,rfl,⟨t,rfl⟩,⟨t',rfl⟩⟩:=bw6 r1
  exact call_range_2 (Rn I1 (by first|exact ah _|exact aZ _ _|omega|(dsimp only;omega)) h1 h2 h3 h4 q)
 .exact q1.elim
theorem aw8 {elts:List Expr} {kt:Nat} {pt:Pos} (hg:Gl X "enumerate") (hm:X.mg "enumerate" = none) (ha:QA X (a::es) r) (hs:(a::es).all Ba=true):QI X (.Tuple elts kt pt) (.Call (.Name "enumerate" p) (a::es) [] pos) (iEn X.K r):=by
 intro Ex mt pins s U H R I h
 have hh:=bW▸hs
 rw[aU] at hh
 refine Call_ (C9 I hg hm boot_enumerate (bL (thn (ha Ex mt pos pins s U H _ I h) λus s1 ⟨vs,H1,I1,r1,q1⟩=>?_) (A0 hh.1 es X.env) (Bw hh.2 X.env pos)))
 dsimp only at q1
 split at q1
 .rename_i l
  obtain⟨u,rfl,ru⟩:=D9 r1
  cases ru
  rcases q1 with ⟨⟨xs,q1⟩,q⟩|q
  case inr=>
   obtain⟨o,kvs,H2,I2,e,q⟩:=af7 I1 q
   exact ab6 I2 e q
  obtain⟨its1,t1,p1,z1⟩:=I1.list q1
  refine call_enumerate_list p1.isList λh' he hit hsz hk=>?_
  refine gO he ?_
  refine⟨_,_,_,_,H1,rfl,I1.kept (t':=s1.toks) hk,Yy (Nat.succ_ne_self _),⟨⟨_,he⟩,hit⟩,λb hb=>?_,q⟩
  have hb:b=s1.heap.objs.size+1\/b=s1.heap.objs.size:=by simpa using hb
  have le:s1.heap.objs.size<=b:=by
   rcases hb with e|e
   .rw[e];exact aZ _ 1
   .rw[e];exact ah _
  exact I1.fpOk le (I1.hok.fresh le)
 .exact q1.elim
noncomputable def gNo:DG:=λ_ _ _ _=>False
noncomputable def gdS:List DG->List V->St->Hp->(St->Hp->Prop)->Prop
 |[],[],U,H,Q=>Q U H
 |g::gs,v::vs,U,H,Q=>g v U H λU' H'=>gdS gs vs U' H' Q
 |_,_,_,_,_=>False
noncomputable def gdT (K:ac) (n:Nat) (gs:List DG):DG:=λv U H Q=>match v with
 |.ref a=>∃ xs,(SqT K H a xs\/SqL K H a xs)/\xs.length=n/\gdS gs xs U H Q
 |_=>False
theorem Rh:PG X tg gNo:=λ_ _ _ _ _ _ _ _ _ h=>h.elim
theorem bq0:PGs X [] (gdS []):=by
 intro pins s U H vs us Q I r h
 cases vs with
 |nil=>exact av1 pins s U H [] us Q I r ⟨rfl,h⟩
 |cons v vs=>exact (show False from h).elim
theorem bp9 {g:DG} {gs:List DG} {ts:List Expr} (h1:PG X tg g) (h2:PGs X ts (gdS gs)) (hs:(dq (tg::ts) X.env).map (·.2)=lx tg X.env::(dq ts X.env).map (·.2)):PGs X (tg::ts) (gdS (g::gs)):=by
 intro pins s U H vs us Q I r h
 cases vs with
 |nil=>exact (show False from h).elim
 |cons v vs=>exact ag6 h1 h2 hs pins s U H (v::vs) us Q I r ⟨v,vs,rfl,h⟩
theorem by0 {ts:List Expr} {k n:Nat} {gs:List DG} (hc:X.calm=true) (h:PGs X ts (gdS gs)) (hn:(dq ts X.env).length=n) (hst:(dq ts X.env).findIdx? (·.1)=none):PG X (.Tuple ts k pos) (gdT X.K n gs):=by
 intro pins s U H v u Q I r hw
 cases v with
 |ref a=>
  obtain⟨xs,h1|h1,h2,h3⟩:=hw
  .exact be1 hc h hn hst pins s U H _ u Q I r ⟨a,xs,rfl,h1,h2,h3⟩
  cases r
  obtain⟨its,rv,pl,_⟩:=I.list h1
  rw[assign_Tuple]
  refine af (gp ?_)
  unfold unpack
  rw[hst,show (dq ts X.env).length=its.toArray.size by rw[hn,<- h2,rv.length];rfl]
  refine af (cb (PySem.W.kun_itemsOf (I.ok.hd hc) pl.isList λh' hx=>?_))
  have I1:Inv X pins U H { s with heap:=h' }:=I.kept (t':=s.toks) λb o e=>hx b o (aJ (aD e)) e
  exact h pins _ U H xs _ Q I1 (by simpa using rv) h3
 |_=>exact (show False from hw).elim
end
noncomputable def Se (K:ac) (a:Addr) (n:Nat):It:=
 ⟨λi H=>i<n /\ ∃ xs,SqL K H a xs/\xs.length=n,λi H x H'=>H'=H /\ ∀ xs,SqL K H a xs->xs[n - 1 - i]? = some x,λi _=>n<=i⟩
theorem an4 {P:aX} {w:bB} {K:ac} {tg:Expr} (a it:Addr) (n:Nat):Lq P w K tg (Se K a n) [it] it (λi h=>i<=n/\h.IsRevIter it a ((n:Int) - 1 - (i:Int))) where
 mem:=by simp
 obj:=λi h st b hb=>by
  have e:b=it:=by simpa using hb
  subst e
  obtain⟨_,o,e,c,d⟩:=st
  exact⟨o,e,λv z=>by rw[d] at z;cases z⟩
 keep:=λi h h' st k=>⟨st.1,by
  obtain⟨_,o,e,c,d⟩:=st
  exact⟨o,k it (by simp) o e,c,d⟩⟩
 item:=by
  intro X hP hw hK hc i pins s U H E I hf st hg
  subst hP hw hK
  obtain⟨hi,xs,hq,hl⟩:=hg
  obtain⟨its,rv,p,hz⟩:=I.list hq
  have hx:xs[n - 1 - i]? = some (xs[n - 1 - i]'(by omega)):=ag _
  obtain⟨u,hu,ru⟩:=rv.get hx
  obtain⟨f0,f1,f2,f3,f4,f5⟩:=hf it (by simp)
  have e0:(n:Int) - 1 - (i:Int)=((n - 1 - i:Nat):Int):=by omega
  have st2:=st.2
  rw[e0] at st2
  refine wpAny_pyNext_rev_item st2 p.isList (x:=u) (by simpa using hu) λh' st' sb=>?_
  have I1:Inv X pins U H { s with heap:=h' }:=I.turned (t':=s.toks) (λb o hb e=>(sb.2 b hb).trans e) f0 f1 f3 f4 f5
  obtain⟨o,e,c,d⟩:=id st'
  refine⟨u,rfl,Ke (s:={ s with heap:=h' }) e c d (by decide) ⟨_,H,I1,ru,⟨rfl,λys hy=>by rw[I.list_inj hy hq];exact hx⟩,⟨hi,?_⟩,λb hb=>(hf b hb).1⟩⟩
  rw[show (n:Int) - 1 - ((i+1:Nat):Int)=((n - 1 - i:Nat):Int) - 1 by omega]
  exact st'
 done:=by
  intro X hP hw hK hc i pins s U H E I hf st hg
  subst hP hw hK
  obtain⟨f0,f1,f2,f3,f4,f5⟩:=hf it (by simp)
  have hg:n<=i:=hg
  have st2:=st.2
  rw[show (n:Int) - 1 - (i:Int) = -1 by have:=st.1;omega] at st2
  exact wpAny_pyNext_rev_end (I.ok.hd hc) st2 λh' eb=>⟨rfl,I.turned (t':=s.toks) (λb o hb e=>eb b o hb e) f0 f1 f3 f4 f5⟩
 self:=λ_ _ _ _ _ st h=>jX st.2 h
noncomputable def a54 (K:ac) (a:DE):DI:=λU H R E=>a U H (λx H1=>match x with
 |.ref p=>∃ xs,SqL K H1 p xs/\R (Se K p xs.length) H1
 |_=>False) E
theorem Z9:cV "reversed" = some (.type "reversed"):=by decide +kernel
theorem bg3 {X:Cx} {tg a:Expr} {da:DE} {p pos:Pos} (hg:Gl X "reversed") (hm:X.mg "reversed" = none) (ha:QE X a da) (hs:Ba a=true):QI X tg (.Call (.Name "reversed" p) [a] [] pos) (a54 X.K da):=by
 intro Ex mt pins s U H R I h
 have hA:QA X [a] (Ac da Af):=Pa ha T9 hs
 refine Call_ (C9 I hg hm Z9 (bL (thn (hA Ex mt pos pins s U H (λvs H1=>∃ x,vs=[x]/\(match x with | .ref p=>∃ xs,SqL X.K H1 p xs/\R (Se X.K p xs.length) H1|_=>False)) I ?_) λus s1 ⟨vs,H1,I1,r1,q1⟩=>?_) (A0 hs [] X.env) rfl))
 .have h2:da U H (λx H1=>∃ y,[x]=[y]/\(match y with | .ref p=>∃ xs,SqL X.K H1 p xs/\R (Se X.K p xs.length) H1|_=>False)) (Ex U):=by
   have e:(λ(x:V) (H1:Hp)=>∃ y,[x]=[y]/\(match y with | .ref p=>∃ xs,SqL X.K H1 p xs/\R (Se X.K p xs.length) H1|_=>False))=λx H1=>(match x with | .ref p=>∃ xs,SqL X.K H1 p xs/\R (Se X.K p xs.length) H1|_=>False):=by
    funext x H1
    apply propext
    constructor
    .rintro⟨y,e,h⟩
     cases e
     exact h
    .exact λh=>⟨x,rfl,h⟩
   rw[e]
   exact h
  exact h2
 .obtain⟨x,rfl,q⟩:=q1
  obtain⟨u,rfl,ru⟩:=D9 r1
  cases x with
  |ref l=>
   cases ru
   obtain⟨xs,hq,q⟩:=q
   obtain⟨its,rv,pl,hz⟩:=I1.list hq
   refine call_reversed_list pl.isList ?_
   have e:((its.toArray.size:Nat):Int) - 1=(xs.length:Int) - 1 - ((0:Nat):Int):=by rw[ax,rv.length];omega
   rw[e]
   have st:(s1.heap.push (revObj l ((xs.length:Int) - 1 - ((0:Nat):Int)))).IsRevIter s1.heap.objs.size l ((xs.length:Int) - 1 - ((0:Nat):Int)):=⟨_,aB _ rfl,rfl,rfl⟩
   refine jX st ?_
   refine⟨s1.heap.objs.size,[s1.heap.objs.size],_,_,H1,rfl,I1.kept (t':=s1.toks) λb o e=>aj _ e,an4 l s1.heap.objs.size xs.length,⟨bb _,st⟩,λb hb=>?_,q⟩
   have e:b=s1.heap.objs.size:=by simpa using hb
   subst e
   exact I1.fpOk (ah _) (I1.hok.fresh (ah _))
  |_=>exact (show False from q).elim
noncomputable def Cn (cs:List (Str×Addr)):List (Str×cC)->List (Str×Addr)->List (Str×Addr)
 |[],acc=>acc
 |(n,k)::r,acc=>if k==.free then Cn cs r ((n,(cs.lookup n).getD 0)::acc) else Cn cs r acc
theorem Ls {scope:Scope} {env:Env} (h:∀ y∈scope.names,y.2=.free -> ∃ c,env.cells.lookup y.1=some c):jP scope env=pure (Cn env.cells scope.names []):=by
 unfold jP
 generalize scope.names=names at h
 suffices ∀ acc,(forIn names acc λ(x:Str×cC) cs=>do
   if (x.2==.free)=true then do
    let c <- cellOf env x.1
    pure (fh ((x.1,c)::cs))
   else pure (fh cs):Sem (List (Str×Addr)))=pure (Cn env.cells names acc) by
  have:=this []
  simp only[bind_pure]
  exact this
 induction names with
 |nil=>intro acc;rfl
 |cons y r ih=>
  intro acc
  obtain⟨n,k⟩:=y
  rw[List.forIn_cons]
  unfold Cn
  by_cases e:(k==eJ)=true
  .obtain⟨c,hc⟩:=h (n,k) (by simp) (cQ e)
   have ec:cellOf env n=pure c:=by
    unfold cellOf
    rw[show env.cells.lookup n=some c from hc]
   simp only[e,if_true,ec,pure_bind]
   rw[ih (λy hy=>h y (az _ hy))]
   rw[show env.cells.lookup n=some c from hc]
   rfl
  .have e':(k==eJ)=false:=by simpa using e
   simp only[e',bq,if_false,pure_bind]
   rw[ih (λy hy=>h y (az _ hy))]
theorem Hn {cs:List (Str×Addr)}:∀ {names:List (Str×cC)} {acc:List (Str×Addr)} {p:Str×Addr},p∈Cn cs names acc->p∈acc\/((p.1,eJ)∈names/\p.2=(cs.lookup p.1).getD 0)
 |[],_,_,h=>.inl h
 | (n,k)::r,acc,p,h=>by
  unfold Cn at h
  by_cases e:(k==eJ)=true
  .rw[if_pos e] at h
   rcases Hn h with h|⟨h1,h2⟩
   .rcases List.mem_cons.mp h with h|h
    .subst h
     exact .inr ⟨by rw[cQ e];simp,rfl⟩
    .exact .inl h
   .exact .inr ⟨az _ h1,h2⟩
  .rw[if_neg e] at h
   rcases Hn h with h|⟨h1,h2⟩
   .exact .inl h
   .exact .inr ⟨az _ h1,h2⟩
theorem Hm {cs:List (Str×Addr)}:∀ {names:List (Str×cC)} {acc:List (Str×Addr)} {p:Str×Addr},p∈acc->p∈Cn cs names acc
 |[],_,_,h=>h
 | (n,k)::r,acc,p,h=>by
  unfold Cn
  split
  .exact Hm (az _ h)
  .exact Hm h
theorem Mz {cs:List (Str×Addr)}:∀ {names:List (Str×cC)} {acc:List (Str×Addr)} {n:Str},(n,eJ)∈names->n∈(Cn cs names acc).map (·.1)
 |[],_,_,h=>by cases h
 | (m,k)::r,acc,n,h=>by
  unfold Cn
  rcases List.mem_cons.mp h with e|h
  .cases e
   rw[if_pos (show (eJ==eJ)=true from rfl)]
   exact List.mem_map.mpr ⟨_,Hm (aN),rfl⟩
  .split <;> exact Mz h
noncomputable def Ro (sc:List (Str×cC)) (names:List (Str×cC)):List (Str×cC):=names.map λ(n,k)=>if (k==.free&&sc.lookup n==some .cell) then (n,.cell) else (n,k)
noncomputable def Qy (names:List (Str×cC)):List Str:=(names.filter λy=>(y.2==.local) && !(y.1==(".0" : Str))).map (·.1)
noncomputable def Ta (names:List (Str×cC)):List Str:=(names.filter λy=>y.2==.free).map (·.1)
noncomputable def cfV (o:Option cC):Bool:=o==some .cell||o==some .free
noncomputable def Co (G:Sg) (names:List (Str×cC)):Sg:={ G with N:=Qy names++Ta names,sc:=Ro G.sc names,top:=false }
noncomputable def Fs (G:Sg) (names:List (Str×cC)):List (Option Nat):=(Qy names).map (λ_=>none)++(Ta names).map (λx=>Dy G.N x 0)
noncomputable def Fc (G:Sg) (sc:Scope):Bool:=
 (sc.names.all λy=>!(y.2==.cell))&&(sc.names.all λy=>!(y.2==.local)||(sc.names.lookup y.1==some .local))&&(sc.kind==.function) &&
 decide (Qy sc.names++Ta sc.names).Nodup&&((Ta sc.names).all λx=>(Dy G.N x 0).isSome&&cfV (G.sc.lookup x)&&cfV ((Ro G.sc sc.names).lookup x)) &&
 ((Qy sc.names).all λx=>(Ro G.sc sc.names).lookup x==some .local)
section
variable {X:Cx} {G:Sg} {sc:Scope}
theorem Gk {o:Option cC} (h:cfV o=true):o=some .cell\/o=some .free:=by
 unfold cfV at h
 rw[df] at h
 exact h.elim (λe=>.inl (cQ e)) λe=>.inr (cQ e)
theorem Gc (O:GOk X G):(iC sc X.env).names=Ro G.sc sc.names:=by
 unfold iC Ro
 apply bK
 rintro⟨n,k⟩ _
 have e:X.env.kindOf n=G.sc.lookup n:=O.sc n
 dsimp only
 rw[e,O.kind]
 simp
theorem Oa (O:GOk X G) (h:Fc G sc=true):J2 X (Co G sc.names).N (Fs G sc.names) sc (Cn X.env.cells sc.names []):=by
 unfold Fc at h
 simp only[aU,ba,iH,decide_eq_true_eq,df] at h
 obtain⟨⟨⟨⟨⟨h1,h2⟩,h3⟩,h4⟩,h5⟩,h6⟩:=h
 have fr:∀ y∈sc.names,y.2=.free -> ∃ c,X.env.cells.lookup y.1=some c:=λy hy hf=>by
  refine O.cel y.1 ?_
  rw[O.sc]
  refine Gk (h5 y.1 ?_).1.2
  exact List.mem_map.mpr ⟨y,List.mem_filter.mpr ⟨hy,by rw[hf];rfl⟩,rfl⟩
 have nc:∀ y∈sc.names,y.2≠.cell:=λy hy e=>by
  have:=h1 y hy
  rw[e] at this
  cases this
 refine⟨Ls fr,nc,cQ h3,λy hy hl=>?_,λx c hx=>?_,λx hx=>?_,?_,λk j x e1 e2=>?_⟩
 .rcases h2 y hy with z|z
  .rw[hl] at z;cases z
  .exact cQ z
 .have hm:=ca hx
  rcases Hn hm with z|⟨z1,z2⟩
  .cases z
  .obtain⟨c',hc'⟩:=fr _ z1 rfl
   have z2':c=(X.env.cells.lookup x).getD 0:=z2
   rw[show X.env.cells.lookup x=some c' from hc'] at z2' ⊢
   rw[z2']
   rfl
 .have hn:(iC sc X.env).names=Ro G.sc sc.names:=Gc O
  have key:∀ kd,(iC sc X.env).names.lookup x=some kd->cfV (some kd)=true -> ∃ c,(Cn X.env.cells sc.names []).lookup x=some c:=λkd hkd hc=>by
   rw[hn] at hkd
   have hm:=ca hkd
   unfold Ro at hm
   obtain⟨⟨n,k⟩,hy,e⟩:=List.mem_map.mp hm
   dsimp only at e
   have hfree:k=.free/\n=x:=by
    have hkc:=nc _ hy
    by_cases e1:(k==eJ&&G.sc.lookup n==some .cell)=true
    .rw[if_pos e1] at e
     rw[aU] at e1
     exact⟨cQ e1.1,congrArg Prod.fst e⟩
    .rw[if_neg e1] at e
     cases e
     rcases Gk hc with z|z
     .exact absurd (aH z) hkc
     .exact⟨aH z,rfl⟩
   obtain⟨rfl,rfl⟩:=hfree
   exact ad6 (Mz hy)
  rcases hx with hx|hx
  .exact key _ hx rfl
  .exact key _ hx rfl
 .unfold Fs Co
  simp
 .have e1':(Qy sc.names++Ta sc.names)[k]? = some x:=e1
  have e2':((Qy sc.names).map (λ_=>(none:Option Nat))++(Ta sc.names).map (λx=>Dy G.N x 0))[k]? = some (some j):=e2
  by_cases hlt:k<(Qy sc.names).length
  .rw[bG (by simpa using hlt),ak] at e2'
   cases q:(Qy sc.names)[k]? with
   |none=>rw[q] at e2';cases e2'
   |some z=>rw[q] at e2';cases e2'
  .rw[be (by simpa using hlt)] at e1' 
   rw[be (by simpa using hlt),ae,ak,e1'] at e2'
   have hs:Dy G.N x 0=some j:=aH e2'
   have hx:x∈Ta sc.names:=al e1'
   obtain⟨⟨_,c1⟩,c2⟩:=h5 x hx
   refine⟨by rw[O.N];exact Fk hs,?_,?_⟩
   .rw[O.sc];exact Gk c1
   .rw[Gc O];exact Gk c2
theorem V7 (O:GOk X G) (h:Fc G sc=true) (fp:List Addr) (C:Addr) (s:am) (H:Hp) (xe:ai->am->Prop) :
  GOk (X.comp (Co G sc.names).N sc (Cn X.env.cells sc.names []) fp C s H xe) (Co G sc.names):=by
 have S:=Oa O h
 unfold Fc at h
 simp only[aU,ba,iH,decide_eq_true_eq,df] at h
 obtain⟨⟨⟨⟨⟨h1,h2⟩,h3⟩,h4⟩,h5⟩,h6⟩:=h
 have hn:(iC sc X.env).names=Ro G.sc sc.names:=Gc O
 refine⟨O.K,cQ h3,(λz=>by cases z),rfl,h4,λx=>?_,λx hx=>?_,λz=>(by cases z),O.calm,O.hd,O.units,λx hx=>S.has x hx,λx g e=>?_,O.bl,λz=>(by cases z),O.fr⟩
 .show (iC sc X.env).names.lookup x=_
  rw[hn]
  rfl
 .show Vis (iC sc X.env) x
  unfold Vis
  rw[hn]
  rcases List.mem_append.mp hx with q|q
  .exact .inl (cQ (h6 x q))
  .exact .inr (Gk (h5 x q).2)
 .refine GBOk.to (X:=X) ?_ ?_ ?_ ?_ ?_ ?_ (O.gb x g e)
  .rfl
  .rfl
  .rfl
  .rfl
  .exact λ_ r=>r
  .exact λi F=>⟨F.kp,F.ok,F.room,F.binds,F.vals⟩
end
noncomputable def J7:St->Hp->(Option Int->Hp->Prop)->EK->Prop:=λ_ H Q _=>Q none H
noncomputable def Qp (a:DE):St->Hp->(Option Int->Hp->Prop)->EK->Prop:=λU H Q E=>a U H (λx H1=>match x with
 |.int i=>Q (some i) H1
 |_=>False) E
noncomputable abbrev DO:=St->Hp->(Option Int->Hp->Prop)->EK->Prop
noncomputable def by6 (K:ac):V->Option Int->Option Int->Hp->VK->Prop:=λx lo hi H Q=>match x with
 |.str z=>z.length<=sizeLine/\Q (.str (Txt.slice z lo hi)) H
 |_=>False
noncomputable def dSl (K:ac) (a:DE) (l h:DO):DE:=λU H Q E=>a U H (λx H1=>l U H1 (λlo H2=>h U H2 (λhi H3=>by6 K x lo hi H3 Q) E) E) E
noncomputable def QO (X:Cx) (e:Option Expr) (t:DO):Prop:=∀ Ex,Meets X Ex->PO X e (λU H Q=>t U H Q (Ex U))
section
variable {X:Cx} {G:Sg} {e:Expr} {de:DE} {lo hi:Option Expr} {dl dh:DO} {pos p2:Pos}
theorem Wo:QO X none J7:=λ_ _=>av2
theorem Wp (h:QE X e de):QO X (some e) (Qp de):=by
 intro Ex m pins s U H Q I hw
 rw[evalPart_some]
 refine thn (h Ex m pins s U H _ I hw) λu s1 ⟨x,H1,I1,r1,q1⟩=>?_
 cases x with
 |int i=>obtain⟨t,rfl⟩:=r1;exact⟨some i,H1,I1,.int i t,q1⟩
 |_=>exact (show False from q1).elim
theorem Ox (e:Expr) (z:Str) (t:Tok) (r:ai):letTemporaryGo e (.str z t) r=pure ():=by
 cases e <;> rfl
theorem ai2 (he:QE X e de) (hl:QO X lo dl) (hh:QO X hi dh):QE X (.Subscript e (.Slice lo hi none p2) pos) (dSl X.K de dl dh):=by
 intro Ex m pins s U H Q I h
 refine Subscript_ (thn (he Ex m pins s U H _ I h) λv s1 ⟨x,H1,I1,r1,q1⟩=>?_)
 refine wpAny_Slice (thn (hl Ex m pins s1 U H1 _ I1 q1) λvl s2 ⟨l,H2,I2,pl,q2⟩=>thn (hh Ex m pins s2 U H2 _ I2 q2) λvu s3 ⟨u,H3,I3,pu,q3⟩=>?_)
 rw[evalPart_none]
 refine ao ?_
 show aQ (model X.prog X.w) X.A (subscriptTail e (.Slice lo hi none p2) v (.ref s3.heap.objs.size)) (EP X pins U Q) X.xe { s3 with heap:=s3.heap.push { cls:=.type "slice", data:=.fields #[vl,vu,.none] } }
 have I4:Inv X pins U H3 { s3 with heap:=s3.heap.push { cls:=.type "slice", data:=.fields #[vl,vu,.none] } }:=I3.kept (t':=s3.toks) λb ob q=>aj _ q
 cases x with
 |str z=>
  obtain⟨hz,q⟩:=q3
  obtain⟨t,rfl⟩:=r1
  have hk:KeptH (λh=>Inv X pins U H3 { s3 with heap:=h }):=λh ob J=>J.kept (t':=s3.toks) λb o eb=>aj _ eb
  have fin:∀ h' t' k,Inv X pins U H3 { s3 with heap:=h' }->(λ(a:ai) (s':am)=>s3.toks<=s'.toks->EP X pins U Q a s') (.str (Txt.slice z l u) t') { s3 with heap:=h',toks:=k }:=λh' t' k J htk=>⟨.str _,H3,J.tok k htk,⟨_,rfl⟩,q⟩
  refine bE (n:=s3.toks) (ah _) ?_
  cases pl with
  |none=>
   cases pu with
   |none=>exact iD (SBH.sliceItem_nn hk I3 fin hz) (by with_unfolding_all rfl) (Ox e z t)
   |int j uj=>exact iD (SBH.sliceItem_ns hk I3 fin hz) (by with_unfolding_all rfl) (Ox e z t)
  |int i ui=>
   cases pu with
   |none=>exact iD (SBH.sliceItem_sn hk I3 fin hz) (by with_unfolding_all rfl) (Ox e z t)
   |int j uj=>exact iD (SBH.sliceItem_ss hk I3 fin hz) (by with_unfolding_all rfl) (Ox e z t)
 |_=>exact (show False from q3).elim
noncomputable def Kr:Expr->Bool
 |.Set _ _ _=>false
 |_=>true
theorem Ks {e:Expr} (h:Kr e=true) (env:Env) (x:ai):fK e env x=pure x:=by
 cases e with
 |Set _ _ _=>cases h
 |_=>rfl
theorem Ko:Meets X (λ_ _ _=>False):=λ_ _ _ h=>h
variable {tg iter elt:Expr} {ifs:List Expr} {sc:Scope} {wi:DI} {g:DG} {tc:DT}
noncomputable def Ty (G:Sg) (x:Str):Bool:=(G.sc.lookup x==some .local)||(G.top&&(G.sc.lookup x==some .cell))
noncomputable def wG:Nat->Sg->Expr->DG
 |0,_,_=>gNo
 | n+1,G,e=>match e with
  | .Name x _=>match Dy G.N x 0 with
   |some i=>if Ty G x=true then gdN i else gNo
   |none=>gNo
  |.Tuple ts _ _=>if G.calm=true/\ts.all Ba=true then gdT G.K ts.length (ts.map (wG n G)) else gNo
  |_=>gNo
theorem Oz (O:GOk X G) {x:Str} (h:Ty G x=true):Loc X.env.scope x/\(X.fn x=true\/X.env.scope.names.lookup x=some .local):=by
 unfold Ty at h
 rw[df,aU] at h
 rcases h with h|⟨h1,h2⟩
 .have:X.env.scope.names.lookup x=some .local:=by rw[O.sc];exact cQ h
  exact⟨.inl this,.inr this⟩
 .have:X.env.scope.names.lookup x=some .cell:=by rw[O.sc];exact cQ h2
  exact⟨.inr this,.inl (O.top h1 x)⟩
theorem E5 {e:Expr} (h:Ba e=true) (es:List Expr) (env:Env):dq (e::es) env=(false,lx e env)::dq es env:=by
 cases e with
 |Starred _ _=>cases h
 |_=>rfl
theorem J4 {es:List Expr} (h:es.all Ba=true) (env:Env):(dq es env).length=es.length/\(dq es env).findIdx? (·.1)=none:=by
 induction es with
 |nil=>exact⟨rfl,rfl⟩
 |cons e es ih=>
  rw[bW,aU] at h
  obtain⟨h1,h2⟩:=ih h.2
  rw[E5 h.1]
  refine⟨by rw[aO,aO,h1],?_⟩
  rw[List.findIdx?_cons,h2]
  rfl
theorem Sc:∀ (n:Nat) (X:Cx) (G:Sg),GOk X G -> ∀ e,PG X e (wG n G e)
 |0,_,_,_,_=>Rh
 | n+1,X,G,O,e=>by
  cases e with
  |Name x p=>
   unfold wG
   dsimp only
   split
   .rename_i i e
    split
    .rename_i h
     obtain⟨h1,h2⟩:=Oz O h
     exact av0 (by rw[O.N];exact O.nd) (by rw[O.N];exact Fk e) h1 h2
    .exact Rh
   .exact Rh
  |Tuple ts k p=>
   unfold wG
   dsimp only
   split
   .rename_i h
    obtain⟨h1,h2⟩:=h
    obtain⟨h3,h4⟩:=J4 h2 X.env
    rw[<- O.K]
    refine by0 (O.calm▸h1) ?_ h3 h4
    clear h3 h4
    induction ts with
    |nil=>exact bq0
    |cons t ts ih=>
     rw[bW,aU] at h2
     refine bp9 (Sc n X G O t) (ih h2.2) ?_
     rw[E5 h2.1]
     rfl
   .exact Rh
  |_=>exact Rh
end
section
variable {X:Cx} {G:Sg} {elt tg iter:Expr} {ifs:List Expr} {sc:Scope} {wi:DI} {g:DG} {tc:DT} {de:DE} {pos:Pos}
theorem Kn {Ex:St->EK} (m:Meets X Ex) (fr:FrH X) {pins:List (Addr×Obj)} {U:St} {H2:Hp} {s2:am} {N':List Str} {cl:List (Str×Addr)} {fp:List Addr} {C D:Addr} {us:Option (ai->Sem Unit)} {Q2:ai->am->Prop} (I2:Inv X pins U H2 s2) (f2:∀ b∈fp,Dn X pins H2 b)
  (hC:s2.heap.objs.size<=C):Meets (X.comp N' sc cl fp C s2 H2 (Bs X sc cl us Q2 D C)) (λ_ a H'=>Ex U a H'):=λ_ a H h=>m U a H h
noncomputable def aq6 (X:Cx) (ifs:List Expr) (t:DT):Prop:=∀ Ex,Meets X Ex->Xd X ifs (λU H Q=>t U H Q (Ex U))
theorem Rj:aq6 X [] Cc:=λ_ _=>ag8
theorem Rk {c:Expr} {t:DT} (h:QT X c t):aq6 X [c] t:=λEx m=>ag9 (h Ex m)
theorem Wl (O:GOk X G) (hc:X.calm=true) (hk:Fc G sc=true) (hs:Kr iter=true) (hi:QI X tg iter wi) (hg:∀ X',GOk X' (Co G sc.names)->PG X' tg g) (ht:∀ X',GOk X' (Co G sc.names)->aq6 X' ifs tc) (he:∀ X',GOk X' (Co G sc.names)->QE X' elt de) :
  QE X (.ListComp elt [⟨tg,iter,ifs,0⟩] sc pos) (A3 (Fs G sc.names) wi g tc de):=by
 intro Ex m pins s U H Q I h
 exact aa8 hc (Oa O hk) (hi Ex m) (λQ2 fp C D s2 H2 I2 f2 hC=>
  have M:=Kn (N':=(Co G sc.names).N) (cl:=Cn X.env.cells sc.names []) (us:=none) (Q2:=Q2) (D:=D) m O.fr I2 f2 hC
  have K:=V7 O hk fp C s2 H2 (Bs X sc (Cn X.env.cells sc.names []) none Q2 D C)
  ⟨hg _ K,ht _ K _ M,he _ K _ M⟩) I h (λx=>Ks hs X.env x)
end
noncomputable def V6 (K:ac) (op:BoolOp):List DE->DE
 |[]=>dNo
 |[a]=>a
 | a::r=>match op with
  |.And=>M2 K a (V6 K op r)
  |.Or=>bk0 K a (V6 K op r)
noncomputable def V5 (op:BoolOp):List DT->DT
 |[]=>λ_ _ _ _=>False
 |[a]=>a
 | a::r=>match op with
  |.And=>J6 a (V5 op r)
  |.Or=>dOr a (V5 op r)
noncomputable def E4:List DE->DA
 |[]=>Af
 |a::r=>Ac a (E4 r)
noncomputable def tNo:DT:=λ_ _ _ _=>False
noncomputable def Y1 (G:Sg) (ops:List lS) (bs:List Expr) (a:DE) (ds:List DE):DE:=match ops,bs,ds with
 |[op],[b],[d]=>if jc op b=false then Ah (L0 G.K op) a d else dNo
 |[op,op'],[b,c],[d,d']=>if lastMarks [op,op'] [b,c]=false then Eb (L0 G.K op) (L0 G.K op') a d d' else dNo
 |_,_,_=>dNo
noncomputable def an8 (G:Sg) (x:Str) (es:List Expr) (ds:List DE):DE:=
 if Lw G x=true/\(Dy G.N x 0)=none/\es.all Ba=true then (match G.gb.lookup x with
  |some (.fn i)=>if es.length<=i.ps.length/\i.ps.length<=es.length+i.dfs.length then dFn (spE i.sp (i.dfs.drop (es.length+i.dfs.length - i.ps.length))) (E4 ds) else dNo
  | some (.cls C oi)=>(match oi with
   |none=>if es.isEmpty=true then dFn (mkC C none 0) (E4 ds) else dNo
   |some i=>if es.length+1<=i.ps.length/\i.ps.length<=es.length+1+i.dfs.length then dFn (mkC C (some i) (es.length+1+i.dfs.length - i.ps.length)) (E4 ds) else dNo)
  |some _=>dNo
  | none=>if G.bl.contains x=true then (match a43 G.K G.calm x with
   |some (_,r)=>if es.isEmpty=true then dNo else dFn (λvs H Q _=>r vs H Q) (E4 ds)
   |none=>dNo) else dNo) else dNo
noncomputable def ao0 (G:Sg) (o:Expr) (m:Str) (es:List Expr) (ap cp:Pos) (d:DE) (ds:List DE):DE:=
 if C0 o=true/\es.all Ba=true/\es.length<30/\(ap.endLine==cp.line)=true then (match Dh G.gb m with
  |none=>dMt (rMt G.K (mtR G.K m)) d (E4 ds)
  |some l=>Bz m es.length l d (E4 ds)) else dNo
noncomputable def V8 (d:DE):DE:=λU H Q E=>d U H (λv H'=>Thaw H H' (Q v)) E
theorem Wn {X:Cx} {e:Expr} {d:DE} (h:QE X e d):QE X e (V8 d):=λEx mt pins s U H Q I q=>
 thn (h Ex mt pins s U H _ I q) λv s1 ⟨x,H1,I1,r1,q1⟩=>
  let ⟨H2,I2,q2⟩:=Thaw.inv I I1 q1
  ⟨x,H2,I2,r1,q2⟩
inductive Fz where
 |lenSet (a:Expr)|listItems (o:Expr)|rngList (a:Expr)
noncomputable def fzD (K:ac) (w:Expr->DE):Fz->DE
 |.lenSet a=>dUn (G4 K) (w a)
 |.listItems o=>dUn (Ez K) (w o)
 |.rngList a=>dUn Kz (w a)
noncomputable def Tf (G:Sg) (x:Str):Bool:=Lw G x&&(G.gb.lookup x).isNone&&G.bl.contains x
noncomputable def Tb (G:Sg) (x:Str) (es:List Expr):Option Fz:=match es with
 | [.Call (.Name y _) [a] [] _]=>if x = "len" /\ y = "set" /\ Tf G x=true/\Tf G y=true/\Ba a=true/\G.calm=true then some (.lenSet a)
  else if x = "list" /\ y = "range" /\ Tf G x=true/\Tf G y=true/\Ba a=true/\G.calm=true then some (.rngList a) else none
 |[.Call (.Attribute o m ap) [] [] cp]=>if x = "list" /\ m = "items" /\ Tf G x=true/\C0 o=true/\(ap.endLine==cp.line)=true/\G.calm=true then some (.listItems o) else none
 |_=>none
mutual
noncomputable def wE:Nat->Sg->Expr->DE
 |0,_,_=>dNo
 | n+1,G,e=>match e with
  |.Constant c _ _=>an9 c
  |.Name x _=>ao1 G x
  |.BinOp a op (.ListComp x1 x2 x3 x4) _=>V8 (Ah (rOp G.K op) (wE n G a) (wE n G (.ListComp x1 x2 x3 x4)))
  |.BinOp a op b _=>Ah (rOp G.K op) (wE n G a) (wE n G b)
  |.UnaryOp .USub a _=>dUn Wt (wE n G a)
  |.UnaryOp .Not a _=>aa9 G.K (wE n G a)
  |.UnaryOp .Invert a _=>dUn Wr (wE n G a)
  |.BoolOp op es _=>V6 G.K op (es.map (wE n G))
  |.Compare a ops bs _=>Y1 G ops bs (wE n G a) (bs.map (wE n G))
  |.IfExp t a b _=>bj9 (wT n G t) (wE n G a) (wE n G b)
  |.List es _=>if es.all Ba=true then B6 (E4 (es.map (wE n G))) else dNo
  |.Tuple es _ _=>if es.all Ba=true then Et (E4 (es.map (wE n G))) else dNo
  |.Subscript a (.Slice lo hi none _) _=>dSl G.K (wE n G a) (match lo with|none=>J7|some l=>Qp (wE n G l)) (match hi with|none=>J7|some h=>Qp (wE n G h))
  |.Subscript a b _=>if Gy b=true then Ah (A8 G.K) (wE n G a) (wE n G b) else dNo
  |.Attribute o f _=>if C0 o=true then dUn (A5 G.K f) (wE n G o) else dNo
  | .Call (.Name x _) es [] _=>match Tb G x es with
   |some z=>fzD G.K (wE n G) z
   |none=>an8 G x es (es.map (wE n G))
  |.Dict ks vs _=>if ks.isEmpty=true/\vs.isEmpty=true then Do else dNo
  |.Call (.Attribute o m ap) es [] cp=>ao0 G o m es ap cp (wE n G o) (es.map (wE n G))
  | .ListComp elt [⟨tg,iter,ifs,0⟩] sc _=>if G.calm=true/\Fc G sc=true/\Kr iter=true then
    A3 (Fs G sc.names) (wI n G tg iter) (wG n (Co G sc.names) tg) (match ifs with | []=>Cc | [c]=>wT n (Co G sc.names) c|_=>tNo) (wE n (Co G sc.names) elt) else dNo
  |_=>dNo
noncomputable def wT:Nat->Sg->Expr->DT
 |0,_,_=>tNo
 | n+1,G,e=>match e with
  |.UnaryOp .Not a _=>Ed (wT n G a)
  |.BoolOp op es _=>V5 op (es.map (wT n G))
  |.Compare a ops bs _=>Bb (Y1 G ops bs (wE n G a) (bs.map (wE n G)))
  |.IfExp _ _ _ _=>tNo
  |e=>C4 G.K (wE n G e)
noncomputable def wI:Nat->Sg->Expr->Expr->DI
 |0,_,_,_=>iNo
 | n+1,G,tg,e=>match e with
  |.Call (.Name x _) (a::es) [] _=>
   if x = "range" /\ Lw G x=true/\G.gb.lookup x=none/\G.bl.contains x=true/\(a::es).all Ba=true then F3 (E4 ((a::es).map (wE n G)))
   else if x = "enumerate" /\ Lw G x=true/\G.gb.lookup x=none/\G.bl.contains x=true/\(a::es).all Ba=true then (match tg with
    |.Tuple _ _ _=>iEn G.K (E4 ((a::es).map (wE n G)))
    |_=>iNo)
   else if x = "reversed" /\ Lw G x=true/\G.gb.lookup x=none/\G.bl.contains x=true/\Ba a=true/\es.isEmpty=true then a54 G.K (wE n G a)
   else Bi G.K (wE n G e)
  |.ListComp a b c d=>Bi G.K (V8 (wE n G (.ListComp a b c d)))
  |e=>Bi G.K (wE n G e)
end
theorem a16 {X:Cx} {e:Expr}:QT X e tNo:=λ_ _ _ _ _ _ _ _ h=>h.elim
theorem C2 {X:Cx} {w:Expr->DE} (h:∀ e,QE X e (w e)):∀ {es:List Expr},es.all Ba=true->QA X es (E4 (es.map w))
 |[],_=>T9
 | e::es,hs=>by
  rw[bW,aU] at hs
  exact Pa (h e) (C2 h hs.2) hs.1
theorem Pb {X:Cx} {w:Expr->DE} {op:BoolOp} {pos:Pos} (h:∀ e,QE X e (w e)):∀ {es:List Expr},QE X (.BoolOp op es pos) (V6 X.K op (es.map w))
 |[]=>Bt
 |[e]=>bf7 (h e)
 | e::e'::es=>by
  cases op with
  |And=>exact be8 (h e) (Pb h)
  |Or=>exact bq6 (h e) (Pb h)
theorem Pe {X:Cx} {w:Expr->DT} {op:BoolOp} {pos:Pos} (h:∀ e,QT X e (w e)):∀ {es:List Expr},QW X (.BoolOp op es pos) (V5 op (es.map w))
 |[]=>λ_ _ _ _ _ _ _ _ _ h=>h.elim
 | [e]=>by
  cases op with
  |And=>exact ax4 (h e)
  |Or=>exact bh4 (h e)
 | e::e'::es=>by
  cases op with
  |And=>exact bh3 (h e) (Pe h)
  |Or=>exact bq8 (h e) (Pe h)
section
variable {X:Cx} {G:Sg}
theorem aw2 (O:GOk X G) {w:Expr->DE} (h:∀ e,QE X e (w e)) (a:Expr) (ops:List lS) (bs:List Expr) (pos:Pos):QE X (.Compare a ops bs pos) (Y1 G ops bs (w a) (bs.map w)):=by
 unfold Y1
 rw[<- O.K]
 split
 .rename_i op b d e
  have:d=w b:=by simpa using e.symm
  subst this
  split
  .exact bf0 O.units op (h a) (h b) ‹_›
  .exact Bt
 .rename_i op op' b c d d' e
  have:w b=d/\w c=d':=by simpa using e
  obtain⟨rfl,rfl⟩:=this
  split
  .exact ah9 O.units op op' (h a) (h b) (h c) ‹_›
  .exact Bt
 .exact Bt
theorem ax3 (O:GOk X G) {w:Expr->DE} (h:∀ e,QE X e (w e)) (a:Expr) (ops:List lS) (bs:List Expr) (pos:Pos):QT X (.Compare a ops bs pos) (Bb (Y1 G ops bs (w a) (bs.map w))):=by
 unfold Y1
 rw[<- O.K]
 split
 .rename_i op b d e
  have:d=w b:=by simpa using e.symm
  subst this
  split
  .exact bh0 O.units op (h a) (h b) ‹_›
  .exact λ_ _ _ _ _ _ _ _ h=>h.elim
 .rename_i op op' b c d d' e
  have:w b=d/\w c=d':=by simpa using e
  obtain⟨rfl,rfl⟩:=this
  split
  .exact ai7 O.units op op' (h a) (h b) (h c) ‹_›
  .exact λ_ _ _ _ _ _ _ _ h=>h.elim
 .exact λ_ _ _ _ _ _ _ _ h=>h.elim
theorem ah8 (O:GOk X G) {w:Expr->DE} (h:∀ e,QE X e (w e)) (x:Str) (es:List Expr) (p pos:Pos):QE X (.Call (.Name x p) es [] pos) (an8 G x es (es.map w)):=by
 unfold an8
 split
 .rename_i hh
  obtain⟨hg,_,hs⟩:=hh
  have dd:=ac5 hg
  split
  .rename_i i e
   obtain⟨hm,F⟩:=O.at_ x _ e
   split
   .rename_i hl
    cases es with
    |nil=>exact ah7 F (by have:=hl.1;omega) (O.gl hg) hm dd.1
    |cons e es=>exact aw1 F (by have:=hl.1;omega) (O.gl hg) hm (C2 h hs) hs dd.1
   .exact Bt
  .rename_i C oi e
   obtain⟨hm,kp,hi⟩:=O.at_ x _ e
   split
   .cases es with
    |nil=>exact Wm (j:=0) hi (λi z=>nomatch z) kp (O.gl hg) hm dd.1
    |cons e es=>exact Bt
   .rename_i i
    split
    .rename_i hl
     cases es with
     |nil=>exact Wm hi (λi z=>by cases z;have:=hl.1;omega) kp (O.gl hg) hm dd.1
     |cons e es=>exact bf3 hi (λi z=>by cases z;have:=hl.1;omega) kp (O.gl hg) hm (C2 h hs) hs dd.1
    .exact Bt
  .exact Bt
  .rename_i e
   split
   .rename_i hb
    split
    .rename_i f r er
     split
     .exact Bt
     .rename_i hne
      cases es with
      |nil=>exact absurd rfl hne
      |cons e es=>
       rw[<- O.K] at er
       obtain⟨b1,b2⟩:=ar3 O.units er O.calm
       exact be9 b2 (O.gl hg) (O.bl x hb) b1 (C2 h hs) hs dd.2.2 dd.1
    .exact Bt
   .exact Bt
 .exact Bt
theorem ai1 (O:GOk X G) {w:Expr->DE} (h:∀ e,QE X e (w e)) (o:Expr) (m:Str) (es:List Expr) (ap cp:Pos):QE X (.Call (.Attribute o m ap) es [] cp) (ao0 G o m es ap cp (w o) (es.map w)):=by
 unfold ao0
 rw[<- O.K]
 split
 .rename_i hh
  obtain⟨h1,h2,h3,h4⟩:=hh
  split
  .cases es with
   |nil=>exact bf4 (λb hb=>ae2 O.units hb) (h o) h1 h4
   |cons e es=>exact bq5 (λb hb=>ae2 O.units hb) (h o) (C2 h h2) h1 h2 h3 h4
  .rename_i l e
   cases es with
   |nil=>exact aw6 (O.met m l e) (h o) h1 h4
   |cons e es=>exact bf8 (O.met m l ‹_›) (h o) (C2 h h2) h1 h2 h3 h4
 .exact Bt
end
theorem Cz {X:Cx} {G:Sg} (O:GOk X G) {x:Str} (h:Tf G x=true):Gl X x/\X.mg x=none:=by
 unfold Tf at h
 rw[aU,aU] at h
 exact⟨O.gl h.1.1,O.bl _ h.2⟩
theorem aw4 {X:Cx} {G:Sg} (O:GOk X G) {w:Expr->DE} (h:∀ e,QE X e (w e)) {x:Str} {es:List Expr} {p pos:Pos} {z:Fz} (e:Tb G x es=some z) :
  QE X (.Call (.Name x p) es [] pos) (fzD G.K w z):=by
 unfold Tb at e
 split at e
 .split at e
  .rename_i hh
   obtain⟨rfl,rfl,h1,h2,h3,h4⟩:=hh
   cases e
   rw[<- O.K]
   exact Yj (O.calm▸h4) (Cz O h1).1 (Cz O h1).2 (Cz O h2).1 (Cz O h2).2 (h _) h3
  .split at e
   .rename_i hh
    obtain⟨rfl,rfl,h1,h2,h3,h4⟩:=hh
    cases e
    exact Ua (O.calm▸h4) (Cz O h1).1 (Cz O h1).2 (Cz O h2).1 (Cz O h2).2 (h _) h3
   .cases e
 .split at e
  .rename_i hh
   obtain⟨rfl,rfl,h1,h2,h3,h4⟩:=hh
   cases e
   rw[<- O.K]
   exact Pd (O.calm▸h4) (Cz O h1).1 (Cz O h1).2 (h _) h2 h3
  .cases e
 .cases e
theorem ao3:∀ (n:Nat) (X:Cx) (G:Sg),GOk X G->(∀ e,QE X e (wE n G e))/\(∀ e,QT X e (wT n G e))/\(∀ tg e,QI X tg e (wI n G tg e)):=by
 intro n
 induction n with
 |zero=>
  intro X G O
  refine⟨λe=>?_,λe=>?_,λtg e=>?_⟩
  .unfold wE;exact Bt
  .unfold wT;exact a16
  .unfold wI;exact a15
 |succ n ih=>
  intro X G O
  obtain⟨hE,hT,hI⟩:=ih X G O
  have hv:∀ tg e,QI X tg e (Bi G.K (wE n G e)):=λtg e=>by rw[<- O.K];exact ai4 (hE e)
  refine⟨λe=>?_,λe=>?_,λtg e=>?_⟩
  .unfold wE
   split
   .exact ai0 _ _ _
   .exact aw5 O _ _
   .rw[<- O.K];exact Wn (ah6 _ (hE _) (hE _))
   .rw[<- O.K];exact ah6 _ (hE _) (hE _)
   .exact bf5 (hE _)
   .rw[<- O.K];exact bf6 (hE _)
   .exact bf1 (hE _)
   .rw[<- O.K];exact Pb hE
   .exact aw2 O hE _ _ _ _
   .exact bq3 (hT _) (hE _) (hE _)
   .split
    .exact bf2 (C2 hE ‹_›)
    .exact Bt
   .split
    .exact bf9 (C2 hE ‹_›)
    .exact Bt
   .rw[<- O.K]
    refine ai2 (hE _) ?_ ?_
    .split
     .exact Wo
     .exact Wp (hE _)
    .split
     .exact Wo
     .exact Wp (hE _)
   .split
    .rename_i hs
     rw[<- O.K];exact bq4 O.units (hE _) (hE _) hs
    .exact Bt
   .split
    .rw[<- O.K];exact aw0 (hE _) (Du ‹_› _ X.env _)
    .exact Bt
   .split
    .exact aw4 O hE ‹_›
    .exact ah8 O hE _ _ _ _
   .rename_i ks vs p0
    split
    .rename_i hh
     have e1:ks=[]:=by simpa using hh.1
     have e2:vs=[]:=by simpa using hh.2
     subst e1 e2
     exact aw3
    .exact Bt
   .exact ai1 O hE _ _ _ _ _
   .split
    .rename_i hh
     obtain⟨h1,h2,h3⟩:=hh
     refine Wl O (O.calm▸h1) h2 h3 (hI _ _) (λX' O'=>Sc n X' _ O' _) (λX' O'=>?_) (λX' O'=>(ih X' _ O').1 _)
     split
     .exact Rj
     .exact Rk ((ih X' _ O').2.1 _)
     .exact λ_ _ _ _ _ _ _ _ h=>h.elim
    .exact Bt
   .exact Bt
  .unfold wT
   split
   .exact bh1 (hT _)
   .exact λEx m=>PW.pt (Pe hT Ex m)
   .exact ax3 O hE _ _ _ _
   .exact a16
   .rename_i h1 h2 h3 h4
    rw[<- O.K]
    refine bh2 (hE _) ?_
    cases e with
    |UnaryOp op a p=>cases op <;> first|rfl|exact absurd rfl (h1 _ _)
    |BoolOp op es p=>exact absurd rfl (h2 _ _ _)
    |Compare a b c p=>exact absurd rfl (h3 _ _ _ _)
    |IfExp a b c p=>exact absurd rfl (h4 _ _ _ _)
    |_=>rfl
  .unfold wI
   split
   .split
    .rename_i hh
     obtain⟨rfl,h1,_,h2,h3⟩:=hh
     exact ai3 (O.gl h1) (O.bl _ h2) (C2 hE h3) h3
    .split
     .rename_i hh
      obtain⟨rfl,h1,_,h2,h3⟩:=hh
      split
      .rw[<- O.K];exact aw8 (O.gl h1) (O.bl _ h2) (C2 hE h3) h3
      .exact a15
     .split
      .rename_i hh
       obtain⟨rfl,h1,_,h2,h3,h4⟩:=hh
       rw[List.isEmpty_iff.mp h4,<- O.K]
       exact bg3 (O.gl h1) (O.bl _ h2) (hE _) h3
      .exact hv _ _
   .rw[<- O.K];exact ai4 (Wn (hE _))
   .exact hv _ _
noncomputable def Cx.tr (X:Cx) (pn:List (Addr×Obj)) (xe:ai->am->Prop):Cx:={ X with pn:=pn,xe:=xe }
section
variable {X:Cx} {pins pins':List (Addr×Obj)} {U:St} {H:Hp} {s:am} {a C:Addr} {dx:Option Addr} {xe:ai->am->Prop}
theorem bm4 {pn:List (Addr×Obj)} (o:X.Ok):(X.tr pn xe).Ok:=⟨o.mod,o.kind,o.glob,o.blt,o.above,o.inj,o.has,o.cab,o.hd,o.frames,o.stk,o.exf,o.bs,o.bsz,o.noex,o.exfs,o.funs,o.frf,o.tk⟩
theorem au0 {pn:List (Addr×Obj)} (o:(X.tr pn xe).Ok):X.Ok:=⟨o.mod,o.kind,o.glob,o.blt,o.above,o.inj,o.has,o.cab,o.hd,o.frames,o.stk,o.exf,o.bs,o.bsz,o.noex,o.exfs,o.funs,o.frf,o.tk⟩
theorem a59 (I:Inv X pins U H s):Inv (X.tr X.pn xe) pins U H s:=⟨bm4 I.ok,I.os,I.bare,I.base,I.loc,I.cell,I.free,I.freeC,I.pin,I.hok,I.len⟩
theorem Gu (I:Inv (X.tr X.pn xe) pins U H s):Inv X pins U H s:=⟨au0 I.ok,I.os,I.bare,I.base,I.loc,I.cell,I.free,I.freeC,I.pin,I.hok,I.len⟩
theorem ay2 {D:Qg} {f:Flow} (h:SP (X.tr X.pn xe) pins D f s):SP X pins D f s:=by
 cases f with
 |next=>obtain⟨U',H',I,q⟩:=h;exact⟨U',H',Gu I,q⟩
 |brk=>obtain⟨U',H',I,q⟩:=h;exact⟨U',H',Gu I,q⟩
 |cont=>obtain⟨U',H',I,q⟩:=h;exact⟨U',H',Gu I,q⟩
 |ret u=>obtain⟨v,U',H',I,r,q⟩:=h;exact⟨v,U',H',Gu I,r,q⟩
noncomputable def ab0 (tb:DS):DS:=λD U H=>tb { D with ex:=λ_ _ _=>False } U H
theorem ax2 {Y:Cx} {body:List Stmt} {h0:ExceptHandler} {hs:List ExceptHandler} {pos:Pos} {tb:DS} (hb:QSs (Y.tr Y.pn λ_ _=>False) body tb):QS Y (.Try body (h0::hs) [] [] pos) (ab0 tb):=by
 intro Ex m pins s U H D I hw
 refine wpAny_Try_except ?_
 refine bZ (hb (λ_ _ _=>False) Ko pins s U H D (a59 I) hw) (λf s1 q=>?_) λ_ _ z=>z.elim
 have q:=ay2 q
 cases f with
 |next=>exact jK q
 |_=>exact q
end
noncomputable def Hw:Expr->Bool
 |.ListComp _ _ _ _=>false
 |.SetComp _ _ _ _=>false
 |.DictComp _ _ _ _ _=>false
 |_=>true
theorem Hx {e:Expr} (h:Hw e=true) (t:Option Expr) (l:Nat) (env:Env):iX e t l env=pure false:=by
 cases e with
 |ListComp _ _ _ _=>cases h
 |SetComp _ _ _ _=>cases h
 |DictComp _ _ _ _ _=>cases h
 |_=>rfl
section
variable {X:Cx} {G:Sg} {st:Stmt} {rest:List Stmt} {t u:DS} {e:Expr} {de:DE} {pos p':Pos}
theorem Ce:QS X st Bj:=λ_ _ _ _ _ _ _ _ h=>h.elim
theorem Wq:QSs X [] Ag:=λ_ _=>av6
theorem Rl (h1:QS X st t) (h2:QSs X rest u):QSs X (st::rest) (Ae t u):=λEx m=>ah3 (h1 Ex m) (h2 Ex m)
theorem ax0:QS X (.Pass pos) Ag:=λ_ _=>av4
theorem bg5:QS X (.Break pos) bj7:=λ_ _=>ah2
theorem bg6:QS X (.Continue pos) bj8:=λ_ _=>Ri
theorem ai5 (h:QE X e de):QS X (.Return (some e) pos) (As de):=λEx m=>be3 (h Ex m)
theorem ax1:QS X (.Return none pos) a02:=λ_ _=>av5
theorem aw9 (h:QE X e de) (hn:Hw e=true):QS X (.Expr e pos) (C3 de):=λEx m=>av3 (h Ex m) (Hx hn _ _ _)
theorem bq7 {c:Expr} {a b:List Stmt} {tc:DT} (hc:QT X c tc) (ha:QSs X a t) (hb:QSs X b u):QS X (.If c a b pos) (dIf tc t u):=λEx m=>bq1 (hc Ex m) (ha Ex m) (hb Ex m)
theorem ai6 {i:Nat} {x:Str} (O:GOk X G) (hi:Dy G.N x 0=some i) (hx:Ty G x=true) (h:QE X e de) (hn:iX e (some (.Name x p')) pos.line X.env=pure false):QS X (.Assign [.Name x p'] e pos) (Ao i de):=by
 obtain⟨h1,h2⟩:=Oz O hx
 exact λEx m=>be4 (by rw[O.N];exact O.nd) (by rw[O.N];exact Fk hi) h1 (h Ex m) hn h2
variable {tg iter elt:Expr} {ifs:List Expr} {sc:Scope} {wi:DI} {g:DG} {tc:DT}
theorem Ub {i:Nat} {x:Str} {cp:Pos} (O:GOk X G) (hi:Dy G.N x 0=some i) (hx:Ty G x=true) (hc:X.calm=true) (hk:Fc G sc=true) (hs:Kr iter=true) (hq:QI X tg iter wi) (hg:∀ X',GOk X' (Co G sc.names)->PG X' tg g)
  (ht:∀ X',GOk X' (Co G sc.names)->aq6 X' ifs tc) (he:∀ X',GOk X' (Co G sc.names)->QE X' elt de) :
  QS X (.Assign [.Name x p'] (.ListComp elt [⟨tg,iter,ifs,0⟩] sc cp) pos) (Ao i (A3 (Fs G sc.names) wi g tc de)):=by
 obtain⟨h1,h2⟩:=Oz O hx
 have sw:iX (.ListComp elt [⟨tg,iter,ifs,0⟩] sc cp) (some (.Name x p')) pos.line X.env=pure (X.env.blockKind==.function&&X.env.kindOf x==some .local&&p'.line==(Expr.ListComp elt [⟨tg,iter,ifs,0⟩] sc cp).pos.line
   && !(sc.names.any λ(n,k)=>n==x&&(k==.local||k==.cell))):=rfl
 cases hb:(X.env.blockKind==.function&&X.env.kindOf x==some .local&&p'.line==(Expr.ListComp elt [⟨tg,iter,ifs,0⟩] sc cp).pos.line
   && !(sc.names.any λ(n,k)=>n==x&&(k==.local||k==.cell))) with
 |false=>
  rw[hb] at sw
  exact ai6 O hi hx (Wl O hc hk hs hq hg ht he) sw
 |true=>
  rw[hb] at sw
  simp only[aU] at hb
  have hl:X.env.scope.names.lookup x=some .local:=cQ hb.1.1.2
  intro Ex m pins s U H D I h
  exact aa7 hc (by rw[O.N];exact O.nd) (by rw[O.N];exact Fk hi) hl (Oa O hk) (hq Ex m) (λus Q2 fp C D s2 H2 I2 f2 hC=>
   have M:=Kn (N':=(Co G sc.names).N) (cl:=Cn X.env.cells sc.names []) (us:=us) (Q2:=Q2) (D:=D) m O.fr I2 f2 hC
   have K:=V7 O hk fp C s2 H2 (Bs X sc (Cn X.env.cells sc.names []) us Q2 D C)
   ⟨hg _ K,ht _ K _ M,he _ K _ M⟩) I h sw (λx=>Ks hs X.env x)
theorem bg8 {body:List Stmt} (O:GOk X G) (ht:G.top=true) (hc:X.calm=true) (hi:QI X tg iter wi) (hg:PG X tg g) (hb:QSs X body t) (hs:Kr iter=true):QS X (.For tg iter body [] pos) (Cb wi g t):=by
 intro Ex m pins s U H D I h
 refine bZ (be2 (O.own ht) hc (hi Ex m) hg (hb Ex m) (λx=>Ks hs X.env x) pins s U H { D with nx:=λU' H'=>Thaw H H' (D.nx U') } I h) (λf s' q=>?_) λ_ _ z=>z
 cases f with
 |next=>
  obtain⟨U',H',I',q⟩:=q
  obtain⟨H2,I2,q2⟩:=Thaw.inv I I' q
  exact⟨U',H2,I2,q2⟩
 |_=>exact q
noncomputable def af1:Expr->Bool
 |.Tuple _ _ _=>false
 |_=>true
theorem af2 {e:Expr} (h:af1 e=true) (tg:Expr) (env:Env):swappedStores [tg] e env=pure none:=by
 cases e with
 |Tuple _ _ _=>cases h
 |_=>cases tg <;> rfl
theorem bg4 {ts:List Expr} {kt:Nat} {pt:Pos} {g:DG} (h:QE X e de) (hg:PG X (.Tuple ts kt pt) g) (hn:Hw e=true) (ht:af1 e=true):QS X (.Assign [.Tuple ts kt pt] e pos) (Ea de g):=
 λEx m=>ah1 (h Ex m) hg (show kL [.Tuple ts kt pt] e pos.line X.env=pure false from Hx hn (some (.Tuple ts kt pt)) pos.line X.env) (af2 ht _ _)
noncomputable def Cm (K:ac) (o i:DE):DG:=λv U H Q=>o U H (λx H1=>i U H1 (λy H2=>a20 x y v H2 (Q U)) λ_ _=>False) λ_ _=>False
theorem bg9 {o i:Expr} {do' di:DE} (hu:X.A.units+64<cLine) (ho:QE X o do') (hi:QE X i di) (h:QE X e de) (hsl:Gy i=true):QS X (.Assign [.Subscript o i p'] e pos) (Ea de (Cm X.K do' di)):=by
 intro Ex m
 have hg:PG X (.Subscript o i p') (Cm X.K do' di):=be0 (ho _ Ko) (hi _ Ko) (br3 hu) (by
  intro v
  cases i with
  |Slice _ _ _ _=>cases hsl
  |_=>rfl)
 exact ah1 (h Ex m) hg (show kL [.Subscript o i p'] e pos.line X.env=pure false from by show iX e (some (.Subscript o i p')) pos.line X.env=pure false;cases e <;> rfl) (by cases e <;> rfl)
noncomputable def F2 (K:ac) (f:Str) (o e:DE):DS:=λD U H=>e U H (λy H1=>o U H1 (λx H2=>Wu K f x y H2 (D.nx U)) (D.ex U)) (D.ex U)
theorem bg7 {o:Expr} {f:Str} {do':DE} (ho:QE X o do') (h:QE X e de):QS X (.Assign [.Attribute o f p'] e pos) (F2 X.K f do' de):=by
 intro Ex m pins s U H D I hw
 refine plainObj_wpAny_Assign_Attribute (thn (h Ex m pins s U H _ I hw) λu s1 ⟨y,H1,I1,ry,q⟩=>thn (ho Ex m pins s1 U H1 _ I1 q) λov s2 ⟨x,H2,I2,rx,q2⟩=>?_) (by cases e <;> rfl)
 exact br2 I2 rx ry q2 λH' s' I' hN=>⟨U,H',I',hN⟩
end
theorem bw4 {X:Cx} {pn:List (Addr×Obj)} {xe:ai->am->Prop} {i:FI} (F:Hj X i):Hj (X.tr pn xe) i:=⟨F.kp,F.ok,F.room,F.binds,F.vals⟩
theorem bi4 {X:Cx} {G:Sg} (O:GOk X G) {pn:List (Addr×Obj)} {xe:ai->am->Prop} (ho:jC (model X.prog X.w) X.A X.env xe):GOk (X.tr pn xe) G where
 K:=O.K
 kind:=O.kind
 own:=λ_=>ho
 N:=O.N
 nd:=O.nd
 sc:=O.sc
 vis:=O.vis
 top:=O.top
 calm:=O.calm
 hd:=O.hd
 units:=O.units
 cel:=O.cel
 gb:=λx g e=>by
  refine GBOk.to (X:=X) ?_ ?_ ?_ ?_ ?_ ?_ (O.gb x g e)
  .rfl
  .rfl
  .rfl
  .rfl
  .exact λ_ r=>r
  .exact λi F=>bw4 F
 bl:=O.bl
 frm:=O.frm
 fr:=O.fr
mutual
noncomputable def wS:Nat->Sg->Stmt->DS
 |0,_,_=>Bj
 | n+1,G,st=>match st with
  |.Pass _=>Ag
  |.Break _=>bj7
  |.Continue _=>bj8
  |.Return (some e) _=>As (wE n G e)
  |.Return none _=>a02
  |.Expr e _=>if Hw e=true then C3 (wE n G e) else Bj
  |.If c a b _=>dIf (wT n G c) (wSs n G a) (wSs n G b)
  | .Assign [.Name x _] (.ListComp elt [⟨tg,iter,ifs,0⟩] sc _) _=>match Dy G.N x 0 with
   | some i=>if Ty G x=true/\G.calm=true/\Fc G sc=true/\Kr iter=true then
     Ao i (A3 (Fs G sc.names) (wI n G tg iter) (wG n (Co G sc.names) tg) (match ifs with | []=>Cc | [c]=>wT n (Co G sc.names) c|_=>tNo) (wE n (Co G sc.names) elt)) else Bj
   |none=>Bj
  | .Assign [.Name x _] e _=>match Dy G.N x 0 with
   |some i=>if Ty G x=true/\Hw e=true then Ao i (wE n G e) else Bj
   |none=>Bj
  |.Assign [.Tuple ts kt pt] e _=>if Hw e=true/\af1 e=true then Ea (wE n G e) (wG n G (.Tuple ts kt pt)) else Bj
  |.Assign [.Attribute o f _] e _=>F2 G.K f (wE n G o) (wE n G e)
  |.Assign [.Subscript o i _] e _=>if Gy i=true then Ea (wE n G e) (Cm G.K (wE n G o) (wE n G i)) else Bj
  |.For tg iter body [] _=>if G.calm=true/\Kr iter=true/\G.top=true then Cb (wI n G tg iter) (wG n G tg) (wSs n G body) else Bj
  |.Try body (_::_) [] [] _=>ab0 (wSs n G body)
  |_=>Bj
noncomputable def wSs:Nat->Sg->List Stmt->DS
 |0,_,_=>Bj
 |_+1,_,[]=>Ag
 |n+1,G,s::r=>Ae (wS n G s) (wSs n G r)
end
theorem bw7:∀ (n:Nat) (X:Cx) (G:Sg),GOk X G->(∀ s,QS X s (wS n G s))/\(∀ ss,QSs X ss (wSs n G ss)):=by
 intro n
 induction n with
 |zero=>
  intro X G O
  refine⟨λs=>?_,λs=>?_⟩
  .unfold wS;exact Ce
  .unfold wSs;exact λ_ _ _ _ _ _ _ _ h=>h.elim
 |succ n ih=>
  intro X G O
  obtain⟨hS,hSs⟩:=ih X G O
  obtain⟨hE,hT,hI⟩:=ao3 n X G O
  refine⟨λs=>?_,λs=>?_⟩
  .unfold wS
   split
   .exact ax0
   .exact bg5
   .exact bg6
   .exact ai5 (hE _)
   .exact ax1
   .split
    .exact aw9 (hE _) ‹_›
    .exact Ce
   .exact bq7 (hT _) (hSs _) (hSs _)
   .split
    .rename_i i e
     split
     .rename_i hh
      obtain⟨h1,h2,h3,h4⟩:=hh
      refine Ub O e h1 (O.calm▸h2) h3 h4 (hI _ _) (λX' O'=>Sc n X' _ O' _) (λX' O'=>?_) (λX' O'=>(ao3 n X' _ O').1 _)
      split
      .exact Rj
      .exact Rk ((ao3 n X' _ O').2.1 _)
      .exact λ_ _ _ _ _ _ _ _ h=>h.elim
     .exact Ce
    .exact Ce
   .split
    .rename_i i e
     split
     .rename_i hh
      exact ai6 O e hh.1 (hE _) (Hx hh.2 _ _ _)
     .exact Ce
    .exact Ce
   .split
    .rename_i hh
     exact bg4 (hE _) (Sc n X G O _) hh.1 hh.2
    .exact Ce
   .rw[<- O.K];exact bg7 (hE _) (hE _)
   .split
    .rename_i hh
     rw[<- O.K];exact bg9 O.units (hE _) (hE _) (hE _) hh
    .exact Ce
   .split
    .rename_i hh
     exact bg8 O hh.2.2 (O.calm▸hh.1) (hI _ _) (Sc n X G O _) (hSs _) hh.2.1
    .exact Ce
   .exact ax2 ((ih _ _ (bi4 O jD)).2 _)
   .exact Ce
  .cases s with
   |nil=>unfold wSs;exact Wq
   |cons a r=>unfold wSs;exact Rl (hS a) (hSs r)
section
variable {P:aX} {w:bB} {K:ac} {mg:Str->Option ai} {base:Heap}
structure FnIn (P:aX) (w:bB) (K:ac) (mg:Str->Option ai) (base:Heap) (k:Nat) (x:Str) (i:FI):Prop where
 at_:mg x=some (.ref i.f)
 kp:bA K (.ref i.f)=true
 ok:∃ CX,(∀ X':Cx,X'.prog=P->X'.w=w->Vv CX X')/\FnOk P w K mg base CX i.k i.f i.fd i.ps i.sp
 le:i.k<=k
 binds:∀ j,j<=i.dfs.length->Binds K i.fd i.ps (i.ds.drop j)
 vals:Vals i.dfs i.ds
structure FiIn (P:aX) (w:bB) (K:ac) (mg:Str->Option ai) (base:Heap) (k:Nat) (i:FI):Prop where
 kp:bA K (.ref i.f)=true
 ok:∃ CX,(∀ X':Cx,X'.prog=P->X'.w=w->Vv CX X')/\FnOk P w K mg base CX i.k i.f i.fd i.ps i.sp
 le:i.k<=k
 binds:∀ j,j<=i.dfs.length->Binds K i.fd i.ps (i.ds.drop j)
 vals:Vals i.dfs i.ds
theorem FiIn.mono {k k':Nat} {i:FI} (F:FiIn P w K mg base k i) (h:k<=k'):FiIn P w K mg base k' i:=⟨F.kp,F.ok,aY F.le h,F.binds,F.vals⟩
noncomputable def bx0 (P:aX) (w:bB) (K:ac) (mg:Str->Option ai) (base:Heap) (k:Nat) (C:Addr):Option FI->Prop
 |none=>dH K C=true/\bC K (.ref C) "__init__" = some (some (.builtin "object.__init__"))
 |some i=>dH K C=true/\bC K (.ref C) "__init__" = some (some (.ref i.f))/\dE K (.ref i.f)=true/\FiIn P w K mg base k i/\i.k+1<=k
structure ClsIn (P:aX) (w:bB) (K:ac) (mg:Str->Option ai) (base:Heap) (k:Nat) (x:Str) (C:Addr) (oi:Option FI):Prop where
 at_:mg x=some (.ref C)
 kp:bA K (.ref C)=true
 made:bx0 P w K mg base k C oi
theorem ClsIn.mono {k k':Nat} {x:Str} {C:Addr} {oi:Option FI} (F:ClsIn P w K mg base k x C oi) (h:k<=k'):ClsIn P w K mg base k' x C oi:=by
 refine⟨F.at_,F.kp,?_⟩
 cases oi with
 |none=>exact F.made
 |some i=>obtain⟨a,b,c,d,e⟩:=F.made;exact⟨a,b,c,d.mono h,aY e h⟩
structure MetIn (P:aX) (w:bB) (K:ac) (mg:Str->Option ai) (base:Heap) (k:Nat) (m:Str) (mi:MI):Prop where
 cls:Cls K mi.C
 at_:Nw K mi.C m mi.i.f
 fi:FiIn P w K mg base k mi.i
theorem MetIn.mono {k k':Nat} {m:Str} {mi:MI} (F:MetIn P w K mg base k m mi) (h:k<=k'):MetIn P w K mg base k' m mi:=⟨F.cls,F.at_,F.fi.mono h⟩
noncomputable def GBIn (P:aX) (w:bB) (K:ac) (mg:Str->Option ai) (base:Heap) (k:Nat) (x:Str):GB->Prop
 |.fn i=>FnIn P w K mg base k x i
 |.val v u=>mg x=some u/\RelV v u
 |.cls C oi=>ClsIn P w K mg base k x C oi
 |.met m l=>∀ mi∈l,MetIn P w K mg base k m mi
structure Tab (P:aX) (w:bB) (K:ac) (mg:Str->Option ai) (base:Heap) (k:Nat) (gb:List (Str×GB)) (bl:List Str):Prop where
 all:∀ x g,(x,g)∈gb->GBIn P w K mg base k x g
 bl:∀ x∈bl,mg x=none
theorem FnIn.mono {k k':Nat} {x:Str} {i:FI} (F:FnIn P w K mg base k x i) (h:k<=k'):FnIn P w K mg base k' x i:=⟨F.at_,F.kp,F.ok,aY F.le h,F.binds,F.vals⟩
theorem GBIn.mono {k k':Nat} {x:Str} {g:GB} (F:GBIn P w K mg base k x g) (h:k<=k'):GBIn P w K mg base k' x g:=by
 cases g with
 |fn i=>exact FnIn.mono F h
 |val v u=>exact F
 |cls C oi=>exact ClsIn.mono F h
 |met m l=>exact λmi hm=>(F mi hm).mono h
theorem GBIn.there {X:Cx} {k:Nat} {x:Str} {g:GB} (F:GBIn X.prog X.w X.K X.mg X.base k x g) (hr:Room k X.A):GBOk X x g:=by
 cases g with
 |fn i=>exact⟨F.at_,F.kp,F.ok,hr.mono F.le,F.binds,F.vals⟩
 |val v u=>exact F
 |cls C oi=>
  refine⟨F.at_,F.kp,?_⟩
  cases oi with
  |none=>exact F.made
  |some i=>obtain⟨a,b,c,d,e⟩:=F.made;exact⟨a,b,c,⟨d.kp,d.ok,hr.mono d.le,d.binds,d.vals⟩,hr.mono e⟩
 |met m l=>exact λmi hm=>⟨(F mi hm).cls,(F mi hm).at_,⟨(F mi hm).fi.kp,(F mi hm).fi.ok,hr.mono (F mi hm).fi.le,(F mi hm).fi.binds,(F mi hm).fi.vals⟩⟩
theorem Kv (X:Cx):Vv CX0 X:=λ_ _ _ _ _ _ _ _ _ h=>h.elim
noncomputable def Sv (K:ac) (N:List Str) (sc:Scope) (gb:List (Str×GB)) (bl:List Str):Sg:=⟨K,N,sc.names,gb,bl,true,true⟩
noncomputable def Nv (N:List Str) (sc:Scope):Bool:=N.all λx=>(sc.names.lookup x==some .local)||(sc.names.lookup x==some .cell)
noncomputable def ab5 (Q:VK) (E:EK):Outs:=⟨λ_ H'=>Q .non H',Q,λ_ _=>False,λ_ _=>False,λ_=>E⟩
structure FunD (K:ac) (x qual:Str) (st:Stmt) (f:Addr) (fd:a8) (dV:ai):Prop where
 ex:∃ (oc:ai) (od:Option Addr) (kV doc pm:ai) (an:Option Addr) (cdv ct:ai) (osl:Array (Option ai)),
  fd=cu x qual (B4 st) (Bl st) (Aq st) dV kV doc pm an cdv ct/\K.lookup f=some ⟨oc,od,.func fd,osl⟩/\dD K cdv qual=true
 kp:bA K (.ref f)=true
theorem Fun.toD {x qual:Str} {st:Stmt} {f:Addr} {fd:a8} (F:Fun K x qual st f fd):FunD K x qual st f fd .none:=⟨F.ex,F.kp⟩
theorem as4 {x qual:Str} {st:Stmt} {f:Addr} {oc:ai} {od an:Option Addr} {osl:Array (Option ai)} {dV kV doc pm cdv ct:ai} (l:K.lookup f=some ⟨oc,od,.func (cu x qual (B4 st) (Bl st) (Aq st) dV kV doc pm an cdv ct),osl⟩)
  (c:dD K cdv qual=true) (k:bA K (.ref f)=true):FunD K x qual st f (cu x qual (B4 st) (Bl st) (Aq st) dV kV doc pm an cdv ct) dV:=⟨⟨oc,od,kV,doc,pm,an,cdv,ct,osl,rfl,l,c⟩,k⟩
theorem FunD.ok {x qual:Str} {st:Stmt} {f:Addr} {fd:a8} {dV:ai} {N ps:List Str} {k:Nat} {sp:Sp} (F:FunD K x qual st f fd dV) (S:Cw N ps (Aq st)) (len:∀ vs H Q E,sp vs H Q E->vs.length=ps.length)
  (hbody:∀ (cdv:ai) (A:bj) (outer:List Env) (s:am) (H:Hp) (vs:List V) (Q:VK) (E:XK),Room k (A.deeper (j5 qual (Aq st) s.heap.objs.size f cdv))->sp vs H Q E ->
   ∃ t,PSs (J5 CX0 P w K mg base N qual (Aq st) f cdv A outer s H E).nox (Bl st) t/\t { nx:=λ_ H'=>Q .non H',rt:=Q } (D0 N vs) H):FnOk P w K mg base CX0 (k+1) f fd ps sp:=by
 obtain⟨oc,od,kV,doc,pm,an,cdv,ct,osl,rfl,lk,hcd⟩:=F.ex
 refine a05 lk hcd S len λA outer s H vs Q E hr hsp=>?_
 obtain⟨t,h,q⟩:=hbody cdv A outer s H vs Q E hr hsp
 exact⟨t,h.nox,q⟩
theorem Sj {fd:a8} {ps:List Str} {T:Addr} {o:Obj} {items:Array ai} {n:Nat} {ds:List ai} (hd:fd.defaults=.ref T) (ho:K.lookup T=some o) (hs:o.data=.seq items n)
  (h:∀ us:List ai,(us++ds).length=ps.length -> ∃ k:Option (Array ai)->Sem (List (Str×ai)),g_ fd ⟨us,[]⟩=seqItems? fd.defaults >>= k/\k (some items)=pure (ps.zip (us++ds))):Binds K fd ps ds:=λs us X hl=>by
 obtain⟨k,h1,h2⟩:=h us hl
 exact PySem.W.binds_K X hd ho hs h1 h2
theorem FunD.okW0 {x qual:Str} {st:Stmt} {f:Addr} {fd:a8} {N ps:List Str} {k n:Nat} {sp:Sp} {gb:List (Str×GB)} {bl:List Str} {t:DS} {dV:ai} (F:FunD K x qual st f fd dV) (S:Cw N ps (Aq st)) (hv:Nv N (Aq st)=true)
  (T:Tab P w K mg base k gb bl) (rd:wSs n (Sv K N (Aq st) gb bl) (Bl st)=t) (len:∀ vs H Q E,sp vs H Q E->vs.length=ps.length)
  (hbody:∀ (vs:List V) (H:Hp) (Q:VK) (E:XK),sp vs H Q E->t (ab5 Q λ_ _=>False) (D0 N vs) H):FnOk P w K mg base CX0 (k+1) f fd ps sp:=by
 refine F.ok S len λcdv A outer s H vs Q E hr h=>?_
 have O:GOk (J5 CX0 P w K mg base N qual (Aq st) f cdv A outer s H E).nox (Sv K N (Aq st) gb bl):=by
  refine⟨rfl,S.kind,(λ_=>jD),rfl,S.nd,λx=>rfl,λx hx=>?_,λ_ _=>rfl,rfl,(λ_=>hr.hd),hr.units,λx hx=>?_,λx g e=>?_,λx hx=>?_,(λ_=>⟨rfl,rfl⟩),⟨_,_,_,rfl,rfl,rfl⟩⟩
  .have:=List.all_eq_true.mp hv x hx
   rw[df] at this
   exact this.elim (λz=>.inl (cQ z)) λz=>.inr (.inl (cQ z))
  .rcases hx with hx|hx
   .exact Gj hx
   .exact absurd rfl (S.nofree _ (ca hx))
  .exact (T.all x g e).there hr
  .exact T.bl x (by have hx':bl.contains x=true:=hx;simpa using hx')
 refine⟨_,(bw7 n _ _ O).2 (Bl st) (λ_ _ _=>False) (λ_ _ _ h=>h),?_⟩
 rw[rd]
 exact hbody vs H Q E h
end
noncomputable def Qh (p:Addr) (H H':Hp):Prop:=∀ b u,b≠p->H b=some u->H' b=some u
theorem ac1 {P:aX} {w:bB} {K:ac} {mg:Str->Option ai} {base:Heap} {N ps:List Str} {qual:Str} {scope:Scope} {f:Addr} {cdv:ai} {A:bj} {outer:List Env} {s:am} {H:Hp} {E:XK} {k:Nat} {gb:List (Str×GB)} {bl:List Str}
  (S:Cw N ps scope) (hv:Nv N scope=true) (T:Tab P w K mg base k gb bl) (hr:Room k (A.deeper (j5 qual scope s.heap.objs.size f cdv))):GOk (J5 CX0 P w K mg base N qual scope f cdv A outer s H E).nox (Sv K N scope gb bl):=by
 refine⟨rfl,S.kind,(λ_=>jD),rfl,S.nd,λx=>rfl,λx hx=>?_,λ_ _=>rfl,rfl,(λ_=>hr.hd),hr.units,λx hx=>?_,λx g e=>?_,λx hx=>?_,(λ_=>⟨rfl,rfl⟩),⟨_,_,_,rfl,rfl,rfl⟩⟩
 .have:=List.all_eq_true.mp hv x hx
  rw[df] at this
  exact this.elim (λz=>.inl (cQ z)) λz=>.inr (.inl (cQ z))
 .rcases hx with hx|hx
  .exact Gj hx
  .exact absurd rfl (S.nofree _ (ca hx))
 .exact (T.all x g e).there hr
 .exact T.bl x (by have hx':bl.contains x=true:=hx;simpa using hx')
theorem ax7 {P:aX} {w:bB} {K:ac} {mg:Str->Option ai} {base:Heap} {k:Nat} {f c':Addr} {name qual:Str} {params:Arguments} {lb:Expr} {scope:Scope} {pm ctv:ai} {N ps:List Str} {A:bj} {outer:List Env} {s:am} {H:Hp} {us:List ai} {vs:List V} {Q:VK} {E:XK}
  (hr:Room (k+1) A) (e0:Env0 P w K mg base A outer s H) (ho:s.heap.get? f=some (PySem.W.kla_obj name qual params lb scope [] pm c' ctv)) (hcd:s.heap.CodeRec (.ref c') qual) (S:Cw N ps scope)
  (hb:g_ (j0 name qual params lb scope [] pm (.ref c') ctv) ⟨us,[]⟩=pure (ps.zip us)) (hl:vs.length=ps.length) (r:Vals vs us)
  (hbody:Room k (A.deeper (j5 qual scope s.heap.objs.size f (.ref c'))) -> ∃ t,PE (J5 CX0 P w K mg base N qual scope f (.ref c') A outer s H E).nox lb t/\t (D0 N vs) H Q) :
  iB (model P w) A (.call (.ref f) ⟨us,[]⟩) (CR CX0 outer P w H s Q E) s:=by
 have lim:s.heap.NoLimit:=e0.mod.nolimit.keeps λb o e=>(e0.bs b o e).1
 have hkind:∀ y∈ps.zip us,scope.names.lookup y.1=some .local\/(scope.names.lookup y.1=some .cell/\((lI (s.heap.objs.size+1) scope.names []).lookup y.1).isSome=true):=fun⟨n,v⟩ hy=>by
  rcases S.par n (hX hy).1 with q|q
  .exact .inl q
  .exact .inr ⟨q,gy _ _ _ (.inl q)⟩
 refine PySem.W.kla_callFunE hr.depth ho rfl S.co S.gen rfl hcd ?_
 rw[hb]
 refine ao (bE (ah _) (ir S.kind hkind λenv he s1 x htk=>?_))
 subst he
 refine⟨lim.keeps x.toInCall.keep,PySem.W.kla_codeExpr ?_⟩
 obtain⟨t,ht,hq⟩:=hbody (hr.deeper _)
 have I:Inv (J5 CX0 P w K mg base N qual scope f (.ref c') A outer s H E) [] (D0 N vs) H s1:=M9 S hr.hd e0 htk hl r x
 exact bZ (ht.nox [] s1 (D0 N vs) H _ I hq) (λu s' ⟨v,H',J,rv,q⟩=>⟨v,H',J.os,J.bare,J.base,J.hok,rv,q⟩) λe s' hs=>hs
section
variable {X:Cx} {pins:List (Addr×Obj)} {U:St} {H:Hp} {s:am}
theorem Inv.grow {p:Addr} {ps more:Array ai} {h':Heap} {t':Nat} (I:Inv X pins U H s) (hp:H p=some (.tbl ps)) (k:∀ b o,b≠p->s.heap.get? b=some o->h'.get? b=some o) (g:h'.get? p=some (fU (ps++more))) (ht:s.toks<=t'):Inv X pins U (upd H p (.tbl (ps++more))) { s with heap:=h',toks:=t' }:=by
 have ne:∀ {b:Addr},H b=none->b≠p:=λe z=>by rw[z,hp] at e;cases e
 refine I.step (g':=s.gens) (d':=s.drawn) (ch:=[]) (λ_ z=>nomatch z) (λb o _ _ _ e n=>k b o (ne n) e) (λb o _ _ _ e n=>⟨o.slots,k b o (ne n) e⟩) (λb o _ _ n=>by rw[Ad (ne n)];exact n)
  (λb o _ e=>?_) (λb xs e=>by rw[Ad λz=>by rw[z,hp] at e;cases e];exact e) (λb o u e=>by rw[Ad λz=>by rw[z,hp] at e;cases e];exact e) (λb qs e=>?_) (λm hm=>?_) (λb u e=>?_) I.bare ht
 .by_cases z:b=p
  .exact⟨_,z▸g⟩
  .exact⟨o,k b o z e⟩
 .by_cases z:b=p
  .subst z
   rw[hp] at e
   cases e
   exact⟨more,Aa⟩
  .exact⟨#[],by rw[Ad z,e];simp⟩
 .obtain⟨o,es,ep,ho,r⟩:=hm
  exact⟨o,es,ep,k _ o (ne I.free) ho,r⟩
 .by_cases z:b=p
  .subst z
   rw[Aa] at e
   cases e
   exact g
  .rw[Ad z] at e
   refine (I.hok b u e).stay (λc v hc q=>k c v ?_ q) (λc q=>by rw[Ad λz=>by rw[z,hp] at q;cases q];exact q) λc xs q=>by rw[Ad λz=>by rw[z,hp] at q;cases q];exact q
   rcases hc with hc|hc
   .rw[hc];exact z
   .exact λz=>by rw[z,hp] at hc;cases hc
theorem am6 (hc:X.calm=true) {fn p:Addr} {ds:List (Int×V)} {Q:VK} (I:Inv X pins U H s) (hp:SqL X.K H p (ds.map (·.2))) (h64:ds.length<64) (asc:(ds.map (·.1)).Pairwise (· < ·))
  (hk:∀ d∈ds,∀ (pl:List (Addr×Obj)) (s':am) (H3:Hp) (u:ai),Inv X (pins++pl) U H3 s'->Same H H3->RelV d.2 u->aQ (model X.prog X.w) X.A.in1.in1 (call (.ref fn) [u]) (EP X (pins++pl) U λv H4=>v=.int d.1/\Same H3 H4) (λ_ _=>False) s')
  (q:∀ H3 D,Same H H3->H D=none->H3 D=some (.lst (ds.map (·.2)))->Q (.ref D) H3) :
  aQ (model X.prog X.w) X.A (call (.builtin "sorted") [.ref p] [("key", .ref fn)]) (EP X pins U Q) X.xe s:=by
 refine PySem.W.sk_sorted (OKQ:=λus h' tk=>(∀ b o,s.heap.get? b=some o->h'.get? b=some o)/\s.heap.objs.size<=h'.objs.size/\s.toks<=tk/\Vals (ds.map (·.2)) us) (λR hR=>?_) λus h' tk ⟨keep,hD,htk,rv⟩=>?_
 .obtain⟨its,ri,pl,hz⟩:=I.list hp
  refine collect_list pl.isList (hR _ _ s.toks ⟨λb o e=>?_,?_,ah _,ri⟩) (by have:=ri.length;rw[ae] at this;rw[bN];omega)
  .have hlt:b<s.heap.objs.size:=aD e
   rw[j_ _ _ _ _ (aJ hlt)]
   exact aj _ e
  .rw[jf,kX]
   exact dW _
 .have hl:us.length=ds.length:=by have:=rv.length;simpa using this.symm
  refine⟨by omega,λD e1 kS h2 hD2 hDk gD gk k=>?_⟩
  have lD:s.heap.objs.size<=D:=aY hD hD2
  have lk:s.heap.objs.size<=kS:=aY lD (ez hDk)
  have I2:Inv X pins U H { s with heap:=h2,toks:=tk }:=I.kept (t':=tk) λb o e=>k b o (keep b o e)
  have fD:∀ {H':Hp},H' D=none->Dn X pins H' D:=λhn=>I.fpOk lD hn
  have fk:∀ {H':Hp},H' kS=none->Dn X (pins++[(D,bo "list" #[] e1)]) H' kS:=λhn=>by
   obtain⟨a1,a2,a3,a4,a5,a6⟩:=I.fpOk (H':=H) lk (I.hok.fresh lk)
   refine⟨hn,a2,a3,a4,a5,λp hp=>?_⟩
   rw[<- iK] at hp
   rcases List.mem_append.mp hp with hp|hp
   .exact a6 p hp
   .rw[List.mem_singleton.mp hp]
    exact aJ hDk
  refine⟨λks s'=>∃ H',Inv X (pins++[(D,bo "list" #[] e1)]) U H' s'/\Same H H'/\H' kS=none/\ke ks ((ds.map (·.1)).take ks.length),⟨H,?_,Same.refl _,I.hok.fresh lk,.nil⟩,?_,?_⟩
  .refine I2.pins_of λp hp=>?_
   rcases List.mem_append.mp hp with hp|hp
   .exact I2.pin p (aM _ hp)
   .rw[List.mem_singleton.mp hp]
    have f:=fD (I.hok.fresh lD)
    exact⟨gD,f.1,f.2.1,f.2.2.1,λv z=>by cases z⟩
  .intro j x ks e s' hx hlk hks ⟨H',I',S,hn,ka⟩
   have hj:j<us.length:=(List.getElem?_eq_some_iff.mp hx).1
   obtain⟨u,hu,ru⟩:=rv.get (i:=j) (x:=(ds[j]'(by omega)).2) (by rw[ak,ag (by omega)];rfl)
   rw[hx] at hu
   cases hu
   have I1:Inv X (pins++([(D,bo "list" #[] e1)]++[(kS,bo "list" ks.toArray e)])) U H' s':=I'.pins_of λp hp=>by
    rw[<- iK] at hp
    rcases List.mem_append.mp hp with hp|hp
    .exact I'.pin p (aM _ hp)
    .rw[List.mem_singleton.mp hp]
     have f:=fk hn
     exact⟨hks,f.1,f.2.1,f.2.2.1,λv z=>by cases z⟩
   refine bZ (hk _ (bY _) _ s' H' _ I1 S ru) (λk s'' hq=>?_) λ_ _ z=>z
   obtain⟨v,H'',I'',rk,rfl,S2⟩:=hq
   obtain⟨t,rfl⟩:=rk
   have pk:=I''.pin (kS,bo "list" ks.toArray e) (by simp)
   refine⟨pk.1,λh3 c g sb=>⟨H'',?_,S.trans S2,pk.2.1,?_⟩⟩
   .have f:=fk pk.2.1
    have I3:Inv X (pins++[(D,bo "list" #[] e1)]) U H'' s'':=I''.pins_of λp hp=>I''.pin p (by
     rcases List.mem_append.mp hp with hp|hp
     .exact aM _ (cm _ hp)
     .exact aM _ (aM _ (cm _ hp)))
    exact I3.turned (t':=s''.toks) (λb o nb e=>(sb.2 b nb).trans e) f.1 f.2.1 f.2.2.2.1 f.2.2.2.2.1 f.2.2.2.2.2
   .subst hlk
    rw[aS,b7,aA,ak,ag (by omega)]
    exact ksk_snoc ka
  .intro ks e s' hlk hks ⟨H',I',S,hn,ka⟩
   have pD:=I'.pin (D,bo "list" #[] e1) (by simp)
   have Iu:=I'.unpinned
   rw[gw (by rw[ae];omega)] at ka
   have fk':Dn X pins H' kS:=by
    have f:=fk hn
    exact⟨f.1,f.2.1,f.2.2.1,f.2.2.2.1,f.2.2.2.2.1,λp hp=>f.2.2.2.2.2 p (by rw[<- iK];exact cm _ hp)⟩
   have fin:PySem.W.SkFin D kS e e1 ks us (λs3=>EP X pins U Q (.ref D) s3) s':=by
    refine⟨pD.1,hks,λh4 c g sm=>?_⟩
    refine⟨.ref D,upd H' D (.lst (ds.map (·.2))),Iu.adopt (fD pD.2.1) fk' (λb u b1 b2 e=>(sm b b1 b2).trans e) ⟨?_,us,c,rv,g⟩,rfl,q _ D (λb o e=>?_) (I.hok.fresh lD) Aa⟩
    .rw[ae,bN];omega
    .rw[Ad (Ai (S b o e) pD.2.1)]
     exact S b o e
   refine⟨λ_=>fin,λh2=>?_⟩
   rw[ksk_kind (keys:=ks.toArray) ka (by rw[ax];omega)]
   refine ao (PySem.W.asc_sort (by omega) (λj C h0 hj hC=>?_) ?_)
   .unfold PySem.W.kas_ask
    have at_:∀ {vs:List ai} {ns:List Int} {j:Nat},ke vs ns->j<vs.length -> ∃ t,vs.getD j bi=.int (ns.getD j 0) t:=by
     intro vs ns j h
     induction h generalizing j with
     |nil=>intro h;cases h
     |cons n t _ ih=>
      intro h
      cases j with
      |zero=>exact⟨t,rfl⟩
      |succ j=>exact ih (Nat.lt_of_succ_lt_succ h)
    obtain⟨t,e⟩:=at_ (j:=j) ka (by omega)
    obtain⟨u,e'⟩:=at_ (j:=j - 1) ka (by omega)
    rw[e,e']
    refine PySem.W.kat_lt_int ?_
    have:(ds.map (·.1)).getD (j - 1) 0<(ds.map (·.1)).getD j 0:=by
     rw[ar,ag (by rw[ae];omega),ar,ag (by rw[ae];omega)]
     exact List.pairwise_iff_getElem.mp asc (j - 1) j (by rw[ae];omega) (by rw[ae];omega) (by omega)
    rw[decide_eq_false (by omega)]
    exact hC
   .rw[PySem.W.range_pick]
    exact fin
noncomputable def bw8 (K:ac) (Pt bm:Addr) (N:List Str) (dl:DE) (v:V) (H:Hp) (Q:VK):Prop:=∃ (b:Addr) (ob:Obj) (u:HO) (ds:List (Int×V)),v=.ref b/\SqL K H b (ds.map (·.2))/\ds.length<64/\(ds.map (·.1)).Pairwise (· < ·)/\H Pt=some (.tbl #[])/\H bm=some (.frz ob u) /\
 (ob.cls=.type "module" /\ ob.dict=some iW/\ob.data=.plain)/\(∀ d∈ds,∀ H3,Qh Pt H H3->dl (D0 N [d.2]) H3 (λv H4=>v=.int d.1/\Same H3 H4) (λ_ _=>False)) /\ ∀ H' D,Qh Pt H H'->H D=none->H' D=some (.lst (ds.map (·.2)))->Q (.ref D) H'
noncomputable def a03 (K:ac) (Pt bm:Addr) (N:List Str) (dl a:DE):DE:=λU H Q E=>Ac a Af U H (λxs H1=>∃ v,xs=[v]/\bw8 K Pt bm N dl v H1 Q) E
theorem aw7 {a lb:Expr} {da dl:DE} {p kp lpos pos:Pos} {c Pt bm:Addr} {lp:Arguments} {ls:Scope} {N:List Str} {j n:Nat} {gb:List (Str×GB)} {bl:List Str} (hc:X.calm=true) (hg:Gl X "sorted") (hm:X.mg "sorted" = none) (ha:QE X a da) (hs:Ba a=true)
  (hr:Room (j+3) X.A) (T:Tab X.prog X.w X.K X.mg X.base j gb bl) (hcode:X.env.code=.ref c) (hd:dM X.K c Pt=true) (hbm:X.mg "__builtins__" = some (.ref bm)) (hcl:jP ls X.env=pure []) (hdf:defaultsOf lp X.env=([],[])) (S:Cw N N ls) (hv:Nv N ls=true) (hN:N.length=1)
  (hb:∀ (q:Str) (pm cd ct:ai) (u:ai),g_ (j0 "<lambda>" q lp lb ls [] pm cd ct) ⟨[u],[]⟩=pure (N.zip [u])) (rd:wE n (Sv X.K N ls gb bl) lb=dl) :
  QE X (.Call (.Name "sorted" p) [a] [⟨some "key", .Lambda lp lb ls lpos,kp⟩] pos) (a03 X.K Pt bm N dl da):=by
 intro Ex mt pins s U H Q I h
 have hA:QA X [a] (Ac da Af):=Pa ha T9 hs
 refine bT (C9 I hg hm Im ?_ (by decide) (by decide))
 refine callWith_builtin_kwB (first:=[]) ?_ rfl ?_
 .rw[A0 hs [] X.env];rfl
 have e0:cW [a] X.env=[(false,eval a X.env)]:=by rw[A0 hs [] X.env];rfl
 have hh:=hA Ex mt pos pins s U H _ I h
 rw[e0] at hh ⊢
 refine af (thn hh λus s1 ⟨vs,H1,I1,r1,q1⟩=>af (ao (cb ?_)))
 obtain⟨v,rfl,b,ob,u,ds,rfl,hp,h64,asc,hP,hB,⟨b1,b2,b3⟩,hk,q⟩:=q1
 obtain⟨u1,rfl,ru⟩:=D9 r1
 cases ru
 show aQ (model X.prog X.w) X.A (do
  let l <- evalAll [do let v <- eval (.Lambda lp lb ls lpos) X.env;standAt pos;pure v]
  let ps <- (pure [bv b]:Sem (List ai))
  pure (⟨ps,[("key" : Str)].zip l⟩:Args)) _ _ s1
 have gP:s1.heap.get? Pt=some (fU #[]):=I1.hok Pt _ hP
 have gB:s1.heap.get? bm=some ob:=(I1.hok bm _ hB).1
 have ns:=I1.mod.glob.keeps I1.bk
 have nG:∀ {z:Addr} {o:Obj},s1.heap.get? z=some o->(∀ es ep,o.data≠.dict es ep)->z≠mainGlobals:=λe d z=>by
  obtain⟨o',es,ep,e2,d2,_⟩:=ns
  rw[z,e2] at e;cases e;exact d _ _ d2
 refine af (wpAny_evalAll_cons (af (PySem.W.kla_eval hdf (bE (ah _) (PySem.W.kla_makeFunction (mg:=X.mg) (ps:=#[]) hcl I1.ok.glob ns hcode (kg I1.kIn hd) gP trivial rfl (cy (nG gP λ_ _ z=>by cases z)) ⟨bm,ob,hbm,?_,nG gB (λes ep z=>by rw[b3] at z;cases z),?_,gB,b1,b2,b3⟩ λc' ctv h' tk hx hge hlt hrec htb htk=>?_)))))
 .obtain⟨mb,nb,_⟩:=I1.mod.blt
  obtain⟨o',es,ep,e2,d2,_⟩:=nb.keeps I1.bk
  rintro rfl
  rw[e2] at gB;cases gB;rw[b3] at d2;cases d2
 .rintro rfl
  rw[hP] at hB;cases hB
 generalize ef:PySem.W.kla_obj "<lambda>" (X.env.qual ++ "<lambda>") lp lb ls [] ((X.mg "__name__").getD .none) c' ctv=fo
 have I2:Inv X pins U (upd H1 Pt (.tbl (#[] ++ #[eE lpos.line,eE lpos.col,.ref c']))) { s1 with heap:=h'.push fo,toks:=tk }:=
  I1.grow hP (λb o nb e=>aj _ (hx b o nb e)) (aj _ htb) htk
 have gF:(h'.push fo).get? h'.objs.size=some fo:=by rw[<- ef];exact aB _ rfl
 obtain⟨c2,oc,vs,t,e2,hoc,hdc,hvc⟩:=hrec
 cases e2
 have nP:∀ {b:Addr},s1.heap.objs.size<=b->b≠Pt:=λh z=>absurd (aD gP) (Nat.not_lt.mpr (z▸h))
 have f1:Dn X pins (upd H1 Pt (.tbl (#[] ++ #[eE lpos.line,eE lpos.col,.ref c']))) c':=I1.fpOk hge (by rw[Ad (nP hge)];exact I1.hok.fresh hge)
 have hle:s1.heap.objs.size<=h'.objs.size:=ez (a_ hge hlt)
 have f2:Dn X pins (upd H1 Pt (.tbl (#[] ++ #[eE lpos.line,eE lpos.col,.ref c']))) h'.objs.size:=I1.fpOk hle (by rw[Ad (nP hle)];exact I1.hok.fresh hle)
 have O2:Qh Pt H1 (upd H1 Pt (.tbl (#[] ++ #[eE lpos.line,eE lpos.col,.ref c']))):=λb u nb e=>by rw[Ad nb];exact e
 have nD:∀ D,upd H1 Pt (.tbl (#[] ++ #[eE lpos.line,eE lpos.col,.ref c'])) D=none->H1 D=none:=λD e=>by
  by_cases z:D=Pt
  .rw[z,Aa] at e;cases e
  .rwa[Ad z] at e
 generalize upd H1 Pt (.tbl (#[] ++ #[eE lpos.line,eE lpos.col,.ref c']))=H2 at I2 f1 f2 O2 nD
 have I3:Inv X (pins++[(c',oc),(h'.objs.size,fo)]) U H2 { s1 with heap:=h'.push fo,toks:=tk }:=I2.pins_of λp hp=>by
  rcases List.mem_append.mp hp with hp|hp
  .exact I2.pin p (aM _ hp)
  .simp only[aE,cS,or_false] at hp
   rcases hp with rfl|rfl
   .exact⟨aj _ hoc,f1.1,f1.2.1,f1.2.2.1,λv z=>by have z:oc.data=.cell v:=z;rw[hdc] at z;cases z⟩
   .exact⟨gF,f2.1,f2.2.1,f2.2.2.1,λv z=>by have z:fo.data=.cell v:=z;rw[<- ef] at z;cases z⟩
 have hp2:SqL X.K H2 b (ds.map (·.2)):=by
  rcases hp with hp|hp
  .rcases hp with hp|⟨o,hp⟩
   .exact .inl (.inl (O2 _ _ (λz=>by rw[z,hP] at hp;cases hp) hp))
   .exact .inl (.inr ⟨o,O2 _ _ (λz=>by rw[z,hP] at hp;cases hp) hp⟩)
  .exact .inr hp
 refine af (gp (ao (wpAny_evalAll_nil (af (ao (ao ?_))))))
 refine bZ (am6 (Q:=Q) hc I3 hp2 h64 asc (λd hd pl s' H3 u I' S' ru=>?_) λH3 D S3 nd e3=>q H3 D (λb u nb e=>S3 _ _ (O2 b u nb e)) (nD D nd) e3) (λv s' ⟨y,H',J,r,qq⟩=>⟨y,H',J.unpinned,r,qq⟩) λ_ _ z=>z
 have g1:=(I'.pin (h'.objs.size,fo) (by simp)).1
 have g2:=(I'.pin (c',oc) (by simp)).1
 rw[<- ef] at g1
 have hl:[d.2].length=N.length:=hN.symm
 refine kZ (f8 (ax7 (k:=j) (E:=λ_ _ _=>False) (Q:=λv H4=>v=.int d.1/\Same H3 H4) hr.in1.in1 I'.env0.in1.in1 g1 ⟨c',oc,vs,t,rfl,g2,hdc,hvc⟩ S (hb _ _ _ _ u) hl (.cons ru .nil) λhr'=>?_) λr s'' hq=>?_)
 .refine⟨_,(ao3 n _ _ (ac1 S hv T hr')).1 lb (λ_ _ _=>False) (λ_ _ _ h=>h),?_⟩
  rw[rd]
  exact hk d hd H3 (λb u nb e=>S' _ _ (O2 b u nb e))
 .cases r with
  |error e=>exact cq hq
  |ok fl=>
   cases fl with
   |ret u=>exact I'.after hq
   |next=>exact cq hq
   |brk=>exact cq hq
   |cont=>exact cq hq
end
theorem a52 {P:aX} {w:bB} {K:ac} {mg:Str->Option ai} {base:Heap} {x qual:Str} {st:Stmt} {f:Addr} {fd:a8} {dV:ai} {a lb:Expr} {da dl:DE} {p kp lpos pos rp:Pos} {c Pt bm:Addr} {lp:Arguments} {ls:Scope} {N ps N':List Str} {j m n:Nat} {gb gb':List (Str×GB)} {bl:List Str} {sp:Sp}
  (F:FunD K x qual st f fd dV) (S:Cw N ps (Aq st)) (hv:Nv N (Aq st)=true) (T:Tab P w K mg base (j+3) gb bl) (T':Tab P w K mg base j gb' bl) (hst:Bl st=[.Return (some (.Call (.Name "sorted" p) [a] [⟨some "key", .Lambda lp lb ls lpos,kp⟩] pos)) rp])
  (hg:(Aq st).names.lookup ("sorted" : Str)=some .globalImplicit) (hm:mg "sorted" = none) (hs:Ba a=true) (hcode:fd.code=.ref c) (hd:dM K c Pt=true) (hbm:mg "__builtins__" = some (.ref bm)) (hcl:∀ env,jP ls env=pure []) (hdf:∀ env,defaultsOf lp env=([],[]))
  (S':Cw N' N' ls) (hv':Nv N' ls=true) (hN:N'.length=1) (hb:∀ (q:Str) (pm cd ct:ai) (u:ai),g_ (j0 "<lambda>" q lp lb ls [] pm cd ct) ⟨[u],[]⟩=pure (N'.zip [u])) (rd:wE n (Sv K N' ls gb' bl) lb=dl) (ra:wE m (Sv K N (Aq st) gb bl) a=da)
  (len:∀ vs H Q E,sp vs H Q E->vs.length=ps.length) (hsp:∀ (vs:List V) (H:Hp) (Q:VK) (E:XK),sp vs H Q E->a03 K Pt bm N' dl da (D0 N vs) H Q (λ_ _=>False)):FnOk P w K mg base CX0 (j+4) f fd ps sp:=by
 obtain⟨oc,od,kV,doc,pm,an,cdv,ct,osl,rfl,lk,hcd⟩:=F.ex
 obtain rfl:cdv=.ref c:=hcode
 refine a05 (k:=j+3) lk hcd S len λA outer s H vs Q E hr hq=>?_
 have O:=ac1 (qual:=qual) (f:=f) (cdv:=.ref c) (A:=A) (outer:=outer) (s:=s) (H:=H) (E:=E) S hv T hr
 have ha:=(ao3 m _ _ O).1 a
 rw[ra] at ha
 have h:=Rl (ai5 (pos:=rp) (aw7 (X:=(J5 CX0 P w K mg base N qual (Aq st) f (.ref c) A outer s H E).nox) (p:=p) (kp:=kp) (lpos:=lpos) (pos:=pos) (bm:=bm) rfl hg hm ha hs hr T' rfl hd hbm (hcl _) (hdf _) S' hv' hN hb rd)) Wq (λ_ _ _=>False) (λ_ _ _ h=>h)
 rw[hst]
 exact⟨_,h.nox,hsp vs H Q E hq⟩
noncomputable def Z3 (H:Hp) (Pt bm:Addr):Prop:=H Pt=some (.tbl #[]) /\ ∃ ob u,H bm=some (.frz ob u)/\ob.cls=.type "module" /\ ob.dict=some iW/\ob.data=.plain
theorem Xy {P:aX} {w:bB} {K:ac} {mg mb:Str->Option ai} {k:Nat} {fa a c Pt bm:Addr} {fd:a8} {x:Str} {sp:Sp} {s₁:am} {vs:List ai} {ns:List Int} {ob:Obj}
  (KX:K.In s₁.heap) (hns:s₁.heap.Ns mainGlobals mg) (hb:s₁.heap.Ns iW mb) (hbb:∀ x:Str,x ≠ "__name__" -> mb x=cV x) (htk:Vx K s₁.toks) (hlim:s₁.heap.NoLimit) (hg:s₁.gens = #[])
  (ha:s₁.heap.get? a=some { cls:=.type "list", data:=.seq vs.toArray }) (hi:ke vs ns) (hl:ns.length<=sizeLine) (hr:Room k lH)
  (F:∀ base:Heap,K.In base->base.Ns mainGlobals mg->FnOk P w K mg base CX0 k fa fd [x] sp) (hbind:∀ (s:am) (u:ai),kO s fd ⟨[u],[]⟩ [(x,u)])
  (hP:s₁.heap.get? Pt=some (fU #[])) (hT:isCodeTable s₁.heap Pt) (hB:s₁.heap.get? bm=some ob) (b1:ob.cls=.type "module") (b2:ob.dict=some iW) (b3:ob.data=.plain) (kP:K.lookup Pt=none) (kB:K.lookup bm=none) (kA:K.lookup a=none)
  (hsp:∀ H:Hp,Z3 H Pt bm->SqL K H a (ns.map V.int)->sp [.ref a] H (λv _=>v=.bl true) λ_ _ _=>False) :
  iB (model P w) lH (.call (.ref fa) ⟨[.ref a],[]⟩) (λr s'=>r=.ok (.ret (.bool true))/\OldK s₁.heap s'.heap/\s'.os=s₁.os/\j7 s'.gens) s₁:=by
 have rv:=Nr hi
 have n1:Pt≠a:=λz=>by rw[z,ha] at hP;cases hP
 have n2:bm≠a:=λz=>by
  rw[z,ha] at hB
  cases hB
  have b1:dN "list" = dN "module" := b1
  injection b1 with b1
  exact absurd b1 (by decide)
 have n3:bm≠Pt:=λz=>by rw[z,hP] at hB;cases hB;cases b1
 let H:Hp:=λb=>if b=a then some (.frz { cls:=.type "list", data:=.seq vs.toArray } (.lst (ns.map V.int))) else if b=Pt then some (.tbl #[]) else if b=bm then some (.frz ob (.ext λ_=>True)) else none
 have eA:H a=some (.frz { cls:=.type "list", data:=.seq vs.toArray } (.lst (ns.map V.int))):=if_pos rfl
 have eP:H Pt=some (.tbl #[]):=by show (if _ then _ else _)=_;rw[if_neg n1,if_pos rfl]
 have eB:H bm=some (.frz ob (.ext λ_=>True)):=by show (if _ then _ else _)=_;rw[if_neg n2,if_neg n3,if_pos rfl]
 have only:∀ b u,H b=some u->(b=a/\u=.frz { cls:=.type "list", data:=.seq vs.toArray } (.lst (ns.map V.int)))\/(b=Pt/\u=.tbl #[])\/(b=bm/\u=.frz ob (.ext λ_=>True)):=λb u e=>by
  by_cases z:b=a
  .rw[z,eA] at e;exact .inl ⟨z,(aH e).symm⟩
  by_cases z2:b=Pt
  .rw[z2,eP] at e;exact .inr (.inl ⟨z2,(aH e).symm⟩)
  by_cases z3:b=bm
  .rw[z3,eB] at e;exact .inr (.inr ⟨z3,(aH e).symm⟩)
  have e:(if b=a then _ else if b=Pt then _ else if b=bm then _ else none)=some u:=e
  rw[if_neg z,if_neg z2,if_neg z3] at e
  cases e
 have hok:HOk P w H s₁.heap:=λb u e=>by
  rcases only b u e with ⟨rfl,rfl⟩|⟨rfl,rfl⟩|⟨rfl,rfl⟩
  .exact⟨ha,by rw[ae];exact hl,vs,_,rv,ha⟩
  .exact hP
  .exact⟨hB,trivial,⟨ob,hB⟩,λ_ _ _ _=>trivial⟩
 have base_of:∀ {b:Addr} {o:Obj},s₁.heap.get? b=some o->H b=none->(Oj s₁.heap H).get? b=some o:=λe n=>ac2 e n
 have noA:∀ {b:Addr} {o:Obj} {es:Array lB} {ep:Nat},s₁.heap.get? b=some o->o.data=.dict es ep->H b=none:=λ{b o es ep} e d=>by
  cases q:H b with
  |none=>rfl
  |some u=>
   rcases only b u q with ⟨rfl,_⟩|⟨rfl,_⟩|⟨rfl,_⟩
   .rw[ha] at e;cases e;cases d
   .rw[hP] at e;cases e;cases d
   .rw[hB] at e;cases e;rw[b3] at d;cases d
 have nsK:∀ {b:Addr} {m:Str->Option ai},s₁.heap.Ns b m->(Oj s₁.heap H).Ns b m:=λ{b m} ⟨o,es,ep,e,d,r⟩=>⟨o,es,ep,base_of e (noA e d),d,r⟩
 have hKb:K.In (Oj s₁.heap H):=λb o e=>base_of (KX b o e) (by
  cases q:H b with
  |none=>rfl
  |some u=>
   rcases only b u q with ⟨rfl,_⟩|⟨rfl,_⟩|⟨rfl,_⟩
   .rw[kA] at e;cases e
   .rw[kP] at e;cases e
   .rw[kB] at e;cases e)
 have hM:Mod K mg (Oj s₁.heap H):=⟨hKb,nsK hns,⟨mb,nsK hb,hbb⟩,let ⟨mc,h1,h2⟩:=hlim;⟨mc,nsK h1,h2⟩⟩
 have e0:Env0 P w K mg (Oj s₁.heap H) lH [] s₁ H:=⟨rfl,hM,λb o e=>at9 e,lh (Xr _ _),trivial,λb hb=>absurd (show b∈([]:List Addr) from hb) (by simp),hok,.of_eq hg,htk⟩
 refine f8 ((F _ hKb (nsK hns)).run lH [] s₁ H ⟨[.ref a],[]⟩ [.ref a] [.ref a] _ _ hr e0 (hbind s₁ (.ref a)) (.cons rfl .nil) (hsp H ⟨eP,ob,_,eB,b1,b2,b3⟩ (.inl (.inr ⟨_,eA⟩)))) λr s' h=>?_
 cases r with
 |error e=>exact cq h
 |ok fl=>
  cases fl with
  |next=>exact cq h
  |brk=>exact cq h
  |cont=>exact cq h
  |ret u=>
   obtain⟨v,H',os,bare,un,hok',r',q⟩:=h
   have q':v=.bl true:=q
   subst q'
   obtain rfl:u=jO true:=r'
   have keep:∀ b o,b≠Pt->s₁.heap.get? b=some o->s'.heap.get? b=some o:=λb o nb e=>by
    cases q:H b with
    |none=>exact un.keep b o e q (by intro z;exact absurd (show b∈([]:List Addr) from z) (by simp)) (by simp)
    |some u=>
     have fz:∀ {o':Obj} {u':HO},H b=some (.frz o' u')->s'.heap.get? b=some o:=λz=>by
      have z2:=un.frzs b _ _ z
      obtain⟨e1,_⟩:=hok b _ z
      obtain⟨e2,_⟩:=hok' b _ z2
      rw[e] at e1;cases e1
      exact e2
     rcases only b u q with ⟨rfl,rfl⟩|⟨rfl,_⟩|⟨rfl,rfl⟩
     .exact fz eA
     .exact absurd rfl nb
     .exact fz eB
   obtain⟨more,hm⟩:=un.tbls Pt #[] eP
   have gP:s'.heap.get? Pt=some (fU (#[]++more)):=hok' Pt _ hm
   refine⟨rfl,⟨λb o e=>?_,λb o e=>?_⟩,os.1,bare⟩
   .by_cases z:b=Pt
    .subst z
     rw[hP] at e
     cases e
     exact .inr (.inl ⟨hT,rfl,#[],#[]++more,rfl,by rw[Array.empty_append];exact gP⟩)
    .exact .inl (keep b o z e)
   .by_cases z:b=Pt
    .exact⟨_,z▸gP⟩
    .exact⟨o,keep b o z e⟩
theorem walk_ofT {l:jF} {n k:Nat} {q:aX} {loose:List Str} {XP:(Str->Option ai)->Heap->Prop} {YP:bB->Heap->Prop} {d:DefRec} {K:Params->ac} {sp:bB->Sp} {x:Str} {Pt bm:Addr}
  (hT:∀ (w:bB) (m:Nat),Vx (K w.params) m) (hn:l.most=some n) (hn2:n<=sizeLine) (hdf:d.params.defaults=[]) (hr:Room k lH)
  (hY:∀ (w:bB) (h:Heap),YP w h->(K w.params).In h/\h.get? Pt=some (fU #[]))
  (hK:∀ w:bB,(∃ c,dM (K w.params) c Pt=true)/\(K w.params).lookup Pt=none/\(K w.params).lookup bm=none/\dm (K w.params) mainGlobals "__builtins__" = some (some (.ref bm))/\((K w.params).all λp=>!(p.2.cls==dN "list"))=true)
  (F:∀ (w:bB) (mg:Str->Option ai) (fa:Addr) (h:Heap),(K w.params).In h->h.Ns mainGlobals mg->mg d.name=some (.ref fa) ->
   ∃ fd:a8,(∀ (s:am) (u:ai),kO s fd ⟨[u],[]⟩ [(x,u)]) /\ ∀ base:Heap,(K w.params).In base->base.Ns mainGlobals mg->FnOk l.prog w (K w.params) mg base CX0 k fa fd [x] (sp w))
  (hsp:∀ (w:bB) (H:Hp) (a:Addr) (ns:List Int),ns.length<=n->Z3 H Pt bm->SqL (K w.params) H a (ns.map V.int)->sp w [.ref a] H (λv _=>v=.bl true) λ_ _ _=>False) :
  PySem.W.WalkO q loose XP YP l.row.toRowW d [] (λf vs=>PySem.call f vs):=by
 refine Att.attach_call hn hdf λw s₀ s₁ mg mb fa o pm cd doc a vs ns G Y ho hd hcd hmg hobj hints hlen hg=>?_
 obtain⟨KX,hP⟩:=hY w _ Y
 obtain⟨⟨c,k1⟩,k2,k3,k4,k5⟩:=hK w
 obtain⟨fd,hb,hF⟩:=F w mg fa _ KX G.T.g hmg
 obtain⟨bm',ob,c1,c2,c3,c4,c5,c6⟩:=G.T.bmain
 have eb:bm'=bm:=by
  have:=g8 KX G.T.g k4
  rw[c1] at this
  injection this with this
  injection this
 subst eb
 have kA:(K w.params).lookup a=none:=by
  cases e:(K w.params).lookup a with
  |none=>rfl
  |some o=>
   have:=KX a o e
   rw[hobj] at this
   cases this
   have:=List.all_eq_true.mp k5 _ (PySem.W.mem_of_lookupK e)
   simp at this
 exact Xy (c:=c) KX G.T.g G.T.b G.T.builtins (hT _ _) G.T.nolimit hg hobj hints (aY hlen hn2) hr hF hb hP (((kg KX k1).tab hP).isCodeTable) c3 c4 c5 c6 k2 k3 kA λH h1 h2=>hsp w H a ns hlen h1 h2
theorem Same.upd {H:Hp} {a:Addr} {o:HO} (h:H a=none):Same H (upd H a o):=λb u e=>by rw[Ad (Ai e h)];exact e
theorem Same.set {H H':Hp} {a:Addr} {o:HO} (s:Same H H') (h:H a=none):Same H (L2.upd H' a o):=λb u e=>by rw[Ad (Ai e h)];exact s b u e
theorem Same.seqT {K:ac} {H H':Hp} {a:Addr} {xs:List V} (e:Same H H') (h:SqT K H a xs):SqT K H' a xs:=by
 rcases h with (h|⟨o,h⟩)|h
 .exact .inl (.inl (e _ _ h))
 .exact .inl (.inr ⟨o,e _ _ h⟩)
 .exact .inr h
structure Cp (J:It) (its:List V) (ok:Hp->Prop):Prop where
 go:∀ i H,ok H->i<its.length->J.go i H
 stop:∀ H,ok H->J.stop its.length H
 yld:∀ i H x H',ok H->i<its.length->J.yld i H x H'->H'=H/\its[i]? = some x
structure Jh (J:It) (its:List (V×V)) (ok:Hp->Prop):Prop where
 go:∀ i H,ok H->i<its.length->J.go i H
 stop:∀ H,ok H->J.stop its.length H
 yld:∀ i H v H',ok H->i<its.length->J.yld i H v H' -> ∃ T x y,H T=none/\v=.ref T/\its[i]? = some (x,y)/\H'=upd H T (.tup [x,y])
noncomputable def Fi (z:Str):List V:=z.cps.toList.map λc=>V.str ⟨#[c]⟩
theorem bi9 (z:Str):Cp (Its z) (Fi z) (λ_=>True):=by
 have e:(Fi z).length=z.cps.size:=by unfold Fi;simp
 refine⟨λi H _ h=>?_,λH _=>?_,λi H x H' _ _ h=>?_⟩
 .show i<z.cps.size;omega
 .show (Fi z).length=z.cps.size;exact e
 .obtain⟨h1,c,h2,h3⟩:=h
  refine⟨h1,?_⟩
  unfold Fi
  rw[ak,cJ,h2,h3]
  rfl
theorem Ap {K:ac} {a:Addr} (xs:List V):Cp (Itl K a) xs (λH=>SqL K H a xs):=by
 refine⟨λi H q h=>⟨xs,xs[i],q,by simp[h]⟩,λH q=>⟨xs,q,ah _⟩,λi H x H' q _ h=>?_⟩
 obtain⟨h1,h2⟩:=h
 exact⟨h1,h2 xs q⟩
theorem ao5 {K:ac} {a:Addr} (xs:List V):Cp (Itt K a) xs (λH=>SqT K H a xs):=by
 refine⟨λi H q h=>⟨xs,xs[i],q,by simp[h]⟩,λH q=>⟨xs,q,ah _⟩,λi H x H' q _ h=>?_⟩
 obtain⟨h1,h2⟩:=h
 exact⟨h1,h2 xs q⟩
noncomputable def Uf (lo:Int) (n:Nat):List V:=(ay n).map λ(i:Nat)=>V.int (lo+(i:Int))
theorem A7 (lo:Int) (n:Nat):(Uf lo n).length=n:=by unfold Uf;simp
theorem Rp {lo:Int} {n i:Nat} (h:i<n):(Uf lo n)[i]? = some (.int (lo+(i:Int))):=by unfold Uf;simp[h]
theorem Bp (lo:Int) (n:Nat):Cp (Itr lo n) (Uf lo n) (λ_=>True):=by
 refine⟨λi H _ h=>?_,λH _=>?_,λi H x H' _ hi h=>?_⟩
 .rw[A7] at h;exact h
 .show n<=(Uf lo n).length;rw[A7];exact ah _
 .obtain⟨h1,h2⟩:=h
  rw[A7] at hi
  exact⟨h1,by rw[Rp hi,h2]⟩
noncomputable def Eg:Nat->List V->List (V×V)
 |_,[]=>[]
 |k,x::r=>(.int k,x)::Eg (k+1) r
theorem Bo:∀ (k:Nat) (xs:List V),(Eg k xs).length=xs.length
 |_,[]=>rfl
 |k,_::r=>by rw[Eg,aO,aO,Bo (k+1) r]
theorem Cr:∀ {k i:Nat} {xs:List V} {x:V},xs[i]? = some x->(Eg k xs)[i]? = some (.int ((k+i:Nat):Int),x)
 |_,_,[],_,h=>by simp at h
 | k,0,y::r,x,h=>by
  simp only[dA,fJ] at h
  subst h
  rfl
 | k,i+1,y::r,x,h=>by
  rw[bx] at h
  rw[Eg,bx,Cr h]
  congr 4
  omega
theorem E3 {K:ac} {a:Addr} (xs:List V):Jh (Ite K a) (Eg 0 xs) (λH=>SqL K H a xs):=by
 have e:=Bo 0 xs
 refine⟨λi H q h=>⟨xs,xs[i]'(by omega),q,by simp⟩,λH q=>⟨xs,q,by omega⟩,λi H v H' q _ h=>?_⟩
 obtain⟨T,x,hT,h1,h2,h4⟩:=h
 refine⟨T,.int i,x,hT,h1,?_,h4⟩
 have:=Cr (k:=0) (h2 xs q)
 rw[cT] at this
 exact this
section
variable {J:It} {its:List V} {ok:Hp->Prop} {g:DG} {tb:DS} {D:Outs} {U:St} {H:Hp}
theorem Bg (Y:Cp J its ok) (Pv:Nat->St->Hp->Prop) (h0:Pv 0 U H) (hok:∀ i U H,i<=its.length->Pv i U H->ok H)
  (hs:∀ i x U H,its[i]? = some x->Pv i U H->g x U H λU2 H2=>tb (D.lp (Pv (i+1))) U2 H2) (hd:∀ U H,Pv its.length U H->D.nx U H):F0 J g tb D U H:=by
 refine⟨λi m U H=>m=its.length - i/\i<=its.length/\Pv i U H,⟨its.length,by simp,bb _,h0⟩,?_⟩
 rintro i m U H ⟨rfl,hi,p⟩
 by_cases hlt:i<its.length
 .refine .inr ⟨Y.go i H (hok i U H hi p) hlt,Pv (i+1),λU' H' p'=>⟨its.length - (i+1),by omega,rfl,hlt,p'⟩,λx H' y=>?_⟩
  obtain⟨e,y2⟩:=Y.yld i H x H' (hok i U H hi p) hlt y
  subst e
  exact hs i x U _ y2 p
 .have e:i=its.length:=by omega
  subst e
  exact .inl ⟨Y.stop H (hok _ U H hi p),hd U H p⟩
theorem Gr {its:List (V×V)} (Y:Jh J its ok) (Pv:Nat->St->Hp->Prop) (h0:Pv 0 U H) (hok:∀ i U H,i<=its.length->Pv i U H->ok H)
  (hs:∀ i x y T U H,its[i]? = some (x,y)->H T=none->Pv i U H->g (.ref T) U (upd H T (.tup [x,y])) λU2 H2=>tb (D.lp (Pv (i+1))) U2 H2) (hd:∀ U H,Pv its.length U H->D.nx U H):F0 J g tb D U H:=by
 refine⟨λi m U H=>m=its.length - i/\i<=its.length/\Pv i U H,⟨its.length,by simp,bb _,h0⟩,?_⟩
 rintro i m U H ⟨rfl,hi,p⟩
 by_cases hlt:i<its.length
 .refine .inr ⟨Y.go i H (hok i U H hi p) hlt,Pv (i+1),λU' H' p'=>⟨its.length - (i+1),by omega,rfl,hlt,p'⟩,λx H' y=>?_⟩
  obtain⟨T,u,v,hT,e1,e2,e3⟩:=Y.yld i H x H' (hok i U H hi p) hlt y
  subst e1 e3
  exact hs i u v T U _ e2 hT p
 .have e:i=its.length:=by omega
  subst e
  exact .inl ⟨Y.stop H (hok _ U H hi p),hd U H p⟩
variable {tc:DT} {te:DE} {L:Addr} {R:Hp->Prop} {E:EK}
theorem Bq (Y:Cp J its ok) (Pv:Nat->St->Hp->Prop) (h0:Pv 0 U H) (hok:∀ i U H,i<=its.length->Pv i U H->ok H)
  (hs:∀ i x U H,its[i]? = some x->Pv i U H->g x U H λU3 H3=>tc U3 H3 (λb H4=>if b=true then te U3 H4 (λv H5=>∃ ys,H5 L=some (.lst ys)/\ys.length<sizeLine/\Pv (i+1) U3 (upd H5 L (.lst (ys++[v])))) E else Pv (i+1) U3 H4) E)
  (hd:∀ U H,Pv its.length U H->R H):E8 J g tc te L R U H E:=by
 refine⟨λi m U H=>m=its.length - i/\i<=its.length/\Pv i U H,⟨its.length,by simp,bb _,h0⟩,?_⟩
 rintro i m U H ⟨rfl,hi,p⟩
 by_cases hlt:i<its.length
 .refine .inr ⟨Y.go i H (hok i U H hi p) hlt,Pv (i+1),λU' H' p'=>⟨its.length - (i+1),by omega,rfl,hlt,p'⟩,λx H' y=>?_⟩
  obtain⟨e,y2⟩:=Y.yld i H x H' (hok i U H hi p) hlt y
  subst e
  exact hs i x U _ y2 p
 .have e:i=its.length:=by omega
  subst e
  exact .inl ⟨Y.stop H (hok _ U H hi p),hd U H p⟩
theorem N7 {its:List (V×V)} (Y:Jh J its ok) (Pv:Nat->St->Hp->Prop) (h0:Pv 0 U H) (hok:∀ i U H,i<=its.length->Pv i U H->ok H)
  (hs:∀ i x y T U H,its[i]? = some (x,y)->H T=none->Pv i U H->g (.ref T) U (upd H T (.tup [x,y])) λU3 H3=>tc U3 H3 (λb H4=>if b=true then te U3 H4 (λv H5=>∃ ys,H5 L=some (.lst ys)/\ys.length<sizeLine/\Pv (i+1) U3 (upd H5 L (.lst (ys++[v])))) E else Pv (i+1) U3 H4) E)
  (hd:∀ U H,Pv its.length U H->R H):E8 J g tc te L R U H E:=by
 refine⟨λi m U H=>m=its.length - i/\i<=its.length/\Pv i U H,⟨its.length,by simp,bb _,h0⟩,?_⟩
 rintro i m U H ⟨rfl,hi,p⟩
 by_cases hlt:i<its.length
 .refine .inr ⟨Y.go i H (hok i U H hi p) hlt,Pv (i+1),λU' H' p'=>⟨its.length - (i+1),by omega,rfl,hlt,p'⟩,λx H' y=>?_⟩
  obtain⟨T,u,v,hT,e1,e2,e3⟩:=Y.yld i H x H' (hok i U H hi p) hlt y
  subst e1 e3
  exact hs i u v T U _ e2 hT p
 .have e:i=its.length:=by omega
  subst e
  exact .inl ⟨Y.stop H (hok _ U H hi p),hd U H p⟩
theorem E6 {α β:Type} {its:List α} {i:Nat} {x:α} (h:its[i]? = some x) (p:α->Bool) (f:α->β):((its.take (i+1)).filter p).map f=((its.take i).filter p).map f++(if p x=true then [f x] else []):=by
 rw[aA,h]
 simp only[cD,cO,aq]
 congr 1
 cases e:p x <;> simp[e]
theorem N8 (Y:Cp J its ok) (Sg:St->Prop) (p:V->Bool) (f:V->V) (h0:H L=none) (hok:∀ H1,Same H H1->ok H1) (hn:its.length<sizeLine) (hU:Sg U)
  (hs:∀ x U H1,x∈its->Sg U->Same H H1 -> ∀ (Fin:V->St->Hp->Prop) (Skip:St->Hp->Prop),(∀ v U3 H5,Sg U3->Same H1 H5->p x=true->v=f x->Fin v U3 H5)->(∀ U3 H4,Sg U3->Same H1 H4->p x=false->Skip U3 H4) ->
   g x U H1 λU3 H3=>tc U3 H3 (λb H4=>if b=true then te U3 H4 (λv H5=>Fin v U3 H5) E else Skip U3 H4) E)
  (hd:∀ H',Same H H'->H' L=some (.lst ((its.filter p).map f))->R H'):E8 J g tc te L R U (upd H L (.lst [])) E:=by
 refine Bq Y (λi U' H'=>Sg U'/\Same H H'/\H' L=some (.lst (((its.take i).filter p).map f))) ⟨hU,Same.upd h0,Aa⟩ (λi U' H' _ q=>hok H' q.2.1) ?_ ?_
 .rintro i x U' H' hx ⟨q1,q2,q3⟩
  have hi:i<its.length:=(List.getElem?_eq_some_iff.mp hx).1
  refine hs x U' H' (al hx) q1 q2 (λv U3 H5=>∃ ys,H5 L=some (.lst ys)/\ys.length<sizeLine/\Sg U3/\Same H (upd H5 L (.lst (ys++[v])))/\upd H5 L (.lst (ys++[v])) L=some (.lst (((its.take (i+1)).filter p).map f)))
   (λU3 H4=>Sg U3/\Same H H4/\H4 L=some (.lst (((its.take (i+1)).filter p).map f))) (λv U3 H5 s1 s2 hp hv=>?_) (λU3 H4 s1 s2 hp=>?_)
  .refine⟨_,s2 _ _ q3,?_,s1,(q2.trans s2).set h0,?_⟩
   .rw[ae]
    have h1:=bu p (its.take i)
    have h2:(its.take i).length<=i:=by rw[aG];omega
    omega
   .rw[Aa,E6 hx,if_pos hp,hv]
  .refine⟨s1,q2.trans s2,?_⟩
   rw[s2 _ _ q3,E6 hx,if_neg (by rw[hp];exact av),bI]
 .rintro U' H' ⟨_,q2,q3⟩
  rw[aw] at q3
  exact hd H' q2 q3
end
section
variable {K:ac} {H H':Hp}
theorem Same.seqL {a:Addr} {xs:List V} (e:Same H H') (h:SqL K H a xs):SqL K H' a xs:=by
 rcases h with (h|⟨o,h⟩)|h
 .exact .inl (.inl (e _ _ h))
 .exact .inl (.inr ⟨o,e _ _ h⟩)
 .exact .inr h
noncomputable def ay3 (z:Str):Dt:=.at_ (.str z)
theorem Z4 {J:It} {its:List V} {ok:Hp->Prop} {te:DE} {U:St} {D:Addr} {R:Hp->Prop} {E:EK} (Y:Cp J its ok) (Sg:St->Prop) (hD:H D=none) (hok:∀ H1,Same H H1->ok H1) (hn:its.length<sizeLine) (hU:Sg U) (hS:∀ U x,Sg U->Sg (U.set 0 (some x)))
  (he:∀ x U H1 Q1,x∈its->Sg U->Same H H1->(∀ H2,Same H1 H2->Q1 (.bl true) H2)->te (U.set 0 (some x)) H1 Q1 E) (k:∀ H',Same H H'->SqL K H' D ((its.map λ_=>true).map V.bl)->R H') :
  E8 J (gdN 0) Cc te D R U (upd H D (.lst [])) E:=by
 refine N8 Y Sg (λ_=>true) (λ_=>.bl true) hD hok hn hU ?_ ?_
 .intro x U H1 hx hs S Fin Skip hF hK
  exact he x U H1 _ hx hs S λH2 S2=>hF _ _ _ (hS _ _ hs) S2 rfl rfl
 .intro H' S hD'
  exact k H' S (SqL.of (hD'.trans (by rw[List.filter_eq_self.mpr (λ_ _=>rfl),aI];rfl)))
theorem V2 (its:List V):((its.map λ_=>true).all λb=>b)=true:=by rw[gU,ba];exact λ_ _=>rfl
end
end L2
namespace L2
open PySem PySem.Spec PySem.W
theorem Il {K:ac} {fd:a8} {ps:List Str} {T:Addr} {o:Obj} {items:Array ai} {n:Nat} {ds:List ai} (m:Nat) (hd:fd.defaults=.ref T) (ho:K.lookup T=some o) (hs:o.data=.seq items n) (hm:m+ds.length=ps.length)
  (h:∀ us:List ai,us.length=m -> ∃ k:Option (Array ai)->Sem (List (Str×ai)),g_ fd ⟨us,[]⟩=seqItems? fd.defaults >>= k/\k (some items)=pure (ps.zip (us++ds))):Binds K fd ps ds:=
 Sj hd ho hs λus hl=>h us (by rw[aS] at hl;omega)
end L2
namespace Pn
open PySem L2
noncomputable abbrev Sw:=List (Str×List Str)
noncomputable def Ju (c:Nat):Bool:=decide (97<=c)&&decide (c<=122)
noncomputable def okW (z:Str):Prop:=1<=z.length/\z.length<=8/\z.cps.toList.all Ju=true
noncomputable def okL (l:List Str):Prop:=(∀ z∈l,okW z)/\l.Nodup/\l.length<=8
noncomputable def F4 (l:List Str):Prop:=okL l/\2<=l.length/\l.length<=4
noncomputable def Ca (sw:Sw):Nat:=sw.foldl (λn x=>n * x.2.length) 1
noncomputable def okSw (sw:Sw):Prop:=1<=sw.length/\sw.length<=5/\(sw.map (·.1)).Nodup/\(∀ x∈sw,okW x.1/\F4 x.2)/\Ca sw<=256
noncomputable def Ep (acc:List (List Str)) (x:Str×List Str):List (List Str):=acc.flatMap λa=>x.2.map λz=>a++[z]
noncomputable def Aj (sw:Sw):List (List Str):=sw.foldl Ep [[]]
noncomputable def Yo (ns:List Nat):Int:=ns.foldl (λ(c:Int) n=>c_ c (2 ^ n)) 0
noncomputable def Gf (ms:List Int):Int:=ms.foldl (λc m=>c_ c m) 0
noncomputable def Ds (p:Nat) (z:Str):Nat->List (List Str)->List Nat
 |_,[]=>[]
 |k,r::rs=>if r[p]? = some z then k::Ds p z (k+1) rs else Ds p z (k+1) rs
noncomputable def C7 (rows:List (List Str)) (p:Nat) (z:Str):Int:=Yo (Ds p z 0 rows)
noncomputable def Ga (sw:Sw) (w:Str):Nat:=sw.findIdx λx=>decide (x.1=w)
noncomputable def Iw (sw:Sw) (e:Str×List Str):Int:=Gf (e.2.map (C7 (Aj sw) (Ga sw e.1)))
noncomputable def Ny (sw:Sw):Int:=2 ^ (Aj sw).length - 1
noncomputable def aa0 (sw:Sw) (rule:Sw):Int:=rule.foldl (λc e=>bO c (Iw sw e)) (Ny sw)
noncomputable def Ik (sw:Sw) (rules:List Sw):List Int:=rules.map (aa0 sw)
noncomputable def Kb (sw:Sw) (rules:List Sw):Int:=bO (Ny sw) (cj (Gf (Ik sw rules)))
noncomputable def Hz (sw:Sw) (e:Str×List Str):Prop:=e.2≠[]/\okL e.2 /\ ∃ x∈sw,x.1=e.1 /\ ∀ z∈e.2,z∈x.2
noncomputable def Ey (sw:Sw) (rule:Sw):Prop:=rule≠[]/\rule.length<=100/\(rule.map (·.1)).Nodup /\ ∀ e∈rule,Hz sw e
theorem Nq (acc:List (List Str)) (x:Str×List Str):(Ep acc x).length=acc.length * x.2.length:=by
 unfold Ep
 induction acc with
 |nil=>simp
 |cons a acc ih=>rw[iL,aS,ih,ae,aO,Nat.add_mul,Nat.one_mul,lg]
theorem G6:∀ (sw:Sw) (acc:List (List Str)),(sw.foldl Ep acc).length=sw.foldl (λn x=>n * x.2.length) acc.length
 |[],_=>rfl
 |x::sw,acc=>by rw[bR,bR,G6 sw,Nq]
theorem G5 (sw:Sw):(Aj sw).length=Ca sw:=G6 sw [[]]
noncomputable def Ku (k:Nat) (rs:List (List Str)):Prop:=rs.Nodup/\(∀ r∈rs,r.length=k) /\ ∀ r∈rs,∀ z∈r,okW z
theorem am9 {k:Nat} {acc:List (List Str)} {x:Str×List Str} (h:Ku k acc) (hx:F4 x.2):Ku (k+1) (Ep acc x):=by
 obtain⟨h1,h2,h3⟩:=h
 refine⟨?_,?_,?_⟩
 .unfold Ep
  clear h3
  induction acc with
  |nil=>exact gR
  |cons a acc ih=>
   rw[iL,fH]
   rw[bS] at h1
   refine⟨?_,ih h1.2 (λr hr=>h2 r (az _ hr)),?_⟩
   .refine gG _ ?_ hx.1.2.1
    intro y z ne e
    exact ne (by simpa using e)
   .intro r hr q hq e
    subst e
    obtain⟨y,hy,rfl⟩:=List.mem_map.mp hr
    obtain⟨b,hb,hq⟩:=List.mem_flatMap.mp hq
    obtain⟨z,hz,e⟩:=List.mem_map.mp hq
    have:b=a/\z=y:=by simpa using e
    rw[this.1] at hb
    exact h1.1 hb
 .intro r hr
  obtain⟨b,hb,hq⟩:=List.mem_flatMap.mp hr
  obtain⟨z,hz,rfl⟩:=List.mem_map.mp hq
  rw[aS,h2 b hb]
  rfl
 .intro r hr y hy
  obtain⟨b,hb,hq⟩:=List.mem_flatMap.mp hr
  obtain⟨z,hz,rfl⟩:=List.mem_map.mp hq
  rcases List.mem_append.mp hy with hy|hy
  .exact h3 b hb y hy
  .have:y=z:=by simpa using hy
   subst this
   exact hx.1.1 _ hz
theorem Iv:∀ {sw:Sw} {k:Nat} {acc:List (List Str)},Ku k acc->(∀ x∈sw,F4 x.2)->Ku (k+sw.length) (sw.foldl Ep acc)
 |[],_,_,h,_=>h
 | x::sw,k,acc,h,hs=>by
  have:=Iv (am9 h (hs x (aN))) (λy hy=>hs y (az _ hy))
  rw[bR,aO,show k+(sw.length+1)=k+1+sw.length by omega]
  exact this
theorem G7 {sw:Sw} (h:∀ x∈sw,F4 x.2):Ku sw.length (Aj sw):=by
 have:=Iv (sw:=sw) (k:=0) (acc:=[[]]) ⟨by simp,by simp,by simp⟩ h
 rwa[cT] at this
theorem C1:∀ {sw:Sw} {n:Nat},1<=n->(∀ x∈sw,F4 x.2)->n<=sw.foldl (λn x=>n * x.2.length) n
 |[],n,_,_=>ah _
 | x::sw,n,h,hs=>by
  rw[bR]
  have h2:2<=x.2.length:=(hs x aN).2.1
  have:n<=n * x.2.length:=Nat.le_mul_of_pos_right _ (by omega)
  exact aY this (C1 (by omega) (λy hy=>hs y (az _ hy)))
theorem okSw.sets {sw:Sw} (h:okSw sw):∀ x∈sw,F4 x.2:=λx hx=>(h.2.2.2.1 x hx).2
theorem okSw.len {sw:Sw} (h:okSw sw):(Aj sw).length<=256:=by rw[G5];exact h.2.2.2.2
theorem okSw.pos {sw:Sw} (h:okSw sw):1<=(Aj sw).length:=by rw[G5];exact C1 (ah 1) h.sets
theorem Yg {sw:Sw} (h:okSw sw) (i:Nat):Ca (sw.take i)<=Ca sw:=by
 conv=>rhs;rw[<- List.take_append_drop i sw]
 unfold Ca
 rw[fG]
 exact C1 (C1 (ah 1) λx hx=>h.sets x (fO hx)) λx hx=>h.sets x (List.mem_of_mem_drop hx)
theorem Cf {α β:Type} {l:List α} {i:Nat} {x:α} (h:l[i]? = some x) (f:β->α->β) (b:β):(l.take (i+1)).foldl f b=f ((l.take i).foldl f b) x:=by
 rw[aA,h,cD,fG]
 rfl
theorem By {α β:Type} {l:List α} {i:Nat} {x:α} (h:l[i]? = some x) (f:α->β):(l.take (i+1)).map f=(l.take i).map f++[f x]:=by
 rw[aA,h,cD,aq]
 rfl
noncomputable abbrev Own (ok:Addr->Prop) (H:Hp) (a:Addr) (o:HO):Prop:=ok a/\H a=some o
noncomputable abbrev Kp (ok:Addr->Prop) (H:Hp) (ok':Addr->Prop) (H':Hp):Prop:=∀ a o,Own ok H a o->Own ok' H' a o
noncomputable abbrev fresh (H:Hp):Addr->Prop:=λa=>H a=none
noncomputable abbrev any:Addr->Prop:=λ_=>True
theorem Kp.same {ok:Addr->Prop} {H H':Hp} (S:Same H H'):Kp ok H ok H':=λa o h=>⟨h.1,S _ _ h.2⟩
theorem Kp.any {ok:Addr->Prop} {H:Hp}:Kp ok H Pn.any H:=λa o h=>⟨trivial,h.2⟩
theorem Kp.weak {ok ok':Addr->Prop} {H:Hp} (h:∀ a,ok a->ok' a):Kp ok H ok' H:=λa o q=>⟨h a q.1,q.2⟩
theorem Kp.trans {ok1 ok2 ok3:Addr->Prop} {H1 H2 H3:Hp} (h:Kp ok1 H1 ok2 H2) (g:Kp ok2 H2 ok3 H3):Kp ok1 H1 ok3 H3:=λa o q=>g a o (h a o q)
theorem Ym {H H':Hp} (S:Same H H') {a:Addr} (h:H' a=none):H a=none:=by
 cases e:H a with
 |none=>rfl
 |some o=>rw[S _ _ e] at h;cases h
theorem Kp.fresh {H1 H2 H:Hp} (S:Same H1 H2):Kp (fresh H2) H (Pn.fresh H1) H:=Kp.weak λa h=>Ym S h
theorem Kp.off {ok:Addr->Prop} {H:Hp} {p:Addr} {o:HO} (h:¬ ok p):Kp ok H ok (upd H p o):=λa u q=>⟨q.1,by
 have n:a≠p:=λe=>h (by rw[<- e];exact q.1)
 rw[Ad n];exact q.2⟩
noncomputable abbrev kR (x:(Str×List Str)×Addr):Key×V:=(.inr x.1.1,.ref x.2)
noncomputable abbrev Db (r:List Str):HO:=.tup (r.map V.str)
noncomputable abbrev Au (r:List Str):HO:=.lst (r.map V.str)
noncomputable def SwAt (ok:Addr->Prop) (H:Hp) (d:Addr) (sw:Sw):Prop:=∃ ds:List ((Str×List Str)×Addr),ds.map (·.1)=sw/\Own ok H d (.dK (ds.map kR)) /\ ∀ x∈ds,Own ok H x.2 (Db x.1.2)
noncomputable def RuleAt (ok:Addr->Prop) (H:Hp) (d:Addr) (sw:Sw):Prop:=∃ ds:List ((Str×List Str)×Addr),ds.map (·.1)=sw/\Own ok H d (.dK (ds.map kR)) /\ ∀ x∈ds,Own ok H x.2 (Au x.1.2)
noncomputable def TupsAt (ok:Addr->Prop) (H:Hp) (l:Addr) (rows:List (List Str)):Prop:=∃ ds:List (List Str×Addr),ds.map (·.1)=rows/\Own ok H l (.lst (ds.map λx=>.ref x.2)) /\ ∀ x∈ds,Own ok H x.2 (Db x.1)
noncomputable def SwIn (ok:Addr->Prop) (H:Hp) (l:Addr) (sw:Sw):Prop:=∃ ds:List (((Str×List Str)×Addr)×Addr),ds.map (·.1.1)=sw/\Own ok H l (.lst (ds.map λx=>.ref x.2)) /\ ∀ x∈ds,Own ok H x.2 (.tup [.str x.1.1.1,.ref x.1.2])/\Own ok H x.1.2 (Au x.1.1.2)
noncomputable def Ly (r:List Str):TK:=.tup (r.map λz=>.at_ (.inr z))
noncomputable def Kt (k:Nat):List (List Str)->List (TK×V)
 |[]=>[]
 |r::rs=>(Ly r,.int (k:Int))::Kt (k+1) rs
noncomputable def NumAt (ok:Addr->Prop) (H:Hp) (n:Addr) (rows:List (List Str)):Prop:=Own ok H n (.dT (Kt 0 rows))
noncomputable def Ug (rows:List (List Str)) (i:Nat) (l:List Str):HO:=.dK (l.map λz=>(.inr z,.int (C7 rows i z)))
noncomputable def SetsAt (ok:Addr->Prop) (H:Hp) (d:Addr) (sw:Sw):Prop:=∃ ds:List ((Str×List Str)×Addr),ds.map (·.1)=sw/\Own ok H d (.dK (ds.map kR)) /\ ∀ i x,ds[i]? = some x->Own ok H x.2 (Ug (Aj sw) i x.1.2)
noncomputable def RulesAt (ok:Addr->Prop) (H:Hp) (k:Addr) (rules:List Sw):Prop:=∃ ds:List (Sw×Addr),ds.map (·.1)=rules/\Own ok H k (.lst (ds.map λx=>.ref x.2)) /\ ∀ x∈ds,RuleAt ok H x.2 x.1
section
variable {ok ok':Addr->Prop} {H H':Hp} {d:Addr} {sw:Sw} {rows:List (List Str)} {rules:List Sw}
theorem SwAt.mono (h:SwAt ok H d sw) (k:Kp ok H ok' H'):SwAt ok' H' d sw:=by
 obtain⟨ds,e,o,q⟩:=h;exact⟨ds,e,k _ _ o,λx hx=>k _ _ (q x hx)⟩
theorem RuleAt.mono (h:RuleAt ok H d sw) (k:Kp ok H ok' H'):RuleAt ok' H' d sw:=by
 obtain⟨ds,e,o,q⟩:=h;exact⟨ds,e,k _ _ o,λx hx=>k _ _ (q x hx)⟩
theorem TupsAt.mono (h:TupsAt ok H d rows) (k:Kp ok H ok' H'):TupsAt ok' H' d rows:=by
 obtain⟨ds,e,o,q⟩:=h;exact⟨ds,e,k _ _ o,λx hx=>k _ _ (q x hx)⟩
theorem SwIn.mono (h:SwIn ok H d sw) (k:Kp ok H ok' H'):SwIn ok' H' d sw:=by
 obtain⟨ds,e,o,q⟩:=h;exact⟨ds,e,k _ _ o,λx hx=>⟨k _ _ (q x hx).1,k _ _ (q x hx).2⟩⟩
theorem SetsAt.mono (h:SetsAt ok H d sw) (k:Kp ok H ok' H'):SetsAt ok' H' d sw:=by
 obtain⟨ds,e,o,q⟩:=h;exact⟨ds,e,k _ _ o,λi x hx=>k _ _ (q i x hx)⟩
theorem RulesAt.mono (h:RulesAt ok H d rules) (k:Kp ok H ok' H'):RulesAt ok' H' d rules:=by
 obtain⟨ds,e,o,q⟩:=h;exact⟨ds,e,k _ _ o,λx hx=>(q x hx).mono k⟩
theorem NumAt.mono (h:NumAt ok H d rows) (k:Kp ok H ok' H'):NumAt ok' H' d rows:=k _ _ h
end
noncomputable def bk4 (d l n s k b:Addr) (f:Int):List (Str×V):=[("settings", .ref d),("tuples", .ref l),("numbers", .ref n),("sets", .ref s),("kept_rules", .ref k),("bars", .ref b),("free", .int f)]
structure PanAt (C:Addr) (ok:Addr->Prop) (H:Hp) (p:Addr) (sw:Sw) (rules:List Sw) (dx d l n s k b:Addr):Prop where
 ins:Own ok H p (.ins C dx (bk4 d l n s k b (Kb sw rules)))
 sws:SwAt ok H d sw
 tps:TupsAt ok H l (Aj sw)
 nms:NumAt ok H n (Aj sw)
 sts:SetsAt ok H s sw
 rls:RulesAt ok H k rules
 brs:Own ok H b (.lst ((Ik sw rules).map V.int))
noncomputable def PanelAt (C:Addr) (ok:Addr->Prop) (H:Hp) (p:Addr) (sw:Sw) (rules:List Sw):Prop:=∃ dx d l n s k b,PanAt C ok H p sw rules dx d l n s k b
theorem PanelAt.mono {C p:Addr} {ok ok':Addr->Prop} {H H':Hp} {sw:Sw} {rules:List Sw} (h:PanelAt C ok H p sw rules) (k:Kp ok H ok' H'):PanelAt C ok' H' p sw rules:=by
 obtain⟨dx,d,l,n,s,kk,b,h⟩:=h
 exact⟨dx,d,l,n,s,kk,b,⟨k _ _ h.ins,h.sws.mono k,h.tps.mono k,h.nms.mono k,h.sts.mono k,h.rls.mono k,k _ _ h.brs⟩⟩
noncomputable def SelfAt (C:Addr) (ok:Addr->Prop) (H:Hp) (p l s:Addr):Prop:=∃ dx fs,Own ok H p (.ins C dx fs)/\fs.lookup ("tuples" : Str)=some (.ref l)/\fs.lookup ("sets" : Str)=some (.ref s) /\ ∀ m∈(["all_choices", "box", "many", "term", "read_rule", "read_rules"]:List Str),fs.lookup m=none
theorem SelfAt.mono {C p l s:Addr} {ok ok':Addr->Prop} {H H':Hp} (h:SelfAt C ok H p l s) (k:Kp ok H ok' H'):SelfAt C ok' H' p l s:=by
 obtain⟨dx,fs,o,q⟩:=h;exact⟨dx,fs,k _ _ o,q⟩
theorem Fy {p:Addr} {o:Obj} (kvs:List (Key×V)):Cp (Itd p o kvs) (kvs.map λkv=>kV kv.1) (λH=>H p=some (.frz o (.dK kvs))):=by
 refine⟨λi H q h=>⟨q,by simpa using h⟩,λH q=>⟨q,by simp⟩,λi H x H' q hi h=>?_⟩
 obtain⟨h1,k,v,h2,h3⟩:=h
 refine⟨h1,?_⟩
 rw[ak,h2,h3]
 rfl
theorem ao4 {p:Addr} {o:Obj} (kvs:List (Key×V)):Jh (Zz p o kvs) (Eg 0 (kvs.map λkv=>kV kv.1)) (λH=>H p=some (.frz o (.dK kvs))):=by
 have e:(Eg 0 (kvs.map λkv=>kV kv.1)).length=kvs.length:=by rw[Bo];simp
 refine⟨λi H q h=>⟨q,by omega⟩,λH q=>⟨q,by omega⟩,λi H x H' q hi h=>?_⟩
 obtain⟨T,k,v,hT,h1,h2,h3⟩:=h
 refine⟨T,.int i,kV k,hT,h1,?_,h3⟩
 have:=Cr (k:=0) (xs:=kvs.map λkv=>kV kv.1) (i:=i) (x:=kV k) (by rw[ak,h2];rfl)
 rw[cT] at this
 exact this
theorem Same.thaw {H H':Hp} {p:Addr} {o:Obj} {kvs:List (Key×V)} (h:H p=some (.dK kvs)) (S:Same (upd H p (.frz o (.dK kvs))) H'):Same H (upd H' p (.dK kvs)):=by
 intro b u e
 by_cases hb:b=p
 .subst hb;rw[Aa,<- h,e]
 .rw[Ad hb];exact S _ _ (by rw[Ad hb];exact e)
theorem Fw {H:Hp} {d:Addr} {u:HO} (h:H d=some u):¬ Pn.fresh H d:=λe=>by
 have e:H d=none:=e
 rw[h] at e
 cases e
theorem De {b:Bool} {A B:Prop} (e:b=false) (h:B):if b=true then A else B:=by subst e;exact ac7 h
theorem Ei {b:Bool} {A B:Prop} (e:b=true) (h:A):if b=true then A else B:=by subst e;exact Ol h
theorem Ak {α β:Type} {l:List α} {f:α->β} {i:Nat} {x:β} (h:(l.map f)[i]? = some x):∃ m,l[i]? = some m/\x=f m:=by
 rw[ak] at h
 cases e:l[i]? with
 |none=>rw[e] at h;cases h
 |some m=>rw[e] at h;exact⟨m,rfl,by simpa using h.symm⟩
theorem Al {α:Type} {l:List α} {i:Nat} {x:α} (h:l[i]? = some x):i<l.length:=(List.getElem?_eq_some_iff.mp h).1
theorem Cv {n i:Nat} {x:V} (h:(Uf 0 n)[i]? = some x):i<n/\x=.int (i:Int):=by
 have hi:=Al h
 rw[A7] at hi
 rw[Rp hi] at h
 refine⟨hi,?_⟩
 have:V.int (0+(i:Int))=x:=by simpa using h
 rw[<- this,Int.zero_add]
theorem G9 (z:Str):z.cps.toList.length=z.length:=by simp[Str.length]
theorem af8 (a c:Nat):decide ([c]<[a])=decide (c<a):=by
 rw[bQ,decide_eq_true_iff,decide_eq_true_iff,List.cons_lt_cons_iff]
 simp
theorem leL {s:Str} {a c:Nat} (h:s.cps.toList=[a]):(!decide ((⟨#[c]⟩:Str).cps.toList<s.cps.toList))=decide (a<=c):=by
 rw[h]
 show (!decide ([c]<[a]))=_
 rw[af8,<- decide_not]
 exact decide_eq_decide.mpr Nat.not_lt
theorem leR {s:Str} {a c:Nat} (h:s.cps.toList=[a]):(!decide (s.cps.toList<(⟨#[c]⟩:Str).cps.toList))=decide (c<=a):=by
 rw[h]
 show (!decide ([a]<[c]))=_
 rw[af8,<- decide_not]
 exact decide_eq_decide.mpr Nat.not_lt
theorem Xk {s1 s2:Str} {a b c:Nat} {Q:VK} {H:Hp} (h1:s1.cps.toList=[a]) (h2:s2.cps.toList=[b]) (k:Q (.bl (decide (a<=c)&&decide (c<=b))) H) :
  if (!decide ((⟨#[c]⟩:Str).cps.toList<s1.cps.toList))=true then Q (.bl (!decide (s2.cps.toList<(⟨#[c]⟩:Str).cps.toList))) H else Q (.bl false) H:=by
 rw[leL h1,leR h2]
 cases e:decide (a<=c) with
 |true=>rw[e,i0] at k;exact Ol k
 |false=>rw[e,jY] at k;exact ac7 k
theorem Mx {a b c:Int} {Q:VK} {H:Hp} (k:Q (.bl (decide (a<=c)&&decide (c<=b))) H):if decide (a<=c)=true then Q (.bl (decide (c<=b))) H else Q (.bl false) H:=by
 cases e:decide (a<=c) with
 |true=>rw[e,i0] at k;exact Ol k
 |false=>rw[e,jY] at k;exact ac7 k
theorem ar7 {s1 s2:Str} {a b c i:Nat} {Q:VK} {E:EK} {H:Hp} {U:St} (h1:s1.cps.toList=[a]) (h2:s2.cps.toList=[b]) (hv:U[i]? = some (some (.str ⟨#[c]⟩))) (k:Q (.bl (decide (a<=c)&&decide (c<=b))) H) :
  Eb G3 G3 (dC (.str s1)) (Ab i) (dC (.str s2)) U H Q E:=by
 unfold Eb dC Ab
 rw[hv]
 exact Xk h1 h2 k
theorem Xe {K:ac} {z:Str} {te:DE} {p:Nat->Bool} {H:Hp} {Q:VK} {E:EK} (hz:z.length<=1000) (he:∀ (c:Nat) (U:St) (H1:Hp) (Q1:VK),U.length=1->Q1 (.bl (p c)) H1->te (U.set 0 (some (.str ⟨#[c]⟩))) H1 Q1 E) (k:∀ H',Same H H'->Q (.bl (z.cps.toList.all p)) H') :
  ∀ D,H D=none->E8 (Its z) (gdN 0) Cc te D (λH'=>Rm K [.ref D] H' Q) (Ss [none] [some (.str z)]) (upd H D (.lst [])) E:=by
 intro D hD
 refine N8 (bi9 z) (λU=>U.length=1) (λ_=>true) (λv=>match v with | .str y=>.bl (p (y.cps.getD 0 0))|_=>.non) hD (λ_ _=>aR) ?_ rfl ?_ ?_
 .unfold Fi
  rw[ae]
  exact a_ (show z.cps.toList.length<=1000 from by have:z.cps.size<=1000:=hz;simpa using this) (by decide)
 .intro x U H1 hx hU S Fin Skip hF hS
  obtain⟨c,hc,rfl⟩:=List.mem_map.mp hx
  refine he c U H1 _ hU ?_
  exact hF _ _ _ (by rw[List.length_set];exact hU) (Same.refl _) rfl rfl
 .intro H' S hD'
  have e:((Fi z).filter λ_=>true).map (λv=>match v with | .str y=>V.bl (p (y.cps.getD 0 0))|_=>.non)=(z.cps.toList.map p).map V.bl:=by
   unfold Fi
   rw[List.filter_eq_self.mpr (λ_ _=>rfl),aI,aI]
   rfl
  refine⟨z.cps.toList.map p,SqL.of (hD'.trans (by rw[e])),?_⟩
  have e2:(z.cps.toList.map p).all (λb=>b)=z.cps.toList.all p:=by rw[gU];rfl
  rw[e2]
  exact k H' S
theorem Qm {K:ac} {J:It} {its:List V} {ok:Hp->Prop} {te:DE} {U:St} {H:Hp} {R:Hp->Addr->Prop} {E:EK} (Y:Cp J its ok) (Sg:St->Prop) (hok:∀ H1,Same H H1->ok H1) (hn:its.length<sizeLine) (hU:Sg U) (hS:∀ U x,Sg U->Sg (U.set 0 (some x)))
  (he:∀ x U H1 Q1,x∈its->Sg U->Same H H1->(∀ H2,Same H1 H2->Q1 (.bl true) H2)->te (U.set 0 (some x)) H1 Q1 E) (k:∀ D H',Same H H'->SqL K H' D ((its.map λ_=>true).map V.bl)->R H' D) :
  ∀ D,H D=none->E8 J (gdN 0) Cc te D (λH'=>R H' D) U (upd H D (.lst [])) E:=λD hD=>Z4 (K:=K) Y Sg hD hok hn hU hS he (k D)
theorem Q0:∀ (xs acc:List Str),(acc++xs).Nodup->xs.foldl (λU k=>if U.any (λj=>decide (j=k)) then U else U++[k]) acc=acc++xs
 |[],acc,_=>by rw[List.foldl_nil,bI]
 | x::xs,acc,h=>by
  have hx:(acc.any λj=>decide (j=x))=false:=by
   rw[gH]
   intro j hj e
   have e:j=x:=by simpa using e
   subst e
   exact (List.nodup_append.mp h).2.2 j hj j aN rfl
  rw[bR,hx]
  have h2:(acc++[x]++xs).Nodup:=by simpa using h
  show List.foldl _ (acc++[x]) xs=_
  rw[Q0 xs (acc++[x]) h2]
  simp
theorem at0 {xs:List Str} (h:xs.Nodup):Ct xs=xs:=Q0 xs [] (by simpa using h)
theorem Bm {κ:Type} [DecidableEq κ]:∀ {kvs:List (κ×V)} {i:Nat} {k:κ} {v:V},(kvs.map (·.1)).Nodup->kvs[i]? = some (k,v)->B3 kvs k=some v
 |[],_,_,_,_,e=>by simp at e
 | p::r,0,k,v,_,e=>by
  rw[dA] at e
  cases e
  exact Hi rfl
 | p::r,i+1,k,v,h,e=>by
  rw[bx] at e
  rw[aP,bS] at h
  have ne:¬ p.1=k:=λz=>h.1 (List.mem_map.mpr ⟨(k,v),al e,z.symm⟩)
  rw[Fr ne]
  exact Bm h.2 e
theorem B1 {κ:Type} [DecidableEq κ]:∀ {kvs:List (κ×V)} {k:κ},¬ k∈kvs.map (·.1)->B3 kvs k=none
 |[],_,_=>rfl
 | p::r,k,h=>by
  rw[aP,aE,not_or] at h
  rw[Fr (λe=>h.1 e.symm)]
  exact B1 h.2
theorem Hy {l:List Str} (h:l.Nodup):(l.map (gN:Str->Key)).Nodup:=gG _ (λa b ne e=>ne (by injection e)) h
theorem Js (ds:List ((Str×List Str)×Addr)):(ds.map kR).map (·.1)=((ds.map (·.1)).map (·.1)).map (gN:Str->Key):=by simp[aI]
theorem D8 {ds:List ((Str×List Str)×Addr)} {sw:Sw} (e:ds.map (·.1)=sw) (h:(sw.map (·.1)).Nodup):((ds.map kR).map (·.1)).Nodup:=by
 rw[Js,e]
 exact Hy h
theorem Ec (x y:Nat):c_ (x:Int) (y:Int)=((x ||| y:Nat):Int):=by
 unfold c_
 have hx:¬ (0:Int)<=cj (x:Int):=by unfold cj;omega
 have hy:¬ (0:Int)<=cj (y:Int):=by unfold cj;omega
 rw[PyProof.Rows.bitAnd_nn hx hy]
 have e:∀ z:Nat,(cj (cj (z:Int)))=(z:Int):=λz=>by unfold cj;omega
 rw[e,e,e,aT,aT]
theorem Bx (x y:Nat):bO (x:Int) (y:Int)=((x &&& y:Nat):Int):=by
 rw[PyProof.Rows.bitAnd_pp (by omega) (by omega),aT,aT]
theorem Fp (n:Nat):(2:Int) ^ n=((2 ^ n:Nat):Int):=by simp
noncomputable def Fh (ns:List Nat):Nat:=ns.foldl (λc n=>c ||| 2 ^ n) 0
theorem Rr:∀ (ns:List Nat) (c:Nat),ns.foldl (λ(c:Int) n=>c_ c (2 ^ n)) (c:Int)=((ns.foldl (λc n=>c ||| 2 ^ n) c:Nat):Int)
 |[],c=>rfl
 |n::ns,c=>by rw[bR,bR,Fp,Ec,Rr ns]
theorem aj5 (ns:List Nat):Yo ns=(Fh ns:Nat):=Rr ns 0
theorem Rs:∀ (ns:List Nat) (c k:Nat),(ns.foldl (λc n=>c ||| 2 ^ n) c).testBit k=(c.testBit k||decide (k∈ns))
 |[],c,k=>by simp
 | n::ns,c,k=>by
  rw[bR,Rs ns,eX,c8,Bool.or_assoc]
  congr 1
  rw[bQ,df,decide_eq_true_iff,decide_eq_true_iff,decide_eq_true_iff,aE]
  exact or_congr ⟨Eq.symm,Eq.symm⟩ Iff.rfl
theorem G8 (ns:List Nat) (k:Nat):(Fh ns).testBit k=decide (k∈ns):=by
 unfold Fh
 rw[Rs,dw,iZ]
noncomputable def Dc (ms:List Nat):Nat:=ms.foldl (λc m=>c ||| m) 0
theorem Lm:∀ (ms:List Nat) (c:Nat),(ms.map λm:Nat=>(m:Int)).foldl (λc m=>c_ c m) (c:Int)=((ms.foldl (λc m=>c ||| m) c:Nat):Int)
 |[],c=>rfl
 |n::ns,c=>by rw[aP,bR,bR,Ec,Lm ns]
theorem E1 (ms:List Nat):Gf (ms.map λm:Nat=>(m:Int))=(Dc ms:Nat):=Lm ms 0
theorem Ln:∀ (ms:List Nat) (c k:Nat),(ms.foldl (λc m=>c ||| m) c).testBit k=(c.testBit k||ms.any λm=>m.testBit k)
 |[],c,k=>by simp
 |n::ns,c,k=>by rw[bR,Ln ns,eX,gd,Bool.or_assoc]
theorem E2 (ms:List Nat) (k:Nat):(Dc ms).testBit k=ms.any λm=>m.testBit k:=by
 unfold Dc
 rw[Ln,dw,iZ]
noncomputable def Oh (rows:List (List Str)) (p:Nat) (z:Str) (k:Nat):Bool:=decide ((rows[k]?.bind λr=>r[p]?)=some z)
theorem Wc (p:Nat) (z:Str):∀ (rows:List (List Str)) (j n:Nat),n∈Ds p z j rows ↔ j<=n/\(rows[n - j]?.bind λr=>r[p]?)=some z
 |[],j,n=>by simp[Ds]
 | r::rows,j,n=>by
  have ih:=Wc p z rows (j+1) n
  have e:∀ b,(n=j/\b)\/(j+1<=n/\(rows[n - (j+1)]?.bind λr=>r[p]?)=some z) ↔ j<=n/\((n=j/\b)\/(n≠j/\(rows[n - (j+1)]?.bind λr=>r[p]?)=some z)):=λb=>by
   constructor
   .rintro (⟨h1,h2⟩|⟨h1,h2⟩)
    .exact⟨by omega,.inl ⟨h1,h2⟩⟩
    .exact⟨by omega,.inr ⟨by omega,h2⟩⟩
   .rintro⟨h0,⟨h1,h2⟩|⟨h1,h2⟩⟩
    .exact .inl ⟨h1,h2⟩
    .exact .inr ⟨by omega,h2⟩
  have g:j<=n->(((r::rows)[n - j]?.bind λr=>r[p]?)=some z ↔ ((n=j/\r[p]? = some z)\/(n≠j/\(rows[n - (j+1)]?.bind λr=>r[p]?)=some z))):=λh=>by
   by_cases hn:n=j
   .subst hn
    simp
   .have e2:n - j=(n - (j+1))+1:=by omega
    rw[e2,bx]
    simp[hn]
  rw[Ds]
  by_cases hr:r[p]? = some z
  .rw[if_pos hr,aE,ih]
   have:=e (r[p]? = some z)
   constructor
   .intro h
    have h2:=this.mp (h.imp (λx=>⟨x,hr⟩) id)
    exact⟨h2.1,(g h2.1).mpr h2.2⟩
   .rintro⟨h1,h2⟩
    exact (this.mpr ⟨h1,(g h1).mp h2⟩).imp (λx=>x.1) id
  .rw[if_neg hr,ih]
   have:=e (r[p]? = some z)
   constructor
   .intro h
    have h2:=this.mp (.inr h)
    exact⟨h2.1,(g h2.1).mpr h2.2⟩
   .rintro⟨h1,h2⟩
    rcases this.mpr ⟨h1,(g h1).mp h2⟩ with h|h
    .exact absurd h.2 hr
    .exact h
noncomputable def Ek (rows:List (List Str)) (p:Nat) (z:Str):Nat:=Fh (Ds p z 0 rows)
theorem Nf (rows:List (List Str)) (p:Nat) (z:Str):C7 rows p z=(Ek rows p z:Nat):=aj5 _
theorem Ht (rows:List (List Str)) (p:Nat) (z:Str) (k:Nat):(Ek rows p z).testBit k=Oh rows p z k:=by
 unfold Ek Oh
 rw[G8]
 refine decide_eq_decide.mpr ?_
 rw[Wc]
 simp
noncomputable def Lk (sw:Sw) (e:Str×List Str):Nat:=Dc (e.2.map (Ek (Aj sw) (Ga sw e.1)))
theorem Yu (sw:Sw) (e:Str×List Str):Iw sw e=(Lk sw e:Nat):=by
 unfold Iw Lk
 rw[<- E1,aI]
 congr 1
 exact bK λz _=>Nf _ _ _
theorem Yv (sw:Sw) (e:Str×List Str) (k:Nat):(Lk sw e).testBit k=e.2.any λz=>Oh (Aj sw) (Ga sw e.1) z k:=by
 unfold Lk
 rw[E2,k_]
 congr 1
 funext z
 exact Ht _ _ _ _
noncomputable def Qk (sw:Sw):Nat:=2 ^ (Aj sw).length - 1
theorem Qj (sw:Sw):Ny sw=(Qk sw:Nat):=by
 unfold Ny Qk
 rw[Fp]
 have:0<2 ^ (Aj sw).length:=Nat.two_pow_pos _
 omega
theorem Ql (sw:Sw) (k:Nat):(Qk sw).testBit k=decide (k<(Aj sw).length):=by
 unfold Qk
 rw[Nat.testBit_two_pow_sub_one]
noncomputable def F1 (sw:Sw) (rule:Sw):Nat:=rule.foldl (λc e=>c &&& Lk sw e) (Qk sw)
theorem Qn (sw:Sw):∀ (rule:Sw) (c:Nat),rule.foldl (λc e=>bO c (Iw sw e)) (c:Int)=((rule.foldl (λc e=>c &&& Lk sw e) c:Nat):Int)
 |[],c=>rfl
 |e::rule,c=>by rw[bR,bR,Yu,Bx,Qn sw rule]
theorem aa1 (sw rule:Sw):aa0 sw rule=(F1 sw rule:Nat):=by
 unfold aa0 F1
 rw[Qj,Qn]
theorem Qo (sw:Sw):∀ (rule:Sw) (c k:Nat),(rule.foldl (λc e=>c &&& Lk sw e) c).testBit k=(c.testBit k&&rule.all λe=>e.2.any λz=>Oh (Aj sw) (Ga sw e.1) z k)
 |[],c,k=>by simp
 |e::rule,c,k=>by rw[bR,Qo sw rule,cF,Yv,bW,Bool.and_assoc]
theorem aa2 (sw rule:Sw) (k:Nat):(F1 sw rule).testBit k=(decide (k<(Aj sw).length)&&rule.all λe=>e.2.any λz=>Oh (Aj sw) (Ga sw e.1) z k):=by
 unfold F1
 rw[Qo,Ql]
noncomputable def B5 (sw:Sw) (rules:List Sw):Nat:=Qk sw - (Qk sw &&& Dc (rules.map (F1 sw)))
theorem Fu (sw:Sw) (rules:List Sw):Kb sw rules=(B5 sw rules:Nat):=by
 unfold Kb B5 Ik
 have e:rules.map (aa0 sw)=(rules.map (F1 sw)).map λm:Nat=>(m:Int):=by
  rw[aI]
  exact bK λr _=>aa1 sw r
 rw[e,E1,Qj,PyProof.Rows.bitAnd_pn (by omega) (by unfold cj;omega),show cj (cj ((Dc (rules.map (F1 sw)):Nat):Int))=((Dc (rules.map (F1 sw)):Nat):Int) by unfold cj;omega,aT,aT]
 have:=Nat.and_le_left (n:=Qk sw) (m:=Dc (rules.map (F1 sw)))
 omega
theorem ay4 (a b:Nat):a - (a &&& b)=a ^^^ (a &&& b):=by
 have h:(a ^^^ (a &&& b)) &&& (a &&& b)=0:=by
  refine d6 λk=>?_
  rw[cF,jB,cF,dw]
  cases a.testBit k <;> cases b.testBit k <;> rfl
 have h2:(a ^^^ (a &&& b)) ||| (a &&& b)=a:=by
  refine d6 λk=>?_
  rw[eX,jB,cF]
  cases a.testBit k <;> cases b.testBit k <;> rfl
 have h3:(a ^^^ (a &&& b))+(a &&& b)=(a ^^^ (a &&& b)) ||| (a &&& b):=by
  have e:=PyProof.Rows.bitOr_and ((a ^^^ (a &&& b):Nat):Int) ((a &&& b:Nat):Int)
  rw[Ec,Bx,h] at e
  omega
 omega
theorem M5 (sw:Sw) (rules:List Sw) (k:Nat):(B5 sw rules).testBit k=(decide (k<(Aj sw).length) && !rules.any λr=>(F1 sw r).testBit k):=by
 unfold B5
 rw[ay4,jB,cF,Ql,E2,k_]
 show (_ ^^ (_&&rules.any λr=>(F1 sw r).testBit k))=_
 cases decide (k<(Aj sw).length) <;> cases rules.any (λr=>(F1 sw r).testBit k) <;> rfl
end Pn
namespace L2
open PySem PySem.Spec PyProof.Rows
section
variable {P:aX} {w:bB} {K:ac} {mg:Str->Option ai} {base:Heap} {x q:Str} {st:Stmt} {f:Addr} {d:a8} {ps:List Str}
noncomputable def bj2 (K:ac) (x q:Str) (st:Stmt) (f:Addr):Prop:=∃ d,Fun K x q st f d
structure bj4 (K:ac) (q:Str) (st:Stmt) (f:Addr):Prop where
 at_:dm K mainGlobals q=some (some (.ref f))
 d:bj2 K q q st f
structure MetD (K:ac) (x q:Str) (st:Stmt) (f:Addr):Prop where
 fn:dE K (.ref f)=true
 d:bj2 K x q st f
theorem top_mk {oc:ai} {od an:Option Addr} {osl:Array (Option ai)} {kV doc pm cdv ct:ai} (a:dm K mainGlobals q=some (some (.ref f))) (l:K.lookup f=some ⟨oc,od,.func (cu q q (B4 st) (Bl st) (Aq st) .none kV doc pm an cdv ct),osl⟩)
  (c:dD K cdv q=true) (k:bA K (.ref f)=true):bj4 K q st f:=⟨a,_,Og l c k⟩
theorem met_mk {oc:ai} {od an:Option Addr} {osl:Array (Option ai)} {kV doc pm cdv ct:ai} (l:K.lookup f=some ⟨oc,od,.func (cu x q (B4 st) (Bl st) (Aq st) .none kV doc pm an cdv ct),osl⟩)
  (c:dD K cdv q=true) (k:bA K (.ref f)=true) (i:dE K (.ref f)=true):MetD K x q st f:=⟨i,_,Og l c k⟩
structure DOk (K:ac) (mg:Str->Option ai) (q:Str) (st:Stmt) (f:Addr) (d:a8) (ps:List Str):Prop where
 F:FunD K q q st f d .none
 b:Binds K d ps []
 m:mg q=some (.ref f)
structure MOk (K:ac) (x q:Str) (st:Stmt) (f:Addr) (d:a8) (ps:List Str):Prop where
 F:FunD K x q st f d .none
 b:Binds K d ps []
 i:dE K (.ref f)=true
theorem MetD.ok (D:MetD K x q st f) (hb:∀ (kV doc pm:ai) (an:Option Addr) (cdv ct:ai) (us:List ai),us.length=ps.length->g_ (cu x q (B4 st) (Bl st) (Aq st) .none kV doc pm an cdv ct) ⟨us,[]⟩=pure (ps.zip us)):∃ d,MOk K x q st f d ps:=by
 obtain⟨a,d,F⟩:=D
 exact⟨d,F.toD,F.binds hb,a⟩
theorem bm3 {i:FI} (h2:i.ds=[]) (b:Binds K i.fd i.ps []):∀ j,j<=i.dfs.length->Binds K i.fd i.ps (i.ds.drop j):=λj _=>by
 rw[h2,List.drop_nil];exact b
theorem MOk.fi {k:Nat} (i:FI) (g:MOk K x q st i.f i.fd i.ps) (ok:FnOk P w K mg base CX0 i.k i.f i.fd i.ps i.sp) (hk:i.k<=k:=by exact aF rfl) (h1:i.dfs=[]:=by rfl) (h2:i.ds=[]:=by rfl):FiIn P w K mg base k i:=
 ⟨g.F.kp,⟨CX0,λX' _ _=>Kv X',ok⟩,hk,bm3 h2 g.b,by rw[h1,h2];exact .nil⟩
theorem one {C:Addr} {i:FI} {m:Str} {k:Nat} (h:MetIn P w K mg base k m ⟨C,i⟩):∀ mi∈[(⟨C,i⟩:MI)],MetIn P w K mg base k m mi:=λmi hm=>by
 rw[cB] at hm
 exact hm▸h
end
structure Df where
 x:Str
 q:Str
 st:Stmt
 N:List Str
 np:Nat
 lv:Nat
noncomputable def Df.ps (d:Df):List Str:=d.N.take d.np
noncomputable abbrev Ck (D:Df) (f:Addr) (d:a8) (s:Sp):FI:=⟨f,d,D.ps,D.lv,s,[],[]⟩
noncomputable def ScOk (N P:List Str) (sc:Scope):Prop:=(sc.kind=.function/\sc.isCoroutine=false/\sc.isGenerator=false)/\N.Nodup/\N.take P.length=P/\(∀ x∈P,sc.names.lookup x=some .local\/sc.names.lookup x=some .cell)/\(∀ y∈sc.names,y.2≠.free)/\Nv N sc=true
noncomputable instance (N P:List Str) (sc:Scope):Decidable (ScOk N P sc):=by unfold ScOk;infer_instance
theorem ScOk.fn {N P:List Str} {sc:Scope} (h:ScOk N P sc):Cw N P sc:=⟨h.1.1,h.1.2.1,h.1.2.2,h.2.1,h.2.2.1,h.2.2.2.1,h.2.2.2.2.1⟩
structure Ent where
 lv:Nat
 x:Str
 g:GB
noncomputable def gbT (es:List Ent) (n:Nat):List (Str×GB):=es.filterMap λe=>if e.lv<=n then some (e.x,e.g) else none
noncomputable def Mr (P:aX) (w:bB) (K:ac) (mg:Str->Option ai) (base:Heap) (es:List Ent) (bl:List Str) (n:Nat):Prop:=∀ m,m<n->Tab P w K mg base m (gbT es m) bl
noncomputable def AllE (P:aX) (w:bB) (K:ac) (mg:Str->Option ai) (base:Heap) (es:List Ent) (bl:List Str):List Ent->Prop
 |[]=>True
 |e::r=>(Mr P w K mg base es bl e.lv->GBIn P w K mg base e.lv e.x e.g)/\AllE P w K mg base es bl r
section
variable {P:aX} {w:bB} {K:ac} {mg:Str->Option ai} {base:Heap} {es:List Ent} {bl:List Str} {f:Nat->Addr} {d:Nat->a8}
theorem AllE.app:∀ {a b:List Ent},AllE P w K mg base es bl a->AllE P w K mg base es bl b->AllE P w K mg base es bl (a++b)
 |[],_,_,h=>h
 |_::_,_,h,g=>⟨h.1,AllE.app h.2 g⟩
theorem AllE.at_:∀ {a:List Ent} {e:Ent},AllE P w K mg base es bl a->e∈a->Mr P w K mg base es bl e.lv->GBIn P w K mg base e.lv e.x e.g
 |[],_,_,he=>by cases he
 | _::_,_,h,he=>by
  rcases List.mem_cons.mp he with rfl|he
  .exact h.1
  .exact AllE.at_ h.2 he
theorem az4 (hz:∀ x∈bl,mg x=none) (h:AllE P w K mg base es bl es) (n:Nat):Tab P w K mg base n (gbT es n) bl:=by
 induction n using Nat.strongRecOn with
 |ind n ih=>
  refine⟨λx g hx=>?_,hz⟩
  obtain⟨e,he,q⟩:=List.mem_filterMap.mp hx
  split at q
  .rename_i hl
   cases q
   exact (h.at_ he λm hm=>ih m (aL hm hl)).mono hl
  .cases q
noncomputable def OkD (K:ac) (D:Df) (es:List Ent) (bl:List Str) (f:Addr) (d:a8) (s:Sp):Prop:=∀ (P:aX) (w:bB) (mg:Str->Option ai) (base:Heap) (dV:ai),FunD K D.x D.q D.st f d dV->Mr P w K mg base es bl D.lv->FnOk P w K mg base CX0 D.lv f d D.ps s
noncomputable def OkG (P:aX) (w:bB) (K:ac) (mg:Str->Option ai) (base:Heap) (D:Df) (es:List Ent) (bl:List Str) (f:Addr) (d:a8) (s:Sp):Prop:=Mr P w K mg base es bl D.lv->FnOk P w K mg base CX0 D.lv f d D.ps s
theorem okD {D:Df} {f:Addr} {d:a8} {s:Sp} {k n:Nat} {t:DS} (hl:D.lv=k+1) (c:ScOk D.N D.ps (Aq D.st)) (rd:wSs n (Sv K D.N (Aq D.st) (gbT es k) bl) (Bl D.st)=t) (len:∀ vs H Q E,s vs H Q E->vs.length=D.ps.length)
  (body:∀ (vs:List V) (H:Hp) (Q:VK) (E:XK),s vs H Q E->t (ab5 Q λ_ _=>False) (D0 D.N vs) H):OkD K D es bl f d s:=λ_ _ _ _ _ F T=>by
 rw[hl] at T ⊢
 exact F.okW0 c.fn c.2.2.2.2.2 (T k (cw k)) rd len body
noncomputable def BtD (D:Df) (d:a8):Prop:=∀ (s:am) (us:List ai),us.length=D.ps.length->kO s d ⟨us,[]⟩ (D.ps.zip us)
noncomputable def AllG (K:ac) (mg:Str->Option ai) (f:Nat->Addr) (d:Nat->a8):Nat->List Df->Prop
 |_,[]=>True
 |k,D::r=>(DOk K mg D.q D.st (f k) (d k) D.ps/\BtD D (d k))/\AllG K mg f d (k+1) r
theorem AllG.get:∀ {L:List Df} {k:Nat} (j:Nat) {D:Df},AllG K mg f d k L->L[j]? = some D->DOk K mg D.q D.st (f (k+j)) (d (k+j)) D.ps/\BtD D (d (k+j))
 |[],_,_,_,_,e=>by simp at e
 |_::_,_,0,_,h,e=>by cases e;exact h.1
 | _::_,k,j+1,_,h,e=>by
  rw[show k+(j+1)=k+1+j by omega]
  exact AllG.get j h.2 e
noncomputable def a25 (K:ac):List Df->Prop
 |[]=>True
 |D::r=>(∃ a,bj4 K D.q D.st a)/\a25 K r
noncomputable def Vl (D:Df):Prop:=∀ (kV doc pm:ai) (an:Option Addr) (cdv ct:ai) (us:List ai),us.length=D.ps.length->g_ (cu D.x D.q (B4 D.st) (Bl D.st) (Aq D.st) .none kV doc pm an cdv ct) ⟨us,[]⟩=pure (D.ps.zip us)
noncomputable def bj0:List Df->Prop
 |[]=>True
 |D::r=>(D.x=D.q/\Vl D)/\bj0 r
theorem AllG.congr {f':Nat->Addr} {d':Nat->a8}:∀ {L:List Df} {k:Nat},(∀ n,k<=n->f' n=f n/\d' n=d n)->AllG K mg f d k L->AllG K mg f' d' k L
 |[],_,_,_=>aR
 |_::_,k,e,h=>⟨by rw[(e k (ah _)).1,(e k (ah _)).2];exact h.1,AllG.congr (λn hn=>e n (by omega)) h.2⟩
theorem V0 {h:Heap} (d₀:a8) (X:K.In h) (G:h.Ns mainGlobals mg):∀ {L:List Df} (k:Nat),a25 K L->bj0 L -> ∃ (f:Nat->Addr) (d:Nat->a8),AllG K mg f d k L
 |[],_,_,_=>⟨λ_=>0,λ_=>d₀,aR⟩
 | D::r,k,⟨⟨a,q⟩,t⟩,⟨⟨e,b⟩,bs⟩=>by
  obtain⟨f,d,g⟩:=V0 d₀ X G (k+1) t bs
  obtain⟨m,d0,F⟩:=q
  have b:=b
  unfold Vl at b
  rw[e] at b
  have g0:DOk K mg D.q D.st a d0 D.ps/\BtD D d0:=⟨⟨F.toD,F.binds b,g8 X G m⟩,by
   obtain⟨oc,od,kV,doc,pm,an,cdv,ct,osl,rfl,_⟩:=F.ex
   exact λs us hl=>.of_eq (b _ _ _ _ _ _ us hl)⟩
  refine⟨λn=>if n=k then a else f n,λn=>if n=k then d0 else d n,⟨?_,?_⟩⟩
  .simp only[if_true];exact g0
  .exact AllG.congr (λn hn=>by rw[if_neg (by omega),if_neg (by omega)];exact⟨rfl,rfl⟩) g
theorem AllG.pre:∀ {a b:List Df} {k:Nat},AllG K mg f d k (a++b)->AllG K mg f d k a
 |[],_,_,_=>aR
 |_::_,_,_,h=>⟨h.1,AllG.pre h.2⟩
theorem OkD.g {D:Df} {a:Addr} {fd:a8} {s:Sp} (h:OkD K D es bl a fd s) (g:DOk K mg D.q D.st a fd D.ps) (e:D.x=D.q:=by rfl):OkG P w K mg base D es bl a fd s:=λT=>h _ _ _ _ _ (by rw[e];exact g.F) T
noncomputable def fnE (f:Nat->Addr) (d:Nat->a8):Nat->List (Df×Sp)->List Ent
 |_,[]=>[]
 |k,p::r=>⟨p.1.lv,p.1.q,.fn (Ck p.1 (f k) (d k) p.2)⟩::fnE f d (k+1) r
noncomputable def Y2 (P:aX) (w:bB) (K:ac) (mg:Str->Option ai) (base:Heap) (es:List Ent) (bl:List Str) (f:Nat->Addr) (d:Nat->a8):Nat->List (Df×Sp)->Prop
 |_,[]=>True
 |k,p::r=>OkG P w K mg base p.1 es bl (f k) (d k) p.2/\Y2 P w K mg base es bl f d (k+1) r
theorem Vz:∀ {L:List (Df×Sp)} {k:Nat},AllG K mg f d k (L.map (·.1))->Y2 P w K mg base es bl f d k L->AllE P w K mg base es bl (fnE f d k L)
 |[],_,_,_=>aR
 |_::_,_,g,o=>⟨λT=>⟨g.1.1.m,g.1.1.F.kp,⟨CX0,λX' _ _=>Kv X',o.1 T⟩,ah _,bm3 rfl g.1.1.b,.nil⟩,Vz g.2 o.2⟩
noncomputable def AllM (K:ac) (c:Addr) (f:Nat->Addr) (d:Nat->a8):Nat->List Df->Prop
 |_,[]=>True
 |k,D::r=>(MOk K D.x D.q D.st (f k) (d k) D.ps/\Nw K c D.x (f k))/\AllM K c f d (k+1) r
theorem AllM.get {c:Addr}:∀ {L:List Df} {k:Nat} (j:Nat) {D:Df},AllM K c f d k L->L[j]? = some D->MOk K D.x D.q D.st (f (k+j)) (d (k+j)) D.ps/\Nw K c D.x (f (k+j))
 |[],_,_,_,_,e=>by simp at e
 |_::_,_,0,_,h,e=>by cases e;exact h.1
 | _::_,k,j+1,_,h,e=>by
  rw[show k+(j+1)=k+1+j by omega]
  exact AllM.get j h.2 e
theorem AllM.congr {c:Addr} {f':Nat->Addr} {d':Nat->a8}:∀ {L:List Df} {k:Nat},(∀ n,k<=n->f' n=f n/\d' n=d n)->AllM K c f d k L->AllM K c f' d' k L
 |[],_,_,_=>aR
 |_::_,k,e,h=>⟨by rw[(e k (ah _)).1,(e k (ah _)).2];exact h.1,AllM.congr (λn hn=>e n (by omega)) h.2⟩
noncomputable def Mq (K:ac) (c:Addr):List Df->Prop
 |[]=>True
 |D::r=>(∃ a,bC K (.ref c) D.x=some (some (.ref a))/\MetD K D.x D.q D.st a)/\Mq K c r
noncomputable def az8:List Df->Prop
 |[]=>True
 |D::r=>Vl D/\az8 r
theorem Gg {c:Addr} (d₀:a8):∀ {L:List Df} (k:Nat),Mq K c L->az8 L -> ∃ (f:Nat->Addr) (d:Nat->a8),AllM K c f d k L
 |[],_,_,_=>⟨λ_=>0,λ_=>d₀,aR⟩
 | D::r,k,⟨⟨a,i,q⟩,t⟩,⟨b,bs⟩=>by
  obtain⟨f,d,g⟩:=Gg d₀ (k+1) t bs
  obtain⟨d0,g0⟩:=q.ok (ps:=D.ps) b
  refine⟨λn=>if n=k then a else f n,λn=>if n=k then d0 else d n,⟨?_,?_⟩⟩
  .simp only[if_true];exact⟨g0,i,g0.i,g0.F.kp⟩
  .exact AllM.congr (λn hn=>by rw[if_neg (by omega),if_neg (by omega)];exact⟨rfl,rfl⟩) g
noncomputable def AllC (mg:Str->Option ai) (u:Nat->ai):Nat->List (Str×V)->Prop
 |_,[]=>True
 |k,c::r=>(mg c.1=some (u k)/\RelV c.2 (u k))/\AllC mg u (k+1) r
theorem AllC.congr {u u':Nat->ai}:∀ {L:List (Str×V)} {k:Nat},(∀ n,k<=n->u' n=u n)->AllC mg u k L->AllC mg u' k L
 |[],_,_,_=>aR
 |_::_,k,e,h=>⟨by rw[e k (ah _)];exact h.1,AllC.congr (λn hn=>e n (by omega)) h.2⟩
noncomputable def Y4 (K:ac):List (Str×V)->Prop
 |[]=>True
 |(x,v)::r=>(∃ u,dm K mainGlobals x=some (some u)/\RelV v u)/\Y4 K r
theorem con_mk {x:Str} {v:V} {u:ai} (a:dm K mainGlobals x=some (some u)) (r:RelV v u):∃ u,dm K mainGlobals x=some (some u)/\RelV v u:=⟨u,a,r⟩
theorem Vy {h:Heap} (X:K.In h) (G:h.Ns mainGlobals mg):∀ {L:List (Str×V)} (k:Nat),Y4 K L -> ∃ u:Nat->ai,AllC mg u k L
 |[],_,_=>⟨λ_=>.none,aR⟩
 | c::r,k,⟨⟨v,i,q⟩,t⟩=>by
  obtain⟨u,g⟩:=Vy X G (k+1) t
  refine⟨λn=>if n=k then v else u n,⟨?_,?_⟩⟩
  .simp only[if_true];exact⟨g8 X G i,q⟩
  .exact AllC.congr (λn hn=>if_neg (by omega)) g
noncomputable def a46 (u:Nat->ai):Nat->List (Str×V)->List Ent
 |_,[]=>[]
 |k,c::r=>⟨0,c.1,.val c.2 (u k)⟩::a46 u (k+1) r
theorem Qi {u:Nat->ai}:∀ {L:List (Str×V)} {k:Nat},AllC mg u k L->AllE P w K mg base es bl (a46 u k L)
 |[],_,_=>aR
 |_::_,_,h=>⟨λ_=>h.1,Qi h.2⟩
noncomputable def a26 (K:ac):List Str->Prop
 |[]=>True
 |x::r=>dm K mainGlobals x=some none/\a26 K r
theorem V1 {h:Heap} (X:K.In h) (G:h.Ns mainGlobals mg):∀ {L:List Str},a26 K L -> ∀ x∈L,mg x=none
 |[],_,_,hx=>by cases hx
 | _::_,z,x,hx=>by
  rcases List.mem_cons.mp hx with rfl|hx
  .exact PySem.W.mg_none_of X G z.1
  .exact V1 X G z.2 x hx
structure Lp (K:ac) (x:Str) (c f:Addr):Prop where
 a:dm K mainGlobals x=some (some (.ref c))
 i:bC K (.ref c) "__init__" = some (some (.ref f))
 kp:bA K (.ref c)=true
 mm:dH K c=true
 cl:Cls K c
theorem own_mk {x:Str} {c f:Addr} (a:dm K mainGlobals x=some (some (.ref c))) (i:bC K (.ref c) "__init__" = some (some (.ref f))) (k:bA K (.ref c)=true) (m:dH K c=true) (pg:fW K c fE=true) (hd:gL K c=true) (po:iT K c=true) (sa:bC K (.ref c) "__setattr__" = some (some (.builtin "object.__setattr__"))):Lp K x c f:=⟨a,i,k,m,⟨pg,hd,po,sa⟩⟩
structure J3 (K:ac) (D:Df) (f:Addr) (d:a8) (vs:List V) (us:List ai):Prop where
 F:∃ dV,FunD K D.x D.q D.st f d dV
 b:∀ j,j<=vs.length->Binds K d D.ps (us.drop j)
 w:Vals vs us
 i:dE K (.ref f)=true
theorem ini0 {D:Df} {f:Addr} {oc:ai} {od an:Option Addr} {osl:Array (Option ai)} {kV doc pm cdv ct:ai} (b:Vl D) (l:K.lookup f=some ⟨oc,od,.func (cu D.x D.q (B4 D.st) (Bl D.st) (Aq D.st) .none kV doc pm an cdv ct),osl⟩) (c:dD K cdv D.q=true) (k:bA K (.ref f)=true) (i:dE K (.ref f)=true):∃ d,J3 K D f d [] []:=
 ⟨_,⟨_,(Og l c k).toD⟩,λj _=>by rw[List.drop_nil];exact (Og l c k).binds b,.nil,i⟩
noncomputable def az9 (D:Df) (ds:List ai):Prop:=∀ (T:Addr) (kV doc pm:ai) (an:Option Addr) (cdv ct:ai) (us:List ai),us.length+ds.length=D.ps.length -> ∃ k:Option (Array ai)->Sem (List (Str×ai)),g_ (cu D.x D.q (B4 D.st) (Bl D.st) (Aq D.st) (.ref T) kV doc pm an cdv ct) ⟨us,[]⟩=seqItems? (.ref T) >>= k/\k (some #[.none])=pure (D.ps.zip (us++ds))
theorem ini1 {D:Df} {f T:Addr} {oc tc:ai} {od an td:Option Addr} {osl ts:Array (Option ai)} {tn:Nat} {kV doc pm cdv ct:ai} (b0:az9 D []) (b1:az9 D [.none]) (hm:0<D.np/\D.np<=D.N.length) (l:K.lookup f=some ⟨oc,od,.func (cu D.x D.q (B4 D.st) (Bl D.st) (Aq D.st) (.ref T) kV doc pm an cdv ct),osl⟩) (c:dD K cdv D.q=true) (k:bA K (.ref f)=true) (i:dE K (.ref f)=true) (ld:K.lookup T=some ⟨tc,td,.seq #[.none] tn,ts⟩):∃ d,J3 K D f d [.non] [.none]:=by
 have hl:D.ps.length=D.np:=by unfold Df.ps;rw[aG];omega
 refine⟨_,⟨_,as4 l c k⟩,λj hj=>?_,.cons rfl .nil,i⟩
 match j,hj with
 |0,_=>exact Il (D.np - 1) rfl ld rfl (by rw[hl,List.drop_zero,b7];omega) λus e=>b1 T _ _ _ _ _ _ us (by rw[hl,b7];omega)
 |1,_=>exact Il D.np rfl ld rfl (by rw[hl];rfl) λus e=>b0 T _ _ _ _ _ _ us (by rw[hl];exact e)
theorem N4 {x:Str} {c:Addr} {D:Df} {f:Addr} {d:a8} {vs:List V} {us:List ai} {s:Sp} {h:Heap} (X:K.In h) (G:h.Ns mainGlobals mg) (o:Lp K x c f) (i:J3 K D f d vs us) (ok:OkD K D es bl f d s) (T:Mr P w K mg base es bl (D.lv+1)):ClsIn P w K mg base (D.lv+1) x c (some ⟨f,d,D.ps,D.lv,s,vs,us⟩):=
 let ⟨_,F⟩:=i.F
 ⟨g8 X G o.a,o.kp,o.mm,o.i,i.i,⟨F.kp,⟨CX0,λX' _ _=>Kv X',ok _ _ _ _ _ F λm h=>T m (c7 h)⟩,dW _,i.b,i.w⟩,ah _⟩
noncomputable def X0 (c:Addr) (f:Nat->Addr) (d:Nat->a8):Nat->List (Df×Sp)->List Ent
 |_,[]=>[]
 |k,p::r=>⟨p.1.lv, "", .met p.1.x [⟨c,Ck p.1 (f k) (d k) p.2⟩]⟩::X0 c f d (k+1) r
noncomputable def Y3 (K:ac) (es:List Ent) (bl:List Str) (f:Nat->Addr) (d:Nat->a8):Nat->List (Df×Sp)->Prop
 |_,[]=>True
 |k,p::r=>OkD K p.1 es bl (f k) (d k) p.2/\Y3 K es bl f d (k+1) r
theorem Tt {c a:Addr} {e:a8} {D:Df} {s:Sp} {n:Nat} (cl:Cls K c) (g:MOk K D.x D.q D.st a e D.ps/\Nw K c D.x a) (ok:OkD K D es bl a e s) (h:D.lv<=n) (T:Mr P w K mg base es bl n):MetIn P w K mg base n D.x ⟨c,Ck D a e s⟩:=⟨cl,g.2,g.1.fi (Ck D a e s) (ok _ _ _ _ _ g.1.F λm q=>T m (aL q h)) h⟩
theorem Fb {c:Addr} (cl:Cls K c):∀ {L:List (Df×Sp)} {k:Nat},AllM K c f d k (L.map (·.1))->Y3 K es bl f d k L->AllE P w K mg base es bl (X0 c f d k L)
 |[],_,_,_=>aR
 |_::_,_,g,o=>⟨λT=>one (Tt cl g.1 o.1 (ah _) T),Fb cl g.2 o.2⟩
noncomputable def AllN (K:ac) (c:Addr):List Str->Prop
 |[]=>True
 |x::r=>bC K (.ref c) x=some none/\AllN K c r
theorem AllN.all {c:Addr}:∀ {L:List Str},AllN K c L -> ∀ x∈L,NoAttr K c x
 |[],_,_,hx=>by cases hx
 | _::_,z,x,hx=>by
  rcases List.mem_cons.mp hx with rfl|hx
  .exact z.1
  .exact AllN.all z.2 x hx
end
section
variable {P:List ai->Prop}
@[elab_as_elim] theorem len1 (h:∀ a,P [a]):∀ us:List ai,us.length=1->P us
 |[a],_=>h a
@[elab_as_elim] theorem len2 (h:∀ a b,P [a,b]):∀ us:List ai,us.length=2->P us
 |[a,b],_=>h a b
@[elab_as_elim] theorem len3 (h:∀ a b c,P [a,b,c]):∀ us:List ai,us.length=3->P us
 |[a,b,c],_=>h a b c
@[elab_as_elim] theorem ad1 (h:∀ a b c d,P [a,b,c,d]):∀ us:List ai,us.length=4->P us
 |[a,b,c,d],_=>h a b c d
@[elab_as_elim] theorem ad2 (h:∀ a b c d e f,P [a,b,c,d,e,f]):∀ us:List ai,us.length=6->P us
 |[a,b,c,d,e,f],_=>h a b c d e f
end
end L2
namespace K52
open PySem L2
set_option genInjectivity false in
set_option genSizeOfSpec false in
structure Adr where
 f:Nat->Addr
 d:Nat->a8
 u:Nat->ai
 f_zas:Addr
 d_zas:a8
 f_zai:Addr
 d_zai:a8
 f_zao:Addr
 d_zao:a8
 f_zaf:Addr
 d_zaf:a8
 c_zbz:Addr
 m_zbz:Nat->Addr
 e_zbz:Nat->a8
 c_zcb:Addr
 m_zcb:Nat->Addr
 e_zcb:Nat->a8
 c_zca:Addr
 m_zca:Nat->Addr
 e_zca:Nat->a8
 c_zby:Addr
 m_zby:Nat->Addr
 e_zby:Nat->a8
end K52
namespace K52
open PySem L2 Pn
structure a37 (K:ac) (C:Addr):Prop where
 cl:Cls K C
 na:∀ f∈(["settings", "tuples", "numbers", "sets", "kept_rules", "bars", "free"]:List Str),NoAttr K C f
noncomputable def Kl (K:ac) (f:Addr):Bool:=match K.lookup f with
 | some ⟨_,_,.func fn,_⟩=>(match fn.code with
  |.ref c=>dM K c 132
  |_=>false)
 |_=>false
structure Am (K:ac) (t:Adr):Prop where
 pf:a37 K t.c_zby
 pc:Cls K t.c_zbz
 pr:NoAttr K t.c_zbz "records"
 bc:Cls K t.c_zca
 bp:NoAttr K t.c_zca "panel"
 bk:NoAttr K t.c_zca "kept"
 vc:Cls K t.c_zcb
 vb:NoAttr K t.c_zcb "book"
 vs:NoAttr K t.c_zcb "seen"
 lam:Kl K (t.f 20)=true
noncomputable def B9 (ns:List Int) (k:Nat):Int:=ns.getD k 0
noncomputable def Bk (c k:Int):Int:=
 if c % 2=0/\c / 2 ^ (27 * k+1).toNat≠0/\c / 2 ^ (27 * k+1).toNat ≠ -1 then bO (c / 2 ^ (27 * k+1).toNat) 134217727
 else
  let n:=(c+7919 * k) * 48271 % 2147483647
  let m:=n * n % 2147483629
  m * (m+3) % 2147483587 / 32
noncomputable def okB (sw rule:Sw):Prop:=(rule.map (·.1)).Nodup /\ ∀ e∈rule,Hz sw e
noncomputable abbrev nO (l:List Nat):HO:=.lst (l.map λn:Nat=>V.int (n:Int))
noncomputable def Lu:List Nat->Nat->List Nat
 |[],_=>[]
 |s::r,n=>Lu r (n / s)++[n % s]
noncomputable def Cq (sw:Sw) (n:Nat):List Nat:=Lu (sw.map (·.2.length)).reverse n
noncomputable def F5 (sw:Sw) (rules:List Sw) (n:Nat):Bool:=rules.any λr=>(F1 sw r).testBit n
noncomputable def An (sw:Sw) (rules:List Sw):List Nat:=(ay (Aj sw).length).filter λn=>!F5 sw rules n
noncomputable def az6 (sg:Str) (lo:Nat) (ws:List Str):Prop:=ws.Nodup /\ ∀ z∈ws,1<=z.length/\z.length<=lo /\ ∀ c∈z.cps.toList,c∈sg.cps.toList
structure Rc where
 k:Str
 p:Str
 r:Int
 c:TK
noncomputable def rcT (x:Rc):TK:=.tup [.at_ (.inr x.k),.at_ (.inr x.p),.at_ (.inl x.r),x.c]
noncomputable abbrev Tr:=List (Str×Rc)
noncomputable def RcAt (H:Hp) (a:Addr) (x:Rc):Prop:=∃ v,H a=some (.tup [.str x.k,.str x.p,.int x.r,v])/\TkAt H x.c v
noncomputable def Ci (T:Tr):Prop:=(T.map (·.1)).Nodup/\T.length<=8 /\ ∀ x∈T,Ar x.2.c<=2
noncomputable abbrev kT (e:(Str×Rc)×Addr):Key×V:=(.inr e.1.1,.ref e.2)
noncomputable def TrAt (ok:Addr->Prop) (H:Hp) (d:Addr) (T:Tr):Prop:=∃ es:List ((Str×Rc)×Addr),es.map (·.1)=T/\Own ok H d (.dK (es.map kT)) /\ ∀ e∈es,RcAt H e.2 e.1.2
noncomputable def PlAt (C:Addr) (ok:Addr->Prop) (H:Hp) (p:Addr) (T:Tr):Prop:=∃ dx d,Own ok H p (.ins C dx [("records", .ref d)])/\TrAt ok H d T
noncomputable def Ud (T:Tr) (n:Str):TK:=((T.lookup n).map rcT).getD (.tup [])
noncomputable def vkT (T:Tr):TK:=.tup ((B0 ltS (T.map (·.1))).map λn=>.tup [.at_ (.inr n),Ud T n])
noncomputable abbrev Gp:=TK×Nat×Nat
noncomputable def Gz (gs:List Gp) (k:TK) (n:Nat):List Gp:=if k∈gs.map (·.1) then gs.map λg=>if g.1=k then (g.1,g.2.1,g.2.2 ||| 2 ^ n) else g else gs++[(k,n,2 ^ n)]
noncomputable def Cg (f:Nat->TK) (ns:List Nat):List Gp:=ns.foldl (λgs n=>Gz gs (f n) n) []
structure WorldAt (H:Hp) (W:Addr) (sw:Sw) (rules:List Sw) (l k f:Addr):Prop where
 at_:H W=some (.lst [.ref l,.ref k,.ref f])
 sws:SwIn any H l sw
 ok:okSw sw
 rl:RulesAt any H k rules
 rok:∀ r∈rules,Ey sw r
 few:rules.length<=8
 fr:H f=some (nO (An sw rules))
 ne:An sw rules≠[]
noncomputable abbrev kF (g:Nat->Addr) (n:Nat):Key×V:=(.inl (n:Int),.ref (g n))
structure FoundAt (H:Hp) (F:Addr) (ns:List Nat) (g:Nat->Addr) (tr:Nat->Tr):Prop where
 at_:H F=some (.dK (ns.map (kF g)))
 one:∀ n∈ns,TrAt any H (g n) (tr n)/\Ci (tr n)
 few:∃ Ts:List Tr,Ts.length<=4 /\ ∀ n∈ns,tr n∈Ts
structure a01 (C:Addr) (H:Hp) (l:Addr) (ns:List Nat) (tr:Nat->Tr) (rs:List (Nat×Addr×Addr)):Prop where
 nms:rs.map (·.1)=ns
 at_:H l=some (.lst (rs.map λr=>.ref r.2.1))
 one:∀ r∈rs,H r.2.1=some (.tup [.int ((2 ^ r.1:Nat):Int),.ref r.2.2])/\PlAt C any H r.2.2 (tr r.1)
noncomputable def stT (T:Tr) (n:Str):Option TK:=(T.lookup n).map rcT
noncomputable def StAt (H:Hp):Option TK->V->Prop
 |none,v=>v=.non
 |some x,v=>(∃ a,v=.ref a)/\TkAt H x v
noncomputable def Z2 (C:Addr) (H:Hp) (l:Addr) (rs:List ((Nat×Tr)×Addr×Addr)):Prop:=H l=some (.lst (rs.map λr=>.ref r.2.2)) /\ ∀ r∈rs,H r.2.2=some (.tup [.int (r.1.1:Int),.ref r.2.1])/\PlAt C any H r.2.1 r.1.2/\Ci r.1.2
noncomputable def a00 (C:Addr) (H:Hp) (D:Addr) (gs:List Gp):Prop:=∃ es:List ((Gp×Tr)×Addr×Addr),es.map (·.1.1)=gs/\H D=some (.lst (es.map λe=>.ref e.2.2)) /\ ∀ e∈es,H e.2.2=some (.tup [.int (e.1.1.2.2:Int),.ref e.2.1])/\PlAt C any H e.2.1 e.1.2/\Ci e.1.2/\vkT e.1.2=e.1.1.1
noncomputable def BookAt (t:Adr) (H:Hp) (b:Addr) (sw:Sw) (rules:List Sw) (gs:List Gp):Prop:=∃ dx p l,H b=some (.ins t.c_zca dx [("panel", .ref p),("kept", .ref l)])/\PanelAt t.c_zby any H p sw rules/\a00 t.c_zbz H l gs
noncomputable def Hk (t:Adr) (H:Hp) (v b:Addr) (M:Nat):Prop:=∃ dx,H v=some (.ins t.c_zcb dx [("book", .ref b),("seen", .int (M:Int))])
noncomputable def Lv (k:TK) (n:Str):Prop:=∃ T,Ci T/\vkT T=k/\(stT T n).isSome=true
structure Seen (ns:List Nat) (tr:Nat->Tr) (gs:List Gp) (Ws:List Nat) (M:Nat):Prop where
 ge:gs=Cg (λn=>vkT (tr n)) ns
 asc:ns.Pairwise (· < ·)
 ok:∀ n∈ns,Ci (tr n)/\n<256
 few:gs.length<=4
 sub:Ws.Sublist ns
 ne:Ws≠[]
 bit:∀ n,M.testBit n=decide (n∈Ws)
noncomputable def Ch (tr:Nat->Tr) (Ws:List Nat) (z:Str):Bool:=Ws.any λn=>(stT (tr n) z).isSome
noncomputable def Fq (tr:Nat->Tr) (Ws:List Nat) (z:Str):Option Nat:=Ws.find? λn=>decide (stT (tr n) z≠stT (tr (Ws.headD 0)) z)
noncomputable def Sorted (zs:List Str):Prop:=zs.Pairwise λa b=>ltS a b=true
noncomputable def au6:Option Nat->V
 |none=>.non
 |some n=>.int (n:Int)
noncomputable def OthAt (H:Hp) (l:Addr) (os:List (Str×List V)):Prop:=∃ es:List ((Str×List V)×Addr),es.map (·.1)=os/\H l=some (.lst (es.map λe=>.ref e.2)) /\ ∀ e∈es,H e.2=some (.tup (.str e.1.1::e.1.2))
noncomputable def Lz (tr:Nat->Tr) (Ws:List Nat) (zs:List Str):List (Str×List V):=zs.map λz=>(z,[au6 (Fq tr Ws z)])
noncomputable def shF (tr:Nat->Tr) (Ws:List Nat) (zs:List Str):List Str:=zs.filter λz=>(Fq tr Ws z).isNone
noncomputable def apF (tr:Nat->Tr) (Ws:List Nat) (zs:List Str):List (Str×List V):=zs.filterMap λz=>(Fq tr Ws z).map λo=>(z,[V.int (Ws.headD 0:Nat),.int (o:Int)])
noncomputable def nmS (sw:Sw) (k:Nat):Str:=(sw.map (·.1)).getD k fE
noncomputable def bh9 (sw:Sw) (i:Nat):List Str:=((sw.map (·.2))[i]?).getD []
noncomputable def El (sw:Sw) (M i:Nat):List Str:=(bh9 sw i).filter λz=>decide (Ek (Aj sw) i z &&& M≠0)
noncomputable def opF (sw:Sw) (M:Nat):List Str:=((ay sw.length).filter λi=>decide (1<(El sw M i).length)).map (nmS sw)
noncomputable def a39 (H:Hp) (l:Addr) (ps:List (V×V)):Prop:=∃ Ts:List Addr,H l=some (.lst (Ts.map V.ref))/\Ts.length=ps.length /\ ∀ (j:Nat) x y T,ps[j]? = some (x,y)->Ts[j]? = some T->H T=some (.tup [x,y])
noncomputable abbrev St0 (H:Hp):Prop:=Z3 H 132 4
section
noncomputable def Vc (K:ac) (t:Adr):Sp:=λvs H Q _=>∃ (a:Addr) (ns:List Nat),vs=[.ref a]/\SqL K H a (ns.map λn:Nat=>V.int (n:Int))/\(∀ n∈ns,n<=1000)/\Q (.int (Yo ns)) H
noncomputable def Ie (K:ac) (t:Adr):Sp:=λvs H Q _=>∃ (a:Addr) (ms:List Int),vs=[.ref a]/\SqL K H a (ms.map V.int)/\Q (.int (Gf ms)) H
noncomputable def Ur (K:ac) (t:Adr):Sp:=λvs H Q _=>∃ (z:Str) (lo hi:Int),vs=[.str z,.int lo,.int hi]/\z.length<=1000/\Q (.bl (decide (lo<=(z.length:Int))&&decide ((z.length:Int)<=hi))) H
noncomputable def Ux (K:ac) (t:Adr):Sp:=λvs H Q _=>∃ c,vs=[.str ⟨#[c]⟩]/\Q (.bl (Ju c)) H
noncomputable def Pq (K:ac) (t:Adr):Sp:=λvs H Q _=>∃ z,vs=[.str z]/\okW z /\ ∀ H',Same H H'->Q (.bl true) H'
noncomputable def W4 (K:ac) (t:Adr):Sp:=λvs H Q _=>∃ (a:Addr) (l:List Str),vs=[.ref a]/\SqL K H a (l.map V.str)/\okL l /\ ∀ H',Same H H'->Q (.bl true) H'
noncomputable def Uy (K:ac) (t:Adr):Sp:=λvs H Q _=>∃ (a b:Addr) (w:Str) (l:List Str),vs=[.ref a]/\H a=some (.tup [.str w,.ref b])/\H b=some (Au l)/\okW w/\F4 l /\ ∀ H',Same H H'->Q (.bl true) H'
noncomputable def al5 (K:ac) (t:Adr):Sp:=λvs H Q _=>∃ (a:Addr) (sw:Sw),vs=[.ref a]/\SwIn any H a sw/\okSw sw /\ ∀ H' d,Same H H'->SwAt (fresh H) H' d sw->Q (.ref d) H'
noncomputable def ak4 (K:ac) (t:Adr):Sp:=λvs H Q _=>∃ (d:Addr) (sw:Sw),vs=[.ref d]/\SwAt any H d sw/\okSw sw /\ ∀ H' l,Same H H'->TupsAt (fresh H) H' l (Aj sw)->Q (.ref l) H'
noncomputable def ak3 (K:ac) (t:Adr):Sp:=λvs H Q _=>∃ (l:Addr) (rows:List (List Str)),vs=[.ref l]/\TupsAt any H l rows/\rows.Nodup/\rows.length<=256 /\ ∀ H' n,Same H H'->NumAt (fresh H) H' n rows->Q (.ref n) H'
noncomputable def ak8 (K:ac) (t:Adr):Sp:=λvs H Q _=>∃ (d l:Addr) (sw:Sw),vs=[.ref d,.ref l]/\SwAt any H d sw/\TupsAt any H l (Aj sw)/\okSw sw /\ ∀ H' s,Same H H'->SetsAt (fresh H) H' s sw->Q (.ref s) H'
noncomputable def am5 (K:ac) (t:Adr):Sp:=λvs H Q _=>∃ (r:Addr) (rule:Sw),vs=[.ref r]/\RuleAt any H r rule/\(rule.map (·.1)).Nodup/\rule.length<=100 /\ ∀ H' c,Same H H'->RuleAt (fresh H) H' c rule->Q (.ref c) H'
noncomputable def Uo (K:ac) (t:Adr):Sp:=λvs H Q _=>∃ (p l s:Addr) (sw:Sw),vs=[.ref p]/\SelfAt t.c_zby any H p l s/\TupsAt any H l (Aj sw)/\Q (.int (Aj sw).length) H
noncomputable def ak6 (K:ac) (t:Adr):Sp:=λvs H Q _=>∃ (p l s:Addr) (sw:Sw),vs=[.ref p]/\SelfAt t.c_zby any H p l s/\TupsAt any H l (Aj sw)/\(Aj sw).length<=256/\Q (.int (Ny sw)) H
noncomputable def Up (K:ac) (t:Adr):Sp:=λvs H Q _=>∃ (p a l s:Addr) (w:Str) (ss:List Str) (sw:Sw),vs=[.ref p,.str w,.ref a]/\SelfAt t.c_zby any H p l s/\SetsAt any H s sw/\okSw sw/\H a=some (Au ss)/\Hz sw (w,ss) /\ ∀ H',Same H H'->Q (.int (Iw sw (w,ss))) H'
noncomputable def ak9 (K:ac) (t:Adr):Sp:=λvs H Q _=>∃ (p r l s:Addr) (sw rule:Sw),vs=[.ref p,.ref r]/\SelfAt t.c_zby (· ≠ r) H p l s/\TupsAt (· ≠ r) H l (Aj sw)/\SetsAt (· ≠ r) H s sw/\okSw sw/\RuleAt any H r rule/\Ey sw rule /\ ∀ H' c,Same H H'->RuleAt (fresh H) H' c rule->Q (.ref c) H'
noncomputable def Nx (ok:Addr->Prop) (H:Hp) (v:V) (rules:List Sw):Prop:=(v=.non/\rules=[]) \/ ∃ k,v=.ref k/\RulesAt ok H k rules
noncomputable def ak7 (K:ac) (t:Adr):Sp:=λvs H Q _=>∃ (p l s:Addr) (ok:Addr->Prop) (v:V) (sw:Sw) (rules:List Sw),vs=[.ref p,v]/\SelfAt t.c_zby ok H p l s/\TupsAt ok H l (Aj sw)/\SetsAt ok H s sw/\okSw sw /\
 Nx (λa=>¬ ok a) H v rules/\(∀ r∈rules,Ey sw r)/\rules.length<=8 /\ ∀ H' k,Same H H'->RulesAt (fresh H) H' k rules->Q (.ref k) H'
noncomputable def aj9 (K:ac) (t:Adr):Sp:=λvs H Q _=>∃ (p a dx:Addr) (v:V) (sw:Sw) (rules:List Sw),vs=[.ref p,.ref a,v]/\H p=some (.ins t.c_zby dx [])/\SwIn (· ≠ p) H a sw/\okSw sw/\Nx (· ≠ p) H v rules/\(∀ r∈rules,Ey sw r)/\rules.length<=8/\Kb sw rules≠0 /\
 ∀ H',(∀ b o,b≠p->H b=some o->H' b=some o)->PanelAt t.c_zby (λb=>b=p\/H b=none) H' p sw rules->Q .non H'
noncomputable def Uu (K:ac) (t:Adr):Sp:=λvs H Q _=>∃ (p r l s:Addr) (sw rule:Sw),vs=[.ref p,.ref r]/\SelfAt t.c_zby (· ≠ r) H p l s/\TupsAt (· ≠ r) H l (Aj sw)/\SetsAt (· ≠ r) H s sw/\okSw sw/\RuleAt any H r rule/\okB sw rule /\ ∀ H',Same H H'->Q (.int (aa0 sw rule)) H'
noncomputable def al4 (K:ac) (t:Adr):Sp:=λvs H Q _=>∃ (p:Addr) (sw:Sw) (rules:List Sw),vs=[.ref p]/\PanelAt t.c_zby any H p sw rules/\Q (.int (Kb sw rules)) H
noncomputable def ak0 (K:ac) (t:Adr):Sp:=λvs H Q _=>∃ p dx,vs=[.ref p]/\H p=some (.ins t.c_zbz dx []) /\ ∀ d,H d=none->d≠p->Q .non (upd (upd H d (.dK [])) p (.ins t.c_zbz dx [("records", .ref d)]))
noncomputable def Uw (K:ac) (t:Adr):Sp:=λvs H Q _=>∃ (p dx d:Addr) (kvs:List (Key×V)) (n k q:Str) (r:Int) (v:V),vs=[.ref p,.str n,.str k,.str q,.int r,v]/\H p=some (.ins t.c_zbz dx [("records", .ref d)])/\H d=some (.dK kvs)/\kvs.length<=8 /\ ∀ a,H a=none->Q .non (upd (upd H a (.tup [.str k,.str q,.int r,v])) d (.dK (Cu kvs (.inr n) (.ref a))))
noncomputable def am2 (K:ac) (t:Adr):Sp:=λvs H Q _=>∃ (p:Addr) (T:Tr),vs=[.ref p]/\PlAt t.c_zbz any H p T/\Ci T /\ ∀ l,H l=none->Q (.ref l) (upd H l (Au (B0 ltS (T.map (·.1)))))
noncomputable def al8 (K:ac) (t:Adr):Sp:=λvs H Q _=>∃ (p:Addr) (T:Tr),vs=[.ref p]/\PlAt t.c_zbz any H p T /\ ∀ H' q,Same H H'->PlAt t.c_zbz any H' q T->Q (.ref q) H'
noncomputable def al0 (K:ac) (t:Adr):Sp:=λvs H Q _=>∃ (p:Addr) (T:Tr),vs=[.ref p]/\PlAt t.c_zbz any H p T/\Ci T /\ ∀ H' b,Same H H'->TkAt H' (vkT T) (.ref b)->Q (.ref b) H'
noncomputable def Pr (K:ac) (t:Adr):Sp:=λvs H Q _=>∃ c n:Nat,vs=[.int (c:Int),.int (n:Int)]/\Q (.bl (c.testBit n)) H
noncomputable def Tl (c:Nat):Option Nat->Prop
 |some n=>c.testBit n=true /\ ∀ j,j<n->c.testBit j=false
 |none=>c=0
noncomputable def Np (K:ac) (t:Adr):Sp:=λvs H Q _=>∃ (c:Nat) (o:Option Nat),vs=[.int (c:Int)]/\Tl c o/\c<2 ^ 1000/\Q (au6 o) H
noncomputable def U5 (K:ac) (t:Adr):Sp:=λvs H Q _=>∃ (b:Addr) (es:List (Gp×V×Addr)),vs=[.ref b]/\St0 H/\H b=some (.lst (es.map λe=>.ref e.2.2))/\es.length<64/\(es.map (·.1.2.1)).Pairwise (· < ·)/\(∀ e∈es,H e.2.2=some (.tup [.int (e.1.2.2:Int),e.2.1])/\e.1.2.2.testBit e.1.2.1=true/\(∀ j,j<e.1.2.1->e.1.2.2.testBit j=false)/\e.1.2.2<2 ^ 1000) /\ ∀ H' D,Qh 132 H H'->H' D=some (.lst (es.map λe=>.ref e.2.2))->Q (.ref D) H'
noncomputable def Uz (K:ac) (t:Adr):Sp:=λvs H Q _=>∃ (A:Nat) (l:Addr) (ns:List Nat) (tr:Nat->Tr) (rs:List (Nat×Addr×Addr)),vs=[.int (A:Int),.ref l]/\St0 H/\a01 t.c_zbz H l ns tr rs/\(∀ n∈ns,Ci (tr n)/\A.testBit n=true/\n<256)/\ns.Pairwise (· < ·)/\(∃ Ts:List Tr,Ts.length<=4 /\ ∀ n∈ns,tr n∈Ts) /\ ∀ H' D,Qh 132 H H'->a00 t.c_zbz H' D (Cg (λn=>vkT (tr n)) ns)->Q (.ref D) H'
noncomputable def ak1 (K:ac) (t:Adr):Sp:=λvs H Q _=>∃ (b p dx:Addr) (sw:Sw) (rules:List Sw),vs=[.ref b,.ref p]/\H b=some (.ins t.c_zca dx [])/\PanelAt t.c_zby (· ≠ b) H p sw rules /\ ∀ H' l,(∀ a o,a≠b->H a=some o->H' a=some o)->H' b=some (.ins t.c_zca dx [("panel", .ref p),("kept", .ref l)])->Q .non H'
noncomputable def U4 (K:ac) (t:Adr):Sp:=λvs H Q _=>∃ (p l:Addr) (sw:Sw) (rules:List Sw) (ns:List Nat) (tr:Nat->Tr) (rs:List (Nat×Addr×Addr)),vs=[.ref p,.ref l]/\St0 H/\PanelAt t.c_zby (· ≠ 132) H p sw rules/\a01 t.c_zbz H l ns tr rs/\(∀ n∈ns,Ci (tr n)/\(B5 sw rules).testBit n=true/\n<256)/\ns.Pairwise (· < ·)/\(∃ Ts:List Tr,Ts.length<=4 /\ ∀ n∈ns,tr n∈Ts) /\ ∀ H' b,Qh 132 H H'->BookAt t H' b sw rules (Cg (λn=>vkT (tr n)) ns)->Q (.ref b) H'
noncomputable def Dz (K:ac) (t:Adr):Sp:=λvs H Q _=>∃ (a:Addr) (ns:List Int) (k:Nat),vs=[.ref a,.int k]/\SqL K H a (ns.map V.int)/\Q (.int (B9 ns k)) H
noncomputable def Be (K:ac) (t:Adr):Sp:=λvs H Q _=>∃ c k:Int,vs=[.int c,.int k]/\0<=k/\Q (.int (Bk c k)) H
noncomputable def K2 (K:ac) (t:Adr):Sp:=λvs H Q _=>∃ (c:Int) (sg:Str) (lo m:Nat),vs=[.int c,.str sg,.int lo,.int m]/\1<=lo/\lo<=12/\m<=sg.length/\1<=sg.length/\sg.length<=100/\sg.cps.toList.Nodup /\ ∀ H' l ws,Same H H'->H l=none->H' l=some (Au ws)->ws.length=m->az6 sg lo ws->Q (.ref l) H'
noncomputable def am0 (K:ac) (t:Adr):Sp:=λvs H Q _=>∃ (c:Int) (m:Nat),vs=[.int c,.int m]/\4<=m/\m<=256 /\ ∀ H' l sw,Same H H'->SwIn any H' l sw->okSw sw->Q (.ref l) H'
noncomputable def K3 (K:ac) (t:Adr):Sp:=λvs H Q _=>∃ (l:Addr) (sw:Sw),vs=[.ref l]/\SwIn any H l sw/\okSw sw/\Q (.int (Aj sw).length) H
noncomputable def U2 (K:ac) (t:Adr):Sp:=λvs H Q _=>∃ (c:Int) (l:Addr) (sw:Sw),vs=[.int c,.ref l]/\SwIn any H l sw/\okSw sw /\ ∀ H' k rules,Same H H'->RulesAt any H' k rules->(∀ r∈rules,Ey sw r)->rules.length<=3->Q (.ref k) H'
noncomputable def Gd (K:ac) (t:Adr):Sp:=λvs H Q _=>∃ (l:Addr) (n:Nat) (sw:Sw),vs=[.ref l,.int (n:Int)]/\SwIn any H l sw/\okSw sw /\ ∀ H' r,Same H H'->H' r=some (nO (Cq sw n))->Q (.ref r) H'
noncomputable def Us (K:ac) (t:Adr):Sp:=λvs H Q _=>∃ (l k:Addr) (n:Nat) (sw:Sw) (rules:List Sw),vs=[.ref l,.ref k,.int (n:Int)]/\SwIn any H l sw/\okSw sw/\RulesAt any H k rules/\(∀ r∈rules,Ey sw r)/\n<(Aj sw).length /\ ∀ H',Same H H'->Q (.bl (F5 sw rules n)) H'
noncomputable def U3 (K:ac) (t:Adr):Sp:=λvs H Q _=>∃ (c:Int) (m:Nat),vs=[.int c,.int m]/\4<=m/\m<=256 /\ ∀ H' W sw rules l k f,Same H H'->WorldAt H' W sw rules l k f->Q (.ref W) H'
noncomputable def Pp (K:ac) (t:Adr):Sp:=λvs H Q _=>∃ c:Int,vs=[.int c] /\ ∀ H' (z:Str),Same H H'->z.length<=60->Q (.str z) H'
noncomputable def Ui (K:ac) (t:Adr):Sp:=λvs H Q _=>∃ (k:Str) (c:Int),vs=[.str k,.int c] /\ ∀ H' x v,Same H H'->TkAt H' x v->Ar x<=2->Q v H'
noncomputable def Va (K:ac) (t:Adr):Sp:=λvs H Q _=>∃ (c:Int) (v:Nat) (l:Addr) (ws:List Str),vs=[.int c,.int (v:Int),.ref l]/\H l=some (Au ws)/\ws.Nodup/\ws.length<=8 /\ ∀ H' d T,Same H H'->TrAt any H' d T->Ci T->(∀ x∈T,x.1∈ws)->Q (.ref d) H'
noncomputable def U0 (K:ac) (t:Adr):Sp:=λvs H Q _=>∃ (c:Int) (m:Nat),vs=[.int c,.int m]/\m<=8 /\ ∀ H' l ws,Same H H'->H' l=some (Au ws)->ws.length=m->ws.Nodup->Q (.ref l) H'
noncomputable def Uj (K:ac) (t:Adr):Sp:=λvs H Q _=>∃ (c:Int) (l:Addr) (sw:Sw) (n m:Nat),vs=[.int c,.ref l,.int (n:Int),.int (m:Int)]/\SwIn any H l sw/\okSw sw/\1<=m /\ ∀ H' (v:Nat),Same H H'->v<m->Q (.int (v:Int)) H'
noncomputable def U8 (K:ac) (t:Adr):Sp:=λvs H Q _=>∃ (a:Addr) (ns:List Int) (b:Bool),vs=[.ref a,.bl b]/\SqL K H a (ns.map V.int) /\ ∀ H' L W nm F sw rules l k f ws g tr,Same H H'->H' L=some (.lst [.ref W,.ref nm,.ref F])->H' nm=some (Au ws)->ws.Nodup->ws.length<=8->(∀ n∈An sw rules,∀ x∈tr n,x.1∈ws)->WorldAt H' W sw rules l k f->FoundAt H' F (An sw rules) g tr->Q (.ref L) H'
noncomputable def U1 (K:ac) (t:Adr):Sp:=λvs H Q _=>∃ (d:Addr) (T:Tr),vs=[.ref d]/\TrAt any H d T/\Ci T /\ ∀ H' p,Same H H'->PlAt t.c_zbz any H' p T->Q (.ref p) H'
noncomputable def U7 (K:ac) (t:Adr):Sp:=λvs H Q _=>∃ (W F l k f:Addr) (sw:Sw) (rules:List Sw) (g:Nat->Addr) (tr:Nat->Tr),vs=[.ref W,.ref F]/\St0 H/\WorldAt H W sw rules l k f/\FoundAt H F (An sw rules) g tr /\ ∀ H' b,Qh 132 H H'->BookAt t H' b sw rules (Cg (λn=>vkT (tr n)) (An sw rules))->Q (.ref b) H'
noncomputable def Uv (K:ac) (t:Adr):Sp:=λvs H Q _=>∃ (p:Addr) (T:Tr) (n:Str),vs=[.ref p,.str n]/\PlAt t.c_zbz any H p T/\Ci T/\Q (.bl (stT T n).isSome) H
noncomputable def aj8 (K:ac) (t:Adr):Sp:=λvs H Q _=>∃ (p:Addr) (T:Tr) (n:Str),vs=[.ref p,.str n]/\PlAt t.c_zbz any H p T/\Ci T /\ ∀ v,StAt H (stT T n) v->Q v H
noncomputable def U6 (K:ac) (t:Adr):Sp:=λvs H Q _=>∃ i:Int,vs=[.int i]/\Q (.bl true) H
noncomputable def al3 (K:ac) (t:Adr):Sp:=λvs H Q _=>∃ (l p:Addr) (n:Str) (T:Tr) (rs:List ((Nat×Tr)×Addr×Addr)),vs=[.ref l,.ref p,.str n]/\Z2 t.c_zbz H l rs/\rs.length<=100/\PlAt t.c_zbz any H p T/\Ci T /\ ∀ H',Same H H'->Q (.int (Dc ((rs.filter λr=>decide (stT r.1.2 n≠stT T n)).map (·.1.1)):Nat)) H'
noncomputable def al6 (K:ac) (t:Adr):Sp:=λvs H Q _=>∃ (b:Addr) (M:Nat) (sw:Sw) (rules:List Sw) (gs:List Gp),vs=[.ref b,.int (M:Int)]/\BookAt t H b sw rules gs/\gs.length<=4 /\ ∀ H' l rs,Same H H'->Z2 t.c_zbz H' l rs->rs.length<=4->(∀ r∈rs,∃ g∈gs,r.1.1=g.2.2 &&& M/\vkT r.1.2=g.1)->(∀ g∈gs,g.2.2 &&& M≠0 -> ∃ r∈rs,r.1.1=g.2.2 &&& M/\vkT r.1.2=g.1)->Q (.ref l) H'
noncomputable def al1 (K:ac) (t:Adr):Sp:=λvs H Q _=>∃ (b:Addr) (n:Str) (sw:Sw) (rules:List Sw) (gs:List Gp),vs=[.ref b,.str n]/\BookAt t H b sw rules gs/\gs.length<=4/\(∃ g∈gs,Lv g.1 n) /\ ∀ H' l rs,Same H H'->Z2 t.c_zbz H' l rs->rs.length<=4->(∀ r∈rs,∃ g∈gs,r.1.1=g.2.2/\Lv g.1 n)->(∀ g∈gs,Lv g.1 n -> ∃ r∈rs,r.1.1=g.2.2)->Q (.ref l) H'
noncomputable def Um (K:ac) (t:Adr):Sp:=λvs H Q _=>∃ (b:Addr) (n:Str) (sw:Sw) (rules:List Sw) (gs:List Gp),vs=[.ref b,.str n]/\BookAt t H b sw rules gs/\gs.length<=4/\(∃ g∈gs,Lv g.1 n) /\ ∀ H' (m:Nat),Same H H'->(∀ j,m.testBit j=true ↔ ∃ g∈gs,g.2.2.testBit j=true/\Lv g.1 n)->Q (.int (m:Int)) H'
noncomputable def Uk (K:ac) (t:Adr):Sp:=λvs H Q _=>∃ (b:Addr) (sw:Sw) (rules:List Sw) (gs:List Gp),vs=[.ref b]/\BookAt t H b sw rules gs/\gs.length<=4 /\ ∀ H' l zs,Same H H'->H' l=some (Au zs)->Sorted zs->zs.length<64->(∀ z,z∈zs ↔ ∃ g∈gs,Lv g.1 z)->Q (.ref l) H'
noncomputable def am1 (K:ac) (t:Adr):Sp:=λvs H Q _=>∃ (b:Addr) (n:Nat) (sw:Sw) (rules:List Sw) (gs:List Gp),vs=[.ref b,.int (n:Int)]/\BookAt t H b sw rules gs/\n<(Aj sw).length/\(∃ g∈gs,g.2.2.testBit n=true) /\ ∀ a m q T,H a=some (.tup [m,.ref q])->PlAt t.c_zbz any H q T->Ci T->(∃ g∈gs,g.2.2.testBit n=true/\vkT T=g.1)->Q (.ref a) H
noncomputable def Ul (K:ac) (t:Adr):Sp:=λvs H Q _=>∃ (b:Addr) (n:Nat) (sw:Sw) (rules:List Sw) (gs:List Gp),vs=[.ref b,.int (n:Int)]/\BookAt t H b sw rules gs/\n<(Aj sw).length/\(∃ g∈gs,g.2.2.testBit n=true) /\ ∀ H' q T,Same H H'->PlAt t.c_zbz any H' q T->Ci T->(∃ g∈gs,g.2.2.testBit n=true/\vkT T=g.1)->Q (.ref q) H'
noncomputable def ak2 (K:ac) (t:Adr):Sp:=λvs H Q _=>∃ (v b p l dx dxb:Addr) (X:Nat) (sw:Sw) (rules:List Sw),vs=[.ref v,.ref b,.int (X:Int)]/\H v=some (.ins t.c_zcb dx [])/\H b=some (.ins t.c_zca dxb [("panel", .ref p),("kept", .ref l)])/\PanelAt t.c_zby (· ≠ v) H p sw rules/\X &&& B5 sw rules≠0 /\ ∀ H',(∀ a o,a≠v->H a=some o->H' a=some o)->H' v=some (.ins t.c_zcb dx [("book", .ref b),("seen", .int ((X &&& B5 sw rules:Nat):Int))])->Q .non H'
noncomputable def am3 (K:ac) (t:Adr):Sp:=λvs H Q _=>∃ (v b:Addr) (sw:Sw) (rules:List Sw) (gs:List Gp) (tr:Nat->Tr) (Ws:List Nat) (M:Nat),vs=[.ref v]/\Hk t H v b M/\BookAt t H b sw rules gs/\okSw sw/\Seen (An sw rules) tr gs Ws M /\ ∀ H' l zs,Same H H'->OthAt H' l (Lz tr Ws zs)->Sorted zs->zs.length<64->(∀ z,z∈zs ↔ Ch tr Ws z=true)->Q (.ref l) H'
noncomputable def am4 (K:ac) (t:Adr):Sp:=λvs H Q _=>∃ (v b:Addr) (sw:Sw) (rules:List Sw) (gs:List Gp) (tr:Nat->Tr) (Ws:List Nat) (M:Nat),vs=[.ref v]/\Hk t H v b M/\BookAt t H b sw rules gs/\okSw sw/\Seen (An sw rules) tr gs Ws M /\ ∀ H' l zs,Same H H'->H l=none->H' l=some (Au (shF tr Ws zs))->Sorted zs->zs.length<64->(∀ z,z∈zs ↔ Ch tr Ws z=true)->Q (.ref l) H'
noncomputable def Uq (K:ac) (t:Adr):Sp:=λvs H Q _=>∃ (v b:Addr) (sw:Sw) (rules:List Sw) (gs:List Gp) (tr:Nat->Tr) (Ws:List Nat) (M:Nat),vs=[.ref v]/\Hk t H v b M/\BookAt t H b sw rules gs/\okSw sw/\Seen (An sw rules) tr gs Ws M /\ ∀ H' l zs,Same H H'->H l=none->OthAt H' l (apF tr Ws zs)->Sorted zs->zs.length<64->(∀ z,z∈zs ↔ Ch tr Ws z=true)->Q (.ref l) H'
noncomputable def al2 (K:ac) (t:Adr):Sp:=λvs H Q _=>∃ (p:Addr) (sw:Sw) (rules:List Sw),vs=[.ref p]/\PanelAt t.c_zby any H p sw rules/\okSw sw /\
 ∀ H' q (ds:List (((Str×List Str)×Addr)×Addr)),Same H H'->H q=none->ds.map (·.1.1)=sw->H' q=some (.lst (ds.map λx=>.ref x.2))->(∀ x∈ds,H' x.2=some (.tup [.str x.1.1.1,.ref x.1.2])/\H' x.1.2=some (Db x.1.1.2))->Q (.ref q) H'
noncomputable def al7 (K:ac) (t:Adr):Sp:=λvs H Q _=>∃ (p:Addr) (i:Nat) (x:Str×List Str) (sw:Sw) (rules:List Sw),vs=[.ref p,.str x.1]/\PanelAt t.c_zby any H p sw rules/\okSw sw/\sw[i]? = some x /\ ∀ H' l,Same H H'->a39 H' l (x.2.map λz=>(V.str z,V.int (C7 (Aj sw) i z)))->Q (.ref l) H'
noncomputable def al9 (K:ac) (t:Adr):Sp:=λvs H Q _=>∃ (v b:Addr) (i M:Nat) (x:Str×List Str) (sw:Sw) (rules:List Sw) (gs:List Gp),vs=[.ref v,.str x.1]/\Hk t H v b M/\BookAt t H b sw rules gs/\okSw sw/\sw[i]? = some x /\ ∀ H',Same H H'->Q (.bl (decide (1<(El sw M i).length))) H'
noncomputable def ak5 (K:ac) (t:Adr):Sp:=λvs H Q _=>∃ (v b:Addr) (M:Nat) (sw:Sw) (rules:List Sw) (gs:List Gp),vs=[.ref v]/\Hk t H v b M/\BookAt t H b sw rules gs/\okSw sw /\ ∀ H' l,Same H H'->H l=none->H' l=some (Au (opF sw M))->Q (.ref l) H'
noncomputable def Ut (K:ac) (t:Adr):Sp:=λvs H Q _=>∃ (c:Int) (W l k f:Addr) (sw:Sw) (rules:List Sw),vs=[.int c,.ref W]/\WorldAt H W sw rules l k f /\ ∀ H' D Ws,Same H H'->H' D=some (nO Ws)->Ws.Sublist (An sw rules)->Ws≠[]->Q (.ref D) H'
noncomputable def Vb (K:ac) (t:Adr):Sp:=λvs H Q _=>∃ (F D m:Addr) (ns Ws:List Nat) (ws:List Str) (g:Nat->Addr) (tr:Nat->Tr),vs=[.ref F,.ref D,.ref m]/\FoundAt H F ns g tr/\ns.Nodup/\H D=some (nO Ws)/\Ws.length<=256/\Ws.Sublist ns/\Ws≠[]/\H m=some (Au ws)/\ws.Nodup/\ws.length<=8/\(∀ n∈ns,∀ x∈tr n,x.1∈ws) /\ ∀ H' L a b zs,Same H H'->H' L=some (.lst [.ref a,.ref b])->H' a=some (Au (shF tr Ws zs))->OthAt H' b (apF tr Ws zs)->Sorted zs->(∀ z,z∈zs ↔ Ch tr Ws z=true)->Q (.ref L) H'
noncomputable def U9 (K:ac) (t:Adr):Sp:=λvs H Q _=>∃ (l D:Addr) (sw:Sw) (Ws:List Nat) (M:Nat),vs=[.ref l,.ref D]/\SwIn any H l sw/\okSw sw/\H D=some (nO Ws)/\Ws.length<=256/\(∀ n∈Ws,n<(Aj sw).length)/\(∀ n,M.testBit n=decide (n∈Ws)) /\ ∀ H' L,Same H H'->H' L=some (Au (opF sw M))->Q (.ref L) H'
noncomputable def K4 (K:ac) (t:Adr):Sp:=λvs H Q _=>∃ (a b:Addr) (d:Dt) (xs:List V),vs=[.ref a,.ref b]/\H a=some (.lst xs)/\At K H d (.ref a)/\At K H d (.ref b)/\dep d<=40 /\ ∀ H',(∀ c o,c≠a->H c=some o->H' c=some o)->Q (.bl true) H'
noncomputable def Ps (K:ac) (t:Adr):Sp:=λvs H Q _=>∃ (a:Addr) (ns:List Int),vs=[.ref a]/\SqL K H a (ns.map V.int)/\ns.length<=63/\St0 H /\ ∀ H',Q (.bl true) H'
end
end K52
namespace K52
open PySem L2
noncomputable def top (i:Nat):Stmt:=PySem.Challenge.pw_manyleaf_k52_shared_and_apart.main.body.getD i (.Pass ⟨0,0,0,0⟩)
noncomputable def bl:List Str:=["all", "bool", "dict", "enumerate", "int", "isinstance", "len", "list", "range", "reversed", "set", "sorted", "str", "sum", "tuple"]
noncomputable abbrev ap5:Df:=⟨"allowed", "Panel.allowed", Av (top 34) 10,["self"],1,1⟩
noncomputable abbrev D_zas:Df:=⟨"__init__", "View.__init__", Av (top 17) 0,["self", "book", "within"],3,2⟩
noncomputable abbrev Zx:Df:=⟨"in_set", "in_set", top 9,["choices", "number"],2,1⟩
noncomputable abbrev a35:Df:=⟨"least_choice", "least_choice", top 10,["choices", "number"],1,2⟩
noncomputable abbrev aq1:Df:=⟨"names", "Plain.names", Av (top 15) 8,["self"],1,1⟩
noncomputable abbrev Zt:Df:=⟨"union_of", "union_of", top 12,["sets", "choices", "one"],1,1⟩
noncomputable abbrev ao7:Df:=⟨"state_or_none", "Plain.state_or_none", Av (top 15) 3,["self", "name"],2,1⟩
noncomputable abbrev a32:Df:=⟨"unlike_choices", "unlike_choices", top 18,["rows", "first", "name", "state"],3,2⟩
noncomputable abbrev ap6:Df:=⟨"rows_in", "Book.rows_in", Av (top 25) 1,["self", "within"],2,1⟩
noncomputable abbrev Vm:Df:=⟨"names", "Book.names", Av (top 25) 3,["self", "names", "choices", "plain", "name"],1,2⟩
noncomputable abbrev Vt:Df:=⟨"has", "Plain.has", Av (top 15) 1,["self", "name"],2,1⟩
noncomputable abbrev ap3:Df:=⟨"rows_with", "Book.rows_with", Av (top 25) 2,["self", "name", "rows"],2,3⟩
noncomputable abbrev Vo:Df:=⟨"where", "Book.where", Av (top 25) 4,["self", "name"],2,4⟩
noncomputable abbrev D_zai:Df:=⟨"__init__", "Plain.__init__", Av (top 15) 0,["self"],1,1⟩
noncomputable abbrev ap8:Df:=⟨"copied", "Plain.copied", Av (top 15) 19,["self", "twin"],1,3⟩
noncomputable abbrev Zl:Df:=⟨"is_whole", "is_whole", top 20,["thing"],1,1⟩
noncomputable abbrev Vp:Df:=⟨"many", "Panel.many", Av (top 34) 3,["self"],1,1⟩
noncomputable abbrev aq0:Df:=⟨"row_of", "Book.row_of", Av (top 25) 8,["self", "number", "row"],2,2⟩
noncomputable abbrev Vn:Df:=⟨"plain", "Book.plain", Av (top 25) 7,["self", "number"],2,4⟩
noncomputable abbrev aq2:Df:=⟨"others", "View.others", Av (top 17) 4,["self", "rows", "names", "first"],1,5⟩
noncomputable abbrev aq3:Df:=⟨"shared", "View.shared", Av (top 17) 2,["self"],1,6⟩
noncomputable abbrev Vr:Df:=⟨"apart", "View.apart", Av (top 17) 3,["self", "one"],1,6⟩
noncomputable abbrev ap7:Df:=⟨"parted", "Panel.parted", Av (top 34) 13,["self", "word"],2,1⟩
noncomputable abbrev ap9:Df:=⟨"is_open", "View.is_open", Av (top 17) 6,["self", "word", "met"],2,2⟩
noncomputable abbrev ap4:Df:=⟨"switches", "Panel.switches", Av (top 34) 4,["self"],1,1⟩
noncomputable abbrev ao8:Df:=⟨"switches_open", "View.switches_open", Av (top 17) 5,["self"],1,3⟩
noncomputable abbrev Zn:Df:=⟨"_law_cell", "_law_cell", top 43,["_law_script", "_law_k"],2,1⟩
noncomputable abbrev Zw:Df:=⟨"_law_mix", "_law_mix", top 44,["_law_cell_here", "_law_k", "_law_left", "_law_number"],2,1⟩
noncomputable abbrev Zi:Df:=⟨"_law_total", "_law_total", top 48,["_law_switches_here", "_law_total_here", "_law_word", "_law_settings"],1,1⟩
noncomputable abbrev Zh:Df:=⟨"_law_spelt", "_law_spelt", top 45,["_law_cell_here", "_law_signs", "_law_longest", "_law_many", "_law_word", "_law_k", "_law_long", "_law_at", "_law_words", "_law_steps"],4,2⟩
noncomputable abbrev a34:Df:=⟨"_law_switches", "_law_switches", top 46,["_law_cell_here", "_law_most", "_law_letters", "_law_words", "_law_switches_here", "_law_total_here", "_law_k", "_law_size"],2,3⟩
noncomputable abbrev Zg:Df:=⟨"_law_rules", "_law_rules", top 49,["_law_cell_here", "_law_switches_here", "_law_rules_here", "_law_j", "_law_rule", "_law_k", "_law_word", "_law_settings", "_law_bits", "_law_some"],2,2⟩
noncomputable abbrev Y9:Df:=⟨"_law_digits", "_law_digits", top 47,["_law_switches_here", "_law_number", "_law_found", "_law_word", "_law_settings"],2,1⟩
noncomputable abbrev Y8:Df:=⟨"_law_barred", "_law_barred", top 50,["_law_switches_here", "_law_rules_here", "_law_number", "_law_digits_here", "_law_rule", "_law_inside"],3,2⟩
noncomputable abbrev Zj:Df:=⟨"_law_world", "_law_world", top 51,["_law_cell_here", "_law_most", "_law_switches_here", "_law_rules_here", "_law_free"],2,4⟩
noncomputable abbrev Zr:Df:=⟨"_law_text", "_law_text", top 52,["_law_cell_here", "_law_signs", "_law_long"],1,2⟩
noncomputable abbrev Y5:Df:=⟨"_law_content", "_law_content", top 53,["_law_kind", "_law_cell_here", "_law_wide", "_law_rows", "_law_row"],2,3⟩
noncomputable abbrev Zs:Df:=⟨"_law_tree", "_law_tree", top 54,["_law_cell_here", "_law_variant_here", "_law_names_here", "_law_tree_here", "_law_k", "_law_name", "_law_number", "_law_kind", "_law_holders", "_law_rank"],3,4⟩
noncomputable abbrev Ze:Df:=⟨"_law_names", "_law_names", top 55,["_law_cell_here", "_law_many"],2,3⟩
noncomputable abbrev Y6:Df:=⟨"_law_variant", "_law_variant", top 56,["_law_cell_here", "_law_switches_here", "_law_number", "_law_many"],4,2⟩
noncomputable abbrev Zp:Df:=⟨"_law_made", "_law_made", top 58,["_law_script", "_law_much", "_law_world_here", "_law_names_here", "_law_many", "_law_trees", "_law_found", "_law_number"],2,5⟩
noncomputable abbrev D_zao:Df:=⟨"__init__", "Book.__init__", Av (top 25) 0,["self", "panel"],2,3⟩
noncomputable abbrev D_zbd:Df:=⟨"in_order", "in_order", top 13,["pairs"],1,6⟩
noncomputable abbrev ap2:Df:=⟨"value_key", "Plain.value_key", Av (top 15) 21,["self"],1,3⟩
noncomputable abbrev Zd:Df:=⟨"kept_rows", "kept_rows", top 27,["allowed", "rows", "sets", "plains", "choices", "plain", "key"],2,7⟩
noncomputable abbrev Zk:Df:=⟨"gathered", "gathered", top 26,["panel", "rows", "book"],2,8⟩
noncomputable abbrev ao9:Df:=⟨"all_choices", "Panel.all_choices", Av (top 34) 9,["self"],1,2⟩
noncomputable abbrev Y7:Df:=⟨"has_length", "has_length", top 22,["thing", "least", "greatest"],3,1⟩
noncomputable abbrev Zb:Df:=⟨"is_letter", "is_letter", top 23,["sign"],1,1⟩
noncomputable abbrev Zu:Df:=⟨"is_word", "is_word", top 21,["thing"],1,2⟩
noncomputable abbrev a30:Df:=⟨"are_unlike_words", "are_unlike_words", top 35,["things"],1,3⟩
noncomputable abbrev Vq:Df:=⟨"term", "Panel.term", Av (top 34) 12,["self", "word", "settings"],3,4⟩
noncomputable abbrev Vs:Df:=⟨"box", "Panel.box", Av (top 34) 11,["self", "terms", "choices", "word"],2,5⟩
noncomputable abbrev a36:Df:=⟨"copied_rule", "copied_rule", top 41,["rule", "copied", "word"],1,1⟩
noncomputable abbrev ap1:Df:=⟨"read_rule", "Panel.read_rule", Av (top 34) 2,["self", "rule"],2,6⟩
noncomputable abbrev ap0:Df:=⟨"read_rules", "Panel.read_rules", Av (top 34) 1,["self", "rules"],2,7⟩
noncomputable abbrev Zc:Df:=⟨"is_switch", "is_switch", top 37,["switch"],1,4⟩
noncomputable abbrev a33:Df:=⟨"read_switches", "read_switches", top 36,["switches", "settings", "many", "switch"],1,5⟩
noncomputable abbrev a29:Df:=⟨"settings_of_choices", "settings_of_choices", top 38,["settings", "tuples", "word", "longer", "ahead"],1,1⟩
noncomputable abbrev a28:Df:=⟨"numbers_by_settings", "numbers_by_settings", top 39,["tuples", "numbers", "number", "told"],1,1⟩
noncomputable abbrev Zy:Df:=⟨"set_of", "set_of", top 11,["numbers", "choices", "number"],1,1⟩
noncomputable abbrev a31:Df:=⟨"sets_of_settings", "sets_of_settings", top 40,["settings", "tuples", "sets", "place", "word", "setting", "having"],2,2⟩
noncomputable abbrev D_zaf:Df:=⟨"__init__", "Panel.__init__", Av (top 34) 0,["self", "switches", "rules"],3,8⟩
noncomputable abbrev Vu:Df:=⟨"lay", "Plain.lay", Av (top 15) 17,["self", "name", "kind", "parent", "rank", "content"],6,1⟩
noncomputable abbrev Zf:Df:=⟨"_law_plain", "_law_plain", top 57,["_law_tree_here", "_law_plain_here", "_law_name", "_law_kind", "_law_parent", "_law_rank", "_law_content_here"],1,3⟩
noncomputable abbrev Zm:Df:=⟨"_law_book", "_law_book", top 59,["_law_world_here", "_law_found", "_law_switches_here", "_law_rules_here", "_law_free", "_law_panel", "_law_rows", "_law_number"],2,10⟩
noncomputable abbrev Za:Df:=⟨"_law_within", "_law_within", top 60,["_law_cell_here", "_law_world_here", "_law_switches_here", "_law_rules_here", "_law_free", "_law_way", "_law_at", "_law_one", "_law_found", "_law_number", "_law_alike"],2,2⟩
noncomputable abbrev Zv:Df:=⟨"_law_due", "_law_due", top 61,["_law_found", "_law_within_here", "_law_names_here", "_law_first", "_law_shared", "_law_apart", "_law_name", "_law_here", "_law_unlike"],3,1⟩
noncomputable abbrev Zq:Df:=⟨"_law_open", "_law_open", top 62,["_law_switches_here", "_law_within_here", "_law_digits_here", "_law_words", "_law_k", "_law_word", "_law_settings"],2,2⟩
noncomputable abbrev Zo:Df:=⟨"_law_list", "_law_list", top 63,["_law_told", "_law_due_here"],2,1⟩
noncomputable abbrev D_zbs:Df:=⟨"law", "law", top 64,["_law_script", "_law_world_here", "_law_names_here", "_law_found", "_law_book_here", "_law_within_here", "_law_barred_here", "_law_more", "_law_view", "_law_shared", "_law_apart", "_law_words", "_law_turn"],1,11⟩
section
variable (K:ac) (t:Adr)
noncomputable abbrev a57:FI:=Ck ap8 (t.m_zbz 0) (t.e_zbz 0) (al8 K t)
noncomputable abbrev a11:FI:=Ck Vt (t.m_zbz 1) (t.e_zbz 1) (Uv K t)
noncomputable abbrev a12:FI:=Ck Vu (t.m_zbz 2) (t.e_zbz 2) (Uw K t)
noncomputable abbrev as6:FI:=Ck aq1 (t.m_zbz 3) (t.e_zbz 3) (am2 K t)
noncomputable abbrev a55:FI:=Ck ao7 (t.m_zbz 4) (t.e_zbz 4) (aj8 K t)
noncomputable abbrev bl0:FI:=Ck ap2 (t.m_zbz 5) (t.e_zbz 5) (al0 K t)
noncomputable abbrev a10:FI:=Ck Vr (t.m_zcb 0) (t.e_zcb 0) (Uq K t)
noncomputable abbrev bl5:FI:=Ck ap9 (t.m_zcb 1) (t.e_zcb 1) (al9 K t)
noncomputable abbrev a58:FI:=Ck aq2 (t.m_zcb 2) (t.e_zcb 2) (am3 K t)
noncomputable abbrev bl7:FI:=Ck aq3 (t.m_zcb 3) (t.e_zcb 3) (am4 K t)
noncomputable abbrev bk7:FI:=Ck ao8 (t.m_zcb 4) (t.e_zcb 4) (ak5 K t)
noncomputable abbrev a06:FI:=Ck Vm (t.m_zca 0) (t.e_zca 0) (Uk K t)
noncomputable abbrev a07:FI:=Ck Vn (t.m_zca 1) (t.e_zca 1) (Ul K t)
noncomputable abbrev bl6:FI:=Ck aq0 (t.m_zca 2) (t.e_zca 2) (am1 K t)
noncomputable abbrev bl3:FI:=Ck ap6 (t.m_zca 3) (t.e_zca 3) (al6 K t)
noncomputable abbrev bl1:FI:=Ck ap3 (t.m_zca 4) (t.e_zca 4) (al1 K t)
noncomputable abbrev a08:FI:=Ck Vo (t.m_zca 5) (t.e_zca 5) (Um K t)
noncomputable abbrev a56:FI:=Ck ao9 (t.m_zby 0) (t.e_zby 0) (ak6 K t)
noncomputable abbrev as5:FI:=Ck ap5 (t.m_zby 1) (t.e_zby 1) (al4 K t)
noncomputable abbrev ac4:FI:=Ck Vs (t.m_zby 2) (t.e_zby 2) (Uu K t)
noncomputable abbrev ac3:FI:=Ck Vp (t.m_zby 3) (t.e_zby 3) (Uo K t)
noncomputable abbrev bl4:FI:=Ck ap7 (t.m_zby 4) (t.e_zby 4) (al7 K t)
noncomputable abbrev bk9:FI:=Ck ap1 (t.m_zby 5) (t.e_zby 5) (ak9 K t)
noncomputable abbrev bk8:FI:=Ck ap0 (t.m_zby 6) (t.e_zby 6) (ak7 K t)
noncomputable abbrev bl2:FI:=Ck ap4 (t.m_zby 7) (t.e_zby 7) (al2 K t)
noncomputable abbrev a09:FI:=Ck Vq (t.m_zby 8) (t.e_zby 8) (Up K t)
noncomputable def i_zas:FI:=⟨t.f_zas,t.d_zas,D_zas.ps,2,ak2 K t,[],[]⟩
noncomputable def i_zai:FI:=⟨t.f_zai,t.d_zai,D_zai.ps,1,ak0 K t,[],[]⟩
noncomputable def i_zao:FI:=⟨t.f_zao,t.d_zao,D_zao.ps,3,ak1 K t,[],[]⟩
noncomputable def i_zaf:FI:=⟨t.f_zaf,t.d_zaf,D_zaf.ps,8,aj9 K t,[.non],[.none]⟩
noncomputable def Fg:List MI:=[⟨t.c_zby,a56 K t⟩]
noncomputable def F9:List MI:=[⟨t.c_zby,as5 K t⟩]
noncomputable def ae3:List MI:=[⟨t.c_zcb,a10 K t⟩]
noncomputable def ae4:List MI:=[⟨t.c_zby,ac4 K t⟩]
noncomputable def Ni:List MI:=[⟨t.c_zbz,a57 K t⟩]
noncomputable def a71:List MI:=[⟨t.c_zbz,a11 K t⟩]
noncomputable def Tu:List MI:=[⟨t.c_zcb,bl5 K t⟩]
noncomputable def a72:List MI:=[⟨t.c_zbz,a12 K t⟩]
noncomputable def Wg:List MI:=[⟨t.c_zby,ac3 K t⟩]
noncomputable def Gx:List MI:=[⟨t.c_zbz,as6 K t⟩,⟨t.c_zca,a06 K t⟩]
noncomputable def Nj:List MI:=[⟨t.c_zcb,a58 K t⟩]
noncomputable def X5:List MI:=[⟨t.c_zby,bl4 K t⟩]
noncomputable def ae7:List MI:=[⟨t.c_zca,a07 K t⟩]
noncomputable def Ot:List MI:=[⟨t.c_zby,bk9 K t⟩]
noncomputable def Lx:List MI:=[⟨t.c_zby,bk8 K t⟩]
noncomputable def X6:List MI:=[⟨t.c_zca,bl6 K t⟩]
noncomputable def Tv:List MI:=[⟨t.c_zca,bl3 K t⟩]
noncomputable def Ou:List MI:=[⟨t.c_zca,bl1 K t⟩]
noncomputable def X7:List MI:=[⟨t.c_zcb,bl7 K t⟩]
noncomputable def Em:List MI:=[⟨t.c_zbz,a55 K t⟩]
noncomputable def Q6:List MI:=[⟨t.c_zby,bl2 K t⟩]
noncomputable def Hu:List MI:=[⟨t.c_zcb,bk7 K t⟩]
noncomputable def at8:List MI:=[⟨t.c_zby,a09 K t⟩]
noncomputable def Ov:List MI:=[⟨t.c_zbz,bl0 K t⟩]
noncomputable def ae8:List MI:=[⟨t.c_zca,a08 K t⟩]
noncomputable def X1:List MI:=[⟨t.c_zbz,as6 K t⟩]
noncomputable def cons:List (Str×V):=[("__builtins__", .ref 4),("MOST_SWITCHES", (.int 5)),("LEAST_SETTINGS", (.int 2)),("MOST_SETTINGS", (.int 4)),("MOST_CHOICES", (.int 256)),("MOST_RULES", (.int 8))]
noncomputable def fns:List (Df×Sp):=[(Zx,Pr K t),(a35,Np K t),(Zt,Ie K t),(a32,al3 K t),(Zl,U6 K t),(Zn,Dz K t),(Zw,Be K t),(Zi,K3 K t),(Zh,K2 K t),(a34,am0 K t),(Zg,U2 K t),(Y9,Gd K t),(Y8,Us K t),(Zj,U3 K t),(Zr,Pp K t),(Y5,Ui K t),(Zs,Va K t),(Ze,U0 K t),(Y6,Uj K t),(Zp,U8 K t),(D_zbd,U5 K t),(Zd,Uz K t),(Zk,U4 K t),(Y7,Ur K t),(Zb,Ux K t),(Zu,Pq K t),(a30,W4 K t),(a36,am5 K t),(Zc,Uy K t),(a33,al5 K t),(a29,ak4 K t),(a28,ak3 K t),(Zy,Vc K t),(a31,ak8 K t),(Zf,U1 K t),(Zm,U7 K t),(Za,Ut K t),(Zv,Vb K t),(Zq,U9 K t),(Zo,K4 K t)]
noncomputable def a68:List (Df×Sp):=[(ap8,al8 K t),(Vt,Uv K t),(Vu,Uw K t),(aq1,am2 K t),(ao7,aj8 K t),(ap2,al0 K t)]
noncomputable def a70:List (Df×Sp):=[(Vr,Uq K t),(ap9,al9 K t),(aq2,am3 K t),(aq3,am4 K t),(ao8,ak5 K t)]
noncomputable def a69:List (Df×Sp):=[(Vm,Uk K t),(Vn,Ul K t),(aq0,am1 K t),(ap6,al6 K t),(ap3,al1 K t),(Vo,Um K t)]
noncomputable def a67:List (Df×Sp):=[(ao9,ak6 K t),(ap5,al4 K t),(Vs,Uu K t),(Vp,Uo K t),(ap7,al7 K t),(ap1,ak9 K t),(ap0,ak7 K t),(ap4,al2 K t),(Vq,Up K t)]
noncomputable def Aw:List Ent:=[⟨2, "Plain", .cls t.c_zbz (some (i_zai K t))⟩,⟨3, "View", .cls t.c_zcb (some (i_zas K t))⟩,⟨4, "Book", .cls t.c_zca (some (i_zao K t))⟩,⟨9, "Panel", .cls t.c_zby (some (i_zaf K t))⟩,⟨2, "", .met "names" (Gx K t)⟩]++(a46 t.u 0 cons++(X0 t.c_zbz t.m_zbz t.e_zbz 0 (a68 K t)++(X0 t.c_zcb t.m_zcb t.e_zcb 0 (a70 K t)++(X0 t.c_zca t.m_zca t.e_zca 0 (a69 K t)++(X0 t.c_zby t.m_zby t.e_zby 0 (a67 K t)++(fnE t.f t.d 0 (fns K t)))))))
end
noncomputable abbrev v0_:DE:=Ab 0
noncomputable abbrev v1_:DE:=Ab 1
noncomputable abbrev v2_:DE:=Ab 2
noncomputable abbrev v3_:DE:=Ab 3
noncomputable abbrev v4_:DE:=Ab 4
noncomputable abbrev v5_:DE:=Ab 5
noncomputable abbrev v6_:DE:=Ab 6
noncomputable abbrev v7_:DE:=Ab 7
noncomputable abbrev v8_:DE:=Ab 8
noncomputable abbrev v9_:DE:=Ab 9
noncomputable abbrev v10_:DE:=Ab 10
noncomputable abbrev v11_:DE:=Ab 11
noncomputable abbrev m_ (i:Int):DE:=dC (.int i)
noncomputable abbrev n_ (a:DE):DA:=Ac a Af
noncomputable abbrev o_ (a b:DE):DA:=Ac a (n_ b)
noncomputable abbrev p_ (a b c:DE):DA:=Ac a (o_ b c)
noncomputable abbrev q_ (s:Sp) (a:DA):DE:=dFn (spE s []) a
noncomputable abbrev r_ (r:RF) (a:DA):DE:=dFn (λvs H Q _=>r vs H Q) a
noncomputable def b15 (K:ac) (t:Adr):DS:=(Ae (As (dUn (A5 K "free") v0_)) Ag)
noncomputable def L9 (K:ac) (t:Adr):DS:=(Ae (F2 K "seen" v0_ (Ah Eo v2_ (Bz "allowed" 0 (F9 K t) (dUn (A5 K "panel") v1_) Af))) (Ae (dIf (Bb (Ah (Br K false) (dUn (A5 K "seen") v0_) (m_ 0))) (Ae Bj Ag) Ag) Ag))
noncomputable def bt6 (K:ac) (t:Adr):DS:=(Ae (F2 K "book" v0_ v1_) (L9 K t))
noncomputable def bv9 (K:ac) (t:Adr):DS:=(Ae (As (Ah (Br K false) (Ah Eo (Ah Wv v0_ v1_) (m_ 1)) (m_ 1))) Ag)
noncomputable def b22 (K:ac) (t:Adr):DS:=(Ae (Cb (F3 (n_ (dMt (rMt K [⟨"int", "int.bit_length", ai8⟩]) v0_ Af))) (gdN 1) (Ae (dIf (C4 K (q_ (Pr K t) (o_ v0_ v1_))) (Ae (As v1_) Ag) Ag) Ag)) (Ae (As (dC .non)) Ag))
noncomputable def b24 (K:ac) (t:Adr):DS:=(Ae (As (r_  (Pl K true) (n_ (dUn (A5 K "records") v0_)))) Ag)
noncomputable def bv5 (K:ac) (t:Adr):DS:=(Ae (Ao 1 (m_ 0)) (Ae (Cb (Bi K v0_) (gdN 2) (Ae (Ao 1 (Ah aj1 v1_ v2_)) Ag)) (Ae (As v1_) Ag)))
noncomputable def bz9 (K:ac) (t:Adr):DS:=(Ae (As (dMt (rMt K [⟨"dict", "dict.get", G0⟩]) (dUn (A5 K "records") v0_) (n_ v1_))) Ag)
noncomputable def Ge (K:ac) (t:Adr):DS:=(Ae (As (q_ (Ie K t) (n_ (A3 [none,none,some 2,some 3] (Bi K v0_) (gdT K 2 [(gdN 0),(gdN 1)]) (Bb (Ah (Br K true) (Bz "state_or_none" 1 (Em K t) v1_ (n_ v2_)) v3_)) v0_)))) Ag)
noncomputable def b13 (K:ac) (t:Adr):DS:=(Ae (Ao 3 (Bz "state_or_none" 1 (Em K t) v1_ (n_ v2_))) (Ge K t))
noncomputable def b17 (K:ac) (t:Adr):DS:=(Ae (As (A3 [none,none,some 1] (Bi K (dUn (A5 K "kept") v0_)) (gdT K 2 [(gdN 0),(gdN 1)]) (Bb (Ah (Br K true) (Ah Eo v0_ v2_) (m_ 0))) (Et (o_ (Ah Eo v0_ v2_) v1_)))) Ag)
noncomputable def K6 (K:ac) (t:Adr):DS:=(Ae (Cb (Bi K (dUn (A5 K "kept") v0_)) (gdT K 2 [(gdN 2),(gdN 3)]) (Ae (Cb (Bi K (Bz "names" 0 (X1 K t) v3_ Af)) (gdN 4) (Ae (Ea (dC (.bl true)) (Cm K v1_ v4_)) Ag)) Ag)) (Ae (As (r_  (Pl K true) (n_ v1_))) Ag))
noncomputable def bs0 (K:ac) (t:Adr):DS:=(Ae (Ao 1 Do) (K6 K t))
noncomputable def bt4 (K:ac) (t:Adr):DS:=(Ae (As (Ah (Ph K false) v1_ (dUn (A5 K "records") v0_))) Ag)
noncomputable def b09 (K:ac) (t:Adr):DS:=(Ae (Ao 2 (A3 [none,none,some 1] (Bi K (dUn (A5 K "kept") v0_)) (gdT K 2 [(gdN 0),(gdN 1)]) (C4 K (Bz "has" 1 (a71 K t) v1_ (n_ v2_))) (Et (o_ v0_ v1_)))) (Ae (dIf (Bb (Ah (Br K false) v2_ (B6 Af))) (Ae Bj Ag) Ag) (Ae (As v2_) Ag)))
noncomputable def bs2 (K:ac) (t:Adr):DS:=(Ae (As (q_ (Ie K t) (n_ (A3 [none,none] (Bi K (Bz "rows_with" 1 (Ou K t) v0_ (n_ v1_))) (gdT K 2 [(gdN 0),(gdN 1)]) Cc v0_)))) Ag)
noncomputable def bs6 (K:ac) (t:Adr):DS:=(Ae (F2 K "records" v0_ Do) Ag)
noncomputable def b19 (K:ac) (t:Adr):DS:=(Ae (Ao 1 (dFn (mkC t.c_zbz (some (i_zai K t)) 0) Af)) (Ae (F2 K "records" v1_ (r_ Pf (n_ (dUn (A5 K "records") v0_)))) (Ae (As v1_) Ag)))
noncomputable def bu7 (K:ac) (t:Adr):DS:=(Ae (As (M2 K (r_  (G1 K) (o_ v0_ (dC (.ty "int")))) (aa9 K (r_  (G1 K) (o_ v0_ (dC (.ty "bool"))))))) Ag)
noncomputable def bs4 (K:ac) (t:Adr):DS:=(Ae (As (r_  (Da K) (n_ (dUn (A5 K "tuples") v0_)))) Ag)
noncomputable def Iz (K:ac) (t:Adr):DS:=(Ae (Cb (Bi K (dUn (A5 K "kept") v0_)) (gdN 2) (Ae (dIf (C4 K (q_ (Pr K t) (o_ (Ah (A8 K) v2_ (m_ 0)) v1_))) (Ae (As v2_) Ag) Ag) Ag)) Ag)
noncomputable def b23 (K:ac) (t:Adr):DS:=(Ae (dIf (J6 (C4 K (q_ (U6 K t) (n_ v1_))) (Bb (Eb G3 bh7 (m_ 0) v1_ (Bz "many" 0 (Wg K t) (dUn (A5 K "panel") v0_) Af)))) (Iz K t) Ag) (Ae Bj Ag))
noncomputable def bs1 (K:ac) (t:Adr):DS:=(Ae (As (Bz "copied" 0 (Ni K t) (Ah (A8 K) (Bz "row_of" 1 (X6 K t) v0_ (n_ v1_)) (m_ 1)) Af)) Ag)
noncomputable def Ja (K:ac) (t:Adr):DS:=(Ae (As (A3 [none,some 3,some 1] (Bi K v2_) (gdN 0) Cc (Et (o_ v0_ (q_ (Np K t) (n_ (q_ (al3 K t) (p_ v2_ v1_ v0_)))))))) Ag)
noncomputable def Jb (K:ac) (t:Adr):DS:=(Ae (Ao 2 (A3 [none,some 0] (Bi K (Bz "names" 0 (Gx K t) (dUn (A5 K "book") v0_) Af)) (gdN 0) (Bb (Ah (Br K true) (Ah Eo (Bz "where" 1 (ae8 K t) (dUn (A5 K "book") v1_) (n_ v0_)) (dUn (A5 K "seen") v1_)) (m_ 0))) v0_)) (Ae (Ao 3 (Bz "plain" 1 (ae7 K t) (dUn (A5 K "book") v0_) (n_ (q_ (Np K t) (n_ (dUn (A5 K "seen") v0_)))))) (Ja K t)))
noncomputable def b25 (K:ac) (t:Adr):DS:=(Ae (Ao 1 (Bz "rows_in" 1 (Tv K t) (dUn (A5 K "book") v0_) (n_ (dUn (A5 K "seen") v0_)))) (Jb K t))
noncomputable def b26 (K:ac) (t:Adr):DS:=(Ae (As (A3 [none,none] (Bi K (Bz "others" 0 (Nj K t) v0_ Af)) (gdT K 2 [(gdN 0),(gdN 1)]) (Bb (Ah (aj0 false) v1_ (dC .non))) v0_)) Ag)
noncomputable def Lc (K:ac) (t:Adr):DS:=(Ae (As (A3 [none,none,some 1] (Bi K (Bz "others" 0 (Nj K t) v0_ Af)) (gdT K 2 [(gdN 0),(gdN 1)]) (Bb (Ah (aj0 true) v1_ (dC .non))) (Et (p_ v0_ v2_ v1_)))) Ag)
noncomputable def bs7 (K:ac) (t:Adr):DS:=(Ae (Ao 1 (q_ (Np K t) (n_ (dUn (A5 K "seen") v0_)))) (Lc K t))
noncomputable def b18 (K:ac) (t:Adr):DS:=(Ae (As (dUn (Ez K) (Ah (A8 K) (dUn (A5 K "sets") v0_) v1_))) Ag)
noncomputable def b20 (K:ac) (t:Adr):DS:=(Ae (Ao 2 (A3 [none,none,some 0] (Bi K (Bz "parted" 1 (X5 K t) (dUn (A5 K "panel") (dUn (A5 K "book") v0_)) (n_ v1_))) (gdT K 2 [(gdN 0),(gdN 1)]) (Bb (Ah (Br K true) (Ah Eo v1_ (dUn (A5 K "seen") v2_)) (m_ 0))) v0_)) (Ae (As (Ah Pg (r_  (Da K) (n_ v2_)) (m_ 1))) Ag))
noncomputable def b11 (K:ac) (t:Adr):DS:=(Ae (As (dUn (Ez K) (dUn (A5 K "settings") v0_))) Ag)
noncomputable def b02 (K:ac) (t:Adr):DS:=(Ae (As (A3 [none,none,some 0] (Bi K (Bz "switches" 0 (Q6 K t) (dUn (A5 K "panel") (dUn (A5 K "book") v0_)) Af)) (gdT K 2 [(gdN 0),(gdN 1)]) (C4 K (Bz "is_open" 1 (Tu K t) v2_ (n_ v0_))) v0_)) Ag)
noncomputable def bu9 (K:ac) (t:Adr):DS:=(Ae (dIf (Bb (Ah bh7 v1_ (r_  (Da K) (n_ v0_)))) (Ae (As (Ah (A8 K) v0_ v1_)) Ag) Ag) (Ae (As (m_ 0)) Ag))
noncomputable def R4 (K:ac) (t:Adr):DS:=(Ae (Ao 3 (Ah Bc (Ah (Dg K) v3_ v3_) (m_ 2147483629))) (Ae (As (Ah Dx (Ah Bc (Ah (Dg K) v3_ (Ah (Bf K) v3_ (m_ 3))) (m_ 2147483587)) (m_ 32))) Ag))
noncomputable def R5 (K:ac) (t:Adr):DS:=(Ae (dIf (J6 (Bb (Ah (Br K false) (Ah Bc v0_ (m_ 2)) (m_ 0))) (J6 (Bb (Ah (Br K true) v2_ (m_ 0))) (Bb (Ah (Br K true) v2_ (dUn Wt (m_ 1)))))) (Ae (As (Ah Eo v2_ (m_ 134217727))) Ag) Ag) (Ae (Ao 3 (Ah Bc (Ah (Dg K) (Ah (Bf K) v0_ (Ah (Dg K) (m_ 7919) v1_)) (m_ 48271)) (m_ 2147483647))) (R4 K t)))
noncomputable def bv8 (K:ac) (t:Adr):DS:=(Ae (Ao 2 (Ah Wv v0_ (Ah (Bf K) (Ah (Dg K) (m_ 27) v1_) (m_ 1)))) (R5 K t))
noncomputable def bu3 (K:ac) (t:Adr):DS:=(Ae (Ao 1 (m_ 1)) (Ae (Cb (Bi K v0_) (gdT K 2 [(gdN 2),(gdN 3)]) (Ae (Ao 1 (Ah (Dg K) v1_ (r_  (Da K) (n_ v3_)))) Ag)) (Ae (As v1_) Ag)))
noncomputable def Mj (K:ac) (t:Adr):DS:=(Ae (Ao 4 (dMt (rMt K [⟨"str", "str.join", Nm K⟩]) (dC (.str "")) (n_ (A3 [none,some 0,some 1] (F3 (n_ v2_)) (gdN 0) Cc (Ah (A8 K) v2_ (Ah Bc (q_ (Be K t) (o_ v1_ (Ah (Bf K) (m_ 2) v0_))) (r_  (Da K) (n_ v2_)))))))) (Ae (As (A3 [none,some 2,some 4] (F3 (n_ v3_)) (gdN 0) Cc (dSl K v2_ J7 (Qp (Ah aj3 v1_ v0_))))) Ag))
noncomputable def Ml (K:ac) (t:Adr):DS:=(Ae (C3 (dMt (rMt K [⟨"list", "list.append", B8⟩]) v8_ (n_ (dMt (rMt K [⟨"str", "str.join", Nm K⟩]) (dC (.str "")) (n_ (A3 [none,some 1] (Bi K v9_) (gdN 0) Cc (Ah (A8 K) v1_ (Ah Bc v0_ (r_  (Da K) (n_ v1_)))))))))) Ag)
noncomputable def Mm (K:ac) (t:Adr):DS:=(Ae (Ao 9 (A3 [none,some 7,some 0,some 5] (F3 (n_ v6_)) (gdN 0) Cc (Ah (Bf K) (q_ (Be K t) (o_ v2_ (Ah (Bf K) (m_ 22) v0_))) (Ah (Dg K) v3_ (r_ Yk (n_ (Ah (Br K false) v0_ v1_))))))) (Ml K t))
noncomputable def Mn (K:ac) (t:Adr):DS:=(Ae (Ao 7 (Ah Bc (q_ (Be K t) (o_ v0_ (m_ 21))) v6_)) (Ae (Ao 8 (B6 Af)) (Ae (Cb (F3 (n_ v3_)) (gdN 5) (Mm K t)) (Ae (As v8_) Ag))))
noncomputable def bu2 (K:ac) (t:Adr):DS:=(Ae (dIf (J6 (Bb (Ah (Br K false) (Ah Bc (q_ (Be K t) (o_ v0_ (m_ 1))) (m_ 3)) (m_ 0))) (Bb (Ah G3 v3_ v2_))) (Mj K t) Ag) (Ae (Ao 6 (Ah (Bf K) (m_ 1) (Ah Bc (q_ (Be K t) (o_ v0_ (m_ 20))) v2_))) (Mn K t)))
noncomputable def Ig (K:ac) (t:Adr):DS:=(Ae (C3 (dMt (rMt K [⟨"list", "list.append", B8⟩]) v4_ (n_ (Et (o_ (Ah (A8 K) v3_ v6_) (q_ (K2 K t) (Ac (Ah (Bf K) (Ah (Bf K) v0_ (m_ 1)) v6_) (p_ v2_ (m_ 8) v7_)))))))) Ag)
noncomputable def Ih (K:ac) (t:Adr):DS:=(Ae (Ao 7 (Ah (Bf K) (m_ 2) (Ah Bc (q_ (Be K t) (o_ v0_ (Ah (Bf K) (m_ 41) v6_))) (m_ 3)))) (Ae (dIf (Bb (Ah G3 (Ah (Dg K) v5_ v7_) v1_)) (Ae (Ao 5 (Ah (Dg K) v5_ v7_)) (Ig K t)) Ag) Ag))
noncomputable def Ii (K:ac) (t:Adr):DS:=(Ae (Cb (F3 (n_ (Ah (Bf K) (m_ 1) (Ah Bc (q_ (Be K t) (o_ v0_ (m_ 40))) (m_ 5))))) (gdN 6) (Ih K t)) (Ae (As v4_) Ag))
noncomputable def Ij (K:ac) (t:Adr):DS:=(Ae (Ao 3 (q_ (K2 K t) (Ac v0_ (p_ v2_ (m_ 8) (m_ 5))))) (Ae (Ao 4 (B6 Af)) (Ae (Ao 5 (m_ 1)) (Ii K t))))
noncomputable def b21 (K:ac) (t:Adr):DS:=(Ae (Ao 2 (dC (.str "abcdefghijklmnopqrstuvwxyz"))) (Ij K t))
noncomputable def Mf (K:ac) (t:Adr):DS:=(Ae (dIf (J6 (Bb (Ah (Br K true) v9_ (B6 Af))) (Bb (Ah Pg (Ah Bc (Ah Dx v8_ (m_ 16)) (m_ 3)) (m_ 0)))) (Ae (Ea v9_ (Cm K v4_ v6_)) Ag) Ag) Ag)
noncomputable def Mg (K:ac) (t:Adr):DS:=(Ae (Ao 9 (A3 [none,none,some 8] (iEn K (n_ v7_)) (gdT K 2 [(gdN 0),(gdN 1)]) (Bb (Ah (Br K false) (Ah Eo (Ah Wv v2_ v0_) (m_ 1)) (m_ 1))) v1_)) (Mf K t))
noncomputable def Mh (K:ac) (t:Adr):DS:=(Ae (Cb (iEn K (n_ v1_)) (gdT K 2 [(gdN 5),(gdT K 2 [(gdN 6),(gdN 7)])]) (Ae (Ao 8 (q_ (Be K t) (o_ v0_ (Ah (Bf K) (Ah (Bf K) (m_ 61) (Ah (Dg K) (m_ 8) v3_)) v5_)))) (Mg K t))) (Ae (dIf (Bb (Ah (Br K true) v4_ Do)) (Ae (C3 (dMt (rMt K [⟨"list", "list.append", B8⟩]) v2_ (n_ v4_))) Ag) Ag) Ag))
noncomputable def Mi (K:ac) (t:Adr):DS:=(Ae (Cb (F3 (n_ (Ah Bc (q_ (Be K t) (o_ v0_ (m_ 60))) (m_ 4)))) (gdN 3) (Ae (Ao 4 Do) (Mh K t))) (Ae (As v2_) Ag))
noncomputable def bu1 (K:ac) (t:Adr):DS:=(Ae (Ao 2 (B6 Af)) (Mi K t))
noncomputable def Le (K:ac) (t:Adr):DS:=(Ae (C3 (dMt (rMt K [⟨"list", "list.insert", J0⟩]) v2_ (o_ (m_ 0) (Ah Bc v1_ (r_  (Da K) (n_ v4_)))))) (Ae (Ao 1 (Ah Dx v1_ (r_  (Da K) (n_ v4_)))) Ag))
noncomputable def bt0 (K:ac) (t:Adr):DS:=(Ae (Ao 2 (B6 Af)) (Ae (Cb (a54 K v0_) (gdT K 2 [(gdN 3),(gdN 4)]) (Le K t)) (Ae (As v2_) Ag)))
noncomputable def Ld (K:ac) (t:Adr):DS:=(Ae (Ao 5 (A3 [none,none,none,some 3,some 4] (iEn K (n_ v0_)) (gdT K 2 [(gdN 0),(gdT K 2 [(gdN 1),(gdN 2)])]) Cc (Ah (Ph K false) (Ah (A8 K) v2_ (Ah (A8 K) v3_ v0_)) (dMt (rMt K [⟨"dict", "dict.get", G0⟩]) v4_ (o_ v1_ v2_))))) (Ae (dIf (C4 K (r_  (Rm K) (n_ v5_))) (Ae (As (dC (.bl true))) Ag) Ag) Ag))
noncomputable def bs9 (K:ac) (t:Adr):DS:=(Ae (Ao 3 (q_ (Gd K t) (o_ v0_ v2_))) (Ae (Cb (Bi K v1_) (gdN 4) (Ld K t)) (Ae (As (dC (.bl false))) Ag)))
noncomputable def Mo (K:ac) (t:Adr):DS:=(Ae (dIf (Bb (Ah (Br K false) v4_ (B6 Af))) (Ae (Ao 3 (B6 Af)) (Ae (Ao 4 (dUn Kz (q_ (K3 K t) (n_ v2_)))) Ag)) Ag) (Ae (As (B6 (p_ v2_ v3_ v4_))) Ag))
noncomputable def Mp (K:ac) (t:Adr):DS:=(Ae (Ao 4 (A3 [none,some 3,some 2] (F3 (n_ (q_ (K3 K t) (n_ v2_)))) (gdN 0) (Ed (C4 K (q_ (Us K t) (p_ v2_ v1_ v0_)))) v0_)) (Mo K t))
noncomputable def bu4 (K:ac) (t:Adr):DS:=(Ae (Ao 2 (q_ (am0 K t) (o_ v0_ v1_))) (Ae (Ao 3 (q_ (U2 K t) (o_ v0_ v2_))) (Mp K t)))
noncomputable def P3 (K:ac) (t:Adr):DS:=(Ae (As (dMt (rMt K [⟨"str", "str.join", Nm K⟩]) (dC (.str "")) (n_ (A3 [none,some 0,some 1] (F3 (n_ v2_)) (gdN 0) Cc (Ah (A8 K) v2_ (Ah Bc (q_ (Be K t) (o_ v1_ (Ah (Bf K) (m_ 302) v0_))) (r_  (Da K) (n_ v2_)))))))) Ag)
noncomputable def P4 (K:ac) (t:Adr):DS:=(Ae (Ao 2 (Ah (A8 K) (B6 (Ac (m_ 0) (Ac (m_ 1) (p_ (m_ 2) (m_ 5) (m_ 60))))) (Ah Bc (q_ (Be K t) (o_ v0_ (m_ 301))) (m_ 5)))) (P3 K t))
noncomputable def bv3 (K:ac) (t:Adr):DS:=(Ae (Ao 1 (dC (.str " !\"#$&'()*+,-./0123456789:;<=>?@ABCDEFGHIJKLMNOPQRSTUVWXYZ[\\]^_`"))) (Ae (Ao 1 (Ah (Bf K) v1_ (dC (.str "abcdefghijklmnopqrstuvwxyz{|}~")))) (P4 K t)))
noncomputable def Jd (K:ac) (t:Adr):DS:=(Ae (C3 (dMt (rMt K [⟨"list", "list.append", B8⟩]) v3_ (n_ (r_  (Gb K) (n_ (A3 [none,some 1,some 4] (F3 (n_ v2_)) (gdN 0) Cc (dSl K (q_ (Pp K t) (n_ (Ah (Bf K) (Ah (Bf K) v1_ (Ah (Dg K) (m_ 5) v2_)) (Ah (Dg K) (m_ 17) v0_)))) J7 (Qp (m_ 3))))))))) Ag)
noncomputable def Je (K:ac) (t:Adr):DS:=(Ae (Cb (F3 (n_ (Ah (Bf K) (m_ 1) (Ah Bc (q_ (Be K t) (o_ v1_ (m_ 311))) (m_ 3))))) (gdN 4) (Jd K t)) (Ae (As (r_  (Gb K) (n_ v3_))) Ag))
noncomputable def Jf (K:ac) (t:Adr):DS:=(Ae (Ao 2 (Ah (Bf K) (m_ 1) (Ah Bc (q_ (Be K t) (o_ v1_ (m_ 310))) (m_ 3)))) (Ae (Ao 3 (B6 Af)) (Je K t)))
noncomputable def br8 (K:ac) (t:Adr):DS:=(Ae (dIf (Bb (Ah (Br K true) v0_ (dC (.str "table")))) (Ae (As (q_ (Pp K t) (n_ v1_))) Ag) Ag) (Jf K t))
noncomputable def P5 (K:ac) (t:Adr):DS:=(Ae (Ea (Et (Ac v7_ (p_ (Ah (A8 K) v8_ (Ah Bc (Ah Dx v6_ (m_ 384)) (r_  (Da K) (n_ v8_)))) v9_ (q_ (Ui K t) (o_ v7_ (Ah Dx v6_ (m_ 96))))))) (Cm K v3_ v5_)) Ag)
noncomputable def P6 (K:ac) (t:Adr):DS:=(Ae (Ao 9 (Ah (A8 K) (B6 (Ac (m_ 0) (p_ (m_ 1) (Ah a19 (m_ 10) (m_ 9)) (Ah Bc (Ah Dx v6_ (m_ 96)) (m_ 1000))))) (Ah Bc (Ah Dx v6_ (m_ 24)) (m_ 4)))) (P5 K t))
noncomputable def P7 (K:ac) (t:Adr):DS:=(Ae (Ao 8 (V8 (Ah (Bf K) (B6 (n_ (dC (.str "")))) (A3 [none,some 3] (Bi K v3_) (gdN 0) (Bb (Ah (Br K false) (Ah (A8 K) (Ah (A8 K) v1_ v0_) (m_ 0)) (dC (.str "chapter")))) v0_)))) (P6 K t))
noncomputable def P9 (K:ac) (t:Adr):DS:=(Ae (Ao 7 (Ah (A8 K) (B6 (Ac (dC (.str "chapter")) (p_ (dC (.str "para")) (dC (.str "table")) (dC (.str "chapter"))))) (Ah Bc (Ah Dx v6_ (m_ 6)) (m_ 4)))) (P7 K t))
noncomputable def Qa (K:ac) (t:Adr):DS:=(Ae (dIf (J6 (Bb (Ah Pg v1_ (m_ 0))) (Bb (Ah (Br K false) (Ah Bc (q_ (Be K t) (o_ v0_ (Ah (Bf K) (Ah (Bf K) (m_ 130) (Ah (Dg K) (m_ 40) v1_)) v4_))) (m_ 3)) (m_ 0)))) (Ae (Ao 6 (q_ (Be K t) (o_ v0_ (Ah (Bf K) (Ah (Bf K) (m_ 500) (Ah (Dg K) (m_ 40) v1_)) v4_)))) Ag) Ag) (Ae (dIf (Bb (Ah Pg (Ah Bc v6_ (m_ 6)) (m_ 0))) (P9 K t) Ag) Ag))
noncomputable def Qb (K:ac) (t:Adr):DS:=(Ae (Cb (iEn K (n_ v2_)) (gdT K 2 [(gdN 4),(gdN 5)]) (Ae (Ao 6 (q_ (Be K t) (o_ v0_ (Ah (Bf K) (m_ 100) v4_)))) (Qa K t))) (Ae (As v3_) Ag))
noncomputable def bv4 (K:ac) (t:Adr):DS:=(Ae (Ao 3 Do) (Qb K t))
noncomputable def bt9 (K:ac) (t:Adr):DS:=(Ae (As (q_ (K2 K t) (Ac v0_ (p_ (dC (.str "abcdefghijklmnopqrstuvwxyz0123456789.")) (m_ 12) v1_)))) Ag)
noncomputable def Jg (K:ac) (t:Adr):DS:=(Ae (As (Ah Bc (Ah (A8 K) (q_ (Gd K t) (o_ v1_ v2_)) (Ah Bc (q_ (Be K t) (o_ v0_ (m_ 71))) (r_  (Da K) (n_ v1_)))) v3_)) Ag)
noncomputable def br9 (K:ac) (t:Adr):DS:=(Ae (dIf (Bb (Ah (Br K false) (Ah Bc (q_ (Be K t) (o_ v0_ (m_ 70))) (m_ 2)) (m_ 0))) (Jg K t) Ag) (Ae (As (Ah Bc (q_ (Be K t) (o_ v0_ (Ah (Bf K) (m_ 700) v2_))) v3_)) Ag))
noncomputable def Pz (K:ac) (t:Adr):DS:=(Ae (Ea (Ah (A8 K) v5_ (q_ (Uj K t) (Ac (q_ (Dz K t) (o_ v0_ (m_ 4))) (p_ (Ah (A8 K) v2_ (m_ 0)) v7_ v4_)))) (Cm K v6_ v7_)) Ag)
noncomputable def P0 (K:ac) (t:Adr):DS:=(Ae (Ao 5 (A3 [none,some 3,some 0] (F3 (n_ v4_)) (gdN 0) Cc (q_ (Va K t) (p_ (q_ (Dz K t) (o_ v2_ (m_ 3))) v0_ v1_)))) (Ae (Ao 6 Do) (Ae (Cb (Bi K (Ah (A8 K) v2_ (m_ 2))) (gdN 7) (Pz K t)) (Ae (As (B6 (p_ v2_ v3_ v6_))) Ag))))
noncomputable def P1 (K:ac) (t:Adr):DS:=(Ae (Ao 3 (q_ (U0 K t) (o_ (q_ (Dz K t) (o_ v0_ (m_ 1))) (Ah (Bf K) (m_ 1) (Ah Bc (q_ (Dz K t) (o_ v0_ (m_ 2))) (Ah (A8 K) (B6 (o_ (m_ 8) (m_ 3))) (r_ Yk (n_ v1_)))))))) (Ae (Ao 4 (Ah (Bf K) (m_ 1) (Ah Bc (Ah Dx (q_ (Dz K t) (o_ v0_ (m_ 2))) (m_ 8)) (m_ 4)))) (P0 K t)))
noncomputable def bv1 (K:ac) (t:Adr):DS:=(Ae (Ao 2 (q_ (U3 K t) (o_ (Ah Dx (q_ (Dz K t) (o_ v0_ (m_ 0))) (m_ 8)) (Ah (A8 K) (B6 (o_ (m_ 24) (m_ 256))) (r_ Yk (n_ v1_)))))) (P1 K t))
noncomputable def bt2 (K:ac) (t:Adr):DS:=(Ae (F2 K "panel" v0_ v1_) (Ae (F2 K "kept" v0_ (B6 (n_ (Et (o_ (Bz "allowed" 0 (F9 K t) v1_ Af) (dFn (mkC t.c_zbz (some (i_zai K t)) 0) Af)))))) Ag))
noncomputable def bu6 (K:ac) (t:Adr):DE:=
 (dFn (spE (Np K t) []) (Ac (Ah (A8 K) (Ab 0) (dC (.int 0))) Af))
noncomputable def b08 (K:ac) (t:Adr):DS:=(Ae (As (r_  (Gb K) (n_ (A3 [none,some 0] (Bi K (Bz "names" 0 (Gx K t) v0_ Af)) (gdN 0) Cc (Et (o_ v0_ (Ah (A8 K) (dUn (A5 K "records") v1_) v0_))))))) Ag)
noncomputable def Mb (K:ac) (t:Adr):DS:=(Ae (Ea (Ah aj1 (dMt (rMt K [⟨"dict", "dict.get", G0⟩]) v2_ (o_ v6_ (m_ 0))) (Ah Eo v4_ v0_)) (Cm K v2_ v6_)) (Ae (Ea v5_ (Cm K v3_ v6_)) Ag))
noncomputable def Mc (K:ac) (t:Adr):DS:=(Ae (As (q_ (U5 K t) (n_ (A3 [none,some 3,some 2] (Bi K v2_) (gdN 0) Cc (Et (o_ (Ah (A8 K) v2_ v0_) (Bz "copied" 0 (Ni K t) (Ah (A8 K) v1_ v0_) Af))))))) Ag)
noncomputable def Md (K:ac) (t:Adr):DS:=(Ae (Cb (Bi K v1_) (gdT K 2 [(gdN 4),(gdN 5)]) (Ae (dIf (Bb (Ah (Br K true) (Ah Eo v4_ v0_) (m_ 0))) (Ae (Ao 6 (Bz "value_key" 0 (Ov K t) v5_ Af)) (Mb K t)) Ag) Ag)) (Mc K t))
noncomputable def bt8 (K:ac) (t:Adr):DS:=(Ae (Ao 2 Do) (Ae (Ao 3 Do) (Md K t)))
noncomputable def bu5 (K:ac) (t:Adr):DS:=(Ae (Ao 2 (dFn (mkC t.c_zca (some (i_zao K t)) 0) (n_ v0_))) (Ae (F2 K "kept" v2_ (q_ (Uz K t) (o_ (Bz "allowed" 0 (F9 K t) v0_ Af) v1_))) (Ae (As v2_) Ag)))
noncomputable def b03 (K:ac) (t:Adr):DS:=(Ae (As (Ah aj3 (Ah Nn (m_ 1) (Bz "many" 0 (Wg K t) v0_ Af)) (m_ 1))) Ag)
noncomputable def bs8 (K:ac) (t:Adr):DS:=(Ae (As (M2 K (r_  (G1 K) (o_ v0_ (dC (.ty "str")))) (Eb G3 G3 v1_ (r_  (Da K) (n_ v0_)) v2_))) Ag)
noncomputable def a24 (K:ac) (t:Adr):DS:=(Ae (As (Eb G3 G3 (dC (.str "a")) v0_ (dC (.str "z")))) Ag)
noncomputable def bv6 (K:ac) (t:Adr):DS:=(Ae (As (M2 K (q_ (Ur K t) (p_ v0_ (m_ 1) (m_ 8))) (r_  (Rm K) (n_ (A3 [none] (Bi K v0_) (gdN 0) Cc (q_ (Ux K t) (n_ v0_))))))) Ag)
noncomputable def b05 (K:ac) (t:Adr):DS:=(Ae (dIf (dOr (Ed (C4 K (r_  (G1 K) (o_ v0_ (dC (.ty "list")))))) (Ed (C4 K (r_  (Rm K) (n_ (A3 [none] (Bi K v0_) (gdN 0) Cc (q_ (Pq K t) (n_ v0_)))))))) (Ae (As (dC (.bl false))) Ag) Ag) (Ae (As (Ah (Br K false) (dUn (G4 K) v0_) (r_  (Da K) (n_ v0_)))) Ag))
noncomputable def La (K:ac) (t:Adr):DS:=(Ae (As (q_ (Ie K t) (n_ (A3 [none,some 0,some 1] (Bi K v2_) (gdN 0) Cc (Ah (A8 K) (Ah (A8 K) (dUn (A5 K "sets") v1_) v2_) v0_))))) Ag)
noncomputable def Lb (K:ac) (t:Adr):DS:=(Ae (dIf (Ed (C4 K (r_  (Rm K) (n_ (A3 [none,some 0,some 1] (Bi K v2_) (gdN 0) Cc (Ah (Ph K false) v0_ (Ah (A8 K) (dUn (A5 K "sets") v1_) v2_))))))) (Ae Bj Ag) Ag) (La K t))
noncomputable def bs5 (K:ac) (t:Adr):DS:=(Ae (dIf (dOr (Ed (C4 K (r_  (G1 K) (o_ v1_ (dC (.ty "str")))))) (Bb (Ah (Ph K true) v1_ (dUn (A5 K "sets") v0_)))) (Ae Bj Ag) Ag) (Ae (dIf (dOr (Ed (C4 K (q_ (W4 K t) (n_ v2_)))) (Bb (Ah (Br K false) v2_ (B6 Af)))) (Ae Bj Ag) Ag) (Lb K t)))
noncomputable def L8 (K:ac) (t:Adr):DS:=(Ae (Cb (Bi K v1_) (gdN 3) (Ae (Ao 2 (Ah Eo v2_ (Bz "term" 2 (at8 K t) v0_ (o_ v3_ (Ah (A8 K) v1_ v3_))))) Ag)) (Ae (As v2_) Ag))
noncomputable def bt3 (K:ac) (t:Adr):DS:=(Ae (dIf (Ed (C4 K (r_  (G1 K) (o_ v1_ (dC (.ty "dict")))))) (Ae Bj Ag) Ag) (Ae (Ao 2 (Bz "all_choices" 0 (Fg K t) v0_ Af)) (L8 K t)))
noncomputable def Jc (K:ac) (t:Adr):DS:=(Ae (Cb (Bi K v0_) (gdN 2) (Ae (Ea (r_  (Pi K true) (n_ (Ah (A8 K) v0_ v2_))) (Cm K v1_ v2_)) Ag)) (Ae (As v1_) Ag))
noncomputable def b27 (K:ac) (t:Adr):DS:=(Ae (Ao 1 Do) (Jc K t))
noncomputable def b07 (K:ac) (t:Adr):DS:=(Ae (dIf (dOr (Ed (C4 K (r_  (G1 K) (o_ v1_ (dC (.ty "dict")))))) (Bb (Ah (Br K false) (r_  (Da K) (n_ v1_)) (m_ 0)))) (Ae Bj Ag) Ag) (Ae (ab0 (Ae (C3 (Bz "box" 1 (ae4 K t) v0_ (n_ v1_))) Ag)) (Ae (As (q_ (am5 K t) (n_ v1_))) Ag)))
noncomputable def Fl (K:ac) (t:Adr):DS:=(Ae (dIf (dOr (Ed (C4 K (r_  (G1 K) (o_ v1_ (dC (.ty "list")))))) (Bb (Ah Pg (r_  (Da K) (n_ v1_)) (m_ 8)))) (Ae Bj Ag) Ag) (Ae (As (A3 [none,some 0] (Bi K v1_) (gdN 0) Cc (Bz "read_rule" 1 (Ot K t) v1_ (n_ v0_)))) Ag))
noncomputable def b04 (K:ac) (t:Adr):DS:=(Ae (dIf (Bb (Ah (aj0 false) v1_ (dC .non))) (Ae (As (B6 Af)) Ag) Ag) (Fl K t))
noncomputable def Ma (K:ac) (t:Adr):DS:=(Ae (As (M2 K (q_ (W4 K t) (n_ (Ah (A8 K) v0_ (m_ 1)))) (Eb G3 G3 (m_ 2) (r_  (Da K) (n_ (Ah (A8 K) v0_ (m_ 1)))) (m_ 4)))) Ag)
noncomputable def bt7 (K:ac) (t:Adr):DS:=(Ae (dIf (dOr (Ed (C4 K (r_  (G1 K) (o_ v0_ (dC (.ty "tuple")))))) (dOr (Bb (Ah (Br K true) (r_  (Da K) (n_ v0_)) (m_ 2))) (Ed (C4 K (q_ (Pq K t) (n_ (Ah (A8 K) v0_ (m_ 0)))))))) (Ae (As (dC (.bl false))) Ag) Ag) (Ma K t))
noncomputable def Ha (K:ac) (t:Adr):DS:=(Ae (Ea (r_  (Gb K) (n_ (Ah (A8 K) v3_ (m_ 1)))) (Cm K v1_ (Ah (A8 K) v3_ (m_ 0)))) (Ae (Ao 2 (Ah (Dg K) v2_ (r_  (Da K) (n_ (Ah (A8 K) v3_ (m_ 1)))))) Ag))
noncomputable def Hb (K:ac) (t:Adr):DS:=(Ae (dIf (dOr (Ed (C4 K (q_ (Uy K t) (n_ v3_)))) (Bb (Ah (Ph K false) (Ah (A8 K) v3_ (m_ 0)) v1_))) (Ae Bj Ag) Ag) (Ha K t))
noncomputable def Hc (K:ac) (t:Adr):DS:=(Ae (Ao 2 (m_ 1)) (Ae (Cb (Bi K v0_) (gdN 3) (Hb K t)) (Ae (dIf (Bb (Ah Pg v2_ (m_ 256))) (Ae Bj Ag) Ag) (Ae (As v1_) Ag))))
noncomputable def b16 (K:ac) (t:Adr):DS:=(Ae (dIf (dOr (Ed (C4 K (r_  (G1 K) (o_ v0_ (dC (.ty "list")))))) (Ed (Bb (Eb G3 G3 (m_ 1) (r_  (Da K) (n_ v0_)) (m_ 5))))) (Ae Bj Ag) Ag) (Ae (Ao 1 Do) (Hc K t)))
noncomputable def Er (K:ac) (t:Adr):DS:=(Ae (C3 (dMt (rMt K [⟨"list", "list.extend", Jz⟩]) v3_ (n_ (A3 [none,some 4] (Bi K (Ah (A8 K) v0_ v2_)) (gdN 0) Cc (Ah (Bf K) v1_ (Et (n_ v0_))))))) Ag)
noncomputable def b01 (K:ac) (t:Adr):DS:=(Ae (Ao 1 (B6 (n_ (Et Af)))) (Ae (Cb (Bi K v0_) (gdN 2) (Ae (Ao 3 (B6 Af)) (Ae (Cb (Bi K v1_) (gdN 4) (Er K t)) (Ae (Ao 1 v3_) Ag)))) (Ae (As v1_) Ag)))
noncomputable def b00 (K:ac) (t:Adr):DS:=(Ae (Ao 1 Do) (Ae (Cb (iEn K (n_ v0_)) (gdT K 2 [(gdN 2),(gdN 3)]) (Ae (Ea v2_ (Cm K v1_ v3_)) Ag)) (Ae (As v1_) Ag)))
noncomputable def bw0 (K:ac) (t:Adr):DS:=(Ae (Ao 1 (m_ 0)) (Ae (Cb (Bi K v0_) (gdN 2) (Ae (Ao 1 (Ah aj1 v1_ (Ah Nn (m_ 1) v2_))) Ag)) (Ae (As v1_) Ag)))
noncomputable def Fm (K:ac) (t:Adr):DS:=(Ae (Ao 6 (A3 [none,none,some 3,some 5] (iEn K (n_ v1_)) (gdT K 2 [(gdN 0),(gdN 1)]) (Bb (Ah (Br K false) (Ah (A8 K) v1_ v2_) v3_)) v0_)) (Ae (Ea (q_ (Vc K t) (n_ v6_)) (Cm K (Ah (A8 K) v2_ v4_) v5_)) Ag))
noncomputable def Fn (K:ac) (t:Adr):DS:=(Ae (Cb (iEn K (n_ v0_)) (gdT K 2 [(gdN 3),(gdN 4)]) (Ae (Ea Do (Cm K v2_ v4_)) (Ae (Cb (Bi K (Ah (A8 K) v0_ v4_)) (gdN 5) (Fm K t)) Ag))) (Ae (As v2_) Ag))
noncomputable def b06 (K:ac) (t:Adr):DS:=(Ae (Ao 2 Do) (Fn K t))
noncomputable def K7 (K:ac) (t:Adr):DS:=(Ae (F2 K "free" v0_ (Ah Eo (Bz "all_choices" 0 (Fg K t) v0_ Af) (dUn Wr (q_ (Ie K t) (n_ (dUn (A5 K "bars") v0_)))))) (Ae (dIf (Bb (Ah (Br K false) (dUn (A5 K "free") v0_) (m_ 0))) (Ae Bj Ag) Ag) Ag))
noncomputable def K8 (K:ac) (t:Adr):DS:=(Ae (F2 K "kept_rules" v0_ (Bz "read_rules" 1 (Lx K t) v0_ (n_ v2_))) (Ae (F2 K "bars" v0_ (A3 [none,some 0] (Bi K (dUn (A5 K "kept_rules") v0_)) (gdN 0) Cc (Bz "box" 1 (ae4 K t) v1_ (n_ v0_)))) (K7 K t)))
noncomputable def K9 (K:ac) (t:Adr):DS:=(Ae (F2 K "numbers" v0_ (q_ (ak3 K t) (n_ (dUn (A5 K "tuples") v0_)))) (Ae (F2 K "sets" v0_ (q_ (ak8 K t) (o_ (dUn (A5 K "settings") v0_) (dUn (A5 K "tuples") v0_)))) (K8 K t)))
noncomputable def bs3 (K:ac) (t:Adr):DS:=(Ae (F2 K "settings" v0_ (q_ (al5 K t) (n_ v1_))) (Ae (F2 K "tuples" v0_ (q_ (ak4 K t) (n_ (dUn (A5 K "settings") v0_)))) (K9 K t)))
noncomputable def bt5 (K:ac) (t:Adr):DS:=(Ae (Ea (Et (Ac v2_ (p_ v3_ v4_ v5_))) (Cm K (dUn (A5 K "records") v0_) v1_)) Ag)
noncomputable def Me (K:ac) (t:Adr):DS:=(Ae (Ea (Ah (A8 K) v0_ v2_) (gdT K 4 [(gdN 3),(gdN 4),(gdN 5),(gdN 6)])) (Ae (C3 (Bz "lay" 5 (a72 K t) v1_ (Ac v2_ (Ac v3_ (p_ v4_ v5_ v6_))))) Ag))
noncomputable def bu0 (K:ac) (t:Adr):DS:=(Ae (Ao 1 (dFn (mkC t.c_zbz (some (i_zai K t)) 0) Af)) (Ae (Cb (Bi K v0_) (gdN 2) (Me K t)) (Ae (As v1_) Ag)))
noncomputable def Px (K:ac) (t:Adr):DS:=(Ae (C3 (dMt (rMt K [⟨"list", "list.append", B8⟩]) v6_ (n_ (Et (o_ (Ah Nn (m_ 1) v7_) (q_ (U1 K t) (n_ (Ah (A8 K) v1_ v7_)))))))) Ag)
noncomputable def Py (K:ac) (t:Adr):DS:=(Ae (Ao 5 (dFn (mkC t.c_zby (some (i_zaf K t)) 1) (o_ (A3 [none,none] (Bi K v2_) (gdT K 2 [(gdN 0),(gdN 1)]) Cc (Et (o_ v0_ (r_  (Pi K true) (n_ v1_))))) v3_))) (Ae (Ao 6 (B6 Af)) (Ae (Cb (Bi K v1_) (gdN 7) (Px K t)) (Ae (As (q_ (U4 K t) (o_ v5_ v6_))) Ag))))
noncomputable def bu8 (K:ac) (t:Adr):DS:=(Ae (Ea v0_ (gdT K 3 [(gdN 2),(gdN 3),(gdN 4)])) (Py K t))
noncomputable def Lf (K:ac) (t:Adr):DS:=(Ae (dIf (dOr (Bb (Ah (Br K false) v5_ (m_ 0))) (dOr (J6 (Bb (Ah (Br K false) v5_ (m_ 1))) (C4 K v10_)) (J6 (Bb (Ah (Br K false) v5_ (m_ 2))) (Bb (Ah (Br K false) (Ah Bc (q_ (Be K t) (o_ v0_ (Ah (Bf K) (m_ 804) v9_))) (m_ 3)) (m_ 0)))))) (Ae (C3 (dMt (rMt K [⟨"list", "list.append", B8⟩]) v8_ (n_ v9_))) Ag) Ag) Ag)
noncomputable def Lg (K:ac) (t:Adr):DS:=(Ae (C3 (dMt (rMt K [⟨"list", "list.append", B8⟩]) v8_ (n_ (Ah (A8 K) v4_ (Ah Bc (q_ (Be K t) (o_ v0_ (m_ 1100))) (r_  (Da K) (n_ v4_))))))) Ag)
noncomputable def Lh (K:ac) (t:Adr):DS:=(Ae (Cb (Bi K v4_) (gdN 9) (Ae (Ao 10 (Ah (Br K false) (Ah (A8 K) (q_ (Gd K t) (o_ v2_ v9_)) v6_) v7_)) (Lf K t))) (Ae (dIf (Bb (Ah (Br K false) v8_ (B6 Af))) (Lg K t) Ag) (Ae (As v8_) Ag)))
noncomputable def Li (K:ac) (t:Adr):DS:=(Ae (Ao 7 (Ah (A8 K) (q_ (Gd K t) (o_ v2_ (Ah (A8 K) v4_ (Ah Bc (q_ (Be K t) (o_ v0_ (m_ 803))) (r_  (Da K) (n_ v4_)))))) v6_)) (Ae (Ao 8 (B6 Af)) (Lh K t)))
noncomputable def Lj (K:ac) (t:Adr):DS:=(Ae (Ao 5 (Ah Bc (q_ (Be K t) (o_ v0_ (m_ 801))) (m_ 4))) (Ae (Ao 6 (Ah Bc (q_ (Be K t) (o_ v0_ (m_ 802))) (r_  (Da K) (n_ v2_)))) (Li K t)))
noncomputable def bt1 (K:ac) (t:Adr):DS:=(Ae (Ea v1_ (gdT K 3 [(gdN 2),(gdN 3),(gdN 4)])) (Lj K t))
noncomputable def Rz (K:ac) (t:Adr):DS:=(Ae (C3 (dMt (rMt K [⟨"list", "list.append", B8⟩]) v5_ (n_ (Et (p_ v6_ (Ah (A8 K) v1_ (m_ 0)) (Ah (A8 K) v8_ (m_ 0))))))) Ag)
noncomputable def R0 (K:ac) (t:Adr):DS:=(Ae (dIf (J6 (Bb (Ah (Br K true) v7_ (B6 Af))) (Bb (Ah (Br K false) v8_ (B6 Af)))) (Ae (C3 (dMt (rMt K [⟨"list", "list.append", B8⟩]) v4_ (n_ v6_))) Ag) (Ae (dIf (Bb (Ah (Br K true) v7_ (B6 Af))) (Rz K t) Ag) Ag)) Ag)
noncomputable def R1 (K:ac) (t:Adr):DS:=(Ae (Ao 8 (A3 [none,some 3,some 0,some 6] (Bi K v1_) (gdN 0) (Bb (Ah (Br K true) (dMt (rMt K [⟨"dict", "dict.get", G0⟩]) (Ah (A8 K) v2_ v0_) (o_ v3_ (dC .non))) (dMt (rMt K [⟨"dict", "dict.get", G0⟩]) v1_ (o_ v3_ (dC .non))))) v0_)) (R0 K t))
noncomputable def R3 (K:ac) (t:Adr):DS:=(Ae (Cb (Bi K (r_  (Pl K true) (n_ v2_))) (gdN 6) (Ae (Ao 7 (A3 [none,some 0,some 6] (Bi K v1_) (gdN 0) (Bb (Ah (Ph K false) v2_ (Ah (A8 K) v1_ v0_))) v0_)) (R1 K t))) (Ae (As (B6 (o_ v4_ v5_))) Ag))
noncomputable def bv7 (K:ac) (t:Adr):DS:=(Ae (Ao 3 (Ah (A8 K) v0_ (Ah (A8 K) v1_ (m_ 0)))) (Ae (Ao 4 (B6 Af)) (Ae (Ao 5 (B6 Af)) (R3 K t))))
noncomputable def P2 (K:ac) (t:Adr):DS:=(Ae (dIf (Bb (Ah Pg (dUn (G4 K) (A3 [none,some 4] (Bi K v2_) (gdN 0) Cc (Ah (A8 K) v0_ v1_))) (m_ 1))) (Ae (C3 (dMt (rMt K [⟨"list", "list.append", B8⟩]) v3_ (n_ v5_))) Ag) Ag) Ag)
noncomputable def bv2 (K:ac) (t:Adr):DS:=(Ae (Ao 2 (A3 [none,some 0] (Bi K v1_) (gdN 0) Cc (q_ (Gd K t) (o_ v1_ v0_)))) (Ae (Ao 3 (B6 Af)) (Ae (Cb (iEn K (n_ v0_)) (gdT K 2 [(gdN 4),(gdT K 2 [(gdN 5),(gdN 6)])]) (P2 K t)) (Ae (As v3_) Ag))))
noncomputable def bv0 (K:ac) (t:Adr):DS:=(Ae (dIf (dOr (Ed (C4 K (r_  (G1 K) (o_ v0_ (dC (.ty "list")))))) (Bb (Ah (Br K true) v0_ v1_))) (Ae (As (dC (.bl false))) Ag) Ag) (Ae (C3 (dMt (rMt K [⟨"list", "list.clear", Uc⟩,⟨"dict", "dict.clear", Jy⟩]) v0_ Af)) (Ae (As (dC (.bl true))) Ag)))
noncomputable def ay7 (K:ac) (t:Adr):DS:=(Ae (dIf (Ed (C4 K (q_ (K4 K t) (o_ (Bz "switches_open" 0 (Hu K t) v8_ Af) v11_)))) (Ae (As (dC (.bl false))) Ag) Ag) Ag)
noncomputable def ay8 (K:ac) (t:Adr):DS:=(Ae (dIf (dOr (Ed (C4 K (q_ (K4 K t) (o_ (Bz "shared" 0 (X7 K t) v8_ Af) v9_)))) (Ed (C4 K (q_ (K4 K t) (o_ (Bz "apart" 0 (ae3 K t) v8_ Af) v10_))))) (Ae (As (dC (.bl false))) Ag) Ag) (ay7 K t))
noncomputable def ay9 (K:ac) (t:Adr):DS:=(Ae (Ao 11 (q_ (U9 K t) (o_ (Ah (A8 K) v1_ (m_ 0)) v5_))) (Ae (Cb (F3 (n_ (m_ 2))) (gdN 12) (ay8 K t)) (Ae (As (dC (.bl true))) Ag)))
noncomputable def az0 (K:ac) (t:Adr):DS:=(Ae (Ao 8 (dFn (mkC t.c_zcb (some (i_zas K t)) 0) (o_ v4_ (Ah aj1 (r_  (ax5 K) (n_ (A3 [none] (Bi K v5_) (gdN 0) Cc (Ah Nn (m_ 1) v0_)))) v7_)))) (Ae (Ea (q_ (Vb K t) (p_ v3_ v5_ v2_)) (gdT K 2 [(gdN 9),(gdN 10)])) (ay9 K t)))
noncomputable def az1 (K:ac) (t:Adr):DS:=(Ae (Ao 7 (r_  (ax5 K) (n_ (A3 [none,some 0] (Bi K v6_) (gdN 0) (Bb (Ah Pg (Ah Bc (q_ (Be K t) (o_ (q_ (Dz K t) (o_ v1_ (m_ 6))) (Ah (Bf K) (m_ 820) v0_))) (m_ 3)) (m_ 0))) (Ah Nn (m_ 1) v0_))))) (az0 K t))
noncomputable def az2 (K:ac) (t:Adr):DS:=(Ae (Ao 6 (A3 [none,some 3] (F3 (n_ (q_ (K3 K t) (n_ (Ah (A8 K) v1_ (m_ 0)))))) (gdN 0) (Bb (Ah (Ph K true) v0_ v1_)) v0_)) (az1 K t))
noncomputable def az3 (K:ac) (t:Adr):DS:=(Ae (Ao 4 (q_ (U7 K t) (o_ v1_ v3_))) (Ae (Ao 5 (q_ (Ut K t) (o_ (q_ (Dz K t) (o_ v0_ (m_ 5))) v1_))) (az2 K t)))
noncomputable def bw1 (K:ac) (t:Adr):DS:=(Ae (Ea (q_ (U8 K t) (o_ v0_ (Ah (Br K false) (Ah Bc (q_ (Dz K t) (o_ v0_ (m_ 0))) (m_ 8)) (m_ 1)))) (gdT K 3 [(gdN 1),(gdN 2),(gdN 3)])) (az3 K t))
end K52
namespace K52
open PySem L2 Pn
theorem K0 {α:Type} [DecidableEq α] {l:List α} {x:List α} (nd:l.Nodup) (h:∀ z∈l,z∈x):l.length<=x.length:=by
 induction l generalizing x with
 |nil=>exact bb _
 |cons a l ih=>
  obtain⟨na,nd⟩:=List.nodup_cons.mp nd
  have ha:=h a aN
  have:=ih (x:=x.erase a) nd λz hz=>(jS (λe:z=a=>na (e▸hz))).mpr (h z (az _ hz))
  rw[iN ha] at this
  have:0<x.length:=jr ha
  rw[aO]
  omega
theorem ag1 {a n:Nat} (h:a<2 ^ n):a ||| 2 ^ n=a+2 ^ n:=by
 have:=Nat.two_pow_add_eq_or_of_lt h 1
 rw[Nat.mul_one] at this
 rw[Nat.or_comm,<- this,lg]
theorem Rx:∀ l:List Nat,(l.map λn:Nat=>(1 * 2 ^ ((n:Int)).toNat:Int)).sum=(((l.map λi=>2 ^ i).sum:Nat):Int)
 |[]=>rfl
 | n::l=>by
  rw[aP,kz,Rx l,aP,kz,kc,aT,Fp,Int.natCast_add]
theorem Wa (sw:Sw) (rules:List Sw):An sw rules=(ay (Aj sw).length).filter λi=>(B5 sw rules).testBit i:=by
 unfold An
 refine List.filter_congr λi hi=>?_
 rw[M5,decide_eq_true (List.mem_range.mp hi),i0]
 rfl
theorem Cl {sw:Sw} {rules:List Sw} {n:Nat} (h:n∈An sw rules):n<(Aj sw).length/\(B5 sw rules).testBit n=true:=by
 rw[Wa,cE,ck] at h
 exact h
theorem Kc (sw:Sw) (rules:List Sw):(An sw rules).Pairwise (· < ·):=fN _ js
theorem as3 {sw:Sw} {rules:List Sw} (h:An sw rules≠[]):Kb sw rules≠0:=by
 obtain⟨n,hn⟩:=iy _ h
 have:=(Cl hn).2
 rw[Fu]
 intro e
 have e:B5 sw rules=0:=by omega
 rw[e,dw] at this
 cases this
theorem Qv {α β:Type} (f:α->List β) {s:Nat} (hs:0<s):∀ (l:List α),(∀ a∈l,(f a).length=s) -> ∀ n,(l.flatMap f)[n]? = (l[n / s]?).bind λa=>(f a)[n % s]?
 |[],_,n=>by simp
 | a::l,h,n=>by
  have ha:=h a aN
  rw[iL]
  by_cases hn:n<s
  .rw[bG (by rw[ha];exact hn),Nat.div_eq_of_lt hn,Nat.mod_eq_of_lt hn];rfl
  .rw[be (by rw[ha];omega),ha,Qv f hs l (λb hb=>h b (az _ hb)),Nat.div_eq_sub_div (a:=n) hs (by omega),bx,Nat.mod_eq_sub_mod (a:=n) (by omega)]
theorem Ef:∀ (l:List Nat) (n:Nat),(Lu l n).length=l.length
 |[],_=>rfl
 |s::r,n=>by rw[Lu,aS,Ef r];rfl
theorem Wz:∀ (L:Sw),(∀ x∈L,F4 x.2) -> ∀ (n:Nat) (r:List Str),(Aj L.reverse)[n]? = some r -> ∀ (i:Nat) (x:Str×List Str),L.reverse[i]? = some x -> ∃ d,(Lu (L.map (·.2.length)) n)[i]? = some d/\d<x.2.length/\r[i]? = x.2[d]?
 |[],_,n,r,_,i,x,hx=>by simp at hx
 | y::L,h,n,r,hr,i,x,hx=>by
  have oy:=h y aN
  have h2:∀ x∈L,F4 x.2:=λx hx=>h x (az _ hx)
  have pos:0<y.2.length:=by have:=oy.2.1;omega
  have e:Aj (y::L).reverse=Ep (Aj L.reverse) y:=by unfold Aj;rw[List.reverse_cons,fG];rfl
  rw[e] at hr
  unfold Ep at hr
  rw[Qv _ pos _ (λa _=>ae _)] at hr
  obtain⟨a,ha,hb⟩:=Option.bind_eq_some_iff.mp hr
  rw[ak] at hb
  obtain⟨z,hz,rfl⟩:=Option.map_eq_some_iff.mp hb
  have la:a.length=L.length:=by
   have:=(G7 (sw:=L.reverse) λx hx=>h2 x (List.mem_reverse.mp hx)).2.1 a (al ha)
   rwa[bJ] at this
  rw[List.reverse_cons] at hx
  rw[aP,Lu]
  by_cases hi:i<L.length
  .rw[bG (by rw[bJ];exact hi)] at hx
   obtain⟨d,h3,h4,h5⟩:=Wz L h2 (n / y.2.length) a ha i x hx
   refine⟨d,?_,h4,?_⟩
   .rw[bG (by rw[Ef,ae];exact hi)];exact h3
   .rw[bG (by omega)];exact h5
  .have hi2:i=L.length:=by
    have:=Al hx
    rw[aS,bJ] at this
    have:i<L.length+1:=this
    omega
   subst hi2
   rw[be (by rw[bJ];exact ah _),bJ,fA] at hx
   cases hx
   refine⟨n % y.2.length,?_,Nat.mod_lt _ pos,?_⟩
   .rw[be (by rw[Ef,ae];exact ah _),Ef,ae,fA];rfl
   .rw[be (by omega),la,fA,hz];rfl
theorem ab2 {sw:Sw} {n i:Nat} {r:List Str} {x:Str×List Str} (hw:okSw sw) (hn:(Aj sw)[n]? = some r) (hx:sw[i]? = some x):∃ d,(Cq sw n)[i]? = some d/\d<x.2.length/\r[i]? = x.2[d]?:=by
 have:=Wz sw.reverse (λx hx=>hw.sets x (List.mem_reverse.mp hx)) n r (by rw[jU];exact hn) i x (by rw[jU];exact hx)
 unfold Cq
 rwa[ji] at this
theorem Ee (sw:Sw) (n:Nat):(Cq sw n).length=sw.length:=by unfold Cq;rw[Ef,bJ,ae]
structure GInv (n:Nat) (gs:List Gp):Prop where
 nd:(gs.map (·.1)).Nodup
 asc:(gs.map (·.2.1)).Pairwise (· < ·)
 one:∀ g∈gs,g.2.1<n/\g.2.2<2 ^ n/\g.2.2.testBit g.2.1=true /\ ∀ j,j<g.2.1->g.2.2.testBit j=false
theorem GInv.mono {n m:Nat} {gs:List Gp} (h:GInv n gs) (hm:n<=m):GInv m gs:=⟨h.nd,h.asc,λg hg=>let ⟨a,b,c⟩:=h.one g hg;⟨by omega,aL b (g5 (by decide) hm),c⟩⟩
theorem GInv.put {n:Nat} {gs:List Gp} (k:TK) (h:GInv n gs):GInv (n+1) (Gz gs k n):=by
 have h1:=h.mono (dW n)
 unfold Gz
 split
 .refine⟨?_,?_,λg hg=>?_⟩
  .have:(gs.map λg=>if g.1=k then (g.1,g.2.1,g.2.2 ||| 2 ^ n) else g).map (·.1)=gs.map (·.1):=by
    rw[aI]
    exact bK λg _=>by show (if _ then _ else _:Gp).1=_;split <;> rfl
   rw[this];exact h.nd
  .have:(gs.map λg=>if g.1=k then (g.1,g.2.1,g.2.2 ||| 2 ^ n) else g).map (·.2.1)=gs.map (·.2.1):=by
    rw[aI]
    exact bK λg _=>by show (if _ then _ else _:Gp).2.1=_;split <;> rfl
   rw[this];exact h.asc
  .obtain⟨g,hg0,rfl⟩:=List.mem_map.mp hg
   clear hg
   split
   .obtain⟨a,b,c,d⟩:=h.one g hg0
    refine⟨c7 a,?_,?_,λj hj=>?_⟩
    .show g.2.2 ||| 2 ^ n<2 ^ (n+1)
     rw[ag1 b,Nat.pow_succ];omega
    .show (g.2.2 ||| 2 ^ n).testBit g.2.1=true
     rw[eX,c];rfl
    .show (g.2.2 ||| 2 ^ n).testBit j=false
     rw[eX,d j hj,c8]
     exact decide_eq_false (by have:j<g.2.1:=hj;omega)
   .exact h1.one g hg0
 .rename_i hk
  refine⟨?_,?_,λg hg=>?_⟩
  .rw[aq]
   refine List.nodup_append.mpr ⟨h.nd,by simp,λa ha b hb e=>?_⟩
   have:b=k:=by simpa using hb
   exact hk (by rw[<- this,<- e];exact ha)
  .rw[aq]
   refine List.pairwise_append.mpr ⟨h.asc,by simp,λa ha b hb=>?_⟩
   have:b=n:=by simpa using hb
   obtain⟨g,hg,rfl⟩:=List.mem_map.mp ha
   rw[this]
   exact (h.one g hg).1
  .rcases List.mem_append.mp hg with hg|hg
   .exact h1.one g hg
   .obtain rfl:g=(k,n,2 ^ n):=by simpa using hg
    refine⟨cw n,?_,?_,λj hj=>?_⟩
    .show 2 ^ n<2 ^ (n+1)
     exact Nat.pow_lt_pow_right (by decide) (cw n)
    .show (2 ^ n).testBit n=true
     rw[c8];exact decide_eq_true rfl
    .show (2 ^ n).testBit j=false
     rw[c8];exact decide_eq_false (by have:j<n:=hj;omega)
theorem Fe {f:Nat->TK} {ns:List Nat} {i n:Nat} (h:ns[i]? = some n):Cg f (ns.take (i+1))=Gz (Cg f (ns.take i)) (f n) n:=Cf h _ _
theorem Qc {ns:List Nat} (asc:ns.Pairwise (· < ·)) {i n:Nat} (h:ns[i]? = some n):∀ m∈ns.take i,m<n:=λm hm=>by
 obtain⟨j,hj,rfl⟩:=List.mem_iff_getElem.mp hm
 rw[aG] at hj
 have hi:=Al h
 have e:ns[i]=n:=aH ((ag hi).symm.trans h)
 rw[iM,<- e]
 exact List.pairwise_iff_getElem.mp asc j i (by omega) hi (by omega)
theorem Gs {f:Nat->TK} {ns:List Nat} (asc:ns.Pairwise (· < ·)):∀ (i n:Nat),(∀ m∈ns.take i,m<n)->GInv n (Cg f (ns.take i))
 |0,n,_=>⟨gR,iJ,λg hg=>by cases hg⟩
 | i+1,n,h=>by
  cases e:ns[i]? with
  |none=>
   have e2:ns.take (i+1)=ns.take i:=by rw[aA,e];simp
   rw[e2] at h ⊢
   exact Gs asc i n h
  |some m=>
   rw[Fe e]
   have hm:m<n:=h m (by rw[aA,e];simp)
   exact ((Gs asc i m (Qc asc e)).put (f m)).mono hm
theorem ah5 {gs:List Gp} {k:TK} {n:Nat} {g:Gp} (h:g∈Gz gs k n):g.1=k\/g.1∈gs.map (·.1):=by
 unfold Gz at h
 split at h
 .obtain⟨g',hg,rfl⟩:=List.mem_map.mp h
  split
  .exact .inl ‹_›
  .exact .inr (cZ hg)
 .rcases List.mem_append.mp h with h|h
  .exact .inr (cZ h)
  .obtain rfl:g=(k,n,2 ^ n):=by simpa using h
   exact .inl rfl
theorem Kf {f:Nat->TK} {ns:List Nat}:∀ (i:Nat) {g:Gp},g∈Cg f (ns.take i) -> ∃ n∈ns,g.1=f n
 |0,g,h=>by cases h
 | i+1,g,h=>by
  cases e:ns[i]? with
  |none=>
   have e2:ns.take (i+1)=ns.take i:=by rw[aA,e];simp
   rw[e2] at h
   exact Kf i h
  |some m=>
   rw[Fe e] at h
   rcases ah5 h with h|h
   .exact⟨m,al e,h⟩
   .obtain⟨g',hg,e3⟩:=List.mem_map.mp h
    obtain⟨n,hn,q⟩:=Kf i hg
    exact⟨n,hn,by rw[<- e3];exact q⟩
theorem bnd:∀ l:List Nat,∃ N,∀ m∈l,m<N
 |[]=>⟨0,λ_ h=>by cases h⟩
 | n::l=>by
  obtain⟨N,h⟩:=bnd l
  exact⟨N+n+1,λm hm=>by rcases List.mem_cons.mp hm with rfl|hm;omega;have:=h m hm;omega⟩
theorem Wb {tr:Nat->Tr} {ns:List Nat} (asc:ns.Pairwise (· < ·)) (h:∃ Ts:List Tr,Ts.length<=4 /\ ∀ n∈ns,tr n∈Ts) (i:Nat):(Cg (λn=>vkT (tr n)) (ns.take i)).length<=4:=by
 obtain⟨Ts,h4,hm⟩:=h
 obtain⟨N,hN⟩:=bnd (ns.take i)
 have:=K0 (x:=Ts.map vkT) (Gs (f:=λn=>vkT (tr n)) asc i N hN).nd λz hz=>by
  obtain⟨g,hg,rfl⟩:=List.mem_map.mp hz
  obtain⟨n,hn,e⟩:=Kf i hg
  rw[e]
  exact cZ (hm n hn)
 rw[ae,ae] at this
 omega
theorem av7 {gs:List Gp} {k:TK} {n:Nat} (h:¬ k∈gs.map (·.1)):Gz gs k n=gs++[(k,n,2 ^ n)]:=by unfold Gz;rw[if_neg h]
mutual
noncomputable def tkD:TK->Dt
 |.at_ k=>.at_ (kV k)
 |.tup l=>.tup (Hg l)
noncomputable def Hg:List TK->List Dt
 |[]=>[]
 |k::ks=>tkD k::Hg ks
end
theorem Qd {K:ac} {H:Hp} (x:TK):∀ {v:V},TkAt H x v->At K H (tkD x) v:=by
 refine TK.rec (motive_1:=λx=>∀ {v:V},TkAt H x v->At K H (tkD x) v) (motive_2:=λl=>∀ {vs:List V},Ay H l vs->AtL K H (Hg l) vs) ?_ ?_ ?_ ?_ x
 .intro k v h;unfold TkAt at h;unfold tkD At;exact⟨h,Op k⟩
 .intro l ih v h;unfold TkAt at h;obtain⟨a,xs,e,q,i⟩:=h;unfold tkD At;exact⟨a,xs,e,SqT.of q,ih i⟩
 .intro vs h;unfold Ay at h;unfold Hg AtL;exact h
 .intro x l h1 h2 vs h;unfold Ay at h;obtain⟨v,r,e,q1,q2⟩:=h;unfold Hg AtL;exact⟨v,r,e,h1 q1,h2 q2⟩
theorem W8 (x:TK):dep (tkD x)=Ar x:=by
 refine TK.rec (motive_1:=λx=>dep (tkD x)=Ar x) (motive_2:=λl=>D7 (Hg l)=Cd l) ?_ ?_ ?_ ?_ x
 .intro k;unfold tkD dep Ar;rfl
 .intro l ih;unfold tkD dep Ar;rw[ih]
 .unfold Hg D7 Cd;rfl
 .intro x l h1 h2;unfold Hg D7 Cd;rw[h1,h2]
theorem bi2 (x:TK):∀ y,deq (tkD x) (tkD y)=decide (x=y):=by
 refine TK.rec (motive_1:=λx=>∀ y,deq (tkD x) (tkD y)=decide (x=y)) (motive_2:=λl=>∀ l',E9 (Hg l) (Hg l')=decide (l=l')) ?_ ?_ ?_ ?_ x
 .intro k y
  cases y with
  |at_ k'=>unfold tkD deq;exact (Z8 k k').symm
  |tup l=>unfold tkD deq;exact (decide_eq_false λe=>by cases e).symm
 .intro l ih y
  cases y with
  |at_ k'=>unfold tkD deq;exact (decide_eq_false λe=>by cases e).symm
  |tup l'=>unfold tkD deq;rw[ih l'];exact decide_eq_decide.mpr ⟨λe=>by rw[e],λe=>by injection e⟩
 .intro l'
  cases l' with
  |nil=>unfold Hg E9;exact (decide_eq_true rfl).symm
  |cons _ _=>unfold Hg E9;exact (decide_eq_false λe=>by cases e).symm
 .intro x l h1 h2 l'
  cases l' with
  |nil=>unfold Hg E9;exact (decide_eq_false λe=>by cases e).symm
  |cons y l'=>
   unfold Hg E9
   rw[h1,h2,<- Bool.decide_and]
   exact decide_eq_decide.mpr ⟨fun⟨a,b⟩=>by rw[a,b],λe=>by injection e with a b;exact⟨a,b⟩⟩
theorem RcAt.tk {H:Hp} {a:Addr} {x:Rc} (h:RcAt H a x):TkAt H (rcT x) (.ref a):=by
 obtain⟨v,e,q⟩:=h
 unfold rcT TkAt
 refine⟨a,_,rfl,e,?_⟩
 unfold Ay;refine⟨_,_,rfl,by unfold TkAt;rfl,?_⟩
 unfold Ay;refine⟨_,_,rfl,by unfold TkAt;rfl,?_⟩
 unfold Ay;refine⟨_,_,rfl,by unfold TkAt;rfl,?_⟩
 unfold Ay;refine⟨_,_,rfl,q,?_⟩
 unfold Ay;rfl
theorem RcAt.up {H H':Hp} (h:∀ b ys,H b=some (.tup ys)->H' b=some (.tup ys)) {a:Addr} {x:Rc} (q:RcAt H a x):RcAt H' a x:=let ⟨v,e,q⟩:=q;⟨v,h _ _ e,q.up h⟩
theorem Jw:∀ {T:Tr} {n:Str} {x:Rc},T.lookup n=some x->(n,x)∈T
 |[],_,_,h=>by cases h
 | (m,y)::T,n,x,h=>by
  rw[jh] at h
  split at h
  .rename_i e
   cases h
   rw[cQ e]
   exact aN
  .exact az _ (Jw h)
theorem Tn:∀ {T:Tr} {n:Str} {x:Rc},(T.map (·.1)).Nodup->(n,x)∈T->T.lookup n=some x
 | (m,y)::T,n,x,nd,h=>by
  rw[aP,bS] at nd
  rw[jh]
  rcases List.mem_cons.mp h with e|h
  .cases e
   rw[beq_self_eq_true]
  .have:(n==m)=false:=beq_false_of_ne λe=>nd.1 (by rw[<- e];exact List.mem_map.mpr ⟨(n,x),h,rfl⟩)
   rw[this]
   exact Tn nd.2 h
theorem Dm {n:Nat}:∀ {l:List TK},(∀ k∈l,Ar k<=n)->Cd l<=n
 |[],_=>by unfold Cd;exact bb _
 |d::ds,h=>by unfold Cd;exact Nat.max_le.mpr ⟨h d aN,Dm λx hx=>h x (az _ hx)⟩
theorem Hl (k:Key) (n:Nat):Ar (.at_ k)<=n:=by unfold Ar;exact bb _
theorem Ww {x:Rc} (h:Ar x.c<=2):Ar (rcT x)<=3:=by
 unfold rcT Ar
 refine cx (Dm λk hk=>?_)
 simp only[aE,cS,or_false] at hk
 rcases hk with rfl|rfl|rfl|rfl
 .exact Hl _ _
 .exact Hl _ _
 .exact Hl _ _
 .exact h
theorem bi7 {T:Tr} (o:Ci T):Ar (vkT T)<=8:=by
 unfold vkT Ar
 refine cx (aY (Dm (n:=4) λk hk=>?_) (by decide))
 obtain⟨n,_,rfl⟩:=List.mem_map.mp hk
 unfold Ar
 refine cx (Dm λk hk=>?_)
 simp only[aE,cS,or_false] at hk
 rcases hk with rfl|rfl
 .exact Hl _ _
 .unfold Ud
  cases e:T.lookup n with
  |none=>unfold Option.map Option.getD Ar Cd;decide
  |some x=>exact Ww (o.2.2 (n,x) (Jw e))
theorem Od {n:Nat}:∀ {ds:List Dt},(∀ d∈ds,dep d<=n)->D7 ds<=n
 |[],_=>by unfold D7;exact bb _
 |d::ds,h=>by unfold D7;exact Nat.max_le.mpr ⟨h d aN,Od λx hx=>h x (az _ hx)⟩
theorem Wk {α:Type} [DecidableEq α]:∀ {l m:List α},l.Nodup->(∀ z∈l,z∈m)->m.length=l.length->l.Perm m
 |[],m,_,_,h=>by rw[List.length_eq_zero_iff.mp h]
 | a::l,m,nd,hs,h=>by
  obtain⟨na,nd⟩:=List.nodup_cons.mp nd
  have ha:=hs a aN
  refine ((Wk (m:=m.erase a) nd (λz hz=>(jS λe:z=a=>na (e▸hz)).mpr (hs z (az _ hz))) ?_).cons a).trans (List.perm_cons_erase ha).symm
  rw[iN ha,h];rfl
theorem Qz {α β:Type} {F G:α->β} (h:∀ a b,F a=G b->a=b):∀ {l m:List α},l.map F=m.map G->l=m
 |[],[],_=>rfl
 |[],_::_,e=>by cases e
 |_::_,[],e=>by cases e
 | a::l,b::m,e=>by
  rw[aP,aP] at e
  injection e with e1 e2
  rw[h a b e1,Qz h e2]
theorem Ue {T:Tr} {n:Str} {x:Rc} (h:T.lookup n=some x):Ud T n=rcT x:=by unfold Ud;rw[h];rfl
theorem Jv {T:Tr} {n:Str} (h:¬ n∈T.map (·.1)):T.lookup n=none:=by
 cases e:T.lookup n with
 |none=>rfl
 |some x=>exact absurd (List.mem_map.mpr ⟨(n,x),Jw e,rfl⟩) h
theorem Os {T:Tr} {n:Str} (o:Ci T) (h:n∈T.map (·.1)):∃ x,T.lookup n=some x/\(n,x)∈T:=by
 obtain⟨⟨m,x⟩,hx,rfl⟩:=List.mem_map.mp h
 exact⟨x,Tn o.1 hx,hx⟩
theorem Pu {T:Tr} (o:Ci T) (n:Str):(stT T n).isSome=true ↔ n∈T.map (·.1):=by
 by_cases h:n∈T.map (·.1)
 .obtain⟨x,e,_⟩:=Os o h
  unfold stT;rw[e];exact⟨λ_=>h,λ_=>rfl⟩
 .unfold stT;rw[Jv h];exact⟨λz=>(by cases z),λz=>absurd z h⟩
theorem W6 {T T':Tr} (o:Ci T) (o':Ci T') (e:vkT T=vkT T') (n:Str):stT T n=stT T' n:=by
 unfold vkT at e
 injection e with e
 have en:B0 ltS (T.map (·.1))=B0 ltS (T'.map (·.1)):=Qz (λa b z=>by injection z with z;injection z with z _;injection z with z;injection z) e
 have mm:∀ n,n∈T.map (·.1) ↔ n∈T'.map (·.1):=λn=>by rw[<- (A9 ltS (T.map (·.1))).mem_iff,en,(A9 _ _).mem_iff]
 by_cases h:n∈T.map (·.1)
 .obtain⟨x,ex,_⟩:=Os o h
  obtain⟨y,ey,_⟩:=Os o' ((mm n).mp h)
  rw[<- en] at e
  have:=List.map_inj_left.mp e n ((A9 _ _).mem_iff.mpr h)
  injection this with this
  injection this with _ this
  injection this with this _
  rw[Ue ex,Ue ey] at this
  unfold stT
  rw[ex,ey,fB,fB,this]
 .unfold stT
  rw[Jv h,Jv λz=>h ((mm n).mpr z)]
theorem Jo {T:Tr} (o:Ci T) (n:Str):Lv (vkT T) n ↔ (stT T n).isSome=true:=⟨fun⟨T',o',e,h⟩=>by rw[<- W6 o' o e];exact h,λh=>⟨T,o,rfl,h⟩⟩
theorem Jn {f:Nat->TK} {ns:List Nat}:∀ (i:Nat),∀ n∈ns.take i,∃ g∈Cg f (ns.take i),g.1=f n
 |0,n,h=>by cases h
 | i+1,n,h=>by
  cases e:ns[i]? with
  |none=>
   have e2:ns.take (i+1)=ns.take i:=by rw[aA,e];simp
   rw[e2] at h ⊢
   exact Jn i n h
  |some m=>
   have km:∀ k,k∈(Cg f (ns.take i)).map (·.1)\/k=f m -> ∃ g∈Cg f (ns.take (i+1)),g.1=k:=λk hk=>by
    have:k∈(Cg f (ns.take (i+1))).map (·.1):=by
     rw[Fe e]
     unfold Gz
     split
     .rename_i hh
      have q:((Cg f (ns.take i)).map λg=>if g.1=f m then (g.1,g.2.1,g.2.2 ||| 2 ^ m) else g).map (·.1)=(Cg f (ns.take i)).map (·.1):=by
       rw[aI]
       exact bK λg _=>by show (if _ then _ else _:Gp).1=_;split <;> rfl
      rw[q]
      rcases hk with hk|rfl
      .exact hk
      .exact hh
     .rw[aq]
      rcases hk with hk|rfl
      .exact cm _ hk
      .exact aM _ (by simp)
    obtain⟨g,hg,q⟩:=List.mem_map.mp this
    exact⟨g,hg,q⟩
   rw[aA,e] at h
   rcases List.mem_append.mp h with h|h
   .obtain⟨g,hg,q⟩:=Jn i n h
    exact km _ (.inl (List.mem_map.mpr ⟨g,hg,q⟩))
   .obtain rfl:n=m:=by simpa using h
    exact km _ (.inr rfl)
theorem Jm {f:Nat->TK} {ns:List Nat}:∀ (i:Nat) {g:Gp},g∈Cg f (ns.take i) -> ∀ n,g.2.2.testBit n=true ↔ n∈ns.take i/\f n=g.1
 |0,g,h=>by cases h
 | i+1,g,h=>by
  intro n
  cases e:ns[i]? with
  |none=>
   have e2:ns.take (i+1)=ns.take i:=by rw[aA,e];simp
   rw[e2] at h ⊢
   exact Jm i h n
  |some m=>
   have mt:n∈ns.take (i+1) ↔ n∈ns.take i\/n=m:=by rw[aA,e];simp
   rw[Fe e] at h
   unfold Gz at h
   rw[mt]
   split at h
   .obtain⟨g,hg,rfl⟩:=List.mem_map.mp h
    have ih:=Jm i hg n
    split
    .rename_i ek
     show (g.2.2 ||| 2 ^ m).testBit n=true ↔ _
     rw[eX,c8,df,decide_eq_true_iff,ih]
     refine⟨λq=>q.elim (fun⟨a,b⟩=>⟨.inl a,b⟩) λz=>⟨.inr z.symm,by rw[<- z];exact ek.symm⟩,fun⟨a,b⟩=>a.elim (λa=>.inl ⟨a,b⟩) λz=>.inr z.symm⟩
    .rename_i ek
     rw[ih]
     refine⟨fun⟨a,b⟩=>⟨.inl a,b⟩,fun⟨a,b⟩=>a.elim (λa=>⟨a,b⟩) λz=>absurd (by rw[<- b,z]) ek⟩
   .rename_i hk
    rcases List.mem_append.mp h with h|h
    .rw[Jm i h n]
     refine⟨fun⟨a,b⟩=>⟨.inl a,b⟩,fun⟨a,b⟩=>a.elim (λa=>⟨a,b⟩) λz=>absurd (List.mem_map.mpr ⟨g,h,by rw[<- b,z]⟩) hk⟩
    .obtain rfl:g=(f m,m,2 ^ m):=by simpa using h
     show (2 ^ m).testBit n=true ↔ _
     rw[c8,decide_eq_true_iff]
     refine⟨λz=>⟨.inr z.symm,by rw[z]⟩,fun⟨a,b⟩=>a.elim (λa=>?_) λz=>z.symm⟩
     obtain⟨g,hg,q⟩:=Jn (f:=f) i n a
     exact absurd (List.mem_map.mpr ⟨g,hg,q.trans b⟩) hk
theorem W1 {l:List Nat} (asc:l.Pairwise (· < ·)):(l.map λi=>2 ^ i).sum=Fh l:=by
 have:∀ i,((l.take i).map λi=>2 ^ i).sum=Fh (l.take i):=λi=>by
  induction i with
  |zero=>rfl
  |succ i ih=>
   cases e:l[i]? with
   |none=>
    have e2:l.take (i+1)=l.take i:=by rw[aA,e];simp
    rw[e2];exact ih
   |some n=>
    have st:Fh (l.take (i+1))=Fh (l.take i) ||| 2 ^ n:=Cf e _ _
    rw[By e,List.sum_append,ih,st,ag1 (fS _ λj hj=>by
     rw[G8]
     exact decide_eq_false λz=>by have:=Qc asc e j z;omega)]
    simp
 have:=this l.length
 rwa[aw] at this
theorem and_ne {a b:Nat}:a &&& b≠0 ↔ ∃ j,a.testBit j=true/\b.testBit j=true:=by
 constructor
 .intro h
  refine fQ λn=>h (d6 λj=>?_)
  rw[cF,dw]
  cases e1:a.testBit j <;> cases e2:b.testBit j <;> first|rfl|exact absurd ⟨j,e1,e2⟩ n
 .rintro⟨j,h1,h2⟩ e
  have:=congrArg (·.testBit j) e
  simp[cF,h1,h2] at this
theorem Kq {κ:Type} [DecidableEq κ]:∀ (xs acc:List κ),acc.Nodup->(xs.foldl (λU k=>if U.any (λj=>decide (j=k)) then U else U++[k]) acc).Nodup /\ ∀ x,x∈xs.foldl (λU k=>if U.any (λj=>decide (j=k)) then U else U++[k]) acc ↔ x∈acc\/x∈xs
 |[],acc,h=>⟨h,λx=>by simp⟩
 | k::xs,acc,h=>by
  rw[bR]
  by_cases c:acc.any (λj=>decide (j=k))=true
  .rw[if_pos c]
   obtain⟨a,b⟩:=Kq xs acc h
   refine⟨a,λx=>(b x).trans ⟨λq=>q.elim .inl λq=>.inr (az _ q),λq=>q.elim .inl λq=>?_⟩⟩
   rcases List.mem_cons.mp q with rfl|q
   .obtain⟨j,hj,e⟩:=List.any_eq_true.mp c
    exact .inl (of_decide_eq_true e▸hj)
   .exact .inr q
  .rw[if_neg c]
   have nk:¬ k∈acc:=λz=>c (List.any_eq_true.mpr ⟨k,z,decide_eq_true rfl⟩)
   obtain⟨a,b⟩:=Kq xs (acc++[k]) (List.nodup_append.mpr ⟨h,by simp,λx hx y hy e=>nk ((show y=k by simpa using hy)▸(e▸hx:y∈acc))⟩)
   exact⟨a,λx=>(b x).trans (by simp[or_assoc])⟩
theorem ae9 {α:Type} {l:List α} (nd:l.Nodup):1<l.length ↔ ∃ x∈l,∃ y∈l,x≠y:=by
 constructor
 .intro h
  refine⟨l[0],bY _,l[1],bY _,λe=>?_⟩
  have:=(cH nd).mp e
  omega
 .rintro⟨x,hx,y,hy,ne⟩
  match l,hx,hy with
  |[a],hx,hy=>exact absurd ((List.mem_singleton.mp hx).trans (List.mem_singleton.mp hy).symm) ne
  |_::_::_,_,_=>simp
theorem at4 {κ:Type} [DecidableEq κ] (xs:List κ):1<(Ct xs).length ↔ ∃ x∈xs,∃ y∈xs,x≠y:=by
 obtain⟨nd,m⟩:=Kq xs [] gR
 have m2:∀ x,x∈Ct xs ↔ x∈xs:=λx=>(m x).trans (by simp)
 rw[ae9 (l:=Ct xs) nd]
 exact⟨fun⟨x,hx,y,hy,n⟩=>⟨x,(m2 x).mp hx,y,(m2 y).mp hy,n⟩,fun⟨x,hx,y,hy,n⟩=>⟨x,(m2 x).mpr hx,y,(m2 y).mpr hy,n⟩⟩
theorem Sorted.nd {zs:List Str} (h:Sorted zs):zs.Nodup:=List.Pairwise.imp (λh e=>by rw[e] at h;exact absurd (of_decide_eq_true h) (List.lt_irrefl _)) h
theorem Rv {xs ys:List Str} (h1:Sorted xs) (h2:Sorted ys) (m:∀ z,z∈xs ↔ z∈ys):xs=ys:=
 Fx (Gw h1.nd) (Wk h1.nd (λz hz=>(m z).mp hz) (Nat.le_antisymm (K0 h2.nd λz hz=>(m z).mpr hz) (K0 h1.nd λz hz=>(m z).mp hz))) h1 h2
section
variable {ns Ws:List Nat} {tr:Nat->Tr} {gs:List Gp} {M:Nat}
theorem Seen.bits (S:Seen ns tr gs Ws M) {g:Gp} (hg:g∈gs) (n:Nat):g.2.2.testBit n=true ↔ n∈ns/\vkT (tr n)=g.1:=by
 have:=Jm (f:=λn=>vkT (tr n)) (ns:=ns) ns.length (g:=g) (by rw[aw,<- S.ge];exact hg) n
 rwa[aw] at this
theorem Seen.get (S:Seen ns tr gs Ws M) {n:Nat} (h:n∈ns):∃ g∈gs,g.1=vkT (tr n)/\g.2.2.testBit n=true:=by
 obtain⟨g,hg,e⟩:=Jn (f:=λn=>vkT (tr n)) (ns:=ns) ns.length n (by rw[aw];exact h)
 rw[aw,<- S.ge] at hg
 exact⟨g,hg,e,(S.bits hg n).mpr ⟨h,e.symm⟩⟩
theorem Seen.wasc (S:Seen ns tr gs Ws M):Ws.Pairwise (· < ·):=S.asc.sublist S.sub
theorem Seen.wns (S:Seen ns tr gs Ws M) {n:Nat} (h:n∈Ws):n∈ns:=S.sub.subset h
theorem Seen.lt (S:Seen ns tr gs Ws M):M<2 ^ 1000:=fS _ λj hj=>by
 rw[S.bit]
 exact decide_eq_false λz=>by have:=(S.ok j (S.wns z)).2;omega
theorem Seen.head (S:Seen ns tr gs Ws M):Ws.headD 0∈Ws /\ ∀ n∈Ws,Ws.headD 0<=n:=by
 have a:=S.wasc
 have ne:=S.ne
 cases Ws with
 |nil=>exact absurd rfl ne
 |cons w ws=>
  refine⟨aN,λn hn=>?_⟩
  rcases List.mem_cons.mp hn with rfl|hn
  .exact ah _
  .exact ez (iz a hn)
theorem Seen.least (S:Seen ns tr gs Ws M):Tl M (some (Ws.headD 0)):=⟨by rw[S.bit];exact decide_eq_true S.head.1,λj hj=>by rw[S.bit];exact decide_eq_false λz=>by have:=S.head.2 j z;omega⟩
theorem Seen.unl (S:Seen ns tr gs Ws M) {c:Nat} {z:Str} (h:∀ n,c.testBit n=true ↔ n∈Ws/\stT (tr n) z≠stT (tr (Ws.headD 0)) z):Tl c (Fq tr Ws z):=by
 unfold Fq
 cases e:Ws.find? λn=>decide (stT (tr n) z≠stT (tr (Ws.headD 0)) z) with
 |none=>
  refine d6 λj=>?_
  rw[dw,iG]
  intro q
  obtain⟨a,b⟩:=(h j).mp q
  exact List.find?_eq_none.mp e j a (decide_eq_true b)
 |some n=>
  obtain⟨p,as,bs,ew,no⟩:=List.find?_eq_some_iff_append.mp e
  refine⟨(h n).mpr ⟨by rw[ew];simp,of_decide_eq_true p⟩,λj hj=>?_⟩
  rw[iG]
  intro q
  obtain⟨a,b⟩:=(h j).mp q
  have asc:=S.wasc
  rw[ew] at a asc
  rcases List.mem_append.mp a with a|a
  .have:=no j a
   rw[decide_eq_true b] at this
   cases this
  .rcases List.mem_cons.mp a with rfl|a
   .omega
   .have:=iz (List.pairwise_append.mp asc).2.1 a
    omega
end
section
variable {P:aX} {w:bB} {K:ac} {mg:Str->Option ai} {base:Heap} {t:Adr}
theorem bb1 (Z:Am K t):OkD K Zt (Aw K t) bl (t.f 2) (t.d 2) (Ie K t):=by
 refine okD (n:=40) (t:=bv5 K t) rfl (by decide +kernel) (by kernel_rfl) (λvs H Q E h=>?_) (λvs H Q E h=>?_)
 .obtain⟨a,ms,rfl,_⟩:=h;rfl
 .obtain⟨a,ms,rfl,hS,k⟩:=h
  refine .inl ⟨⟨_,hS⟩,?_⟩
  refine Bg (Ap (ms.map V.int)) (λi U H'=>(∃ v2,U=[some (.ref a),some (.int (Gf (ms.take i))),v2])/\H'=H) ⟨⟨_,rfl⟩,rfl⟩ (λi U H' _ q=>q.2▸hS) ?_ ?_
  .rintro i x U H' hx ⟨⟨v2,rfl⟩,rfl⟩
   obtain⟨m,hm,rfl⟩:=Ak hx
   have e:Gf (ms.take (i+1))=c_ (Gf (ms.take i)) m:=Cf hm _ _
   exact⟨⟨_,congrArg (λz=>[some (V.ref a),some (V.int z),some (V.int m)]) e.symm⟩,rfl⟩
  .rintro U H' ⟨⟨v2,rfl⟩,rfl⟩
   rw[ae,aw]
   exact .inl k
theorem bb6 (Z:Am K t):OkD K Zy (Aw K t) bl (t.f 32) (t.d 32) (Vc K t):=by
 refine okD (n:=40) (t:=bw0 K t) rfl (by decide +kernel) (by kernel_rfl) (λvs H Q E h=>?_) (λvs H Q E h=>?_)
 .obtain⟨a,ms,rfl,_⟩:=h;rfl
 .obtain⟨a,ms,rfl,hS,hb,k⟩:=h
  refine .inl ⟨⟨_,hS⟩,?_⟩
  refine Bg (Ap (ms.map λn:Nat=>V.int (n:Int))) (λi U H'=>(∃ v2,U=[some (.ref a),some (.int (Yo (ms.take i))),v2])/\H'=H) ⟨⟨_,rfl⟩,rfl⟩ (λi U H' _ q=>q.2▸hS) ?_ ?_
  .rintro i x U H' hx ⟨⟨v2,rfl⟩,rfl⟩
   obtain⟨m,hm,rfl⟩:=Ak hx
   have e:Yo (ms.take (i+1))=c_ (Yo (ms.take i)) (1 * 2 ^ ((m:Int)).toNat):=by
    rw[kc,aT]
    exact Cf hm _ _
   have hm2:=hb m (al hm)
   refine⟨⟨by omega,by omega,by decide⟩,?_⟩
   exact⟨⟨_,congrArg (λz=>[some (V.ref a),some (V.int z),some (V.int (m:Int))]) e.symm⟩,rfl⟩
  .rintro U H' ⟨⟨v2,rfl⟩,rfl⟩
   rw[ae,aw]
   exact .inl k
theorem a79 (Z:Am K t):OkD K Vp (Aw K t) bl (t.m_zby 3) (t.e_zby 3) (Uo K t):=by
 refine okD (n:=40) (t:=bs4 K t) rfl (by decide +kernel) (by kernel_rfl) (λvs H Q E h=>?_) (λvs H Q E h=>?_)
 .obtain⟨p,l,s,sw,rfl,_⟩:=h;rfl
 .obtain⟨p,l,s,sw,rfl,⟨dx,fs,⟨_,hp⟩,hl,hs,hm⟩,⟨ds,e,⟨_,o⟩,_⟩,k⟩:=h
  refine cP ⟨_,_,_,_,hp,Z.pf.cl,(Z.pf.na _ (by simp)),hl,(.inl ⟨_,.inl (SqL.of o),?_⟩)⟩
  have el:(ds.map λx=>V.ref x.2).length=(Aj sw).length:=by rw[<- e];simp
  rw[el]
  exact k
theorem bm9 (Z:Am K t):OkD K ao9 (Aw K t) bl (t.m_zby 0) (t.e_zby 0) (ak6 K t):=by
 refine okD (n:=40) (t:=b03 K t) rfl (by decide +kernel) (by kernel_rfl) (λvs H Q E h=>?_) (λvs H Q E h=>?_)
 .obtain⟨p,l,s,sw,rfl,_⟩:=h;rfl
 .obtain⟨p,l,s,sw,rfl,hs,ht,hn,k⟩:=h
  obtain⟨dx,fs,⟨_,hp⟩,_,_,hm⟩:=id hs
  refine⟨p,dx,fs,⟨t.c_zby,ac3 K t⟩,rfl,.head _,hp,hm _ (by decide),⟨aF rfl,aF rfl⟩,?_⟩
  refine⟨p,l,s,sw,rfl,hs,ht,⟨by omega,by omega,by decide⟩,?_⟩
  have e:1 * 2 ^ (((Aj sw).length:Int)).toNat - 1=Ny sw:=by rw[kc,aT];rfl
  show Q (.int (1 * 2 ^ (((Aj sw).length:Int)).toNat - 1)) H
  rw[e]
  exact k
theorem a83 (Z:Am K t):OkD K Y7 (Aw K t) bl (t.f 23) (t.d 23) (Ur K t):=by
 refine okD (n:=40) (t:=bs8 K t) rfl (by decide +kernel) (by kernel_rfl) (λvs H Q E h=>?_) (λvs H Q E h=>?_)
 .obtain⟨z,lo,hi,rfl,_⟩:=h;rfl
 .obtain⟨z,lo,hi,rfl,hz,k⟩:=h
  exact⟨rfl,aY hz (by decide),Mx k⟩
theorem a92 (Z:Am K t):OkD K Zb (Aw K t) bl (t.f 24) (t.d 24) (Ux K t):=by
 refine okD (n:=40) (t:=a24 K t) rfl (by decide +kernel) (by kernel_rfl) (λvs H Q E h=>?_) (λvs H Q E h=>?_)
 .obtain⟨x,rfl,_⟩:=h;rfl
 .obtain⟨c,rfl,k⟩:=h
  dsimp only[a24,Ae,As]
  exact ar7 (s1 := "a") (s2 := "z") (c:=c) (i:=0) (a:=97) (b:=122) (by decide +kernel) (by decide +kernel) (by rfl) k
theorem bb2 (Z:Am K t):OkD K Zu (Aw K t) bl (t.f 25) (t.d 25) (Pq K t):=by
 refine okD (n:=40) (t:=bv6 K t) rfl (by decide +kernel) (by kernel_rfl) (λvs H Q E h=>?_) (λvs H Q E h=>?_)
 .obtain⟨x,rfl,_⟩:=h;rfl
 .obtain⟨z,rfl,hz,k⟩:=h
  have hl:z.length<=1000:=aY hz.2.1 (by decide)
  refine⟨z,1,8,rfl,hl,?_⟩
  have e:(decide (1<=(z.length:Int))&&decide ((z.length:Int)<=8))=true:=by
   have h1:=hz.1
   have h2:=hz.2.1
   simp
   omega
  refine Ei e ?_
  refine Xe (p:=Ju) hl (λc U H1 Q1 hU q=>?_) λH' S=>?_
  .match U,hU with
   |[_],_=>exact⟨c,rfl,q⟩
  .rw[hz.2.2];exact k H' S
theorem bn1 (Z:Am K t):OkD K a30 (Aw K t) bl (t.f 26) (t.d 26) (W4 K t):=by
 refine okD (n:=40) (t:=b05 K t) rfl (by decide +kernel) (by kernel_rfl) (λvs H Q E h=>?_) (λvs H Q E h=>?_)
 .obtain⟨a,l,rfl,_⟩:=h;rfl
 .obtain⟨a,l,rfl,hS,hl,k⟩:=h
  refine⟨_,true,.sqL rfl hS rfl,rfl,?_⟩
  refine .inl ⟨⟨_,hS⟩,?_⟩
  refine Qm (K:=K) (U:=[none]) (Ap (l.map V.str)) (λU=>U.length=1) (λH1 S=>S.seqL hS) ?_ rfl (λU x hU=>by rw[List.length_set];exact hU) ?_ λD1 H1 S1 q1=>⟨_,q1,?_⟩
  .rw[ae];exact a_ hl.2.2 (by decide)
  .intro x U H1 Q1 hx hU S q
   obtain⟨z,hz,rfl⟩:=List.mem_map.mp hx
   match U,hU with
   |[_],_=>exact⟨z,rfl,hl.1 z hz,q⟩
  .rw[V2]
   refine .inl ⟨l,S1.seqL hS,a_ hl.2.2 (by decide),.inl ⟨_,.inl (S1.seqL hS),?_⟩⟩
   rw[at0 hl.2.1,ae]
   have e:decide ((l.length:Int)=(l.length:Int))=true:=by simp
   show Q (.bl (decide ((l.length:Int)=(l.length:Int)))) H1
   rw[e]
   exact k H1 S1
theorem a93 (Z:Am K t):OkD K Zc (Aw K t) bl (t.f 28) (t.d 28) (Uy K t):=by
 refine okD (n:=40) (t:=bt7 K t) rfl (by decide +kernel) (by kernel_rfl) (λvs H Q E h=>?_) (λvs H Q E h=>?_)
 .obtain⟨a,b,wd,l,rfl,_⟩:=h;rfl
 .obtain⟨a,b,wd,l,rfl,ha,hb,hw,hl,k⟩:=h
  have qa:=SqT.of (K:=K) ha
  have qb:=SqL.of (K:=K) hb
  refine⟨_,true,.sqT rfl qa rfl,rfl,?_⟩
  refine .inl ⟨_,.inr qa,?_⟩
  refine⟨_,_,.inr qa,rfl,?_⟩
  refine⟨wd,rfl,hw,λH1 S1=>?_⟩
  refine⟨_,_,.inr (S1.seqT qa),rfl,?_⟩
  refine⟨b,l,rfl,S1.seqL qb,hl.1,λH2 S2=>?_⟩
  have S:=S1.trans S2
  refine⟨_,_,.inr (S.seqT qa),rfl,.inl ⟨_,.inl (S.seqL qb),?_⟩⟩
  rw[ae]
  have e:(decide (2<=(l.length:Int))&&decide ((l.length:Int)<=4))=true:=by
   have h1:=hl.2.1
   have h2:=hl.2.2
   simp
   omega
  exact Mx (e▸k H2 S)
theorem Ow {es:List ((Str×List Str)×Addr)} {sw:Sw} {i:Nat} {e:Str×List Str} (he:es.map (·.1)=sw.take i) (hi:sw[i]? = some e) (nd:(sw.map (·.1)).Nodup):B3 (es.map kR) (.inr e.1)=none:=by
 refine B1 ?_
 rw[Js,he]
 intro hm
 obtain⟨w,hw,e2⟩:=List.mem_map.mp hm
 cases e2
 have h1:(sw.map (·.1))[i]? = some e.1:=by rw[ak,hi];rfl
 rw[i5] at hw
 obtain⟨j,hj,e3⟩:=List.mem_iff_getElem.mp hw
 rw[aG] at hj
 rw[iM] at e3
 have hi2:=Al h1
 have e4:(sw.map (·.1))[i]=e.1:=by
  have:=ag hi2
  rw[this] at h1
  exact aH h1
 have:=(cH (i:=j) (j:=i) (h₀:=by omega) (h₁:=hi2) nd).mp (by rw[e3,e4])
 omega
theorem Jr {es:List ((Str×List Str)×Addr)} {e:Str×List Str} {a:Addr} (h:B3 (es.map kR) (.inr e.1)=none):Cu (es.map kR) (.inr e.1) (.ref a)=(es++[(e,a)]).map kR:=by
 rw[Dw _ h,aq]
 rfl
theorem Sy {α β:Type} {es:List (α×β)} {sw:List α} {i:Nat} (h:es.map (·.1)=sw.take i):es.length<=sw.length:=by
 have:=congrArg b9 h
 rw[ae,aG] at this
 omega
theorem Gq {α β:Type} {es:List (α×β)} {sw:List α} {i:Nat} {e:α} {a:β} (h:es.map (·.1)=sw.take i) (hi:sw[i]? = some e):(es++[(e,a)]).map (·.1)=sw.take (i+1):=by
 rw[aq,h,aA,hi]
 rfl
theorem bn9 (Z:Am K t):OkD K a33 (Aw K t) bl (t.f 29) (t.d 29) (al5 K t):=by
 refine okD (n:=40) (t:=b16 K t) rfl (by decide +kernel) (by kernel_rfl) (λvs H Q E h=>?_) (λvs H Q E h=>?_)
 .obtain⟨a,sw,rfl,_⟩:=h;rfl
 .obtain⟨a,sw,rfl,⟨ds,ed,⟨_,oa⟩,hd⟩,hw,k⟩:=h
  have ql:=SqL.of (K:=K) oa
  have el:(ds.map λx=>V.ref x.2).length=sw.length:=by rw[<- ed];simp
  refine⟨_,true,.sqL rfl ql rfl,rfl,?_⟩
  refine .inl ⟨_,.inl ql,?_⟩
  rw[el]
  have e1:decide (1<=(sw.length:Int))=true:=by have:=hw.1;simp;omega
  have e2:decide ((sw.length:Int)<=5)=true:=by have:=hw.2.1;simp;omega
  refine Ei e1 (De (by rw[e2];rfl) ?_)
  intro d hd0
  refine .inl (.inl ⟨⟨_,(Same.upd hd0).seqL ql⟩,?_⟩)
  refine Bg (Ap (ds.map λx=>V.ref x.2)) (λi U H'=>(∃ v3,U=[some (.ref a),some (.ref d),some (.int (Ca (sw.take i):Nat)),v3])/\Same H H' /\
    ∃ es:List ((Str×List Str)×Addr),es.map (·.1)=sw.take i/\H' d=some (.dK (es.map kR)) /\ ∀ x∈es,H x.2=none/\H' x.2=some (Db x.1.2))
   ⟨⟨_,rfl⟩,Same.upd hd0,[],rfl,Aa,λx hx=>by cases hx⟩ (λi U H' _ q=>q.2.1.seqL ql) ?_ ?_
  .rintro i x U H1 hx ⟨⟨v3,rfl⟩,S1,es,ee,e1d,he⟩
   obtain⟨⟨⟨e,la⟩,ta⟩,hi,rfl⟩:=Ak hx
   have hi2:sw[i]? = some e:=by rw[<- ed,ak,hi];rfl
   obtain⟨⟨_,h1⟩,_,h2⟩:=hd _ (al hi)
   have hok:=hw.2.2.2.1 e (al hi2)
   have nk:=Ow ee hi2 hw.2.2.1
   refine⟨ta,la,e.1,e.2,rfl,S1 _ _ h1,S1 _ _ h2,hok.1,hok.2,λH2 S2=>?_⟩
   have S:=S1.trans S2
   have qt:=SqT.of (K:=K) (S _ _ h1)
   have qa:=SqL.of (K:=K) (S _ _ h2)
   refine⟨_,_,.inr qt,rfl,.inr ⟨_,DGet.k (k:=.inr e.1) (S2 _ _ e1d),?_⟩⟩
   rw[nk]
   refine⟨_,_,.inr qt,rfl,_,.inl ⟨qa,λtp htp=>?_⟩⟩
   have S3:=Same.upd (o:=Db e.2) htp
   have et:upd H2 tp (Db e.2) tp=some (Db e.2):=Aa
   show Cm K (Ab 1) (Ah (A8 K) (Ab 3) (dC (.int 0))) (.ref tp) [some (.ref a),some (.ref d),some (.int (Ca (sw.take i):Nat)),some (.ref ta)] (upd H2 tp (Db e.2)) _
   have hft:H tp=none:=S.free htp
   generalize upd H2 tp (Db e.2)=H3 at S3 et ⊢
   have Sa:=S.trans S3
   have e3d:=S3 _ _ (S2 _ _ e1d)
   have ndt:d≠tp:=Ai (S2 _ _ e1d) htp
   refine⟨_,_,.inr (S3.seqT qt),rfl,_,DPut.k (k:=.inr e.1) e3d ?_,?_⟩
   .rw[ae]
    have:=Sy ee
    have:=hw.2.1
    exact a_ (show es.length<=5 by omega) (by decide)
   rw[Jr nk]
   have Sb:Same H (upd H3 d (.dK ((es++[(e,tp)]).map kR))):=Sa.set hd0
   have keep:∀ b,b≠d->upd H3 d (.dK ((es++[(e,tp)]).map kR)) b=H3 b:=λb hb=>Ad hb
   have ebd:upd H3 d (.dK ((es++[(e,tp)]).map kR)) d=some (.dK ((es++[(e,tp)]).map kR)):=Aa
   generalize upd H3 d (.dK ((es++[(e,tp)]).map kR))=H4 at Sb keep ebd ⊢
   refine⟨_,_,.inr (SqT.of (Sb _ _ h1)),rfl,.inl ⟨_,.inl (SqL.of (Sb _ _ h2)),?_⟩⟩
   rw[ae]
   have pm:((Ca (sw.take i):Nat):Int) * (e.2.length:Int)=((Ca (sw.take (i+1)):Nat):Int):=by
    unfold Ca
    rw[Cf hi2,jx]
   have hb4:=hok.2.2.2
   refine⟨.inr ⟨show -(2 ^ 64)<(e.2.length:Int) by omega,show (e.2.length:Int)<2 ^ 64 by omega⟩,?_⟩
   refine⟨⟨_,congrArg (λz=>[some (V.ref a),some (V.ref d),some (V.int z),some (V.ref ta)]) pm⟩,Sb,es++[(e,tp)],Gq ee hi2,ebd,?_⟩
   intro x hx
   rcases List.mem_append.mp hx with hx|hx
   .obtain⟨a1,a2⟩:=he x hx
    refine⟨a1,?_⟩
    rw[keep x.2 (λz=>by rw[z,e1d] at a2;cases a2)]
    exact S3 _ _ (S2 _ _ a2)
   .have:x=(e,tp):=by simpa using hx
    subst this
    exact⟨hft,by rw[keep _ (cy ndt)];exact et⟩
  .rintro U H1 ⟨⟨v3,rfl⟩,S1,es,ee,e1d,he⟩
   rw[el,aw] at ee
   rw[el,aw]
   refine .inl (De ?_ ?_)
   .have:=hw.2.2.2.2
    simp
    omega
   .exact k H1 d S1 ⟨es,ee,⟨hd0,e1d⟩,he⟩
theorem bo9 (Z:Am K t):OkD K a36 (Aw K t) bl (t.f 27) (t.d 27) (am5 K t):=by
 refine okD (n:=40) (t:=b27 K t) rfl (by decide +kernel) (by kernel_rfl) (λvs H Q E h=>?_) (λvs H Q E h=>?_)
 .obtain⟨r,rule,rfl,_⟩:=h;rfl
 .obtain⟨r,rule,rfl,⟨ds,ed,⟨_,od⟩,hd⟩,nd,hl,k⟩:=h
  intro c hc
  have ncr:r≠c:=Ai od hc
  have od1:upd H c (.dK []) r=some (.dK (ds.map kR)):=by rw[Ad ncr];exact od
  refine .inl (.inr (.inr (.inl (.inl ⟨_,od1,λo=>?_⟩))))
  have Hf:∀ b u,b≠r->H b=some u->upd (upd H c (.dK [])) r (.frz o (.dK (ds.map kR))) b=some u:=λb u hb e=>by
   rw[Ad hb,Ad (Ai e hc)];exact e
  have ef:upd (upd H c (.dK [])) r (.frz o (.dK (ds.map kR))) r=some (.frz o (.dK (ds.map kR))):=Aa
  have ec:upd (upd H c (.dK [])) r (.frz o (.dK (ds.map kR))) c=some (.dK []):=by rw[Ad (cy ncr),Aa]
  have len:ds.length=rule.length:=by rw[<- ed];simp
  generalize upd (upd H c (.dK [])) r (.frz o (.dK (ds.map kR)))=H0 at Hf ef ec ⊢
  refine Bg (Fy (ds.map kR)) (λi U H'=>(∃ v2,U=[some (.ref r),some (.ref c),v2])/\(∀ b u,b≠r->H b=some u->H' b=some u)/\H' r=some (.frz o (.dK (ds.map kR))) /\
    ∃ es:List ((Str×List Str)×Addr),es.map (·.1)=rule.take i/\H' c=some (.dK (es.map kR)) /\ ∀ x∈es,H x.2=none/\H' x.2=some (Au x.1.2))
   ⟨⟨_,rfl⟩,Hf,ef,[],rfl,ec,λx hx=>by cases hx⟩ (λi U H' _ q=>q.2.2.1) ?_ ?_
  .rintro i x U H1 hx ⟨⟨v2,rfl⟩,S1,f1,es,ee,e1c,he⟩
   obtain⟨kv,hi0,rfl⟩:=Ak hx
   obtain⟨⟨e,la⟩,hi,rfl⟩:=Ak hi0
   have hi2:rule[i]? = some e:=by rw[<- ed,ak,hi];rfl
   obtain⟨_,h2⟩:=hd _ (al hi)
   have nla:la≠r:=λz=>by rw[z,od] at h2;cases h2
   have nk:=Ow ee hi2 nd
   have hv:B3 (ds.map kR) (.inr e.1)=some (.ref la):=Bm (D8 ed nd) hi0
   refine⟨.ref la,.inl ⟨_,.inr e.1,.inr ⟨o,f1⟩,rfl,hv.symm⟩,.inl ⟨_,.inl (SqL.of (S1 _ _ nla h2)),λlc hlc=>?_⟩⟩
   have S3:=Same.upd (o:=Au e.2) hlc
   have et:upd H1 lc (Au e.2) lc=some (Au e.2):=Aa
   have nlr:lc≠r:=(Ai f1 hlc).symm
   have hft:H lc=none:=by
    cases q:H lc with
    |none=>rfl
    |some u=>rw[S1 _ _ nlr q] at hlc;cases hlc
   have ndt:c≠lc:=Ai e1c hlc
   show Cm K (Ab 1) (Ab 2) (.ref lc) [some (.ref r),some (.ref c),some (.str e.1)] (upd H1 lc (Au e.2)) _
   generalize upd H1 lc (Au e.2)=H3 at S3 et ⊢
   refine⟨_,DPut.k (k:=.inr e.1) (S3 _ _ e1c) ?_,?_⟩
   .rw[ae]
    have:=Sy ee
    exact a_ (show es.length<=100 by omega) (by decide)
   rw[Jr nk]
   refine⟨⟨_,rfl⟩,λb u hb e4=>?_,?_,es++[(e,lc)],Gq ee hi2,Aa,?_⟩
   .rw[Ad (Ai e4 hc)];exact S3 _ _ (S1 _ _ hb e4)
   .rw[Ad ncr];exact S3 _ _ f1
   .intro x hx
    rcases List.mem_append.mp hx with hx|hx
    .obtain⟨a1,a2⟩:=he x hx
     refine⟨a1,?_⟩
     rw[Ad (λz=>by rw[z,e1c] at a2;cases a2)]
     exact S3 _ _ a2
    .have:x=(e,lc):=by simpa using hx
     subst this
     exact⟨hft,by rw[Ad (cy ndt)];exact et⟩
  .rintro U H1 ⟨⟨v2,rfl⟩,S1,f1,es,ee,e1c,he⟩
   rw[ae,ae,len,aw] at ee
   refine .inr ⟨r,o,_,od1,f1,?_⟩
   refine k _ c (λb u e4=>?_) ⟨es,ee,⟨hc,?_⟩,λx hx=>⟨(he x hx).1,?_⟩⟩
   .by_cases hb:b=r
    .subst hb;rw[Aa,<- od,e4]
    .rw[Ad hb];exact S1 _ _ hb e4
   .rw[Ad (cy ncr)];exact e1c
   .rw[Ad (λz=>by have:=(he x hx).1;rw[z,od] at this;cases this)];exact (he x hx).2
theorem Nl:∀ (a:List (List Str)) (r:List Str) (k:Nat),Kt k (a++[r])=Kt k a++[(Ly r,.int ((k+a.length:Nat):Int))]
 |[],r,k=>rfl
 | b::a,r,k=>by
  rw[jg,Kt,Nl a r (k+1),Kt,aO,jg,show k+1+a.length=k+(a.length+1) by omega]
theorem Nk:∀ (a:List (List Str)) (k:Nat),(Kt k a).map (·.1)=a.map Ly
 |[],_=>rfl
 |b::a,k=>by rw[Kt,aP,aP,Nk a]
theorem Re:∀ (a:List (List Str)) (k:Nat),(Kt k a).length=a.length
 |[],_=>rfl
 |b::a,k=>by rw[Kt,aO,aO,Re a]
theorem af4 {a b:List Str} (h:Ly a=Ly b):a=b:=by
 unfold Ly at h
 injection h with h
 exact (List.map_inj_right (λx y e=>by injection e with e;injection e)).mp h
theorem Jx {H:Hp}:∀ r:List Str,Ay H (r.map λz=>.at_ (.inr z)) (r.map V.str)/\Cd (r.map λz=>.at_ (.inr z))=0
 |[]=>⟨by unfold Ay;rfl,rfl⟩
 |z::r=>⟨by rw[aP];unfold Ay;exact⟨_,_,rfl,by unfold TkAt;rfl,(Jx r).1⟩,by rw[aP,Cd,(Jx (H:=H) r).2];rfl⟩
theorem a73 {H:Hp} {b:Addr} {r:List Str} (h:H b=some (Db r)):Ar (Ly r)<=8/\TkAt H (Ly r) (.ref b):=by
 refine⟨?_,?_⟩
 .unfold Ly Ar;rw[(Jx (H:=H) r).2];decide
 .unfold Ly TkAt;exact⟨b,_,rfl,h,(Jx r).1⟩
theorem Es {α:Type} {l:List α} {i:Nat} {x:α} (nd:l.Nodup) (h:l[i]? = some x):¬ x∈l.take i:=by
 intro hm
 obtain⟨j,hj,e⟩:=List.mem_iff_getElem.mp hm
 rw[aG] at hj
 rw[iM] at e
 have hi:=Al h
 rw[ag hi] at h
 have:=(cH (i:=j) (j:=i) (h₀:=by omega) (h₁:=hi) nd).mp (by rw[e];exact (aH h).symm)
 omega
theorem bm6 (Z:Am K t):OkD K a28 (Aw K t) bl (t.f 31) (t.d 31) (ak3 K t):=by
 refine okD (n:=40) (t:=b00 K t) rfl (by decide +kernel) (by kernel_rfl) (λvs H Q E h=>?_) (λvs H Q E h=>?_)
 .obtain⟨l,rows,rfl,_⟩:=h;rfl
 .obtain⟨l,rows,rfl,⟨ds,ed,⟨_,ol⟩,hd⟩,nd,hl,k⟩:=h
  intro n hn
  have ql:=SqL.of (K:=K) ol
  have len:(Eg 0 (ds.map λx=>V.ref x.2)).length=rows.length:=by rw[Bo,<- ed];simp
  refine .inr (.inl ⟨⟨_,(Same.upd hn).seqL ql⟩,?_⟩)
  refine Gr (E3 (ds.map λx=>V.ref x.2)) (λi U H'=>(∃ v2 v3,U=[some (.ref l),some (.ref n),v2,v3])/\Same H H'/\H' n=some (.dT (Kt 0 (rows.take i))))
   ⟨⟨_,_,rfl⟩,Same.upd hn,Aa⟩ (λi U H' _ q=>q.2.1.seqL ql) ?_ ?_
  .rintro i x y T U H1 hxy hT ⟨⟨v2,v3,rfl⟩,S1,e1⟩
   have hi':=Al hxy
   rw[Bo,ae] at hi'
   obtain⟨⟨r,b⟩,hi⟩:∃ z,ds[i]? = some z:=⟨_,ag hi'⟩
   have:=Cr (k:=0) (xs:=ds.map λx=>V.ref x.2) (i:=i) (x:=.ref b) (by rw[ak,hi];rfl)
   rw[this] at hxy
   obtain⟨rfl,rfl⟩:V.int ((0+i:Nat):Int)=x/\V.ref b=y:=by simpa using hxy
   have hi2:rows[i]? = some r:=by rw[<- ed,ak,hi];rfl
   have hb:=(hd _ (al hi)).2
   have ST:=Same.upd (o:=.tup [.int ((0+i:Nat):Int),.ref b]) hT
   refine⟨_,.inl (SqT.of Aa),rfl,?_⟩
   generalize upd H1 T (.tup [.int ((0+i:Nat):Int),.ref b])=H2 at ST ⊢
   have S2:=S1.trans ST
   have hb2:=S2 _ _ hb
   refine⟨_,DPut.t (ST _ _ e1) (a73 hb2) ?_,⟨_,_,rfl⟩,S2.set hn,?_⟩
   .rw[Re,aG]
    exact a_ (show min i rows.length<=256 by omega) (by decide)
   .rw[Aa,Dw,aA,hi2,cD,Nl,aG,Nat.min_eq_left (ez (Al hi2))]
    refine B1 ?_
    rw[Nk]
    intro hm
    obtain⟨r2,h1,h2⟩:=List.mem_map.mp hm
    rw[af4 h2] at h1
    exact Es nd hi2 h1
  .rintro U H1 ⟨⟨v2,v3,rfl⟩,S1,e1⟩
   rw[len,aw] at e1
   exact .inl (k H1 n S1 ⟨hn,e1⟩)
theorem bx2 {H:Hp} {aa p:Addr} {a:List Str} {z:Str} {Q:VK} (ha:H aa=some (Db a)) (hp:H p=some (.tup [.str z])) (hl:a.length<=100) (k:∀ q H',Same H H'->H' q=some (Db (a++[z]))->(H q=none\/q=p)->Q (.ref q) H'):Bf K (.ref aa) (.ref p) H Q:=by
 cases a with
 |nil=>exact .inr (.inr ⟨aa,p,_,rfl,rfl,SqT.of ha,SqT.of hp,k p H (Same.refl _) hp (.inr rfl)⟩)
 |cons y a=>
  refine .inr (.inl ⟨aa,p,_,_,rfl,rfl,SqT.of ha,SqT.of hp,by simp,?_,(λe=>by cases e),λ_ q hq=>?_⟩)
  .rw[ae]
   exact aY (show (y::a).length+1<=101 by omega) (by decide)
  .refine k q _ (Same.upd hq) ?_ (.inl hq)
   rw[Aa,Db,aq]
   rfl
theorem Xo {α:Type} {ok:Addr->Prop} {H:Hp} {f:α->HO} {es:List (α×Addr)} {e:α} {a:Addr} (h:∀ x∈es,ok x.2/\H x.2=some (f x.1)) (h1:ok a) (h2:H a=some (f e)):∀ x∈es++[(e,a)],ok x.2/\H x.2=some (f x.1):=by
 intro x hx
 rcases List.mem_append.mp hx with hx|hx
 .exact h x hx
 .have:x=(e,a):=by simpa using hx
  subst this
  exact⟨h1,h2⟩
theorem as0 {α:Type} {ok:Addr->Prop} {H H':Hp} {f:α->HO} {es:List (α×Addr)} (S:Same H H') (h:∀ x∈es,ok x.2/\H x.2=some (f x.1)):∀ x∈es,ok x.2/\H' x.2=some (f x.1):=λx hx=>⟨(h x hx).1,S _ _ (h x hx).2⟩
theorem Ys {rows:List (List Str)} {j:Nat} {r:List Str} {x:Str×List Str} (h:rows[j]? = some r):Ep (rows.take (j+1)) x=Ep (rows.take j) x++x.2.map λz=>r++[z]:=by
 unfold Ep
 rw[aA,h,cD,List.flatMap_append]
 simp
theorem To {E:EK} {H0 H:Hp} {aa ta:Addr} {a:List Str} {l:List Str} {U:St} {R:Hp->Addr->Prop} (hU:∃ v,U=[v,some (.ref aa)]) (S0:Same H0 H) (ha:H aa=some (Db a)) (ht:H ta=some (Db l)) (hl:a.length<=100) (hl2:l.length<=8)
  (k:∀ D H',Same H H'->H D=none -> ∀ fs:List (List Str×Addr),fs.map (·.1)=l.map (λz=>a++[z])->H' D=some (.lst (fs.map λx=>.ref x.2))->(∀ x∈fs,H0 x.2=none/\H' x.2=some (Db x.1))->R H' D) :
  ∀ D,H D=none->E8 (Itt K ta) (gdN 0) Cc (Ah (Bf K) (Ab 1) (Et (Ac (Ab 0) Af))) D (λH'=>R H' D) U (upd H D (.lst [])) E:=by
 intro D hD
 refine Bq (ao5 (l.map V.str)) (λm U H'=>(∃ v,U=[v,some (.ref aa)])/\Same H H' /\ ∃ fs:List (List Str×Addr),fs.map (·.1)=(l.take m).map (λz=>a++[z])/\H' D=some (.lst (fs.map λx=>.ref x.2)) /\ ∀ x∈fs,H0 x.2=none/\H' x.2=some (Db x.1))
  ⟨hU,Same.upd hD,[],rfl,Aa,λx hx=>by cases hx⟩ (λm U H' _ q=>q.2.1.seqT (SqT.of ht)) ?_ ?_
 .rintro m x U H1 hx ⟨⟨v,rfl⟩,S1,fs,ef,eD,hf⟩
  obtain⟨z,hz,rfl⟩:=Ak hx
  refine⟨(show 1<=sizeLine by decide),λp hp=>?_⟩
  have Sp:=Same.upd (o:=.tup [.str z]) hp
  have ep:upd H1 p (.tup [.str z]) p=some (.tup [.str z]):=Aa
  show Bf K (.ref aa) (.ref p) (upd H1 p (.tup [.str z])) _
  generalize upd H1 p (.tup [.str z])=H2 at Sp ep ⊢
  refine bx2 (Sp _ _ (S1 _ _ ha)) ep hl λq H3 S3 eq nq=>?_
  have S03:=S0.trans (S1.trans (Sp.trans S3))
  have hq0:H0 q=none:=by
   rcases nq with nq|rfl
   .exact (S0.trans (S1.trans Sp)).free nq
   .exact (S0.trans S1).free hp
  have qD:q≠D:=by
   rcases nq with nq|rfl
   .exact (Ai (Sp _ _ eD) nq).symm
   .exact (Ai eD hp).symm
  have eD3:=S3 _ _ (Sp _ _ eD)
  refine⟨_,eD3,?_,⟨_,rfl⟩,(S1.trans (Sp.trans S3)).set hD,fs++[(a++[z],q)],?_,?_,?_⟩
  .rw[ae]
   have:=congrArg b9 ef
   rw[ae,ae,aG] at this
   exact a_ (show fs.length<=8 by omega) (by decide)
  .rw[aq,ef,By hz];rfl
  .rw[Aa,aq];rfl
  .have hf3:∀ x∈fs++[(a++[z],q)],H0 x.2=none/\H3 x.2=some (Db x.1):=Xo (ok:=λa=>H0 a=none) (f:=Db) (as0 (ok:=λa=>H0 a=none) (f:=Db) (Sp.trans S3) hf) hq0 eq
   intro x hx
   refine⟨(hf3 x hx).1,?_⟩
   rw[Ad (λe=>by have:=(hf3 x hx).2;rw[e,eD3] at this;cases this)]
   exact (hf3 x hx).2
 .rintro U H1 ⟨_,S1,fs,ef,eD,hf⟩
  rw[ae,aw] at ef
  exact k D H1 S1 hD fs ef eD hf
theorem bm7 (Z:Am K t):OkD K a29 (Aw K t) bl (t.f 30) (t.d 30) (ak4 K t):=by
 refine okD (n:=40) (t:=b01 K t) rfl (by decide +kernel) (by kernel_rfl) (λvs H Q E h=>?_) (λvs H Q E h=>?_)
 .obtain⟨d,sw,rfl,_⟩:=h;rfl
 .obtain⟨d,sw,rfl,⟨ds,ed,⟨_,od⟩,hd⟩,hw,k⟩:=h
  refine⟨(show 0<=sizeLine by decide),λt0 h0=>⟨(show 1<=sizeLine by decide),λl0 hl0=>?_⟩⟩
  have St:=Same.upd (o:=.tup []) h0
  have Sl:=Same.upd (o:=.lst [.ref t0]) hl0
  have ft:H t0=none:=h0
  have fl:H l0=none:=St.free hl0
  have et:upd (upd H t0 (.tup [])) l0 (.lst [.ref t0]) t0=some (Db []):=Sl _ _ Aa
  have el:upd (upd H t0 (.tup [])) l0 (.lst [.ref t0]) l0=some (.lst [.ref t0]):=Aa
  have S0:=St.trans Sl
  generalize upd (upd H t0 (.tup [])) l0 (.lst [.ref t0])=H0 at S0 et el ⊢
  have od0:=S0 _ _ od
  refine .inr (.inr (.inl (.inl ⟨_,od0,λo=>?_⟩)))
  have len:ds.length=sw.length:=by rw[<- ed];simp
  have kf:Kp (fresh H) H0 (fresh H) (upd H0 d (.frz o (.dK (ds.map kR)))):=Kp.off (Fw od)
  have ef:upd H0 d (.frz o (.dK (ds.map kR))) d=some (.frz o (.dK (ds.map kR))):=Aa
  have ht0:∀ x∈ds,upd H0 d (.frz o (.dK (ds.map kR))) x.2=some (Db x.1.2):=λx hx=>by
   rw[Ad (λe=>by have:=(hd x hx).2;rw[e,od] at this;cases this)]
   exact S0 _ _ (hd x hx).2
  have T0:TupsAt (fresh H) (upd H0 d (.frz o (.dK (ds.map kR)))) l0 (Aj (sw.take 0)):=⟨[([],t0)],rfl,kf _ _ ⟨fl,el⟩,λx hx=>by
   have:x=([],t0):=by simpa using hx
   subst this
   exact kf _ _ ⟨ft,et⟩⟩
  have frees:∀ {H':Hp} {b:Addr},Same (upd H0 d (.frz o (.dK (ds.map kR)))) H'->H' b=none->H b=none:=λ{H' b} S e=>by
   have e1:=S.free e
   have nb:b≠d:=λz=>by rw[z,ef] at e1;cases e1
   rw[Ad nb] at e1
   exact S0.free e1
  generalize hHf:upd H0 d (.frz o (.dK (ds.map kR)))=Hf at kf ef ht0 T0 frees ⊢
  refine Bg (Fy (ds.map kR)) (λi U H'=>(∃ l v2 v3 v4,U=[some (.ref d),some (.ref l),v2,v3,v4]/\TupsAt (fresh H) H' l (Aj (sw.take i)))/\Same Hf H') ⟨⟨_,_,_,_,rfl,T0⟩,Same.refl _⟩ (λi U H' _ q=>q.2 _ _ ef) ?_ ?_
  .rintro i x U H1 hx ⟨⟨l,v2,v3,v4,rfl,⟨es,ee,⟨fl1,el1⟩,he⟩⟩,S1⟩
   obtain⟨kv,hi0,rfl⟩:=Ak hx
   obtain⟨⟨e,ta⟩,hi,rfl⟩:=Ak hi0
   have hi2:sw[i]? = some e:=by rw[<- ed,ak,hi];rfl
   have hta:=ht0 _ (al hi)
   have hoke:=hw.sets e (al hi2)
   have hv:B3 (ds.map kR) (.inr e.1)=some (.ref ta):=Bm (D8 ed hw.2.2.1) hi0
   refine⟨by decide,λl2 hl2=>.inl ⟨⟨_,(Same.upd hl2).seqL (SqL.of el1)⟩,?_⟩⟩
   have f2:H l2=none:=frees S1 hl2
   have Sl2:=Same.upd (o:=.lst []) hl2
   have rl:∀ r∈Aj (sw.take i),r.length<=100:=λr hr=>by
    have h1:=(G7 (sw:=sw.take i) (λx hx=>hw.sets x (fO hx))).2.1 r hr
    rw[h1,aG]
    have:=hw.2.1
    omega
   have lenr:es.length=(Aj (sw.take i)).length:=by rw[<- ee];simp
   have few:(Aj (sw.take i)).length<=256:=by rw[G5];exact aY (Yg hw i) hw.2.2.2.2
   refine Bg (Ap (es.map λx=>V.ref x.2)) (λj U H'=>(∃ v4,U=[some (.ref d),some (.ref l),some (.str e.1),some (.ref l2),v4])/\Same H1 H' /\ ∃ fs:List (List Str×Addr),fs.map (·.1)=Ep ((Aj (sw.take i)).take j) e /\
     H' l2=some (.lst (fs.map λx=>.ref x.2)) /\ ∀ x∈fs,H x.2=none/\H' x.2=some (Db x.1))
    ⟨⟨_,rfl⟩,Sl2,[],rfl,Aa,λx hx=>by cases hx⟩ (λj U H' _ q=>q.2.1.seqL (SqL.of el1)) ?_ ?_
   .rintro j y U H2 hy ⟨⟨v4,rfl⟩,S2,fs,efs,e2l,hf⟩
    obtain⟨⟨r,ra⟩,hj,rfl⟩:=Ak hy
    have hj2:(Aj (sw.take i))[j]? = some r:=by rw[<- ee,ak,hj];rfl
    obtain⟨_,hra⟩:=he _ (al hj)
    have S12:=S1.trans S2
    refine⟨.inl ⟨rfl,_,SqL.of e2l⟩,.ref ta,.inl ⟨_,.inr e.1,.inr ⟨o,S12 _ _ ef⟩,rfl,hv.symm⟩,.inr (.inl ⟨⟨_,SqT.of (S12 _ _ hta)⟩,?_⟩)⟩
    refine To (H0:=H1) ⟨_,rfl⟩ S2 (S2 _ _ hra) (S12 _ _ hta) (rl r (al hj2)) (aY hoke.2.2 (by decide)) λD H3 S3 hD gs eg eD hg=>?_
    have e3l:=S3 _ _ e2l
    have lfs:fs.length<=1024:=by
     have:=congrArg b9 efs
     rw[ae,Nq,aG] at this
     have h4:=hoke.2.2
     have:min j (Aj (sw.take i)).length * e.2.length<=256 * 4:=Nat.mul_le_mul (by omega) h4
     omega
    have lgs:gs.length<=4:=by
     have h1:gs.length=e.2.length:=by simpa using congrArg b9 eg
     have h2:e.2.length<=4:=hoke.2.2
     omega
    refine⟨l2,D,_,_,rfl,rfl,e3l,eD,?_,⟨_,rfl⟩,(S2.trans S3).set hl2,fs++gs,?_,?_,?_⟩
    .rw[ae,ae]
     exact aY (show fs.length+gs.length<=1028 by omega) (by decide)
    .rw[aq,efs,eg,Ys hj2]
    .rw[Aa,aq]
    .have h3:∀ x∈fs++gs,H x.2=none/\H3 x.2=some (Db x.1):=λx hx=>by
      rcases List.mem_append.mp hx with hx|hx
      .exact⟨(hf x hx).1,S3 _ _ (hf x hx).2⟩
      .exact⟨frees S1 (hg x hx).1,(hg x hx).2⟩
     intro x hx
     refine⟨(h3 x hx).1,?_⟩
     rw[Ad (λe=>by have:=(h3 x hx).2;rw[e,e3l] at this;cases this)]
     exact (h3 x hx).2
   .rintro U H2 ⟨⟨v4,rfl⟩,S2,fs,efs,e2l,hf⟩
    rw[ae,lenr,aw] at efs
    refine .inl ⟨⟨_,_,_,_,rfl,fs,?_,⟨f2,e2l⟩,hf⟩,S1.trans S2⟩
    rw[efs]
    exact (Cf hi2 _ _).symm
  .rintro U H1 ⟨⟨l,v2,v3,v4,rfl,T1⟩,S1⟩
   rw[ae,ae,len,aw] at T1
   refine .inr ⟨d,o,_,od0,S1 _ _ ef,?_⟩
   exact k _ l (S0.trans (Same.thaw od0 (hHf▸S1))) (T1.mono (Kp.off (Fw od)))
noncomputable def Off (d:Addr) (H H':Hp):Prop:=∀ b u,b≠d->H b=some u->H' b=some u
theorem Off.up {d:Addr} {H H1 H2:Hp} (h:Off d H H1) (S:Same H1 H2):Off d H H2:=λb u n e=>S _ _ (h b u n e)
theorem Off.set {d a:Addr} {o:HO} {H H1:Hp} (h:Off d H H1) (e:H a=none):Off d H (upd H1 a o):=λb u n q=>by rw[Ad (Ai q e)];exact h b u n q
theorem Off.free {d b:Addr} {H H1:Hp} (h:Off d H H1) (n:b≠d) (e:H1 b=none):H b=none:=by
 cases q:H b with
 |none=>rfl
 |some u=>rw[h b u n q] at e;cases e
theorem Off.thaw {d:Addr} {kvs:List (Key×V)} {H H1:Hp} (h:Off d H H1) (e:H d=some (.dK kvs)):Same H (upd H1 d (.dK kvs)):=λb u q=>by
 by_cases n:b=d
 .subst n;rw[Aa,<- e,q]
 .rw[Ad n];exact h b u n q
theorem M6 (p:Nat) (z:Str):∀ (a:List (List Str)) (r:List Str) (k:Nat),Ds p z k (a++[r])=Ds p z k a++(if r[p]? = some z then [k+a.length] else [])
 | [],r,k=>by
  rw[List.nil_append,Ds,Ds,Ds,List.nil_append]
  rfl
 | b::a,r,k=>by
  rw[jg,Ds,Ds,M6 p z a r (k+1),aO,show k+1+a.length=k+(a.length+1) by omega]
  split <;> simp
theorem Oi (p:Nat) (z:Str):∀ (a:List (List Str)) (k n:Nat),n∈Ds p z k a->n<k+a.length
 |[],k,n,h=>by cases h
 | b::a,k,n,h=>by
  rw[Ds] at h
  rw[aO]
  split at h
  .rcases List.mem_cons.mp h with h|h
   .omega
   .have:=Oi p z a (k+1) n h;omega
  .have:=Oi p z a (k+1) n h;omega
theorem Kg (p:Nat) (z:Str):∀ (a:List (List Str)) (k:Nat),(Ds p z k a).length<=a.length
 |[],k=>ah _
 | b::a,k=>by
  rw[Ds,aO]
  split
  .rw[aO];have:=Kg p z a (k+1);omega
  .have:=Kg p z a (k+1);omega
theorem Jk {α:Type} {ds:List (α×Addr)} {i:Nat} {x y:V} (h:(Eg 0 (ds.map λx=>V.ref x.2))[i]? = some (x,y)):∃ z,ds[i]? = some z/\x=.int (i:Int)/\y=.ref z.2:=by
 have hi:=Al h
 rw[Bo,ae] at hi
 refine⟨_,ag hi,?_⟩
 have:=Cr (k:=0) (xs:=ds.map λx=>V.ref x.2) (i:=i) (x:=.ref ds[i].2) (by rw[ak,ag hi];rfl)
 rw[this,cT] at h
 obtain⟨rfl,rfl⟩:V.int (i:Int)=x/\V.ref ds[i].2=y:=by simpa using h
 exact⟨rfl,rfl⟩
theorem a53 {E:EK} {H:Hp} {l:Addr} {ds:List (List Str×Addr)} {rows:List (List Str)} {i:Nat} {z:Str} {R:Hp->Addr->Prop} (ed:ds.map (·.1)=rows) (ol:H l=some (.lst (ds.map λx=>.ref x.2))) (hd:∀ x∈ds,H x.2=some (Db x.1)) (hr:∀ r∈rows,i<r.length) (few:rows.length<=256)
  (k:∀ D H',Same H H'->H D=none->H' D=some (.lst ((Ds i z 0 rows).map λn:Nat=>V.int (n:Int)))->R H' D) :
  ∀ D,H D=none->E8 (Ite K l) (gdT K 2 [gdN 0,gdN 1]) (Bb (Ah (Br K false) (Ah (A8 K) (Ab 1) (Ab 2)) (Ab 3))) (Ab 0) D (λH'=>R H' D) [none,none,some (.int (i:Int)),some (.str z)] (upd H D (.lst [])) E:=by
 intro D hD
 have len:(Eg 0 (ds.map λx=>V.ref x.2)).length=rows.length:=by rw[Bo,<- ed];simp
 refine N7 (E3 (ds.map λx=>V.ref x.2)) (λm U H'=>(∃ v0 v1,U=[v0,v1,some (.int (i:Int)),some (.str z)])/\Same H H'/\H' D=some (.lst ((Ds i z 0 (rows.take m)).map λn:Nat=>V.int (n:Int))))
  ⟨⟨_,_,rfl⟩,Same.upd hD,Aa⟩ (λm U H' _ q=>q.2.1.seqL (SqL.of ol)) ?_ ?_
 .rintro m x y T U H1 hxy hT ⟨⟨v0,v1,rfl⟩,S1,eD⟩
  obtain⟨⟨r,b⟩,hm,rfl,rfl⟩:=Jk hxy
  have hm2:rows[m]? = some r:=by rw[<- ed,ak,hm];rfl
  have hb:=hd _ (al hm)
  have hi:=hr r (al hm2)
  have ST:=Same.upd (o:=.tup [.int (m:Int),.ref b]) hT
  refine⟨_,.inl (SqT.of Aa),rfl,?_⟩
  show Bb _ [some (.int (m:Int)),some (.ref b),some (.int (i:Int)),some (.str z)] (upd H1 T (.tup [.int (m:Int),.ref b])) _ _
  generalize upd H1 T (.tup [.int (m:Int),.ref b])=H2 at ST ⊢
  have S2:=S1.trans ST
  have eD2:=ST _ _ eD
  have mm:min m rows.length=m:=Nat.min_eq_left (ez (Al hm2))
  have he:Ds i z 0 (rows.take (m+1))=Ds i z 0 (rows.take m)++(if r[i]? = some z then [m] else []):=by
   rw[aA,hm2,cD,M6,aG,mm,cT]
  refine⟨_,_,.inr (SqT.of (S2 _ _ hb)),Bn (j:=i) (by rw[ak,ag hi];rfl),?_⟩
  rw[ag hi] at he
  show if decide (r[i]=z)=true then _ else _
  refine Eu (λe=>?_) (λe=>?_)
  .have e:r[i]=z:=by simpa using e
   rw[if_pos (by rw[e])] at he
   refine⟨_,eD2,?_,⟨_,_,rfl⟩,S2.set hD,?_⟩
   .rw[ae]
    have h1:=Kg i z (rows.take m) 0
    rw[aG] at h1
    exact a_ (show (Ds i z 0 (rows.take m)).length<=256 by omega) (by decide)
   .rw[Aa,he,aq];rfl
  .have e:¬ r[i]=z:=by simpa using e
   rw[if_neg (by simpa using e),bI] at he
   exact⟨⟨_,_,rfl⟩,S2,by rw[he];exact eD2⟩
 .rintro U H1 ⟨_,S1,eD⟩
  rw[len,aw] at eD
  exact k D H1 S1 hD eD
theorem Yp {rows:List (List Str)} {i m:Nat} {l:List Str} {z:Str} (hz:l[m]? = some z) (nd:l.Nodup) :
  Cu ((l.take m).map λz=>((.inr z:Key),V.int (C7 rows i z))) (.inr z) (.int (C7 rows i z))=(l.take (m+1)).map λz=>((.inr z:Key),V.int (C7 rows i z)):=by
 rw[Dw,By hz]
 refine B1 ?_
 rw[aI]
 intro hm
 obtain⟨y,hy,e⟩:=List.mem_map.mp hm
 have e:y=z:=by injection e
 subst e
 exact Es nd hz hy
theorem bn2 (Z:Am K t):OkD K a31 (Aw K t) bl (t.f 33) (t.d 33) (ak8 K t):=by
 refine okD (n:=40) (t:=b06 K t) rfl (by decide +kernel) (by kernel_rfl) (λvs H Q E h=>?_) (λvs H Q E h=>?_)
 .obtain⟨d,l,sw,rfl,_⟩:=h;rfl
 .obtain⟨d,l,sw,rfl,⟨ds,ed,⟨_,od⟩,hd⟩,⟨ts,et,⟨_,ol⟩,htp⟩,hw,k⟩:=h
  intro s hs
  have nds:d≠s:=Ai od hs
  have nld:l≠d:=λe=>by rw[e,od] at ol;cases ol
  have od1:upd H s (.dK []) d=some (.dK (ds.map kR)):=by rw[Ad nds];exact od
  refine .inl (.inr (.inl ⟨_,od1,λo=>?_⟩))
  have O0:Off d H (upd (upd H s (.dK [])) d (.frz o (.dK (ds.map kR)))):=λb u n e=>by rw[Ad n,Ad (Ai e hs)];exact e
  have ef:upd (upd H s (.dK [])) d (.frz o (.dK (ds.map kR))) d=some (.frz o (.dK (ds.map kR))):=Aa
  have es0:upd (upd H s (.dK [])) d (.frz o (.dK (ds.map kR))) s=some (.dK []):=by rw[Ad (cy nds),Aa]
  have len:(Eg 0 ((ds.map kR).map λkv=>kV kv.1)).length=sw.length:=by rw[Bo,<- ed];simp
  have few:=hw.len
  have rlen:=(G7 hw.sets).2.1
  show F0 (Zz d o (ds.map kR)) _ _ _ [some (.ref d),some (.ref l),some (.ref s),none,none,none,none] _
  generalize upd (upd H s (.dK [])) d (.frz o (.dK (ds.map kR)))=H0 at O0 ef es0 ⊢
  refine Gr (ao4 (ds.map kR)) (λi U H'=>(∃ v3 v4 v5 v6,U=[some (.ref d),some (.ref l),some (.ref s),v3,v4,v5,v6])/\Off d H H'/\H' d=some (.frz o (.dK (ds.map kR))) /\
    ∃ es:List ((Str×List Str)×Addr),es.map (·.1)=sw.take i/\H' s=some (.dK (es.map kR)) /\ ∀ j x,es[j]? = some x->H x.2=none/\H' x.2=some (Ug (Aj sw) j x.1.2))
   ⟨⟨_,_,_,_,rfl⟩,O0,ef,[],rfl,es0,λj x hx=>by simp at hx⟩ (λi U H' _ q=>q.2.2.1) ?_ ?_
  .rintro i x y T U H1 hxy hT ⟨⟨v3,v4,v5,v6,rfl⟩,O1,f1,es,ee,e1s,he⟩
   have hi':=Al hxy
   rw[len] at hi'
   have hids:i<ds.length:=by rw[<- ed,ae] at hi';exact hi'
   obtain⟨⟨e,ta⟩,hi⟩:∃ z,ds[i]? = some z:=⟨_,ag hids⟩
   have hxy2:=Cr (k:=0) (xs:=(ds.map kR).map λkv=>kV kv.1) (i:=i) (x:=.str e.1) (by rw[ak,ak,hi];rfl)
   rw[hxy2,cT] at hxy
   obtain⟨rfl,rfl⟩:V.int (i:Int)=x/\V.str e.1=y:=by simpa using hxy
   have hi2:sw[i]? = some e:=by rw[<- ed,ak,hi];rfl
   have hta:=(hd _ (al hi)).2
   have nta:ta≠d:=λz=>by rw[z,od] at hta;cases hta
   have hoke:=hw.sets e (al hi2)
   have hv:B3 (ds.map kR) (.inr e.1)=some (.ref ta):=Bm (D8 ed hw.2.2.1) (by rw[ak,hi];rfl)
   have nk:=Ow ee hi2 hw.2.2.1
   have les:es.length=i:=by
    have:=congrArg b9 ee
    rw[ae,aG] at this
    omega
   have ST:=Same.upd (o:=.tup [.int (i:Int),.str e.1]) hT
   refine⟨_,.inl (SqT.of Aa),rfl,?_⟩
   show Ae _ _ _ [some (.ref d),some (.ref l),some (.ref s),some (.int (i:Int)),some (.str e.1),v5,v6] (upd H1 T (.tup [.int (i:Int),.str e.1]))
   generalize upd H1 T (.tup [.int (i:Int),.str e.1])=H2 at ST ⊢
   have O2:=O1.up ST
   have f2:=ST _ _ f1
   have e2s:=ST _ _ e1s
   intro q hq
   have nqd:q≠d:=(Ai f2 hq).symm
   have nqs:q≠s:=(Ai e2s hq).symm
   have fq:H q=none:=O2.free nqd hq
   have Sq:=Same.upd (o:=.dK []) hq
   have eq:upd H2 q (.dK []) q=some (.dK []):=Aa
   refine .inl ?_
   show Cm K (Ab 2) (Ab 4) (.ref q) [some (.ref d),some (.ref l),some (.ref s),some (.int (i:Int)),some (.str e.1),v5,v6] (upd H2 q (.dK [])) _
   generalize upd H2 q (.dK [])=H3 at Sq eq ⊢
   refine⟨_,DPut.k (k:=.inr e.1) (Sq _ _ e2s) ?_,?_⟩
   .rw[ae]
    have:=hw.2.1
    exact a_ (show es.length<=5 by omega) (by decide)
   rw[Jr nk]
   have O4:Off d H (upd H3 s (.dK ((es++[(e,q)]).map kR))):=(O2.up Sq).set hs
   have f4:upd H3 s (.dK ((es++[(e,q)]).map kR)) d=some (.frz o (.dK (ds.map kR))):=by rw[Ad nds];exact Sq _ _ f2
   have e4s:upd H3 s (.dK ((es++[(e,q)]).map kR)) s=some (.dK ((es++[(e,q)]).map kR)):=Aa
   have e4q:upd H3 s (.dK ((es++[(e,q)]).map kR)) q=some (Ug (Aj sw) i (e.2.take 0)):=by rw[Ad nqs];exact eq
   have he4:∀ j x,es[j]? = some x->H x.2=none/\upd H3 s (.dK ((es++[(e,q)]).map kR)) x.2=some (Ug (Aj sw) j x.1.2)/\x.2≠q/\x.2≠s:=λj x hx=>by
    obtain⟨a1,a2⟩:=he j x hx
    have b1:=Ai (ST _ _ a2) hq
    have b2:x.2≠s:=λz=>by
     rw[z,e1s] at a2
     unfold Ug at a2
     have a3:es.map kR=x.1.2.map λz=>((.inr z:Key),V.int (C7 (Aj sw) j z)):=by injection (aH a2)
     have m1:kR x∈es.map kR:=cZ (al hx)
     rw[a3] at m1
     obtain⟨y,_,hy⟩:=List.mem_map.mp m1
     injection hy with _ hy
     cases hy
    refine⟨a1,?_,b1,b2⟩
    rw[Ad b2];exact Sq _ _ (ST _ _ a2)
   generalize upd H3 s (.dK ((es++[(e,q)]).map kR))=H4 at O4 f4 e4s e4q he4 ⊢
   have nd4:(((es++[(e,q)]).map kR).map (·.1)).Nodup:=D8 (Gq ee hi2) (by rw[i5];exact hw.2.2.1.sublist (d8 _ _))
   have hq4:B3 ((es++[(e,q)]).map kR) (.inr e.1)=some (.ref q):=Bm (i:=es.length) nd4 (by rw[ak,be (ah _),fA];rfl)
   refine⟨.ref ta,.inl ⟨_,.inr e.1,.inr ⟨o,f4⟩,rfl,hv.symm⟩,.inr (.inl ⟨⟨_,SqT.of (O4 _ _ nta hta)⟩,?_⟩)⟩
   refine Bg (ao5 (e.2.map V.str)) (λm U H'=>(∃ v5 v6,U=[some (.ref d),some (.ref l),some (.ref s),some (.int (i:Int)),some (.str e.1),v5,v6])/\Off d H H'/\H' d=some (.frz o (.dK (ds.map kR)))/\H' s=some (.dK ((es++[(e,q)]).map kR)) /\
     H' q=some (Ug (Aj sw) i (e.2.take m)) /\ ∀ j x,es[j]? = some x->H' x.2=some (Ug (Aj sw) j x.1.2))
    ⟨⟨_,_,rfl⟩,O4,f4,e4s,e4q,λj x hx=>(he4 j x hx).2.1⟩ (λm U H' _ q=>SqT.of (q.2.1 _ _ nta hta)) ?_ ?_
   .rintro m x U H5 hx ⟨⟨v5,v6,rfl⟩,O5,f5,e5s,e5q,he5⟩
    obtain⟨z,hz,rfl⟩:=Ak hx
    refine .inl ⟨⟨_,SqL.of (O5 _ _ nld ol)⟩,?_⟩
    refine a53 et (O5 _ _ nld ol) (λx hx=>O5 _ _ (λe=>by have:=(htp x hx).2;rw[e,od] at this;cases this) (htp x hx).2) (λr hr=>by rw[rlen r hr];exact hi') few λD H6 S6 hD eD=>?_
    refine⟨D,_,rfl,SqL.of eD,(λn hn=>?_),?_⟩
    .have:=Oi i z (Aj sw) 0 n hn
     omega
    show Cm K (Ah (A8 K) (Ab 2) (Ab 4)) (Ab 5) (.int (C7 (Aj sw) i z)) [some (.ref d),some (.ref l),some (.ref s),some (.int (i:Int)),some (.str e.1),some (.str z),some (.ref D)] H6 _
    refine⟨.ref q,.inl ⟨_,.inr e.1,.inl (S6 _ _ e5s),rfl,hq4.symm⟩,_,DPut.k (k:=.inr z) (S6 _ _ e5q) ?_,?_⟩
    .rw[ae,aG]
     have:=hoke.2.2
     exact a_ (show min m e.2.length<=4 by omega) (by decide)
    rw[Yp hz hoke.1.2.1]
    refine⟨⟨_,_,rfl⟩,(O5.up S6).set fq,?_,?_,Aa,λj x hx=>?_⟩
    .rw[Ad (cy nqd)];exact S6 _ _ f5
    .rw[Ad (cy nqs)];exact S6 _ _ e5s
    .rw[Ad (he4 j x hx).2.2.1];exact S6 _ _ (he5 j x hx)
   .rintro U H5 ⟨⟨v5,v6,rfl⟩,O5,f5,e5s,e5q,he5⟩
    rw[ae,aw] at e5q
    refine .inl ⟨⟨_,_,_,_,rfl⟩,O5,f5,es++[(e,q)],Gq ee hi2,e5s,λj x hx=>?_⟩
    by_cases hj:j<es.length
    .rw[bG hj] at hx
     exact⟨(he4 j x hx).1,he5 j x hx⟩
    .have hj2:=Al hx
     rw[aS] at hj2
     have hj3:j=es.length:=by have:[(e,q)].length=1:=rfl;omega
     subst hj3
     rw[be (ah _),fA] at hx
     have:(e,q)=x:=by simpa using hx
     subst this
     rw[les]
     exact⟨fq,e5q⟩
  .rintro U H1 ⟨⟨v3,v4,v5,v6,rfl⟩,O1,f1,es,ee,e1s,he⟩
   rw[len,aw] at ee
   refine .inr ⟨d,o,_,od1,f1,?_⟩
   refine k _ s (O1.thaw od) ⟨es,ee,⟨hs,?_⟩,λj x hx=>⟨(he j x hx).1,?_⟩⟩
   .rw[Ad (cy nds)];exact e1s
   .rw[Ad (λz=>by have:=(he j x hx).1;rw[z,od] at this;cases this)];exact (he j x hx).2
theorem Ft (l:List Str):(l.map V.str).all Bv=true:=by rw[gU,ba];exact λ_ _=>rfl
theorem Kw {sw:Sw} {i:Nat} {x:Str×List Str} (h:sw[i]? = some x) (nd:(sw.map (·.1)).Nodup):Ga sw x.1=i:=by
 have hi:=Al h
 have ex:sw[i]=x:=by rw[ag hi] at h;exact aH h
 unfold Ga
 rw[List.findIdx_eq hi]
 refine⟨by rw[ex];simp,λj hj=>?_⟩
 have hj2:j<sw.length:=by omega
 refine decide_eq_false λe=>?_
 have:=(cH (i:=j) (j:=i) (h₀:=by rw[ae];exact hj2) (h₁:=by rw[ae];exact hi) nd).mp (by rw[cR,cR,e,ex])
 omega
theorem R7 {rows:List (List Str)} {i:Nat} {l:List Str} {z:Str} (nd:l.Nodup) (h:z∈l):B3 (l.map λz=>((.inr z:Key),V.int (C7 rows i z))) (.inr z)=some (.int (C7 rows i z)):=by
 obtain⟨j,hj,e⟩:=List.mem_iff_getElem.mp h
 refine Bm (i:=j) ?_ ?_
 .rw[aI];exact Hy nd
 .rw[ak,ag hj,e];rfl
theorem a80 (Z:Am K t):OkD K Vq (Aw K t) bl (t.m_zby 8) (t.e_zby 8) (Up K t):=by
 refine okD (n:=40) (t:=bs5 K t) rfl (by decide +kernel) (by kernel_rfl) (λvs H Q E h=>?_) (λvs H Q E h=>?_)
 .obtain⟨p,a,l,s,wd,ss,sw,rfl,_⟩:=h;rfl
 .obtain⟨p,a,l,s,wd,ss,sw,rfl,⟨dx,fs,⟨_,hp⟩,hl,hs,hm⟩,⟨ds,ed,⟨_,os⟩,hd⟩,hw,ha,⟨ne,hL,x,hx,ex,hin⟩,k⟩:=h
  have ex:x.1=wd:=ex
  have ne:ss≠[]:=ne
  have hL:okL ss:=hL
  have hin:∀ z∈ss,z∈x.2:=hin
  subst ex
  obtain⟨i,hi2⟩:=List.mem_iff_getElem?.mp hx
  have hids:i<ds.length:=by have:=Al hi2;rw[<- ed,ae] at this;exact this
  obtain⟨⟨x',q⟩,hi⟩:∃ z,ds[i]? = some z:=⟨_,ag hids⟩
  have:x'=x:=by
   rw[<- ed,ak,hi] at hi2
   exact aH hi2
  subst this
  have oq:=(hd i _ hi).2
  have hok:=hw.sets x' hx
  have hv:B3 (ds.map kR) (.inr x'.1)=some (.ref q):=Bm (D8 ed hw.2.2.1) (by rw[ak,hi];rfl)
  have pl:=Kw hi2 hw.2.2.1
  have cl:=Z.pf.cl
  have na:NoAttr K t.c_zby "sets" := Z.pf.na _ (by simp)
  have gq:∀ {H'},Same H H'->DGet H' s (.str x'.1) (some (.ref q)):=λS=>.inl ⟨_,.inr x'.1,.inl (S _ _ os),rfl,hv.symm⟩
  refine⟨rfl,?_⟩
  refine cP ⟨_,_,_,_,hp,cl,na,hs,?_⟩
  refine .inr ⟨_,gq (Same.refl _),?_⟩
  refine⟨a,ss,rfl,SqL.of ha,hL,λH1 S1=>⟨by decide,λe he=>.inl ⟨a,e,_,_,rfl,rfl,(S1.trans (Same.upd he)).seqL (SqL.of ha),SqL.of Aa,Ft ss,rfl,De ?_ ?_⟩⟩⟩
  .exact C5 (by rw[ae];intro z;exact ne (List.length_eq_zero_iff.mp z))
  have S2:=S1.trans (Same.upd (o:=.lst []) he)
  generalize upd H1 e (.lst [])=H2 at S2 ⊢
  refine .inl ⟨⟨_,S2.seqL (SqL.of ha)⟩,?_⟩
  refine Qm (K:=K) (U:=[none,some (.ref p),some (.str x'.1)]) (Ap (ss.map V.str)) (λU=>∃ v,U=[v,some (.ref p),some (.str x'.1)]) (λH3 S3=>(S2.trans S3).seqL (SqL.of ha)) ?_ ⟨_,rfl⟩ (λU x ⟨v,e⟩=>⟨some x,by rw[e];rfl⟩) ?_ λD3 H3 S3 q3=>⟨_,q3,?_⟩
  .rw[ae];exact a_ hL.2.2 (by decide)
  .rintro y U H3 Q1 hy ⟨v,rfl⟩ S3 q1
   obtain⟨z,hz,rfl⟩:=List.mem_map.mp hy
   have S:=S2.trans S3
   refine cP ⟨_,_,_,_,(S _ _ hp),cl,na,hs,⟨.ref q,gq S,.inr ⟨_,.inl ⟨_,.inr z,.inl (S _ _ oq),rfl,rfl⟩,?_⟩⟩⟩
   rw[R7 hok.1.2.1 (hin z hz)]
   exact q1 H3 (Same.refl _)
  .rw[V2]
   have S:=S2.trans S3
   refine .inl ⟨⟨_,S.seqL (SqL.of ha)⟩,λD hD=>?_⟩
   refine N8 (Ap (ss.map V.str)) (λU=>∃ v,U=[v,some (.ref p),some (.str x'.1)]) (λ_=>true) (λv=>match v with | .str z=>.int (C7 (Aj sw) i z)|_=>.non) hD (λH4 S4=>(S.trans S4).seqL (SqL.of ha)) ?_ ⟨_,rfl⟩ ?_ ?_
   .rw[ae];exact a_ hL.2.2 (by decide)
   .rintro y U H4 hy ⟨v,rfl⟩ S4 Fin Skip hF hK
    obtain⟨z,hz,rfl⟩:=List.mem_map.mp hy
    have S5:=S.trans S4
    refine (cP ⟨_,_,_,_,(S5 _ _ hp),cl,na,hs,⟨.ref q,gq S5,.int (C7 (Aj sw) i z),.inl ⟨_,.inr z,.inl (S5 _ _ oq),rfl,?_⟩,?_⟩⟩)
    .rw[R7 hok.1.2.1 (hin z hz)]
    .exact hF _ _ _ ⟨_,rfl⟩ (Same.refl _) rfl rfl
   .intro H4 S4 eD
    refine⟨D,ss.map (C7 (Aj sw) i),rfl,SqL.of (eD.trans ?_),?_⟩
    .rw[List.filter_eq_self.mpr (λ_ _=>rfl),aI,aI];rfl
    .have:=k H4 (S.trans S4)
     unfold Iw at this
     rw[pl] at this
     exact this
theorem a88 (Z:Am K t):OkD K Vs (Aw K t) bl (t.m_zby 2) (t.e_zby 2) (Uu K t):=by
 refine okD (n:=40) (t:=bt3 K t) rfl (by decide +kernel) (by kernel_rfl) (λvs H Q E h=>?_) (λvs H Q E h=>?_)
 .obtain⟨p,r,l,s,sw,rule,rfl,_⟩:=h;rfl
 .obtain⟨p,r,l,s,sw,rule,rfl,hs,ht,hse,hw,⟨ds,ed,⟨_,od⟩,hd⟩,hr,k⟩:=h
  obtain⟨dx,fs,⟨np,hp⟩,_,_,hm⟩:=id hs
  have len:ds.length=rule.length:=by rw[<- ed];simp
  refine⟨_,true,.of (.dK od),rfl,⟨p,dx,fs,⟨t.c_zby,a56 K t⟩,rfl,.head _,hp,hm _ (by decide),⟨aF rfl,aF rfl⟩,p,l,s,sw,rfl,hs.mono Kp.any,ht.mono Kp.any,hw.len,?_⟩⟩
  refine .inr (.inr (.inl (.inl ⟨_,od,λo=>?_⟩)))
  have kf:Kp (· ≠ r) H (· ≠ r) (upd H r (.frz o (.dK (ds.map kR)))):=Kp.off (λe=>e rfl)
  have ef:upd H r (.frz o (.dK (ds.map kR))) r=some (.frz o (.dK (ds.map kR))):=Aa
  have hd2:∀ x∈ds,upd H r (.frz o (.dK (ds.map kR))) x.2=some (Au x.1.2):=λx hx=>by
   rw[Ad (λe=>by have:=(hd x hx).2;rw[e,od] at this;cases this)]
   exact (hd x hx).2
  show F0 (Itd r o (ds.map kR)) _ _ _ [some (.ref p),some (.ref r),some (.int (Ny sw)),none] _
  generalize hHf:upd H r (.frz o (.dK (ds.map kR)))=Hf at kf ef hd2 ⊢
  refine Bg (Fy (ds.map kR)) (λi U H'=>(∃ v3,U=[some (.ref p),some (.ref r),some (.int ((rule.take i).foldl (λc e=>bO c (Iw sw e)) (Ny sw))),v3])/\Same Hf H') ⟨⟨_,rfl⟩,Same.refl _⟩ (λi U H' _ q=>q.2 _ _ ef) ?_ ?_
  .rintro i x U H1 hx ⟨⟨v3,rfl⟩,S1⟩
   obtain⟨kv,hi0,rfl⟩:=Ak hx
   obtain⟨⟨e,la⟩,hi,rfl⟩:=Ak hi0
   have hi2:rule[i]? = some e:=by rw[<- ed,ak,hi];rfl
   have hv:B3 (ds.map kR) (.inr e.1)=some (.ref la):=Bm (D8 ed hr.1) hi0
   have kn:Kp (· ≠ r) H any H1:=(kf.trans (Kp.same S1)).trans Kp.any
   refine⟨p,dx,fs,⟨t.c_zby,a09 K t⟩,rfl,.head _,(kn _ _ ⟨np,hp⟩).2,hm _ (by decide),⟨aF rfl,aF rfl⟩,.ref la,.inl ⟨_,.inr e.1,.inr ⟨o,S1 _ _ ef⟩,rfl,hv.symm⟩,?_⟩
   refine⟨p,la,l,s,e.1,e.2,sw,rfl,hs.mono kn,hse.mono kn,hw,S1 _ _ (hd2 _ (al hi)),hr.2 e (al hi2),λH2 S2=>?_⟩
   exact⟨⟨_,congrArg (λz=>[some (V.ref p),some (V.ref r),some (V.int z),some (V.str e.1)]) (Cf hi2 (λc e=>bO c (Iw sw e)) (Ny sw)).symm⟩,S1.trans S2⟩
  .rintro U H1 ⟨⟨v3,rfl⟩,S1⟩
   rw[ae,ae,len,aw]
   exact .inr ⟨r,o,_,od,S1 _ _ ef,k _ (Same.thaw od (hHf▸S1))⟩
theorem bn3 (Z:Am K t):OkD K ap1 (Aw K t) bl (t.m_zby 5) (t.e_zby 5) (ak9 K t):=by
 refine okD (n:=40) (t:=b07 K t) rfl (by decide +kernel) (by kernel_rfl) (λvs H Q E h=>?_) (λvs H Q E h=>?_)
 .obtain⟨p,r,l,s,sw,rule,rfl,_⟩:=h;rfl
 .obtain⟨p,r,l,s,sw,rule,rfl,hs,ht,hse,hw,hrl,hr,k⟩:=h
  obtain⟨ds,ed,⟨_,od⟩,hd⟩:=id hrl
  obtain⟨dx,fs,⟨np,hp⟩,_,_,hm⟩:=id hs
  have len:ds.length=rule.length:=by rw[<- ed];simp
  have pos:0<rule.length:=List.length_pos_iff.mpr hr.1
  refine⟨_,true,.of (.dK od),rfl,(.inr ⟨_,.inl od,De ?_ ?_⟩)⟩
  .refine decide_eq_false λe=>?_
   rw[ae] at e
   omega
  refine⟨p,dx,fs,⟨t.c_zby,ac4 K t⟩,rfl,.head _,hp,hm _ (by decide),⟨aF rfl,aF rfl⟩,p,r,l,s,sw,rule,rfl,hs,ht,hse,hw,hrl,⟨hr.2.2.1,hr.2.2.2⟩,λH1 S1=>?_⟩
  exact⟨r,rule,rfl,hrl.mono (Kp.same S1),hr.2.2.1,hr.2.1,λH2 c S2 R2=>k H2 c (S1.trans S2) (R2.mono (Kp.fresh S1))⟩
theorem bn0 (Z:Am K t):OkD K ap0 (Aw K t) bl (t.m_zby 6) (t.e_zby 6) (ak7 K t):=by
 refine okD (n:=40) (t:=b04 K t) rfl (by decide +kernel) (by kernel_rfl) (λvs H Q E h=>?_) (λvs H Q E h=>?_)
 .obtain⟨p,l,s,ok,v,sw,rules,rfl,_⟩:=h;rfl
 .obtain⟨p,l,s,ok,v,sw,rules,rfl,hs,ht,hse,hw,hv,hr,h8,k⟩:=h
  rcases hv with ⟨rfl,rfl⟩|⟨kk,rfl,ds,ed,⟨nk,ok1⟩,hd⟩
  .refine⟨by decide,λq hq=>k _ q (Same.upd hq) ⟨[],rfl,⟨hq,Aa⟩,λx hx=>by cases hx⟩⟩
  .obtain⟨dx,fs,⟨op,hp⟩,_,_,hm⟩:=id hs
   have len:(ds.map λx=>V.ref x.2).length=rules.length:=by rw[<- ed];simp
   refine⟨_,true,.sqL rfl (SqL.of ok1) rfl,rfl,(.inl ⟨_,.inl (SqL.of ok1),De ?_ ?_⟩)⟩
   .refine decide_eq_false λe=>?_
    rw[len] at e
    omega
   refine .inl ⟨⟨_,SqL.of ok1⟩,λD hD=>?_⟩
   refine Bq (Ap (ds.map λx=>V.ref x.2)) (λm U H'=>(∃ v,U=[v,some (.ref p)])/\Same H H' /\ ∃ fs:List (Sw×Addr),fs.map (·.1)=rules.take m/\H' D=some (.lst (fs.map λx=>.ref x.2)) /\ ∀ x∈fs,RuleAt (λa=>H a=none/\a≠D) H' x.2 x.1)
    ⟨⟨_,rfl⟩,Same.upd hD,[],rfl,Aa,λx hx=>by cases hx⟩ (λm U H' _ q=>q.2.1.seqL (SqL.of ok1)) ?_ ?_
   .rintro m x U H1 hx ⟨⟨v,rfl⟩,S1,gs,eg,eD,hg⟩
    obtain⟨⟨rule,r⟩,hm2,rfl⟩:=Ak hx
    have hm3:rules[m]? = some rule:=by rw[<- ed,ak,hm2];rfl
    have hrl:=hd _ (al hm2)
    have nr:¬ ok r:=by obtain⟨_,_,o,_⟩:=hrl;exact o.1
    have kw:Kp ok H (· ≠ r) H1:=(Kp.same S1).trans (Kp.weak λa h e=>nr (e▸h))
    refine⟨p,dx,fs,⟨t.c_zby,bk9 K t⟩,rfl,.head _,S1 _ _ hp,hm _ (by decide),⟨aF rfl,aF rfl⟩,p,r,l,s,sw,rule,rfl,hs.mono kw,ht.mono kw,hse.mono kw,hw,hrl.mono ((Kp.same S1).trans Kp.any),hr rule (al hm3),λH2 c S2 R2=>?_⟩
    have eD2:=S2 _ _ eD
    refine⟨_,eD2,?_,⟨_,rfl⟩,(S1.trans S2).set hD,gs++[(rule,c)],Gq eg hm3,?_,?_⟩
    .rw[ae]
     have:=Sy eg
     exact a_ (show gs.length<=8 by omega) (by decide)
    .rw[Aa,aq];rfl
    .have ko:Kp (λa=>H a=none/\a≠D) H2 (λa=>H a=none/\a≠D) (upd H2 D (.lst ((gs.map λx=>V.ref x.2)++[.ref c]))):=Kp.off (λe=>e.2 rfl)
     intro x hx
     rcases List.mem_append.mp hx with hx|hx
     .exact (hg x hx).mono ((Kp.same S2).trans ko)
     .have:x=(rule,c):=by simpa using hx
      subst this
      exact R2.mono ((Kp.weak λa h=>⟨S1.free h,(Ai eD h).symm⟩).trans ko)
   .rintro U H1 ⟨_,S1,gs,eg,eD,hg⟩
    rw[len,aw] at eg
    exact k H1 D S1 ⟨gs,eg,⟨hD,eD⟩,λx hx=>(hg x hx).mono (Kp.weak λa h=>h.1)⟩
theorem F7 {f:Str} {p C dx:Addr} {fs fs':List (Str×V)} {y:V} {H:Hp} {N:Hp->Prop} (hp:H p=some (.ins C dx fs)) (c:Cls K C) (n:NoAttr K C f) (l:fs.length<1000) (e:Dv f y fs=fs') (k:∀ H',(∀ b,b≠p->H' b=H b)->H' p=some (.ins C dx fs')->N H'):Wu K f (.ref p) y H N:=
 .inl ⟨C,dx,fs,hp,c,n,l,k _ (λb hb=>Ad hb) (by rw[Aa,e])⟩
theorem Kp.but {ok:Addr->Prop} {p:Addr} {H H':Hp} (h:∀ b,b≠p->H' b=H b) (n:¬ ok p):Kp ok H ok H':=λa o q=>⟨q.1,by rw[h a (λe=>n (e▸q.1))];exact q.2⟩
theorem Off.but {p:Addr} {H H1 H2:Hp} (h:Off p H H1) (e:∀ b,b≠p->H2 b=H1 b):Off p H H2:=λb u n q=>by rw[e b n];exact h b u n q
theorem Off.fr {p:Addr} {u:HO} {H H1:Hp} (h:Off p H H1) (e:H1 p=some u):∀ b,H1 b=none->H b=none:=λb q=>h.free (λz=>by rw[z,e] at q;cases q) q
structure Pc (ok:Addr->Prop) (H:Hp) (d l n s:Addr) (sw:Sw):Prop where
 sws:SwAt ok H d sw
 tps:TupsAt ok H l (Aj sw)
 nms:NumAt ok H n (Aj sw)
 sts:SetsAt ok H s sw
theorem Pc.mono {ok ok':Addr->Prop} {H H':Hp} {d l n s:Addr} {sw:Sw} (h:Pc ok H d l n s sw) (k:Kp ok H ok' H'):Pc ok' H' d l n s sw:=⟨h.sws.mono k,h.tps.mono k,h.nms.mono k,h.sts.mono k⟩
noncomputable abbrev fl1 (d:Addr):List (Str×V):=[("settings", .ref d)]
noncomputable abbrev fl2 (d l:Addr):List (Str×V):=[("settings", .ref d),("tuples", .ref l)]
noncomputable abbrev fl3 (d l n:Addr):List (Str×V):=[("settings", .ref d),("tuples", .ref l),("numbers", .ref n)]
noncomputable abbrev fl4 (d l n s:Addr):List (Str×V):=[("settings", .ref d),("tuples", .ref l),("numbers", .ref n),("sets", .ref s)]
noncomputable abbrev fl5 (d l n s k:Addr):List (Str×V):=[("settings", .ref d),("tuples", .ref l),("numbers", .ref n),("sets", .ref s),("kept_rules", .ref k)]
noncomputable abbrev fl6 (d l n s k b:Addr):List (Str×V):=[("settings", .ref d),("tuples", .ref l),("numbers", .ref n),("sets", .ref s),("kept_rules", .ref k),("bars", .ref b)]
theorem Oy {fs:List (Str×V)} (h:fs.lookup ("all_choices" : Str)=none/\fs.lookup ("box" : Str)=none/\fs.lookup ("many" : Str)=none/\fs.lookup ("term" : Str)=none/\fs.lookup ("read_rule" : Str)=none/\fs.lookup ("read_rules" : Str)=none):∀ m∈(["all_choices", "box", "many", "term", "read_rule", "read_rules"]:List Str),fs.lookup m=none:=by
 intro m hm
 simp only[aE,cS,or_false] at hm
 rcases hm with rfl|rfl|rfl|rfl|rfl|rfl
 .exact h.1
 .exact h.2.1
 .exact h.2.2.1
 .exact h.2.2.2.1
 .exact h.2.2.2.2.1
 .exact h.2.2.2.2.2
theorem a78 (Z:Am K t):OkD K D_zaf (Aw K t) bl t.f_zaf t.d_zaf (aj9 K t):=by
 refine okD (n:=40) (t:=bs3 K t) rfl (by decide +kernel) (by kernel_rfl) (λvs H Q E h=>?_) (λvs H Q E h=>?_)
 .obtain⟨p,a,dx,v,sw,rules,rfl,_⟩:=h;rfl
 .obtain⟨p,a,dx,v,sw,rules,rfl,hp,hsw,hw,hrl,hr,h8,hf,k⟩:=h
  have cl:=Z.pf.cl
  have na:=Z.pf.na
  have nf:¬ fresh H p:=(Fw hp)
  refine⟨a,sw,rfl,hsw.mono Kp.any,hw,λH1 d S1 A1=>?_⟩
  refine F7 (S1 _ _ hp) cl (na _ (by simp)) (aF rfl) (fs':=fl1 d) rfl λH2 b2 p2=>?_
  have O2:Off p H H2:=λb u n e=>by rw[b2 b n];exact S1 _ _ e
  have A2:=A1.mono (Kp.but b2 nf)
  refine cP ⟨_,_,_,_,p2,cl,(na _ (by simp)),rfl,⟨d,sw,rfl,A2.mono Kp.any,hw,λH3 l S3 T3=>?_⟩⟩
  refine F7 (S3 _ _ p2) cl (na _ (by simp)) (aF rfl) (fs':=fl2 d l) rfl λH4 b4 p4=>?_
  have O4:=(O2.up S3).but b4
  have A4:=A2.mono ((Kp.same S3).trans (Kp.but b4 nf))
  have T4:=T3.mono ((Kp.weak (O2.fr p2)).trans (Kp.but b4 nf))
  refine cP ⟨_,_,_,_,p4,cl,(na _ (by simp)),rfl,⟨l,Aj sw,rfl,T4.mono Kp.any,(G7 hw.sets).1,hw.len,λH5 n S5 N5=>?_⟩⟩
  refine F7 (S5 _ _ p4) cl (na _ (by simp)) (aF rfl) (fs':=fl3 d l n) rfl λH6 b6 p6=>?_
  have O6:=(O4.up S5).but b6
  have A6:=A4.mono ((Kp.same S5).trans (Kp.but b6 nf))
  have T6:=T4.mono ((Kp.same S5).trans (Kp.but b6 nf))
  have N6:=N5.mono ((Kp.weak (O4.fr p4)).trans (Kp.but b6 nf))
  refine cP ⟨_,_,_,_,p6,cl,(na _ (by simp)),rfl,(cP ⟨_,_,_,_,p6,cl,(na _ (by simp)),rfl,⟨d,l,sw,rfl,A6.mono Kp.any,T6.mono Kp.any,hw,λH7 s S7 E7=>?_⟩⟩)⟩
  refine F7 (S7 _ _ p6) cl (na _ (by simp)) (aF rfl) (fs':=fl4 d l n s) rfl λH8 b8 p8=>?_
  have O8:=(O6.up S7).but b8
  have k78:=(Kp.same (ok:=fresh H) S7).trans (Kp.but b8 nf)
  have P8:Pc (fresh H) H8 d l n s sw:=⟨A6.mono k78,T6.mono k78,N6.mono k78,E7.mono ((Kp.weak (O6.fr p6)).trans (Kp.but b8 nf))⟩
  have P8':Pc (λb=>H b=none/\H8 b≠none) H8 d l n s sw:=P8.mono λb o q=>⟨⟨q.1,by rw[q.2];exact λz=>nomatch z⟩,q.2⟩
  have w8:Kp (fresh H) H8 (λb=>b=p\/H b=none) H8:=Kp.weak λb e=>.inr e
  have RI:Nx (λb=>¬ (b=p\/H b=none)) H8 v rules:=by
   rcases hrl with h|⟨kk,e,R⟩
   .exact .inl h
   .refine .inr ⟨kk,e,R.mono λb o q=>⟨λz=>?_,O8 _ _ q.1 q.2⟩⟩
    rcases z with z|z
    .exact q.1 z
    .have:=q.2;rw[z] at this;cases this
  refine⟨p,dx,_,⟨t.c_zby,bk8 K t⟩,rfl,.head _,p8,rfl,⟨aF rfl,aF rfl⟩,p,l,s,(λb=>b=p\/H b=none),v,sw,rules,rfl,⟨dx,_,⟨.inl rfl,p8⟩,rfl,rfl,Oy ⟨rfl,rfl,rfl,rfl,rfl,rfl⟩⟩,P8.tps.mono w8,P8.sts.mono w8,hw,RI,hr,h8,λH9 kk S9 R9=>?_⟩
  refine F7 (S9 _ _ p8) cl (na _ (by simp)) (aF rfl) (fs':=fl5 d l n s kk) rfl λH10 b10 p10=>?_
  have O10:=(O8.up S9).but b10
  have n8:¬ fresh H8 p:=(Fw p8)
  have R10:=R9.mono (Kp.but b10 n8)
  have P10:Pc (λb=>H b=none/\H8 b≠none) H10 d l n s sw:=P8'.mono ((Kp.same S9).trans (Kp.but b10 (λe=>nf e.1)))
  obtain⟨rs,er,⟨fk,ok⟩,hrs⟩:=id R10
  have lenr:(rs.map λx=>V.ref x.2).length=rules.length:=by rw[<- er];simp
  refine cP ⟨_,_,_,_,p10,cl,(na _ (by simp)),rfl,(.inl ⟨⟨_,SqL.of ok⟩,λD hD=>?_⟩)⟩
  have fD:H D=none:=O10.fr p10 D hD
  refine Bq (Ap (rs.map λx=>V.ref x.2)) (λm U H'=>(∃ v,U=[v,some (.ref p)])/\Same H10 H'/\H' D=some (.lst ((Ik sw (rules.take m)).map V.int))) ⟨⟨_,rfl⟩,Same.upd hD,Aa⟩ (λm U H' _ q=>q.2.1.seqL (SqL.of ok)) ?_ ?_
  .rintro m x U H11 hx ⟨⟨v,rfl⟩,S11,eD⟩
   obtain⟨⟨rule,r⟩,hm2,rfl⟩:=Ak hx
   have hm3:rules[m]? = some rule:=by rw[<- er,ak,hm2];rfl
   have hrl2:=hrs _ (al hm2)
   have nr:H8 r=none:=by obtain⟨_,_,o,_⟩:=hrl2;exact o.1
   have npr:p≠r:=Ai p8 nr
   have kw:Kp (λb=>H b=none/\H8 b≠none) H10 (· ≠ r) H11:=(Kp.same S11).trans (Kp.weak λb h e=>h.2 (e▸nr))
   refine⟨p,dx,_,⟨t.c_zby,ac4 K t⟩,rfl,.head _,S11 _ _ p10,rfl,⟨aF rfl,aF rfl⟩,p,r,l,s,sw,rule,rfl,⟨dx,_,⟨npr,S11 _ _ p10⟩,rfl,rfl,Oy ⟨rfl,rfl,rfl,rfl,rfl,rfl⟩⟩,P10.tps.mono kw,P10.sts.mono kw,hw,hrl2.mono ((Kp.same S11).trans Kp.any),(hr rule (al hm3)).2.2,λH12 S12=>?_⟩
   refine⟨_,S12 _ _ eD,?_,⟨_,rfl⟩,(S11.trans S12).set hD,?_⟩
   .rw[ae]
    unfold Ik
    rw[ae,aG]
    exact a_ (show min m rules.length<=8 by omega) (by decide)
   .rw[Aa]
    unfold Ik
    rw[By hm3,aq]
    rfl
  rintro U H11 ⟨_,S11,eD⟩
  rw[lenr,aw] at eD
  refine F7 (S11 _ _ p10) cl (na _ (by simp)) (aF rfl) (fs':=fl6 d l n s kk D) rfl λH12 b12 p12=>?_
  have O12:=(O10.up S11).but b12
  have nDp:D≠p:=(Ai p10 hD).symm
  have B12:H12 D=some (.lst ((Ik sw rules).map V.int)):=by rw[b12 D nDp];exact eD
  have k12:∀ {ok:Addr->Prop},¬ ok p->Kp ok H10 ok H12:=λh=>(Kp.same S11).trans (Kp.but b12 h)
  have P12:=P10.mono (k12 λe=>nf e.1)
  have R12:=R10.mono (k12 n8)
  refine⟨p,dx,_,⟨t.c_zby,a56 K t⟩,rfl,.head _,p12,rfl,⟨aF rfl,aF rfl⟩,p,l,s,sw,rfl,⟨dx,_,⟨trivial,p12⟩,rfl,rfl,Oy ⟨rfl,rfl,rfl,rfl,rfl,rfl⟩⟩,P12.tps.mono Kp.any,hw.len,cP ⟨_,_,_,_,p12,cl,(na _ (by simp)),rfl,⟨D,Ik sw rules,rfl,SqL.of B12,?_⟩⟩⟩
  refine F7 p12 cl (na _ (by simp)) (aF rfl) (fs':=bk4 d l n s kk D (Kb sw rules)) rfl λH14 b14 p14=>?_
  refine cP ⟨_,_,_,_,p14,cl,(na _ (by simp)),rfl,(De (decide_eq_false hf) ?_)⟩
  have kk14:∀ {ok:Addr->Prop},¬ ok p->(∀ b,ok b->H b=none)->Kp ok H12 (λb=>b=p\/H b=none) H14:=λh g=>(Kp.but b14 h).trans (Kp.weak λb e=>.inr (g b e))
  have P14:=P12.mono (kk14 (λe=>nf e.1) λb e=>e.1)
  refine k H14 ((O12.but b14)) ⟨dx,d,l,n,s,kk,D,⟨.inl rfl,p14⟩,P14.sws,P14.tps,P14.nms,P14.sts,R12.mono (kk14 n8 (O8.fr p8)),⟨.inr fD,?_⟩⟩
  rw[b14 D nDp];exact B12
end
theorem Z5 {a b:Bool} {A B:Prop} (hB:¬ (a=true/\b=true)->B) (hA:a=true->b=true->A):if a=true then (if b=true then A else B) else B:=by
 cases a with
 |false=>exact hB λz=>by cases z.1
 | true=>cases b with
  |false=>exact hB λz=>by cases z.2
  |true=>exact hA rfl rfl
theorem aq7 {a b c:Bool} {A B:Prop} (hB:¬ (a=true/\b=true/\c=true)->B) (hA:a=true->b=true->c=true->A):if a=true then (if b=true then (if c=true then A else B) else B) else B:=by
 cases a with
 |false=>exact hB λz=>by cases z.1
 |true=>exact Ol (Z5 (λz=>hB λy=>z y.2) (hA rfl))
noncomputable def NL (H H':Hp):Prop:=∀ a o,(∀ l,o≠.lst l)->H a=some o->H' a=some o
theorem NL.same {H H':Hp} (S:Same H H'):NL H H':=λa o _ e=>S a o e
theorem NL.tup {H H':Hp} (S:NL H H'):∀ b ys,H b=some (.tup ys)->H' b=some (.tup ys):=λb ys=>S b _ λ_ z=>by cases z
theorem NL.upd {H:Hp} {D:Addr} {l m:List V} (h:H D=some (.lst l)):NL H (upd H D (.lst m)):=λa o n e=>by rw[Ad λz=>by rw[z,h] at e;cases e;exact n _ rfl];exact e
theorem Gm {J:It} {its:List V} {ok:Hp->Prop} {te:DE} {rest:St} {H:Hp} {R:Hp->Addr->Prop} {E:EK} {P:Nat->V->Hp->Prop} (up:∀ i v H1 H2,NL H1 H2->P i v H1->P i v H2) (Y:Cp J its ok) (hok:∀ H1,Same H H1->ok H1) (hn:its.length<=1000)
  (he:∀ i x H1 Q1,its[i]? = some x->Same H H1->(∀ v H2,Same H1 H2->P i v H2->Q1 v H2)->te (some x::rest) H1 Q1 E) (k:∀ D H' vs,Same H H'->H D=none->H' D=some (.lst vs)->vs.length=its.length->(∀ (i:Nat) v,vs[i]? = some v->P i v H')->R H' D) :
  ∀ D,H D=none->E8 J (gdN 0) Cc te D (λH'=>R H' D) (none::rest) (upd H D (.lst [])) E:=by
 intro D hD
 refine Bq Y (λi U H'=>(∃ v,U=v::rest)/\Same H H' /\ ∃ vs:List V,H' D=some (.lst vs)/\vs.length=i /\ ∀ (i:Nat) v,vs[i]? = some v->P i v H') ⟨⟨_,rfl⟩,Same.upd hD,[],Aa,rfl,λi v h=>by simp at h⟩ (λ_ _ H' _ q=>hok H' q.2.1) ?_ ?_
 .rintro i x U H1 hx ⟨⟨v,rfl⟩,S1,vs,eD,lv,hv⟩
  have hi:=Al hx
  have big:(1000:Nat)<sizeLine:=by decide
  refine he i x H1 _ hx S1 λv H2 S2 pv=>⟨vs,S2 _ _ eD,by omega,⟨_,rfl⟩,(S1.trans S2).set hD,vs++[v],Aa,by rw[aS,lv];rfl,λj u hj=>?_⟩
  have nl:=NL.upd (m:=vs++[v]) (S2 _ _ eD)
  by_cases hj2:j<vs.length
  .rw[bG hj2] at hj
   exact up _ _ _ _ nl (up _ _ _ _ (NL.same S2) (hv j u hj))
  .have hj3:=Al hj
   rw[aS] at hj3
   have hj4:j=vs.length:=by have:j<vs.length+1:=hj3;omega
   subst hj4
   rw[be (ah _),fA] at hj
   cases hj
   rw[lv]
   exact up _ _ _ _ nl pv
 .rintro U H1 ⟨_,S1,vs,eD,lv,hv⟩
  exact k D H1 vs S1 hD eD lv hv
theorem F6 {J:It} {its:List V} {ok:Hp->Prop} {te:DE} {rest:St} {H:Hp} {R:Hp->Addr->Prop} {E:EK} {f:Nat->V} (Y:Cp J its ok) (hok:∀ H1,Same H H1->ok H1) (hn:its.length<=1000)
  (he:∀ i x H1 Q1,its[i]? = some x->Same H H1->(∀ H2,Same H1 H2->Q1 (f i) H2)->te (some x::rest) H1 Q1 E) (k:∀ D H',Same H H'->H D=none->H' D=some (.lst ((ay its.length).map f))->R H' D) :
  ∀ D,H D=none->E8 J (gdN 0) Cc te D (λH'=>R H' D) (none::rest) (upd H D (.lst [])) E:=
 Gm (P:=λi v _=>v=f i) (λ_ _ _ _ _ h=>h) Y hok hn (λi x H1 Q1 hx S q=>he i x H1 Q1 hx S λH2 S2=>q _ H2 S2 rfl) λD H' vs S hD eD lv hv=>k D H' S hD (by
  rw[eD]
  congr 2
  refine gI λi=>?_
  rw[ak]
  by_cases hi:i<its.length
  .rw[cY hi,ag (by omega)]
   exact congrArg some (hv i _ (ag (by omega)))
  .rw[bH (by omega),bH (by rw[aV];omega)]
   rfl)
section
variable {P:aX} {w:bB} {K:ac} {mg:Str->Option ai} {base:Heap} {t:Adr}
theorem ba5 (Z:Am K t):OkD K Zn (Aw K t) bl (t.f 5) (t.d 5) (Dz K t):=by
 refine okD (n:=40) (t:=bu9 K t) rfl (by decide +kernel) (by kernel_rfl) (λvs H Q E h=>?_) (λvs H Q E h=>?_)
 .obtain⟨a,ns,k,rfl,_⟩:=h;rfl
 .obtain⟨a,ns,k,rfl,hS,q⟩:=h
  refine .inl ⟨_,.inl hS,?_⟩
  refine Eu (λe=>?_) (λe=>?_)
  .have e:(k:Int)<((ns.map V.int).length:Int):=by simpa using e
   have hk:k<ns.length:=by rw[ae] at e;omega
   have:B9 ns k=ns[k]:=by unfold B9;rw[ar,ag hk];rfl
   rw[this] at q
   exact⟨_,_,.inl hS,Bn (j:=k) (by rw[ak,ag hk];rfl),q⟩
  .have e:¬ (k:Int)<((ns.map V.int).length:Int):=by simpa using e
   have hk:ns.length<=k:=by rw[ae] at e;omega
   have:B9 ns k=0:=by unfold B9;rw[ar,bH hk];rfl
   rw[this] at q
   exact q
theorem bb4 (Z:Am K t):OkD K Zw (Aw K t) bl (t.f 6) (t.d 6) (Be K t):=by
 refine okD (n:=40) (t:=bv8 K t) rfl (by decide +kernel) (by kernel_rfl) (λvs H Q E h=>?_) (λvs H Q E h=>?_)
 .obtain⟨c,k,rfl,_⟩:=h;rfl
 .obtain⟨c,k,rfl,hk,q⟩:=h
  unfold Bk at q
  refine⟨.inl ⟨by decide,by decide⟩,by omega,by decide,aq7 (λhn=>?_) (λe1 e2 e3=>?_)⟩
  .rw[if_neg (λz=>hn ⟨decide_eq_true z.1,by simp[z.2.1],by simp[z.2.2]⟩)] at q
   have b1:0<=(c+7919 * k) * 48271 % 2147483647/\(c+7919 * k) * 48271 % 2147483647<2147483647:=⟨dj _ (by decide),cA _ (by decide)⟩
   refine⟨.inl ⟨by decide,by decide⟩,.inr ⟨by decide,by decide⟩,by decide,?_⟩
   dsimp only at q
   generalize (c+7919 * k) * 48271 % 2147483647=n at b1 q ⊢
   have b2:0<=n * n % 2147483629/\n * n % 2147483629<2147483629:=⟨dj _ (by decide),cA _ (by decide)⟩
   refine⟨.inl ⟨by omega,by omega⟩,by decide,?_⟩
   generalize n * n % 2147483629=m at b2 q ⊢
   exact⟨.inl ⟨by omega,by omega⟩,by decide,⟨by decide,by decide⟩,q⟩
  .rw[if_pos ⟨of_decide_eq_true e1,by simpa using e2,by simpa using e3⟩] at q
   exact q
theorem Ev (l:List Nat):Txt.join (cU "") (l.map λk=>(⟨#[k]⟩:Str))=⟨l.toArray⟩:=by
 show Builtin.Str.glued (cU "") _=_
 rw[StrLaws.glued_eq_join,show cU "" = (⟨#[]⟩:Str) from by decide +kernel]
 exact PyProof.Rows.join_ones l
theorem Fj (l:List Nat):((l.map λk=>(⟨#[k]⟩:Str)).map (·.length)).sum+(l.map λk=>(⟨#[k]⟩:Str)).length * (cU "").length=l.length:=by
 rw[show (cU "").length=0 from by decide +kernel,Nat.mul_zero,Nat.add_zero]
 induction l with
 |nil=>rfl
 |cons a l ih=>rw[aP,aP,kz,ih,aO,show (⟨#[a]⟩:Str).length=1 from rfl,lg]
noncomputable def sgC (sg:Str) (x:Int):Nat:=sg.cps.toList.getD (x % (sg.length:Int)).toNat 0
theorem aj6 {sg:Str} (x:Int) (h:1<=sg.length):atI sg.cps.toList (x % (sg.length:Int))=some (sgC sg x):=by
 have h0:=dj x (show (sg.length:Int)≠0 by omega)
 have h1:=cA x (show 0<(sg.length:Int) by omega)
 have e:x % (sg.length:Int)=(((x % (sg.length:Int)).toNat:Nat):Int):=by omega
 have hl:(x % (sg.length:Int)).toNat<sg.cps.toList.length:=by rw[G9];omega
 unfold sgC
 rw[e,aT]
 exact Bn (by rw[ar,ag hl];rfl)
theorem W2 {sg:Str} (x:Int) (h:1<=sg.length):sgC sg x∈sg.cps.toList:=by
 have h1:=cA x (show 0<(sg.length:Int) by omega)
 have hl:(x % (sg.length:Int)).toNat<sg.cps.toList.length:=by
  rw[G9]
  have h0:=dj x (show (sg.length:Int)≠0 by omega)
  omega
 unfold sgC
 rw[ar,ag hl]
 exact bY hl
theorem ay0 {sg:Str} {x:Int} {i j:Nat} (nd:sg.cps.toList.Nodup) (hi:i<sg.length) (hj:j<sg.length) (e:sgC sg (x+i)=sgC sg (x+j)):i=j:=by
 have hp:0<(sg.length:Int):=by omega
 have a0:=dj (x+i) (show (sg.length:Int)≠0 by omega)
 have a1:=cA (x+i) hp
 have b0:=dj (x+j) (show (sg.length:Int)≠0 by omega)
 have b1:=cA (x+j) hp
 unfold sgC at e
 have l1:((x+i) % (sg.length:Int)).toNat<sg.cps.toList.length:=by rw[G9];omega
 have l2:((x+j) % (sg.length:Int)).toNat<sg.cps.toList.length:=by rw[G9];omega
 rw[ar,ar,ag l1,ag l2] at e
 have e2:=(cH nd).mp (show _=_ from e)
 have e3:(x+i) % (sg.length:Int)=(x+j) % (sg.length:Int):=by omega
 have e4:=Int.emod_emod_of_dvd (m:=(sg.length:Int)) (k:=(sg.length:Int))
 have d1:=jw (x+i) (sg.length:Int)
 have d2:=jw (x+j) (sg.length:Int)
 rw[e3] at d1
 generalize (x+i) / (sg.length:Int)=q1 at d1
 generalize (x+j) / (sg.length:Int)=q2 at d2
 have d3:(sg.length:Int) * q1 - (sg.length:Int) * q2=(i:Int) - j:=by omega
 rw[<- Int.mul_sub] at d3
 have:q1 - q2=0:=by
  by_cases z:q1 - q2=0
  .exact z
  .exfalso
   have:1<=q1 - q2\/q1 - q2 <= -1:=by omega
   rcases this with z|z
   .have:=gZ z (Int.le_of_lt hp);omega
   .have:=gZ z (Int.le_of_lt hp);omega
 rw[this,Int.mul_zero] at d3
 omega
noncomputable def wA (g:Nat->Nat) (lo k:Nat):Str:=⟨(((ay lo).map g).take (lo - k)).toArray⟩
noncomputable def wB (g:Nat->Nat) (n:Nat):Str:=⟨((ay n).map g).toArray⟩
theorem Vk (g:Nat->Nat) (lo k:Nat):(wA g lo k).length=lo - k:=by
 show (((ay lo).map g).take (lo - k)).toArray.size=_
 rw[ax,aG,ae,aV]
 omega
theorem Qf (g:Nat->Nat) (n:Nat):(wB g n).length=n:=by
 show ((ay n).map g).toArray.size=_
 rw[ax,ae,aV]
theorem Q7 {α:Type} {f:Nat->α} {m:Nat} (h:∀ i j,i<m->j<m->f i=f j->i=j):((ay m).map f).Nodup:=by
 refine List.pairwise_iff_getElem.mpr λi j hi hj hij=>?_
 rw[ae,aV] at hi hj
 rw[cR,cR,ky,ky]
 intro e
 have:=h i j hi hj e
 omega
theorem Pm (g:Nat->Nat) (n:Nat):(ay n).map (λj=>V.str ⟨#[g j]⟩)=(((ay n).map g).map λc=>(⟨#[c]⟩:Str)).map V.str:=by rw[aI,aI];rfl
theorem a98 (Z:Am K t):OkD K Zh (Aw K t) bl (t.f 8) (t.d 8) (K2 K t):=by
 refine okD (n:=40) (t:=bu2 K t) rfl (by decide +kernel) (by kernel_rfl) (λvs H Q E h=>?_) (λvs H Q E h=>?_)
 .obtain⟨c,sg,lo,m,rfl,_⟩:=h;rfl
 .obtain⟨c,sg,lo,m,rfl,h1,h12,hm,s1,s100,nd,k⟩:=h
  have big:(1000:Nat)<sizeLine:=by decide
  refine⟨c,1,rfl,by decide,by decide,Z5 (λ_=>?_) (λ_ e2=>?_)⟩
  .have b1:1<=1+Bk c 20 % (lo:Int)/\1+Bk c 20 % (lo:Int)<=lo:=by
    have:=dj (Bk c 20) (show (lo:Int)≠0 by omega)
    have:=cA (Bk c 20) (show 0<(lo:Int) by omega)
    omega
   refine⟨c,20,rfl,by decide,by omega,c,21,rfl,by decide,by omega,by decide,λD hD=>⟨⟨by omega,by omega⟩,?_⟩⟩
   show F0 (Itr 0 ((m:Int)).toNat) _ _ _ [some (.int c),some (.str sg),some (.int (lo:Int)),some (.int (m:Int)),none,none,some (.int (1+Bk c 20 % (lo:Int))),some (.int (Bk c 21 % (1+Bk c 20 % (lo:Int)))),some (.ref D),none] _
   obtain⟨n,en⟩:∃ n:Nat,1+Bk c 20 % (lo:Int)=(n:Int):=⟨(1+Bk c 20 % (lo:Int)).toNat,by omega⟩
   rw[en] at b1 ⊢
   have b2:0<=Bk c 21 % (n:Int)/\Bk c 21 % (n:Int)<n:=⟨dj _ (by omega),cA _ (by omega)⟩
   obtain⟨a,ea⟩:∃ a:Nat,Bk c 21 % (n:Int)=(a:Int):=⟨(Bk c 21 % (n:Int)).toNat,by omega⟩
   rw[ea] at b2 ⊢
   let gB:Nat->Nat->Nat:=λi j=>sgC sg (Bk c (22+(j:Int))+(i:Int) * (if decide ((j:Int)=(a:Int))=true then 1 else 0))
   rw[aT]
   refine Bg (Bp 0 m) (λi U H'=>(∃ v5 v9,U=[some (.int c),some (.str sg),some (.int (lo:Int)),some (.int (m:Int)),none,v5,some (.int (n:Int)),some (.int (a:Int)),some (.ref D),v9])/\Same H H'/\H' D=some (Au ((ay i).map λi=>wB (gB i) n))) ⟨⟨_,_,rfl⟩,Same.upd hD,Aa⟩ (λ_ _ _ _ _=>aR) ?_ ?_
   .rintro i x U H2 hx ⟨⟨v5,v9,rfl⟩,S2,eL⟩
    obtain⟨hi,rfl⟩:=Cv hx
    refine⟨⟨by omega,by omega⟩,?_⟩
    show ∀ D,H2 D=none->E8 (Itr 0 ((n:Int)).toNat) _ _ _ D _ _ _ _
    rw[aT]
    refine F6 (f:=λj=>.int (Bk c (22+(j:Int))+(i:Int) * (if decide ((j:Int)=(a:Int))=true then 1 else 0))) (rest:=[some (.int (a:Int)),some (.int c),some (.int (i:Int))]) (Bp 0 n) (λ_ _=>aR) (by rw[A7];omega) (λj x H3 Q1 hj _ q=>?_) λD1 H3 S3 hD1 eD1=>?_
    .obtain⟨hj,rfl⟩:=Cv hj
     exact⟨c,22+(j:Int),rfl,by omega,.inl ⟨by omega,by omega⟩,q _ (Same.refl _)⟩
    .rw[A7] at eD1
     refine⟨.inl ⟨rfl,_,SqL.of (S3 _ _ eL)⟩,rfl,.inl ⟨⟨_,SqL.of eD1⟩,?_⟩⟩
     refine F6 (f:=λj=>.str ⟨#[gB i j]⟩) (rest:=[some (.str sg)]) (Ap _) (λH4 S4=>S4.seqL (SqL.of eD1)) (by rw[ae,aV];omega) (λj x H4 Q1 hj _ q=>?_) λD2 H4 S4 hD2 eD2=>?_
     .obtain⟨j',hj',rfl⟩:=Ak hj
      obtain rfl:j'=j:=by
       have:=Al hj'
       rw[aV] at this
       rw[cY this] at hj'
       exact (aH hj').symm
      exact⟨by omega,by omega,by omega,_,aj6 _ s1,q _ (Same.refl _)⟩
     .rw[ae,aV,Pm] at eD2
      have S34:=S3.trans S4
      refine⟨_,D2,_,rfl,rfl,.inl (SqL.of eD2),?_,?_⟩
      .rw[Fj,ae,aV];omega
      rw[Ev]
      refine⟨D,_,_,rfl,rfl,S34 _ _ eL,?_,⟨_,_,rfl⟩,(S2.trans S34).set hD,?_⟩
      .rw[ae,ae,aV]
       omega
      .rw[Aa,Au,fw,aq,aq]
       rfl
   .rintro U H2 ⟨⟨v5,v9,rfl⟩,S2,eL⟩
    rw[A7] at eL
    refine .inl (k H2 D _ S2 hD eL (by simp) ⟨Q7 λi j hi hj e=>?_,λz hz=>?_⟩)
    .have h:(ay n).map (gB i)=(ay n).map (gB j):=congrArg (λz:Str=>z.cps.toList) e
     have h2:=congrArg (λl:List Nat=>l[a]?) h
     have ha:a<n:=by omega
     simp only[ak,cY ha,fB,fJ] at h2
     have h3:sgC sg (Bk c (22+(a:Int))+(i:Int))=sgC sg (Bk c (22+(a:Int))+(j:Int)):=by
      have e1:∀ x:Nat,gB x a=sgC sg (Bk c (22+(a:Int))+(x:Int)):=λx=>by
       show sgC sg (_+(x:Int) * (if decide ((a:Int)=(a:Int))=true then 1 else 0))=_
       rw[decide_eq_true rfl,if_pos rfl,Int.mul_one]
      rw[<- e1,<- e1];exact h2
     exact ay0 nd (by omega) (by omega) h3
    .obtain⟨i,_,rfl⟩:=List.mem_map.mp hz
     rw[Qf]
     refine⟨by omega,by omega,λx hx=>?_⟩
     have hx:x∈(ay n).map (gB i):=hx
     obtain⟨j,_,rfl⟩:=List.mem_map.mp hx
     exact W2 _ s1
  .have e2:m<=lo:=by
    have e2:(m:Int)<=(lo:Int):=of_decide_eq_true e2
    omega
   let gA:Nat->Nat:=λj=>sgC sg (Bk c (2+(j:Int)))
   refine⟨rfl,⟨by omega,by omega⟩,?_⟩
   show ∀ D,H D=none->E8 (Itr 0 ((lo:Int)).toNat) _ _ _ D _ _ _ _
   rw[aT]
   refine F6 (f:=λj=>.str ⟨#[gA j]⟩) (rest:=[some (.int c),some (.str sg)]) (Bp 0 lo) (λ_ _=>aR) (by rw[A7];omega) (λj x H2 Q1 hj _ q=>?_) λD H2 S2 hD eD=>?_
   .obtain⟨hj,rfl⟩:=Cv hj
    exact⟨c,2+(j:Int),rfl,by omega,by omega,by omega,by omega,_,aj6 _ s1,q _ (Same.refl _)⟩
   .rw[A7,Pm] at eD
    refine⟨_,D,_,rfl,rfl,.inl (SqL.of eD),?_,?_⟩
    .rw[Fj,ae,aV];omega
    rw[Ev]
    refine⟨⟨by omega,by omega⟩,?_⟩
    show ∀ D,H2 D=none->E8 (Itr 0 ((m:Int)).toNat) _ _ _ D _ _ _ _
    rw[aT]
    refine F6 (f:=λk=>.str (wA gA lo k)) (rest:=[some (.int (lo:Int)),some (.str ⟨((ay lo).map gA).toArray⟩)]) (Bp 0 m) (λ_ _=>aR) (by rw[A7];omega) (λj x H3 Q1 hj _ q=>?_) λD3 H3 S3 hD3 eD3=>?_
    .obtain⟨hj,rfl⟩:=Cv hj
     have es:Txt.slice ⟨((ay lo).map gA).toArray⟩ none (some ((lo:Int) - (j:Int)))=wA gA lo j:=by
      have hl:((⟨((ay lo).map gA).toArray⟩:Str).length:Int)=lo:=by
       have:=Qf gA lo
       unfold wB at this
       rw[this]
      have e:=cQ (PyProof.Rows.slice_closes_to (x:=⟨((ay lo).map gA).toArray⟩) (j:=(lo:Int) - (j:Int)) ⟨by omega,by rw[G9,hl];omega⟩)
      rw[e,Int.sub_zero,show ((lo:Int) - (j:Int)).toNat=lo - j by omega]
      unfold wA
      simp
     refine⟨?_,?_⟩
     .have:=Qf gA lo
      unfold wB at this
      rw[this]
      omega
     .rw[es];exact q _ (Same.refl _)
    .rw[A7] at eD3
     refine k H3 D3 ((ay m).map (wA gA lo)) (S2.trans S3) (S2.free hD3) (by rw[eD3,Au,aI];rfl) (by simp) ⟨Q7 λi j hi hj e=>?_,λz hz=>?_⟩
     .have h:=congrArg Str.length e
      rw[Vk,Vk] at h
      omega
     .obtain⟨i,hi,rfl⟩:=List.mem_map.mp hz
      have hi:=List.mem_range.mp hi
      rw[Vk]
      refine⟨by omega,by omega,λx hx=>?_⟩
      have hx:x∈((ay lo).map gA).take (lo - i):=hx
      obtain⟨j,_,rfl⟩:=List.mem_map.mp (fO hx)
      exact W2 _ s1
theorem a95 (Z:Am K t):OkD K Ze (Aw K t) bl (t.f 17) (t.d 17) (U0 K t):=by
 refine okD (n:=40) (t:=bt9 K t) rfl (by decide +kernel) (by kernel_rfl) (λvs H Q E h=>?_) (λvs H Q E h=>?_)
 .obtain⟨c,m,rfl,_⟩:=h;rfl
 .obtain⟨c,m,rfl,hm,k⟩:=h
  have l37:(cU "abcdefghijklmnopqrstuvwxyz0123456789.").length=37:=by decide +kernel
  exact⟨c,_,12,m,rfl,by decide,by decide,by rw[l37];omega,by rw[l37];decide,by rw[l37];decide,by decide +kernel,λH' l ws S _ e hl hw=>k H' l ws S e hl hw.1⟩
theorem Qu {xs:List V} {i:Nat} {x y:V} (h:(Eg 0 xs)[i]? = some (x,y)):x=.int (i:Int)/\xs[i]? = some y:=by
 have hi:=Al h
 rw[Bo] at hi
 have:=Cr (k:=0) (ag hi)
 rw[h] at this
 injection this with e
 injection e with e1 e2
 rw[cT] at e1
 exact⟨e1,by rw[e2,ag hi]⟩
structure SwL (H':Hp) (ls:Addr) (ds:List (((Str×List Str)×Addr)×Addr)):Prop where
 at_:H' ls=some (.lst (ds.map λx=>.ref x.2))
 tup:∀ x∈ds,H' x.2=some (.tup [.str x.1.1.1,.ref x.1.2])
 lst:∀ x∈ds,H' x.1.2=some (Au x.1.1.2)/\x.1.2≠ls
theorem SwL.up {H1 H2:Hp} {ls:Addr} {ds:List (((Str×List Str)×Addr)×Addr)} (h:SwL H1 ls ds) (S:Same H1 H2):SwL H2 ls ds:=⟨S _ _ h.at_,λx hx=>S _ _ (h.tup x hx),λx hx=>⟨S _ _ (h.lst x hx).1,(h.lst x hx).2⟩⟩
theorem SwL.snoc {H1:Hp} {ls:Addr} {ds:List (((Str×List Str)×Addr)×Addr)} (h:SwL H1 ls ds) {e:Str×List Str} {la ta:Addr} (ht:H1 ta=some (.tup [.str e.1,.ref la])) (hl:H1 la=some (Au e.2)) (nl:la≠ls) :
  SwL (upd H1 ls (.lst ((ds.map λx=>V.ref x.2)++[.ref ta]))) ls (ds++[((e,la),ta)]):=by
 have nt:∀ {a:Addr} {xs:List V},H1 a=some (.tup xs)->a≠ls:=λq z=>by rw[z,h.at_] at q;cases q
 refine⟨by rw[Aa,aq];rfl,λx hx=>?_,λx hx=>?_⟩
 .rcases List.mem_append.mp hx with hx|hx
  .rw[Ad (nt (h.tup x hx))];exact h.tup x hx
  .obtain rfl:x=((e,la),ta):=by simpa using hx
   rw[Ad (nt ht)];exact ht
 .rcases List.mem_append.mp hx with hx|hx
  .rw[Ad (h.lst x hx).2];exact h.lst x hx
  .obtain rfl:x=((e,la),ta):=by simpa using hx
   rw[Ad nl];exact⟨hl,nl⟩
theorem Kx (sw:Sw) (e:Str×List Str):Ca (sw++[e])=Ca sw * e.2.length:=by unfold Ca;rw[fG];rfl
noncomputable abbrev lettersS:Str := "abcdefghijklmnopqrstuvwxyz"
theorem af5 {z:Str} (h:1<=z.length/\z.length<=8 /\ ∀ c∈z.cps.toList,c∈lettersS.cps.toList):okW z:=⟨h.1,h.2.1,by
 rw[ba]
 intro c hc
 have:=h.2.2 c hc
 rw[show lettersS.cps.toList=(ay 26).map (97 + ·) by decide +kernel] at this
 obtain⟨i,hi,rfl⟩:=List.mem_map.mp this
 have:=List.mem_range.mp hi
 unfold Ju
 simp
 omega⟩
theorem bo4 (Z:Am K t):OkD K a34 (Aw K t) bl (t.f 9) (t.d 9) (am0 K t):=by
 refine okD (n:=40) (t:=b21 K t) rfl (by decide +kernel) (by kernel_rfl) (λvs H Q E h=>?_) (λvs H Q E h=>?_)
 .obtain⟨c,m,rfl,_⟩:=h;rfl
 .obtain⟨c,m,rfl,hm,hm2,k⟩:=h
  have l26:lettersS.length=26:=by decide +kernel
  have nd26:lettersS.cps.toList.Nodup:=by decide +kernel
  refine⟨c,lettersS,8,5,rfl,by decide,by decide,by rw[l26];decide,by rw[l26];decide,by rw[l26];decide,nd26,λH1 lw ws S1 _ elw lws okw=>⟨by decide,λls hls=>?_⟩⟩
  have fls:=S1.free hls
  have nwl:lw≠ls:=Ai elw hls
  have S2:=S1.trans (Same.upd (o:=.lst []) hls)
  have elw2:upd H1 ls (.lst []) lw=some (Au ws):=by rw[Ad nwl];exact elw
  have L2:SwL (upd H1 ls (.lst [])) ls []:=⟨Aa,λx hx=>(by cases hx),λx hx=>(by cases hx)⟩
  generalize upd H1 ls (.lst [])=H2 at S2 elw2 L2 ⊢
  refine⟨c,40,rfl,by decide,by decide,⟨by omega,by omega⟩,?_⟩
  have hN:1<=(1+Bk c 40 % 5).toNat/\(1+Bk c 40 % 5).toNat<=5:=by omega
  refine Bg (Bp 0 (1+Bk c 40 % 5).toNat) (λi U H'=>∃ ds:List (((Str×List Str)×Addr)×Addr),(∃ v6 v7,U=[some (.int c),some (.int (m:Int)),some (.str lettersS),some (.ref lw),some (.ref ls),some (.int (Ca (ds.map (·.1.1)):Nat)),v6,v7])/\Same H H'/\H' lw=some (Au ws)/\SwL H' ls ds /\
    (ds.map (·.1.1.1)).Sublist (ws.take i)/\(∀ x∈ds,F4 x.1.1.2)/\Ca (ds.map (·.1.1))<=m/\(i=0->ds=[])/\(1<=i->ds≠[]))
   ⟨[],⟨_,_,rfl⟩,S2,elw2,L2,cX _,λx hx=>(by cases hx),(show 1<=m by omega),λ_=>rfl,λh=>(by omega)⟩ (λ_ _ _ _ _=>aR) ?_ ?_
  .rintro i x U H5 hx ⟨ds,⟨v6,v7,rfl⟩,S45,elw5,L5,sub,oks,pm,z0,z1⟩
   obtain⟨hi,rfl⟩:=Cv hx
   have hs:2<=2+Bk c (41+(i:Int)) % 3/\2+Bk c (41+(i:Int)) % 3<=4:=by omega
   obtain⟨sz,esz⟩:∃ sz:Nat,2+Bk c (41+(i:Int)) % 3=(sz:Int):=⟨(2+Bk c (41+(i:Int)) % 3).toNat,by omega⟩
   refine⟨c,41+(i:Int),rfl,by omega,by decide,?_⟩
   refine⟨.inr ⟨by omega,by omega⟩,Eu (λe=>⟨.inr ⟨by omega,by omega⟩,?_⟩) (λe=>?_)⟩
   .have e:((Ca (ds.map (·.1.1)):Nat):Int) * (2+Bk c (41+(i:Int)) % 3)<=m:=of_decide_eq_true e
    have hiw:i<ws.length:=by omega
    refine⟨.inl ⟨rfl,_,SqL.of L5.at_⟩,_,_,.inl (SqL.of elw5),Bn (j:=i) (by rw[ak,ag hiw];rfl),?_⟩
    refine⟨c+1+(i:Int),lettersS,8,sz,by rw[<- esz];rfl,by decide,by decide,by rw[l26];omega,by rw[l26];decide,by rw[l26];decide,nd26,λH6 la ss S6 fla ela lss okss=>⟨(show 2<=sizeLine by decide),λta hta=>?_⟩⟩
    have nla:la≠ls:=(Ai L5.at_ fla).symm
    have ST:=Same.upd (o:=.tup [.str ws[i],.ref la]) hta
    have et:upd H6 ta (.tup [.str ws[i],.ref la]) ta=some (.tup [.str ws[i],.ref la]):=Aa
    generalize upd H6 ta (.tup [.str ws[i],.ref la])=H7 at ST et ⊢
    have L7:=L5.up (S6.trans ST)
    have lds:ds.length<=5:=by
     have:=sub.length_le
     rw[ae,aG] at this
     omega
    refine⟨ls,_,_,rfl,rfl,L7.at_,?_,?_⟩
    .rw[ae];exact a_ lds (by decide)
    have pe:((Ca ((ds++[(((ws[i],ss),la),ta)]).map (·.1.1)):Nat):Int)=(Ca (ds.map (·.1.1)):Nat) * (2+Bk c (41+(i:Int)) % 3):=by
     rw[aq,show [(((ws[i],ss),la),ta)].map (λx:((Str×List Str)×Addr)×Addr=>x.1.1)=[(ws[i],ss)] from rfl,Kx,jx,lss,esz]
    refine⟨ds++[(((ws[i],ss),la),ta)],⟨_,_,congrArg (λz=>[some (V.int c),some (V.int (m:Int)),some (V.str lettersS),some (V.ref lw),some (V.ref ls),some (V.int z),some (V.int (i:Int)),some (V.int (2+Bk c (41+(i:Int)) % 3))]) pe.symm⟩,(S45.trans (S6.trans ST)).set fls,?_,L7.snoc et (ST _ _ ela) nla,?_,?_,by omega,λh=>(by omega),λ_ h=>by simp at h⟩
    .rw[Ad nwl];exact (S6.trans ST) _ _ elw5
    .rw[aq,aA,ag hiw]
     exact sub.append (cX _)
    .intro x hx
     rcases List.mem_append.mp hx with hx|hx
     .exact oks x hx
     .obtain rfl:x=(((ws[i],ss),la),ta):=by simpa using hx
      exact⟨⟨λz hz=>af5 (okss.2 z hz),okss.1,by rw[lss];omega⟩,by rw[lss];omega,by rw[lss];omega⟩
   .have e:¬ ((Ca (ds.map (·.1.1)):Nat):Int) * (2+Bk c (41+(i:Int)) % 3)<=m:=of_decide_eq_false (by simpa using e)
    have hi0:i≠0:=λz=>e (by
     rw[z0 z]
     show ((1:Nat):Int) * _<=_
     omega)
    exact⟨ds,⟨_,_,rfl⟩,S45,elw5,L5,sub.trans (cr (by omega)),oks,pm,λh=>(by omega),λ_=>z1 (by omega)⟩
  .rintro U H4 ⟨ds,⟨v5,v6,rfl⟩,S4,elw4,L4,sub,oks,pm,z0,z1⟩
   rw[A7] at sub z0 z1
   have sub2:=sub.trans (d8 _ ws)
   have hl:=sub2.length_le
   rw[ae] at hl
   have e1:(ds.map (·.1.1)).map (·.1)=ds.map (·.1.1.1):=by rw[aI];rfl
   refine .inl (k H4 ls (ds.map (·.1.1)) S4 ⟨ds,rfl,⟨trivial,L4.at_⟩,λx hx=>⟨⟨trivial,L4.tup x hx⟩,trivial,(L4.lst x hx).1⟩⟩ ⟨?_,?_,?_,?_,?_⟩)
   .rw[ae]
    exact List.length_pos_iff.mpr (z1 hN.1)
   .rw[ae];omega
   .rw[e1];exact okw.1.sublist sub2
   .intro y hy
    obtain⟨x,hx,rfl⟩:=List.mem_map.mp hy
    exact⟨af5 (okw.2 _ (sub2.subset (List.mem_map.mpr ⟨x,hx,rfl⟩))),oks x hx⟩
   .omega
theorem a99 (Z:Am K t):OkD K Zi (Aw K t) bl (t.f 7) (t.d 7) (K3 K t):=by
 refine okD (n:=40) (t:=bu3 K t) rfl (by decide +kernel) (by kernel_rfl) (λvs H Q E h=>?_) (λvs H Q E h=>?_)
 .obtain⟨l,sw,rfl,_⟩:=h;rfl
 .obtain⟨l,sw,rfl,⟨ds,ed,⟨_,ol⟩,hd⟩,hw,k⟩:=h
  have len:ds.length=sw.length:=by rw[<- ed];simp
  refine .inl ⟨⟨_,SqL.of ol⟩,?_⟩
  refine Bg (Ap (ds.map λx=>V.ref x.2)) (λi U H'=>(∃ v2 v3,U=[some (.ref l),some (.int (Ca (sw.take i):Nat)),v2,v3])/\H'=H) ⟨⟨_,_,rfl⟩,rfl⟩ (λ_ _ H' _ q=>q.2▸SqL.of ol) ?_ ?_
  .rintro i x U H' hx ⟨⟨v2,v3,rfl⟩,rfl⟩
   obtain⟨⟨⟨x',la⟩,ta⟩,hi,rfl⟩:=Ak hx
   have hi2:sw[i]? = some x':=by rw[<- ed,ak,hi];rfl
   obtain⟨⟨_,h1⟩,_,h2⟩:=hd _ (al hi)
   have h2:H' la=some (Au x'.2):=h2
   have o4:=(hw.sets x' (al hi2)).2.2
   refine⟨_,.inl (SqT.of h1),rfl,.inl ⟨_,.inl (SqL.of h2),?_⟩⟩
   have e:((Ca (sw.take (i+1)):Nat):Int)=(Ca (sw.take i):Nat) * ((x'.2.map V.str).length:Nat):=by
    rw[aA,hi2,cD,Kx,jx,ae]
   exact⟨.inr ⟨by rw[ae];omega,by rw[ae];omega⟩,⟨_,_,congrArg (λz=>[some (V.ref l),some (V.int z),some (V.str x'.1),some (V.ref la)]) e.symm⟩,rfl⟩
  .rintro U H' ⟨⟨v2,v3,rfl⟩,rfl⟩
   rw[ae,len,aw]
   rw[G5] at k
   exact .inl k
theorem bi8 {a:Addr} (xs:List V):Cp (Se K a xs.length) xs.reverse (λH=>SqL K H a xs):=by
 refine⟨λi H q h=>⟨by rw[bJ] at h;exact h,xs,q,rfl⟩,λH q=>by show xs.length<=xs.reverse.length;rw[bJ];exact ah _,λi H x H' q hi h=>?_⟩
 obtain⟨h1,h2⟩:=h
 rw[bJ] at hi
 refine⟨h1,?_⟩
 rw[List.getElem?_reverse hi]
 exact h2 xs q
noncomputable def Km:List Nat->Nat->Nat
 |[],n=>n
 |s::r,n=>Km r (n / s)
theorem Nd:∀ (l:List Nat) (s n:Nat),Km (l++[s]) n=Km l n / s
 |[],_,_=>rfl
 |a::l,s,n=>Nd l s (n / a)
theorem Qt:∀ (l:List Nat) (s n:Nat),Lu (l++[s]) n=(Km l n % s)::Lu l n
 |[],_,_=>rfl
 | a::l,s,n=>by
  show Lu (l++[s]) (n / a)++[n % a]=_
  rw[Qt l s (n / a)]
  rfl
theorem a85 (Z:Am K t):OkD K Y9 (Aw K t) bl (t.f 11) (t.d 11) (Gd K t):=by
 refine okD (n:=40) (t:=bt0 K t) rfl (by decide +kernel) (by kernel_rfl) (λvs H Q E h=>?_) (λvs H Q E h=>?_)
 .obtain⟨l,n,sw,rfl,_⟩:=h;rfl
 .obtain⟨l,n,sw,rfl,⟨ds,ed,⟨_,ol⟩,hd⟩,hw,k⟩:=h
  refine⟨(show 0<=sizeLine by decide),λD hD=>?_⟩
  have S0:=Same.upd (o:=.lst []) hD
  have e0:upd H D (.lst []) D=some (nO []):=Aa
  generalize upd H D (.lst [])=H0 at S0 e0 ⊢
  refine⟨_,SqL.of (S0 _ _ ol),?_⟩
  have big:(1000:Nat)<sizeLine:=by decide
  have rv:(ds.map λx=>V.ref x.2).reverse=(ds.reverse).map λx=>V.ref x.2:=List.map_reverse.symm
  have es:(ds.reverse.map λx=>x.1.1.2.length)=(sw.map (·.2.length)).reverse:=by rw[<- ed,aI,ji];rfl
  have ld:ds.reverse.length<=5:=by
   have:=hw.2.1
   rw[<- ed,ae] at this
   rw[bJ];exact this
  refine Bg (bi8 (ds.map λx=>V.ref x.2)) (λi U H'=>(∃ v3 v4,U=[some (.ref l),some (.int (Km ((ds.reverse.take i).map λx=>x.1.1.2.length) n:Nat)),some (.ref D),v3,v4])/\Same H H'/\H' D=some (nO (Lu ((ds.reverse.take i).map λx=>x.1.1.2.length) n)))
   ⟨⟨_,_,rfl⟩,S0,e0⟩ (λ_ _ H' _ q=>q.2.1.seqL (SqL.of ol)) ?_ ?_
  .rintro i x U H1 hx ⟨⟨v3,v4,rfl⟩,S1,e1⟩
   rw[rv] at hx
   obtain⟨⟨⟨x',la⟩,ta⟩,hi,rfl⟩:=Ak hx
   have hm:((x',la),ta)∈ds:=List.mem_reverse.mp (al hi)
   have o2:=(hw.sets x' (by rw[<- ed];exact List.mem_map.mpr ⟨_,hm,rfl⟩)).2
   obtain⟨⟨_,h1⟩,_,h2⟩:=hd _ hm
   have h2:H la=some (Au x'.2):=h2
   have tk:=By hi λx=>x.1.1.2.length
   have li:=Al hi
   refine⟨_,.inl (SqT.of (S1 _ _ h1)),rfl,.inl ⟨rfl,_,SqL.of e1⟩,.inl ⟨_,.inl (SqL.of (S1 _ _ h2)),?_⟩⟩
   have cl:(((x'.2.map V.str).length:Nat):Int)=(x'.2.length:Int):=by rw[ae]
   have md:∀ a:Nat,(a:Int) % (x'.2.length:Int)=((a % x'.2.length:Nat):Int):=λa=>(Int.natCast_emod a _).symm
   have el:((Km ((ds.reverse.take (i+1)).map λx=>x.1.1.2.length) n:Nat):Int)=(Km ((ds.reverse.take i).map λx=>x.1.1.2.length) n:Nat) / (((x'.2.map V.str).length:Nat):Int):=by
    rw[tk,Nd,cl];exact Int.natCast_ediv _ _
   refine⟨by omega,D,_,_,0,rfl,rfl,e1,bb _,?_,.inl ⟨_,.inl (SqL.of ((S1.set hD) _ _ h2)),⟨by omega,by omega⟩,⟨_,_,congrArg (λz=>[some (V.ref l),some (V.int z),some (V.ref D),some (V.str x'.1),some (V.ref la)]) el.symm⟩,S1.set hD,?_⟩⟩
   .rw[ae,Ef,ae,aG];omega
   .rw[Aa,nO,tk,Qt,cl,md]
    rfl
  .rintro U H1 ⟨⟨v3,v4,rfl⟩,S1,e1⟩
   rw[bJ,ae,<- bJ,aw,es] at e1
   exact .inl (k H1 D S1 e1)
theorem a49 {sw:Sw} {x e:Str×List Str} (hw:okSw sw) (hx:x∈sw) (h:e.1=x.1/\e.2≠[]/\e.2.Sublist x.2):Hz sw e:=by
 have ox:=hw.sets x hx
 refine⟨h.2.1,⟨λz hz=>ox.1.1 z (h.2.2.subset hz),ox.1.2.1.sublist h.2.2,?_⟩,x,hx,h.1.symm,λz hz=>h.2.2.subset hz⟩
 have:=h.2.2.length_le
 have:=ox.2.2
 omega
theorem a97 (Z:Am K t):OkD K Zg (Aw K t) bl (t.f 10) (t.d 10) (U2 K t):=by
 refine okD (n:=40) (t:=bu1 K t) rfl (by decide +kernel) (by kernel_rfl) (λvs H Q E h=>?_) (λvs H Q E h=>?_)
 .obtain⟨c,l,sw,rfl,_⟩:=h;rfl
 .obtain⟨c,l,sw,rfl,⟨ds,ed,⟨_,ol⟩,hd⟩,hw,k⟩:=h
  have len:ds.length=sw.length:=by rw[<- ed];simp
  have l5:=hw.2.1
  have big:(1000:Nat)<sizeLine:=by decide
  refine⟨(show 0<=sizeLine by decide),λkk hkk=>?_⟩
  have S0:=Same.upd (o:=.lst []) hkk
  have ek0:upd H kk (.lst []) kk=some (.lst []):=Aa
  generalize upd H kk (.lst [])=H0 at S0 ek0 ⊢
  refine⟨c,60,rfl,by decide,by decide,⟨by omega,by omega⟩,?_⟩
  refine Bg (Bp 0 (Bk c 60 % 4).toNat) (λi U H'=>∃ gs:List (Sw×Addr),(∃ v3 v4 v5 v6 v7 v8 v9,U=[some (.int c),some (.ref l),some (.ref kk),v3,v4,v5,v6,v7,v8,v9])/\Same H H'/\H' kk=some (.lst (gs.map λx=>.ref x.2))/\(∀ x∈gs,RuleAt (· ≠ kk) H' x.2 x.1)/\(∀ r∈gs.map (·.1),Ey sw r)/\gs.length<=i)
   ⟨[],⟨_,_,_,_,_,_,_,rfl⟩,S0,ek0,(λx hx=>by cases hx),(λx hx=>by cases hx),ah _⟩ (λ_ _ _ _ _=>aR) ?_ ?_
  .rintro i x U H1 hx ⟨gs,⟨v3,v4,v5,v6,v7,v8,v9,rfl⟩,S1,ek,hg,okg,gl⟩
   obtain⟨hi,rfl⟩:=Cv hx
   intro d hd0
   refine .inl (.inl ⟨⟨_,(S1.trans (Same.upd hd0)).seqL (SqL.of ol)⟩,?_⟩)
   have Sd:=Same.upd (o:=.dK []) hd0
   have e0:upd H1 d (.dK []) d=some (.dK (([]:List ((Str×List Str)×Addr)).map kR)):=Aa
   have ndk:d≠kk:=(Ai ek hd0).symm
   show F0 (Ite K l) _ _ _ [some (.int c),some (.ref l),some (.ref kk),some (.int (i:Int)),some (.ref d),v5,v6,v7,v8,v9] (upd H1 d (.dK []))
   generalize upd H1 d (.dK [])=H2 at Sd e0 ⊢
   refine Gr (E3 (ds.map λx=>V.ref x.2)) (λj U H'=>(∃ v5 v6 v7 v8 v9,U=[some (.int c),some (.ref l),some (.ref kk),some (.int (i:Int)),some (.ref d),v5,v6,v7,v8,v9])/\Same H1 H' /\ ∃ es:List ((Str×List Str)×Addr),H' d=some (.dK (es.map kR))/\(∀ e∈es,H1 e.2=none/\e.2≠d/\H' e.2=some (Au e.1.2))/\((es.map (·.1)).map (·.1)).Sublist ((sw.take j).map (·.1)) /\ ∀ e∈es,Hz sw e.1)
    ⟨⟨_,_,_,_,_,rfl⟩,Sd,[],e0,(λe he=>by cases he),cX _,(λe he=>by cases he)⟩ (λ_ _ H' _ q=>(S1.trans q.2.1).seqL (SqL.of ol)) ?_ ?_
   .rintro j x y T U H3 hx3 hT ⟨⟨v5,v6,v7,v8,v9,rfl⟩,S3,es,ed3,he,sub,oke⟩
    obtain⟨⟨⟨x',la⟩,ta⟩,hj,rfl,rfl⟩:=Jk hx3
    have hj2:sw[j]? = some x':=by rw[<- ed,ak,hj];rfl
    have jl:=Al hj2
    obtain⟨⟨_,h1⟩,_,h2⟩:=hd _ (al hj)
    have h2:H la=some (Au x'.2):=h2
    have o4:=(hw.sets x' (al hj2)).2.2
    have ST:=Same.upd (o:=.tup [.int (j:Int),.ref ta]) hT
    refine⟨_,.inl (SqT.of Aa),rfl,?_⟩
    generalize upd H3 T (.tup [.int (j:Int),.ref ta])=H4 at ST ⊢
    have S14:=S3.trans ST
    have S04:=S1.trans S14
    refine⟨_,.inl (SqT.of (S04 _ _ h1)),rfl,⟨.inl ⟨by decide,by decide⟩,c,61+8 * (i:Int)+(j:Int),rfl,by omega,?_⟩⟩
    refine .inl ⟨⟨_,SqL.of (S04 _ _ h2)⟩,λD hD=>?_⟩
    refine N7 (E3 (x'.2.map V.str)) (λm U H'=>(∃ v0 v1,U=[v0,v1,some (.int (Bk c (61+8 * (i:Int)+(j:Int))))])/\Same H4 H' /\ ∃ ss,H' D=some (Au ss)/\ss.Sublist (x'.2.take m)) ⟨⟨_,_,rfl⟩,Same.upd hD,[],Aa,g3 _⟩ (λm U H' _ q=>(S04.trans q.2.1).seqL (SqL.of h2)) ?_ ?_
    .rintro m u y T2 U H5 hx5 hT2 ⟨⟨v0,v1,rfl⟩,S5,ss,eD,sb⟩
     obtain⟨rfl,hy⟩:=Qu hx5
     obtain⟨z,hz,rfl⟩:=Ak hy
     have ST2:=Same.upd (o:=.tup [.int (m:Int),.str z]) hT2
     refine⟨_,.inl (SqT.of Aa),rfl,by omega,?_⟩
     have pl:ss.length<=4:=by
      have:=sb.length_le
      rw[aG] at this
      omega
     refine Eu (λ_=>?_) (λ_=>?_)
     .refine⟨_,ST2 _ _ eD,by rw[ae];omega,⟨_,_,rfl⟩,(S5.trans ST2).set hD,ss++[z],by rw[Aa,Au,aq];rfl,?_⟩
      rw[aA,hz]
      exact sb.append (cX _)
     .exact⟨⟨_,_,rfl⟩,S5.trans ST2,ss,ST2 _ _ eD,sb.trans (cr (by omega))⟩
    .rintro U H5 ⟨_,S5,ss,eD,sb⟩
     have sb2:ss.Sublist x'.2:=sb.trans (d8 _ _)
     have S15:=S14.trans S5
     refine⟨(show 0<=sizeLine by decide),λq hq=>.inl ⟨D,q,_,_,rfl,rfl,SqL.of ((Same.upd hq) _ _ eD),SqL.of Aa,Ft _,rfl,?_⟩⟩
     have Sq:=Same.upd (o:=.lst []) hq
     generalize upd H5 q (.lst [])=H6 at Sq ⊢
     have S16:=S15.trans Sq
     have stay:(∃ v5 v6 v7 v8 v9,[some (V.int c),some (.ref l),some (.ref kk),some (.int (i:Int)),some (.ref d),some (.int (j:Int)),some (.str x'.1),some (.ref la),some (.int (Bk c (61+8 * (i:Int)+(j:Int)))),some (.ref D)]=[some (V.int c),some (.ref l),some (.ref kk),some (.int (i:Int)),some (.ref d),v5,v6,v7,v8,v9])/\Same H1 H6 /\ ∃ es:List ((Str×List Str)×Addr),H6 d=some (.dK (es.map kR))/\(∀ e∈es,H1 e.2=none/\e.2≠d/\H6 e.2=some (Au e.1.2))/\((es.map (·.1)).map (·.1)).Sublist ((sw.take (j+1)).map (·.1)) /\ ∀ e∈es,Hz sw e.1:=
      ⟨⟨_,_,_,_,_,rfl⟩,S16,es,(ST.trans (S5.trans Sq)) _ _ ed3,λe h=>⟨(he e h).1,(he e h).2.1,(ST.trans (S5.trans Sq)) _ _ (he e h).2.2⟩,sub.trans ((cr (by omega)).map _),oke⟩
     by_cases hp:ss=[]
     .subst hp
      exact stay
     .refine Ei (by rw[C5 (by rw[ae];intro z;exact hp (List.length_eq_zero_iff.mp z))];rfl) ?_
      refine⟨⟨by decide,by decide⟩,by decide,Eu (λ_=>?_) (λ_=>stay)⟩
      have nk:B3 (es.map kR) (.inr x'.1)=none:=by
       refine B1 λq=>?_
       rw[Js] at q
       obtain⟨y,hy,e⟩:=List.mem_map.mp q
       cases e
       have hm:=sub.subset hy
       rw[i5] at hm
       exact Es hw.2.2.1 (show (sw.map (·.1))[j]? = some x'.1 by rw[ak,hj2];rfl) hm
      have el:es.length<=5:=by
       have:=sub.length_le
       rw[ae,ae,ae,aG] at this
       omega
      have e6D:=Sq _ _ eD
      have e6d:=(ST.trans (S5.trans Sq)) _ _ ed3
      have ndD:D≠d:=λz=>by rw[z,e6d] at e6D;cases e6D
      refine⟨_,DPut.k (k:=.inr x'.1) e6d (by rw[ae];omega),?_⟩
      rw[Jr (e:=(x'.1,ss)) nk]
      refine⟨⟨_,_,_,_,_,rfl⟩,S16.set hd0,es++[((x'.1,ss),D)],Aa,λx hx=>?_,?_,λx hx=>?_⟩
      .rcases List.mem_append.mp hx with hx|hx
       .obtain⟨a1,a2,a3⟩:=he x hx
        exact⟨a1,a2,by rw[Ad a2];exact (ST.trans (S5.trans Sq)) _ _ a3⟩
       .obtain rfl:x=((x'.1,ss),D):=by simpa using hx
        exact⟨S14.free hD,ndD,by rw[Ad ndD];exact e6D⟩
      .rw[aq,aq,aA,hj2,aq]
       exact sub.append (cX _)
      .rcases List.mem_append.mp hx with hx|hx
       .exact oke x hx
       .obtain rfl:x=((x'.1,ss),D):=by simpa using hx
        exact a49 hw (al hj2) ⟨rfl,hp,sb2⟩
   .rintro U H3 ⟨⟨v5,v6,v7,v8,v9,rfl⟩,S3,es,ed3,he,sub,oke⟩
    rw[Bo,ae,len,aw] at sub
    refine .inl ?_
    intro q hq
    refine .inl (.inr (.inr (.inl (.inr (.inl ⟨_,.inl ((Same.upd hq) _ _ ed3),.inl Aa,?_⟩)))))
    have Sq:=Same.upd (o:=.dK []) hq
    generalize upd H3 q (.dK [])=H4 at Sq ⊢
    have S14:=S3.trans Sq
    have ek4:=S14 _ _ ek
    have hg4:∀ x∈gs,RuleAt (· ≠ kk) H4 x.2 x.1:=λx hx=>(hg x hx).mono (Kp.same S14)
    cases es with
    |nil=>exact⟨gs,⟨_,_,_,_,_,_,_,rfl⟩,S1.trans S14,ek4,hg4,okg,iO gl⟩
    |cons e0 es0=>
     refine Ol ?_
     refine⟨.inl ⟨rfl,_,SqL.of ek4⟩,kk,_,_,rfl,rfl,ek4,by rw[ae];omega,?_⟩
     refine⟨gs++[((e0::es0).map (·.1),d)],⟨_,_,_,_,_,_,_,rfl⟩,(S1.trans S14).set hkk,by rw[Aa,aq];rfl,λx hx=>?_,λr hr=>?_,by rw[aS];exact cx gl⟩
     .refine RuleAt.mono (H:=H4) (ok:=(· ≠ kk)) ?_ (Kp.off λz=>z rfl)
      rcases List.mem_append.mp hx with hx|hx
      .exact hg4 x hx
      .obtain rfl:x=((e0::es0).map (·.1),d):=by simpa using hx
       exact⟨e0::es0,rfl,⟨ndk,Sq _ _ ed3⟩,λx hx=>⟨(Ai ek (he x hx).1).symm,Sq _ _ (he x hx).2.2⟩⟩
     .rw[aq] at hr
      rcases List.mem_append.mp hr with hr|hr
      .exact okg r hr
      .obtain rfl:r=(e0::es0).map (·.1):=by simpa using hr
       have sl:=sub.length_le
       rw[ae,ae,ae] at sl
       refine⟨by simp,by rw[ae];omega,hw.2.2.1.sublist sub,λe h=>?_⟩
       obtain⟨x,hx,rfl⟩:=List.mem_map.mp h
       exact oke x hx
  .rintro U H1 ⟨gs,⟨v3,v4,v5,v6,v7,v8,v9,rfl⟩,S1,ek,hg,okg,gl⟩
   rw[A7] at gl
   exact .inl (k H1 kk (gs.map (·.1)) S1 ⟨gs,rfl,⟨trivial,ek⟩,λx hx=>(hg x hx).mono Kp.any⟩ okg (by rw[ae];omega))
theorem Qw (z:Str) (l:List Str):inV (.str z) (l.map V.str)=decide (z∈l):=by
 unfold inV
 rw[k_,bQ,decide_eq_true_iff,bX]
 constructor
 .rintro⟨y,hy,e⟩
  have e:(y==z)=true:=e
  rw[<- cQ e]
  exact hy
 .intro h
  exact⟨z,h,beq_self_eq_true z⟩
noncomputable def inE (rule:Sw) (x z:Str):Bool:=rule.all λe=>!decide (e.1=x)||decide (z∈e.2)
noncomputable def Xs (sw rule:Sw) (r:List Str) (j:Nat):Bool:=inE rule ((sw.map (·.1)).getD j fE) (r.getD j fE)
theorem B7 {α:Type} {l:List α} {i:Nat} {x d:α} (h:l[i]? = some x):l.getD i d=x:=by rw[ar,h];rfl
theorem a44 {sw rule:Sw} {n:Nat} {r:List Str} (hw:okSw sw) (hb:Ey sw rule) (hn:(Aj sw)[n]? = some r):((ay sw.length).all (Xs sw rule r))=(F1 sw rule).testBit n:=by
 have rl:r.length=sw.length:=(G7 hw.sets).2.1 r (al hn)
 have nm:∀ {j:Nat} {x:Str×List Str},sw[j]? = some x->(sw.map (·.1)).getD j fE=x.1:=λh=>B7 (by rw[ak,h];rfl)
 have hz:∀ {j:Nat},j<sw.length->r[j]? = some (r.getD j fE):=λh=>by rw[ar,ag (by omega)];rfl
 rw[aa2,decide_eq_true (Al hn),i0,bQ,ba,ba]
 constructor
 .intro h e he
  obtain⟨_,_,x,hx,ex,_⟩:=hb.2.2.2 e he
  obtain⟨j,hj⟩:=List.mem_iff_getElem?.mp hx
  have jl:=Al hj
  have:=List.all_eq_true.mp (h j (List.mem_range.mpr jl)) e he
  rw[nm hj,ex,decide_eq_true rfl,ku,iZ,decide_eq_true_iff] at this
  refine List.any_eq_true.mpr ⟨_,this,?_⟩
  unfold Oh
  rw[hn,<- ex,Kw hj hw.2.2.1]
  exact decide_eq_true (hz jl)
 .intro h j hj
  have jl:=List.mem_range.mp hj
  have hx:sw[j]? = some sw[j]:=ag jl
  refine List.all_eq_true.mpr λe he=>?_
  rw[nm hx]
  by_cases c:e.1=sw[j].1
  .obtain⟨z,hz1,hz2⟩:=List.any_eq_true.mp (h e he)
   unfold Oh at hz2
   have hz2:=of_decide_eq_true hz2
   rw[hn,c,Kw hx hw.2.2.1] at hz2
   have hz2:r[j]? = some z:=hz2
   rw[B7 hz2,decide_eq_true hz1,Bool.or_true]
  .rw[decide_eq_false c];rfl
theorem a42 (f:Nat->Bool) (n:Nat):(((ay n).map f).all λb=>b)=(ay n).all f:=by rw[gU];rfl
theorem a84 (Z:Am K t):OkD K Y8 (Aw K t) bl (t.f 12) (t.d 12) (Us K t):=by
 refine okD (n:=40) (t:=bs9 K t) rfl (by decide +kernel) (by kernel_rfl) (λvs H Q E h=>?_) (λvs H Q E h=>?_)
 .obtain⟨l,k,n,sw,rules,rfl,_⟩:=h;rfl
 .obtain⟨l,kk,n,sw,rules,rfl,hsw,hw,⟨gs,eg,⟨_,ok⟩,hg⟩,hr,hn,k⟩:=h
  have big:(1000:Nat)<sizeLine:=by decide
  have l5:=hw.2.1
  refine⟨l,n,sw,rfl,hsw,hw,λH1 r S1 er=>?_⟩
  obtain⟨ds,ed,⟨_,ol⟩,hd⟩:=hsw
  have len:ds.length=sw.length:=by rw[<- ed];simp
  have hrow:(Aj sw)[n]? = some (Aj sw)[n]:=ag hn
  generalize (Aj sw)[n]=row at hrow
  refine .inl ⟨⟨_,SqL.of (S1 _ _ ok)⟩,?_⟩
  refine Bg (Ap (gs.map λx=>V.ref x.2)) (λi U H'=>(∃ v4 v5,U=[some (.ref l),some (.ref kk),some (.int (n:Int)),some (.ref r),v4,v5])/\Same H1 H' /\ ∀ q∈rules.take i,(F1 sw q).testBit n=false) ⟨⟨_,_,rfl⟩,Same.refl _,λq hq=>(by cases hq)⟩ (λ_ _ H' _ q=>(S1.trans q.2.1).seqL (SqL.of ok)) ?_ ?_
  .rintro i x U H2 hx ⟨⟨v4,v5,rfl⟩,S2,pre⟩
   obtain⟨⟨rule,ra⟩,hi,rfl⟩:=Ak hx
   have hi2:rules[i]? = some rule:=by rw[<- eg,ak,hi];rfl
   obtain⟨es,ee,⟨_,oe⟩,he⟩:=hg _ (al hi)
   have ee:es.map (·.1)=rule:=ee
   have oe:H ra=some (.dK (es.map kR)):=oe
   have okr:=hr rule (al hi2)
   have S02:=S1.trans S2
   refine .inl ⟨⟨_,SqL.of (S02 _ _ ol)⟩,λD hD=>?_⟩
   refine N7 (E3 (ds.map λx=>V.ref x.2)) (λm U H'=>(∃ v0 v1 v2,U=[v0,v1,v2,some (.ref r),some (.ref ra)])/\Same H2 H'/\H' D=some (.lst (((ay m).map (Xs sw rule row)).map V.bl))) ⟨⟨_,_,_,rfl⟩,Same.upd hD,Aa⟩ (λm U H' _ q=>(S02.trans q.2.1).seqL (SqL.of ol)) ?_ ?_
   .rintro j x y T U H3 hx3 hT ⟨⟨v0,v1,v2,rfl⟩,S3,eD⟩
    obtain⟨⟨⟨x',la⟩,ta⟩,hj,rfl,rfl⟩:=Jk hx3
    have hj2:sw[j]? = some x':=by rw[<- ed,ak,hj];rfl
    have jl:=Al hj2
    obtain⟨⟨_,h1⟩,_,h2⟩:=hd _ (al hj)
    have h2:H la=some (Au x'.2):=h2
    have ST:=Same.upd (o:=.tup [.int (j:Int),.ref ta]) hT
    refine⟨_,.inl (SqT.of Aa),rfl,?_⟩
    generalize upd H3 T (.tup [.int (j:Int),.ref ta])=H4 at ST ⊢
    have S24:=S3.trans ST
    have S04:=S02.trans S24
    obtain⟨dg,hd1,hd2,hd3⟩:=ab2 hw hrow hj2
    have hz:x'.2[dg]? = some x'.2[dg]:=ag hd2
    rw[hz] at hd3
    generalize x'.2[dg]=z at hz hd3
    refine⟨_,.inl (SqT.of (S04 _ _ h1)),rfl,?_⟩
    refine⟨_,.int (dg:Int),.inl (SqL.of ((S2.trans S24) _ _ er)),Bn (j:=j) (by rw[ak,hd1];rfl),_,.str z,.inl (SqL.of (S04 _ _ h2)),Bn (j:=dg) (by rw[ak,hz];rfl),?_⟩
    refine⟨.inr (.inr (.inl ⟨rfl,.inl ⟨_,S04 _ _ oe⟩⟩)),_,DGet.k (k:=.inr x'.1) (S04 _ _ oe),?_⟩
    have fin:∀ b:Bool,b=Xs sw rule row j -> ∃ ys,H4 D=some (.lst ys)/\ys.length<sizeLine/\(∃ v0 v1 v2,[some (V.int (j:Int)),some (.str x'.1),some (.ref la),some (.ref r),some (.ref ra)]=[v0,v1,v2,some (.ref r),some (.ref ra)])/\Same H2 (upd H4 D (.lst (ys++[.bl b])))/\upd H4 D (.lst (ys++[.bl b])) D=some (.lst (((ay (j+1)).map (Xs sw rule row)).map V.bl)):=λb hb=>
     ⟨_,ST _ _ eD,by rw[ae,ae,aV];omega,⟨_,_,_,rfl⟩,S24.set hD,by rw[Aa,hb,fw,aq,aq];rfl⟩
    have ins:Xs sw rule row j=inE rule x'.1 z:=by unfold Xs;rw[B7 hd3,B7 (x:=x'.1) (by rw[ak,hj2];rfl)]
    by_cases hin:x'.1∈rule.map (·.1)
    .obtain⟨e,hee,en⟩:=List.mem_map.mp hin
     rw[<- ee] at hee
     obtain⟨⟨e',le⟩,hes,rfl⟩:=List.mem_map.mp hee
     obtain⟨a,ha⟩:=List.mem_iff_getElem?.mp hes
     have hv:B3 (es.map kR) (.inr x'.1)=some (.ref le):=by
      rw[<- en]
      exact Bm (D8 ee okr.2.2.1) (by rw[ak,ha];rfl)
     rw[hv]
     refine .inl ⟨le,_,rfl,.inl (SqL.of (S04 _ _ (he _ hes).2)),rfl,Ft _,fin _ ?_⟩
     show inV (.str z) _=_
     rw[Qw,ins]
     have em:e'∈rule:=by rw[<- ee];exact hee
     unfold inE
     rw[bQ,decide_eq_true_iff,ba]
     refine⟨λhz e he2=>?_,λh=>by simpa [show e'.1=x'.1 from en] using h e' em⟩
     by_cases c:e.1=x'.1
     .have:e=e':=by
       obtain⟨a1,q1⟩:=List.mem_iff_getElem?.mp he2
       obtain⟨a2,q2⟩:=List.mem_iff_getElem?.mp em
       have l1:=Al q1
       have l2:=Al q2
       rw[ag l1] at q1
       rw[ag l2] at q2
       have:=(cH (i:=a1) (j:=a2) (h₀:=by rw[ae];exact l1) (h₁:=by rw[ae];exact l2) okr.2.2.1).mp (by rw[cR,cR,aH q1,aH q2,c];exact en.symm)
       subst this
       exact (aH q1).symm.trans (aH q2)
      rw[this,decide_eq_true hz,Bool.or_true]
     .rw[decide_eq_false c];rfl
    .have hv:B3 (es.map kR) (.inr x'.1)=none:=by
      refine B1 λq=>hin ?_
      rw[Js,ee] at q
      obtain⟨y,hy,e⟩:=List.mem_map.mp q
      cases e
      exact hy
     rw[hv]
     refine .inl ⟨la,_,rfl,.inl (SqL.of (S04 _ _ h2)),rfl,Ft _,fin _ ?_⟩
     show inV (.str z) _=_
     rw[Qw,ins,decide_eq_true (al hz)]
     refine (List.all_eq_true.mpr λe he2=>?_).symm
     rw[decide_eq_false λc=>hin (List.mem_map.mpr ⟨e,he2,c⟩)];rfl
   .rintro U H3 ⟨_,S3,eD⟩
    rw[Bo,ae,len] at eD
    refine⟨_,SqL.of eD,?_⟩
    rw[a42,a44 hw okr hrow]
    cases hc:(F1 sw rule).testBit n with
    |true=>
     have:=k H3 (S02.trans S3)
     have hb:F5 sw rules n=true:=List.any_eq_true.mpr ⟨rule,al hi2,hc⟩
     rw[hb] at this
     exact this
    |false=>
     refine⟨⟨_,_,rfl⟩,S2.trans S3,λq hq=>?_⟩
     rw[aA,hi2] at hq
     rcases List.mem_append.mp hq with hq|hq
     .exact pre q hq
     .obtain rfl:q=rule:=by simpa using hq
      exact hc
  .rintro U H2 ⟨⟨v4,v5,rfl⟩,S2,pre⟩
   rw[ae,<- ae (f:=Prod.fst) (as:=gs),eg,aw] at pre
   have hb:F5 sw rules n=false:=by
    unfold F5
    rw[gH]
    exact λq hq z=>by rw[pre q hq] at z;cases z
   have:=k H2 (S1.trans S2)
   rw[hb] at this
   exact .inl this
theorem Eh (l:List Nat):(l.map λn:Nat=>V.int (n:Int)).all Bv=true:=by rw[gU,ba];exact λ_ _=>rfl
theorem ba0 (Z:Am K t):OkD K Zj (Aw K t) bl (t.f 13) (t.d 13) (U3 K t):=by
 refine okD (n:=40) (t:=bu4 K t) rfl (by decide +kernel) (by kernel_rfl) (λvs H Q E h=>?_) (λvs H Q E h=>?_)
 .obtain⟨c,m,rfl,_⟩:=h;rfl
 .obtain⟨c,m,rfl,hm,hm2,k⟩:=h
  have big:(1000:Nat)<sizeLine:=by decide
  refine⟨c,m,rfl,hm,hm2,λH1 l sw S1 hsw hw=>⟨c,l,sw,rfl,hsw,hw,λH2 kk rules S2 hr okr lr=>?_⟩⟩
  have few:=hw.len
  have S02:=S1.trans S2
  have hsw2:=hsw.mono (Kp.same S2)
  refine⟨l,sw,rfl,hsw2,hw,⟨by omega,by omega⟩,λD hD=>?_⟩
  rw[aT]
  refine Bq (Bp 0 (Aj sw).length) (λi U H'=>(∃ v,U=[v,some (.ref kk),some (.ref l)])/\Same H2 H'/\H' D=some (nO ((ay i).filter λn=>!F5 sw rules n))) ⟨⟨_,rfl⟩,Same.upd hD,Aa⟩ (λ_ _ _ _ _=>aR) ?_ ?_
  .rintro i x U H3 hx ⟨⟨v,rfl⟩,S3,eD⟩
   obtain⟨hi,rfl⟩:=Cv hx
   refine⟨l,kk,i,sw,rules,rfl,hsw2.mono (Kp.same S3),hw,hr.mono (Kp.same S3),okr,hi,λH4 S4=>?_⟩
   have S34:=S3.trans S4
   have fs:(ay (i+1)).filter (λn=>!F5 sw rules n)=(ay i).filter (λn=>!F5 sw rules n)++(if (!F5 sw rules i)=true then [i] else []):=by
    rw[fw,cO,eV,fm]
   cases hc:F5 sw rules i with
   |true=>
    rw[hc,if_neg (by decide),bI] at fs
    exact⟨⟨_,rfl⟩,S34,by rw[fs];exact S4 _ _ eD⟩
   |false=>
    rw[hc,if_pos (by decide)] at fs
    refine⟨_,S4 _ _ eD,?_,⟨_,rfl⟩,S34.set hD,?_⟩
    .rw[ae]
     have:=bu (λn=>!F5 sw rules n) (ay i)
     rw[aV] at this
     omega
    .rw[Aa,fs,nO,aq];rfl
  .rintro U H3 ⟨_,S3,eD⟩
   rw[A7] at eD
   have eD:H3 D=some (nO (An sw rules)):=eD
   refine⟨(show 0<=sizeLine by decide),λq hq=>.inl ⟨D,q,_,_,rfl,rfl,SqL.of ((Same.upd hq) _ _ eD),SqL.of Aa,Eh _,rfl,?_⟩⟩
   have Sq:=Same.upd (o:=.lst []) hq
   generalize upd H3 q (.lst [])=H4 at Sq ⊢
   have S24:=S3.trans Sq
   have S04:=S02.trans S24
   by_cases hf:An sw rules=[]
   .rw[hf]
    refine Ol ?_
    refine⟨(show 0<=sizeLine by decide),λk2 hk2=>?_⟩
    have S5:=Same.upd (o:=.lst []) hk2
    have e5:upd H4 k2 (.lst []) k2=some (.lst []):=Aa
    generalize upd H4 k2 (.lst [])=H5 at S5 e5 ⊢
    refine⟨l,sw,rfl,hsw2.mono (Kp.same (S24.trans S5)),hw,by omega,by omega,λD2 hD2=>?_⟩
    rw[aT]
    have S6:=Same.upd (o:=nO (ay (Aj sw).length)) hD2
    have e6:upd H5 D2 (nO (ay (Aj sw).length)) D2=some (nO (ay (Aj sw).length)):=Aa
    show Ae _ _ _ _ (upd H5 D2 (nO (ay (Aj sw).length)))
    generalize upd H5 D2 (nO (ay (Aj sw).length))=H6 at S6 e6 ⊢
    refine⟨(show 3<=sizeLine by decide),λW hW=>?_⟩
    have S7:=Same.upd (o:=.lst [.ref l,.ref k2,.ref D2]) hW
    have f0:An sw []=ay (Aj sw).length:=List.filter_eq_self.mpr λ_ _=>rfl
    refine k _ W sw [] l k2 D2 (S04.trans (S5.trans (S6.trans S7))) ⟨Aa,hsw2.mono (Kp.same (S24.trans (S5.trans (S6.trans S7)))),hw,⟨[],rfl,⟨trivial,(S6.trans S7) _ _ e5⟩,λx hx=>by cases hx⟩,λr hr=>(by cases hr),bb _,by rw[f0];exact S7 _ _ e6,?_⟩
    rw[f0]
    intro z
    have:=congrArg b9 z
    rw[aV,jA] at this
    have:=hw.pos
    omega
   .refine De (C5 (by rw[ae];intro z;exact hf (List.length_eq_zero_iff.mp z))) ?_
    refine⟨(show 3<=sizeLine by decide),λW hW=>?_⟩
    have S7:=Same.upd (o:=.lst [.ref l,.ref kk,.ref D]) hW
    exact k _ W sw rules l kk D (S04.trans S7) ⟨Aa,hsw2.mono (Kp.same (S24.trans S7)),hw,hr.mono (Kp.same (S24.trans S7)),okr,by omega,(Sq.trans S7) _ _ eD,hf⟩
theorem Dq (x:Int) {m:Nat} (h:1<=m):∃ v:Nat,v<m/\x % (m:Int)=(v:Int):=by
 have h0:=dj x (show (m:Int)≠0 by omega)
 have h1:=cA x (show 0<(m:Int) by omega)
 exact⟨(x % (m:Int)).toNat,by omega,by omega⟩
theorem a75 (Z:Am K t):OkD K Y6 (Aw K t) bl (t.f 18) (t.d 18) (Uj K t):=by
 refine okD (n:=40) (t:=br9 K t) rfl (by decide +kernel) (by kernel_rfl) (λvs H Q E h=>?_) (λvs H Q E h=>?_)
 .obtain⟨c,l,sw,n,m,rfl,_⟩:=h;rfl
 .obtain⟨c,l,sw,n,m,rfl,hsw,hw,hm,k⟩:=h
  obtain⟨ds,ed,⟨_,ol⟩,hd⟩:=id hsw
  have len:ds.length=sw.length:=by rw[<- ed];simp
  have l1:=hw.1
  refine⟨c,70,rfl,by decide,by decide,Eu (λ_=>?_) (λ_=>?_)⟩
  .refine⟨l,n,sw,rfl,hsw,hw,λH1 r S1 er=>⟨c,71,rfl,by decide,.inl ⟨_,.inl (SqL.of (S1 _ _ ol)),?_⟩⟩⟩
   rw[ae,len]
   obtain⟨j,hj,ej⟩:=Dq (Bk c 71) l1
   have hd2:(Cq sw n)[j]? = some ((Cq sw n)[j]'(by rw[Ee];exact hj)):=ag _
   refine⟨by omega,_,.int ((Cq sw n)[j]'(by rw[Ee];exact hj):Nat),.inl (SqL.of er),?_,by omega,?_⟩
   .rw[ej];exact Bn (by rw[ak,hd2];rfl)
   .obtain⟨v,hv,ev⟩:=Dq (((Cq sw n)[j]'(by rw[Ee];exact hj):Nat):Int) hm
    rw[ev]
    exact k H1 v S1 hv
  .obtain⟨v,hv,ev⟩:=Dq (Bk c (700+(n:Int))) hm
   refine⟨c,700+(n:Int),rfl,by omega,by omega,?_⟩
   rw[ev]
   exact k H v (Same.refl _) hv
noncomputable def textS:Str := " !\"#$&'()*+,-./0123456789:;<=>?@ABCDEFGHIJKLMNOPQRSTUVWXYZ[\\]^_`" ++ "abcdefghijklmnopqrstuvwxyz{|}~"
theorem bx4 (x:Int) (h0:0<=x) (h:x<5):∃ L:Nat,L<=60/\atI [V.int 0,.int 1,.int 2,.int 5,.int 60] x=some (.int (L:Int)):=by
 have:x=0\/x=1\/x=2\/x=3\/x=4:=by omega
 rcases this with rfl|rfl|rfl|rfl|rfl
 .exact⟨0,by decide,rfl⟩
 .exact⟨1,by decide,rfl⟩
 .exact⟨2,by decide,rfl⟩
 .exact⟨5,by decide,rfl⟩
 .exact⟨60,by decide,rfl⟩
theorem ba9 (Z:Am K t):OkD K Zr (Aw K t) bl (t.f 14) (t.d 14) (Pp K t):=by
 refine okD (n:=40) (t:=bv3 K t) rfl (by decide +kernel) (by kernel_rfl) (λvs H Q E h=>?_) (λvs H Q E h=>?_)
 .obtain⟨c,rfl,_⟩:=h;rfl
 .obtain⟨c,rfl,k⟩:=h
  have ts:1<=textS.length/\textS.length<=1000:=by decide +kernel
  have big:(1000:Nat)<sizeLine:=by decide
  refine⟨by decide +kernel,(show 5<=sizeLine by decide),λq hq=>⟨c,301,rfl,by decide,by decide,?_⟩⟩
  have S1:=Same.upd (o:=.lst [.int 0,.int 1,.int 2,.int 5,.int 60]) hq
  obtain⟨L,hL,eL⟩:=bx4 (Bk c 301 % 5) (by omega) (by omega)
  refine⟨_,_,.inl (SqL.of Aa),eL,?_⟩
  show Ae _ _ _ _ (upd H q (.lst [.int 0,.int 1,.int 2,.int 5,.int 60]))
  generalize upd H q (.lst [.int 0,.int 1,.int 2,.int 5,.int 60])=H1 at S1 ⊢
  refine⟨rfl,⟨by omega,by omega⟩,?_⟩
  show ∀ D,H1 D=none->E8 (Itr 0 ((L:Int)).toNat) _ _ _ D _ _ _ _
  rw[aT]
  refine F6 (f:=λj=>.str ⟨#[sgC textS (Bk c (302+(j:Int)))]⟩) (rest:=[some (.int c),some (.str textS)]) (Bp 0 L) (λ_ _=>aR) (by rw[A7];omega) (λj x H2 Q1 hj _ q=>?_) λD H2 S2 hD eD=>?_
  .obtain⟨hj,rfl⟩:=Cv hj
   exact⟨c,302+(j:Int),rfl,by omega,by omega,by omega,by omega,_,aj6 _ ts.1,q _ (Same.refl _)⟩
  .rw[A7,Pm] at eD
   refine⟨_,D,_,rfl,rfl,.inl (SqL.of eD),?_,?_⟩
   .rw[Fj,ae,aV];omega
   rw[Ev]
   exact k H2 _ (S1.trans S2) (by have:=Qf (λj=>sgC textS (Bk c (302+(j:Int)))) L;unfold wB at this;rw[this];exact hL)
theorem R6 {H:Hp} {x:TK} {v:V} (hx:TkAt H x v):∀ {l:List TK} {vs:List V},Ay H l vs->Ay H (l++[x]) (vs++[v])
 |[],vs,h=>by unfold Ay at h;subst h;show Ay H [x] [v];unfold Ay;exact⟨v,[],rfl,hx,by unfold Ay;rfl⟩
 |y::l,vs,h=>by unfold Ay at h;obtain⟨u,r,rfl,h1,h2⟩:=h;show Ay H (y::(l++[x])) _;unfold Ay;exact⟨u,_,rfl,h1,R6 hx h2⟩
theorem Qe {H H':Hp} (hs:∀ b ys,H b=some (.tup ys)->H' b=some (.tup ys)):∀ {l:List TK} {vs:List V},Ay H l vs->Ay H' l vs
 |[],vs,h=>by unfold Ay at h ⊢;exact h
 |y::l,vs,h=>by unfold Ay at h ⊢;obtain⟨u,r,e,h1,h2⟩:=h;exact⟨u,r,e,h1.up hs,Qe hs h2⟩
theorem Rw {H:Hp}:∀ {vs:List V},(∀ v∈vs,∃ z,v=.str z) -> ∃ l:List TK,Ay H l vs /\ ∀ k∈l,Ar k<=0
 |[],_=>⟨[],by unfold Ay;rfl,λk hk=>by cases hk⟩
 | v::vs,h=>by
  obtain⟨l,h1,h2⟩:=Rw (H:=H) λu hu=>h u (az _ hu)
  obtain⟨z,rfl⟩:=h v aN
  refine⟨.at_ (.inr z)::l,by unfold Ay;exact⟨_,_,rfl,by unfold TkAt;rfl,h1⟩,λk hk=>?_⟩
  rcases List.mem_cons.mp hk with rfl|hk
  .exact Hl _ _
  .exact h2 k hk
theorem a74 (Z:Am K t):OkD K Y5 (Aw K t) bl (t.f 15) (t.d 15) (Ui K t):=by
 refine okD (n:=40) (t:=br8 K t) rfl (by decide +kernel) (by kernel_rfl) (λvs H Q E h=>?_) (λvs H Q E h=>?_)
 .obtain⟨kd,c,rfl,_⟩:=h;rfl
 .obtain⟨kd,c,rfl,k⟩:=h
  have big:(1000:Nat)<sizeLine:=by decide
  refine Eu (λ_=>?_) (λ_=>?_)
  .exact⟨c,rfl,λH' z S hz=>k H' (.at_ (.inr z)) (.str z) S (by unfold TkAt;rfl) (Hl _ _)⟩
  .refine⟨c,310,rfl,by decide,by decide,(show 0<=sizeLine by decide),λR hR=>?_⟩
   have S0:=Same.upd (o:=.lst []) hR
   have e0:upd H R (.lst []) R=some (.lst []):=Aa
   show Ae _ _ _ _ (upd H R (.lst []))
   generalize upd H R (.lst [])=H0 at S0 e0 ⊢
   refine⟨c,311,rfl,by decide,by decide,⟨by omega,by omega⟩,?_⟩
   refine Bg (Bp 0 (1+Bk c 311 % 3).toNat) (λi U H'=>(∃ v4,U=[some (.str kd),some (.int c),some (.int (1+Bk c 310 % 3)),some (.ref R),v4])/\Same H H' /\ ∃ (ks:List TK) (vs:List V),H' R=some (.lst vs)/\Ay H' ks vs/\(∀ k∈ks,Ar k<=1)/\vs.length=i)
    ⟨⟨_,rfl⟩,S0,[],[],e0,(by unfold Ay;rfl),(λk hk=>by cases hk),rfl⟩ (λ_ _ _ _ _=>aR) ?_ ?_
   .rintro i x U H1 hx ⟨⟨v4,rfl⟩,S1,ks,vs,eR,tk,dp,lv⟩
    obtain⟨hi,rfl⟩:=Cv hx
    refine⟨.inl ⟨rfl,_,SqL.of eR⟩,⟨by omega,by omega⟩,?_⟩
    refine Gm (P:=λ_ v _=>∃ z,v=.str z) (rest:=[some (.int c),some (.int (i:Int))]) (λ_ _ _ _ _ h=>h) (Bp 0 (1+Bk c 310 % 3).toNat) (λ_ _=>aR) (by rw[A7];omega) (λj x H2 Q1 hj _ q=>?_) λD H2 us S2 hD eD lu hu=>?_
    .obtain⟨hj,rfl⟩:=Cv hj
     exact⟨.inl ⟨by decide,by decide⟩,.inl ⟨by decide,by decide⟩,_,rfl,λH3 z S3 hz=>⟨by omega,q _ H3 S3 ⟨_,rfl⟩⟩⟩
    .refine⟨_,.inl ⟨SqL.of eD,λT hT=>?_⟩⟩
     have ST:=Same.upd (o:=.tup us) hT
     have eT:upd H2 T (.tup us) T=some (.tup us):=Aa
     generalize upd H2 T (.tup us)=H3 at ST eT ⊢
     have S13:=S2.trans ST
     obtain⟨l,tl,dl⟩:=Rw (H:=H3) λv hv=>by
      obtain⟨j,hj⟩:=List.mem_iff_getElem?.mp hv
      exact hu j v hj
     have e3:=S13 _ _ eR
     have nl:=NL.upd (m:=vs++[.ref T]) e3
     refine⟨R,_,_,rfl,rfl,e3,by omega,⟨_,rfl⟩,(S1.trans S13).set hR,ks++[.tup l],_,Aa,?_,λk hk=>?_,by rw[aS,lv];rfl⟩
     .refine Qe nl.tup (R6 ?_ (Qe (NL.same S13).tup tk))
      unfold TkAt
      exact⟨T,us,rfl,eT,tl⟩
     .rcases List.mem_append.mp hk with hk|hk
      .exact dp k hk
      .obtain rfl:k=.tup l:=by simpa using hk
       unfold Ar
       exact cx (Dm dl)
   .rintro U H1 ⟨⟨v4,rfl⟩,S1,ks,vs,eR,tk,dp,lv⟩
    refine .inl ⟨_,.inl ⟨SqL.of eR,λT hT=>?_⟩⟩
    have ST:=Same.upd (o:=.tup vs) hT
    refine k _ (.tup ks) (.ref T) (S1.trans ST) ?_ ?_
    .unfold TkAt
     exact⟨T,vs,rfl,Aa,Qe (NL.same ST).tup tk⟩
    .unfold Ar
     exact cx (Dm dp)
theorem an6 {S:St->Prop} {C:St->Hp->Prop} {H:Hp} {G:Prop} (use:(∀ U,S U->C U H)->G) (h:∀ U,S U->C U H):G:=use h
theorem Si {xs:List V} (x:Int) {n:Int} (hn:n=xs.length) (h:0<xs.length):∃ v∈xs,atI xs (x % n)=some v:=by
 obtain⟨j,hj,e⟩:=Dq x (show 1<=xs.length from h)
 subst hn
 rw[e]
 exact⟨xs[j],bY hj,Bn (ag hj)⟩
theorem Jt (es:List ((Str×Rc)×Addr)):(es.map kT).map (·.1)=(es.map (·.1.1)).map (gN:Str->Key):=by simp[aI,Function.comp_def]
theorem bl9 {es:List ((Str×Rc)×Addr)} (h:(es.map (·.1.1)).Nodup):((es.map kT).map (·.1)).Nodup:=by rw[Jt];exact Hy h
theorem Oo {es:List ((Str×Rc)×Addr)} (h:(es.map (·.1.1)).Nodup) {i:Nat} {e:(Str×Rc)×Addr} (hi:es[i]? = some e):B3 (es.map kT) (.inr e.1.1)=some (.ref e.2):=Bm (bl9 h) (by rw[ak,hi];rfl)
theorem ad0 {es:List ((Str×Rc)×Addr)} {n:Str} (h:¬ n∈es.map (·.1.1)):B3 (es.map kT) (.inr n)=none:=by
 refine B1 λq=>h ?_
 rw[Jt] at q
 obtain⟨y,hy,e⟩:=List.mem_map.mp q
 cases e
 exact hy
theorem We {es:List ((Str×Rc)×Addr)} {e:Str×Rc} {a:Addr} (h:¬ e.1∈es.map (·.1.1)):Cu (es.map kT) (.inr e.1) (.ref a)=(es++[(e,a)]).map kT:=by rw[Dw _ (ad0 h),aq];rfl
theorem J8 {H:Hp} {d:Addr} {kvs:List (Key×V)} {o:HO} (h:H d=some (.dK kvs) \/ ∃ x,H d=some (.frz x (.dK kvs))):∀ b ys,H b=some (.tup ys)->upd H d o b=some (.tup ys):=λb ys e=>by
 rw[Ad λz=>?_];exact e
 rcases h with h|⟨x,h⟩ <;> (rw[z,h] at e;cases e)
noncomputable def kdsL:List Str:=["chapter", "para", "table", "chapter"]
theorem bb0 (Z:Am K t):OkD K Zs (Aw K t) bl (t.f 16) (t.d 16) (Va K t):=by
 refine okD (n:=40) (t:=bv4 K t) rfl (by decide +kernel) (by kernel_rfl) (λvs H Q E h=>?_) (λvs H Q E h=>?_)
 .obtain⟨c,v,l,ws,rfl,_⟩:=h;rfl
 .obtain⟨c,v,l,ws,rfl,hl,nd,few,k⟩:=h
  have big:(1000:Nat)<sizeLine:=by decide
  intro d hd0
  refine .inl (.inl ⟨⟨_,(Same.upd hd0).seqL (SqL.of hl)⟩,?_⟩)
  have Sd:=Same.upd (o:=.dK []) hd0
  have e0:upd H d (.dK []) d=some (.dK (([]:List ((Str×Rc)×Addr)).map kT)):=Aa
  show F0 (Ite K l) _ _ _ [some (.int c),some (.int (v:Int)),some (.ref l),some (.ref d),none,none,none,none,none,none] (upd H d (.dK []))
  generalize upd H d (.dK [])=H0 at Sd e0 ⊢
  refine Gr (E3 (ws.map V.str)) (λi U H'=>(∃ v4 v5 v6 v7 v8 v9,U=[some (.int c),some (.int (v:Int)),some (.ref l),some (.ref d),v4,v5,v6,v7,v8,v9])/\Same H H' /\ ∃ es:List ((Str×Rc)×Addr),H' d=some (.dK (es.map kT))/\(∀ e∈es,RcAt H' e.2 e.1.2/\Ar e.1.2.c<=2)/\(es.map (·.1.1)).Sublist (ws.take i))
   ⟨⟨_,_,_,_,_,_,rfl⟩,Sd,[],e0,(λe he=>by cases he),g3 _⟩ (λ_ _ H' _ q=>q.2.1.seqL (SqL.of hl)) ?_ ?_
  .rintro i x y T U H1 hx hT ⟨⟨v4,v5,v6,v7,v8,v9,rfl⟩,S1,es,ed,he,sub⟩
   obtain⟨rfl,hy⟩:=Qu hx
   obtain⟨n,hn,rfl⟩:=Ak hy
   have il:=Al hn
   have ST:=Same.upd (o:=.tup [.int (i:Int),.str n]) hT
   refine⟨_,.inl (SqT.of Aa),rfl,?_⟩
   generalize upd H1 T (.tup [.int (i:Int),.str n])=H2 at ST ⊢
   have S2:=S1.trans ST
   have ed2:=ST _ _ ed
   have he2:∀ e∈es,RcAt H2 e.2 e.1.2/\Ar e.1.2.c<=2:=λe h=>⟨(he e h).1.up (NL.same ST).tup,(he e h).2⟩
   clear he ed
   have sub1:(es.map (·.1.1)).Sublist (ws.take (i+1)):=sub.trans (cr (by omega))
   refine⟨c,100+(i:Int),rfl,by omega,?_⟩
   show Ae _ _ _ _ _
   refine' an6 (S:=λU=>∃ N:Int,U=[some (.int c),some (.int (v:Int)),some (.ref l),some (.ref d),some (.int (i:Int)),some (.str n),some (.int N),v7,v8,v9]) (H:=H2) (λrest=>?u) ?v
   case u=>
    refine Eu (λ_=>?_) (λ_=>ac7 (rest _ ⟨_,rfl⟩))
    exact⟨.inl ⟨by decide,by decide⟩,c,130+40 * (v:Int)+(i:Int),rfl,by omega,by decide,Eu (λ_=>⟨.inl ⟨by decide,by decide⟩,c,500+40 * (v:Int)+(i:Int),rfl,by omega,rest _ ⟨_,rfl⟩⟩) (λ_=>rest _ ⟨_,rfl⟩)⟩
   case v=>
    rintro U ⟨N,rfl⟩
    refine⟨by decide,Eu (λ_=>?_) (λ_=>⟨⟨_,_,_,_,_,_,rfl⟩,S2,es,ed2,he2,sub1⟩)⟩
    refine⟨(show 4<=sizeLine by decide),λq1 hq1=>⟨⟨by decide,by decide⟩,by decide,?_⟩⟩
    have S3:=Same.upd (o:=.lst (kdsL.map V.str)) hq1
    obtain⟨kv,hkv,ekv⟩:=Si (xs:=kdsL.map V.str) (N / 6) (n:=4) rfl (by decide)
    obtain⟨kd,_,rfl⟩:=List.mem_map.mp hkv
    refine⟨_,_,.inl (SqL.of Aa),ekv,?_⟩
    show Ae _ _ _ _ (upd H2 q1 (.lst (kdsL.map V.str)))
    generalize upd H2 q1 (.lst (kdsL.map V.str))=H3 at S3 ⊢
    have ed3:=S3 _ _ ed2
    refine⟨(show 1<=sizeLine by decide),λb1 hb1=>?_⟩
    have S4:=Same.upd (o:=.lst [.str ""]) hb1
    have e4:upd H3 b1 (.lst [.str ""]) b1=some (.lst [.str ""]):=Aa
    generalize upd H3 b1 (.lst [.str ""])=H4 at S4 e4 ⊢
    have ed4:=S4 _ _ ed3
    have he4:∀ e∈es,RcAt H4 e.2 e.1.2/\Ar e.1.2.c<=2:=λe h=>⟨(he2 e h).1.up (NL.same (S3.trans S4)).tup,(he2 e h).2⟩
    have nde:(es.map (·.1.1)).Nodup:=nd.sublist (sub.trans (d8 _ _))
    refine .inr (.inr (.inl (.inl ⟨_,ed4,λo L hL=>?_⟩)))
    have ef:upd H4 d (.frz o (.dK (es.map kT))) d=some (.frz o (.dK (es.map kT))):=Aa
    have tf:=J8 (o:=.frz o (.dK (es.map kT))) (.inl ed4)
    have e4f:upd H4 d (.frz o (.dK (es.map kT))) b1=some (.lst [.str ""]):=by rw[Ad λz=>by rw[z,ed4] at e4;cases e4];exact e4
    have th:∀ H',Same (upd H4 d (.frz o (.dK (es.map kT)))) H'->Same H4 (upd H' d (.dK (es.map kT))):=λH' S=>Same.thaw ed4 S
    generalize upd H4 d (.frz o (.dK (es.map kT)))=Hf at ef tf e4f th hL ⊢
    refine Bq (Fy (es.map kT)) (λi U' H'=>(∃ v,U'=[v,some (.ref d)])/\Same Hf H' /\ ∃ ps:List Str,H' L=some (Au ps)/\ps.length<=i) ⟨⟨_,rfl⟩,Same.upd hL,[],Aa,ah _⟩ (λ_ _ H' _ q=>q.2.1 _ _ ef) ?_ ?_
    .rintro j x U' H5 hx ⟨⟨vv,rfl⟩,S5,ps,eL,lp⟩
     rw[aI] at hx
     obtain⟨e,hj,rfl⟩:=Ak hx
     obtain⟨cv,er,_⟩:=(he4 e (al hj)).1
     have jl:=Al hj
     have sl:=sub.length_le
     rw[ae,aG] at sl
     refine⟨.ref e.2,.inl ⟨_,.inr e.1.1,.inr ⟨o,S5 _ _ ef⟩,rfl,(Oo nde hj).symm⟩,_,_,.inr (SqT.of (S5 _ _ (tf _ _ er))),rfl,Eu (λ_=>?_) (λ_=>?_)⟩
     .exact⟨_,eL,by rw[ae];omega,⟨_,rfl⟩,S5.set hL,ps++[e.1.1],by rw[Aa,Au,aq];rfl,by rw[aS];exact cx lp⟩
     .exact⟨⟨_,rfl⟩,S5,ps,eL,iO lp⟩
    .rintro U' H5 ⟨_,S5,ps,eL,lp⟩
     rw[ae,ae] at lp
     have sl:=sub.length_le
     rw[ae,aG] at sl
     refine .inl ⟨b1,L,_,_,rfl,rfl,S5 _ _ e4f,eL,by rw[ae,b7];omega,λM hM=>?_⟩
     have S6:=S5.trans (Same.upd (o:=.lst ([.str ""]++ps.map V.str)) hM)
     have eM:upd H5 M (.lst ([.str ""]++ps.map V.str)) M=some (Au (("" : Str)::ps)):=Aa
     generalize upd H5 M (.lst ([.str ""]++ps.map V.str))=H6 at S6 eM ⊢
     refine .inr ⟨d,o,_,ed3,S6 _ _ ef,?_⟩
     have S7:=S4.trans (th _ S6)
     have eM7:upd H6 d (.dK (es.map kT)) M=some (Au (("" : Str)::ps)):=by rw[Ad λz=>by rw[z,S6 _ _ ef] at eM;cases eM];exact eM
     generalize upd H6 d (.dK (es.map kT))=H7 at S7 eM7 ⊢
     refine⟨⟨by decide,by decide,by decide⟩,⟨by decide,by decide⟩,by decide,(show 4<=sizeLine by decide),λb2 hb2=>⟨⟨by decide,by decide⟩,by decide,?_⟩⟩
     obtain⟨v2,hv2,ev2⟩:=Si (xs:=[(0:Int),1,10 ^ lC 9,N / 96 % 1000].map V.int) (N / 24) (n:=4) rfl (by simp)
     obtain⟨rk,_,rfl⟩:=List.mem_map.mp hv2
     refine⟨_,_,.inl (SqL.of Aa),ev2,?_⟩
     have S8:=Same.upd (o:=.lst ([(0:Int),1,10 ^ lC 9,N / 96 % 1000].map V.int)) hb2
     show Ae _ _ _ _ (upd H7 b2 (.lst ([(0:Int),1,10 ^ lC 9,N / 96 % 1000].map V.int)))
     generalize upd H7 b2 (.lst ([(0:Int),1,10 ^ lC 9,N / 96 % 1000].map V.int))=H8 at S8 ⊢
     obtain⟨v3,hv3,ev3⟩:=Si (xs:=(("" : Str)::ps).map V.str) (N / 384) rfl (by simp)
     obtain⟨pr,_,rfl⟩:=List.mem_map.mp hv3
     have eM8:=S8 _ _ eM7
     refine⟨⟨by decide,by decide⟩,.inl ⟨_,.inl (SqL.of eM8),by rw[ae,aO];omega,_,_,.inl (SqL.of eM8),ev3,?_⟩⟩
     refine⟨⟨by decide,by decide⟩,kd,N / 96,rfl,λH9 x vv S9 tk dp=>⟨(show 4<=sizeLine by decide),λT2 hT2=>?_⟩⟩
     have S10:=S9.trans (Same.upd (o:=.tup [.str kd,.str pr,.int rk,vv]) hT2)
     have eT:upd H9 T2 (.tup [.str kd,.str pr,.int rk,vv]) T2=some (.tup [.str kd,.str pr,.int rk,vv]):=Aa
     have tk2:=tk.up (NL.same (Same.upd (o:=.tup [.str kd,.str pr,.int rk,vv]) hT2)).tup
     generalize upd H9 T2 (.tup [.str kd,.str pr,.int rk,vv])=H10 at S10 eT tk2 ⊢
     have S310:=S7.trans (S8.trans S10)
     have ed10:=S310 _ _ ed3
     have nn:¬ n∈es.map (·.1.1):=λz=>Es nd hn (sub.subset z)
     refine⟨_,DPut.k (k:=.inr n) ed10 (by rw[ae];omega),?_⟩
     rw[We (e:=(n,⟨kd,pr,rk,x⟩)) nn]
     have tu:=J8 (o:=.dK ((es++[((n,(⟨kd,pr,rk,x⟩:Rc)),T2)]).map kT)) (.inl ed10)
     refine⟨⟨_,_,_,_,_,_,rfl⟩,(S2.trans (S3.trans S310)).set hd0,_,Aa,λe h=>?_,?_⟩
     .rcases List.mem_append.mp h with h|h
      .exact⟨((he2 e h).1.up (NL.same (S3.trans S310)).tup).up tu,(he2 e h).2⟩
      .obtain rfl:e=((n,(⟨kd,pr,rk,x⟩:Rc)),T2):=by simpa using h
       exact⟨RcAt.up (x:=⟨kd,pr,rk,x⟩) tu ⟨vv,eT,tk2⟩,dp⟩
     .rw[aq,aA,hn]
      exact sub.append (cX _)
  .rintro U H1 ⟨⟨v4,v5,v6,v7,v8,v9,rfl⟩,S1,es,ed,he,sub⟩
   have sub2:=sub.trans (d8 _ ws)
   have e1:(es.map (·.1)).map (·.1)=es.map (·.1.1):=by rw[aI];rfl
   have sl:=sub2.length_le
   rw[ae] at sl
   refine .inl (k H1 d (es.map (·.1)) S1 ⟨es,rfl,⟨trivial,ed⟩,λe h=>(he e h).1⟩ ⟨by rw[e1];exact nd.sublist sub2,by rw[ae];omega,λx hx=>?_⟩ λx hx=>?_)
   .obtain⟨e,h,rfl⟩:=List.mem_map.mp hx
    exact (he e h).2
   .obtain⟨e,h,rfl⟩:=List.mem_map.mp hx
    exact sub2.subset (List.mem_map.mpr ⟨e,h,rfl⟩)
theorem TrAt.nl {H H':Hp} {d:Addr} {T:Tr} (h:TrAt any H d T) (S:NL H H'):TrAt any H' d T:=let ⟨es,e,⟨_,o⟩,q⟩:=h;⟨es,e,⟨trivial,S _ _ (λ_ z=>by cases z) o⟩,λx hx=>(q x hx).up S.tup⟩
theorem Wy {α:Type} {P:α->Addr->Prop}:∀ {vs:List V},(∀ v∈vs,∃ d T,v=.ref d/\P T d) -> ∃ es:List (α×Addr),vs=es.map (λe=>.ref e.2) /\ ∀ e∈es,P e.1 e.2
 |[],_=>⟨[],rfl,λe h=>by cases h⟩
 | v::vs,h=>by
  obtain⟨es,rfl,q⟩:=Wy λu hu=>h u (az _ hu)
  obtain⟨d,T,rfl,p⟩:=h v aN
  refine⟨(T,d)::es,rfl,λe he=>?_⟩
  rcases List.mem_cons.mp he with rfl|he
  .exact p
  .exact q e he
theorem Om (g:Nat->Addr) (ns:List Nat):(ns.map (kF g)).map (·.1)=ns.map λn:Nat=>(.inl (n:Int):Key):=by rw[aI];rfl
theorem ac9 {g:Nat->Addr} {ns:List Nat} {n:Nat} (h:¬ n∈ns):B3 (ns.map (kF g)) (.inl (n:Int))=none:=by
 refine B1 λq=>h ?_
 rw[Om] at q
 obtain⟨m,hm,e⟩:=List.mem_map.mp q
 injection e with e
 have:m=n:=by omega
 exact this▸hm
theorem ag7 (b:Bool) (x y:V):atI [x,y] (if b=true then 1 else 0)=some (if b=true then y else x):=by cases b <;> rfl
theorem ba7 (Z:Am K t):OkD K Zp (Aw K t) bl (t.f 19) (t.d 19) (U8 K t):=by
 refine okD (n:=40) (t:=bv1 K t) rfl (by decide +kernel) (by kernel_rfl) (λvs H Q E h=>?_) (λvs H Q E h=>?_)
 .obtain⟨a,ns,b,rfl,_⟩:=h;rfl
 .obtain⟨a,ns,b,rfl,hS,k⟩:=h
  have big:(1000:Nat)<sizeLine:=by decide
  refine⟨a,ns,0,rfl,hS,⟨by decide,by decide⟩,(show 2<=sizeLine by decide),λq hq=>⟨_,_,.inl (SqL.of Aa),ag7 b _ _,?_⟩⟩
  have S1:=Same.upd (o:=.lst [.int 24,.int 256]) hq
  generalize upd H q (.lst [.int 24,.int 256])=H1 at S1 ⊢
  refine⟨B9 ns 0 / 8,if b=true then 256 else 24,by cases b <;> rfl,by cases b <;> decide,by cases b <;> decide,λH2 W sw rules l kk f S2 hW=>?_⟩
  have S02:=S1.trans S2
  refine⟨a,ns,1,rfl,S02.seqL hS,a,ns,2,rfl,S02.seqL hS,(show 2<=sizeLine by decide),λq2 hq2=>⟨_,_,.inl (SqL.of Aa),ag7 b _ _,?_⟩⟩
  have S3:=Same.upd (o:=.lst [.int 8,.int 3]) hq2
  generalize upd H2 q2 (.lst [.int 8,.int 3])=H3 at S3 ⊢
  obtain⟨m2,lm2,em2⟩:∃ m:Nat,m<=8/\1+B9 ns 2 % (if b=true then 3 else 8)=(m:Int):=by
   cases b
   .exact⟨(1+B9 ns 2 % 8).toNat,by omega,by show 1+B9 ns 2 % 8=_;omega⟩
   .exact⟨(1+B9 ns 2 % 3).toNat,by omega,by show 1+B9 ns 2 % 3=_;omega⟩
  have ev:(if b=true then V.int 3 else V.int 8)=V.int (if b=true then 3 else 8):=by cases b <;> rfl
  rw[ev]
  refine⟨by cases b <;> decide,B9 ns 1,m2,by rw[<- em2];rfl,lm2,λH4 nm ws S4 enm lws ndw=>?_⟩
  have S04:=S02.trans (S3.trans S4)
  refine⟨a,ns,2,rfl,S04.seqL hS,⟨by decide,by decide⟩,by decide,⟨by omega,by omega⟩,?_⟩
  obtain⟨m4,l4,em4⟩:∃ m:Nat,(1<=m/\m<=4)/\1+B9 ns 2 / 8 % 4=(m:Int):=⟨(1+B9 ns 2 / 8 % 4).toNat,by omega,by omega⟩
  have em5:(1+B9 ns 2 / 8 % 4).toNat=m4:=by omega
  refine Gm (P:=λ_ v H'=>∃ d T,v=.ref d/\TrAt any H' d T/\Ci T /\ ∀ x∈T,x.1∈ws) (rest:=[some (.ref nm),some (.ref a)]) (λ_ _ _ _ S ⟨d,T,e,h,o⟩=>⟨d,T,e,h.nl S,o⟩) (Bp 0 (1+B9 ns 2 / 8 % 4).toNat) (λ_ _=>aR) (by rw[A7];omega) (λj x H5 Q1 hj S5 q=>?_) λD H5 vs S5 hD eD lv hv=>?_
  .obtain⟨hj,rfl⟩:=Cv hj
   exact⟨a,ns,3,rfl,(S04.trans S5).seqL hS,B9 ns 3,j,nm,ws,rfl,S5 _ _ enm,ndw,by omega,λH6 d T S6 hT okT wsT=>q _ H6 S6 ⟨d,T,rfl,hT,okT,wsT⟩⟩
  rw[A7,em5] at lv
  obtain⟨es,rfl,he⟩:=Wy (P:=λT d=>TrAt any H5 d T/\Ci T /\ ∀ x∈T,x.1∈ws) λv hm=>by
   obtain⟨j,hj⟩:=List.mem_iff_getElem?.mp hm
   exact hv j v hj
  rw[ae] at lv
  have hW5:=hW
  have S25:=S3.trans (S4.trans S5)
  intro F hF
  refine .inl ⟨_,_,.inl (SqL.of ((S25.trans (Same.upd hF)) _ _ hW.at_)),rfl,.inl ⟨⟨_,SqL.of ((S25.trans (Same.upd hF)) _ _ hW.fr)⟩,?_⟩⟩
  have S6:=Same.upd (o:=.dK []) hF
  have e6:upd H5 F (.dK []) F=some (.dK (([]:List Nat).map (kF λ_=>0))):=Aa
  show F0 (Itl K f) _ _ _ [some (.ref a),some (.bl b),some (.ref W),some (.ref nm),some (.int (1+B9 ns 2 / 8 % 4)),some (.ref D),some (.ref F),none] (upd H5 F (.dK []))
  generalize upd H5 F (.dK [])=H6 at S6 e6 ⊢
  have d0:Tr×Addr:=es[0]'(by omega)
  have asc:=Kc sw rules
  have ndf:(An sw rules).Nodup:=asc.imp λh=>aJ h
  have le256:(An sw rules).length<=256:=by
   have:=bu (λn=>!F5 sw rules n) (ay (Aj sw).length)
   rw[aV] at this
   exact aY this hW.ok.len
  refine Bg (Ap ((An sw rules).map λn:Nat=>V.int (n:Int))) (λi U H'=>(∃ v7,U=[some (.ref a),some (.bl b),some (.ref W),some (.ref nm),some (.int (1+B9 ns 2 / 8 % 4)),some (.ref D),some (.ref F),v7])/\Same H5 H' /\ ∃ u:Nat->Nat,(∀ n∈(An sw rules).take i,u n<es.length)/\H' F=some (.dK (((An sw rules).take i).map (kF λn=>(es.getD (u n) d0).2))))
   ⟨⟨_,rfl⟩,S6,λ_=>0,(λn hn=>by cases hn),e6⟩ (λ_ _ H' _ q=>(S25.trans q.2.1).seqL (SqL.of hW.fr)) ?_ ?_
  .rintro i x U H7 hx ⟨⟨v7,rfl⟩,S7,u,hu,eF⟩
   obtain⟨n,hn,rfl⟩:=Ak hx
   have S27:=S25.trans S7
   have S07:=S04.trans (S5.trans S7)
   refine⟨a,ns,4,rfl,S07.seqL hS,_,_,.inl (SqL.of (S27 _ _ hW.at_)),rfl,B9 ns 4,l,sw,n,m4,by rw[<- em4];rfl,hW.sws.mono (Kp.same S27),hW.ok,l4.1,λH8 v S8 hv2=>?_⟩
   have S78:=S7.trans S8
   have hv3:v<es.length:=by omega
   refine⟨_,_,.inl (SqL.of (S78 _ _ eD)),Bn (j:=v) (by rw[ak,ag hv3];rfl),.inr ⟨_,DPut.k (k:=.inl (n:Int)) (S8 _ _ eF) ?_,?_⟩⟩
   .rw[ae,aG];omega
   have nn:¬ n∈(An sw rules).take i:=Es ndf hn
   rw[Dw _ (ac9 nn)]
   refine⟨⟨_,rfl⟩,S78.set hF,λm=>if m=n then v else u m,λm hm=>?_,?_⟩
   .show (if m=n then v else u m)<_
    rw[aA,hn] at hm
    rcases List.mem_append.mp hm with hm|hm
    .rw[if_neg (λz:m=n=>nn (z▸hm))];exact hu m hm
    .obtain rfl:m=n:=by simpa using hm
     rw[if_pos rfl];exact hv3
   .rw[Aa,By hn]
    congr 3
    .refine bK λm hm=>?_
     show (_,V.ref (es.getD (u m) d0).2)=(_,V.ref (es.getD (if m=n then v else u m) d0).2)
     rw[if_neg (λz:m=n=>nn (z▸hm))]
    .show [((.inl (n:Int):Key),V.ref es[v].2)]=[(_,V.ref (es.getD (if n=n then v else u n) d0).2)]
     rw[if_pos rfl,ar,ag hv3];rfl
  .rintro U H7 ⟨⟨v7,rfl⟩,S7,u,hu,eF⟩
   rw[ae,aw] at hu eF
   refine .inl ⟨(show 3<=sizeLine by decide),λL hL=>?_⟩
   have S8:=Same.upd (o:=.lst [.ref W,.ref nm,.ref F]) hL
   have S28:=S25.trans (S7.trans S8)
   refine k _ L W nm F sw rules l kk f ws (λn=>(es.getD (u n) d0).2) (λn=>(es.getD (u n) d0).1) (S04.trans (S5.trans (S7.trans S8))) Aa ((S5.trans (S7.trans S8)) _ _ enm) ndw (by omega) (λn hn=>?_) ⟨S28 _ _ hW.at_,hW.sws.mono (Kp.same S28),hW.ok,hW.rl.mono (Kp.same S28),hW.rok,hW.few,S28 _ _ hW.fr,hW.ne⟩ ⟨S8 _ _ eF,λn hn=>?_,es.map (·.1),by rw[ae];omega,λn hn=>?_⟩
   .have hg:es.getD (u n) d0=es[u n]'(hu n hn):=by rw[ar,ag (hu n hn)];rfl
    show ∀ x∈(es.getD (u n) d0).1,x.1∈ws
    rw[hg]
    exact (he _ (bY (hu n hn))).2.2
   .have hg:es.getD (u n) d0=es[u n]'(hu n hn):=by rw[ar,ag (hu n hn)];rfl
    have:=he _ (bY (hu n hn))
    rw[hg]
    exact⟨this.1.nl (NL.same (S7.trans S8)),this.2.1⟩
   .have hg:es.getD (u n) d0=es[u n]'(hu n hn):=by rw[ar,ag (hu n hn)];rfl
    show (es.getD (u n) d0).1∈_
    rw[hg]
    exact cZ (bY (hu n hn))
theorem bn8 (Z:Am K t):OkD K ap5 (Aw K t) bl (t.m_zby 1) (t.e_zby 1) (al4 K t):=by
 refine okD (n:=40) (t:=b15 K t) rfl (by decide +kernel) (by kernel_rfl) (λvs H Q E h=>?_) (λvs H Q E h=>?_)
 .obtain⟨p,sw,rules,rfl,_⟩:=h;rfl
 .obtain⟨p,sw,rules,rfl,⟨dx,d,l,n,s,kk,b,hp⟩,k⟩:=h
  exact cP ⟨_,_,_,_,hp.ins.2,Z.pf.cl,(Z.pf.na _ (by simp)),rfl,k⟩
theorem a81 (Z:Am K t):OkD K D_zai (Aw K t) bl t.f_zai t.d_zai (ak0 K t):=by
 refine okD (n:=40) (t:=bs6 K t) rfl (by decide +kernel) (by kernel_rfl) (λvs H Q E h=>?_) (λvs H Q E h=>?_)
 .obtain⟨a,dx,rfl,_⟩:=h;rfl
 .obtain⟨a,dx,rfl,e,k⟩:=h
  intro d hd
  have ne:a≠d:=λz=>by rw[z,hd] at e;cases e
  exact .inl (.inl ⟨t.c_zbz,dx,[],by rw[Ad ne];exact e,Z.pc,Z.pr,by decide,k d hd ne.symm⟩)
theorem a90 (Z:Am K t):OkD K Vu (Aw K t) bl (t.m_zbz 2) (t.e_zbz 2) (Uw K t):=by
 refine okD (n:=40) (t:=bt5 K t) rfl (by decide +kernel) (by kernel_rfl) (λvs H Q E h=>?_) (λvs H Q E h=>?_)
 .obtain⟨p,dx,d,kvs,n,kd,q,r,v,rfl,_⟩:=h;rfl
 .obtain⟨p,dx,d,kvs,n,kd,q,r,v,rfl,e,ed,hl,k⟩:=h
  refine⟨(show 4<=sizeLine by decide),λa ha=>?_⟩
  have n1:p≠a:=λz=>by rw[z,ha] at e;cases e
  have n2:d≠a:=λz=>by rw[z,ha] at ed;cases ed
  exact cP ⟨_,_,_,.ref d,(by rw[Ad n1];exact e),Z.pc,Z.pr,rfl,⟨_,DPut.k (k:=.inr n) (by rw[Ad n2];exact ed) (a_ hl (by decide)),k a ha⟩⟩
theorem a13 (Z:Am K t):OkD K aq1 (Aw K t) bl (t.m_zbz 3) (t.e_zbz 3) (am2 K t):=by
 refine okD (n:=40) (t:=b24 K t) rfl (by decide +kernel) (by kernel_rfl) (λvs H Q E h=>?_) (λvs H Q E h=>?_)
 .obtain⟨p,T,rfl,_⟩:=h;rfl
 .obtain⟨p,T,rfl,⟨dx,d,⟨_,e⟩,es,et,⟨_,ed⟩,_⟩,o,k⟩:=h
  have ek:(es.map kT).map (·.1)=(T.map (·.1)).map (gN:Str->Key):=by rw[Jt,<- et,aI];simp[aI,Function.comp_def]
  have l8:(T.map (·.1)).length<=8:=by rw[ae];exact o.2.1
  have nd:=o.1
  generalize T.map (·.1)=zs at ek k l8 nd
  exact cP ⟨_,_,_,.ref d,e,Z.pc,Z.pr,rfl,.inr ⟨rfl,.inl ⟨d,zs,rfl,.inr ⟨_,.inl ed,ek⟩,nd,by omega,k⟩⟩⟩
theorem TrAt.up {ok:Addr->Prop} {H H':Hp} {d:Addr} {T:Tr} (h:TrAt ok H d T) (S:Same H H'):TrAt ok H' d T:=let ⟨es,e,⟨q,o⟩,z⟩:=h;⟨es,e,⟨q,S _ _ o⟩,λx hx=>(z x hx).up (NL.same S).tup⟩
theorem PlAt.up {C:Addr} {ok:Addr->Prop} {H H':Hp} {p:Addr} {T:Tr} (h:PlAt C ok H p T) (S:Same H H'):PlAt C ok H' p T:=let ⟨dx,d,⟨q,o⟩,z⟩:=h;⟨dx,d,⟨q,S _ _ o⟩,z.up S⟩
theorem af0 {H:Hp} {C a dx d0:Addr} (ha:H a=none) (hdx:H dx=none) (ne:dx≠a) (hd0:upd (upd H dx (.own a)) a (.ins C dx []) d0=none) :
  H d0=none/\Same H (upd (upd (upd (upd H dx (.own a)) a (.ins C dx [])) d0 (.dK [])) a (.ins C dx [("records", .ref d0)]))/\upd (upd (upd (upd H dx (.own a)) a (.ins C dx [])) d0 (.dK [])) a (.ins C dx [("records", .ref d0)]) d0=some (.dK []):=by
 have n1:d0≠a:=λc=>by rw[c,Aa] at hd0;cases hd0
 have n2:d0≠dx:=λc=>by rw[c,Ad ne,Aa] at hd0;cases hd0
 have hd1:H d0=none:=by rw[Ad n1,Ad n2] at hd0;exact hd0
 exact⟨hd1,(((Same.upd hdx).set ha).set hd1).set ha,by rw[Ad n1,Aa]⟩
theorem bo2 (Z:Am K t):OkD K ap8 (Aw K t) bl (t.m_zbz 0) (t.e_zbz 0) (al8 K t):=by
 refine okD (n:=40) (t:=b19 K t) rfl (by decide +kernel) (by kernel_rfl) (λvs H Q E h=>?_) (λvs H Q E h=>?_)
 .obtain⟨p,T,rfl,_⟩:=h;rfl
 .obtain⟨p,T,rfl,hP,k⟩:=h
  intro a dx ha hdx ne
  refine⟨a,dx,rfl,Aa,λd0 hd0 _=>⟨rfl,?_⟩⟩
  obtain⟨_,S1,_⟩:=af0 ha hdx ne hd0
  have ea:upd (upd (upd (upd H dx (.own a)) a (.ins t.c_zbz dx [])) d0 (.dK [])) a (.ins t.c_zbz dx [("records", .ref d0)]) a=some (.ins t.c_zbz dx [("records", .ref d0)]):=Aa
  generalize upd (upd (upd (upd H dx (.own a)) a (.ins t.c_zbz dx [])) d0 (.dK [])) a (.ins t.c_zbz dx [("records", .ref d0)])=H1 at S1 ea ⊢
  obtain⟨dx1,d,⟨_,e1⟩,es,et,⟨_,ed⟩,he⟩:=hP.up S1
  refine cP ⟨_,_,_,.ref d,e1,Z.pc,Z.pr,rfl,⟨d,_,rfl,.inl ed,λq hq=>?_⟩⟩
  have S2:=Same.upd (o:=.dK (es.map kT)) hq
  have eq:upd H1 q (.dK (es.map kT)) q=some (.dK (es.map kT)):=Aa
  have he2:∀ e∈es,RcAt (upd H1 q (.dK (es.map kT))) e.2 e.1.2:=λe h=>(he e h).up (NL.same S2).tup
  generalize upd H1 q (.dK (es.map kT))=H2 at S2 eq he2 ⊢
  have ea2:=S2 _ _ ea
  refine .inl ⟨_,_,_,ea2,Z.pc,Z.pr,(show 1<1000 by decide),k _ a ((S1.trans S2).set ha) ⟨dx,q,⟨trivial,Aa⟩,es,et,⟨trivial,by rw[Ad λz=>by rw[z,ea2] at eq;cases eq];exact eq⟩,λe h=>(he2 e h).up λb ys e=>?_⟩⟩
  rw[Ad λz=>by rw[z,ea2] at e;cases e];exact e
theorem an2 {H:Hp} {F:Str->TK}:∀ {zs:List Str} {vs:List V},vs.length=zs.length->(∀ (i:Nat) v z,vs[i]? = some v->zs[i]? = some z->TkAt H (F z) v)->Ay H (zs.map F) vs
 |[],[],_,_=>by rw[fv];unfold Ay;rfl
 |[],_::_,h,_=>by cases h
 |_::_,[],h,_=>by cases h
 |z::zs,v::vs,h,g=>by rw[aP];unfold Ay;exact⟨v,vs,rfl,g 0 v z rfl rfl,an2 (by simpa using h) λi v z h1 h2=>g (i+1) v z h1 h2⟩
theorem bn4 (Z:Am K t):OkD K ap2 (Aw K t) bl (t.m_zbz 5) (t.e_zbz 5) (al0 K t):=by
 refine okD (n:=40) (t:=b08 K t) rfl (by decide +kernel) (by kernel_rfl) (λvs H Q E h=>?_) (λvs H Q E h=>?_)
 .obtain⟨p,T,rfl,_⟩:=h;rfl
 .obtain⟨p,T,rfl,hP,o,k⟩:=h
  have big:(1000:Nat)<sizeLine:=by decide
  obtain⟨dx,d,⟨_,e⟩,es,et,⟨_,ed⟩,he⟩:=id hP
  have nde:(es.map (·.1.1)).Nodup:=by have:=o.1;rw[<- et,aI] at this;exact this
  refine⟨p,dx,_,⟨t.c_zbz,as6 K t⟩,rfl,.head _,e,rfl,⟨ah _,ah _⟩,⟨p,T,rfl,hP,o,λl hl=>?_⟩⟩
  have S1:=Same.upd (o:=Au (B0 ltS (T.map (·.1)))) hl
  have e1:upd H l (Au (B0 ltS (T.map (·.1)))) l=some (Au (B0 ltS (T.map (·.1)))):=Aa
  have pm:=A9 ltS (T.map (·.1))
  have hm:∀ n∈B0 ltS (T.map (·.1)),n∈T.map (·.1):=λn hn=>pm.mem_iff.mp hn
  have lm:=pm.length_eq
  have hvk:vkT T=.tup ((B0 ltS (T.map (·.1))).map λn=>.tup [.at_ (.inr n),Ud T n]):=rfl
  rw[hvk] at k
  rw[ae] at lm
  have l8:=o.2.1
  generalize B0 ltS (T.map (·.1))=zs at S1 e1 hm lm k ⊢
  refine .inl ⟨⟨_,SqL.of e1⟩,?_⟩
  generalize upd H l (Au zs)=H1 at S1 e1 ⊢
  refine Gm (P:=λi v H'=>∀ z,zs[i]? = some z->TkAt H' (.tup [.at_ (.inr z),Ud T z]) v) (rest:=[some (.ref p)]) (λi v _ _ S q z hz=>(q z hz).up S.tup) (Ap (zs.map V.str)) (λH2 S2=>S2.seqL (SqL.of e1)) (by rw[ae];omega) (λi x H2 Q1 hx S2 q=>?_) λD H2 vs S2 hD eD lv hv=>?_
  .obtain⟨z,hz,rfl⟩:=Ak hx
   have S02:=S1.trans S2
   obtain⟨⟨z',x⟩,hx1,hx2⟩:=List.mem_map.mp (hm z (al hz))
   obtain rfl:z'=z:=hx2
   rw[<- et] at hx1
   obtain⟨e',he',ee⟩:=List.mem_map.mp hx1
   obtain⟨j,hj⟩:=List.mem_iff_getElem?.mp he'
   have hv:=Oo nde hj
   have hr:=he e' he'
   rw[ee] at hv hr
   refine cP ⟨_,_,_,.ref d,S02 _ _ e,Z.pc,Z.pr,rfl,⟨.ref e'.2,.inl ⟨_,.inr z',.inl (S02 _ _ ed),rfl,hv.symm⟩,(show 2<=sizeLine by decide),λB hB=>q _ _ (Same.upd hB) λz2 hz2=>?_⟩⟩
   rw[hz] at hz2
   cases hz2
   have rt:Ud T z'=rcT x:=Ue (Tn o.1 (by rw[<- et];exact hx1))
   rw[rt]
   unfold TkAt
   refine⟨B,_,rfl,Aa,?_⟩
   unfold Ay;refine⟨_,_,rfl,by unfold TkAt;rfl,?_⟩
   unfold Ay;refine⟨_,_,rfl,hr.tk.up (NL.same (S02.trans (Same.upd hB))).tup,?_⟩
   unfold Ay;rfl
  .rw[ae] at lv
   refine⟨_,.inl ⟨SqL.of eD,λB hB=>k _ B (S1.trans (S2.trans (Same.upd hB))) ?_⟩⟩
   unfold TkAt
   exact⟨B,vs,rfl,Aa,an2 lv λi v z h1 h2=>(hv i v h1 z h2).up (NL.same (Same.upd hB)).tup⟩
theorem a41 (m n:Nat):decide (bO ((m:Int) / 2 ^ ((n:Int)).toNat) 1=1)=m.testBit n:=by
 rw[aT,Fp,<- Int.natCast_ediv,show (1:Int)=((1:Nat):Int) from rfl,Bx,Nat.and_one_is_mod,Nat.testBit_eq_decide_div_mod_eq]
 exact decide_eq_decide.mpr (by omega)
theorem bb5 (Z:Am K t):OkD K Zx (Aw K t) bl (t.f 0) (t.d 0) (Pr K t):=by
 refine okD (n:=40) (t:=bv9 K t) rfl (by decide +kernel) (by kernel_rfl) (λvs H Q E h=>?_) (λvs H Q E h=>?_)
 .obtain⟨c,n,rfl,_⟩:=h;rfl
 .obtain⟨c,n,rfl,k⟩:=h
  rw[<- a41] at k
  exact⟨by omega,k⟩
noncomputable def bits (c:Nat):Nat:=hG (c:Int)
theorem ar2 (c:Nat):c<2 ^ bits c:=by
 have h:=(jV (m:=bits c) (x:=(c:Int))).mp (ah _)
 simpa using h
theorem ar1 {c m:Nat} (h:c<2 ^ m):bits c<=m:=(jV (m:=m) (x:=(c:Int))).mpr (by simpa using h)
theorem bo5 (Z:Am K t):OkD K a35 (Aw K t) bl (t.f 1) (t.d 1) (Np K t):=by
 refine okD (n:=40) (t:=b22 K t) rfl (by decide +kernel) (by kernel_rfl) (λvs H Q E h=>?_) (λvs H Q E h=>?_)
 .obtain⟨c,o,rfl,_⟩:=h;rfl
 .obtain⟨c,o,rfl,ho,hc,k⟩:=h
  have hbl:=ar1 hc
  refine⟨rfl,_,rfl,rfl,⟨by show -(2 ^ 62)<=((bits c:Nat):Int);omega,by show ((bits c:Nat):Int)<2 ^ 62;omega⟩,?_⟩
  show F0 (Itr 0 (bits c)) _ _ _ [some (.int (c:Int)),none] _
  refine Bg (Bp 0 (bits c)) (λm U H'=>(∃ v,U=[some (.int (c:Int)),v])/\H'=H /\ ∀ n,o=some n->m<=n) ⟨⟨_,rfl⟩,rfl,λ_ _=>bb _⟩ (λ_ _ _ _ _=>aR) ?_ ?_
  .rintro m x U H1 hx ⟨⟨v,rfl⟩,rfl,no⟩
   obtain⟨hm,rfl⟩:=Cv hx
   refine⟨c,m,rfl,?_⟩
   cases o with
   |none=>
    have ho:c=0:=ho
    have hz:c.testBit m=false:=by rw[ho];exact dw m
    rw[hz];exact⟨⟨_,rfl⟩,rfl,λ_ z=>by cases z⟩
   |some n=>
    obtain⟨hb,hn⟩:=ho
    rcases Nat.eq_or_lt_of_le (no n rfl) with rfl|h
    .rw[hb];exact k
    .rw[hn m h];exact⟨⟨_,rfl⟩,rfl,λ_ z=>by cases z;exact h⟩
  .rintro U H1 ⟨⟨v,rfl⟩,rfl,no⟩
   rw[A7] at no
   cases o with
   |none=>exact .inl k
   |some n=>
    obtain⟨hb,hn⟩:=ho
    rw[Nat.testBit_lt_two_pow (aL (ar2 c) (g5 (by decide) (no n rfl)))] at hb
    cases hb
theorem a96 (Z:Am K t):OkD K Zf (Aw K t) bl (t.f 34) (t.d 34) (U1 K t):=by
 refine okD (n:=40) (t:=bu0 K t) rfl (by decide +kernel) (by kernel_rfl) (λvs H Q E h=>?_) (λvs H Q E h=>?_)
 .obtain⟨d0,T,rfl,_⟩:=h;rfl
 .obtain⟨d0,T,rfl,hT,oT,k⟩:=h
  intro p dx hp0 hdx nep
  refine⟨p,dx,rfl,Aa,λd hd0 npd=>⟨rfl,?_⟩⟩
  obtain⟨hd,S1,e1d⟩:=af0 hp0 hdx nep hd0
  have e1p:upd (upd (upd (upd H dx (.own p)) p (.ins t.c_zbz dx [])) d (.dK [])) p (.ins t.c_zbz dx [("records", .ref d)]) p=some (.ins t.c_zbz dx [("records", .ref d)]):=Aa
  generalize upd (upd (upd (upd H dx (.own p)) p (.ins t.c_zbz dx [])) d (.dK [])) p (.ins t.c_zbz dx [("records", .ref d)])=H1 at S1 e1d e1p ⊢
  obtain⟨es,et,⟨_,ed⟩,he⟩:=hT.up S1
  have nde:(es.map (·.1.1)).Nodup:=by have:=oT.1;rw[<- et,aI] at this;exact this
  have l8:=oT.2.1
  have le:es.length=T.length:=by rw[<- et,ae]
  have ndd:d≠d0:=λz=>by
   obtain⟨es2,_,⟨_,e2⟩,_⟩:=hT
   rw[<- z,hd] at e2;cases e2
  have npd0:p≠d0:=λz=>by rw[z,ed] at e1p;cases e1p
  refine .inr (.inr (.inl (.inl ⟨_,ed,λo=>?_⟩)))
  have ef:upd H1 d0 (.frz o (.dK (es.map kT))) d0=some (.frz o (.dK (es.map kT))):=Aa
  have tf:=J8 (o:=.frz o (.dK (es.map kT))) (.inl ed)
  have efd:upd H1 d0 (.frz o (.dK (es.map kT))) d=some (.dK []):=by rw[Ad ndd];exact e1d
  have efp:upd H1 d0 (.frz o (.dK (es.map kT))) p=some (.ins t.c_zbz dx [("records", .ref d)]):=by rw[Ad npd0];exact e1p
  have of:∀ b u,b≠d0->H1 b=some u->upd H1 d0 (.frz o (.dK (es.map kT))) b=some u:=λb u nb e=>by rw[Ad nb];exact e
  show F0 (Itd d0 o (es.map kT)) _ _ _ [some (.ref d0),some (.ref p),none,none,none,none,none] _
  generalize upd H1 d0 (.frz o (.dK (es.map kT)))=Hf at ef tf efd efp of ⊢
  refine Bg (Fy (es.map kT)) (λi U H'=>(∃ v2 v3 v4 v5 v6,U=[some (.ref d0),some (.ref p),v2,v3,v4,v5,v6])/\(∀ a u,a≠d->Hf a=some u->H' a=some u) /\ ∃ fs:List ((Str×Rc)×Addr),fs.map (·.1)=T.take i/\H' d=some (.dK (fs.map kT)) /\ ∀ e∈fs,RcAt H' e.2 e.1.2)
   ⟨⟨_,_,_,_,_,rfl⟩,(λ_ _ _ e=>e),[],rfl,efd,λe h=>by cases h⟩ (λ_ _ H' _ q=>q.2.1 _ _ ndd.symm ef) ?_ ?_
  .rintro i x U H2 hx ⟨⟨v2,v3,v4,v5,v6,rfl⟩,B2,fs,ft,e2d,hf⟩
   rw[aI] at hx
   obtain⟨e,hi,rfl⟩:=Ak hx
   have tt:∀ b ys,H1 b=some (.tup ys)->H2 b=some (.tup ys):=λb ys q=>B2 _ _ (λz=>by rw[z,e1d] at q;cases q) (tf _ _ q)
   obtain⟨v,er,tk⟩:=(he e (al hi)).up tt
   have hiT:T[i]? = some e.1:=by rw[<- et,ak,hi];rfl
   have nn:¬ e.1.1∈fs.map (·.1.1):=λz=>by
    have:e.1.1∈(T.take i).map (·.1):=by rw[<- ft,aI];exact z
    rw[i5] at this
    exact Es oT.1 (show (T.map (·.1))[i]? = some e.1.1 by rw[ak,hiT];rfl) this
   have lf:fs.length<=8:=by
    have:=congrArg b9 ft
    rw[ae,aG] at this
    omega
   refine⟨.ref e.2,.inl ⟨_,.inr e.1.1,.inr ⟨o,B2 _ _ ndd.symm ef⟩,rfl,(Oo nde hi).symm⟩,_,.inl (SqT.of er),rfl,?_⟩
   refine⟨p,dx,_,⟨t.c_zbz,a12 K t⟩,rfl,.head _,B2 _ _ (cy npd) efp,rfl,⟨ah _,ah _⟩,⟨p,dx,d,_,e.1.1,e.1.2.k,e.1.2.p,e.1.2.r,v,rfl,B2 _ _ (cy npd) efp,e2d,by rw[ae];exact lf,λa ha=>?_⟩⟩
   have nda:d≠a:=Ai e2d ha
   have Sa:=Same.upd (o:=.tup [.str e.1.2.k,.str e.1.2.p,.int e.1.2.r,v]) ha
   have ea:upd H2 a (.tup [.str e.1.2.k,.str e.1.2.p,.int e.1.2.r,v]) a=some (.tup [.str e.1.2.k,.str e.1.2.p,.int e.1.2.r,v]):=Aa
   generalize upd H2 a (.tup [.str e.1.2.k,.str e.1.2.p,.int e.1.2.r,v])=H3 at Sa ea ⊢
   have tu:=J8 (o:=.dK ((fs++[(e.1,a)]).map kT)) (.inl (Sa _ _ e2d))
   rw[We (e:=e.1) nn]
   refine⟨⟨_,_,_,_,_,rfl⟩,λb u nb q=>by rw[Ad nb];exact Sa _ _ (B2 b u nb q),_,?_,Aa,λf hf2=>?_⟩
   .rw[aq,ft,aA,hiT];rfl
   .rcases List.mem_append.mp hf2 with h|h
    .exact ((hf f h).up (NL.same Sa).tup).up tu
    .obtain rfl:f=(e.1,a):=by simpa using h
     exact RcAt.up (x:=e.1.2) tu ⟨v,ea,tk.up (NL.same Sa).tup⟩
  .rintro U H2 ⟨⟨v2,v3,v4,v5,v6,rfl⟩,B2,fs,ft,e2d,hf⟩
   rw[ae,ae,le,aw] at ft
   have e2f:=B2 _ _ ndd.symm ef
   refine .inr ⟨d0,o,_,ed,e2f,k _ p (λb u q=>?_) ⟨dx,d,⟨trivial,by rw[Ad npd0];exact B2 _ _ (cy npd) efp⟩,fs,ft,⟨trivial,by rw[Ad ndd];exact e2d⟩,λf h=>(hf f h).up (J8 (.inr ⟨o,e2f⟩))⟩⟩
   by_cases hb:b=d0
   .subst hb
    rw[Aa,<- ed,S1 _ _ q]
   .rw[Ad hb]
    exact B2 _ _ (λz=>by rw[z,hd] at q;cases q) (of _ _ hb (S1 _ _ q))
theorem ba2 (Z:Am K t):OkD K D_zbd (Aw K t) bl (t.f 20) (t.d 20) (U5 K t):=by
 intro P w mg base dV F T
 obtain⟨oc,od,kV,doc,pm,an,cdv,ct,osl,ef,lk,hcd⟩:=id F.ex
 have hl:(match (t.d 20).code with
  |.ref c=>dM K c 132
  |_=>false)=true:=by
  have:=Z.lam
  unfold Kl at this
  rw[lk] at this
  exact this
 obtain⟨c,hcode,hc⟩:∃ c,(t.d 20).code=.ref c/\dM K c 132=true:=by
  cases e:(t.d 20).code with
  |ref c=>rw[e] at hl;exact⟨c,rfl,hl⟩
  |_=>rw[e] at hl;cases hl
 have T5:=T 5 (by decide)
 have T2:=T 2 (by decide)
 obtain⟨hb1,hb2⟩:=T5.1 "__builtins__" (.val (.ref 4) (t.u 0)) (List.mem_filterMap.mpr ⟨⟨0, "__builtins__", .val (.ref 4) (t.u 0)⟩,aM _ (cm _ aN),rfl⟩)
 have hbm:mg "__builtins__" = some (.ref 4):=by rw[hb1];exact congrArg some hb2
 refine a52 (j:=2) (m:=40) (n:=40) (N:=D_zbd.N) (N':=["pair"]) (dl:=bu6 K t) (da:=Ab 0) F (ScOk.fn (by decide +kernel)) (by decide +kernel) T5 T2 rfl (by decide +kernel) (T5.2 _ (by decide)) rfl hcode hc hbm (λ_=>rfl) (λ_=>rfl) (ScOk.fn (by decide +kernel)) (by decide +kernel) rfl (λ_ _ _ _ _=>rfl) (by kernel_rfl) (by kernel_rfl) (λvs H Q E h=>?_) (λvs H Q E h=>?_)
 .obtain⟨b,es,rfl,_⟩:=h;rfl
 .obtain⟨b,es,rfl,⟨hP,ob,u,hB,b1,b2,b3⟩,eb,l64,asc,one,k⟩:=h
  have e2:(es.map λe=>(((e.1.2.1:Nat):Int),V.ref e.2.2)).map (·.2)=es.map λe=>V.ref e.2.2:=by rw[aI];rfl
  refine⟨.ref b,rfl,b,ob,u,es.map λe=>(((e.1.2.1:Nat):Int),V.ref e.2.2),rfl,by rw[e2];exact SqL.of eb,by rw[ae];exact l64,?_,hP,hB,⟨b1,b2,b3⟩,λd hd H3 O3=>?_,λH' D O _ e=>k H' D O (by rw[e,e2])⟩
  .rw[aI]
   have:=gG (S:=λa b:Int=>a<b) (λn:Nat=>(n:Int)) (λa b h=>by omega) asc
   rw[aI] at this
   exact this
  .obtain⟨e,he,rfl⟩:=List.mem_map.mp hd
   obtain⟨h1,h2,h3,h4⟩:=one e he
   have e3:=O3 _ _ (λz=>by rw[z,hP] at h1;cases h1) h1
   exact⟨_,_,.inr (SqT.of e3),rfl,e.1.2.2,some e.1.2.1,rfl,⟨h2,h3⟩,h4,rfl,Same.refl _⟩
theorem a45 {p:Addr} {o:Obj} {kvs:List (TK×V)} {g:DG} {tc:DT} {te:DE} {L:Addr} {R:Hp->Prop} {U:St} {H:Hp} {E:EK} (Pv:Nat->St->Hp->Prop) (h0:Pv 0 U H) (hok:∀ i U H,Pv i U H->H p=some (.frz o (.dT kvs)))
  (hs:∀ i k v b U H,kvs[i]? = some (k,v)->Ar k<=8/\TkAt H k (.ref b)->Pv i U H->g (.ref b) U H λU3 H3=>tc U3 H3 (λb H4=>if b=true then te U3 H4 (λv H5=>∃ ys,H5 L=some (.lst ys)/\ys.length<sizeLine/\Pv (i+1) U3 (upd H5 L (.lst (ys++[v])))) E else Pv (i+1) U3 H4) E)
  (hd:∀ U H,Pv kvs.length U H->R H):E8 (aq4 p o kvs) g tc te L R U H E:=by
 refine⟨λi m U H=>m=kvs.length - i/\i<=kvs.length/\Pv i U H,⟨kvs.length,by simp,bb _,h0⟩,?_⟩
 rintro i m U H ⟨rfl,hi,q⟩
 by_cases hlt:i<kvs.length
 .refine .inr ⟨⟨hok i U H q,hlt⟩,Pv (i+1),λU' H' p'=>⟨kvs.length - (i+1),by omega,rfl,hlt,p'⟩,λx H' y=>?_⟩
  obtain⟨rfl,k,v,h1,h2,h3,b,rfl⟩:=y
  exact hs i k v b U _ h1 ⟨h2,h3⟩ q
 .have e:i=kvs.length:=by omega
  subst e
  exact .inl ⟨⟨hok _ U H q,ah _⟩,hd U H q⟩
noncomputable abbrev gK (g:Gp):TK×V:=(g.1,.int (g.2.2:Int))
theorem Jl (gs:List Gp):(gs.map gK).map (·.1)=gs.map (·.1):=by rw[aI];rfl
theorem any_mem {κ:Type} [DecidableEq κ] {kvs:List (κ×V)} {k:κ}:(kvs.any λkv=>decide (kv.1=k))=true ↔ k∈kvs.map (·.1):=by
 rw[bX,au]
 exact⟨fun⟨x,h,e⟩=>⟨x,h,of_decide_eq_true e⟩,fun⟨x,h,e⟩=>⟨x,h,decide_eq_true e⟩⟩
theorem Yi {κ:Type} [DecidableEq κ] (kvs:List (κ×V)) (k:κ) (v:V):(Cu kvs k v).map (·.1)=if k∈kvs.map (·.1) then kvs.map (·.1) else kvs.map (·.1)++[k]:=by
 unfold Cu
 by_cases h:k∈kvs.map (·.1)
 .rw[if_pos (any_mem.mpr h),if_pos h,aI]
  exact bK λkv _=>by show (if _ then _ else _:κ×V).1=_;split <;> rfl
 .rw[if_neg (λz=>h (any_mem.mp z)),if_neg h,aq];rfl
theorem Yh (gs:List Gp) (k:TK) (n:Nat):(Gz gs k n).map (·.1)=if k∈gs.map (·.1) then gs.map (·.1) else gs.map (·.1)++[k]:=by
 unfold Gz
 by_cases h:k∈gs.map (·.1)
 .rw[if_pos h,if_pos h,aI]
  exact bK λg _=>by show (if _ then _ else _:Gp).1=_;split <;> rfl
 .rw[if_neg h,if_neg h,aq];rfl
theorem ah4 {κ:Type} [DecidableEq κ] {kvs:List (κ×V)} {k:κ} {v:V} {x:κ×V} (h:x∈Cu kvs k v):x∈kvs\/(x.1=k/\x.2=v):=by
 unfold Cu at h
 split at h
 .obtain⟨y,hy,rfl⟩:=List.mem_map.mp h
  split
  .exact .inr ⟨‹_›,rfl⟩
  .exact .inl hy
 .rcases List.mem_append.mp h with h|h
  .exact .inl h
  .obtain rfl:x=(k,v):=by simpa using h
   exact .inr ⟨rfl,rfl⟩
theorem av8 {gs:List Gp} {n:Nat} (k:TK) (h:GInv n gs):∃ old:Nat,(B3 (gs.map gK) k).getD (.int 0)=.int (old:Int)/\Cu (gs.map gK) k (.int ((old ||| 2 ^ n:Nat):Int))=(Gz gs k n).map gK:=by
 have nd:((gs.map gK).map (·.1)).Nodup:=by rw[Jl];exact h.nd
 by_cases hk:k∈gs.map (·.1)
 .obtain⟨g,hg,rfl⟩:=List.mem_map.mp hk
  obtain⟨j,hj⟩:=List.mem_iff_getElem?.mp hg
  refine⟨g.2.2,by rw[Bm nd (i:=j) (k:=g.1) (v:=.int (g.2.2:Int)) (by rw[ak,hj];rfl)];rfl,?_⟩
  unfold Cu Gz
  rw[if_pos (any_mem.mpr (by rw[Jl];exact hk)),if_pos hk,aI,aI]
  refine bK λg' hg'=>?_
  show (if g'.1=g.1 then (g'.1,V.int ((g.2.2 ||| 2 ^ n:Nat):Int)) else gK g')=gK (if g'.1=g.1 then _ else g')
  split
  .rename_i e
   have:g'=g:=by
    obtain⟨i,hi⟩:=List.mem_iff_getElem?.mp hg'
    have l1:=Al hi
    have l2:=Al hj
    rw[ag l1] at hi
    rw[ag l2] at hj
    have:=(cH (i:=i) (j:=j) (h₀:=by rw[ae];exact l1) (h₁:=by rw[ae];exact l2) h.nd).mp (by rw[cR,cR,aH hi,aH hj,e])
    subst this
    exact (aH hi).symm.trans (aH hj)
   rw[this]
  .rfl
 .have hv:B3 (gs.map gK) k=none:=B1 (by rw[Jl];exact hk)
  refine⟨0,by rw[hv];rfl,?_⟩
  rw[Dw _ hv,av7 hk,aq,Nat.zero_or]
  rfl
theorem PlAt.keep {C:Addr} {H H':Hp} {p:Addr} {T:Tr} (h:PlAt C any H p T) (n:∀ a o,(∀ l,o≠.dT l)->H a=some o->H' a=some o):PlAt C any H' p T:=
 let ⟨dx,d,⟨_,o⟩,es,e,⟨_,q⟩,z⟩:=h
 ⟨dx,d,⟨trivial,n _ _ (λ_ z=>by cases z) o⟩,es,e,⟨trivial,n _ _ (λ_ z=>by cases z) q⟩,λx hx=>(z x hx).up λb ys=>n b _ λ_ z=>by cases z⟩
theorem Tx {H:Hp} {a:Addr} {l:List (TK×V)} {o:HO} (h:H a=some (.dT l)):∀ b u,(∀ l,u≠.dT l)->H b=some u->upd H a o b=some u:=λb u n e=>by rw[Ad λz=>by rw[z,h] at e;cases e;exact n _ rfl];exact e
theorem aq8 {A n:Nat} (h:A.testBit n=true):bO ((2 ^ n:Nat):Int) (A:Int)=((2 ^ n:Nat):Int):=by
 rw[Bx]
 congr 1
 refine d6 λj=>?_
 rw[cF,c8]
 by_cases e:n=j
 .subst e;rw[h,f_]
 .rw[decide_eq_false e];rfl
noncomputable def NB (H H':Hp):Prop:=∀ a o,(∀ x,o≠.tbl x)->H a=some o->H' a=some o
theorem NB.of {P:Addr} {H H':Hp} {x:Array ai} (O:Qh P H H') (h:H P=some (.tbl x)):NB H H':=λa o n e=>O _ _ (λz=>by rw[z,h] at e;cases e;exact n _ rfl) e
theorem NB.tu {H H':Hp} (n:NB H H') {a:Addr} {xs:List V} (e:H a=some (.tup xs)):H' a=some (.tup xs):=n _ _ (λ_ z=>by cases z) e
theorem PlAt.nb {C:Addr} {H H':Hp} {p:Addr} {T:Tr} (h:PlAt C any H p T) (n:NB H H'):PlAt C any H' p T:=
 let ⟨dx,d,⟨_,o⟩,es,e,⟨_,q⟩,z⟩:=h
 ⟨dx,d,⟨trivial,n _ _ (λ_ z=>by cases z) o⟩,es,e,⟨trivial,n _ _ (λ_ z=>by cases z) q⟩,λx hx=>(z x hx).up λb ys=>n b _ λ_ z=>by cases z⟩
theorem PlAt.nl {C:Addr} {H H':Hp} {p:Addr} {T:Tr} (h:PlAt C any H p T) (n:NL H H'):PlAt C any H' p T:=
 let ⟨dx,d,⟨_,o⟩,z⟩:=h
 ⟨dx,d,⟨trivial,n _ _ (λ_ z=>by cases z) o⟩,z.nl n⟩
theorem a94 (Z:Am K t):OkD K Zd (Aw K t) bl (t.f 21) (t.d 21) (Uz K t):=by
 refine okD (n:=40) (t:=bt8 K t) rfl (by decide +kernel) (by kernel_rfl) (λvs H Q E h=>?_) (λvs H Q E h=>?_)
 .obtain⟨A,l,ns,tr,rs,rfl,_⟩:=h;rfl
 .obtain⟨A,l,ns,tr,rs,rfl,hst,hR,hn,asc,few,k⟩:=h
  have big:(1000:Nat)<sizeLine:=by decide
  have f4:=Wb asc few
  intro sx hsx
  refine .inr ?_
  have S1:=Same.upd (o:=.dT []) hsx
  have e1:upd H sx (.dT []) sx=some (.dT []):=Aa
  generalize upd H sx (.dT [])=H1 at S1 e1 ⊢
  intro px hpx
  refine .inr ?_
  have S2:=S1.trans (Same.upd (o:=.dT []) hpx)
  have fpx:=S1.free hpx
  have nsp:sx≠px:=Ai e1 hpx
  have e2s:upd H1 px (.dT []) sx=some (.dT (([]:List Gp).map gK)):=by rw[Ad nsp];exact e1
  have e2p:upd H1 px (.dT []) px=some (.dT []):=Aa
  generalize upd H1 px (.dT [])=H2 at S2 e2s e2p ⊢
  refine .inl ⟨⟨_,SqL.of (S2 _ _ hR.at_)⟩,?_⟩
  refine Bg (Ap (rs.map λr=>V.ref r.2.1)) (λi U H'=>(∃ v4 v5 v6,U=[some (.int (A:Int)),some (.ref l),some (.ref sx),some (.ref px),v4,v5,v6])/\Same H H'/\H' sx=some (.dT ((Cg (λn=>vkT (tr n)) (ns.take i)).map gK)) /\ ∃ kp:List (TK×V),H' px=some (.dT kp)/\kp.map (·.1)=(Cg (λn=>vkT (tr n)) (ns.take i)).map (·.1) /\ ∀ x∈kp,∃ p T,x.2=.ref p/\PlAt t.c_zbz any H' p T/\Ci T/\vkT T=x.1)
   ⟨⟨_,_,_,rfl⟩,S2,e2s,[],e2p,rfl,λx hx=>by cases hx⟩ (λ_ _ H' _ q=>q.2.1.seqL (SqL.of hR.at_)) ?_ ?_
  .rintro i x U H3 hx ⟨⟨v4,v5,v6,rfl⟩,S3,e3s,kp,e3p,ek,hk⟩
   obtain⟨⟨n,T,p⟩,hi,rfl⟩:=Ak hx
   have hi2:ns[i]? = some n:=by rw[<- hR.nms,ak,hi];rfl
   obtain⟨eT,hP⟩:=hR.one _ (al hi)
   obtain⟨okT,bt,_⟩:=hn n (al hi2)
   have gi:=Gs (f:=λn=>vkT (tr n)) asc i n (Qc asc hi2)
   have st:=Fe (f:=λn=>vkT (tr n)) hi2
   have f4i:=f4 i
   generalize hgs:Cg (λn=>vkT (tr n)) (ns.take i)=gs at e3s ek gi st f4i
   have ab:=aq8 bt
   refine⟨_,.inl (SqT.of (S3 _ _ eT)),rfl,?_⟩
   have pos:=Nat.two_pow_pos n
   refine Ei (by
    show (!decide (bO ((2 ^ n:Nat):Int) (A:Int)=0))=true
    rw[ab,decide_eq_false (by omega)];rfl) ?_
   have hP3:=PlAt.up hP S3
   obtain⟨dx,d,⟨_,ep⟩,_⟩:=id hP3
   refine⟨p,dx,_,⟨t.c_zbz,bl0 K t⟩,rfl,.head _,ep,rfl,⟨ah _,ah _⟩,⟨p,tr n,rfl,hP3,okT,λH4 b S4 tk=>?_⟩⟩
   have dk:Ar (vkT (tr n))<=8/\TkAt H4 (vkT (tr n)) (.ref b):=⟨bi7 okT,tk⟩
   obtain⟨old,ho,hp⟩:=av8 (vkT (tr n)) gi
   refine⟨.inr (.inr (.inl ⟨rfl,.inr ⟨_,S4 _ _ e3s⟩⟩)),_,DGet.t (S4 _ _ e3s) dk,?_⟩
   rw[ho]
   show ∃ H',DPut H4 sx (.ref b) (.int (c_ (old:Int) (bO ((2 ^ n:Nat):Int) (A:Int)))) H'/\_
   rw[ab,Ec]
   refine⟨_,DPut.t (S4 _ _ e3s) dk (by rw[ae];omega),?_⟩
   rw[hp,<- st]
   have nt5:=Tx (o:=.dT ((Cg (λn=>vkT (tr n)) (ns.take (i+1))).map gK)) (S4 _ _ e3s)
   have e5s:upd H4 sx (.dT ((Cg (λn=>vkT (tr n)) (ns.take (i+1))).map gK)) sx=some (.dT ((Cg (λn=>vkT (tr n)) (ns.take (i+1))).map gK)):=Aa
   have e5p:upd H4 sx (.dT ((Cg (λn=>vkT (tr n)) (ns.take (i+1))).map gK)) px=some (.dT kp):=by rw[Ad nsp.symm];exact S4 _ _ e3p
   have S5:=(S3.trans S4).set (o:=.dT ((Cg (λn=>vkT (tr n)) (ns.take (i+1))).map gK)) hsx
   show Ae _ _ _ _ (upd H4 sx (.dT ((Cg (λn=>vkT (tr n)) (ns.take (i+1))).map gK)))
   generalize upd H4 sx (.dT ((Cg (λn=>vkT (tr n)) (ns.take (i+1))).map gK))=H5 at nt5 e5s e5p S5 ⊢
   have lk:kp.length<=4:=by
    have:=congrArg b9 ek
    rw[ae,ae] at this
    omega
   refine⟨_,DPut.t e5p ⟨dk.1,dk.2.up λb ys=>nt5 b _ λ_ z=>by cases z⟩ (by omega),?_⟩
   have nt6:=Tx (o:=.dT (Cu kp (vkT (tr n)) (.ref p))) e5p
   refine⟨⟨_,_,_,rfl⟩,S5.set fpx,by rw[Ad nsp];exact e5s,_,Aa,?_,λx hx=>?_⟩
   .rw[Yi,ek,st,Yh]
   .rcases ah4 hx with hx|hx
    .obtain⟨p',T',e',h',o',v'⟩:=hk x hx
     exact⟨p',T',e',((h'.up S4).keep nt5).keep nt6,o',v'⟩
    .exact⟨p,tr n,hx.2,((hP3.up S4).keep nt5).keep nt6,okT,hx.1.symm⟩
  .rintro U H3 ⟨⟨v4,v5,v6,rfl⟩,S3,e3s,kp,e3p,ek,hk⟩
   have len:rs.length=ns.length:=by rw[<- hR.nms,ae]
   have ln:(rs.map λr=>V.ref r.2.1).length=ns.length:=by rw[ae,len]
   rw[ln] at e3s ek
   have gi:=Gs (f:=λn=>vkT (tr n)) asc ns.length 256 (λm hm=>(hn m (fO hm)).2.2)
   have f4n:=f4 ns.length
   have hms:Cg (λn=>vkT (tr n)) ns=Cg (λn=>vkT (tr n)) (ns.take ns.length):=by rw[aw]
   rw[hms] at k
   generalize Cg (λn=>vkT (tr n)) (ns.take ns.length)=gs at e3s ek gi f4n k
   refine .inl ?_
   refine .inr (.inr (.inr ⟨_,e3s,λo D hD=>?_⟩))
   have ef:upd H3 sx (.frz o (.dT (gs.map gK))) sx=some (.frz o (.dT (gs.map gK))):=Aa
   have ntf:=Tx (o:=.frz o (.dT (gs.map gK))) e3s
   have efp:upd H3 sx (.frz o (.dT (gs.map gK))) px=some (.dT kp):=by rw[Ad nsp.symm];exact e3p
   have Sf:Same H (upd H3 sx (.frz o (.dT (gs.map gK)))):=S3.set hsx
   generalize upd H3 sx (.frz o (.dT (gs.map gK)))=Hf at ef ntf efp Sf hD ⊢
   have hkf:∀ x∈kp,∃ p T,x.2=.ref p/\PlAt t.c_zbz any Hf p T/\Ci T/\vkT T=x.1:=λx hx=>let ⟨p,T,e,h,o⟩:=hk x hx;⟨p,T,e,h.keep ntf,o⟩
   have nd1:((gs.map gK).map (·.1)).Nodup:=by rw[Jl];exact gi.nd
   have nd2:(kp.map (·.1)).Nodup:=by rw[ek];exact gi.nd
   refine a45 (λi U H'=>(∃ v,U=[v,some (.ref px),some (.ref sx)])/\Same Hf H' /\ ∃ es:List (Gp×Tr×Addr×Addr),es.map (·.1)=gs.take i/\H' D=some (.lst (es.map λe=>.ref e.2.2.2)) /\ ∀ e∈es,H' e.2.2.2=some (.tup [.int (e.1.2.2:Int),.ref e.2.2.1])/\PlAt t.c_zbz any H' e.2.2.1 e.2.1/\Ci e.2.1/\vkT e.2.1=e.1.1) ⟨⟨_,rfl⟩,Same.upd hD,[],rfl,Aa,λe h=>by cases h⟩ (λ_ _ _ q=>q.2.1 _ _ ef) ?_ ?_
   .rintro i kk vv b U H4 hi dk ⟨⟨v,rfl⟩,S4,es,ee,eD,he⟩
    obtain⟨g,hg,eg⟩:=Ak hi
    obtain⟨rfl,rfl⟩:kk=g.1/\vv=.int (g.2.2:Int):=by injection eg with a b;exact⟨a,b⟩
    have hj:(kp.map (·.1))[i]? = some g.1:=by rw[ek,ak,hg];rfl
    obtain⟨⟨k2,v2⟩,hj2,e2⟩:=Ak hj
    obtain rfl:g.1=k2:=e2
    obtain⟨p,T,ev,hP,oT,vT⟩:=hkf _ (al hj2)
    obtain rfl:v2=.ref p:=ev
    have hP4:=hP.up S4
    obtain⟨dx,d,⟨_,ep⟩,_⟩:=id hP4
    refine⟨.int (g.2.2:Int),.inr ⟨_,g.1,b,.inr ⟨o,S4 _ _ ef⟩,rfl,dk,(Bm nd1 hi).symm⟩,?_⟩
    refine⟨.ref p,.inr ⟨_,g.1,b,.inl (S4 _ _ efp),rfl,dk,(Bm nd2 hj2).symm⟩,?_⟩
    refine⟨p,dx,_,⟨t.c_zbz,a57 K t⟩,rfl,.head _,ep,rfl,⟨ah _,ah _⟩,⟨p,T,rfl,hP4,λH5 q S5 hq5=>⟨(show 2<=sizeLine by decide),λB hB=>?_⟩⟩⟩
    have S6:=S5.trans (Same.upd (o:=.tup [.int (g.2.2:Int),.ref q]) hB)
    have e6:upd H5 B (.tup [.int (g.2.2:Int),.ref q]) B=some (.tup [.int (g.2.2:Int),.ref q]):=Aa
    have hq6:=hq5.up (Same.upd (o:=.tup [.int (g.2.2:Int),.ref q]) hB)
    generalize upd H5 B (.tup [.int (g.2.2:Int),.ref q])=H6 at S6 e6 hq6 ⊢
    have le:es.length<=4:=by
     have:=congrArg b9 ee
     rw[ae,aG] at this
     omega
    have nl:=NL.upd (m:=(es.map λe=>V.ref e.2.2.2)++[.ref B]) (S6 _ _ eD)
    refine⟨_,S6 _ _ eD,by rw[ae];omega,⟨_,rfl⟩,(S4.trans S6).set hD,es++[(g,T,q,B)],?_,by rw[Aa,aq];rfl,λe h=>?_⟩
    .rw[aq,ee,aA,hg];rfl
    .rcases List.mem_append.mp h with h|h
     .exact⟨nl.tup _ _ (S6 _ _ (he e h).1),((he e h).2.1.up S6).nl nl,(he e h).2.2⟩
     .obtain rfl:e=(g,T,q,B):=by simpa using h
      exact⟨nl.tup _ _ e6,hq6.nl nl,oT,vT⟩
   .rintro U H4 ⟨_,S4,es,ee,eD,he⟩
    rw[ae,aw] at ee
    obtain⟨hP,ob,u,hB,b1,b2,b3⟩:=hst
    have S04:=Sf.trans S4
    have le:es.length=gs.length:=by rw[<- ee,ae]
    have em:(es.map λe=>(e.1,V.ref e.2.2.1,e.2.2.2)).map (λe=>V.ref e.2.2)=es.map λe=>V.ref e.2.2.2:=by rw[aI];rfl
    have e1:(es.map λe=>(e.1,V.ref e.2.2.1,e.2.2.2)).map (λe=>e.1.2.1)=gs.map (·.2.1):=by rw[<- ee,aI,aI];rfl
    refine⟨D,es.map λe=>(e.1,.ref e.2.2.1,e.2.2.2),rfl,⟨S04 _ _ hP,ob,u,S04 _ _ hB,b1,b2,b3⟩,by rw[em];exact eD,by rw[ae];omega,by rw[e1];exact gi.asc,λx hx=>?_,λH5 D5 O5 e5=>k H5 D5 (λb u nb q=>O5 _ _ nb (S04 _ _ q)) ⟨es.map λe=>((e.1,e.2.1),e.2.2.1,e.2.2.2),?_,?_,λx hx=>?_⟩⟩
    .obtain⟨e,h,rfl⟩:=List.mem_map.mp hx
     have:=gi.one e.1 (by rw[<- ee];exact cZ h)
     exact⟨(he e h).1,this.2.2.1,this.2.2.2,aL this.2.1 (g5 (by decide) (by decide))⟩
    .rw[<- ee,aI];rfl
    .rw[e5,em,aI];rfl
    .obtain⟨e,h,rfl⟩:=List.mem_map.mp hx
     have nb:=NB.of O5 (S04 _ _ hP)
     exact⟨nb.tu (he e h).1,(he e h).2.1.nb nb,(he e h).2.2⟩
theorem a87 (Z:Am K t):OkD K D_zao (Aw K t) bl t.f_zao t.d_zao (ak1 K t):=by
 refine okD (n:=40) (t:=bt2 K t) rfl (by decide +kernel) (by kernel_rfl) (λvs H Q E h=>?_) (λvs H Q E h=>?_)
 .obtain⟨b,p,dx,sw,rules,rfl,_⟩:=h;rfl
 .obtain⟨b,p,dx,sw,rules,rfl,eb,hp,k⟩:=h
  refine .inl ⟨_,_,_,eb,Z.bc,Z.bp,(show 0<1000 by decide),?_⟩
  have e1:upd H b (.ins t.c_zca dx [("panel", .ref p)]) b=some (.ins t.c_zca dx [("panel", .ref p)]):=Aa
  have O1:∀ a o,a≠b->H a=some o->upd H b (.ins t.c_zca dx [("panel", .ref p)]) a=some o:=λa o n e=>by rw[Ad n];exact e
  have hp1:=hp.mono (Kp.off (p:=b) (o:=.ins t.c_zca dx [("panel", .ref p)]) λz=>z rfl)
  show Ae _ _ _ _ (upd H b (.ins t.c_zca dx [("panel", .ref p)]))
  generalize upd H b (.ins t.c_zca dx [("panel", .ref p)])=H1 at e1 O1 hp1 ⊢
  obtain⟨dxp,d,l,n,s,kk,br,h1⟩:=id hp1
  refine⟨p,dxp,_,⟨t.c_zby,as5 K t⟩,rfl,.head _,h1.ins.2,rfl,⟨ah _,ah _⟩,⟨p,sw,rules,rfl,hp1.mono Kp.any,?_⟩⟩
  intro a dxa ha hdx ne
  refine⟨a,dxa,rfl,Aa,λd0 hd0 _=>⟨rfl,?_⟩⟩
  obtain⟨_,S2,_⟩:=af0 ha hdx ne hd0
  generalize upd (upd (upd (upd H1 dxa (.own a)) a (.ins t.c_zbz dxa [])) d0 (.dK [])) a (.ins t.c_zbz dxa [("records", .ref d0)])=H2 at S2 ⊢
  refine⟨(show 2<=sizeLine by decide),λT hT=>⟨(show 1<=sizeLine by decide),λL hL=>?_⟩⟩
  rw[Fu] at hL ⊢
  have S3:=Same.upd (o:=.tup [.int ((B5 sw rules:Nat):Int),.ref a]) hT
  have e3:upd H2 T (.tup [.int ((B5 sw rules:Nat):Int),.ref a]) T=some (.tup [.int ((B5 sw rules:Nat):Int),.ref a]):=Aa
  generalize upd H2 T (.tup [.int ((B5 sw rules:Nat):Int),.ref a])=H3 at S3 e3 hL ⊢
  have S4:=Same.upd (o:=.lst [.ref T]) hL
  have e4:upd H3 L (.lst [.ref T]) L=some (.lst [.ref T]):=Aa
  generalize upd H3 L (.lst [.ref T])=H4 at S4 e4 ⊢
  have S14:=S2.trans (S3.trans S4)
  have eb4:=S14 _ _ e1
  refine .inl ⟨_,_,_,eb4,Z.bc,Z.bk,(show 1<1000 by decide),?_⟩
  exact k _ L (λx o nx e=>by rw[Ad nx];exact S14 _ _ (O1 _ _ nx e)) Aa
theorem PlAt.ki {C:Addr} {H H':Hp} {p:Addr} {T:Tr} (h:PlAt C any H p T) (n:∀ a o,(∀ C d fs,o=.ins C d fs->fs.lookup ("kept" : Str)=none)->H a=some o->H' a=some o):PlAt C any H' p T:=
 let ⟨dx,d,⟨_,o⟩,es,e,⟨_,q⟩,z⟩:=h
 ⟨dx,d,⟨trivial,n _ _ (λ_ _ _ z=>by cases z;rfl) o⟩,es,e,⟨trivial,n _ _ (λ_ _ _ z=>by cases z) q⟩,λx hx=>(z x hx).up λb ys=>n b _ λ_ _ _ z=>by cases z⟩
theorem ba1 (Z:Am K t):OkD K Zk (Aw K t) bl (t.f 22) (t.d 22) (U4 K t):=by
 refine okD (n:=40) (t:=bu5 K t) rfl (by decide +kernel) (by kernel_rfl) (λvs H Q E h=>?_) (λvs H Q E h=>?_)
 .obtain⟨p,l,sw,rules,ns,tr,rs,rfl,_⟩:=h;rfl
 .obtain⟨p,l,sw,rules,ns,tr,rs,rfl,hst,hp,hR,hn,asc,few,k⟩:=h
  intro b dx hb hdx ne
  have S1:Same H (upd (upd H dx (.own b)) b (.ins t.c_zca dx [])):=(Same.upd hdx).set hb
  have e1:upd (upd H dx (.own b)) b (.ins t.c_zca dx []) b=some (.ins t.c_zca dx []):=Aa
  have K1:Kp (· ≠ 132) H (· ≠ b) (upd (upd H dx (.own b)) b (.ins t.c_zca dx [])):=λa o q=>⟨λz=>(by have q2:=q.2;rw[z,hb] at q2;cases q2),S1 _ _ q.2⟩
  generalize upd (upd H dx (.own b)) b (.ins t.c_zca dx [])=H1 at S1 e1 K1 ⊢
  refine⟨b,p,dx,sw,rules,rfl,e1,hp.mono K1,λH2 l0 O2 e2=>⟨rfl,?_⟩⟩
  have S2:Same H H2:=λa o q=>O2 _ _ (λz=>by rw[z,hb] at q;cases q) (S1 _ _ q)
  have hp2:=hp.mono (Kp.same S2)
  obtain⟨dxp,d,l1,n,s,kk,br,h1⟩:=id hp2
  obtain⟨hP,ob,u,hB,b1,b2,b3⟩:=hst
  refine⟨p,dxp,_,⟨t.c_zby,as5 K t⟩,rfl,.head _,h1.ins.2,rfl,⟨ah _,ah _⟩,⟨p,sw,rules,rfl,hp2.mono Kp.any,?_⟩⟩
  rw[Fu]
  refine⟨B5 sw rules,l,ns,tr,rs,rfl,⟨S2 _ _ hP,ob,u,S2 _ _ hB,b1,b2,b3⟩,⟨hR.nms,S2 _ _ hR.at_,λr hr=>⟨S2 _ _ (hR.one r hr).1,(hR.one r hr).2.up S2⟩⟩,hn,asc,few,λH3 D O3 hK=>?_⟩
  have nb:b≠132:=λz=>by rw[<- z,hb] at hP;cases hP
  have e3:=O3 _ _ nb e2
  refine .inl ⟨_,_,_,e3,Z.bc,Z.bk,(show 2<1000 by decide),?_⟩
  obtain⟨es,ee,eD,he⟩:=hK
  have ni:∀ a o,(∀ C d fs,o=.ins C d fs->fs.lookup ("kept" : Str)=none)->H3 a=some o->upd H3 b (.ins t.c_zca dx (Dv "kept" (.ref D) [("panel", .ref p),("kept", .ref l0)])) a=some o:=λa o n e=>by rw[Ad λz=>by rw[z,e3] at e;cases e;have:=n _ _ _ rfl;cases this];exact e
  have fin:∀ a o,a≠132->H a=some o->upd H3 b (.ins t.c_zca dx (Dv "kept" (.ref D) [("panel", .ref p),("kept", .ref l0)])) a=some o:=λa o na q=>by rw[Ad λz=>by rw[z,hb] at q;cases q];exact O3 _ _ na (S2 _ _ q)
  exact k _ b fin ⟨dx,p,D,Aa,hp.mono λa o q=>⟨trivial,fin _ _ q.1 q.2⟩,es,ee,ni _ _ (λ_ _ _ z=>by cases z) eD,λe h=>⟨ni _ _ (λ_ _ _ z=>by cases z) (he e h).1,(he e h).2.1.ki ni,(he e h).2.2⟩⟩
theorem ay5 {H:Hp} {l:Addr} {sw:Sw} {E:EK} {R:Hp->Addr->Prop} (h:SwIn any H l sw) (l5:sw.length<=5) (k:∀ D H',Same H H'->SwIn any H' D sw->R H' D) :
  ∀ D,H D=none->E8 (Itl K l) (gdT K 2 [gdN 0,gdN 1]) Cc (Et (Ac (Ab 0) (Ac (dFn (λvs H Q _=>(Pi K true) vs H Q) (Ac (Ab 1) Af)) Af))) D (λH'=>R H' D) [none,none] (upd H D (.lst [])) E:=by
 intro D hD
 obtain⟨ds,ed,⟨_,ol⟩,hd⟩:=h
 have len:ds.length=sw.length:=by rw[<- ed];simp
 have big:(1000:Nat)<sizeLine:=by decide
 refine Bq (Ap (ds.map λx=>V.ref x.2)) (λi U H'=>(∃ v0 v1,U=[v0,v1])/\Same H H' /\ ∃ fs:List (((Str×List Str)×Addr)×Addr),fs.map (·.1.1)=sw.take i/\SwL H' D fs) ⟨⟨_,_,rfl⟩,Same.upd hD,[],rfl,Aa,λx hx=>(by cases hx),λx hx=>(by cases hx)⟩ (λ_ _ H' _ q=>q.2.1.seqL (SqL.of ol)) ?_ ?_
 .rintro i x U H1 hx ⟨⟨v0,v1,rfl⟩,S1,fs,ef,L1⟩
  obtain⟨⟨⟨x',la⟩,ta⟩,hi,rfl⟩:=Ak hx
  have hi2:sw[i]? = some x':=by rw[<- ed,ak,hi];rfl
  have il:=Al hi2
  obtain⟨⟨_,h1⟩,_,h2⟩:=hd _ (al hi)
  have h2:H la=some (Au x'.2):=h2
  refine⟨_,.inl (SqT.of (S1 _ _ h1)),rfl,.inl ⟨_,.inl (SqL.of (S1 _ _ h2)),λM hM=>⟨(show 2<=sizeLine by decide),λT hT=>?_⟩⟩⟩
  have S2:=Same.upd (o:=Au x'.2) hM
  have e2:upd H1 M (Au x'.2) M=some (Au x'.2):=Aa
  have nM:M≠D:=(Ai L1.at_ hM).symm
  have L2:=L1.up S2
  show ∃ ys,upd (upd H1 M (Au x'.2)) T (.tup [.str x'.1,.ref M]) D=_/\_
  have hT:upd H1 M (Au x'.2) T=none:=hT
  generalize upd H1 M (Au x'.2)=H2 at S2 e2 L2 hT ⊢
  have S3:=Same.upd (o:=.tup [.str x'.1,.ref M]) hT
  have e3:upd H2 T (.tup [.str x'.1,.ref M]) T=some (.tup [.str x'.1,.ref M]):=Aa
  have L3:=L2.up S3
  generalize upd H2 T (.tup [.str x'.1,.ref M])=H3 at S3 e3 L3 ⊢
  have lf:fs.length<=5:=by
   have:=congrArg b9 ef
   rw[ae,aG] at this
   omega
  refine⟨_,L3.at_,by rw[ae];omega,⟨_,_,rfl⟩,(S1.trans (S2.trans S3)).set hD,_,?_,L3.snoc (e:=x') e3 (S3 _ _ e2) nM⟩
  rw[aq,ef,aA,hi2];rfl
 .rintro U H1 ⟨_,S1,fs,ef,L1⟩
  rw[ae,len,aw] at ef
  exact k D H1 S1 ⟨fs,ef,⟨trivial,L1.at_⟩,λx hx=>⟨⟨trivial,L1.tup x hx⟩,trivial,(L1.lst x hx).1⟩⟩
theorem ag3 {H:Hp} {D k p dx:Addr} {sw:Sw} {rules:List Sw} {R:Hp->Prop} {E:XK} {x:Array ai} (h6:H 132=some (.tbl x)) (hp:H p=none) (hdx:H dx=none) (hs:SwIn any H D sw) (hw:okSw sw) (hr:RulesAt any H k rules) (okr:∀ r∈rules,Ey sw r) (few:rules.length<=8) (ne:An sw rules≠[]) (q:∀ H',Same H H'->PanelAt t.c_zby (· ≠ 132) H' p sw rules->R H') :
  (i_zaf K t).sp (.ref p::([.ref D,.ref k]++List.drop 1 (i_zaf K t).dfs)) (upd (upd H dx (.own p)) p (.ins t.c_zby dx [])) (λv H2=>v=.non/\R H2) E:=by
 have S1:Same H (upd (upd H dx (.own p)) p (.ins t.c_zby dx [])):=(Same.upd hdx).set hp
 have K1:Kp any H (· ≠ p) (upd (upd H dx (.own p)) p (.ins t.c_zby dx [])):=λa o q=>⟨λz=>(by have q2:=q.2;rw[z,hp] at q2;cases q2),S1 _ _ q.2⟩
 refine⟨p,D,dx,.ref k,sw,rules,rfl,Aa,hs.mono K1,hw,.inr ⟨k,rfl,hr.mono K1⟩,okr,few,as3 ne,λH2 O2 hP=>⟨rfl,q H2 (λb u e=>O2 _ _ (λz=>by rw[z,hp] at e;cases e) (S1 _ _ e)) (hP.mono (Kp.weak λa ha=>?_))⟩⟩
 rintro rfl
 rcases ha with z|z
 .rw[<- z,h6] at hp;cases hp
 .rw[S1 _ _ h6] at z;cases z
theorem Jq {H:Hp} {p:Addr} {n:Nat} {v:V} {Q:VK} (h:DGet H p (.int (n:Int)) (some v)) (q:Q v H):A8 K (.ref p) (.int (n:Int)) H Q:=
 ⟨jZ (n+1) v,v,.dk λu e=>by
  rw[Bn (j:=n) (v:=v) (by rw[eI,if_pos (cw n)])] at e
  cases e
  exact h,Bn (by rw[eI,if_pos (cw n)]),q⟩
theorem Tj {g:Nat->Addr} {ns:List Nat} {i n:Nat} (nd:ns.Nodup) (h:ns[i]? = some n):B3 (ns.map (kF g)) (.inl (n:Int))=some (.ref (g n)):=by
 refine Bm (i:=i) ?_ (by rw[ak,h];rfl)
 rw[Om]
 exact gG _ (λa b ne e=>ne (by injection e with e;omega)) nd
theorem ba4 (Z:Am K t):OkD K Zm (Aw K t) bl (t.f 35) (t.d 35) (U7 K t):=by
 refine okD (n:=40) (t:=bu8 K t) rfl (by decide +kernel) (by kernel_rfl) (λvs H Q E h=>?_) (λvs H Q E h=>?_)
 .obtain⟨W,F,l,k,f,sw,rules,g,tr,rfl,_⟩:=h;rfl
 .obtain⟨W,F,l,kk,f,sw,rules,g,tr,rfl,hst,hW,hF,k⟩:=h
  have big:(1000:Nat)<sizeLine:=by decide
  refine⟨_,.inr (SqL.of hW.at_),rfl,?_⟩
  obtain⟨ds,_,⟨_,ol⟩,_⟩:=id hW.sws
  refine .inl ⟨⟨_,SqL.of ol⟩,ay5 hW.sws hW.ok.2.1 λD H1 S1 hD=>?_⟩
  intro p dx hp hdx nep
  refine ag3 (S1 _ _ hst.1) hp hdx hD hW.ok (hW.rl.mono (Kp.same S1)) hW.rok hW.few hW.ne λH2 S2 hP=>?_
  have S02:=S1.trans S2
  refine⟨(show 0<=sizeLine by decide),λR hR=>?_⟩
  have S3:=Same.upd (o:=.lst []) hR
  have e3:upd H2 R (.lst []) R=some (.lst []):=Aa
  show Ae _ _ _ _ (upd H2 R (.lst []))
  generalize upd H2 R (.lst [])=H3 at S3 e3 ⊢
  have S03:=S02.trans S3
  have fR:=S02.free hR
  have eF:=S03 _ _ hF.at_
  have asc:=Kc sw rules
  have ndf:(An sw rules).Nodup:=asc.imp λh=>aJ h
  refine .inr (.inr (.inl (.inl ⟨_,eF,λo=>?_⟩)))
  have ef:upd H3 F (.frz o (.dK ((An sw rules).map (kF g)))) F=some (.frz o (.dK ((An sw rules).map (kF g)))):=Aa
  have of:∀ b u,b≠F->H3 b=some u->upd H3 F (.frz o (.dK ((An sw rules).map (kF g)))) b=some u:=λb u nb e=>by rw[Ad nb];exact e
  show F0 (Itd F o ((An sw rules).map (kF g))) _ _ _ [some (.ref W),some (.ref F),some (.ref l),some (.ref kk),some (.ref f),some (.ref p),some (.ref R),none] _
  generalize upd H3 F (.frz o (.dK ((An sw rules).map (kF g))))=Hf at ef of ⊢
  have nRF:R≠F:=λz=>by rw[z,eF] at e3;cases e3
  refine Bg (Fy ((An sw rules).map (kF g))) (λi U H'=>(∃ v7,U=[some (.ref W),some (.ref F),some (.ref l),some (.ref kk),some (.ref f),some (.ref p),some (.ref R),v7])/\(∀ a u,a≠R->Hf a=some u->H' a=some u) /\ ∃ rs:List (Nat×Addr×Addr),rs.map (·.1)=(An sw rules).take i/\H' R=some (.lst (rs.map λr=>.ref r.2.1)) /\ ∀ r∈rs,H' r.2.1=some (.tup [.int ((2 ^ r.1:Nat):Int),.ref r.2.2])/\PlAt t.c_zbz any H' r.2.2 (tr r.1))
   ⟨⟨_,rfl⟩,(λ_ _ _ e=>e),[],rfl,of _ _ nRF e3,λr h=>by cases h⟩ (λ_ _ H' _ q=>q.2.1 _ _ nRF.symm ef) ?_ ?_
  .rintro i x U H4 hx ⟨⟨v7,rfl⟩,O4,rs,er,e4R,h4⟩
   rw[aI] at hx
   obtain⟨n,hn,rfl⟩:=Ak hx
   have hm:=al hn
   obtain⟨nl,bt⟩:=Cl hm
   have l256:=hW.ok.len
   obtain⟨hT,okT⟩:=hF.one n hm
   have hT4:TrAt any H4 (g n) (tr n):=by
    obtain⟨es,ee,⟨_,e⟩,he⟩:=hT
    have ng:g n≠F:=λz=>by
     have e':=hF.at_
     rw[<- z,e] at e'
     injection e' with e'
     injection e' with e'
     have:=congrArg (List.map Prod.fst) e'
     rw[Jt,Om] at this
     have h0:(.inl (n:Int):Key)∈(An sw rules).map λn:Nat=>(.inl (n:Int):Key):=List.mem_map.mpr ⟨n,hm,rfl⟩
     rw[<- this] at h0
     obtain⟨_,_,z⟩:=List.mem_map.mp h0
     cases z
    have kp:∀ a o,a≠F->a≠R->H a=some o->H4 a=some o:=λa o n1 n2 e=>O4 _ _ n2 (of _ _ n1 (S03 _ _ e))
    refine⟨es,ee,⟨trivial,kp _ _ ng (λz=>by rw[z,fR] at e;cases e) e⟩,λx hx=>(he x hx).up λb ys q=>kp _ _ (λz=>by rw[z,hF.at_] at q;cases q) (λz=>by rw[z,fR] at q;cases q) q⟩
   refine⟨.inl ⟨rfl,_,SqL.of e4R⟩,⟨by omega,by omega,by decide⟩,Jq (.inl ⟨_,.inl (n:Int),.inr ⟨o,O4 _ _ nRF.symm ef⟩,rfl,(Tj ndf hn).symm⟩) ⟨g n,tr n,rfl,hT4,okT,λH5 pl S5 hPl=>⟨(show 2<=sizeLine by decide),λT hT=>?_⟩⟩⟩
   have e1:(1 * 2 ^ ((n:Int)).toNat:Int)=((2 ^ n:Nat):Int):=by rw[kc,aT,Fp]
   rw[e1]
   have S6:=S5.trans (Same.upd (o:=.tup [.int ((2 ^ n:Nat):Int),.ref pl]) hT)
   have e6:upd H5 T (.tup [.int ((2 ^ n:Nat):Int),.ref pl]) T=some (.tup [.int ((2 ^ n:Nat):Int),.ref pl]):=Aa
   have hPl6:=hPl.up (Same.upd (o:=.tup [.int ((2 ^ n:Nat):Int),.ref pl]) hT)
   generalize upd H5 T (.tup [.int ((2 ^ n:Nat):Int),.ref pl])=H6 at S6 e6 hPl6 ⊢
   have lr:rs.length<=256:=by
    have:=congrArg b9 er
    rw[ae,aG] at this
    have hf:=bu (λn=>!F5 sw rules n) (ay (Aj sw).length)
    rw[aV] at hf
    have:rs.length<=(An sw rules).length:=by omega
    unfold An at this
    omega
   have nl6:=NL.upd (m:=(rs.map λr=>V.ref r.2.1)++[.ref T]) (S6 _ _ e4R)
   refine⟨R,_,_,rfl,rfl,S6 _ _ e4R,by rw[ae];omega,⟨_,rfl⟩,λa u na e=>by rw[Ad na];exact S6 _ _ (O4 _ _ na e),rs++[(n,T,pl)],?_,by rw[Aa,aq];rfl,λr hr=>?_⟩
   .rw[aq,er,aA,hn];rfl
   .rcases List.mem_append.mp hr with hr|hr
    .exact⟨nl6.tup _ _ (S6 _ _ (h4 r hr).1),((h4 r hr).2.up S6).nl nl6⟩
    .obtain rfl:r=(n,T,pl):=by simpa using hr
     exact⟨nl6.tup _ _ e6,hPl6.nl nl6⟩
  .rintro U H4 ⟨⟨v7,rfl⟩,O4,rs,er,e4R,h4⟩
   rw[ae,ae,aw] at er
   have e4f:=O4 _ _ nRF.symm ef
   refine .inr ⟨F,o,_,eF,e4f,?_⟩
   have up:∀ a u,a≠R->H3 a=some u->upd H4 F (.dK ((An sw rules).map (kF g))) a=some u:=λa u n2 e=>by
    by_cases ha:a=F
    .subst ha;rw[Aa,<- eF,e]
    .rw[Ad ha];exact O4 _ _ n2 (of _ _ ha e)
   have S04:Same H (upd H4 F (.dK ((An sw rules).map (kF g)))):=λa u e=>up _ _ (λz=>by rw[z,fR] at e;cases e) (S03 _ _ e)
   have nt:∀ a u,(∀ o k,u≠.frz o k)->H4 a=some u->upd H4 F (.dK ((An sw rules).map (kF g))) a=some u:=λa u n e=>by rw[Ad λz=>by rw[z,e4f] at e;cases e;exact n _ _ rfl];exact e
   have S2e:Same H2 (upd H4 F (.dK ((An sw rules).map (kF g)))):=λa u e=>up _ _ (Ai e hR) (S3 _ _ e)
   generalize upd H4 F (.dK ((An sw rules).map (kF g)))=He at up S04 nt S2e ⊢
   obtain⟨hP132,ob,u,hB,b1,b2,b3⟩:=hst
   refine⟨p,R,sw,rules,An sw rules,tr,rs,rfl,⟨S04 _ _ hP132,ob,u,S04 _ _ hB,b1,b2,b3⟩,hP.mono (Kp.same S2e),⟨er,nt _ _ (λ_ _ z=>by cases z) e4R,λr hr=>⟨nt _ _ (λ_ _ z=>by cases z) (h4 r hr).1,?_⟩⟩,λn hn=>⟨(hF.one n hn).2,(Cl hn).2,aL (Cl hn).1 hW.ok.len⟩,asc,hF.few,λH5 b O5 hB5=>k H5 b (λa u na e=>O5 _ _ na (S04 _ _ e)) hB5⟩
   obtain⟨dx,d,⟨_,o1⟩,es,ee,⟨_,o2⟩,z⟩:=(h4 r hr).2
   exact⟨dx,d,⟨trivial,nt _ _ (λ_ _ z=>by cases z) o1⟩,es,ee,⟨trivial,nt _ _ (λ_ _ z=>by cases z) o2⟩,λx hx=>(z x hx).up λb ys q=>nt _ _ (λ_ _ z=>by cases z) q⟩
theorem _root_.Pn.PanAt.self {C p dx d l n s k b:Addr} {ok:Addr->Prop} {H:Hp} {sw:Sw} {rules:List Sw} (h:PanAt C ok H p sw rules dx d l n s k b):SelfAt C ok H p l s:=by
 refine⟨dx,_,h.ins,rfl,rfl,λm hm=>?_⟩
 simp only[aE,cS,or_false] at hm
 rcases hm with rfl|rfl|rfl|rfl|rfl|rfl <;> rfl
theorem bn6 (Z:Am K t):OkD K ap4 (Aw K t) bl (t.m_zby 7) (t.e_zby 7) (al2 K t):=by
 refine okD (n:=40) (t:=b11 K t) rfl (by decide +kernel) (by kernel_rfl) (λvs H Q E h=>?_) (λvs H Q E h=>?_)
 .obtain⟨p,sw,rules,rfl,_⟩:=h;rfl
 .obtain⟨p,sw,rules,rfl,⟨dx,d,l,n,s,kk,b,h⟩,hw,k⟩:=h
  obtain⟨ds,ed,⟨_,od⟩,hd⟩:=h.sws
  have len:ds.length=sw.length:=by rw[<- ed];simp
  refine cP ⟨_,_,_,_,h.ins.2,Z.pf.cl,(Z.pf.na _ (by simp)),rfl,⟨_,.inl od,?_,λq Ts H' S hq eq lt la=>?_⟩⟩
  .rw[ae,len];have:=hw.2.1;omega
  have lt:Ts.length=ds.length:=by rw[lt,ae]
  refine k H' q (ds.zip Ts) S hq ?_ ?_ ?_
  .rw[<- ed,show (ds.zip Ts).map (·.1.1)=((ds.zip Ts).map (·.1)).map (·.1) by rw[aI];rfl,List.map_fst_zip (by omega)]
  .rw[eq,show ((ds.zip Ts).map λx=>V.ref x.2)=((ds.zip Ts).map (·.2)).map V.ref by rw[aI];rfl,jj (by omega)]
  .intro x hx
   obtain⟨j,hj,e⟩:=List.mem_iff_getElem.mp hx
   have e2:(ds.zip Ts)[j]? = some x:=by rw[ag hj,e]
   obtain⟨x1,x2⟩:=x
   rw[List.getElem?_zip_eq_some] at e2
   obtain⟨e3,e4⟩:=e2
   have hl:=la j _ _ x2 (show (ds.map kR)[j]? = some (.inr x1.1.1,.ref x1.2) by rw[ak,e3];rfl) e4
   exact⟨hl.2,S _ _ (hd x1 (al e3)).2⟩
theorem bo1 (Z:Am K t):OkD K ap7 (Aw K t) bl (t.m_zby 4) (t.e_zby 4) (al7 K t):=by
 refine okD (n:=40) (t:=b18 K t) rfl (by decide +kernel) (by kernel_rfl) (λvs H Q E h=>?_) (λvs H Q E h=>?_)
 .obtain⟨p,i,x,sw,rules,rfl,_⟩:=h;rfl
 .obtain⟨p,i,x,sw,rules,rfl,⟨dx,d,l,n,s,kk,b,h⟩,hw,hi,k⟩:=h
  obtain⟨ds,ed,⟨_,od⟩,hd⟩:=h.sts
  obtain⟨⟨x',q⟩,hi',ex⟩:∃ m,ds[i]? = some m/\x=m.1:=Ak (by rw[ed];exact hi)
  have ex:x=x':=ex
  subst ex
  have hv:B3 (ds.map kR) (.inr x.1)=some (.ref q):=Bm (D8 ed hw.2.2.1) (by rw[ak,hi'];rfl)
  have oq:=(hd i _ hi').2
  have hk:=hw.sets x (al hi)
  refine cP ⟨_,_,_,_,h.ins.2,Z.pf.cl,(Z.pf.na _ (by simp)),rfl,⟨.ref q,.inl ⟨_,.inr x.1,.inl od,rfl,hv.symm⟩,_,.inl oq,?_,λr Ts H' S hq eq lt la=>k H' r S ⟨Ts,eq,?_,λj y z T e1 e2=>?_⟩⟩⟩
  .rw[ae];have:=hk.2.2;show x.2.length<1000;omega
  .rw[lt,ae,ae]
  .rw[ak] at e1
   cases e:x.2[j]? with
   |none=>rw[e] at e1;cases e1
   |some z'=>
    rw[e] at e1
    cases e1
    exact (la j (.inr z') (.int (C7 (Aj sw) i z')) T (by rw[ak,e];rfl) e2).2
theorem BookAt.up {b:Addr} {H H':Hp} {sw:Sw} {rules:List Sw} {gs:List Gp} (h:BookAt t H b sw rules gs) (S:Same H H'):BookAt t H' b sw rules gs:=
 let ⟨dx,p,l,e,hp,es,ee,eD,he⟩:=h
 ⟨dx,p,l,S _ _ e,hp.mono (Kp.same S),es,ee,S _ _ eD,λe h=>⟨S _ _ (he e h).1,(he e h).2.1.up S,(he e h).2.2⟩⟩
theorem Pw {es:List ((Str×Rc)×Addr)} {T:Tr} (et:es.map (·.1)=T) (o:Ci T) (n:Str):(B3 (es.map kT) (.inr n)=none/\stT T n=none) \/ ∃ e∈es,B3 (es.map kT) (.inr n)=some (.ref e.2)/\stT T n=some (rcT e.1.2):=by
 have nde:(es.map (·.1.1)).Nodup:=by have:=o.1;rw[<- et,aI] at this;exact this
 have en:es.map (·.1.1)=T.map (·.1):=by rw[<- et,aI];rfl
 by_cases h:n∈T.map (·.1)
 .obtain⟨x,ex,hx⟩:=Os o h
  rw[<- et] at hx
  obtain⟨e,he,ee⟩:=List.mem_map.mp hx
  obtain⟨j,hj⟩:=List.mem_iff_getElem?.mp he
  have hv:=Oo nde hj
  rw[ee] at hv
  exact .inr ⟨e,he,hv,by unfold stT;rw[ex,ee];rfl⟩
 .exact .inl ⟨ad0 (by rw[en];exact h),by unfold stT;rw[Jv h];rfl⟩
theorem ba3 (Z:Am K t):OkD K Zl (Aw K t) bl (t.f 4) (t.d 4) (U6 K t):=by
 refine okD (n:=40) (t:=bu7 K t) rfl (by decide +kernel) (by kernel_rfl) (λvs H Q E h=>?_) (λvs H Q E h=>?_)
 .obtain⟨i,rfl,_⟩:=h;rfl
 .obtain⟨i,rfl,k⟩:=h
  exact⟨rfl,rfl,k⟩
theorem a89 (Z:Am K t):OkD K Vt (Aw K t) bl (t.m_zbz 1) (t.e_zbz 1) (Uv K t):=by
 refine okD (n:=40) (t:=bt4 K t) rfl (by decide +kernel) (by kernel_rfl) (λvs H Q E h=>?_) (λvs H Q E h=>?_)
 .obtain⟨p,T,n,rfl,_⟩:=h;rfl
 .obtain⟨p,T,n,rfl,⟨dx,d,⟨_,e⟩,es,et,⟨_,ed⟩,he⟩,o,k⟩:=h
  refine cP ⟨_,_,_,.ref d,e,Z.pc,Z.pr,rfl,.inr ⟨_,.inl ⟨_,.inr n,.inl ed,rfl,rfl⟩,?_⟩⟩
  rcases Pw et o n with ⟨a,b⟩|⟨x,_,a,b⟩
  .rw[a];rw[b] at k;exact k
  .rw[a];rw[b] at k;exact k
theorem bm5 (Z:Am K t):OkD K ao7 (Aw K t) bl (t.m_zbz 4) (t.e_zbz 4) (aj8 K t):=by
 refine okD (n:=40) (t:=bz9 K t) rfl (by decide +kernel) (by kernel_rfl) (λvs H Q E h=>?_) (λvs H Q E h=>?_)
 .obtain⟨p,T,n,rfl,_⟩:=h;rfl
 .obtain⟨p,T,n,rfl,⟨dx,d,⟨_,e⟩,es,et,⟨_,ed⟩,he⟩,o,k⟩:=h
  refine cP ⟨_,_,_,.ref d,e,Z.pc,Z.pr,rfl,.inr (.inr (.inl ⟨rfl,.inl ⟨_,ed⟩⟩)),_,.inl ⟨_,.inr n,.inl ed,rfl,rfl⟩,?_⟩
  rcases Pw et o n with ⟨a,b⟩|⟨x,hx,a,b⟩
  .rw[a];rw[b] at k;exact k _ rfl
  .rw[a];rw[b] at k;exact k _ ⟨⟨_,rfl⟩,(he x hx).tk⟩
theorem StAt.up {H H':Hp} {s:Option TK} {v:V} (h:StAt H s v) (S:Same H H'):StAt H' s v:=by
 cases s with
 |none=>exact h
 |some x=>exact⟨h.1,h.2.up (NL.same S).tup⟩
theorem am7 {T:Tr} (o:Ci T) {n:Str} {x:TK} (h:stT T n=some x):Ar x<=3:=by
 unfold stT at h
 obtain⟨r,hr,rfl⟩:=Option.map_eq_some_iff.mp h
 exact Ww (o.2.2 _ (Jw hr))
theorem a22 {H:Hp} {s s':Option TK} {x y:V} {Q:VK} (hx:StAt H s x) (hy:StAt H s' y) (d:∀ z,s=some z->Ar z<=3) (q:Q (.bl (decide (s≠s'))) H):Br K true x y H Q:=by
 have ne:decide (s≠s') = !decide (s=s'):=by simp
 rw[ne] at q
 cases s with
 |none=>
  have hx:x=.non:=hx
  subst hx
  cases s' with
  |none=>
   have hy:y=.non:=hy
   subst hy
   exact⟨rfl,q⟩
  |some z'=>
   obtain⟨⟨b,rfl⟩,h2⟩:=hy
   refine⟨.at_ .non,tkD z',by unfold At;exact⟨rfl,rfl⟩,Qd _ h2,by unfold dep;omega,?_⟩
   have:deq (.at_ .non) (tkD z')=false:=by cases z' with|at_ k=>cases k <;> rfl|tup l=>rfl
   rw[this]
   exact q
 |some z=>
  obtain⟨⟨a,rfl⟩,h1⟩:=hx
  have dz:=d z rfl
  cases s' with
  |none=>
   have hy:y=.non:=hy
   subst hy
   refine .inl ⟨tkD z,.at_ .non,Qd _ h1,by unfold At;exact⟨rfl,rfl⟩,by rw[W8];omega,?_⟩
   have:deq (tkD z) (.at_ .non)=false:=by cases z with|at_ k=>cases k <;> rfl|tup l=>rfl
   rw[this]
   exact q
  |some z'=>
   obtain⟨⟨b,rfl⟩,h2⟩:=hy
   refine .inr (.inl ⟨tkD z,tkD z',Qd _ h1,Qd _ h2,by rw[W8];omega,?_⟩)
   rw[bi2]
   have:decide (some z=some z')=decide (z=z'):=decide_eq_decide.mpr ⟨λe=>aH e,λe=>by rw[e]⟩
   rw[this] at q
   exact q
theorem Cs {α:Type} {l:List α} {m:Nat} {x:α} {p:α->Bool} (h:l[m]? = some x):(l.take (m+1)).filter p=(l.take m).filter p++(if p x=true then [x] else []):=by
 rw[aA,h,cD,cO]
 congr 1
 cases e:p x <;> simp[e]
theorem Dr {α:Type} (l:List α) (m:Nat) (p:α->Bool):((l.take m).filter p).length<=l.length:=by
 have:=bu p (l.take m)
 rw[aG] at this
 omega
theorem M8 (l:List Nat):(l.map λn:Nat=>V.int (n:Int))=(l.map λn:Nat=>(n:Int)).map V.int:=by rw[aI];rfl
theorem bn7 (Z:Am K t):OkD K a32 (Aw K t) bl (t.f 3) (t.d 3) (al3 K t):=by
 refine okD (n:=40) (t:=b13 K t) rfl (by decide +kernel) (by kernel_rfl) (λvs H Q E h=>?_) (λvs H Q E h=>?_)
 .obtain⟨l,p,n,T,rs,rfl,_⟩:=h;rfl
 .obtain⟨l,p,n,T,rs,rfl,⟨el,hr⟩,few,hP,o,k⟩:=h
  have big:(1000:Nat)<sizeLine:=by decide
  obtain⟨dx,d,⟨_,ep⟩,_⟩:=id hP
  refine⟨p,dx,_,⟨t.c_zbz,a55 K t⟩,rfl,.head _,ep,rfl,⟨ah _,ah _⟩,⟨p,T,n,rfl,hP,o,λv hv=>?_⟩⟩
  refine .inl ⟨⟨_,SqL.of el⟩,λD hD=>?_⟩
  refine Bq (Ap (rs.map λr=>V.ref r.2.2)) (λi U H'=>(∃ v0 v1,U=[v0,v1,some (.str n),some v])/\Same H H'/\H' D=some (nO (((rs.take i).filter λr=>decide (stT r.1.2 n≠stT T n)).map (·.1.1)))) ⟨⟨_,_,rfl⟩,Same.upd hD,Aa⟩ (λ_ _ H' _ q=>q.2.1.seqL (SqL.of el)) ?_ ?_
  .rintro i x U H1 hx ⟨⟨v0,v1,rfl⟩,S1,eD⟩
   obtain⟨r,hi,rfl⟩:=Ak hx
   obtain⟨e1,hP1,o1⟩:=hr r (al hi)
   have hP1:=hP1.up S1
   obtain⟨dx1,d1,⟨_,ep1⟩,_⟩:=id hP1
   refine⟨_,.inl (SqT.of (S1 _ _ e1)),rfl,?_⟩
   refine⟨r.2.1,dx1,_,⟨t.c_zbz,a55 K t⟩,rfl,.head _,ep1,rfl,⟨ah _,ah _⟩,⟨r.2.1,r.1.2,n,rfl,hP1,o1,λv2 hv2=>?_⟩⟩
   have fs:=Cs (p:=λr:(Nat×Tr)×Addr×Addr=>decide (stT r.1.2 n≠stT T n)) hi
   have fl:=Dr rs i λr:(Nat×Tr)×Addr×Addr=>decide (stT r.1.2 n≠stT T n)
   refine a22 hv2 (hv.up S1) (λz e=>am7 o1 e) ?_
   by_cases c:stT r.1.2 n≠stT T n
   .rw[decide_eq_true c,if_pos rfl] at fs
    refine Ei (decide_eq_true c) ⟨_,eD,by rw[ae,ae];omega,⟨_,_,rfl⟩,S1.set hD,by rw[Aa,fs,nO,aq,aq];rfl⟩
   .rw[decide_eq_false c,if_neg (by decide),bI] at fs
    exact De (decide_eq_false c) ⟨⟨_,_,rfl⟩,S1,by rw[fs];exact eD⟩
  .rintro U H1 ⟨_,S1,eD⟩
   rw[ae,aw] at eD
   have:=k H1 S1
   rw[<- E1] at this
   exact⟨D,_,rfl,by rw[<- M8];exact SqL.of eD,this⟩
theorem Rq {C l:Addr} {H:Hp} {es:List ((Gp×Tr)×Addr×Addr)} {rest:St} {tc:DT} {te:DE} {E:EK} {R:Hp->Addr->Prop} (p:Gp×Tr->Bool) (f:Gp×Tr->Nat) (el:H l=some (.lst (es.map λe=>.ref e.2.2))) (few:es.length<=4)
  (he:∀ e∈es,H e.2.2=some (.tup [.int (e.1.1.2.2:Int),.ref e.2.1])/\PlAt C any H e.2.1 e.1.2/\Ci e.1.2/\vkT e.1.2=e.1.1.1)
  (ht:∀ e∈es,∀ (H1:Hp) (Q:Bool->Hp->Prop),Same H H1->Q (p e.1) H1->tc (some (.int (e.1.1.2.2:Int))::some (.ref e.2.1)::rest) H1 Q E)
  (hv:∀ e∈es,∀ (H1:Hp) (Q:VK),Same H H1->(∀ T,H1 T=none->Q (.ref T) (upd H1 T (.tup [.int ((f e.1:Nat):Int),.ref e.2.1])))->te (some (.int (e.1.1.2.2:Int))::some (.ref e.2.1)::rest) H1 Q E)
  (k:∀ D H' rs,Same H H'->H D=none->Z2 C H' D rs->rs.length<=4->(∀ r∈rs,∃ e∈es,p e.1=true/\r.1.1=f e.1/\r.1.2=e.1.2)->(∀ e∈es,p e.1=true -> ∃ r∈rs,r.1.1=f e.1/\r.1.2=e.1.2)->R H' D) :
  ∀ D,H D=none->E8 (Itl K l) (gdT K 2 [gdN 0,gdN 1]) tc te D (λH'=>R H' D) (none::none::rest) (upd H D (.lst [])) E:=by
 intro D hD
 have big:(1000:Nat)<sizeLine:=by decide
 refine Bq (Ap (es.map λe=>V.ref e.2.2)) (λi U H'=>(∃ v0 v1,U=v0::v1::rest)/\Same H H' /\ ∃ rs:List ((Nat×Tr)×Addr×Addr),Z2 C H' D rs/\rs.length<=i/\(∀ r∈rs,∃ e∈es,p e.1=true/\r.1.1=f e.1/\r.1.2=e.1.2) /\ ∀ e∈es.take i,p e.1=true -> ∃ r∈rs,r.1.1=f e.1/\r.1.2=e.1.2)
  ⟨⟨_,_,rfl⟩,Same.upd hD,[],⟨Aa,λr h=>by cases h⟩,ah _,(λr h=>by cases h),λe h=>by cases h⟩ (λ_ _ H' _ q=>q.2.1.seqL (SqL.of el)) ?_ ?_
 .rintro i x U H1 hx ⟨⟨v0,v1,rfl⟩,S1,rs,⟨eD,hr⟩,lr,h1,h2⟩
  obtain⟨e,hi,rfl⟩:=Ak hx
  have hm:=al hi
  have il:=Al hi
  obtain⟨e1,hP,o1,_⟩:=he e hm
  have mt:∀ x,x∈es.take (i+1) ↔ x∈es.take i\/x=e:=λx=>by rw[aA,hi];simp
  refine⟨_,.inl (SqT.of (S1 _ _ e1)),rfl,?_⟩
  refine ht e hm H1 _ S1 ?_
  cases c:p e.1 with
  |false=>exact⟨⟨_,_,rfl⟩,S1,rs,⟨eD,hr⟩,iO lr,h1,λx hx hp=>((mt x).mp hx).elim (λz=>h2 x z hp) λz=>by rw[z,c] at hp;cases hp⟩
  |true=>
   refine Ol (hv e hm H1 _ S1 λT hT=>?_)
   have ST:=Same.upd (o:=.tup [.int ((f e.1:Nat):Int),.ref e.2.1]) hT
   have eT:upd H1 T (.tup [.int ((f e.1:Nat):Int),.ref e.2.1]) T=some (.tup [.int ((f e.1:Nat):Int),.ref e.2.1]):=Aa
   generalize upd H1 T (.tup [.int ((f e.1:Nat):Int),.ref e.2.1])=H2 at ST eT ⊢
   have nl:=NL.upd (m:=(rs.map λr=>V.ref r.2.2)++[.ref T]) (ST _ _ eD)
   refine⟨_,ST _ _ eD,by rw[ae];omega,⟨_,_,rfl⟩,(S1.trans ST).set hD,rs++[((f e.1,e.1.2),e.2.1,T)],⟨by rw[Aa,aq];rfl,λr h=>?_⟩,by rw[aS];exact cx lr,λr h=>?_,λx hx hp=>?_⟩
   .rcases List.mem_append.mp h with h|h
    .exact⟨nl.tup _ _ (ST _ _ (hr r h).1),((hr r h).2.1.up ST).nl nl,(hr r h).2.2⟩
    .obtain rfl:r=((f e.1,e.1.2),e.2.1,T):=by simpa using h
     exact⟨nl.tup _ _ eT,(hP.up (S1.trans ST)).nl nl,o1⟩
   .rcases List.mem_append.mp h with h|h
    .exact h1 r h
    .obtain rfl:r=((f e.1,e.1.2),e.2.1,T):=by simpa using h
     exact⟨e,hm,c,rfl,rfl⟩
   .rcases (mt x).mp hx with z|rfl
    .obtain⟨r,hr2,q⟩:=h2 x z hp
     exact⟨r,cm _ hr2,q⟩
    .exact⟨_,aM _ aN,rfl,rfl⟩
 .rintro U H1 ⟨_,S1,rs,hR,lr,h1,h2⟩
  rw[ae] at lr h2
  rw[aw] at h2
  exact k D H1 rs S1 hD hR (by omega) h1 h2
theorem bo0 (Z:Am K t):OkD K ap6 (Aw K t) bl (t.m_zca 3) (t.e_zca 3) (al6 K t):=by
 refine okD (n:=40) (t:=b17 K t) rfl (by decide +kernel) (by kernel_rfl) (λvs H Q E h=>?_) (λvs H Q E h=>?_)
 .obtain⟨b,M,sw,rules,gs,rfl,_⟩:=h;rfl
 .obtain⟨b,M,sw,rules,gs,rfl,⟨dx,p,l,eb,hp,es,ee,el,he⟩,few,k⟩:=h
  have le:es.length=gs.length:=by rw[<- ee,ae]
  refine cP ⟨_,_,_,_,eb,Z.bc,Z.bk,rfl,(.inl ⟨⟨_,SqL.of el⟩,?_⟩)⟩
  refine Rq (rest:=[some (.int (M:Int))]) (λx=>decide (x.1.2.2 &&& M≠0)) (λx=>x.1.2.2 &&& M) el (by omega) he (λe _ H1 Q _ q=>?_) (λe _ H1 Q _ q=>?_) λD H1 rs S1 _ hR lr h1 h2=>k H1 D rs S1 hR lr (λr hr=>?_) (λg hg c=>?_)
  .have:decide (e.1.1.2.2 &&& M≠0) = !decide (bO (e.1.1.2.2:Int) (M:Int)=0):=by rw[Bx,<- decide_not];exact decide_eq_decide.mpr (by omega)
   rw[this] at q
   exact q
  .refine⟨(show 2<=sizeLine by decide),λT hT=>?_⟩
   have:=q T hT
   rw[<- Bx] at this
   exact this
  .obtain⟨e,h,_,a,b⟩:=h1 r hr
   exact⟨e.1.1,by rw[<- ee];exact List.mem_map.mpr ⟨e,h,rfl⟩,a,by rw[b];exact (he e h).2.2.2⟩
  .rw[<- ee] at hg
   obtain⟨e,h,rfl⟩:=List.mem_map.mp hg
   obtain⟨r,hr,a,b⟩:=h2 e h (decide_eq_true c)
   exact⟨r,hr,a,by rw[b];exact (he e h).2.2.2⟩
theorem bn5 (Z:Am K t):OkD K ap3 (Aw K t) bl (t.m_zca 4) (t.e_zca 4) (al1 K t):=by
 refine okD (n:=40) (t:=b09 K t) rfl (by decide +kernel) (by kernel_rfl) (λvs H Q E h=>?_) (λvs H Q E h=>?_)
 .obtain⟨b,n,sw,rules,gs,rfl,_⟩:=h;rfl
 .obtain⟨b,n,sw,rules,gs,rfl,⟨dx,p,l,eb,hp,es,ee,el,he⟩,few,⟨g0,hg0,hk0⟩,k⟩:=h
  have le:es.length=gs.length:=by rw[<- ee,ae]
  refine cP ⟨_,_,_,_,eb,Z.bc,Z.bk,rfl,(.inl ⟨⟨_,SqL.of el⟩,?_⟩)⟩
  refine Rq (rest:=[some (.str n)]) (λx=>(stT x.2 n).isSome) (λx=>x.1.2.2) el (by omega) he (λe h H1 Q S1 q=>?_) (λe _ H1 Q _ q=>⟨(show 2<=sizeLine by decide),q⟩) λD H1 rs S1 hD hR lr h1 h2=>?_
  .have hP:=(he e h).2.1.up S1
   obtain⟨dx1,d1,⟨_,ep1⟩,_⟩:=id hP
   exact⟨e.2.1,dx1,_,⟨t.c_zbz,a11 K t⟩,rfl,.head _,ep1,rfl,⟨ah _,ah _⟩,⟨e.2.1,e.1.2,n,rfl,hP,(he e h).2.2.1,q⟩⟩
  .have hk:∀ e∈es,Lv e.1.1.1 n ↔ (stT e.1.2 n).isSome=true:=λe h=>by rw[<- (he e h).2.2.2];exact Jo (he e h).2.2.1 n
   have h2':∀ g∈gs,Lv g.1 n -> ∃ r∈rs,r.1.1=g.2.2:=λg hg c=>by
    rw[<- ee] at hg
    obtain⟨e,h,rfl⟩:=List.mem_map.mp hg
    obtain⟨r,hr,a,_⟩:=h2 e h ((hk e h).mp c)
    exact⟨r,hr,a⟩
   obtain⟨r0,hr0,_⟩:=h2' g0 hg0 hk0
   refine⟨(show 0<=sizeLine by decide),λq hq=>.inr (.inr (.inl (.inr (.inr ⟨_,_,SqL.of ((Same.upd hq) _ _ hR.1),SqL.of Aa,?_,?_⟩))))⟩
   .rw[ae]
    intro z
    have:=jr hr0
    rw[z] at this
    cases this
   have Sq:=Same.upd (o:=.lst []) hq
   refine k _ D rs (S1.trans Sq) ⟨Sq _ _ hR.1,λr h=>⟨Sq _ _ (hR.2 r h).1,(hR.2 r h).2.1.up Sq,(hR.2 r h).2.2⟩⟩ lr (λr hr=>?_) h2'
   obtain⟨e,h,c,a,_⟩:=h1 r hr
   exact⟨e.1.1,by rw[<- ee];exact List.mem_map.mpr ⟨e,h,rfl⟩,a,(hk e h).mpr c⟩
theorem a77 (Z:Am K t):OkD K Vo (Aw K t) bl (t.m_zca 5) (t.e_zca 5) (Um K t):=by
 refine okD (n:=40) (t:=bs2 K t) rfl (by decide +kernel) (by kernel_rfl) (λvs H Q E h=>?_) (λvs H Q E h=>?_)
 .obtain⟨b,n,sw,rules,gs,rfl,_⟩:=h;rfl
 .obtain⟨b,n,sw,rules,gs,rfl,hb,few,hk,k⟩:=h
  have big:(1000:Nat)<sizeLine:=by decide
  obtain⟨dx,_,_,eb,_⟩:=id hb
  refine⟨b,dx,_,⟨t.c_zca,bl1 K t⟩,rfl,.head _,eb,rfl,⟨ah _,ah _⟩,⟨b,n,sw,rules,gs,rfl,hb,few,hk,λH1 l rs S1 hR lr h1 h2=>?_⟩⟩
  refine .inl ⟨⟨_,SqL.of hR.1⟩,λD hD=>?_⟩
  refine Bq (Ap (rs.map λr=>V.ref r.2.2)) (λi U H'=>(∃ v0 v1,U=[v0,v1])/\Same H1 H'/\H' D=some (nO ((rs.take i).map (·.1.1)))) ⟨⟨_,_,rfl⟩,Same.upd hD,Aa⟩ (λ_ _ H' _ q=>q.2.1.seqL (SqL.of hR.1)) ?_ ?_
  .rintro i x U H2 hx ⟨⟨v0,v1,rfl⟩,S2,eD⟩
   obtain⟨r,hi,rfl⟩:=Ak hx
   refine⟨_,.inl (SqT.of (S2 _ _ (hR.2 r (al hi)).1)),rfl,_,eD,by rw[ae,ae,aG];omega,⟨_,_,rfl⟩,S2.set hD,?_⟩
   rw[Aa,nO,By hi,aq];rfl
  .rintro U H2 ⟨_,S2,eD⟩
   rw[ae,aw] at eD
   have:=k H2 (Dc (rs.map (·.1.1))) (S1.trans S2) λj=>by
    rw[E2,bX]
    constructor
    .rintro⟨m,hm,q⟩
     obtain⟨r,hr,rfl⟩:=List.mem_map.mp hm
     obtain⟨g,hg,a,b⟩:=h1 r hr
     exact⟨g,hg,by rw[<- a];exact q,b⟩
    .rintro⟨g,hg,a,b⟩
     obtain⟨r,hr,e⟩:=h2 g hg b
     exact⟨_,List.mem_map.mpr ⟨r,hr,rfl⟩,by rw[e];exact a⟩
   rw[<- E1] at this
   exact⟨D,_,rfl,by rw[<- M8];exact SqL.of eD,this⟩
theorem bo6 (Z:Am K t):OkD K aq0 (Aw K t) bl (t.m_zca 2) (t.e_zca 2) (am1 K t):=by
 refine okD (n:=40) (t:=b23 K t) rfl (by decide +kernel) (by kernel_rfl) (λvs H Q E h=>?_) (λvs H Q E h=>?_)
 .obtain⟨b,n,sw,rules,gs,rfl,_⟩:=h;rfl
 .obtain⟨b,n,sw,rules,gs,rfl,⟨dx,p,l,eb,hp,es,ee,el,he⟩,hn,⟨g0,hg0,b0⟩,k⟩:=h
  obtain⟨dxp,d,l1,n1,s1,k1,br1,h1⟩:=id hp
  refine⟨(n:Int),rfl,?_⟩
  refine cP ⟨_,_,_,_,eb,Z.bc,Z.bp,rfl,⟨p,dxp,_,⟨t.c_zby,ac3 K t⟩,rfl,.head _,h1.ins.2,rfl,⟨ah _,ah _⟩,⟨p,l1,s1,sw,rfl,h1.self,h1.tps,?_⟩⟩⟩
  refine Ei (decide_eq_true (show (n:Int)<((Aj sw).length:Int) by omega)) ?_
  refine cP ⟨_,_,_,_,eb,Z.bc,Z.bk,rfl,(.inl ⟨⟨_,SqL.of el⟩,?_⟩)⟩
  refine Bg (Ap (es.map λe=>V.ref e.2.2)) (λi U H'=>(∃ v2,U=[some (.ref b),some (.int (n:Int)),v2])/\H'=H /\ ∀ e∈es.take i,e.1.1.2.2.testBit n=false) ⟨⟨_,rfl⟩,rfl,λe h=>by cases h⟩ (λ_ _ H' _ q=>q.2.1▸SqL.of el) ?_ ?_
  .rintro i x U H1 hx ⟨⟨v2,rfl⟩,rfl,no⟩
   obtain⟨e,hi,rfl⟩:=Ak hx
   have hm:=al hi
   obtain⟨e1,hP,o1,v1⟩:=he e hm
   refine⟨_,_,.inr (SqT.of e1),rfl,e.1.1.2.2,n,rfl,?_⟩
   cases c:e.1.1.2.2.testBit n with
   |true=>exact k e.2.2 _ e.2.1 e.1.2 e1 hP o1 ⟨e.1.1,by rw[<- ee];exact List.mem_map.mpr ⟨e,hm,rfl⟩,c,v1⟩
   |false=>
    refine⟨⟨_,rfl⟩,rfl,λx hx=>?_⟩
    rw[aA,hi] at hx
    rcases List.mem_append.mp hx with hx|hx
    .exact no x hx
    .obtain rfl:x=e:=by simpa using hx
     exact c
  .rintro U H1 ⟨⟨v2,rfl⟩,rfl,no⟩
   rw[ae,aw] at no
   rw[<- ee] at hg0
   obtain⟨e,h,rfl⟩:=List.mem_map.mp hg0
   rw[no e h] at b0
   cases b0
theorem a76 (Z:Am K t):OkD K Vn (Aw K t) bl (t.m_zca 1) (t.e_zca 1) (Ul K t):=by
 refine okD (n:=40) (t:=bs1 K t) rfl (by decide +kernel) (by kernel_rfl) (λvs H Q E h=>?_) (λvs H Q E h=>?_)
 .obtain⟨b,n,sw,rules,gs,rfl,_⟩:=h;rfl
 .obtain⟨b,n,sw,rules,gs,rfl,hb,hn,hg,k⟩:=h
  obtain⟨dx,_,_,eb,_⟩:=id hb
  refine⟨b,dx,_,⟨t.c_zca,bl6 K t⟩,rfl,.head _,eb,rfl,⟨ah _,ah _⟩,⟨b,n,sw,rules,gs,rfl,hb,hn,hg,λa m q T ea hP o hv=>?_⟩⟩
  obtain⟨dx1,d1,⟨_,ep1⟩,_⟩:=id hP
  exact⟨_,_,.inr (SqT.of ea),rfl,q,dx1,_,⟨t.c_zbz,a57 K t⟩,rfl,.head _,ep1,rfl,⟨ah _,ah _⟩,⟨q,T,rfl,hP,λH1 q1 S1 h1=>k H1 q1 T S1 h1 o hv⟩⟩
noncomputable abbrev kN (z:Str):Key×V:=(.inr z,.bl true)
theorem On (zs:List Str):(zs.map kN).map (·.1)=zs.map (gN:Str->Key):=by rw[aI];rfl
theorem by1 (zs:List Str) (z:Str):Cu (zs.map kN) (.inr z) (.bl true)=(if z∈zs then zs else zs++[z]).map kN:=by
 by_cases h:z∈zs
 .rw[if_pos h]
  unfold Cu
  rw[if_pos (any_mem.mpr (by rw[On];exact cZ h)),aI]
  refine bK λy _=>?_
  show (if (.inr y:Key)=.inr z then ((.inr y:Key),V.bl true) else kN y)=_
  split <;> rfl
 .rw[if_neg h,Dw _ (B1 λq=>h (by
   rw[On] at q
   obtain⟨y,hy,e⟩:=List.mem_map.mp q
   cases e
   exact hy)),aq]
  rfl
theorem af6 (Z:Am K t):OkD K Vm (Aw K t) bl (t.m_zca 0) (t.e_zca 0) (Uk K t):=by
 refine okD (n:=40) (t:=bs0 K t) rfl (by decide +kernel) (by kernel_rfl) (λvs H Q E h=>?_) (λvs H Q E h=>?_)
 .obtain⟨b,sw,rules,gs,rfl,_⟩:=h;rfl
 .obtain⟨b,sw,rules,gs,rfl,⟨dx,p,l,eb,hp,es,ee,el,he⟩,few,k⟩:=h
  have le:es.length=gs.length:=by rw[<- ee,ae]
  have big:(1000:Nat)<sizeLine:=by decide
  intro d hd
  have Sd:=Same.upd (o:=.dK []) hd
  refine .inl (cP ⟨_,_,_,_,(Sd _ _ eb),Z.bc,Z.bk,rfl,(.inl ⟨⟨_,SqL.of (Sd _ _ el)⟩,?_⟩)⟩)
  have e0:upd H d (.dK []) d=some (.dK (([]:List Str).map kN)):=Aa
  show F0 (Itl K l) _ _ _ [some (.ref b),some (.ref d),none,none,none] (upd H d (.dK []))
  generalize upd H d (.dK [])=H0 at Sd e0 ⊢
  refine Bg (Ap (es.map λe=>V.ref e.2.2)) (λi U H'=>(∃ v2 v3 v4,U=[some (.ref b),some (.ref d),v2,v3,v4])/\Same H H' /\ ∃ zs:List Str,H' d=some (.dK (zs.map kN))/\zs.Nodup/\zs.length<=8 * i /\ ∀ z,z∈zs ↔ ∃ e∈es.take i,z∈e.1.2.map (·.1))
   ⟨⟨_,_,_,rfl⟩,Sd,[],e0,gR,bb _,λz=>by simp⟩ (λ_ _ H' _ q=>q.2.1.seqL (SqL.of el)) ?_ ?_
  .rintro i x U H1 hx ⟨⟨v2,v3,v4,rfl⟩,S1,zs,ed,nd,lz,mz⟩
   obtain⟨e,hi,rfl⟩:=Ak hx
   have hm:=al hi
   have il:=Al hi
   obtain⟨e1,hP,o1,_⟩:=he e hm
   have hP1:=hP.up S1
   obtain⟨dx1,d1,⟨_,ep1⟩,_⟩:=id hP1
   refine⟨_,.inl (SqT.of (S1 _ _ e1)),rfl,?_⟩
   refine⟨e.2.1,dx1,_,⟨t.c_zbz,as6 K t⟩,rfl,.head _,ep1,rfl,⟨ah _,ah _⟩,⟨e.2.1,e.1.2,rfl,hP1,o1,λM hM=>?_⟩⟩
   have pm:=A9 ltS (e.1.2.map (·.1))
   have ly:=pm.length_eq
   rw[ae] at ly
   have l8:=o1.2.1
   have S2:=Same.upd (o:=Au (B0 ltS (e.1.2.map (·.1)))) hM
   have e2:upd H1 M (Au (B0 ltS (e.1.2.map (·.1)))) M=some (Au (B0 ltS (e.1.2.map (·.1)))):=Aa
   have my:∀ z,z∈B0 ltS (e.1.2.map (·.1)) ↔ z∈e.1.2.map (·.1):=λz=>pm.mem_iff
   refine .inl ⟨⟨_,SqL.of e2⟩,?_⟩
   show F0 (Itl K M) _ _ _ [some (.ref b),some (.ref d),some (.int (e.1.1.2.2:Int)),some (.ref e.2.1),v4] _
   generalize B0 ltS (e.1.2.map (·.1))=ys at S2 e2 ly my ⊢
   generalize upd H1 M (Au ys)=H2 at S2 e2 ⊢
   have nMd:M≠d:=λz=>by rw[z,S2 _ _ ed] at e2;cases e2
   refine Bg (Ap (ys.map V.str)) (λj U H'=>(∃ v4,U=[some (.ref b),some (.ref d),some (.int (e.1.1.2.2:Int)),some (.ref e.2.1),v4])/\Same H H'/\H' M=some (Au ys) /\ ∃ zs:List Str,H' d=some (.dK (zs.map kN))/\zs.Nodup/\zs.length<=8 * i+j /\ ∀ z,z∈zs ↔ (∃ e∈es.take i,z∈e.1.2.map (·.1))\/z∈ys.take j)
    ⟨⟨_,rfl⟩,S1.trans S2,e2,zs,S2 _ _ ed,nd,lz,λz=>(mz z).trans (by simp)⟩ (λ_ _ H' _ q=>SqL.of q.2.2.1) ?_ ?_
   .rintro j x U H3 hx3 ⟨⟨v4,rfl⟩,S3,e3,zs,ed3,nd3,lz3,mz3⟩
    obtain⟨z,hz,rfl⟩:=Ak hx3
    have jl:=Al hz
    refine⟨_,DPut.k (k:=.inr z) ed3 (by rw[ae];omega),?_⟩
    rw[by1]
    refine⟨⟨_,rfl⟩,S3.set hd,by rw[Ad nMd];exact e3,_,Aa,?_,?_,λy=>?_⟩
    .split
     .exact nd3
     .rename_i nz
      exact List.nodup_append.mpr ⟨nd3,by simp,λa ha c hc e=>nz ((show c=z by simpa using hc)▸(e▸ha:c∈zs))⟩
    .split
     .omega
     .rw[aS];exact cx lz3
    .have hy:y∈(if z∈zs then zs else zs++[z]) ↔ y∈zs\/y=z:=by
      split
      .rename_i hz;exact⟨.inl,λq=>q.elim id λq=>q▸hz⟩
      .simp
     rw[hy,mz3 y,aA,hz]
     simp[or_assoc]
   .rintro U H3 ⟨⟨v4,rfl⟩,S3,_,zs,ed3,nd3,lz3,mz3⟩
    rw[ae] at lz3 mz3
    rw[aw] at mz3
    refine .inl ⟨⟨_,_,_,rfl⟩,S3,zs,ed3,nd3,by omega,λz=>(mz3 z).trans ?_⟩
    rw[my z]
    constructor
    .rintro (⟨e',h,q⟩|q)
     .exact⟨e',by rw[aA];exact cm _ h,q⟩
     .exact⟨e,by rw[aA,hi];simp,q⟩
    .rintro⟨e',h,q⟩
     rw[aA,hi] at h
     rcases List.mem_append.mp h with h|h
     .exact .inl ⟨e',h,q⟩
     .obtain rfl:e'=e:=by simpa using h
      exact .inr q
  .rintro U H1 ⟨⟨v2,v3,v4,rfl⟩,S1,zs,ed,nd,lz,mz⟩
   rw[ae] at lz mz
   rw[aw] at mz
   refine .inl (.inr ⟨rfl,.inl ⟨d,zs,rfl,.inr ⟨_,.inl ed,On zs⟩,nd,by omega,λD hD=>?_⟩⟩)
   have pm:=A9 ltS zs
   refine k _ D _ (S1.trans (Same.upd hD)) Aa (Dl (Gw nd)) (by rw[pm.length_eq];omega) λz=>?_
   rw[pm.mem_iff,mz]
   constructor
   .rintro⟨e,h,q⟩
    exact⟨e.1.1,by rw[<- ee];exact List.mem_map.mpr ⟨e,h,rfl⟩,e.1.2,(he e h).2.2.1,(he e h).2.2.2,(Pu (he e h).2.2.1 z).mpr q⟩
   .rintro⟨g,hg,c⟩
    rw[<- ee] at hg
    obtain⟨e,h,rfl⟩:=List.mem_map.mp hg
    refine⟨e,h,(Pu (he e h).2.2.1 z).mp ?_⟩
    rw[<- (he e h).2.2.2] at c
    exact (Jo (he e h).2.2.1 z).mp c
theorem a91 (Z:Am K t):OkD K D_zas (Aw K t) bl t.f_zas t.d_zas (ak2 K t):=by
 refine okD (n:=40) (t:=bt6 K t) rfl (by decide +kernel) (by kernel_rfl) (λvs H Q E h=>?_) (λvs H Q E h=>?_)
 .obtain⟨v,b,p,l,dx,dxb,X,sw,rules,rfl,_⟩:=h;rfl
 .obtain⟨v,b,p,l,dx,dxb,X,sw,rules,rfl,ev,eb,hp,hne,k⟩:=h
  have nbv:b≠v:=λz=>by rw[z,ev] at eb;injection eb with eb;injection eb with _ _ eb;cases eb
  refine .inl ⟨_,_,_,ev,Z.vc,Z.vb,(show 0<1000 by decide),?_⟩
  have e1:upd H v (.ins t.c_zcb dx [("book", .ref b)]) v=some (.ins t.c_zcb dx [("book", .ref b)]):=Aa
  have O1:∀ a o,a≠v->H a=some o->upd H v (.ins t.c_zcb dx [("book", .ref b)]) a=some o:=λa o n e=>by rw[Ad n];exact e
  have hp1:=(hp.mono (Kp.off (p:=v) (o:=.ins t.c_zcb dx [("book", .ref b)]) λz=>z rfl)).mono Kp.any
  show Ae _ _ _ _ (upd H v (.ins t.c_zcb dx [("book", .ref b)]))
  generalize upd H v (.ins t.c_zcb dx [("book", .ref b)])=H1 at e1 O1 hp1 ⊢
  obtain⟨dxp,d,l1,n1,s1,k1,br1,h1⟩:=id hp1
  refine cP ⟨_,_,_,_,(O1 _ _ nbv eb),Z.bc,Z.bp,rfl,⟨p,dxp,_,⟨t.c_zby,as5 K t⟩,rfl,.head _,h1.ins.2,rfl,⟨ah _,ah _⟩,⟨p,sw,rules,rfl,hp1,?_⟩⟩⟩
  rw[Fu]
  show Wu K "seen" (.ref v) (.int (bO (X:Int) ((B5 sw rules:Nat):Int))) H1 _
  rw[Bx]
  refine .inl ⟨_,_,_,e1,Z.vc,Z.vs,(show 1<1000 by decide),?_⟩
  have e2:upd H1 v (.ins t.c_zcb dx (Dv "seen" (.int ((X &&& B5 sw rules:Nat):Int)) [("book", .ref b)])) v=some (.ins t.c_zcb dx [("book", .ref b),("seen", .int ((X &&& B5 sw rules:Nat):Int))]):=Aa
  have O2:∀ a o,a≠v->H a=some o->upd H1 v (.ins t.c_zcb dx (Dv "seen" (.int ((X &&& B5 sw rules:Nat):Int)) [("book", .ref b)])) a=some o:=λa o n e=>by rw[Ad n];exact O1 _ _ n e
  show Ae _ _ _ _ (upd H1 v (.ins t.c_zcb dx (Dv "seen" (.int ((X &&& B5 sw rules:Nat):Int)) [("book", .ref b)])))
  generalize upd H1 v (.ins t.c_zcb dx (Dv "seen" (.int ((X &&& B5 sw rules:Nat):Int)) [("book", .ref b)]))=H2 at e2 O2 ⊢
  refine cP ⟨_,_,_,_,e2,Z.vc,Z.vs,rfl,?_⟩
  exact De (decide_eq_false (by omega)) (k H2 O2 e2)
theorem Q8 {sw:Sw} {i:Nat} {x:Str×List Str} (h:sw[i]? = some x):nmS sw i=x.1/\bh9 sw i=x.2:=by
 unfold nmS bh9
 exact⟨B7 (by rw[ak,h];rfl),by rw[ak,h];rfl⟩
theorem bo3 (Z:Am K t):OkD K ap9 (Aw K t) bl (t.m_zcb 1) (t.e_zcb 1) (al9 K t):=by
 refine okD (n:=40) (t:=b20 K t) rfl (by decide +kernel) (by kernel_rfl) (λvs H Q E h=>?_) (λvs H Q E h=>?_)
 .obtain⟨v,b,i,M,x,sw,rules,gs,rfl,_⟩:=h;rfl
 .obtain⟨v,b,i,M,x,sw,rules,gs,rfl,⟨dx,ev⟩,hb,hw,hi,k⟩:=h
  have big:(1000:Nat)<sizeLine:=by decide
  obtain⟨dxb,p,l,eb,hp,_⟩:=id hb
  obtain⟨dxp,d,l1,n1,s1,k1,br1,h1⟩:=id hp
  have o4:=(hw.sets x (al hi)).2.2
  refine cP ⟨_,_,_,_,ev,Z.vc,Z.vb,rfl,(cP ⟨_,_,_,_,eb,Z.bc,Z.bp,rfl,⟨p,dxp,_,⟨t.c_zby,bl4 K t⟩,rfl,.head _,h1.ins.2,rfl,⟨ah _,ah _⟩,⟨p,i,x,sw,rules,rfl,hp,hw,hi,λH1 L S1 hT=>?_⟩⟩⟩)⟩
  obtain⟨Ts,eL,lT,hT⟩:=hT
  rw[ae] at lT
  refine .inl ⟨⟨_,SqL.of eL⟩,λD hD=>?_⟩
  refine Bq (Ap (Ts.map V.ref)) (λm U H'=>(∃ v0 v1,U=[v0,v1,some (.ref v)])/\Same H1 H'/\H' D=some (Au ((x.2.take m).filter λz=>decide (Ek (Aj sw) i z &&& M≠0)))) ⟨⟨_,_,rfl⟩,Same.upd hD,Aa⟩ (λ_ _ H' _ q=>q.2.1.seqL (SqL.of eL)) ?_ ?_
  .rintro m y U H2 hy ⟨⟨v0,v1,rfl⟩,S2,eD⟩
   obtain⟨T,hm,rfl⟩:=Ak hy
   have ml:=Al hm
   have hz:x.2[m]? = some (x.2[m]'(by omega)):=ag _
   generalize x.2[m]'(by omega)=z at hz
   have eT:=hT m (.str z) (.int (C7 (Aj sw) i z)) T (by rw[ak,hz];rfl) hm
   refine⟨_,.inl (SqT.of (S2 _ _ eT)),rfl,cP ⟨_,_,_,_,((S1.trans S2) _ _ ev),Z.vc,Z.vs,rfl,?_⟩⟩
   have fs:=Cs (p:=λz=>decide (Ek (Aj sw) i z &&& M≠0)) hz
   have fl:=Dr x.2 m λz=>decide (Ek (Aj sw) i z &&& M≠0)
   have tb:(!decide (bO (C7 (Aj sw) i z) (M:Int)=0))=decide (Ek (Aj sw) i z &&& M≠0):=by rw[Nf,Bx,<- decide_not];exact decide_eq_decide.mpr (by omega)
   by_cases c:Ek (Aj sw) i z &&& M≠0
   .rw[decide_eq_true c,if_pos rfl] at fs
    refine Ei (tb.trans (decide_eq_true c)) ⟨_,eD,by rw[ae];omega,⟨_,_,rfl⟩,S2.set hD,by rw[Aa,fs,Au,aq];rfl⟩
   .rw[decide_eq_false c,if_neg (by decide),bI] at fs
    exact De (tb.trans (decide_eq_false c)) ⟨⟨_,_,rfl⟩,S2,by rw[fs];exact eD⟩
  .rintro U H2 ⟨_,S2,eD⟩
   rw[ae,lT,aw] at eD
   refine .inl ⟨_,.inl (SqL.of eD),?_⟩
   have:=k H2 (S1.trans S2)
   unfold El at this
   rw[(Q8 hi).2] at this
   rw[ae]
   have e:decide (1<((x.2.filter λz=>decide (Ek (Aj sw) i z &&& M≠0)).length:Int))=decide (1<(x.2.filter λz=>decide (Ek (Aj sw) i z &&& M≠0)).length):=decide_eq_decide.mpr (by omega)
   show Q (.bl (decide (1<((x.2.filter λz=>decide (Ek (Aj sw) i z &&& M≠0)).length:Int)))) H2
   rw[e]
   exact this
theorem bm8 (Z:Am K t):OkD K ao8 (Aw K t) bl (t.m_zcb 4) (t.e_zcb 4) (ak5 K t):=by
 refine okD (n:=40) (t:=b02 K t) rfl (by decide +kernel) (by kernel_rfl) (λvs H Q E h=>?_) (λvs H Q E h=>?_)
 .obtain⟨v,b,M,sw,rules,gs,rfl,_⟩:=h;rfl
 .obtain⟨v,b,M,sw,rules,gs,rfl,hv,hb,hw,k⟩:=h
  have big:(1000:Nat)<sizeLine:=by decide
  have l5:=hw.2.1
  obtain⟨dx,ev⟩:=id hv
  obtain⟨dxb,p,l,eb,hp,_⟩:=id hb
  obtain⟨dxp,d,l1,n1,s1,k1,br1,h1⟩:=id hp
  refine cP ⟨_,_,_,_,ev,Z.vc,Z.vb,rfl,(cP ⟨_,_,_,_,eb,Z.bc,Z.bp,rfl,⟨p,dxp,_,⟨t.c_zby,bl2 K t⟩,rfl,.head _,h1.ins.2,rfl,⟨ah _,ah _⟩,⟨p,sw,rules,rfl,hp,hw,λH1 q ds S1 hq eds eq hds=>?_⟩⟩⟩)⟩
  have len:ds.length=sw.length:=by rw[<- eds,ae]
  refine .inl ⟨⟨_,SqL.of eq⟩,λD hD=>?_⟩
  refine Bq (Ap (ds.map λx=>V.ref x.2)) (λi U H'=>(∃ v0 v1,U=[v0,v1,some (.ref v)])/\Same H1 H'/\H' D=some (Au (((ay i).filter λi=>decide (1<(El sw M i).length)).map (nmS sw)))) ⟨⟨_,_,rfl⟩,Same.upd hD,Aa⟩ (λ_ _ H' _ q=>q.2.1.seqL (SqL.of eq)) ?_ ?_
  .rintro i x U H2 hx ⟨⟨v0,v1,rfl⟩,S2,eD⟩
   obtain⟨⟨⟨x',ta⟩,T⟩,hi,rfl⟩:=Ak hx
   have hi2:sw[i]? = some x':=by rw[<- eds,ak,hi];rfl
   have S02:=S1.trans S2
   refine⟨_,.inl (SqT.of (S2 _ _ (hds _ (al hi)).1)),rfl,?_⟩
   refine⟨v,dx,_,⟨t.c_zcb,bl5 K t⟩,rfl,.head _,S02 _ _ ev,rfl,⟨ah _,ah _⟩,⟨v,b,i,M,x',sw,rules,gs,rfl,⟨dx,S02 _ _ ev⟩,hb.up S02,hw,hi2,λH3 S3=>?_⟩⟩
   have fs:(ay (i+1)).filter (λi=>decide (1<(El sw M i).length))=(ay i).filter (λi=>decide (1<(El sw M i).length))++(if decide (1<(El sw M i).length)=true then [i] else []):=by rw[fw,cO,eV,fm]
   have fl:=bu (λi=>decide (1<(El sw M i).length)) (ay i)
   rw[aV] at fl
   have il:=Al hi2
   by_cases c:1<(El sw M i).length
   .rw[decide_eq_true c,if_pos rfl] at fs
    rw[decide_eq_true c]
    refine⟨_,S3 _ _ eD,by rw[ae,ae];omega,⟨_,_,rfl⟩,(S2.trans S3).set hD,by rw[Aa,fs,Au,aq,aq,show [i].map (nmS sw)=[x'.1] by rw[<- (Q8 hi2).1];rfl];rfl⟩
   .rw[decide_eq_false c,if_neg (by decide),bI] at fs
    rw[decide_eq_false c]
    exact⟨⟨_,_,rfl⟩,S2.trans S3,by rw[fs];exact S3 _ _ eD⟩
  .rintro U H2 ⟨_,S2,eD⟩
   rw[ae,len] at eD
   exact k H2 D (S1.trans S2) (S1.free hD) eD
end
theorem ag2 {H:Hp}:∀ {os:List (Str×List V)} {vs:List V},vs.length=os.length->(∀ (i:Nat) v o,vs[i]? = some v->os[i]? = some o -> ∃ a,v=.ref a/\H a=some (.tup (.str o.1::o.2))) -> ∃ es:List ((Str×List V)×Addr),es.map (·.1)=os/\vs=es.map (λe=>.ref e.2) /\ ∀ e∈es,H e.2=some (.tup (.str e.1.1::e.1.2))
 |[],[],_,_=>⟨[],rfl,rfl,λe h=>by cases h⟩
 |[],_::_,h,_=>by cases h
 |_::_,[],h,_=>by cases h
 | o::os,v::vs,h,g=>by
  obtain⟨es,e1,e2,e3⟩:=ag2 (os:=os) (vs:=vs) (by simpa using h) λi v o h1 h2=>g (i+1) v o h1 h2
  obtain⟨a,rfl,ha⟩:=g 0 v o rfl rfl
  refine⟨(o,a)::es,by rw[aP,e1],by rw[aP,e2],λe h=>?_⟩
  rcases List.mem_cons.mp h with rfl|h
  .exact ha
  .exact e3 e h
section
variable {P:aX} {w:bB} {K:ac} {mg:Str->Option ai} {base:Heap} {t:Adr}
theorem Seen.has {ns Ws:List Nat} {tr:Nat->Tr} {gs:List Gp} {M:Nat} (S:Seen ns tr gs Ws M) {z:Str} (n:Nat):(n∈ns/\(stT (tr n) z).isSome=true) ↔ ∃ g∈gs,g.2.2.testBit n=true/\Lv g.1 z:=by
 constructor
 .rintro⟨hn,h⟩
  obtain⟨g,hg,e,b⟩:=S.get hn
  exact⟨g,hg,b,by rw[e];exact (Jo (S.ok n hn).1 z).mpr h⟩
 .rintro⟨g,hg,b,h⟩
  obtain⟨hn,e⟩:=(S.bits hg n).mp b
  exact⟨hn,(Jo (S.ok n hn).1 z).mp (by rw[e];exact h)⟩
theorem bo7 (Z:Am K t):OkD K aq2 (Aw K t) bl (t.m_zcb 2) (t.e_zcb 2) (am3 K t):=by
 refine okD (n:=40) (t:=b25 K t) rfl (by decide +kernel) (by kernel_rfl) (λvs H Q E h=>?_) (λvs H Q E h=>?_)
 .obtain⟨v,b,sw,rules,gs,tr,Ws,M,rfl,_⟩:=h;rfl
 .obtain⟨v,b,sw,rules,gs,tr,Ws,M,rfl,⟨dx,ev⟩,hb,hw,hS,k⟩:=h
  have big:(1000:Nat)<sizeLine:=by decide
  obtain⟨dxb,_,_,eb,_⟩:=id hb
  refine cP ⟨_,_,_,_,ev,Z.vc,Z.vb,rfl,⟨b,dxb,_,⟨t.c_zca,bl3 K t⟩,rfl,.head _,eb,rfl,⟨ah _,ah _⟩,?_⟩⟩
  refine cP ⟨_,_,_,_,ev,Z.vc,Z.vs,rfl,⟨b,M,sw,rules,gs,rfl,hb,hS.few,λH1 l rs S1 hR lr r1 r2=>?_⟩⟩
  have hb1:=hb.up S1
  refine cP ⟨_,_,_,_,(S1 _ _ ev),Z.vc,Z.vb,rfl,⟨b,dxb,_,⟨t.c_zca,a06 K t⟩,rfl,.tail _ (.head _),S1 _ _ eb,rfl,⟨ah _,ah _⟩,⟨b,sw,rules,gs,rfl,hb1,hS.few,λH2 l2 zs S2 e2 so lz mz=>?_⟩⟩⟩
  have S02:=S1.trans S2
  have hb2:=hb1.up S2
  have hz:∀ z,Ch tr Ws z=true->z∈zs:=λz h=>by
   obtain⟨n,hn,q⟩:=List.any_eq_true.mp h
   obtain⟨g,hg,_,c⟩:=(hS.has n).mp ⟨hS.wns hn,q⟩
   exact (mz z).mpr ⟨g,hg,c⟩
  refine .inl ⟨⟨_,SqL.of e2⟩,λD hD=>?_⟩
  refine Bq (Ap (zs.map V.str)) (λi U H'=>(∃ v0,U=[v0,some (.ref v)])/\Same H2 H'/\H' D=some (Au ((zs.take i).filter (Ch tr Ws)))) ⟨⟨_,rfl⟩,Same.upd hD,Aa⟩ (λ_ _ H' _ q=>q.2.1.seqL (SqL.of e2)) ?_ ?_
  .rintro i x U H3 hx ⟨⟨v0,rfl⟩,S3,eD⟩
   obtain⟨z,hi,rfl⟩:=Ak hx
   have S03:=S02.trans S3
   refine cP ⟨_,_,_,_,(S03 _ _ ev),Z.vc,Z.vb,rfl,⟨b,dxb,_,⟨t.c_zca,a08 K t⟩,rfl,.head _,S03 _ _ eb,rfl,⟨ah _,ah _⟩,⟨b,z,sw,rules,gs,rfl,hb2.up S3,hS.few,(mz z).mp (al hi),λH4 m S4 hm=>?_⟩⟩⟩
   refine cP ⟨_,_,_,_,((S03.trans S4) _ _ ev),Z.vc,Z.vs,rfl,?_⟩
   have fs:=Cs (p:=Ch tr Ws) hi
   have fl:=Dr zs i (Ch tr Ws)
   have tb:(!decide (bO (m:Int) (M:Int)=0))=Ch tr Ws z:=by
    rw[Bx,<- decide_not,bQ,decide_eq_true_iff]
    have:¬ ((m &&& M:Nat):Int)=0 ↔ m &&& M≠0:=by omega
    rw[this,and_ne]
    constructor
    .rintro⟨j,q1,q2⟩
     rw[hS.bit,decide_eq_true_iff] at q2
     exact List.any_eq_true.mpr ⟨j,q2,((hS.has j).mpr ((hm j).mp q1)).2⟩
    .intro q
     obtain⟨j,hj,q⟩:=List.any_eq_true.mp q
     exact⟨j,(hm j).mpr ((hS.has j).mp ⟨hS.wns hj,q⟩),by rw[hS.bit];exact decide_eq_true hj⟩
   cases c:Ch tr Ws z with
   |true=>
    rw[c,if_pos rfl] at fs
    refine Ei (tb.trans c) ⟨_,S4 _ _ eD,by rw[ae];omega,⟨_,rfl⟩,(S3.trans S4).set hD,by rw[Aa,fs,Au,aq];rfl⟩
   |false=>
    rw[c,if_neg (by decide),bI] at fs
    exact De (tb.trans c) ⟨⟨_,rfl⟩,S3.trans S4,by rw[fs];exact S4 _ _ eD⟩
  .rintro U H3 ⟨_,S3,eD⟩
   rw[ae,aw] at eD
   have so3:Sorted (zs.filter (Ch tr Ws)):=fN _ so
   have m3:∀ z,z∈zs.filter (Ch tr Ws) ↔ Ch tr Ws z=true:=λz=>by rw[cE];exact⟨λq=>q.2,λq=>⟨hz z q,q⟩⟩
   have l3:=bu (Ch tr Ws) zs
   generalize zs.filter (Ch tr Ws)=ys at eD so3 m3 l3
   have S03:=S02.trans S3
   have h0:=hS.head.1
   refine cP ⟨_,_,_,_,(S03 _ _ ev),Z.vc,Z.vb,rfl,⟨b,dxb,_,⟨t.c_zca,a07 K t⟩,rfl,.head _,S03 _ _ eb,rfl,⟨ah _,ah _⟩,?_⟩⟩
   refine cP ⟨_,_,_,_,(S03 _ _ ev),Z.vc,Z.vs,rfl,⟨M,some (Ws.headD 0),rfl,hS.least,hS.lt,?_⟩⟩
   obtain⟨g0,hg0,eg0,bg0⟩:=hS.get (hS.wns h0)
   refine⟨b,Ws.headD 0,sw,rules,gs,rfl,hb2.up S3,(Cl (hS.wns h0)).1,⟨g0,hg0,bg0⟩,λH4 q T S4 hP oT ⟨g1,hg1,bg1,ev1⟩=>?_⟩
   have vT:vkT T=vkT (tr (Ws.headD 0)):=by rw[ev1,((hS.bits hg1 _).mp bg1).2]
   have sT:∀ z,stT T z=stT (tr (Ws.headD 0)) z:=W6 oT (hS.ok _ (hS.wns h0)).1 vT
   have S14:=S2.trans (S3.trans S4)
   refine .inl ⟨⟨_,SqL.of (S4 _ _ eD)⟩,?_⟩
   refine Gm (P:=λi u H'=>∀ z,ys[i]? = some z -> ∃ a,u=.ref a/\H' a=some (.tup [.str z,au6 (Fq tr Ws z)])) (rest:=[some (.ref q),some (.ref l)]) (λi u _ _ N p z hz=>let ⟨a,e,h⟩:=p z hz;⟨a,e,N.tup _ _ h⟩) (Ap (ys.map V.str)) (λH' S=>(S4.trans S).seqL (SqL.of eD)) (by rw[ae];omega) (λi x H5 Q1 hx S5 fin=>?_) λL H5 vs S5 hL eL lv hv=>?_
   .obtain⟨z,hi,rfl⟩:=Ak hx
    have S15:=S14.trans S5
    refine⟨l,q,z,T,rs,rfl,⟨S15 _ _ hR.1,λr h=>⟨S15 _ _ (hR.2 r h).1,(hR.2 r h).2.1.up S15,(hR.2 r h).2.2⟩⟩,by omega,hP.up S5,oT,λH6 S6=>?_⟩
    have bits:∀ n,(Dc ((rs.filter λr=>decide (stT r.1.2 z≠stT T z)).map (·.1.1))).testBit n=true ↔ n∈Ws/\stT (tr n) z≠stT (tr (Ws.headD 0)) z:=λn=>by
     rw[E2,bX]
     constructor
     .rintro⟨m,hm,qb⟩
      obtain⟨r,hr,rfl⟩:=List.mem_map.mp hm
      obtain⟨hr1,hr2⟩:=List.mem_filter.mp hr
      obtain⟨g,hg,a1,a2⟩:=r1 r hr1
      rw[a1,cF,aU] at qb
      obtain⟨hn,en⟩:=(hS.bits hg n).mp qb.1
      have q2:=qb.2
      rw[hS.bit,decide_eq_true_iff] at q2
      refine⟨q2,λe=>of_decide_eq_true hr2 ?_⟩
      rw[W6 (hR.2 r hr1).2.2 (hS.ok n hn).1 (by rw[a2,en]),sT,e]
     .rintro⟨hn,ne⟩
      obtain⟨g,hg,e,bg⟩:=hS.get (hS.wns hn)
      have bM:M.testBit n=true:=by rw[hS.bit];exact decide_eq_true hn
      obtain⟨r,hr,a1,a2⟩:=r2 g hg (and_ne.mpr ⟨n,bg,bM⟩)
      refine⟨_,List.mem_map.mpr ⟨r,List.mem_filter.mpr ⟨hr,decide_eq_true λee=>ne ?_⟩,rfl⟩,by rw[a1,cF,bg,bM];rfl⟩
      rw[<- sT,<- ee,W6 (hR.2 r hr).2.2 (hS.ok n (hS.wns hn)).1 (by rw[a2,e])]
    generalize Dc ((rs.filter λr=>decide (stT r.1.2 z≠stT T z)).map (·.1.1))=c at bits
    have lc:c<2 ^ 1000:=fS _ λj hj=>by
     rw[iG]
     intro qq
     have:=(hS.ok j (hS.wns ((bits j).mp qq).1)).2
     omega
    refine⟨c,Fq tr Ws z,rfl,hS.unl bits,lc,(show 2<=sizeLine by decide),λB hB=>fin _ _ (S6.trans (Same.upd hB)) λz2 hz2=>?_⟩
    rw[hi] at hz2
    cases hz2
    exact⟨B,rfl,Aa⟩
   .rw[ae] at lv
    obtain⟨es,ee,e6,he⟩:=ag2 (H:=H5) (os:=Lz tr Ws ys) (vs:=vs) (by unfold Lz;rw[ae];exact lv) λi u o h1 h2=>by
     unfold Lz at h2
     obtain⟨z,hz,rfl⟩:=Ak h2
     exact hv i u h1 z hz
    exact k H5 L ys (S1.trans (S14.trans S5)) ⟨es,ee,by rw[eL,e6],he⟩ so3 (by omega) m3
theorem ag0 (o:Option Nat):decide (au6 o=.non)=o.isNone:=by cases o <;> rfl
theorem bo8 (Z:Am K t):OkD K aq3 (Aw K t) bl (t.m_zcb 3) (t.e_zcb 3) (am4 K t):=by
 refine okD (n:=40) (t:=b26 K t) rfl (by decide +kernel) (by kernel_rfl) (λvs H Q E h=>?_) (λvs H Q E h=>?_)
 .obtain⟨v,b,sw,rules,gs,tr,Ws,M,rfl,_⟩:=h;rfl
 .obtain⟨v,b,sw,rules,gs,tr,Ws,M,rfl,hv,hb,hw,hS,k⟩:=h
  have big:(1000:Nat)<sizeLine:=by decide
  obtain⟨dx,ev⟩:=id hv
  refine⟨v,dx,_,⟨t.c_zcb,a58 K t⟩,rfl,.head _,ev,rfl,⟨ah _,ah _⟩,⟨v,b,sw,rules,gs,tr,Ws,M,rfl,hv,hb,hw,hS,λH1 l zs S1 ⟨es,ee,el,he⟩ so lz mz=>?_⟩⟩
  have le:es.length=zs.length:=by have:=congrArg b9 ee;unfold Lz at this;rwa[ae,ae] at this
  refine .inl ⟨⟨_,SqL.of el⟩,λD hD=>?_⟩
  refine Bq (Ap (es.map λe=>V.ref e.2)) (λi U H'=>(∃ v0 v1,U=[v0,v1])/\Same H1 H'/\H' D=some (Au (shF tr Ws (zs.take i)))) ⟨⟨_,_,rfl⟩,Same.upd hD,Aa⟩ (λ_ _ H' _ q=>q.2.1.seqL (SqL.of el)) ?_ ?_
  .rintro i x U H2 hx ⟨⟨v0,v1,rfl⟩,S2,eD⟩
   obtain⟨e,hi,rfl⟩:=Ak hx
   have hz:(Lz tr Ws zs)[i]? = some e.1:=by rw[<- ee,ak,hi];rfl
   unfold Lz at hz
   obtain⟨z,hz,e1⟩:=Ak hz
   have et:=he e (al hi)
   rw[e1] at et
   refine⟨_,.inl (SqT.of (S2 _ _ et)),rfl,?_⟩
   have fs:shF tr Ws (zs.take (i+1))=shF tr Ws (zs.take i)++(if (Fq tr Ws z).isNone=true then [z] else []):=Cs hz
   have fl:(shF tr Ws (zs.take i)).length<=zs.length:=Dr zs i _
   have tb:=ag0 (Fq tr Ws z)
   cases c:(Fq tr Ws z).isNone with
   |true=>
    rw[c,if_pos rfl] at fs
    exact Ei (tb.trans c) ⟨_,eD,by rw[ae];omega,⟨_,_,rfl⟩,S2.set hD,by rw[Aa,fs,Au,aq];rfl⟩
   |false=>
    rw[c,if_neg (by decide),bI] at fs
    exact De (tb.trans c) ⟨⟨_,_,rfl⟩,S2,by rw[fs];exact eD⟩
  .rintro U H2 ⟨_,S2,eD⟩
   rw[ae,le,aw] at eD
   exact k H2 D zs (S1.trans S2) (S1.free hD) eD so lz mz
theorem aq9 {tr:Nat->Tr} {Ws:List Nat} {zs:List Str} {i:Nat} {z:Str} (h:zs[i]? = some z):apF tr Ws (zs.take (i+1))=apF tr Ws (zs.take i)++((Fq tr Ws z).map λo=>(z,[V.int (Ws.headD 0:Nat),.int (o:Int)])).toList:=by
 unfold apF
 rw[aA,h,cD,gW]
 congr 1
theorem Z6 (tr:Nat->Tr) (Ws:List Nat) (zs:List Str):(apF tr Ws zs).length<=zs.length:=List.length_filterMap_le _ _
theorem a82 (Z:Am K t):OkD K Vr (Aw K t) bl (t.m_zcb 0) (t.e_zcb 0) (Uq K t):=by
 refine okD (n:=40) (t:=bs7 K t) rfl (by decide +kernel) (by kernel_rfl) (λvs H Q E h=>?_) (λvs H Q E h=>?_)
 .obtain⟨v,b,sw,rules,gs,tr,Ws,M,rfl,_⟩:=h;rfl
 .obtain⟨v,b,sw,rules,gs,tr,Ws,M,rfl,hv,hb,hw,hS,k⟩:=h
  have big:(1000:Nat)<sizeLine:=by decide
  obtain⟨dx,ev⟩:=id hv
  refine cP ⟨_,_,_,_,ev,Z.vc,Z.vs,rfl,⟨M,some (Ws.headD 0),rfl,hS.least,hS.lt,?_⟩⟩
  refine⟨v,dx,_,⟨t.c_zcb,a58 K t⟩,rfl,.head _,ev,rfl,⟨ah _,ah _⟩,⟨v,b,sw,rules,gs,tr,Ws,M,rfl,hv,hb,hw,hS,λH1 l zs S1 ⟨es,ee,el,he⟩ so lz mz=>?_⟩⟩
  have le:es.length=zs.length:=by have:=congrArg b9 ee;unfold Lz at this;rwa[ae,ae] at this
  refine .inl ⟨⟨_,SqL.of el⟩,λD hD=>?_⟩
  refine Bq (Ap (es.map λe=>V.ref e.2)) (λi U H'=>(∃ v0 v1,U=[v0,v1,some (.int (Ws.headD 0:Nat))])/\Same H1 H'/\OthAt H' D (apF tr Ws (zs.take i))) ⟨⟨_,_,rfl⟩,Same.upd hD,[],rfl,Aa,λe h=>by cases h⟩ (λ_ _ H' _ q=>q.2.1.seqL (SqL.of el)) ?_ ?_
  .rintro i x U H2 hx ⟨⟨v0,v1,rfl⟩,S2,fs,ef,eD,hf⟩
   obtain⟨e,hi,rfl⟩:=Ak hx
   have hz:(Lz tr Ws zs)[i]? = some e.1:=by rw[<- ee,ak,hi];rfl
   unfold Lz at hz
   obtain⟨z,hz,e1⟩:=Ak hz
   have et:=he e (al hi)
   rw[e1] at et
   refine⟨_,.inl (SqT.of (S2 _ _ et)),rfl,?_⟩
   have sn:=aq9 (tr:=tr) (Ws:=Ws) hz
   cases c:Fq tr Ws z with
   |none=>
    rw[c] at sn
    exact⟨⟨_,_,rfl⟩,S2,fs,by rw[sn,ef];simp,eD,hf⟩
   |some o=>
    rw[c] at sn
    refine⟨(show 3<=sizeLine by decide),λT hT=>?_⟩
    have ST:=Same.upd (o:=.tup [.str z,.int (Ws.headD 0:Nat),.int (o:Int)]) hT
    have eT:upd H2 T (.tup [.str z,.int (Ws.headD 0:Nat),.int (o:Int)]) T=some (.tup [.str z,.int (Ws.headD 0:Nat),.int (o:Int)]):=Aa
    have lf:fs.length<=zs.length:=by
     have:=congrArg b9 ef
     have h2:=Z6 tr Ws (zs.take i)
     rw[aG] at h2
     rw[ae] at this
     omega
    have nl:=NL.upd (m:=(fs.map λe=>V.ref e.2)++[.ref T]) (ST _ _ eD)
    refine⟨_,ST _ _ eD,by rw[ae];omega,⟨_,_,rfl⟩,(S2.trans ST).set hD,fs++[((z,[V.int (Ws.headD 0:Nat),.int (o:Int)]),T)],by rw[aq,ef,sn];rfl,by rw[Aa,aq];rfl,λx hx=>?_⟩
    rcases List.mem_append.mp hx with hx|hx
    .exact nl.tup _ _ (ST _ _ (hf x hx))
    .obtain rfl:x=((z,[V.int (Ws.headD 0:Nat),.int (o:Int)]),T):=by simpa using hx
     exact nl.tup _ _ eT
  .rintro U H2 ⟨_,S2,hO⟩
   rw[ae,le,aw] at hO
   exact k H2 D zs (S1.trans S2) (S1.free hD) hO so lz mz
theorem bw5 {A B G:Prop} (use:A->B->G) (hA:A) (hB:B):G:=use hA hB
theorem ba6 (Z:Am K t):OkD K Zo (Aw K t) bl (t.f 39) (t.d 39) (K4 K t):=by
 refine okD (n:=40) (t:=bv0 K t) rfl (by decide +kernel) (by kernel_rfl) (λvs H Q E h=>?_) (λvs H Q E h=>?_)
 .obtain⟨a,b,d,xs,rfl,_⟩:=h;rfl
 .obtain⟨a,b,d,xs,rfl,ea,h1,h2,dp,k⟩:=h
  refine⟨_,true,.sqL rfl (SqL.of ea) rfl,rfl,?_⟩
  refine .inr (.inl ⟨d,d,h1,h2,dp,?_⟩)
  rw[Gn h1]
  exact .inl ⟨.inl ⟨rfl,_,SqL.of ea⟩,a,_,rfl,rfl,ea,k _ λc o nc e=>by rw[Ad nc];exact e⟩
theorem a86 (Z:Am K t):OkD K Za (Aw K t) bl (t.f 36) (t.d 36) (Ut K t):=by
 refine okD (n:=40) (t:=bt1 K t) rfl (by decide +kernel) (by kernel_rfl) (λvs H Q E h=>?_) (λvs H Q E h=>?_)
 .obtain⟨c,W,l,kk,f,sw,rules,rfl,_⟩:=h;rfl
 .obtain⟨c,W,l,kk,f,sw,rules,rfl,hW,k⟩:=h
  have big:(1000:Nat)<sizeLine:=by decide
  have hw:=hW.ok
  obtain⟨ds,ed,⟨_,ol⟩,_⟩:=id hW.sws
  have len:ds.length=sw.length:=by rw[<- ed];simp
  have l1:=hw.1
  have lf:1<=(An sw rules).length:=List.length_pos_iff.mpr hW.ne
  refine⟨_,.inr (SqL.of hW.at_),rfl,c,801,rfl,by decide,by decide,c,802,rfl,by decide,.inl ⟨_,.inl (SqL.of ol),?_⟩⟩
  obtain⟨j,hj,ej⟩:=Dq (Bk c 802) l1
  have ell:((ds.map λx=>V.ref x.2).length:Int)=(sw.length:Int):=by rw[ae,len]
  refine⟨by omega,c,803,rfl,by decide,.inl ⟨_,.inl (SqL.of hW.fr),?_⟩⟩
  have elf:(((An sw rules).map λn:Nat=>V.int (n:Int)).length:Int)=((An sw rules).length:Int):=by rw[ae]
  obtain⟨j2,hj2,ej2⟩:=Dq (Bk c 803) lf
  refine⟨by omega,_,.int ((An sw rules)[j2]:Nat),.inl (SqL.of hW.fr),by rw[elf,ej2];exact Bn (by rw[ak,ag hj2];rfl),l,(An sw rules)[j2],sw,rfl,hW.sws,hw,λH1 r S1 er=>?_⟩
  have dg:∀ n,atI ((Cq sw n).map λn:Nat=>V.int (n:Int)) (Bk c 802 % (((ds.map λx=>V.ref x.2).length:Nat):Int))=some (.int ((Cq sw n).getD j 0:Nat)):=λn=>by
   rw[ell,ej]
   refine Bn ?_
   have:j<(Cq sw n).length:=by rw[Ee];exact hj
   rw[ak,ag this,B7 (ag this)]
   rfl
  refine⟨_,_,.inl (SqL.of er),dg _,(show 0<=sizeLine by decide),λR hR=>?_⟩
  have S2:=S1.trans (Same.upd (o:=.lst []) hR)
  have fR:=S1.free hR
  have e2:upd H1 R (.lst []) R=some (nO []):=Aa
  show Ae _ _ _ _ (upd H1 R (.lst []))
  generalize upd H1 R (.lst [])=H2 at S2 e2 ⊢
  generalize hone:(V.int ((Cq sw (An sw rules)[j2]).getD j 0:Nat))=one
  refine .inl ⟨⟨_,SqL.of (S2 _ _ hW.fr)⟩,?_⟩
  have l256:(An sw rules).length<=256:=by
   have:=bu (λn=>!F5 sw rules n) (ay (Aj sw).length)
   rw[aV] at this
   exact aY this hw.len
  show F0 (Itl K f) _ _ _ [some (.int c),some (.ref W),some (.ref l),some (.ref kk),some (.ref f),some (.int (Bk c 801 % 4)),some (.int (Bk c 802 % (((ds.map λx=>V.ref x.2).length:Nat):Int))),some one,some (.ref R),none,none] H2
  subst hone
  refine Bg (Ap ((An sw rules).map λn:Nat=>V.int (n:Int))) (λi U H'=>(∃ v9 v10,U=[some (.int c),some (.ref W),some (.ref l),some (.ref kk),some (.ref f),some (.int (Bk c 801 % 4)),some (.int (Bk c 802 % (((ds.map λx=>V.ref x.2).length:Nat):Int))),some (V.int ((Cq sw (An sw rules)[j2]).getD j 0:Nat)),some (.ref R),v9,v10])/\Same H H' /\ ∃ Ws:List Nat,H' R=some (nO Ws)/\Ws.Sublist ((An sw rules).take i))
   ⟨⟨_,_,rfl⟩,S2,[],e2,g3 _⟩ (λ_ _ H' _ q=>q.2.1.seqL (SqL.of hW.fr)) ?_ ?_
  .rintro i x U H3 hx ⟨⟨v9,v10,rfl⟩,S3,Ws,e3,sb⟩
   obtain⟨n,hn,rfl⟩:=Ak hx
   refine⟨l,n,sw,rfl,hW.sws.mono (Kp.same S3),hw,λH4 r4 S4 er4=>⟨_,_,.inl (SqL.of er4),dg n,?_⟩⟩
   have sl:=sb.length_le
   rw[aG] at sl
   refine' bw5 (λhA hB=>?u) ?v ?w
   case u=>exact Eu (λ_=>hA) λ_=>Eu (λ_=>Eu (λ_=>hA) (λ_=>Eu (λ_=>⟨c,804+(n:Int),rfl,by omega,by decide,Eu (λ_=>hA) (λ_=>hB)⟩) (λ_=>hB))) (λ_=>ac7 (Eu (λ_=>⟨c,804+(n:Int),rfl,by omega,by decide,Eu (λ_=>hA) (λ_=>hB)⟩) (λ_=>hB)))
   case v=>
    refine⟨.inl ⟨rfl,_,SqL.of (S4 _ _ e3)⟩,R,_,_,rfl,rfl,S4 _ _ e3,by rw[ae];omega,⟨_,_,rfl⟩,(S3.trans S4).set fR,Ws++[n],by rw[Aa,nO,aq];rfl,?_⟩
    rw[aA,hn]
    exact sb.append (cX _)
   case w=>exact⟨⟨_,_,rfl⟩,S3.trans S4,Ws,S4 _ _ e3,sb.trans (cr (by omega))⟩
  .rintro U H3 ⟨⟨v9,v10,rfl⟩,S3,Ws,e3,sb⟩
   rw[ae,aw] at sb
   refine .inl ⟨(show 0<=sizeLine by decide),λq hq=>.inl ⟨R,q,_,_,rfl,rfl,SqL.of ((Same.upd hq) _ _ e3),SqL.of Aa,Eh _,rfl,?_⟩⟩
   have Sq:=S3.trans (Same.upd (o:=.lst []) hq)
   have e4:=(Same.upd (o:=.lst []) hq) _ _ e3
   generalize upd H3 q (.lst [])=H4 at Sq e4 ⊢
   by_cases hWs:Ws=[]
   .subst hWs
    refine Ol ?_
    obtain⟨j3,hj3,ej3⟩:=Dq (Bk c 1100) lf
    refine⟨.inl ⟨rfl,_,SqL.of e4⟩,c,1100,rfl,by decide,.inl ⟨_,.inl (SqL.of (Sq _ _ hW.fr)),by omega,_,.int ((An sw rules)[j3]:Nat),.inl (SqL.of (Sq _ _ hW.fr)),by rw[elf,ej3];exact Bn (by rw[ak,ag hj3];rfl),R,_,_,rfl,rfl,e4,by decide,?_⟩⟩
    exact k _ R [(An sw rules)[j3]] (Sq.set fR) Aa (List.singleton_sublist.mpr (bY hj3)) (by simp)
   .refine De (C5 (by rw[ae];intro z;exact hWs (List.length_eq_zero_iff.mp z))) ?_
    exact k H4 R Ws Sq e4 sb hWs
theorem ac8 {H:Hp} {p:Addr} {n:Nat} {v:V} (h:DGet H p (.int (n:Int)) (some v)):∃ xs,SqX K H p (n:Int) xs/\atI xs (n:Int)=some v:=
 have e:atI (jZ (n+1) v) (n:Int)=some v:=Bn (by rw[eI,if_pos (cw n)])
 ⟨_,.dk λu e2=>by rw[e] at e2;cases e2;exact h,e⟩
theorem ao2 {tr:Nat->Tr} {Ws:List Nat} {z:Str}:(Ws.filter λn=>(stT (tr n) z).isSome)=[] ↔ Ch tr Ws z=false:=by
 rw[List.filter_eq_nil_iff]
 unfold Ch
 rw[gH]
theorem OthAt.up {H H':Hp} {D:Addr} {os:List (Str×List V)} (h:OthAt H D os) (S:Same H H'):OthAt H' D os:=let ⟨es,a,b,c⟩:=h;⟨es,a,S _ _ b,λe h=>S _ _ (c e h)⟩
theorem am8 {H:Hp} {es:List ((Str×Rc)×Addr)} {T:Tr} (et:es.map (·.1)=T) (o:Ci T) (n:Str) (he:∀ e∈es,RcAt H e.2 e.1.2):StAt H (stT T n) ((B3 (es.map kT) (.inr n)).getD .non):=by
 rcases Pw et o n with ⟨a,b⟩|⟨e,h,a,b⟩
 .rw[a,b];rfl
 .rw[a,b];exact⟨⟨_,rfl⟩,(he e h).tk⟩
theorem bb3 (Z:Am K t):OkD K Zv (Aw K t) bl (t.f 37) (t.d 37) (Vb K t):=by
 refine okD (n:=40) (t:=bv7 K t) rfl (by decide +kernel) (by kernel_rfl) (λvs H Q E h=>?_) (λvs H Q E h=>?_)
 .obtain⟨F,D,m,ns,Ws,ws,g,tr,rfl,_⟩:=h;rfl
 .obtain⟨F,D,m,ns,Ws,ws,g,tr,rfl,hF,nd,eD,lWs,sb,ne,em,ndw,lw,hws,k⟩:=h
  have big:(1000:Nat)<sizeLine:=by decide
  have h0:∃ w0 ws0,Ws=w0::ws0:=by cases Ws with|nil=>exact absurd rfl ne|cons a b=>exact⟨a,b,rfl⟩
  obtain⟨w0,ws0,eW⟩:=h0
  have hd0:Ws.headD 0=w0:=by rw[eW];rfl
  have m0:w0∈ns:=sb.subset (by rw[eW];exact aN)
  have dg:∀ {H':Hp} {n:Nat},Same H H'->n∈ns->DGet H' F (.int (n:Int)) (some (.ref (g n))):=λS hn=>by
   obtain⟨i,hi⟩:=List.mem_iff_getElem?.mp hn
   exact .inl ⟨_,_,.inl (S _ _ hF.at_),rfl,(Tj nd hi).symm⟩
  have rw0:∀ {H':Hp},Same H H'->SqX K H' D 0 (Ws.map λn:Nat=>V.int (n:Int))/\atI (Ws.map λn:Nat=>V.int (n:Int)) 0=some (.int (w0:Int)):=λS=>⟨.inl (SqL.of (S _ _ eD)),by rw[eW];exact Bn (j:=0) rfl⟩
  obtain⟨xs0,q1,q2⟩:=ac8 (K:=K) (dg (Same.refl _) m0)
  refine⟨_,_,(rw0 (Same.refl _)).1,(rw0 (Same.refl _)).2,xs0,_,q1,q2,(show 0<=sizeLine by decide),λSS hSS=>?_⟩
  have S1:=Same.upd (o:=.lst []) hSS
  have e1:upd H SS (.lst []) SS=some (.lst []):=Aa
  show Ae _ _ _ _ (upd H SS (.lst []))
  generalize upd H SS (.lst [])=H1 at S1 e1 ⊢
  refine⟨(show 0<=sizeLine by decide),λAA hAA=>?_⟩
  have nSA:SS≠AA:=Ai e1 hAA
  have fAA:=S1.free hAA
  have S2:=S1.trans (Same.upd (o:=.lst []) hAA)
  have e2s:upd H1 AA (.lst []) SS=some (Au []):=by rw[Ad nSA];exact e1
  have e2a:upd H1 AA (.lst []) AA=some (.lst []):=Aa
  show Ae _ _ _ _ (upd H1 AA (.lst []))
  generalize upd H1 AA (.lst [])=H2 at S2 e2s e2a ⊢
  refine .inr ⟨rfl,.inl ⟨m,ws,rfl,.inl (SqL.of (S2 _ _ em)),ndw,by omega,λL hL=>?_⟩⟩
  have pm:=A9 ltS ws
  have so:Sorted (B0 ltS ws):=Dl (Gw ndw)
  have mz:∀ z,z∈B0 ltS ws ↔ z∈ws:=λz=>pm.mem_iff
  have lz:=pm.length_eq
  have S3:=S2.trans (Same.upd (o:=Au (B0 ltS ws)) hL)
  have e3l:upd H2 L (Au (B0 ltS ws)) L=some (Au (B0 ltS ws)):=Aa
  have nSL:SS≠L:=Ai e2s hL
  have nAL:AA≠L:=Ai e2a hL
  have e3s:upd H2 L (Au (B0 ltS ws)) SS=some (Au []):=by rw[Ad nSL];exact e2s
  have e3a:upd H2 L (Au (B0 ltS ws)) AA=some (.lst []):=by rw[Ad nAL];exact e2a
  refine .inl ⟨⟨_,SqL.of e3l⟩,?_⟩
  show F0 (Itl K L) _ _ _ [some (.ref F),some (.ref D),some (.ref m),some (.ref (g w0)),some (.ref SS),some (.ref AA),none,none,none] (upd H2 L (Au (B0 ltS ws)))
  generalize B0 ltS ws=zs at S3 e3l e3s e3a so mz lz ⊢
  generalize upd H2 L (Au zs)=H3 at S3 e3l e3s e3a ⊢
  refine Bg (Ap (zs.map V.str)) (λi U H'=>(∃ v6 v7 v8,U=[some (.ref F),some (.ref D),some (.ref m),some (.ref (g w0)),some (.ref SS),some (.ref AA),v6,v7,v8])/\Same H H'/\H' L=some (Au zs)/\H' SS=some (Au (shF tr Ws ((zs.take i).filter (Ch tr Ws))))/\OthAt H' AA (apF tr Ws ((zs.take i).filter (Ch tr Ws))))
   ⟨⟨_,_,_,rfl⟩,S3,e3l,e3s,[],rfl,e3a,λe h=>by cases h⟩ (λ_ _ H' _ q=>SqL.of q.2.2.1) ?_ ?_
  .rintro i x U H4 hx ⟨⟨v6,v7,v8,rfl⟩,S4,e4l,e4s,hA⟩
   obtain⟨z,hz,rfl⟩:=Ak hx
   have il:=Al hz
   have fsn:=Cs (p:=Ch tr Ws) hz
   have fln:=Dr zs i (Ch tr Ws)
   have dic:∀ {H':Hp} {n:Nat},Same H H'->n∈ns -> ∃ es:List ((Str×Rc)×Addr),H' (g n)=some (.dK (es.map kT))/\es.map (·.1)=tr n /\ ∀ e∈es,RcAt H' e.2 e.1.2:=λS hn=>by
    obtain⟨es,a,⟨_,b⟩,c⟩:=((hF.one _ hn).1).up S
    exact⟨es,b,a,c⟩
   refine .inl ⟨⟨_,SqL.of (S4 _ _ eD)⟩,λD1 hD1=>?_⟩
   refine Bq (Ap (Ws.map λn:Nat=>V.int (n:Int))) (λi U H'=>(∃ v0,U=[v0,some (.ref F),some (.str z)])/\Same H4 H'/\H' D1=some (nO ((Ws.take i).filter λn=>(stT (tr n) z).isSome))) ⟨⟨_,rfl⟩,Same.upd hD1,Aa⟩ (λ_ _ H' _ q=>(S4.trans q.2.1).seqL (SqL.of eD)) ?_ ?_
   .rintro j x U H5 hx5 ⟨⟨v0,rfl⟩,S5,e5⟩
    obtain⟨n,hn,rfl⟩:=Ak hx5
    have hns:=sb.subset (al hn)
    have S05:=S4.trans S5
    obtain⟨xs,q1,q2⟩:=ac8 (K:=K) (dg S05 hns)
    obtain⟨es,ed,et,_⟩:=dic S05 hns
    have fs:=Cs (p:=λn=>(stT (tr n) z).isSome) hn
    have fl:=Dr Ws j λn=>(stT (tr n) z).isSome
    refine⟨xs,_,q1,q2,.inr ⟨_,.inl ⟨_,.inr z,.inl ed,rfl,rfl⟩,?_⟩⟩
    rcases Pw et (hF.one n hns).2 z with ⟨a,b⟩|⟨e,_,a,b⟩
    .rw[a]
     rw[b,if_neg (by simp),bI] at fs
     exact⟨⟨_,rfl⟩,S5,by rw[fs];exact e5⟩
    .rw[a]
     rw[b,if_pos (show (some (rcT e.1.2)).isSome=true from rfl)] at fs
     exact⟨_,e5,by rw[ae];omega,⟨_,rfl⟩,S5.set hD1,by rw[Aa,fs,nO,aq];rfl⟩
   .rintro U H5 ⟨_,S5,e5⟩
    rw[ae,aw] at e5
    have S05:=S4.trans S5
    refine .inl ⟨⟨_,SqL.of (S05 _ _ eD)⟩,λD2 hD2=>?_⟩
    have n12:D1≠D2:=Ai e5 hD2
    refine Bq (Ap (Ws.map λn:Nat=>V.int (n:Int))) (λi U H'=>(∃ v0,U=[v0,some (.ref (g w0)),some (.ref F),some (.str z)])/\Same H5 H'/\H' D2=some (nO ((Ws.take i).filter λn=>decide (stT (tr n) z≠stT (tr w0) z)))) ⟨⟨_,rfl⟩,Same.upd hD2,Aa⟩ (λ_ _ H' _ q=>(S05.trans q.2.1).seqL (SqL.of eD)) ?_ ?_
    .rintro j x U H6 hx6 ⟨⟨v0,rfl⟩,S6,e6⟩
     obtain⟨n,hn,rfl⟩:=Ak hx6
     have hns:=sb.subset (al hn)
     have S06:=S05.trans S6
     obtain⟨xs,q1,q2⟩:=ac8 (K:=K) (dg S06 hns)
     obtain⟨es,ed,et,he⟩:=dic S06 hns
     obtain⟨es0,ed0,et0,he0⟩:=dic S06 m0
     have fs:=Cs (p:=λn=>decide (stT (tr n) z≠stT (tr w0) z)) hn
     have fl:=Dr Ws j λn=>decide (stT (tr n) z≠stT (tr w0) z)
     refine⟨xs,_,q1,q2,.inr (.inr (.inl ⟨rfl,.inl ⟨_,ed⟩⟩)),_,.inl ⟨_,.inr z,.inl ed,rfl,rfl⟩,?_⟩
     refine⟨.inr (.inr (.inl ⟨rfl,.inl ⟨_,ed0⟩⟩)),_,.inl ⟨_,.inr z,.inl ed0,rfl,rfl⟩,?_⟩
     refine a22 (am8 et (hF.one n hns).2 z he) (am8 et0 (hF.one w0 m0).2 z he0) (λy e=>am7 (hF.one n hns).2 e) ?_
     by_cases c:stT (tr n) z≠stT (tr w0) z
     .rw[decide_eq_true c,if_pos rfl] at fs
      exact Ei (decide_eq_true c) ⟨_,e6,by rw[ae];omega,⟨_,rfl⟩,S6.set hD2,by rw[Aa,fs,nO,aq];rfl⟩
     .rw[decide_eq_false c,if_neg (by decide),bI] at fs
      exact De (decide_eq_false c) ⟨⟨_,rfl⟩,S6,by rw[fs];exact e6⟩
    .rintro U H6 ⟨_,S6,e6⟩
     rw[ae,aw] at e6
     have e61:=S6 _ _ e5
     have hu:Fq tr Ws z=(Ws.filter λn=>decide (stT (tr n) z≠stT (tr w0) z)).head?:=by unfold Fq;rw[hd0,List.head?_filter]
     have hh:=ao2 (tr:=tr) (Ws:=Ws) (z:=z)
     generalize (Ws.filter λn=>(stT (tr n) z).isSome)=hl at e61 hh
     generalize (Ws.filter λn=>decide (stT (tr n) z≠stT (tr w0) z))=ul at e6 hu
     have S46:=S5.trans S6
     have S06:=S4.trans S46
     have e6s:=S46 _ _ e4s
     have hA6:=hA.up S46
     have e6l:=S46 _ _ e4l
     refine⟨(show 0<=sizeLine by decide),λq hq=>.inl ⟨D1,q,_,_,rfl,rfl,SqL.of ((Same.upd hq) _ _ e61),SqL.of Aa,Eh _,rfl,?_⟩⟩
     have S7:=Same.upd (o:=.lst []) hq
     generalize upd H6 q (.lst [])=H7 at S7 ⊢
     by_cases c:Ch tr Ws z=true
     .have hne:hl≠[]:=λe=>by rw[hh.mp e] at c;cases c
      have t1:(!Of (hl.map λn:Nat=>V.int (n:Int)) [])=true:=by rw[C5 (by rw[ae];intro y;exact hne (List.length_eq_zero_iff.mp y))];rfl
      rw[c,if_pos rfl] at fsn
      refine Ei t1 ⟨(show 0<=sizeLine by decide),λq2 hq2=>.inl ⟨D2,q2,_,_,rfl,rfl,SqL.of ((Same.upd hq2) _ _ (S7 _ _ e6)),SqL.of Aa,Eh _,rfl,?_⟩⟩
      have S8:=S7.trans (Same.upd (o:=.lst []) hq2)
      generalize upd H7 q2 (.lst [])=H8 at S8 ⊢
      cases ul with
      |nil=>
       have hn:Fq tr Ws z=none:=hu
       refine Ol ⟨.inl ⟨rfl,_,SqL.of (S8 _ _ e6s)⟩,SS,_,_,rfl,rfl,S8 _ _ e6s,?_,⟨_,_,_,rfl⟩,(S06.trans S8).set hSS,by rw[Ad nSL.symm];exact S8 _ _ e6l,?_,?_⟩
       .rw[ae]
        have:=bu (λz=>(Fq tr Ws z).isNone) ((zs.take i).filter (Ch tr Ws))
        show (shF tr Ws _).length<_
        unfold shF
        omega
       .rw[Aa,fsn,Au]
        unfold shF
        rw[cO,aq,eV,fm,hn]
        rfl
       .rw[fsn]
        have:apF tr Ws ((zs.take i).filter (Ch tr Ws)++[z])=apF tr Ws ((zs.take i).filter (Ch tr Ws)):=by unfold apF;rw[gW,eG,hn];simp
        rw[this]
        obtain⟨es,a1,a2,a3⟩:=hA6.up S8
        exact⟨es,a1,by rw[Ad nSA.symm];exact a2,λe h=>by rw[Ad λy=>by have:=a3 e h;rw[y,S8 _ _ e6s] at this;cases this];exact a3 e h⟩
      |cons o ul=>
       have hn:Fq tr Ws z=some o:=hu
       refine De (C5 (by simp)) ?_
       refine⟨(show 0<=sizeLine by decide),λq3 hq3=>.inl ⟨D1,q3,_,_,rfl,rfl,SqL.of ((Same.upd hq3) _ _ (S8 _ _ e61)),SqL.of Aa,Eh _,rfl,?_⟩⟩
       have S9:=S8.trans (Same.upd (o:=.lst []) hq3)
       generalize upd H8 q3 (.lst [])=H9 at S9 ⊢
       have S09:=S06.trans S9
       obtain⟨es,a1,a2,a3⟩:=hA6.up S9
       refine Ei t1 ⟨.inl ⟨rfl,_,SqL.of a2⟩,_,_,(rw0 S09).1,(rw0 S09).2,_,_,.inl (SqL.of (S9 _ _ e6)),Bn (j:=0) rfl,(show 3<=sizeLine by decide),λT hT=>?_⟩
       have ST:=Same.upd (o:=.tup [.str z,.int (w0:Int),.int (o:Int)]) hT
       have eT:upd H9 T (.tup [.str z,.int (w0:Int),.int (o:Int)]) T=some (.tup [.str z,.int (w0:Int),.int (o:Int)]):=Aa
       have le:es.length<=zs.length:=by
        have h1:=congrArg b9 a1
        have h2:=Z6 tr Ws ((zs.take i).filter (Ch tr Ws))
        rw[ae] at h1
        omega
       have nl:=NL.upd (m:=(es.map λe=>V.ref e.2)++[.ref T]) (ST _ _ a2)
       refine⟨AA,_,_,rfl,rfl,ST _ _ a2,by rw[ae];omega,⟨_,_,_,rfl⟩,(S09.trans ST).set fAA,by rw[Ad nAL.symm];exact (S9.trans ST) _ _ e6l,?_,es++[((z,[V.int (w0:Int),.int (o:Int)]),T)],?_,by rw[Aa,aq];rfl,λx hx=>?_⟩
       .have:shF tr Ws ((zs.take (i+1)).filter (Ch tr Ws))=shF tr Ws ((zs.take i).filter (Ch tr Ws)):=by
         rw[fsn];unfold shF;rw[cO,eV,fm,hn];simp
        rw[Ad nSA,this]
        exact (S9.trans ST) _ _ e6s
       .rw[aq,a1,fsn]
        unfold apF
        rw[gW,eG,hn,hd0]
        rfl
       .rcases List.mem_append.mp hx with hx|hx
        .exact nl.tup _ _ (ST _ _ (a3 x hx))
        .obtain rfl:x=((z,[V.int (w0:Int),.int (o:Int)]),T):=by simpa using hx
         exact nl.tup _ _ eT
     .have c:Ch tr Ws z=false:=by simpa using c
      have he:hl=[]:=hh.mpr c
      rw[c,if_neg (by decide),bI] at fsn
      subst he
      refine⟨(show 0<=sizeLine by decide),λq3 hq3=>.inl ⟨D1,q3,_,_,rfl,rfl,SqL.of ((Same.upd hq3) _ _ (S7 _ _ e61)),SqL.of Aa,rfl,rfl,?_⟩⟩
      have S9:=S7.trans (Same.upd (o:=.lst []) hq3)
      exact⟨⟨_,_,_,rfl⟩,S06.trans S9,S9 _ _ e6l,by rw[fsn];exact S9 _ _ e6s,by rw[fsn];exact hA6.up S9⟩
  .rintro U H4 ⟨⟨v6,v7,v8,rfl⟩,S4,e4l,e4s,hA⟩
   rw[ae,aw] at e4s hA
   refine .inl ⟨(show 2<=sizeLine by decide),λR hR=>?_⟩
   have SR:=Same.upd (o:=.lst [.ref SS,.ref AA]) hR
   refine k _ R SS AA (zs.filter (Ch tr Ws)) (S4.trans SR) Aa (SR _ _ e4s) (hA.up SR) (fN _ so) λz=>?_
   rw[cE]
   refine⟨λq=>q.2,λq=>⟨?_,q⟩⟩
   obtain⟨n,hn,c⟩:=List.any_eq_true.mp q
   have hns:=sb.subset hn
   obtain⟨x,hx,rfl⟩:=List.mem_map.mp ((Pu (hF.one n hns).2 z).mp c)
   exact (mz _).mpr (hws n hns x hx)
theorem au5 {sw:Sw} {Ws:List Nat} {M i:Nat} {x:Str×List Str} (hw:okSw sw) (hi:sw[i]? = some x) (hn:∀ n∈Ws,n<(Aj sw).length) (hM:∀ n,M.testBit n=decide (n∈Ws)):1<(Ct (Ws.map λn=>(((Cq sw n).getD i 0:Nat):Int))).length ↔ 1<(El sw M i).length:=by
 have ox:=hw.sets x (al hi)
 have at_:∀ n∈Ws,∃ r,(Aj sw)[n]? = some r/\(Cq sw n).getD i 0<x.2.length/\r[i]? = x.2[(Cq sw n).getD i 0]?:=λn h=>by
  obtain⟨d,h1,h2,h3⟩:=ab2 hw (ag (hn n h)) hi
  exact⟨_,ag (hn n h),by rw[B7 h1];exact h2,by rw[B7 h1];exact h3⟩
 have mem:∀ z,z∈El sw M i ↔ ∃ n∈Ws,x.2[(Cq sw n).getD i 0]? = some z:=λz=>by
  unfold El
  rw[(Q8 hi).2,cE,decide_eq_true_iff,and_ne]
  constructor
  .rintro⟨_,j,a,b⟩
   rw[hM,decide_eq_true_iff] at b
   rw[Ht] at a
   unfold Oh at a
   have a:=of_decide_eq_true a
   obtain⟨r,h1,_,h3⟩:=at_ j b
   rw[h1] at a
   exact⟨j,b,h3▸a⟩
  .rintro⟨n,h,e⟩
   obtain⟨r,h1,_,h3⟩:=at_ n h
   refine⟨al e,n,?_,by rw[hM];exact decide_eq_true h⟩
   rw[Ht]
   unfold Oh
   rw[h1]
   exact decide_eq_true (h3.trans e)
 rw[at4,ae9 (l:=El sw M i) (by unfold El;rw[(Q8 hi).2];exact ox.1.2.1.filter _)]
 constructor
 .rintro⟨a,ha,b,hb,ne⟩
  obtain⟨n,h1,rfl⟩:=List.mem_map.mp ha
  obtain⟨m,h2,rfl⟩:=List.mem_map.mp hb
  obtain⟨_,_,l1,_⟩:=at_ n h1
  obtain⟨_,_,l2,_⟩:=at_ m h2
  refine⟨_,(mem _).mpr ⟨n,h1,ag l1⟩,_,(mem _).mpr ⟨m,h2,ag l2⟩,λe=>ne ?_⟩
  have:=(cH ox.1.2.1).mp e
  rw[this]
 .rintro⟨z,hz,y,hy,ne⟩
  obtain⟨n,h1,e1⟩:=(mem z).mp hz
  obtain⟨m,h2,e2⟩:=(mem y).mp hy
  refine⟨_,List.mem_map.mpr ⟨n,h1,rfl⟩,_,List.mem_map.mpr ⟨m,h2,rfl⟩,λe=>ne ?_⟩
  have:(Cq sw n).getD i 0=(Cq sw m).getD i 0:=by omega
  rw[this,e2] at e1
  exact (aH e1).symm
theorem ba8 (Z:Am K t):OkD K Zq (Aw K t) bl (t.f 38) (t.d 38) (U9 K t):=by
 refine okD (n:=40) (t:=bv2 K t) rfl (by decide +kernel) (by kernel_rfl) (λvs H Q E h=>?_) (λvs H Q E h=>?_)
 .obtain⟨l,D,sw,Ws,M,rfl,_⟩:=h;rfl
 .obtain⟨l,D,sw,Ws,M,rfl,hsw,hw,eD,lW,hn,hM,k⟩:=h
  have big:(1000:Nat)<sizeLine:=by decide
  have l5:=hw.2.1
  obtain⟨ds,ed,⟨_,ol⟩,hd⟩:=id hsw
  have len:ds.length=sw.length:=by rw[<- ed];simp
  refine .inl ⟨⟨_,SqL.of eD⟩,λB hB=>?_⟩
  refine Bq (Ap (Ws.map λn:Nat=>V.int (n:Int))) (λi U H'=>(∃ v0,U=[v0,some (.ref l)])/\Same H H' /\ ∃ es:List (Nat×Addr),es.map (·.1)=Ws.take i/\H' B=some (.lst (es.map λe=>.ref e.2)) /\ ∀ e∈es,e.2≠B/\H' e.2=some (nO (Cq sw e.1))) ⟨⟨_,rfl⟩,Same.upd hB,[],rfl,Aa,λe h=>by cases h⟩ (λ_ _ H' _ q=>q.2.1.seqL (SqL.of eD)) ?_ ?_
  .rintro i x U H1 hx ⟨⟨v0,rfl⟩,S1,es,ee,eB,he⟩
   obtain⟨n,hi,rfl⟩:=Ak hx
   have il:=Al hi
   refine⟨l,n,sw,rfl,hsw.mono (Kp.same S1),hw,λH2 r S2 er=>?_⟩
   have nr:r≠B:=λz=>by
    rw[z,S2 _ _ eB] at er
    injection er with er
    injection er with er
    have l1:=hw.1
    rw[<- Ee sw n] at l1
    cases es with
    |nil=>
     have:=congrArg b9 er
     rw[fv,jA,ae] at this
     omega
    |cons e es=>
     cases hd:Cq sw n with
     |nil=>rw[hd] at l1;cases l1
     |cons a b=>rw[hd,aP,aP] at er;injection er with er;cases er
   have le:es.length<=256:=by
    have:=congrArg b9 ee
    rw[ae,aG] at this
    omega
   refine⟨_,S2 _ _ eB,by rw[ae];omega,⟨_,rfl⟩,(S1.trans S2).set hB,es++[(n,r)],by rw[aq,ee,aA,hi];rfl,by rw[Aa,aq];rfl,λe h=>?_⟩
   rcases List.mem_append.mp h with h|h
   .exact⟨(he e h).1,by rw[Ad (he e h).1];exact S2 _ _ (he e h).2⟩
   .obtain rfl:e=(n,r):=by simpa using h
    exact⟨nr,by rw[Ad nr];exact er⟩
  .rintro U H1 ⟨_,S1,es,ee,eB,he⟩
   rw[ae,aw] at ee
   have le:es.length<=256:=by rw[<- ee,ae] at lW;exact lW
   refine⟨(show 0<=sizeLine by decide),λR hR=>?_⟩
   have S2:=S1.trans (Same.upd (o:=.lst []) hR)
   have T2:=Same.upd (o:=.lst []) hR
   have fR:=S1.free hR
   have e2:upd H1 R (.lst []) R=some (Au []):=Aa
   show Ae _ _ _ _ (upd H1 R (.lst []))
   generalize upd H1 R (.lst [])=H2 at S2 T2 e2 ⊢
   refine .inl ⟨⟨_,SqL.of (S2 _ _ ol)⟩,?_⟩
   refine Gr (E3 (ds.map λx=>V.ref x.2)) (λi U H'=>(∃ v4 v5 v6,U=[some (.ref l),some (.ref D),some (.ref B),some (.ref R),v4,v5,v6])/\Same H H'/\Same H1 H'/\H' R=some (Au (((ay i).filter λi=>decide (1<(El sw M i).length)).map (nmS sw)))) ⟨⟨_,_,_,rfl⟩,S2,T2,e2⟩ (λ_ _ H' _ q=>q.2.1.seqL (SqL.of ol)) ?_ ?_
   .rintro i x y T U H3 hx hT ⟨⟨v4,v5,v6,rfl⟩,S3,T3,e3⟩
    obtain⟨⟨⟨x',la⟩,ta⟩,hi,rfl,rfl⟩:=Jk hx
    have hi2:sw[i]? = some x':=by rw[<- ed,ak,hi];rfl
    have il:=Al hi2
    obtain⟨⟨_,h1⟩,_⟩:=hd _ (al hi)
    have ST:=Same.upd (o:=.tup [.int (i:Int),.ref ta]) hT
    refine⟨_,.inl (SqT.of Aa),rfl,?_⟩
    generalize upd H3 T (.tup [.int (i:Int),.ref ta])=H4 at ST ⊢
    have T4:=T3.trans ST
    refine⟨_,.inl (SqT.of ((S3.trans ST) _ _ h1)),rfl,.inl ⟨⟨_,SqL.of (T4 _ _ eB)⟩,?_⟩⟩
    refine F6 (f:=λj=>.int ((Cq sw (Ws.getD j 0)).getD i 0:Nat)) (rest:=[some (.int (i:Int))]) (Ap (es.map λe=>V.ref e.2)) (λH' S=>(T4.trans S).seqL (SqL.of eB)) (by rw[ae];omega) (λj x H5 Q1 hj S5 q=>?_) λN H5 S5 hN eN=>?_
    .obtain⟨e,hj0,rfl⟩:=Ak hj
     have hw2:Ws[j]? = some e.1:=by rw[<- ee,ak,hj0];rfl
     have:=q _ (Same.refl _)
     rw[B7 hw2] at this
     have l6:i<(Cq sw e.1).length:=by rw[Ee];exact il
     exact⟨_,_,.inl (SqL.of ((T4.trans S5) _ _ (he e (al hj0)).2)),Bn (j:=i) (by rw[ak,ag l6,B7 (ag l6)];rfl),this⟩
    .have ev:(ay (es.map λe=>V.ref e.2).length).map (λj=>V.int ((Cq sw (Ws.getD j 0)).getD i 0:Nat))=(Ws.map λn=>(((Cq sw n).getD i 0:Nat):Int)).map V.int:=by
      have ll:es.length=Ws.length:=by rw[<- ee,ae]
      refine gI λj=>?_
      rw[ae,ll,ak,ak,ak]
      by_cases hj:j<Ws.length
      .rw[cY hj,ag hj,fB,B7 (ag hj)]
       rfl
      .rw[bH (by rw[aV];omega),bH (by omega)]
       rfl
     rw[ev] at eN
     refine .inr ⟨_,SqL.of eN,by rw[ae];omega,?_⟩
     have oe:=au5 hw hi2 hn hM
     have fs:(ay (i+1)).filter (λi=>decide (1<(El sw M i).length))=(ay i).filter (λi=>decide (1<(El sw M i).length))++(if decide (1<(El sw M i).length)=true then [i] else []):=by rw[fw,cO,eV,fm]
     have fl:=bu (λi=>decide (1<(El sw M i).length)) (ay i)
     rw[aV] at fl
     generalize (Ct (Ws.map λn=>(((Cq sw n).getD i 0:Nat):Int))).length=cnt at oe
     have S35:=ST.trans S5
     by_cases c:1<(El sw M i).length
     .rw[decide_eq_true c,if_pos rfl] at fs
      have c2:=oe.mpr c
      refine Ei (decide_eq_true (show (1:Int)<(cnt:Int) by omega)) ⟨.inl ⟨rfl,_,SqL.of (S35 _ _ e3)⟩,R,_,_,rfl,rfl,S35 _ _ e3,by rw[ae,ae];omega,⟨_,_,_,rfl⟩,(S3.trans S35).set fR,(T3.trans S35).set hR,by rw[Aa,fs,Au,aq,aq,show [i].map (nmS sw)=[x'.1] by rw[<- (Q8 hi2).1];rfl];rfl⟩
     .rw[decide_eq_false c,if_neg (by decide),bI] at fs
      have c2:¬ 1<cnt:=λz=>c (oe.mp z)
      exact De (decide_eq_false (show ¬ (1:Int)<(cnt:Int) by omega)) ⟨⟨_,_,_,rfl⟩,S3.trans S35,T3.trans S35,by rw[fs];exact S35 _ _ e3⟩
   .rintro U H3 ⟨⟨v4,v5,v6,rfl⟩,S3,_,e3⟩
    rw[Bo,ae,len] at e3
    exact .inl (k H3 R S3 e3)
theorem WorldAt.nb {H H':Hp} {W l k f:Addr} {sw:Sw} {rules:List Sw} (h:WorldAt H W sw rules l k f) (n:NB H H'):WorldAt H' W sw rules l k f:=by
 have nl:∀ {a:Addr} {xs:List V},H a=some (.lst xs)->H' a=some (.lst xs):=λe=>n _ _ (λ_ z=>by cases z) e
 obtain⟨ds,e1,⟨_,o1⟩,h1⟩:=h.sws
 obtain⟨gs,e2,⟨_,o2⟩,h2⟩:=h.rl
 exact⟨nl h.at_,⟨ds,e1,⟨trivial,nl o1⟩,λx hx=>⟨⟨trivial,n.tu (h1 x hx).1.2⟩,trivial,nl (h1 x hx).2.2⟩⟩,h.ok,⟨gs,e2,⟨trivial,nl o2⟩,λx hx=>let ⟨es,a,⟨_,b⟩,c⟩:=h2 x hx;⟨es,a,⟨trivial,n _ _ (λ_ z=>by cases z) b⟩,λy hy=>⟨trivial,nl (c y hy).2⟩⟩⟩,h.rok,h.few,nl h.fr,h.ne⟩
theorem FoundAt.nb {H H':Hp} {F:Addr} {ns:List Nat} {g:Nat->Addr} {tr:Nat->Tr} (h:FoundAt H F ns g tr) (n:NB H H'):FoundAt H' F ns g tr:=
 ⟨n _ _ (λ_ z=>by cases z) h.at_,λm hm=>let ⟨⟨es,a,⟨_,b⟩,c⟩,o⟩:=h.one m hm;⟨⟨es,a,⟨trivial,n _ _ (λ_ z=>by cases z) b⟩,λx hx=>(c x hx).up λ_ _=>n.tu⟩,o⟩,h.few⟩
theorem NB.same {H H':Hp} (S:Same H H'):NB H H':=λa o _ e=>S a o e
theorem Di {H:Hp} {a:Addr} {zs:List Str} (e:H a=some (Au zs)):At K H (.lst (zs.map ay3)) (.ref a):=by
 unfold At
 refine⟨a,_,rfl,SqL.of e,?_⟩
 clear e
 induction zs with
 |nil=>unfold AtL;rfl
 |cons z zs ih=>rw[aP,aP];unfold AtL;exact⟨_,_,rfl,by unfold ay3 At;exact⟨rfl,rfl⟩,ih⟩
theorem Nu {H:Hp}:∀ {vs:List V},(∀ v∈vs,Bv v=true)->AtL K H (vs.map Dt.at_) vs
 |[],_=>by rw[fv];unfold AtL;rfl
 |v::vs,h=>by rw[aP];unfold AtL;exact⟨_,_,rfl,by unfold At;exact⟨rfl,h v aN⟩,Nu λu hu=>h u (az _ hu)⟩
theorem Rf {H:Hp} {a:Addr} {os:List (Str×List V)} (h:OthAt H a os) (fl:∀ o∈os,∀ v∈o.2,Bv v=true):At K H (.lst (os.map λo=>.tup (.at_ (.str o.1)::o.2.map Dt.at_))) (.ref a):=by
 obtain⟨es,rfl,e,he⟩:=h
 unfold At
 refine⟨a,_,rfl,SqL.of e,?_⟩
 clear e
 induction es with
 |nil=>unfold AtL;rfl
 |cons x es ih=>
  rw[aP,aP,aP]
  unfold AtL
  refine⟨_,_,rfl,?_,ih (λo ho=>fl o (az _ ho)) λe h=>he e (az _ h)⟩
  unfold At
  refine⟨_,_,rfl,SqT.of (he x aN),?_⟩
  unfold AtL
  exact⟨_,_,rfl,by unfold At;exact⟨rfl,rfl⟩,Nu (fl _ aN)⟩
theorem V3 {tr:Nat->Tr} {Ws:List Nat} {zs:List Str}:∀ o∈apF tr Ws zs,∀ v∈o.2,Bv v=true:=λo ho v hv=>by
 unfold apF at ho
 obtain⟨z,_,e⟩:=List.mem_filterMap.mp ho
 obtain⟨n,_,rfl⟩:=Option.map_eq_some_iff.mp e
 simp only[aE,cS,or_false] at hv
 rcases hv with rfl|rfl <;> rfl
theorem ab1:∀ vs:List V,D7 (vs.map Dt.at_)=0
 |[]=>by unfold D7;rfl
 |v::vs=>by rw[aP];unfold D7;rw[ab1 vs];unfold dep;rfl
theorem ar8 (os:List (Str×List V)):dep (.lst (os.map λo=>.tup (.at_ (.str o.1)::o.2.map Dt.at_)))<=40:=by
 unfold dep
 refine cx (aY (Od (n:=1) λd hd=>?_) (by decide))
 obtain⟨o,_,rfl⟩:=List.mem_map.mp hd
 unfold dep D7
 rw[ab1]
 unfold dep
 decide
theorem Qq (zs:List Str):dep (.lst (zs.map ay3))<=40:=by
 unfold dep
 refine cx (aY (Od (n:=0) λd hd=>?_) (by decide))
 obtain⟨z,_,rfl⟩:=List.mem_map.mp hd
 unfold ay3 dep
 exact ah 0
theorem Ry (l:List Nat):((l.map λn:Nat=>(1 * 2 ^ ((n:Int)).toNat:Int)).sum)=(((l.map λi=>2 ^ i).sum:Nat):Int):=Rx l
theorem bb7 (Z:Am K t):OkD K D_zbs (Aw K t) bl (t.f 40) (t.d 40) (Ps K t):=by
 refine okD (n:=40) (t:=bw1 K t) rfl (by decide +kernel) (by kernel_rfl) (λvs H Q E h=>?_) (λvs H Q E h=>?_)
 .obtain⟨a,ns,rfl,_⟩:=h;rfl
 .obtain⟨a,ns,rfl,hS,_,hst,k⟩:=h
  have big:(1000:Nat)<sizeLine:=by decide
  refine⟨a,ns,0,rfl,hS,by decide,a,ns,_,rfl,hS,λH1 LL W nm F sw rules l kk f ws g tr S1 eL enm ndw lw hws hW hF=>?_⟩
  refine⟨_,.inr (SqL.of eL),rfl,?_⟩
  obtain⟨hP,ob,u,hB,b1,b2,b3⟩:=hst
  refine⟨W,F,l,kk,f,sw,rules,g,tr,rfl,⟨S1 _ _ hP,ob,u,S1 _ _ hB,b1,b2,b3⟩,hW,hF,λH2 b O2 hB2=>?_⟩
  have nb2:=NB.of O2 (S1 _ _ hP)
  have hw:=hW.ok
  have few:=hw.len
  have asc:=Kc sw rules
  have hS2:SqL K H2 a (ns.map V.int):=by
   rcases S1.seqL hS with (h|⟨o,h⟩)|h
   .exact .inl (.inl (nb2 _ _ (λ_ z=>by cases z) h))
   .exact .inl (.inr ⟨o,nb2 _ _ (λ_ z=>by cases z) h⟩)
   .exact .inr h
  have hW2:=hW.nb nb2
  have hF2:=hF.nb nb2
  have enm2:=nb2 _ _ (λ_ z=>by cases z) enm
  refine⟨a,ns,5,rfl,hS2,B9 ns 5,W,l,kk,f,sw,rules,rfl,hW2,λH3 D Ws S3 eD sb ne=>?_⟩
  have hW3:=hW2.nb (NB.same S3)
  have lWs:Ws.length<=256:=by
   have h1:=sb.length_le
   have h2:=bu (λn=>!F5 sw rules n) (ay (Aj sw).length)
   rw[aV] at h2
   have h3:(An sw rules).length<=(Aj sw).length:=h2
   omega
  refine⟨_,_,.inl (SqL.of hW3.at_),rfl,l,sw,rfl,hW3.sws,hw,⟨by omega,by omega⟩,λD4 hD4=>?_⟩
  rw[aT]
  have hF3:=hF2.nb (NB.same S3)
  have ndf:(An sw rules).Nodup:=asc.imp λh=>aJ h
  refine Bq (Bp 0 (Aj sw).length) (λi U H'=>(∃ v0,U=[v0,some (.ref F)])/\Same H3 H'/\H' D4=some (nO ((ay i).filter λn=>!decide (n∈An sw rules)))) ⟨⟨_,rfl⟩,Same.upd hD4,Aa⟩ (λ_ _ _ _ _=>aR) ?_ ?_
  .rintro i x U H4 hx ⟨⟨v0,rfl⟩,S4,e4⟩
   obtain⟨hi,rfl⟩:=Cv hx
   have fs:(ay (i+1)).filter (λn=>!decide (n∈An sw rules))=(ay i).filter (λn=>!decide (n∈An sw rules))++(if (!decide (i∈An sw rules))=true then [i] else []):=by rw[fw,cO,eV,fm]
   have fl:=bu (λn=>!decide (n∈An sw rules)) (ay i)
   rw[aV] at fl
   refine .inr ⟨_,.inl ⟨_,.inl (i:Int),.inl (S4 _ _ hF3.at_),rfl,rfl⟩,?_⟩
   by_cases c:i∈An sw rules
   .obtain⟨j,hj⟩:=List.mem_iff_getElem?.mp c
    rw[Tj ndf hj]
    rw[decide_eq_true c,if_neg (by decide),bI] at fs
    exact⟨⟨_,rfl⟩,S4,by rw[fs];exact e4⟩
   .rw[ac9 c]
    rw[decide_eq_false c,if_pos (by decide)] at fs
    exact⟨_,e4,by rw[ae];omega,⟨_,rfl⟩,S4.set hD4,by rw[Aa,fs,nO,aq];rfl⟩
  .rintro U H4 ⟨_,S4,e4⟩
   rw[A7] at e4
   have nin:∀ n∈(ay (Aj sw).length).filter (λn=>!decide (n∈An sw rules)),n<256 /\ ¬ n∈An sw rules:=λn hn=>by
    obtain⟨h1,h2⟩:=List.mem_filter.mp hn
    have:=List.mem_range.mp h1
    exact⟨by omega,by simpa using h2⟩
   have asn:((ay (Aj sw).length).filter λn=>!decide (n∈An sw rules)).Pairwise (· < ·):=fN _ js
   have lbn:=bu (λn=>!decide (n∈An sw rules)) (ay (Aj sw).length)
   rw[aV] at lbn
   generalize (ay (Aj sw).length).filter (λn=>!decide (n∈An sw rules))=bn at e4 nin asn lbn
   have S24:=S3.trans S4
   refine .inl ⟨⟨_,SqL.of e4⟩,λD5 hD5=>?_⟩
   refine Bq (Ap (bn.map λn:Nat=>V.int (n:Int))) (λi U H'=>(∃ v0,U=[v0,some (.ref a)])/\Same H4 H' /\ ∃ mo:List Nat,mo.Sublist (bn.take i)/\H' D5=some (.lst ((mo.map λn:Nat=>(1 * 2 ^ ((n:Int)).toNat:Int)).map V.int))) ⟨⟨_,rfl⟩,Same.upd hD5,[],g3 _,Aa⟩ (λ_ _ H' _ q=>q.2.1.seqL (SqL.of e4)) ?_ ?_
   .rintro i x U H5 hx ⟨⟨v0,rfl⟩,S5,mo,sm,e5⟩
    obtain⟨n,hn,rfl⟩:=Ak hx
    have n256:=(nin n (al hn)).1
    have sl:=sm.length_le
    rw[aG] at sl
    refine⟨a,ns,6,rfl,(S24.trans S5).seqL hS2,B9 ns 6,820+(n:Int),rfl,by omega,by decide,Eu (λ_=>?_) (λ_=>?_)⟩
    .refine⟨⟨by omega,by omega,by decide⟩,_,e5,by rw[ae,ae];omega,⟨_,rfl⟩,S5.set hD5,mo++[n],?_,by rw[Aa,aq,aq];rfl⟩
     rw[aA,hn]
     exact sm.append (cX _)
    .exact⟨⟨_,rfl⟩,S5,mo,sm.trans (cr (by omega)),e5⟩
   .rintro U H5 ⟨_,S5,mo,sm,e5⟩
    rw[ae,aw] at sm
    refine⟨D5,_,rfl,SqL.of e5,?_⟩
    rw[Ry,W1 (asn.sublist sm)]
    have S35:=S4.trans S5
    have S25:=S3.trans S35
    have eD5:=S35 _ _ eD
    refine .inl ⟨⟨_,SqL.of eD5⟩,?_⟩
    refine F6 (f:=λi=>.int (1 * 2 ^ ((Ws.getD i 0:Nat):Int).toNat)) (rest:=[]) (Ap _) (λH' S=>S.seqL (SqL.of eD5)) (by rw[ae];omega) (λi x H6 Q1 hx S6 q=>?_) λD6 H6 S6 hD6 eD6=>?_
    .obtain⟨n,hn,rfl⟩:=Ak hx
     have nl:=(Cl (sb.subset (al hn))).1
     have:=q _ (Same.refl _)
     rw[B7 hn] at this
     exact⟨⟨by omega,by omega,by decide⟩,this⟩
    have es:(ay (Ws.map λn:Nat=>V.int (n:Int)).length).map (λi=>V.int (1 * 2 ^ ((Ws.getD i 0:Nat):Int).toNat))=(Ws.map λn:Nat=>(1 * 2 ^ ((n:Int)).toNat:Int)).map V.int:=by
     refine gI λi=>?_
     rw[ae,ak,ak,ak]
     by_cases hi:i<Ws.length
     .rw[cY hi,ag hi,fB,B7 (ag hi)]
      rfl
     .rw[bH (by rw[aV];omega),bH (by omega)]
      rfl
    rw[es] at eD6
    refine⟨D6,_,rfl,SqL.of eD6,?_⟩
    rw[Ry,W1 (asc.sublist sb)]
    have S26:=S25.trans S6
    have hB6:=hB2.up S26
    have bitX:∀ n,((Fh Ws ||| Fh mo) &&& B5 sw rules).testBit n=decide (n∈Ws):=λn=>by
     rw[cF,eX,G8,G8,bQ,aU,df,decide_eq_true_iff,decide_eq_true_iff]
     constructor
     .rintro⟨h|h,q⟩
      .exact h
      .exfalso
       have:=nin n (sm.subset h)
       refine this.2 ?_
       rw[Wa,cE,ck]
       refine⟨?_,q⟩
       have:=q
       rw[M5,aU,decide_eq_true_iff] at this
       exact this.1
     .exact λh=>⟨.inl h,(Cl (sb.subset h)).2⟩
    have neX:(Fh Ws ||| Fh mo) &&& B5 sw rules≠0:=λz=>by
     obtain⟨w0,h0⟩:=iy _ ne
     have:=bitX w0
     rw[z,dw,decide_eq_true h0] at this
     cases this
    intro v dxv hv hdxv nev
    have T1:Same H6 (upd (upd H6 dxv (.own v)) v (.ins t.c_zcb dxv [])):=(Same.upd hdxv).set hv
    have e11:upd (upd H6 dxv (.own v)) v (.ins t.c_zcb dxv []) v=some (.ins t.c_zcb dxv []):=Aa
    have K1:Kp any H6 (· ≠ v) (upd (upd H6 dxv (.own v)) v (.ins t.c_zcb dxv [])):=λa o q=>⟨λz=>(by have q2:=q.2;rw[z,hv] at q2;cases q2),T1 _ _ q.2⟩
    generalize upd (upd H6 dxv (.own v)) v (.ins t.c_zcb dxv [])=H7 at T1 e11 K1 ⊢
    obtain⟨dxb,pb,lb,eb,hpb,_⟩:=id hB6
    refine⟨v,b,pb,lb,dxv,dxb,Fh Ws ||| Fh mo,sw,rules,by rw[<- Ec];rfl,e11,T1 _ _ eb,hpb.mono K1,neX,λH8 O8 e8=>⟨rfl,?_⟩⟩
    generalize (Fh Ws ||| Fh mo) &&& B5 sw rules=M at bitX e8
    have S68:Same H6 H8:=λx o e=>O8 _ _ (λz=>by rw[z,hv] at e;cases e) (T1 _ _ e)
    have S28:=S26.trans S68
    have S38:=S35.trans (S6.trans S68)
    have hV8:Hk t H8 v b M:=⟨dxv,e8⟩
    have hB8:=hB6.up S68
    have seen:Seen (An sw rules) tr (Cg (λn=>vkT (tr n)) (An sw rules)) Ws M:=⟨rfl,asc,λn hn=>⟨(hF.one n hn).2,aL (Cl hn).1 few⟩,by have:=Wb asc hF.few (An sw rules).length;rwa[aw] at this,sb,ne,bitX⟩
    generalize Cg (λn=>vkT (tr n)) (An sw rules)=gs at hB8 seen
    refine⟨F,D,nm,An sw rules,Ws,ws,g,tr,rfl,hF2.nb (NB.same S28),ndf,S38 _ _ eD,lWs,sb,ne,S28 _ _ enm2,ndw,lw,hws,λH9 RR sh ap zs S9 eR esh hap so mz=>?_⟩
    refine⟨_,.inr (SqL.of eR),rfl,?_⟩
    have S29:=S28.trans S9
    have hW9:=hW2.nb (NB.same S29)
    refine⟨_,_,.inl (SqL.of hW9.at_),rfl,l,D,sw,Ws,M,rfl,hW9.sws,hw,(S38.trans S9) _ _ eD,lWs,λn hn=>(Cl (sb.subset hn)).1,bitX,λH10 op S10 eop=>⟨⟨by decide,by decide⟩,?_⟩⟩
    have S810:=S9.trans S10
    have hB10:=hB8.up S810
    have e10:=S810 _ _ e8
    have esh10:=S10 _ _ esh
    have hap10:=hap.up S10
    refine Bg (Bp 0 2) (λi U H'=>(∃ v12,U=[some (.ref a),some (.ref W),some (.ref nm),some (.ref F),some (.ref b),some (.ref D),some (.ref D4),some (.int ((Fh mo:Nat):Int)),some (.ref v),some (.ref sh),some (.ref ap),some (.ref op),v12])/\Same H10 H') ⟨⟨_,rfl⟩,Same.refl _⟩ (λ_ _ _ _ _=>aR) ?_ ?_
    .rintro i x U H11 hx ⟨⟨v12,rfl⟩,S11⟩
     have un:∀ {zs':List Str},Sorted zs'->(∀ z,z∈zs' ↔ Ch tr Ws z=true)->zs'=zs:=λs' m'=>Rv s' so λz=>(m' z).trans (mz z).symm
     refine⟨v,dxv,_,⟨t.c_zcb,bl7 K t⟩,rfl,.head _,S11 _ _ e10,rfl,⟨ah _,ah _⟩,⟨v,b,sw,rules,gs,tr,Ws,M,rfl,⟨dxv,S11 _ _ e10⟩,hB10.up S11,hw,seen,λH12 l12 zs12 S12 f12 e12 s12 _ m12=>?_⟩⟩
     obtain rfl:=un s12 m12
     refine⟨l12,sh,_,_,rfl,e12,Di e12,Di ((S11.trans S12) _ _ esh10),Qq _,λH13 O13=>?_⟩
     have S13:Same H11 H13:=λx o e=>O13 _ _ (Ai e f12) (S12 _ _ e)
     have S113:=S11.trans S13
     refine⟨v,dxv,_,⟨t.c_zcb,a10 K t⟩,rfl,.head _,S113 _ _ e10,rfl,⟨ah _,ah _⟩,⟨v,b,sw,rules,gs,tr,Ws,M,rfl,⟨dxv,S113 _ _ e10⟩,hB10.up S113,hw,seen,λH14 l14 zs14 S14 f14 o14 s14 _ m14=>?_⟩⟩
     obtain rfl:=un s14 m14
     obtain⟨es14,_,e14,_⟩:=id o14
     refine⟨l14,ap,_,_,rfl,e14,Rf o14 V3,Rf (hap10.up (S113.trans S14)) V3,ar8 _,λH15 O15=>?_⟩
     have S15:Same H10 H15:=S113.trans λx o e=>O15 _ _ (Ai e f14) (S14 _ _ e)
     refine⟨v,dxv,_,⟨t.c_zcb,bk7 K t⟩,rfl,.head _,S15 _ _ e10,rfl,⟨ah _,ah _⟩,⟨v,b,M,sw,rules,gs,rfl,⟨dxv,S15 _ _ e10⟩,hB10.up S15,hw,λH16 l16 S16 f16 e16=>?_⟩⟩
     exact⟨l16,op,_,_,rfl,e16,Di e16,Di ((S15.trans S16) _ _ eop),Qq _,λH17 O17=>⟨⟨_,rfl⟩,S15.trans λx o e=>O17 _ _ (Ai e f16) (S16 _ _ e)⟩⟩
    .rintro U H11 ⟨⟨v12,rfl⟩,S11⟩
     exact .inl (k H11)
end
end K52
namespace K52
open PySem L2
noncomputable def bi3:List Df:=[Zx,a35,Zt,a32,Zl,Zn,Zw,Zi,Zh,a34,Zg,Y9,Y8,Zj,Zr,Y5,Zs,Ze,Y6,Zp,D_zbd,Zd,Zk,Y7,Zb,Zu,a30,a36,Zc,a33,a29,a28,Zy,a31,Zf,Zm,Za,Zv,Zq,Zo,D_zbs]
noncomputable def ad9:List Df:=[ap8,Vt,Vu,aq1,ao7,ap2]
noncomputable def ae1:List Df:=[Vr,ap9,aq2,aq3,ao8]
noncomputable def ae0:List Df:=[Vm,Vn,aq0,ap6,ap3,Vo]
noncomputable def ad8:List Df:=[ao9,ap5,Vs,Vp,ap7,ap1,ap0,ap4,Vq]
structure az7 (K:ac) (mg:Str->Option ai) (t:Adr):Prop where
 g:AllG K mg t.f t.d 0 bi3
 o_zbz:Lp K "Plain" t.c_zbz t.f_zai
 m_zbz:AllM K t.c_zbz t.m_zbz t.e_zbz 0 ad9
 o_zcb:Lp K "View" t.c_zcb t.f_zas
 m_zcb:AllM K t.c_zcb t.m_zcb t.e_zcb 0 ae1
 o_zca:Lp K "Book" t.c_zca t.f_zao
 m_zca:AllM K t.c_zca t.m_zca t.e_zca 0 ae0
 o_zby:Lp K "Panel" t.c_zby t.f_zaf
 m_zby:AllM K t.c_zby t.m_zby t.e_zby 0 ad8
 i_zas:J3 K D_zas t.f_zas t.d_zas [] []
 i_zai:J3 K D_zai t.f_zai t.d_zai [] []
 i_zao:J3 K D_zao t.f_zao t.d_zao [] []
 i_zaf:J3 K D_zaf t.f_zaf t.d_zaf [.non] [.none]
 c:AllC mg t.u 0 cons
 z:∀ x∈bl,mg x=none
 Z:Am K t
theorem a66 {P:aX} {w:bB} {K:ac} {mg:Str->Option ai} {h base:Heap} {t:Adr} (X:K.In h) (G:h.Ns mainGlobals mg) (A:az7 K mg t):FnOk P w K mg base CX0 11 (t.f 40) (t.d 40) D_zbs.ps (Ps K t):=by
  have Z:=A.Z
  have g:∀ (j:Nat) {D:Df},bi3[j]? = some D->DOk K mg D.q D.st (t.f (0+j)) (t.d (0+j)) D.ps:=λj _ e=>(A.g.get j e).1
  have O:Y2 P w K mg base (Aw K t) bl t.f t.d 0 (fns K t):=⟨(bb5 Z).g (g 0 rfl),(bo5 Z).g (g 1 rfl),(bb1 Z).g (g 2 rfl),(bn7 Z).g (g 3 rfl),(ba3 Z).g (g 4 rfl),(ba5 Z).g (g 5 rfl),(bb4 Z).g (g 6 rfl),(a99 Z).g (g 7 rfl),(a98 Z).g (g 8 rfl),(bo4 Z).g (g 9 rfl),(a97 Z).g (g 10 rfl),(a85 Z).g (g 11 rfl),(a84 Z).g (g 12 rfl),(ba0 Z).g (g 13 rfl),(ba9 Z).g (g 14 rfl),(a74 Z).g (g 15 rfl),(bb0 Z).g (g 16 rfl),(a95 Z).g (g 17 rfl),(a75 Z).g (g 18 rfl),(ba7 Z).g (g 19 rfl),(ba2 Z).g (g 20 rfl),(a94 Z).g (g 21 rfl),(ba1 Z).g (g 22 rfl),(a83 Z).g (g 23 rfl),(a92 Z).g (g 24 rfl),(bb2 Z).g (g 25 rfl),(bn1 Z).g (g 26 rfl),(bo9 Z).g (g 27 rfl),(a93 Z).g (g 28 rfl),(bn9 Z).g (g 29 rfl),(bm7 Z).g (g 30 rfl),(bm6 Z).g (g 31 rfl),(bb6 Z).g (g 32 rfl),(bn2 Z).g (g 33 rfl),(a96 Z).g (g 34 rfl),(ba4 Z).g (g 35 rfl),(a86 Z).g (g 36 rfl),(bb3 Z).g (g 37 rfl),(ba8 Z).g (g 38 rfl),(ba6 Z).g (g 39 rfl),aR⟩
  have E:AllE P w K mg base (Aw K t) bl (Aw K t):=AllE.app ⟨(N4 X G A.o_zbz A.i_zai (a81 Z)),(N4 X G A.o_zcb A.i_zas (a91 Z)),(N4 X G A.o_zca A.i_zao (a87 Z)),(N4 X G A.o_zby A.i_zaf (a78 Z)),(λT mi hm=>by
    simp only[Gx,aE,cS,or_false] at hm
    rcases hm with rfl|rfl
    . exact Tt A.o_zbz.cl (A.m_zbz.get 3 rfl) (a13 Z) (aF rfl) T
    . exact Tt A.o_zca.cl (A.m_zca.get 0 rfl) (af6 Z) (aF rfl) T
   ),aR⟩ (AllE.app (Qi A.c) (AllE.app (Fb A.o_zbz.cl A.m_zbz ⟨bo2 Z,a89 Z,a90 Z,a13 Z,bm5 Z,bn4 Z,aR⟩) (AllE.app (Fb A.o_zcb.cl A.m_zcb ⟨a82 Z,bo3 Z,bo7 Z,bo8 Z,bm8 Z,aR⟩) (AllE.app (Fb A.o_zca.cl A.m_zca ⟨af6 Z,a76 Z,bo6 Z,bo0 Z,bn5 Z,a77 Z,aR⟩) (AllE.app (Fb A.o_zby.cl A.m_zby ⟨bm9 Z,bn8 Z,a88 Z,a79 Z,bo1 Z,bn3 Z,bn0 Z,bn6 Z,a80 Z,aR⟩) (Vz (AllG.pre (b:=[D_zbs]) A.g) O))))))
  exact bb7 Z _ _ _ _ _ (g 40 rfl).F λm _=>az4 A.z E m
theorem all_mk {l:jF} {w:bB} {K:ac} {h:Heap} {mg:Str->Option ai} {fa c_zbz c_zcb c_zca c_zby f_zas f_zai f_zao f_zaf f_io:Addr} (X:K.In h) (G:h.Ns mainGlobals mg) (hfa:mg "law" = some (.ref fa))
  (o_zbz:Lp K "Plain" c_zbz f_zai)
  (o_zcb:Lp K "View" c_zcb f_zas)
  (o_zca:Lp K "Book" c_zca f_zao)
  (o_zby:Lp K "Panel" c_zby f_zaf)
  (i_zas:∃ d,J3 K D_zas f_zas d [] [])
  (i_zai:∃ d,J3 K D_zai f_zai d [] [])
  (i_zao:∃ d,J3 K D_zao f_zao d [] [])
  (i_zaf:∃ d,J3 K D_zaf f_zaf d [.non] [.none])
  (nP:AllN K c_zby ["settings", "tuples", "numbers", "sets", "kept_rules", "bars", "free"])
  (nL:AllN K c_zbz ["records"])
  (nB:AllN K c_zca ["panel", "kept"])
  (nV:AllN K c_zcb ["book", "seen"])
  (a_io:dm K mainGlobals "in_order" = some (some (.ref f_io)))
  (lm_io:Kl K f_io=true)
  (qT:a25 K bi3)
  (qM_zbz:Mq K c_zbz ad9)
  (qM_zcb:Mq K c_zcb ae1)
  (qM_zca:Mq K c_zca ae0)
  (qM_zby:Mq K c_zby ad8)
  (qC:Y4 K cons)
  (qZ:a26 K bl)
  : ∃ (t:Adr) (fd:a8),(∀ (s:am) (v:ai),kO s fd ⟨[v],[]⟩ [("_law_script", v)]) /\ ∀ base:Heap,K.In base->base.Ns mainGlobals mg->FnOk l.prog w K mg base CX0 11 fa fd ["_law_script"] (Ps K t):=by
 obtain⟨_,_,d₀,_⟩:=qT.1
 obtain⟨f,d,g⟩:=V0 d₀ X G 0 qT (by (repeat' first|exact aR|refine⟨⟨rfl,λ_ _ _ _ _ _ us hl=>?_⟩,?_⟩|fail) <;> first|exact aR|exact len1 (λ_=>rfl) us hl|exact len2 (λ_ _=>rfl) us hl|exact len3 (λ_ _ _=>rfl) us hl|exact ad1 (λ_ _ _ _=>rfl) us hl|exact len5 (λ_ _ _ _ _=>rfl) us hl|exact ad2 (λ_ _ _ _ _ _=>rfl) us hl)
 obtain⟨m_zbz,e_zbz,g_zbz⟩:=Gg d₀ 0 qM_zbz (by (repeat' first|exact aR|refine⟨λ_ _ _ _ _ _ us hl=>?_,?_⟩|fail) <;> first|exact aR|exact len1 (λ_=>rfl) us hl|exact len2 (λ_ _=>rfl) us hl|exact len3 (λ_ _ _=>rfl) us hl|exact ad1 (λ_ _ _ _=>rfl) us hl|exact len5 (λ_ _ _ _ _=>rfl) us hl|exact ad2 (λ_ _ _ _ _ _=>rfl) us hl)
 obtain⟨m_zcb,e_zcb,g_zcb⟩:=Gg d₀ 0 qM_zcb (by (repeat' first|exact aR|refine⟨λ_ _ _ _ _ _ us hl=>?_,?_⟩|fail) <;> first|exact aR|exact len1 (λ_=>rfl) us hl|exact len2 (λ_ _=>rfl) us hl|exact len3 (λ_ _ _=>rfl) us hl|exact ad1 (λ_ _ _ _=>rfl) us hl|exact len5 (λ_ _ _ _ _=>rfl) us hl|exact ad2 (λ_ _ _ _ _ _=>rfl) us hl)
 obtain⟨m_zca,e_zca,g_zca⟩:=Gg d₀ 0 qM_zca (by (repeat' first|exact aR|refine⟨λ_ _ _ _ _ _ us hl=>?_,?_⟩|fail) <;> first|exact aR|exact len1 (λ_=>rfl) us hl|exact len2 (λ_ _=>rfl) us hl|exact len3 (λ_ _ _=>rfl) us hl|exact ad1 (λ_ _ _ _=>rfl) us hl|exact len5 (λ_ _ _ _ _=>rfl) us hl|exact ad2 (λ_ _ _ _ _ _=>rfl) us hl)
 obtain⟨m_zby,e_zby,g_zby⟩:=Gg d₀ 0 qM_zby (by (repeat' first|exact aR|refine⟨λ_ _ _ _ _ _ us hl=>?_,?_⟩|fail) <;> first|exact aR|exact len1 (λ_=>rfl) us hl|exact len2 (λ_ _=>rfl) us hl|exact len3 (λ_ _ _=>rfl) us hl|exact ad1 (λ_ _ _ _=>rfl) us hl|exact len5 (λ_ _ _ _ _=>rfl) us hl|exact ad2 (λ_ _ _ _ _ _=>rfl) us hl)
 obtain⟨u,gc⟩:=Vy X G 0 qC
 obtain⟨d_zas,i_zas⟩:=i_zas
 obtain⟨d_zai,i_zai⟩:=i_zai
 obtain⟨d_zao,i_zao⟩:=i_zao
 obtain⟨d_zaf,i_zaf⟩:=i_zaf
 have AO:az7 K mg ⟨f,d,u,f_zas,d_zas,f_zai,d_zai,f_zao,d_zao,f_zaf,d_zaf,c_zbz,m_zbz,e_zbz,c_zcb,m_zcb,e_zcb,c_zca,m_zca,e_zca,c_zby,m_zby,e_zby⟩:=⟨g,o_zbz,g_zbz,o_zcb,g_zcb,o_zca,g_zca,o_zby,g_zby,i_zas,i_zai,i_zao,i_zaf,gc,V1 X G qZ,⟨⟨o_zby.cl,nP.all⟩,o_zbz.cl,nL.1,o_zca.cl,nB.1,nB.2.1,o_zcb.cl,nV.1,nV.2.1,(by
  have m:=(g.get 20 (D:=D_zbd) rfl).1.m
  have m2:=g8 X G a_io
  have m3:some (bv (f (0+20)))=some (.ref f_io):=m.symm.trans m2
  injection m3 with m3
  injection m3 with m3
  show Kl K (f (0+20))=true
  rw[m3]
  exact lm_io)⟩⟩
 have gl:=g.get 40 (D:=D_zbs) rfl
 have e:fa=f (0+40):=by
  have m:=gl.1.m
  rw[hfa] at m
  injection m with m
  injection m
 subst e
 exact⟨_,_,λs v=>gl.2 s [v] rfl,λbase _ _=>a66 X G AO⟩
theorem bm1 {K:ac} {f:Addr} (h:Kl K f=true):∃ c,dM K c 132=true:=by
 unfold Kl at h
 split at h
 .split at h
  .exact⟨_,h⟩
  .cases h
 .cases h
noncomputable def sp0 (K:ac):Sp:=λvs H Q _=>∃ (a:Addr) (ns:List Int),vs=[.ref a]/\SqL K H a (ns.map V.int)/\ns.length<=63/\St0 H /\ ∀ H',Q (.bl true) H'
theorem walk {l:jF} {q:aX} {loose:List Str} {XP:(Str->Option ai)->Heap->Prop} {YP:bB->Heap->Prop} {d:DefRec} {K:Params->ac} {fo:Addr} (hn:l.most=some 63) (hdf:d.params.defaults=[])
  (hY:∀ (w:bB) (h:Heap),YP w h->(K w.params).In h/\h.get? 132=some (fU #[]))
  (h1:∀ w:bB,dm (K w.params) mainGlobals "in_order" = some (some (.ref fo))) (h2:∀ w:bB,dm (K w.params) mainGlobals "__builtins__" = some (some (.ref 4)))
  (h3:∀ w:bB,Kl (K w.params) fo=true) (h4:∀ w:bB,(K w.params).lookup 132=none) (h5:∀ w:bB,(K w.params).lookup 4=none) (h6:∀ w:bB,((K w.params).all λp=>!(p.2.cls==dN "list"))=true)
  (F:∀ (w:bB) (mg:Str->Option ai) (fa:Addr) (h:Heap),(K w.params).In h->h.Ns mainGlobals mg->mg d.name=some (.ref fa) ->
   ∃ (t:Adr) (fd:a8),(∀ (s:am) (u:ai),kO s fd ⟨[u],[]⟩ [("_law_script", u)]) /\ ∀ base:Heap,(K w.params).In base->base.Ns mainGlobals mg->FnOk l.prog w (K w.params) mg base CX0 11 fa fd ["_law_script"] (Ps (K w.params) t)) :
  PySem.W.WalkO q loose XP YP l.row.toRowW d [] (λf vs=>PySem.call f vs):=
 L2.walk_ofT (n:=63) (k:=11) (x := "_law_script") (Pt:=132) (bm:=4) (sp:=λw=>sp0 (K w.params)) (λ_ _=>aR) hn (by decide) hdf ⟨rfl,by decide,by decide⟩ hY (λw=>⟨bm1 (h3 w),h4 w,h5 w,h2 w,h6 w⟩) (λw mg fa h a b c=>let ⟨t,fd,h1,h2⟩:=F w mg fa h a b c;⟨fd,h1,λbase x y=>(h2 base x y).imp λvs H Q E z=>z⟩) λw H a ns hl hs hS=>⟨a,ns,rfl,hS,hl,hs,λ_=>rfl⟩
end K52
open PySem PySem.W PyProof.Rows
end
set_option maxRecDepth 100000 in
theorem PySem.Challenge.cw_manyleaf_k52_shared_and_apart_holds : PySem.Challenge.rw_manyleaf_k52_shared_and_apart.Holds := by
 refine head_k52 ?_
 k_fill
 refine' K52.walk (l:=PySem.Challenge.rw_manyleaf_k52_shared_and_apart) rfl rfl (λw h Y=>⟨PySem.W.km_in_of Y,PySem.W.km_tabs_of Y 132 (by decide)⟩) ?h1 ?h2 ?h3 ?h4 ?h5 ?h6 ?F
 case h1|h2=>intro w;k_is
 case h3|h4|h5|h6=>intro w;kernel_rfl
 case F=>
  intro w mg fa h KX G hmg
  refine' K52.all_mk KX G hmg ?o_zbz ?o_zcb ?o_zca ?o_zby ?i_zas ?i_zai ?i_zao ?i_zaf ?nP ?nL ?nB ?nV ?a_io ?lm_io ?qT ?qM_zbz ?qM_zcb ?qM_zca ?qM_zby ?qC ?qZ
  case o_zbz|o_zcb|o_zca|o_zby=>refine' L2.own_mk ?_ ?_ ?_ ?_ ?_ ?_ ?_ ?_ <;> try k_is
  case i_zas=>refine' L2.ini0 (λ_ _ _ _ _ _ us hl=>L2.len3 (λ_ _ _=>rfl) us hl) ?_ ?_ ?_ ?_ <;> try k_is
  case i_zai=>refine' L2.ini0 (λ_ _ _ _ _ _ us hl=>L2.len1 (λ_=>rfl) us hl) ?_ ?_ ?_ ?_ <;> try k_is
  case i_zao=>refine' L2.ini0 (λ_ _ _ _ _ _ us hl=>L2.len2 (λ_ _=>rfl) us hl) ?_ ?_ ?_ ?_ <;> try k_is
  case i_zaf=>refine' L2.ini1 (λ_ _ _ _ _ _ _ us hl=>L2.len3 (λ_ _ _=>⟨_,rfl,rfl⟩) us hl) (λ_ _ _ _ _ _ _ us hl=>L2.len2 (λ_ _=>⟨_,rfl,rfl⟩) us (Nat.succ.inj hl)) (by decide) ?_ ?_ ?_ ?_ ?_ <;> try k_is
  case nP|nL|nB|nV=>(repeat' first|exact True.intro|refine' ⟨?_,?_⟩|fail) <;> try k_is
  case a_io=>k_is
  case lm_io=>kernel_rfl
  case qT=>(repeat' first|exact True.intro|refine' ⟨⟨_,L2.top_mk ?_ ?_ ?_ ?_⟩,?_⟩|fail) <;> try k_is
  case qM_zbz|qM_zcb|qM_zca|qM_zby=>(repeat' first|exact True.intro|refine' ⟨⟨_,?_,L2.met_mk ?_ ?_ ?_ ?_⟩,?_⟩|fail) <;> try k_is
  case qC=>(repeat' first|exact True.intro|refine' ⟨L2.con_mk ?_ ?_,?_⟩|fail) <;> first|k_is|exact⟨_,rfl⟩|exact rfl|skip
  case qZ=>(repeat' first|exact True.intro|refine' ⟨?_,?_⟩|fail) <;> try k_is
#print axioms PySem.Challenge.cw_manyleaf_k52_shared_and_apart_holds
