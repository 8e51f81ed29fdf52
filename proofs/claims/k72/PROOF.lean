import PyProof.Rows.All
import Wide.All
import OpenK.AllK
import Wide.FinOn
import OpenK.ZGo
import PyProof.ToksMono
import Lean
import PyProof.EqAt
import PyProof.EqKinds
import PyProof.TupleCall
import PyProof.NeKinds
import PyProof.ZipIter
import PyProof.StrWalks
import PyProof.ConsumeWalk
import KE.KIsAll
import PyProof.EnumFor
import PyProof.EnumMake
import PyProof.EnumStmt
import PyProof.Rows.EnumRows
import PyProof.DictWalks
import PyProof.Draws
import PyProof.Rows.SetFrom
import PyProof.DictItems
import KE.KDictList
import PyProof.TupleIter
import PyProof.RulesRaise
import PyProof.RulesTry
import PyProof.MeetsIn
import KE.KEqDict
import PyProof.StrOps2
import PyProof.StrCalls6
import PyProof.ListMulRoad
import PyProof.FactsAll.tuple
import KE.KDictOf
import KE.KItem
import KE.KSortTup
import KE.KSortKey
import PyProof.MinMaxWalk
import KE.KMinKey
import KE.KItemsList
import PyProof.Rows.SeqGen
import PyProof.Rows.Range3
import PyProof.Rows.ChunkLeaf
import KE.KRevIter
import PyProof.StationsW
import PyProof.PassesOwn
import PySem.Challenge.RW_manyleaf_k72_whole_plain_books_laid_toge
set_option Elab.async false
set_option linter.all false
set_option compiler.extract_closed false
set_option bootstrap.genMatcherCode false
namespace PySem.W.Fast
def tw10044317652375048639:=()
def tw10297262470976097174:=()
def tw1049638599482490190:=()
def tw10510452927487542476:=()
def tw10778824370183608626:=()
def tw10794413205106681707:=()
def tw10835793190380515993:=()
def tw1087127606251965517:=()
def tw10876538741874008059:=()
def tw11086908562965057964:=()
def tw11454911301434381557:=()
def tw11555445900391529096:=()
def tw11743766965437843070:=()
def tw11916159083770314208:=()
def tw12089036898407042405:=()
def tw1220034717709557250:=()
def tw12214340201610053762:=()
def tw12319383831445806243:=()
def tw12603169498502696125:=()
def tw12644960596605388937:=()
def tw12690633978564756009:=()
def tw13098676713820164927:=()
def tw13188850510670998141:=()
def tw13338411482994218824:=()
def tw13603494669834872715:=()
def tw14128199186914428986:=()
def tw14144570653639699891:=()
def tw14240682297037658842:=()
def tw14743570357613960372:=()
def tw14771783090184104879:=()
def tw15194667970049707903:=()
def tw15249456135978690292:=()
def tw15474905268200179282:=()
def tw1569953629044169164:=()
def tw15777324540586681874:=()
def tw16246071449690033514:=()
def tw16692714643133388353:=()
def tw16890793019323957926:=()
def tw17379042608683085783:=()
def tw17446287824040602368:=()
def tw17708718255658860071:=()
def tw17775090848083425713:=()
def tw17804372875063826271:=()
def tw18287215779530369923:=()
def tw2645304457547125261:=()
def tw2852106942216097649:=()
def tw3074173547071316550:=()
def tw3299164603437782157:=()
def tw3432726452857159968:=()
def tw3531000413893643858:=()
def tw3559253889798289439:=()
def tw3591421719521506769:=()
def tw3681001765006479170:=()
def tw3896480885932143624:=()
def tw3967728411946137584:=()
def tw4279805225303768608:=()
def tw475430377697105826:=()
def tw5067336002436803552:=()
def tw591132153046837907:=()
def tw6135134802952255701:=()
def tw6340840184420390309:=()
def tw6626290632445143349:=()
def tw6670602410108760984:=()
def tw67687367003235354:=()
def tw6865044642727054223:=()
def tw707739460163721627:=()
def tw7094464860560177338:=()
def tw7181379831385700843:=()
def tw7319451577735319851:=()
def tw736675499649804631:=()
def tw7381485989276327212:=()
def tw744020786058454514:=()
def tw8706883200397239229:=()
def tw9154314716897952439:=()
def tw9458410373037183669:=()
def tw948309661799849352:=()
def tw9486980391837785825:=()
def tw9928832251261433159:=()
def tw1402634315300324593:=()
def tw14403320011851802477:=()
def tw9069367002529487434:=()
def tw2195153756132580286:=()
def tw1139164102888077458:=()
def tw11458778089815916929:=()
def tw6780119450364791660:=()
def tw11629804127092586898:=()
def tw1310174859347851100:=()
def tw1165411284637243972:=()
def tw388022292489617171:=()
def tw10723335116714313032:=()
def tw1893156766182807119:=()
def tw14298942534638965716:=()
def tw6427824154158729066:=()
def tw8457556507627972585:=()
def tw2682648059162223044:=()
def tw9600917219823367837:=()
def tw5409049270064599457:=()
def tw17971537737447088087:=()
def tw11089653120915215897:=()
def tw4496998982231455741:=()
def tw17544080044741003440:=()
def tw8184038641172435216:=()
def tw18429559862159613032:=()
def tw5613208438530170805:=()
def tw5204861386906354191:=()
def tw14099500618665150870:=()
def tw14450887764536624313:=()
def tw13401986319830122416:=()
def tw12615793858577146514:=()
def tw18244263999392027612:=()
def tw49639995009387103:=()
def tw1448355216234598285:=()
def tw5520015408418688431:=()
def tw10019461267409272358:=()
def tw7197723694259008027:=()
def tw4797697027716259929:=()
def tw11808467949239342446:=()
def tw13942708726560908295:=()
def tw11612900238804712556:=()
def tw9607136161266682838:=()
def tw7816649432468712131:=()
def tw6654598650038217013:=()
def tw14396548642492371872:=()
def tw2181089081794308954:=()
def tw14800529157504213215:=()
def tw749473758206724567:=()
def tw13546445936462989031:=()
def tw12738251998220637144:=()
def tw9469878599196675198:=()
def tw13234499216036425966:=()
def tw9678285134215602084:=()
def tw2519071756628023556:=()
def tw10933191540391852007:=()
def tw9198986022191616690:=()
def tw1608060640293600899:=()
def tw2779884909585585092:=()
def tw1654610190134638350:=()
def tw16139189562741183718:=()
def tw13626997313601253206:=()
def tw8577526350764999612:=()
def tw13926420083851597337:=()
def tw16209261939469692794:=()
def tw13230300851972341889:=()
def tw12074421347008501041:=()
def tw18383930930667828708:=()
def tw4244917037057847765:=()
def tw14843332367456328173:=()
def tw10768255860166835534:=()
def tw8331326092209584083:=()
def tw10338573207029483701:=()
def tw5134402222678694278:=()
def tw4103316752869000773:=()
def tw2355859576670769282:=()
def tw1114337952862030023:=()
def tw12939474527268052733:=()
def tw6056491081841292419:=()
def tw18265878050676754410:=()
def tw15125363309694407670:=()
def tw17321149039719214800:=()
def tw18232472827248238464:=()
def tw5851091241523558575:=()
def tw18288422262701348607:=()
def tw18280929263301696402:=()
def tw18322131473703582429:=()
def tw10464287922545960833:=()
def tw5459798650602230596:=()
def tw9661808935150361502:=()
def tw10625332763556159483:=()
def tw17966276150872387087:=()
def tw2939048640607050651:=()
def tw8480744061922659676:=()
def tw13481531327152672204:=()
def tw3118482435635268535:=()
def tw3824031767965920610:=()
def tw10096650701649635597:=()
def tw6272168651443026919:=()
def tw17200035846530954335:=()
def tw2144789035812277538:=()
def tw15373939012862310854:=()
def tw13802952967743254040:=()
def tw17705982985360810224:=()
def tw191879516211820194:=()
def tw15989223975276206969:=()
def tw8488090007113183136:=()
def tw4067874411110169013:=()
def tw3462020553200930114:=()
def tw8085766075579976853:=()
def tw1564485662468330013:=()
def tw129430182021666896:=()
def tw4360991270815799126:=()
def tw2368419594512110290:=()
def tw3426456596500678581:=()
def tw8685626756106838264:=()
def tw17816251792986172912:=()
def tw16423149038364911445:=()
def tw15785716483625517073:=()
def tw3220888197415109872:=()
def tw2661558173344833589:=()
def tw17367708835527981982:=()
def tw16685528423032851215:=()
def tw6200719506165139296:=()
def tw13353737523802890879:=()
def tw18096325512458317963:=()
def tw9854039321482522909:=()
def tw10047979517856794986:=()
def tw1725701812300602155:=()
def tw233166881396114949:=()
def tw6081723192128167177:=()
def tw7431503747986859586:=()
def tw18283634223127659918:=()
def tw2434863677244658636:=()
def tw17460287115438290819:=()
def tw5691780764008723990:=()
def tw10961157293563233053:=()
def tw2452882875367494639:=()
def tw3547743651700796034:=()
def tw11146331221120296991:=()
def tw4152205208329244326:=()
def tw17374472108553153526:=()
def tw10065538659230609085:=()
def tw8557015094310600027:=()
def tw14887567965073410091:=()
def tw13163501419929607975:=()
def tw427206255574682970:=()
def tw16884707740905808008:=()
def tw18387184292832095212:=()
def tw14090140417902987447:=()
def tw4280845333042911634:=()
def tw1004307723835833944:=()
def tw17340919333729518235:=()
def tw17597825402154120125:=()
def tw16068572080035081679:=()
def tw5576924612341787143:=()
def tw5102724806362840065:=()
def tw10430283590979244315:=()
def tw6075346968266772233:=()
def tw6827612307446170309:=()
def tw15344068238973620692:=()
def tw5508120110277585819:=()
def tw14268281046998599443:=()
def tw5634300993791832794:=()
def tw4019476169256666292:=()
def tw1534239194612032837:=()
def tw2559656751369617709:=()
def tw13345044025707965426:=()
def tw14174296140716867108:=()
def tw6664612835977586847:=()
def tw7364695800687856334:=()
def tw58382132310034337:=()
def tw16214789920122678187:=()
def tw2381306363725269153:=()
def tw14497230082136385288:=()
def tw8629635302795667790:=()
def tw11987970683289221490:=()
def tw11123726426567107326:=()
def tw14553407748219233897:=()
def tw10785950186552547753:=()
def tw17734836444969211974:=()
def tw628126753708700565:=()
def tw16835458943898049689:=()
def tw18169892491563576230:=()
def tw7092408282864903379:=()
def tw491326503279631363:=()
def tw6493751601592046425:=()
def tw6614592650330589888:=()
def tw7907002628516347169:=()
def tw14340190577394068296:=()
def tw4785847811490139257:=()
def tw422284103630037323:=()
def tw10992229242247171214:=()
def tw6125226022956385157:=()
def tw9494119566406914938:=()
def tw14332047042759190757:=()
def tw12515835866936895840:=()
def tw6639564019286151913:=()
def tw12594171531062304414:=()
def tw8312342129738841496:=()
def tw4088174803138918197:=()
def tw15399667479249315181:=()
def tw2133672194397215821:=()
def tw8624960477753255557:=()
def tw6314945595116855642:=()
def tw8550518539185220077:=()
def tw8483732120355213941:=()
def tw16403283763798728384:=()
def tw16080159504834886067:=()
def tw16781688785946819371:=()
def tw4997792125032017692:=()
def tw11762545449987840512:=()
def tw9287604400521580148:=()
def tw9900517786520891455:=()
def tw10239540939873777562:=()
def tw8460871574553538363:=()
def tw11342827878559458296:=()
def tw4039613768262856095:=()
def tw12724594911093217523:=()
def tw3188525331823135031:=()
def tw11977364825607486742:=()
def tw5774289239471536404:=()
def tw16531845716208915869:=()
def tw11473952824743086040:=()
def tw18054907126061361298:=()
def tw11133243342513641382:=()
def tw2542657739169908500:=()
def tw16947278205416278271:=()
def tw11254853656880434869:=()
def tw7278095602857480072:=()
def tw5646591788856811266:=()
def tw3788178409883537505:=()
def tw16104417930282382264:=()
def tw16647940706305647831:=()
def tw1208277259178921157:=()
def tw9889112323637578256:=()
def tw960974603035811047:=()
def tw17752348488128782019:=()
def tw10973553655386082130:=()
def tw8108996501780762440:=()
def tw13656771847017120107:=()
def tw15532236543170797488:=()
def tw17128674521688773283:=()
def tw6854749426673498294:=()
def tw13840138817657383047:=()
def tw17258669559498039755:=()
def tw1099804174483171009:=()
def tw16779668667366568460:=()
def tw13827213726102282257:=()
def tw6707461355106278509:=()
def tw1667145129886450915:=()
def tw11678104568125626936:=()
def tw3835733100766411827:=()
def tw66696228277256997:=()
def tw6263828337138573749:=()
def tw6888300399084236773:=()
def tw15580498562496629872:=()
def tw15266283282637321563:=()
def tw6816115280476823385:=()
def tw11864603323833051325:=()
def tw15472608327799017981:=()
def tw13070312580555067708:=()
def tw8251149332185663263:=()
def tw16845372786232857275:=()
def tw12006829264087304571:=()
def tw7450490826446613302:=()
def tw4842846548829278035:=()
def tw7874303734917228131:=()
def tw12989697510085626760:=()
def tw17187812691125898949:=()
def tw1819040466067132993:=()
def tw3857777898244964611:=()
def tw12889466606488833469:=()
def tw17157492466294450221:=()
def tw63611572392358535:=()
def tw6743784766324811129:=()
def tw15784306669872197598:=()
def tw2449337169015079644:=()
def tw6701967003667093768:=()
def tw6610476847577624611:=()
def tw3422106245234900950:=()
def tw564776424445138124:=()
def tw3312332577271345579:=()
def tw5564091485002160560:=()
def tw15637722912350783479:=()
def tw12096990460968024269:=()
def tw9189163354292935539:=()
def tw4859540744938520030:=()
def tw10923052866260043592:=()
def tw5678431913849241386:=()
def tw12546747852347916164:=()
def tw3078536980231598575:=()
def tw8129552065492967241:=()
def tw14626881076650511144:=()
def tw9504828068625047927:=()
def tw6404407487232344457:=()
def tw10913543711008663793:=()
def tw9494149849469728565:=()
def tw12584524161045865251:=()
def tw17349460895788435441:=()
def tw16371591067404331720:=()
def tw17986803024891382886:=()
def tw18198965838696133390:=()
def tw8808651862032246058:=()
def tw495935150614483577:=()
def tw14313406540318429357:=()
def tw4111218917143029900:=()
def tw14639960026020936154:=()
def tw2401758237090703025:=()
def tw7758172822603964115:=()
def tw12828081160321390293:=()
def tw18213095912627011933:=()
def tw3253625126880718108:=()
def tw16048334981409578779:=()
def tw12142158881146619425:=()
def tw15596677570538560351:=()
def tw8790356105155033488:=()
def tw17024005504640961717:=()
def tw8487392899777635940:=()
def tw17639571613541971098:=()
def tw5006238782344312716:=()
def tw8245307733987954693:=()
def tw1666703203148288447:=()
def tw9173411107461345775:=()
def tw13393071814854575606:=()
def tw8655753921244317942:=()
def tw9384293948714772307:=()
def tw18321044835313787253:=()
def tw8380358291874339479:=()
def tw10199137010182103479:=()
def tw7501315814370078923:=()
def tw6652064664476383069:=()
def tw1658913117683916165:=()
def tw17442653169680222112:=()
def tw14892273388653610832:=()
def tw7631890852499360981:=()
def tw17259843680386764617:=()
def tw8661406321438282764:=()
def tw9506961448296730065:=()
def tw17752355479541088240:=()
def tw3660747578064258199:=()
def tw12718599956298585706:=()
def tw14498546894693618000:=()
def tw5144109760959583726:=()
def tw3934644939051797771:=()
def tw3800373215343174671:=()
def tw16339232462442648990:=()
def tw9911947915431895636:=()
def tw3631645827153604604:=()
def tw11035292939497241783:=()
def tw13394638178360706680:=()
def tw2336556691806553600:=()
def tw2738477654182390360:=()
def tw10461257244783482420:=()
def tw5723697497270839801:=()
def tw10525714941486813497:=()
def tw7292653376857182078:=()
def tw11478434646668878137:=()
def tw17042867080885759450:=()
def tw798312993842031807:=()
def tw7909391211776533427:=()
def tw176046081593042157:=()
def tw892316158521929381:=()
def tw5350787366108087556:=()
def tw15437030122694687490:=()
def tw18110604621173424490:=()
def tw9465437545680431229:=()
def tw9794367488669631914:=()
def tw4245137721910022973:=()
def tw16551192345693680693:=()
def tw13490308043359400597:=()
def tw1055275902075588379:=()
def tw10912023872790031837:=()
def tw12613573061868930933:=()
def tw998822571787207047:=()
def tw10733084713126047304:=()
def tw7346844421334306094:=()
def tw7923075677211727041:=()
def tw2631890641573203220:=()
def tw18151531303262831905:=()
def tw3696462189801366350:=()
def tw2167558342680228279:=()
def tw12426058531866700040:=()
def tw6200848113483657959:=()
def tw8139949965458766378:=()
def tw5952093654548132095:=()
def tw3782521931892660472:=()
def tw13791732979747421751:=()
def tw14090083625124612778:=()
def tw12595261106838413106:=()
def tw7232616509236045656:=()
def tw15202465413159351821:=()
def tw7632831612197149944:=()
def tw3956141335775525654:=()
def tw12489200038370872121:=()
def tw17141700390457229965:=()
def tw14085186775493714967:=()
def tw8672885240204212409:=()
def tw2144106935432693505:=()
def tw1824186102163849599:=()
def tw9820136140727780509:=()
def tw15779503986455461153:=()
def tw10347484792837582768:=()
def tw10699202668028213588:=()
def tw7422849063751176741:=()
def tw8249007737989198382:=()
def tw5936239733132103616:=()
def tw172850990901981839:=()
def tw15334338068390132102:=()
def tw3017590277792064525:=()
def tw4166197520436017289:=()
def tw14865841348703168212:=()
def tw1425018778908938061:=()
def tw9121229090255065434:=()
def tw15764525394490439732:=()
def tw5732132117527317361:=()
def tw17385382958112468861:=()
def tw7181383776260254045:=()
def tw708107161840819273:=()
def tw16304319478591691023:=()
def tw356666420343656427:=()
def tw9840326676025739660:=()
def tw10870543494785693578:=()
def tw17063436972178340723:=()
def tw1713806587886805789:=()
def tw4619107592942653952:=()
def tw10867709506218785351:=()
def tw15645110585991721445:=()
def tw13098030750443145913:=()
def tw17165061473819804352:=()
def tw12718851465981527330:=()
def tw10607386136851907907:=()
def tw2287562376566351702:=()
def tw14249183223254925019:=()
def tw2085159250140747459:=()
def tw16659555747696612018:=()
def tw18023402769511736322:=()
def tw2781365781799744260:=()
def tw134520944539323513:=()
def tw7857377954332302196:=()
def tw15227817738251827753:=()
def tw8629137711375405622:=()
def tw6648170908272276945:=()
def tw14948476415492328993:=()
def tw1037326123596800592:=()
def tw11400446030063673124:=()
def tw4039525091176714176:=()
def tw16755686708798299411:=()
def tw4464747165038516667:=()
def tw16240997325618825276:=()
def tw15182825096593359331:=()
def tw13920716265621283619:=()
def tw4642990133299113926:=()
def tw12101909705167700331:=()
def tw13369360201870831845:=()
def tw7090838104236513875:=()
def tw6466617488629067863:=()
def tw17376063995742189717:=()
def tw10549771156982842210:=()
def tw17891300530090607382:=()
def tw12182898372272807117:=()
def tw11344929935086339099:=()
def tw5771673084481232643:=()
def tw7071600791979926636:=()
def tw17531157067961284635:=()
def tw6513932946460594794:=()
def tw3719093112471000346:=()
def tw17304191767586306095:=()
def tw8056577362427443608:=()
def tw4321258598504279519:=()
def tw13433958895972165437:=()
def tw5025832849123174681:=()
def tw10184794089741308997:=()
def tw4083251336035138250:=()
def tw820545994239514676:=()
def tw13447384810738655688:=()
def tw9173829142564878647:=()
def tw16958253328974993865:=()
def tw11433892315904072323:=()
def tw349549890906428233:=()
def tw3153077418369641113:=()
def tw1482311065786383945:=()
def tw14033387313966300451:=()
def tw13665917427708213722:=()
def tw3086632915773846006:=()
def tw13640761062120346094:=()
def tw2071532544721145426:=()
def tw6186772238570018186:=()
def tw10528952152196822801:=()
def tw7312605191673855406:=()
def tw15789876044453804590:=()
def tw10193489492981625898:=()
def tw7634703410544119467:=()
def tw16999399237476286263:=()
def tw12355610527302250362:=()
def tw17332220631470070966:=()
def tw2113313189923111572:=()
def tw8459276251394671665:=()
def tw8319894809363231132:=()
def tw16841419818852622426:=()
def tw18229407652745626078:=()
def tw817285977148461345:=()
def tw10514221646551085316:=()
def tw17348694306805680153:=()
def tw3915778947760444467:=()
def tw16982929980920542633:=()
def tw11798357899644256601:=()
def tw4797488473460000705:=()
def tw4220444205996169406:=()
def tw5234677374252355874:=()
def tw9509472264314332092:=()
def tw10462933288181429780:=()
def tw15503375786573412801:=()
def tw14201868899995797465:=()
def tw8697201247138468209:=()
def tw14462093310897776897:=()
def tw932636833495571621:=()
def tw4906660249560825999:=()
def tw7908476473101953219:=()
def tw7386976962177602735:=()
def tw9745928297334089329:=()
def tw13971580060627946885:=()
def tw10204385855357895222:=()
def tw388630575742872590:=()
def tw3171046010036376268:=()
def tw17027623677264820529:=()
def tw14009340377020355605:=()
def tw14539459593461682902:=()
def tw17841582663468404014:=()
def tw1802511242254326152:=()
def tw14431301727568325740:=()
def tw3245803974511681081:=()
def tw16543071051901827777:=()
def tw13579538581657151093:=()
def tw16528772167562008724:=()
def tw3272960209110914426:=()
def tw6399465072825915186:=()
def tw6853447227486019656:=()
def tw9373206912332777339:=()
def tw7291336563894439575:=()
def tw7180410297874377819:=()
def tw7893243803272612908:=()
def tw7263589610902094023:=()
def tw2737463966344502860:=()
def tw9399693591757162020:=()
def tw15988257747391012081:=()
def tw12815859803605733321:=()
def tw6070174149094895277:=()
def tw10564076582375915275:=()
def tw14143474596970686924:=()
end PySem.W.Fast
section
def xopen_top:=()
end
set_option maxHeartbeats 0
set_option maxRecDepth 100000
noncomputable section
local macro_rules|`(tactic|trivial)=>`(tactic|first|exact Nat.le_refl _|exact Nat.le_add_right _ _|exact .inl rfl|exact .inr rfl|assumption|omega|(dsimp only;omega))
open Array renaming length_toList->bn,getElem?_eq_getElem->bN,getElem?_toList->bW,getD_eq_getD_getElem?->dM,perm_iff_toList_perm->iE,map->iT,getElem?_eq_none->jw
open Bool renaming false_ne_true->aR,and_eq_true->aW,false_eq_true->cO,eq_false_iff->dI,beq_eq_decide_eq->dY,or_eq_true->eF,and_true->gp,decide_and->gq,eq_iff_iff->gw,and_false->iO,not_eq_true'->iU,or_eq_false_iff->j_,false_or->kQ
open Classical renaming byContradiction->c_
open Decidable renaming not_not->iX
open False renaming elim->cA
open ForInStep renaming yield->fC
open Int renaming toNat_natCast->bB,emod_lt_of_pos->cP,eq_ofNat_of_zero_le->cQ,natCast_add->cR,emod_nonneg->dq,natCast_mul->gA,toNat->hX,mul_le_mul_of_nonneg_left->ia,fdiv_eq_ediv_of_nonneg->iH,toNat_of_nonneg->kJ,natCast_nonneg->kU
open LawfulBEq renaming eq_of_beq->eC
open List renaming length_map->af,length_append->ak,getElem?_eq_getElem->am,getElem?_map->au,map_append->aw,getElem?_eq_some_iff->aA,size_toArray->aB,mem_singleton->aC,mem_cons->aG,mem_of_getElem?->aI,mem_map->aJ,mem_cons_of_mem->aK,mem_append_right->aN,getD_eq_getElem?_getD->aS,length_cons->aT,length_take->aX,mem_cons_self->aY,map_cons->a8,mem_map_of_mem->a9,mem_append->a_,mem_range->bg,mem_append_left->bh,range->bi,take_add_one->bj,take_length->bp,range_succ->br,getElem?_append_right->bz,nodup_cons->bC,append_nil->bG,length_singleton->bK,getElem?_append_left->bO,flatMap_append->bR,length_range->bX,flatMap_singleton->b6,replicate->b7,getElem?_cons_succ->b_,length_filter_le->ca,append_assoc->ck,all_cons->cx,not_mem_nil->cD,map_map->cF,eq_nil_of_length_eq_zero->cJ,length_reverse->cL,getElem_mem->cV,mem_flatMap->cW,drop_of_length_le->c6,filterMap_cons->c7,map_congr_left->c9,pairwise_iff_getElem->dm,filter_append->dw,all_eq_true->dA,mem_of_mem_take->dD,nodup_append->dJ,find?_cons->dN,mem_filter->dO,any_eq_true->dR,cons_append->dS,isEmpty_iff->dU,length_drop->dW,pairwise_cons->dZ,nodup_nil->eE,toArray->eQ,Pairwise->eR,filter_sublist->eU,getElem?_cons_zero->eV,getElem_of_mem->eW,length->eX,replicate_succ->eY,filter_cons->fj,getElem?_eq_none->fE,perm_ext_iff_of_nodup->fP,Perm->fQ,drop_eq_getElem_cons->fR,map_flatMap->fX,any_cons->gB,filter_nil->gC,map_singleton->gG,take_of_length_le->gR,eraseIdxIfInBounds_toArray->gU,flatMap_cons->gW,flatten_cons->gX,lookup->gY,lt_irrefl->hJ,take_zero->hV,pairwise_flatMap->hY,lt_trans->ig,length_pos_iff->iw,length_eraseIdx_of_lt->iI,mem_filterMap->iL,length_erase_of_mem->i3,map->jc,pairwise_singleton->jd,map_reverse->jr,getElem?_set_self->jx,range_succ_eq_map->jy,getElem?_toArray->jI,of_mem_zip->jJ,take_append_drop->jK,getElem?_of_mem->kc,getElem?_set_ne->ke,getLast?_concat->kg,mem_erase_of_ne->kh,reverse_reverse->kj,reverse_append->kK,map_nil->lN
open List.Pairwise renaming imp_of_mem->gg,nil->iZ
open List.Perm renaming refl->fu
open MonadExcept renaming tryCatch->lg
open Nat renaming le_refl->ag,le_trans->aF,lt_of_lt_of_le->aH,ne_of_lt->aV,lt_of_le_of_lt->aZ,le_of_ble_eq_true->bb,zero_le->bo,le_add_right->bE,lt_succ_self->bS,le_succ->cS,succ_le_succ->dB,ne_of_gt->dG,lt_succ_of_lt->dL,le_of_lt->d9,lt_irrefl->d_,add_sub_cancel'->fZ,max_le->gZ,lt_trans->h7,sub_self->h8,not_lt_zero->iy,zero_add->iM,le_succ_of_le->i4,exists_eq_add_of_le->je,lt_of_succ_lt_succ->jz,le_of_eq->jL,lt_or_ge->jM,min_le_left->jN,mul_le_mul->kB,mod_lt->lA,le_total->lO,succ_pos->lP,le_zero->lY,max->lZ
open Ne renaming symm->bx
open Option renaming map_eq_some_iff->aP,some->bH,map_some->fF,bind_some->ib,isSome_iff_exists->i6
open Option.some renaming inj->bt
open Prod renaming fst->kX,ext->lU,snd->mB
open PyProof renaming noPylong_small->jB
open PyProof.Rows renaming seqObj->bu,callWith_type1->cT,get?_update_seq->du,listUpdate_at->fe,callWith_builtin1->h9,seqEpoch_at->iB,tail_of_ItemOn->iR,boot_tuple->jf,boot_list->jA,subscriptTail_builtinR->jF,boot_int->jO,boot_min->jP,boot_str->jQ,listItems_at->j0,keyKind'->j7,size_push'->j9,callWith_builtin_kwB->ku,entry_proto_collect'->ky,AllBare->kH,envOfC->lQ,bubble->mr,general'->mD,tail_any->mH
open PyProof.Rows.F renaming plain_set_update_loop->gy,entry_set_update_loop->ja
open PyProof.Rows.SortSt renaming mk'->lB
open PySem renaming wpAny_bind->ah,Value->aj,wpAny_pure->ao,Shared->aq,Program->a7,wpAny->ba,mainGlobals->bq,FuncData->bw,wpAny_with_toks->bD,Builtin->bI,Around->bJ,World->bL,sizeLine_eq->bM,wpAny_holding->bQ,wpAny_mono->b9,SetTable->ci,Spec->cq,mem_of_lookup->cC,codeAny_builtin->cH,wpAny_newObj_type->cN,bootBuiltins->cX,NameKind->cY,starEach->cZ,assignEach->dy,wpAny_Call_Name_kw->dz,wpAny_call_entry->dX,compareOp->eB,wpAny_passesOwn->eK,wpAny_setState_of->eO,wpAny_truthy_bool->eP,binaryOp->fc,plainId_quiet->ff,wpAny_newList->fh,wpAny_askSetting->fq,wpAny_setField->fz,codeAny_mono->fJ,foldedSetIterable->fN,wpAny_standAt->fO,pickOrder->fU,wpAny_tryCatch->fV,call_meets->gh,sysModules->gj,behindInMarks->gL,wpAny_callSpecial?_slot->gM,wpAny_ite_split->gN,wpAny_loadPart'->gO,wpAny_updateSeq->gP,wpAny_pyIter_list->g_,codeAny->ic,rawInt->ie,wpAny_call->il,swapsWith->iC,wpAny_setEntries_of->iD,wpAny_newTuple->iS,DictEntry->iY,wpAny_pyIter_slot->i_,attributeBase->jm,keywordEach->jn,relabel->jo,wpAny_Call_method0_late->jp,wpAny_letGo->jq,backTo->jv,wpAny_pyIter_rangeiter->jG,wpAny_pyNext_range_end->jH,Within->jV,builtinLookup_eq_fast->jW,call_meetsIn->jX,letOwnedTupleGo->jZ,pyNext->j4,wpAny_execs_nil->j5,relayAll->j8,codeAny_call_builtin->kx,wpAny_pyIter_revIter->kA,isSubtype_type->kE,wpAny_runValue->kF,wpAny_seqItems->kG,BindsTo->kI,evalArgs_none->kM,collect->kO,holding->kP,GenState->kR,lastMarks->k9,seqItems?->k_,wpAny_attempt->lh,wpAny_evalAll_cons->lm,wpAny_pyIter_range->lq,Walks->lC,callerA->lE,notedBy->lG,setsByText->lH,wpAny_load->lI,wpAny_rule->lJ,wpAny_typeOf->lR,CmpOp->lT,backToKw->lV,IsRangeIter->lW,Keyword->lX,PassesOwn->l0,Fin->l9,richCompare->md,seqIndex_of->mf,updateSeq->mh,valueAt->mj,wpAny_field->ml,wpAny_of_eq->mo,assign->mq,pyIter->ms,Operator->mx,bindArgs->mC,getAttr->mE,getItem->mF,Paired->mI,Result->mJ
open PySem.Around renaming under_plainId->cE,under->lK
open PySem.Builtin.Builtins renaming bindParams->iq
open PySem.Builtin.List renaming listFitsIndex->dQ,listTooLong->ge,listExtendWith->ir,listLengthHint->iu,listSameRef->iV
open PySem.Builtin.Range renaming rangeSize->bV,small->fY
open PySem.Builtin.Slice renaming sliceApplied->iF
open PySem.Builtin.Str renaming occurrences->gx
open PySem.Builtin.Tuple renaming tupleExact->eG
open PySem.Calls renaming callWith_builtin->gQ,Name_function_global->iG,spliced_cons->iJ,spliced_nil->iW
open PySem.Code renaming quiet_builtin->iK,isFrame->lL
open PySem.F renaming plain_min_loop->cG,plainAttrs_list->cU,called_set->fB,slot_dict_itemiterator_iter->f9,plainAttrs_dict->gH,entry_min_loop->gT,slot_dict_get->h_,slot_dict_setdefault->ii,plain_extend_loop->iP,slot_list_insert->i7,plain_list_iadd->jg,slot_dict_items->jh,slot_list_index->ji,entry_dict_get->jC,plainAttrs_str->jD
open PySem.Heap renaming get?_push_of_some->ai,get?_push_size->aL,lt_size->aQ,SameBut->bT,get?_update_other->cf,get?_update_self->cM,size_push->dF
open PySem.Heap.IsSliceOf renaming new->kT
open PySem.Heap.SameBut renaming update->b5
open PySem.NameKind renaming free->eZ
open PySem.Obj renaming mapSeq->bv,data_mapFields->cv,mapFields->cK,isFreed_of_fields->ee,cls_mapFields->i5
open PySem.P renaming mul_str->jR
open PySem.Paired renaming length->kW
open PySem.SeqAt renaming EqAt->bZ,RcNeAt->iN,RcAt->i9
open PySem.SeqAt.EqAt renaming int_str->kZ,str_int->k0
open PySem.SetTable renaming below->dH,grown->fw
open PySem.Str renaming empty->bU,ofString->eA
open PySem.Txt renaming replace->g9,join->k4
open PySem.Value renaming none->b8,ref->dE,type->fM,isStrOf_shape->ga,isStrOf->jk
open PySem.W renaming Frag->ae,findIn->bA,keepIn->bP,emptyDict->bY,instObj->ce,nsIn->cg,makesIn->cB,fnOf->dr,kia_one->dP,isFn->eh,specialIn->eJ,plainGet_of->e_,plainGet->fm,codeIn->fv,KatTups->fG,takesIn->fH,hasDictIn->fK,kitOne->fT,Looks->gJ,kas_ask->gK,plainOver->g7,copiedNames->iz,kas_place->iA,lookIn->iQ,methodObj->i8,mg_of->jj,kat_cons->js,kat_kind->jt,makes_of->ju,cellsFrom_some->jE,kat_nil->jS,kat_yes->jT,takerIn->jU,kas_rev->jY,looks_findIn->kq,kat_go->kC,kat_no->kD,kas_lt_str->kY,kas_desc->k6,kas_asc->mG,WData->mK
open PySem.W.KatTups renaming cons->ko,nil->kL
open PySem.W.WData renaming int->l_
open PySem.Walks renaming list->j6
open PySem.pickOrder renaming go->j3
open Sum renaming inr->fA,inl->kN
open Sum.inr renaming inj->f_
open ToString renaming toString->fg
open True renaming intro->be
namespace L2
open PySem PySem.Spec PyProof.Rows
abbrev Key:=Sum Int Str
def N5:Key->aj->Bool
 |.inl k,v=>Value.isInt k v
 |.inr x,v=>jk x v
def bt6(w:bL):Key->Int
 |.inl k=>hashInt k
 |.inr x=>hashStr w x
theorem Bk:∀{k} {v},N5 k v=true->(∃i t,k=kN i/\v=Value.int i t)\/(∃x t,k=fA x/\v=Value.str x t)
 | .inl i,v,h=>by
  obtain⟨t,e⟩:=Value.isInt_shape h
  exact .inl ⟨i,t,rfl,e⟩
 | .inr x,v,h=>by
  obtain⟨t,e⟩:=ga h
  exact .inr ⟨x,t,rfl,e⟩
def Y3(i:Int)(t:Tok):N5 (.inl i) (.int i t)=true:=by simp[N5,Value.isInt]
def Y4(x:Str)(t:Tok):N5 (.inr x) (.str x t)=true:=by simp[N5,jk]
def be7(a b:Int):decide ((kN a:Key)=kN b)=(a==b):=by
 by_cases e:a=b
 .subst e;simp
 .have h:¬ (kN a:Key)=kN b:=λq=>e (Sum.inl.inj q)
  rw[decide_eq_false h]
  exact(beq_eq_false_iff_ne.mpr e).symm
def bf1(a b:Str):decide ((fA a:Key)=fA b)=decide (a=b):=by
 by_cases e:a=b
 .subst e;simp
 .have h:¬ (fA a:Key)=fA b:=λq=>e (f_ q)
  rw[decide_eq_false h,decide_eq_false e]
def be8(a:Int)(b:Str):decide ((kN a:Key)=fA b)=false:=decide_eq_false (λq=>nomatch q)
def bf0(a:Str)(b:Int):decide ((fA a:Key)=kN b)=false:=decide_eq_false (λq=>nomatch q)
def Ce(prog:a7)(w:bL):PySem.KeyKind prog w Key where
 is:=N5
 hash:=bt6 w
 inj:=λv a b ha hb=>by
  rcases Bk ha with⟨i,t,rfl,rfl⟩|⟨x,t,rfl,rfl⟩
  .rcases Bk hb with⟨j,u,rfl,e⟩|⟨y,u,rfl,e⟩
   .injection e with e1 _;rw[e1]
   .exact nomatch e
  .rcases Bk hb with⟨j,u,rfl,e⟩|⟨y,u,rfl,e⟩
   .exact nomatch e
   .injection e with e1 _;rw[e1]
 byValue:=λk v h=>by
  rcases Bk h with⟨i,t,rfl,rfl⟩|⟨x,t,rfl,rfl⟩ <;> rfl
 pyHash:=λhv h=>by
  rcases Bk hv with⟨i,t,rfl,rfl⟩|⟨x,t,rfl,rfl⟩
  .exact wpAny_pyHash_int h
  .exact wpAny_pyHash_str h
 eqBool:=λhu hv h=>by
  rcases Bk hu with⟨i,t,rfl,rfl⟩|⟨x,t,rfl,rfl⟩
  .rcases Bk hv with⟨j,u,rfl,rfl⟩|⟨y,u,rfl,rfl⟩
   .rw[be7] at h;exact wpAny_eqBool_int h
   .rw[be8] at h;exact kZ i t y u _ _ _ _ h
  .rcases Bk hv with⟨j,u,rfl,rfl⟩|⟨y,u,rfl,rfl⟩
   .rw[bf0] at h;exact k0 x t j u _ _ _ _ h
   .rw[bf1] at h;exact wpAny_eqBool_str h
 «strs»:=λk x t v h=>by
  rcases Bk h with⟨i,u,rfl,e⟩|⟨y,u,rfl,e⟩
  .exact nomatch e
  .injection e with e1 _
   subst e1
   cases v <;> rfl
def Re(prog:a7)(w:bL)(i:Int)(t:Tok):(Ce prog w).is (.inl i) (.int i t)=true:=Y3 i t
def Rf(prog:a7)(w:bL)(x:Str)(t:Tok):(Ce prog w).is (.inr x) (.str x t)=true:=Y4 x t
inductive V where
 |non|bl (b:Bool)|int (i:Int)|str (x:Str)|stk (x:Str) (n:Nat) (ex:Bool)|ref (a:Addr)|ty (n:String)
 deriving DecidableEq
def RelV:V->aj->Prop
 |.non,u=>u=b8
 |.bl b,u=>u=Value.bool b
 |.int i,u=>∃t,u=Value.int i t
 |.str x,u=>∃t,u=Value.str x t
 |.stk x n ex,u=>∃t,u=Value.str x t/\(if ex=true then t=n else n<=t)
 |.ref a,u=>u=dE a
 |.ty n,u=>u=fM n
def V.pl:V->Bool
 |.stk _ _ _=>false
 |_=>true
abbrev Vals:List V->List aj->Prop:=mI RelV
theorem Vals.length{xs:List V}{us:List aj}(r:Vals xs us):xs.length=us.length:=kW r
theorem Vals.get:∀{xs} {us}{i:Nat}{x:V},Vals xs us->xs[i]?=some x -> ∃u,us[i]?=some u/\RelV x u
 |_,_,_,_,.nil,e=>by simp at e
 |_,_,0,_,.cons r _,e=>by simp at e;subst e;exact⟨_,rfl,r⟩
 | _,_,i+1,x,.cons _ t,e=>by
  obtain⟨u,h1,h2⟩:=Vals.get t (e)
  exact⟨u,by simpa using h1,h2⟩
theorem Vals.append:∀{xs ys} {us ws},Vals xs us->Vals ys ws->Vals (xs++ys) (us++ws)
 |_,_,_,_,.nil,s=>s
 |_,_,_,_,.cons r t,s=>.cons r (Vals.append t s)
theorem Vals.take:∀{xs} {us} n,Vals xs us->Vals (xs.take n) (us.take n)
 |_,_,0,_=>.nil
 |_,_,_+1,.nil=>.nil
 |_,_,n+1,.cons r t=>.cons r (Vals.take n t)
theorem Vals.drop:∀{xs} {us} n,Vals xs us->Vals (xs.drop n) (us.drop n)
 |_,_,0,r=>r
 |_,_,_+1,.nil=>.nil
 |_,_,n+1,.cons _ t=>Vals.drop n t
def RelO:Option V->Option aj->Prop
 |some v,some u=>RelV v u
 |none,none=>True
 |_,_=>False
def KV{κ:Type}:List (κ×V)->List (κ×aj)->Prop:=mI λp q=>p.1=q.1/\RelV p.2 q.2
def kV:Key->V
 |.inl i=>.int i
 |.inr x=>.str x
def Cf:V->Bool
 |.non=>true
 |.bl _=>true
 |.int _=>true
 |.str _=>true
 |_=>false
def eqV:V->V->Bool
 |.non,.non=>true
 |.bl a,.bl b=>a==b
 |.bl a,.int b=>(if a then 1 else 0)==b
 |.int a,.bl b=>a==(if b then 1 else 0)
 |.int a,.int b=>a==b
 |.str a,.str b=>a==b
 |_,_=>false
def Tn{A:bJ}{s:aq}{y x:V}{u v:aj}(ry:RelV y u)(rx:RelV x v)(fy:Cf y=true)(fx:Cf x=true):bZ A s u v (eqV y x):=by
 cases y with
 |non=>
  cases ry
  cases x with
  |non=>cases rx;exact SeqAt.EqAt.same _
  |bl b=>cases rx;exact SeqAt.EqAt.none_bool b
  |int b=>obtain⟨t,rfl⟩:=rx;exact SeqAt.EqAt.none_int b t
  |str b=>obtain⟨t,rfl⟩:=rx;exact SeqAt.EqAt.none_str b t
  |_=>exact absurd (fx) aR
 |bl a=>
  cases ry
  cases x with
  |non=>cases rx;exact SeqAt.EqAt.bool_none a
  |bl b=>cases rx;exact SeqAt.EqAt.bool_bool a b
  |int b=>obtain⟨t,rfl⟩:=rx;exact SeqAt.EqAt.bool_int a b t
  |str b=>obtain⟨t,rfl⟩:=rx;exact SeqAt.EqAt.bool_str a b t
  |_=>exact absurd (fx) aR
 |int a=>
  obtain⟨t',rfl⟩:=ry
  cases x with
  |non=>cases rx;exact SeqAt.EqAt.int_none a t'
  |bl b=>cases rx;exact SeqAt.EqAt.int_bool a t' b
  |int b=>obtain⟨t,rfl⟩:=rx;exact SeqAt.EqAt.int_int a t' b t
  |str b=>obtain⟨t,rfl⟩:=rx;exact kZ a t' b t
  |_=>exact absurd (fx) aR
 |str a=>
  obtain⟨t',rfl⟩:=ry
  cases x with
  |non=>cases rx;exact SeqAt.EqAt.str_none a t'
  |bl b=>cases rx;exact SeqAt.EqAt.str_bool a t' b
  |int b=>obtain⟨t,rfl⟩:=rx;exact k0 a t' b t
  |str b=>obtain⟨t,rfl⟩:=rx;exact SeqAt.EqAt.str_str a t' b t
  |_=>exact absurd (fx) aR
 |_=>exact absurd (fy) aR
inductive TK where
 |at_ (k:Key)
 |tup (l:List TK)
mutual
def as1(w:bL):TK->Int
 |.at_ k=>bt6 w k
 |.tup l=>reduceHash (Builtin.Tuple.tupleHashOf (Sl w l))
def Sl(w:bL):List TK->List Int
 |[]=>[]
 |k::ks=>as1 w k::Sl w ks
end
mutual
def a99:TK->Nat
 |.at_ _=>0
 |.tup l=>as0 l+1
def as0:List TK->Nat
 |[]=>0
 |k::ks=>lZ (a99 k) (as0 ks)
end
section
variable {P:a7}{w:bL}
def ay8{k:Key}{v:aj}(h:(Ce P w).is k v=true):RelV (kV k) v:=by
 rcases Bk h with⟨i,t,rfl,rfl⟩|⟨x,t,rfl,rfl⟩ <;> exact⟨t,rfl⟩
end
inductive HO where
 |lst (xs:List V)
 |tup (xs:List V)
 |dK (kvs:List (Key×V))|dT (kvs:List (TK×V))
 |ins (C dx:Addr) (fs:List (Str×V))
 |own (x:Addr)
 |frz (o:Obj) (u:HO)
 |tbl (ps:Array aj)
 |ext (φ:Heap->Prop)
abbrev Hp:=Addr->Option HO
def upd(H:Hp)(a:Addr)(o:HO):Hp:=λb=>if b=a then some o else H b
def Ab{H:Hp}{a:Addr}{o:HO}:upd H a o a=some o:=by unfold upd;rw[if_pos rfl]
def Ah{H:Hp}{a b:Addr}{o:HO}(h:b≠a):upd H a o b=H b:=by unfold upd;rw[if_neg h]
def A2{H:Hp}{a b:Addr}{o:HO}(h:H a=some o)(h':H b=none):a≠b:=by
 intro e;subst e;rw[h] at h';cases h'
mutual
def TkAt(H:Hp):TK->V->Prop
 |.at_ k,v=>v=kV k
 |.tup l,v=>∃a xs,v=.ref a/\H a=some (.tup xs)/\Qs H l xs
def Qs(H:Hp):List TK->List V->Prop
 |[],vs=>vs=[]
 |k::ks,vs=>∃v r,vs=v::r/\TkAt H k v/\Qs H ks r
end
def TkAt.up{H H':Hp}(h:∀b ys,H b=some (.tup ys)->H' b=some (.tup ys))(x:TK):∀{v},TkAt H x v->TkAt H' x v:=by
 refine TK.rec (motive_1:=λx=>∀{v},TkAt H x v->TkAt H' x v) (motive_2:=λl=>∀{vs},Qs H l vs->Qs H' l vs) ?_ ?_ ?_ ?_ x
 .intro k v q;unfold TkAt at q ⊢;exact q
 .intro l ih v q
  obtain⟨a,xs,e,t,i⟩:=q
  exact⟨a,xs,e,h _ _ t,ih i⟩
 .intro vs q;unfold Qs at q ⊢;exact q
 .intro x l h1 h2 vs q
  obtain⟨v,r,e,q1,q2⟩:=q
  exact⟨v,r,e,h1 q1,h2 q2⟩
def KT(w:bL)(H:Hp)(kvs:List (TK×V))(es:Array iY):Prop:=es.size=kvs.length/\(kvs.map (·.1)).Nodup/\∀(j:Nat)(e:iY),es[j]?=some e -> ∃k v u,kvs[j]?=some (k,v)/\a99 k<=8/\TkAt H k u/\RelV u e.key/\e.hash=as1 w k/\RelV v e.val
def KT.keeps{w:bL}{H H':Hp}{kvs:List (TK×V)}{es:Array iY}(r:KT w H kvs es)(ht:∀b ys,H b=some (.tup ys)->H' b=some (.tup ys)):KT w H' kvs es:=
 ⟨r.1,r.2.1,λj e h=>let⟨k,v,u,a,b,c,d⟩:=r.2.2 j e h;⟨k,v,u,a,b,c.up ht _,d⟩⟩
section
variable (P:a7) (w:bL)
def ObjOk(H:Hp)(h:Heap)(a:Addr):HO->Prop
 |.lst xs=>xs.length<=sizeLine/\∃χ n,Vals xs χ/\h.get? a=some {cls:=.type "list", data:=.seq χ.toArray n}
 |.tup xs=>xs.length<=sizeLine/\∃χ,Vals xs χ/\IsTup h a χ.toArray
 |.dK kvs=>kvs.length<=sizeLine/\(a==gj)=false/\∃vs,KV kvs vs/\h.DictOf (Ce P w) a vs
 |.dT kvs=>kvs.length<=sizeLine/\(a==gj)=false/\∃o es ep,h.get? a=some o/\o.ExactDict/\o.data=.dict es ep/\KT w H kvs es
 | .ins C dx fs=>H dx=some (.own a)/\fs.length<=1000/\dx≠a/\h.get? a=some (ce C dx) /\
   ∃mA,h.Ns1 dx mA/\(∀f,RelO (fs.lookup f) (mA f))/\jV mA (fs.map (·.1))
 |.own _=>∃o,h.get? a=some o
 |.frz o u=>h.get? a=some o/\ObjOk H h a u
 |.tbl ps=>h.get? a=some {cls:=.none,data:=.fields ps}
 |.ext φ=>φ h/\(∃o,h.get? a=some o)/\∀h1 h2,φ h1->(∀o,h1.get? a=some o->h2.get? a=some o)->φ h2
def HOk(H:Hp)(h:Heap):Prop:=∀a o,H a=some o->ObjOk P w H h a o
end
section
variable {P:a7}{w:bL}{H H':Hp}{h h':Heap}{a:Addr}{o:HO}
theorem ObjOk.lt(x:ObjOk P w H h a o):a<h.objs.size:=by
 cases o with
 |lst xs=>obtain⟨_,_,_,_,e⟩:=x;exact aQ e
 |tup xs=>obtain⟨_,_,_,p⟩:=x;exact p.lt
 |dK kvs=>obtain⟨_,_,_,_,o,_,_,e,_⟩:=x;exact aQ e
 |dT kvs=>obtain⟨_,_,o,_,_,e,_⟩:=x;exact aQ e
 |ins C dx fs=>obtain⟨_,_,_,e,_⟩:=x;exact aQ e
 |own y=>obtain⟨_,e⟩:=x;exact aQ e
 |frz ob u=>obtain⟨e,_⟩:=x;exact aQ e
 |tbl ps=>exact aQ (x)
 |ext φ=>obtain⟨_,⟨_,e⟩,_⟩:=x;exact aQ e
def ObjOk.stay(x:ObjOk P w H h a o)(k:∀b u,(b=a\/H b=some (.own a))->h.get? b=some u->h'.get? b=some u)(ho:∀b,H b=some (.own a)->H' b=some (.own a))(ht:∀b xs,H b=some (.tup xs)->H' b=some (.tup xs)):ObjOk P w H' h' a o:=by
 induction o with
 |lst xs=>obtain⟨z,χ,n,r,e⟩:=x;exact⟨z,χ,n,r,k _ _ (.inl rfl) e⟩
 |tup xs=>obtain⟨z,χ,r,ob,e,c⟩:=x;exact⟨z,χ,r,ob,k _ _ (.inl rfl) e,c⟩
 |dK kvs=>obtain⟨z,y,vs,r,ob,es,ep,e,c⟩:=x;exact⟨z,y,vs,r,ob,es,ep,k _ _ (.inl rfl) e,c⟩
 |dT kvs=>obtain⟨z,y,ob,es,ep,e,c,d,r⟩:=x;exact⟨z,y,ob,es,ep,k _ _ (.inl rfl) e,c,d,r.keeps ht⟩
 |ins C dx fs=>
  obtain⟨d,z,ne,e,mA,⟨od,es,ep,e2,c⟩,r⟩:=x
  exact⟨ho _ d,z,ne,k _ _ (.inl rfl) e,mA,⟨od,es,ep,k _ _ (.inr d) e2,c⟩,r⟩
 |own y=>obtain⟨ob,e⟩:=x;exact⟨ob,k _ _ (.inl rfl) e⟩
 |frz ob u ih=>obtain⟨e,q⟩:=x;exact⟨k _ _ (.inl rfl) e,ih q⟩
 |tbl ps=>
  have e:=x
  exact k a _ (.inl rfl) e
 |ext φ=>obtain⟨p,⟨o,e⟩,st⟩:=x;exact⟨st _ _ p λo q=>k _ _ (.inl rfl) q,⟨o,k _ _ (.inl rfl) e⟩,st⟩
theorem HOk.lt(x:HOk P w H h)(e:H a=some o):a<h.objs.size:=(x a o e).lt
def HOk.fresh(x:HOk P w H h)(e:h.objs.size<=a):H a=none:=by
 cases q:H a with
 |none=>rfl
 |some u=>exact absurd (aH (x.lt q) e) (d_ _)
def HOk.kept(x:HOk P w H h)(k:∀b u,h.get? b=some u->h'.get? b=some u):HOk P w H h':=λa o e=>
 (x a o e).stay (λb u _ q=>k b u q) (λ_ q=>q) λ_ _ q=>q
def HOk.laid(x:HOk P w H h)(k:∀b u,h.get? b=some u->h'.get? b=some u)(hp:h.objs.size<=a)(new:ObjOk P w (upd H a o) h' a o):HOk P w (upd H a o) h':=λb u e=>by
 have hn:=x.fresh hp
 by_cases hb:b=a
 .subst hb;rw[Ab] at e;cases e;exact new
 .rw[Ah hb] at e
  exact(x b u e).stay (λc v _ q=>k c v q) (λc q=>by rw[Ah (A2 q hn)];exact q) λc xs q=>by rw[Ah (A2 q hn)];exact q
end
def Rd(H:Hp)(a:Addr)(u:HO):Prop:=H a=some u \/ ∃o,H a=some (.frz o u)
def Rd.ok{P:a7}{w:bL}{H:Hp}{h:Heap}{a:Addr}{u:HO}(r:Rd H a u)(x:HOk P w H h):ObjOk P w H h a u:=by
 rcases r with r|⟨o,r⟩
 .exact x a u r
 .obtain⟨_,q⟩:=x a _ r
  exact q
def Mut:Option HO->Prop
 |some (.lst _)=>True
 |some (.dK _)=>True
 |some (.dT _)=>True
 |some (.ins _ _ _)=>True
 |some (.ext _)=>True
 |_=>False
section
variable {P:a7}{w:bL}{H:Hp}{h h':Heap}{x e:Addr}{o':HO}
def HOk.write(ok:HOk P w H h)(mu:Mut (H x))(he:e=x\/H e=some (.own x))(k:∀b u,b≠e->h.get? b=some u->h'.get? b=some u)(heo:∃u,h'.get? e=some u)(new:ObjOk P w (upd H x o') h' x o'):HOk P w (upd H x o') h':=λb u q=>by
 have nown:∀c y,H c=some (.own y)->c≠x:=λc y r z=>by subst z;rw[r] at mu;exact mu
 have ntup:∀c xs,H c=some (.tup xs)->c≠x:=λc xs r z=>by subst z;rw[r] at mu;exact mu
 by_cases hb:b=x
 .subst hb;rw[Ab] at q;cases q;exact new
 .rw[Ah hb] at q
  by_cases hbe:b=e
  .have q':H b=some (.own x):=by
    rcases he with z|z
    .exact absurd (hbe.trans z) hb
    .rw[hbe];exact z
   rw[q] at q';cases q'
   obtain⟨v,hv⟩:=heo
   exact⟨v,by rw[hbe];exact hv⟩
  .refine (ok b u q).stay (λc v hc r=>k c v ?_ r) (λc r=>by rw[Ah (nown c b r)];exact r) λc xs r=>by rw[Ah (ntup c xs r)];exact r
   rcases hc with rfl|hc
   .exact hbe
   .rintro rfl
    rcases he with z|z
    .exact nown c b hc z
    .rw[hc] at z;cases z;exact hb rfl
end
structure Un (fs ex:List Addr) (H H':Hp) (h h':Heap):Prop where
 keep:∀b o,h.get? b=some o->H b=none->b∉fs->b∉ex->h'.get? b=some o
 slot:∀b o,h.get? b=some o->H b=none->b∈fs->b∉ex -> ∃sl,h'.get? b=some {o with slots:=sl}
 free:∀b o,h.get? b=some o->H b=none->b∉ex->H' b=none
 there:∀b o,h.get? b=some o->b∉ex -> ∃o',h'.get? b=some o'
 tups:∀b xs,H b=some (.tup xs)->H' b=some (.tup xs)
 frzs:∀b o u,H b=some (.frz o u)->H' b=some (.frz o u)
 tbls:∀b ps,H b=some (.tbl ps) -> ∃more,H' b=some (.tbl (ps++more))
section
variable {fs fs' ex ex':List Addr}{H H1 H2:Hp}{h h1 h2 h':Heap}{a x e:Addr}{o:HO}
def Un.any(u:Un fs ex H H1 h h1){b:Addr}{ob:Obj}(q:h.get? b=some ob)(n:H b=none)(hx:b∉ex):∃sl,h1.get? b=some {ob with slots:=sl}:=by
 by_cases hb:b∈fs
 .exact u.slot b ob q n hb hx
 .exact⟨ob.slots,u.keep b ob q n hb hx⟩
def Un.kept(k:∀b u,h.get? b=some u->h'.get? b=some u):Un fs ex H H h h':=
 ⟨λb ob q _ _ _=>k b ob q,λb ob q _ _ _=>⟨ob.slots,k b ob q⟩,λ_ _ _ n _=>n,λb ob q _=>⟨ob,k b ob q⟩,λ_ _ q=>q,λ_ _ _ q=>q,λ_ ps q=>⟨#[],by rw[q];simp⟩⟩
def Un.refl:Un fs ex H H h h:=Un.kept λ_ _ q=>q
def Un.laid(k:∀b u,h.get? b=some u->h'.get? b=some u)(hp:h.objs.size<=a)(hn:H a=none):Un fs ex H (upd H a o) h h' where
 keep:=λb u q _ _ _=>k b u q
 slot:=λb u q _ _ _=>⟨u.slots,k b u q⟩
 free:=λb u q n _=>by rw[Ah (aV (aH (aQ q) hp))];exact n
 there:=λb u q _=>⟨u,k b u q⟩
 tups:=λb xs q=>by rw[Ah (A2 q hn)];exact q
 frzs:=λb u xs q=>by rw[Ah (A2 q hn)];exact q
 tbls:=λb ps q=>⟨#[],by rw[Ah (A2 q hn),q];simp⟩
def Un.write(mu:Mut (H x))(he:e=x\/H e=some (.own x))(k:∀b u,b≠e->h.get? b=some u->h'.get? b=some u)(heo:∃u,h'.get? e=some u):Un fs ex H (upd H x o) h h':=by
 have hx:∀b,H b=none->b≠x:=λb n z=>by subst z;rw[n] at mu;exact mu
 have hb:∀b,H b=none->b≠e:=λb n z=>by
  subst z
  rcases he with r|r
  .exact hx b n r
  .rw[n] at r;cases r
 have hm:∀b u,H b=some u -> ¬ Mut (some u)->b≠x:=λb u q nm z=>by subst z;rw[q] at mu;exact nm mu
 refine⟨λb u q n _ _=>k b u (hb b n) q,λb u q n _ _=>⟨u.slots,k b u (hb b n) q⟩,λb u q n _=>by rw[Ah (hx b n)];exact n,λb u q _=>?_,
  λb xs q=>by rw[Ah (hm b _ q λz=>z)];exact q,λb u xs q=>by rw[Ah (hm b _ q λz=>z)];exact q,λb ps q=>⟨#[],by rw[Ah (hm b _ q λz=>z),q];simp⟩⟩
 by_cases hbe:b=e
 .subst hbe;exact heo
 .exact⟨u,k b u hbe q⟩
end
def trk(h:Heap)(H:Hp):List Addr:=(bi h.objs.size).filter λa=>(H a).isSome
def O5(h:Heap)(H:Hp):Heap:=PySem.W.hideAll h (trk h H)
def Yy(h:Heap)(H:Hp):(O5 h H).objs.size=h.objs.size:=PySem.W.hideAll_size _ _
def af1{h:Heap}{H:Hp}{b:Addr}{o:Obj}(e:h.get? b=some o)(n:H b=none):(O5 h H).get? b=some o:=
 PySem.W.hideAll_get _ e λhm=>by
  have q:=(List.mem_filter.mp hm).2
  rw[n] at q;simp at q
def a03{h:Heap}{H:Hp}{b:Addr}{o:Obj}(e:(O5 h H).get? b=some o):h.get? b=some o/\H b=none:=by
 have e':=PySem.W.of_hideAll (trk h H) e
 refine⟨e',?_⟩
 cases q:H b with
 |none=>rfl
 |some x=>
  have hm:b∈trk h H:=List.mem_filter.mpr ⟨List.mem_range.mpr (aQ e'),by simp[q]⟩
  have z:(O5 h H).get? b=none:=PySem.W.hideAll_none (trk h H) hm
  rw[z] at e;cases e
structure Mod (K:ae) (mg:Str->Option aj) (base:Heap):Prop where
 kin:K.In base
 glob:base.Ns bq mg
 blt:∃mb,base.Ns builtinsNs mb/\∀x:Str,x ≠ "__name__" -> mb x=cX x
 nolimit:base.NoLimit
structure Cx where
 prog:a7
 w:bL
 K:ae
 mg:Str->Option aj
 base:Heap
 A:bJ
 N:List Str
 s₀:aq
 H₀:Hp
 env:Env
 outer:List Env
 stack:List Env
 ex:List Addr
 fn:Str->Bool
 calm:Bool
 pn:List (Addr×Obj)
 xe:aj->aq->Prop
def frs(l:List Env):List Addr:=l.filterMap (·.frame)
abbrev Cx.fs(X:Cx):List Addr:=frs X.outer
def Vis(sc:Scope)(x:Str):Prop:=sc.names.lookup x=some .local\/sc.names.lookup x=some .cell\/sc.names.lookup x=some .free
def Loc(sc:Scope)(x:Str):Prop:=sc.names.lookup x=some .local\/sc.names.lookup x=some .cell
def b29(env:Env)(h:Heap)(m:Str->Option aj)(x:Str)(u:aj):Prop:=
 (env.kindOf x=some .local/\m x=some u)\/((env.kindOf x=some .cell\/env.kindOf x=some .free)/\∃c,env.cells.lookup x=some c/\h.IsCell c (some u))
def Nk(K:ae)(n:Nat):Prop:=∀x y t,cg K bq x=some (some (.str y t))->t<n
structure Cx.Ok (X:Cx):Prop where
 mod:Mod X.K X.mg X.base
 kind:X.env.scope.kind=.function
 glob:X.env.globals=bq
 blt:X.env.builtins=builtinsNs
 above:X.s₀.heap.objs.size<=X.env.locals
 inj:∀x y c,X.env.cells.lookup x=some c->X.env.cells.lookup y=some c->x=y
 has:∀x,(X.env.kindOf x=some .cell\/X.env.kindOf x=some .free) -> ∃c,X.env.cells.lookup x=some c
 cab:∀x c,X.fn x=true->X.env.cells.lookup x=some c->X.s₀.heap.objs.size<=c
 hd:X.calm=true->X.A.handled=none
 frames:X.A.frames=some X.stack
 stk:X.stack=X.outer\/(X.stack=X.env::X.outer/\X.env.frame=some X.env.locals)
 exf:∀b∈X.ex,b≠X.env.locals/\∀x c,X.env.cells.lookup x=some c->c≠b
 bs:∀b o,X.base.get? b=some o->X.s₀.heap.get? b=some o/\X.H₀ b=none
 bsz:X.base.objs.size<=X.s₀.heap.objs.size
 noex:∀b o,X.base.get? b=some o->b∉X.ex
 exfs:∀b∈X.ex,b∉X.fs
 funs:X.s₀.heap.FunFrames X.base X.outer
 frf:∀b∈X.fs,X.H₀ b=none
 tk:Nk X.K X.s₀.toks
structure Inv (X:Cx) (ξ:List (Addr×Obj)) (σ:List (Option V)) (H:Hp) (s:aq):Prop where
 ok:X.Ok
 os:s.os=X.s₀.os/\X.s₀.toks<=s.toks
 bare:kH s.gens
 base:Un X.fs X.ex X.H₀ H X.s₀.heap s.heap
 loc:∃m,s.heap.Ns X.env.locals m/\∀(i:Nat)(x:Str)(v:V),X.N[i]?=some x->σ[i]?=some (some v)->Vis X.env.scope x -> ∃u,RelV v u/\b29 X.env s.heap m x u
 cell:∀x c,X.env.cells.lookup x=some c -> ∃v,s.heap.IsCell c v
 free:H X.env.locals=none
 freeC:∀x c,X.env.cells.lookup x=some c->H c=none
 pin:∀p∈X.pn++ξ,s.heap.get? p.1=some p.2/\H p.1=none/\p.1≠X.env.locals/\p.1∉X.fs/\∀v,p.2.data≠.cell v
 hok:HOk X.prog X.w H s.heap
 len:σ.length=X.N.length
section
variable {X:Cx}{ξ:List (Addr×Obj)}{σ:List (Option V)}{H H':Hp}{s:aq}{h':Heap}
def Cx.Ok.nofr(ok:X.Ok){b:Addr}{o:Obj}(e:X.base.get? b=some o):b∉X.fs:=λhb=>by
 have:=(ok.funs.mem hb).1
 rw[e] at this;cases this
theorem Inv.bs(I:Inv X ξ σ H s):∀b o,X.base.get? b=some o->s.heap.get? b=some o/\H b=none:=λb o e=>
 ⟨I.base.keep b o (I.ok.bs b o e).1 (I.ok.bs b o e).2 (I.ok.nofr e) (I.ok.noex b o e),I.base.free b o (I.ok.bs b o e).1 (I.ok.bs b o e).2 (I.ok.noex b o e)⟩
def Inv.bk(I:Inv X ξ σ H s):∀b o,X.base.get? b=some o->s.heap.get? b=some o:=λb o e=>(I.bs b o e).1
theorem Inv.mod(I:Inv X ξ σ H s):Mod X.K X.mg X.base:=I.ok.mod
def Inv.kIn(I:Inv X ξ σ H s):X.K.In s.heap:=I.ok.mod.kin.keeps I.bk
theorem Inv.lt(I:Inv X ξ σ H s):X.env.locals<s.heap.objs.size:=let⟨_,hn,_⟩:=I.loc;hn.lt
def Inv.sz(I:Inv X ξ σ H s):X.s₀.heap.objs.size<=s.heap.objs.size:=aF I.ok.above (d9 I.lt)
def Inv.nofs(I:Inv X ξ σ H s){a:Addr}(h:s.heap.objs.size<=a):a∉X.fs:=λhb=>by
 obtain⟨_,o,ho,_⟩:=I.ok.funs.mem hb
 exact absurd (aH (aQ ho) (aF I.sz h)) (d_ _)
def Inv.cne(I:Inv X ξ σ H s):∀x c,X.env.cells.lookup x=some c->c≠X.env.locals:=λx c e z=>by
 obtain⟨v,o,ho,hd⟩:=I.cell x c e
 obtain⟨m,⟨o',es,ep,ho',hd',_⟩,_⟩:=I.loc
 rw[z,ho'] at ho;cases ho;rw[hd'] at hd;cases hd
theorem Inv.funs(I:Inv X ξ σ H s):s.heap.FunFrames X.base X.outer:=by
 have all:∀l,(∀b∈frs l,b∈X.fs)->X.s₀.heap.FunFrames X.base l->s.heap.FunFrames X.base l:=by
  intro l
  induction l with
  |nil=>intro _ _;trivial
  |cons env r ih=>
   intro hs hl
   obtain⟨hk,⟨L,o,hf,hn,ho,hd⟩,hr⟩:=hl
   have hL:=hs L (by unfold frs;rw[c7,hf];exact aY)
   obtain⟨sl,e⟩:=I.base.slot L o ho (I.ok.frf L hL) hL λz=>I.ok.exfs L z hL
   exact⟨hk,⟨L,_,hf,hn,e,hd⟩,ih (λb hb=>hs b (by unfold frs;rw[c7,hf];exact aK _ hb)) hr⟩
 exact all X.outer (λ_ hb=>hb) I.ok.funs
theorem Inv.stack(I:Inv X ξ σ H s):s.heap.FunFrames X.base X.stack:=by
 rcases I.ok.stk with e|⟨e,hf⟩
 .rw[e];exact I.funs
 .rw[e]
  obtain⟨m,hn,_⟩:=I.loc
  exact .cons (by rw[I.ok.kind];decide) hf hn (Heap.get?_none_of_le (aF I.ok.bsz I.ok.above)) I.funs
def Inv.stkSub(I:Inv X ξ σ H s):∀b∈frs X.stack,b∈X.env.locals::X.fs:=λb hb=>by
 rcases I.ok.stk with e|⟨e,hf⟩
 .rw[e] at hb;exact aK _ hb
 .rw[e] at hb
  unfold frs at hb
  rw[c7,hf] at hb
  exact hb
def Inv.stkFree(I:Inv X ξ σ H s):∀b∈frs X.stack,H b=none:=λb hb=>by
 rcases List.mem_cons.mp (I.stkSub b hb) with e|hb
 .rw[e];exact I.free
 .obtain⟨_,o,ho,_⟩:=I.ok.funs.mem hb
  exact I.base.free b o ho (I.ok.frf b hb) λz=>I.ok.exfs b z hb
def Inv.step{g':Array kR}{t':Nat}{d':Drawn}{ch:List Addr}(I:Inv X ξ σ H s)(hch:∀b∈ch,(b∈X.ex\/X.s₀.heap.objs.size<=b)/\b≠X.env.locals/\(∀x c,X.env.cells.lookup x=some c->c≠b)/\∀p∈X.pn++ξ,p.1≠b)(keep:∀b o,b≠X.env.locals->b∉X.fs->b∉ch->s.heap.get? b=some o->H b=none->h'.get? b=some o)(slot:∀b o,b≠X.env.locals->b∈X.fs->b∉ch->s.heap.get? b=some o->H b=none -> ∃sl,h'.get? b=some {o with slots:=sl})(free:∀b o,b∉ch->s.heap.get? b=some o->H b=none->H' b=none)(there:∀b o,b∉ch->s.heap.get? b=some o -> ∃o',h'.get? b=some o')(tups:∀b xs,H b=some (.tup xs)->H' b=some (.tup xs))(frzs:∀b o u,H b=some (.frz o u)->H' b=some (.frz o u))(tbls:∀b ps,H b=some (.tbl ps) -> ∃more,H' b=some (.tbl (ps++more)))(ns:∀m,s.heap.Ns X.env.locals m->h'.Ns X.env.locals m)(hok:HOk X.prog X.w H' h')(hg:kH g')(ht:s.toks<=t':=by trivial) :
  Inv X ξ σ H' {s with heap:=h',gens:=g',drawn:=d',toks:=t'}:=by
 have neL:∀b o,X.s₀.heap.get? b=some o->b≠X.env.locals:=λb o e=>aV (aH (aQ e) I.ok.above)
 have neC:∀b o,X.s₀.heap.get? b=some o->b∉X.ex->b∉ch:=λb o e hx hb=>by
  rcases(hch b hb).1 with z|z
  .exact hx z
  .exact absurd (aH (aQ e) z) (d_ _)
 have cellK:∀x c,X.env.cells.lookup x=some c -> ∀v,s.heap.IsCell c v->h'.IsCell c v:=λx c e v ⟨o,ho,hd⟩=>by
  have nch:c∉ch:=λz=>(hch c z).2.2.1 x c e rfl
  by_cases hc:c∈X.fs
  .obtain⟨sl,q⟩:=slot c o (I.cne x c e) hc nch ho (I.freeC x c e)
   exact⟨_,q,hd⟩
  .exact⟨o,keep c o (I.cne x c e) hc nch ho (I.freeC x c e),hd⟩
 refine⟨I.ok,⟨I.os.1,aF I.os.2 ht⟩,hg,⟨λb o e n hb hx=>?_,λb o e n hb hx=>?_,λb o e n hx=>?_,λb o e hx=>?_,λb xs e=>tups b xs (I.base.tups b xs e),λb o xs e=>frzs b o xs (I.base.frzs b o xs e),λb ps e=>?_⟩,?_,λx c e=>?_,?_,λx c e=>?_,λp hp=>?_,hok,I.len⟩
 .exact keep b o (neL b o e) hb (neC b o e hx) (I.base.keep b o e n hb hx) (I.base.free b o e n hx)
 .obtain⟨sl,e1⟩:=I.base.slot b o e n hb hx
  obtain⟨sl',e2⟩:=slot b _ (neL b o e) hb (neC b o e hx) e1 (I.base.free b o e n hx)
  exact⟨sl',e2⟩
 .obtain⟨o',e1⟩:=I.base.there b o e hx
  exact free b o' (neC b o e hx) e1 (I.base.free b o e n hx)
 .obtain⟨o',e1⟩:=I.base.there b o e hx
  exact there b o' (neC b o e hx) e1
 .obtain⟨m1,e1⟩:=I.base.tbls b ps e
  obtain⟨m2,e2⟩:=tbls b _ e1
  exact⟨m1++m2,by rw[e2,Array.append_assoc]⟩
 .obtain⟨m,hn,hl⟩:=I.loc
  refine⟨m,ns m hn,λi x v e1 e2 e3=>?_⟩
  obtain⟨u,r,l⟩:=hl i x v e1 e2 e3
  refine⟨u,r,?_⟩
  rcases l with l|⟨k,c,e,z⟩
  .exact .inl l
  .exact .inr ⟨k,c,e,cellK x c e _ z⟩
 .obtain⟨v,z⟩:=I.cell x c e
  exact⟨v,cellK x c e v z⟩
 .obtain⟨m,⟨o,_,_,ho,_⟩,_⟩:=I.loc
  exact free _ o (λz=>(hch _ z).2.1 rfl) ho I.free
 .obtain⟨v,o,ho,hd⟩:=I.cell x c e
  exact free c o (λz=>(hch c z).2.2.1 x c e rfl) ho (I.freeC x c e)
 .obtain⟨e,n,ne,nf,d⟩:=I.pin p hp
  have nch:p.1∉ch:=λz=>(hch p.1 z).2.2.2 p hp rfl
  exact⟨keep p.1 p.2 ne nf nch e n,free p.1 p.2 nch e n,ne,nf,d⟩
def Inv.un{t':Nat}(I:Inv X ξ σ H s)(u:Un X.fs [] H H' s.heap h')(hok:HOk X.prog X.w H' h')(ht:s.toks<=t':=by trivial):Inv X ξ σ H' {s with heap:=h',toks:=t'}:=by
 obtain⟨m,⟨o,es,ep,ho,r⟩,_⟩:=I.loc
 obtain⟨sl,hL⟩:=u.any ho I.free (by simp)
 exact I.step (ch:=[]) (λ_ z=>nomatch z) (λb o _ hb _ e n=>u.keep b o e n hb (by simp)) (λb o _ hb _ e n=>u.slot b o e n hb (by simp)) (λb o _ e n=>u.free b o e n (by simp)) (λb o _ e=>u.there b o e (by simp)) u.tups u.frzs u.tbls (λm' hm=>by
  obtain⟨o',es',ep',ho',r'⟩:=hm
  rw[ho] at ho';cases ho'
  exact⟨_,es',ep',hL,r'⟩) hok I.bare
def Inv.call{g':Array kR}{t':Nat}{d':Drawn}{ch:List Addr}(I:Inv X ξ σ H s)(u:Un (frs X.stack) ch H H' s.heap h')(hok:HOk X.prog X.w H' h')(hg:kH g')(hch:∀b∈ch,(b∈X.ex\/X.s₀.heap.objs.size<=b)/\b≠X.env.locals/\(∀x c,X.env.cells.lookup x=some c->c≠b)/\∀p∈X.pn++ξ,p.1≠b)(ht:s.toks<=t':=by trivial) :
  Inv X ξ σ H' {s with heap:=h',gens:=g',drawn:=d',toks:=t'}:=by
 obtain⟨m,⟨o,es,ep,ho,r⟩,_⟩:=I.loc
 obtain⟨sl,hL⟩:=u.any ho I.free λz=>(hch _ z).2.1 rfl
 exact I.step hch (λb o hL hb hc e n=>u.keep b o e n (λz=>(List.mem_cons.mp (I.stkSub b z)).elim hL hb) hc) (λb o _ _ hc e n=>u.any e n hc) (λb o hc e n=>u.free b o e n hc) (λb o hc e=>u.there b o e hc) u.tups u.frzs u.tbls (λm' hm=>by
  obtain⟨o',es',ep',ho',r'⟩:=hm
  rw[ho] at ho';cases ho'
  exact⟨_,es',ep',hL,r'⟩) hok hg
def Inv.turned{t':Nat}{it:Addr}(I:Inv X ξ σ H s)(k:∀b o,b≠it->s.heap.get? b=some o->h'.get? b=some o)(hn:H it=none)(hL:it≠X.env.locals)(h1:it∈X.ex\/X.s₀.heap.objs.size<=it)(h2:∀x c,X.env.cells.lookup x=some c->c≠it)(h3:∀p∈X.pn++ξ,p.1≠it)(ht:s.toks<=t':=by trivial):Inv X ξ σ H {s with heap:=h',toks:=t'}:=by
 have nit:∀b u,H b=some u->b≠it:=λb u e z=>by rw[z,hn] at e;cases e
 refine I.step (ch:=[it]) (λb hb=>?_) (λb o _ _ hc e _=>k b o (λz=>hc (by simp[z])) e) (λb o _ _ hc e _=>⟨o.slots,k b o (λz=>hc (by simp[z])) e⟩) (λ_ _ _ _ n=>n)
  (λb o hc e=>⟨o,k b o (λz=>hc (by simp[z])) e⟩) (λ_ _ e=>e) (λ_ _ _ e=>e) (λb ps e=>⟨#[],by rw[e];simp⟩) (λm hm=>?_) (λb u e=>?_) I.bare
 .have e:b=it:=by simpa using hb
  subst e
  exact⟨h1,hL,h2,h3⟩
 .obtain⟨o,es,ep,ho,r⟩:=hm
  exact⟨o,es,ep,k _ o (bx hL) ho,r⟩
 .refine (I.hok b u e).stay (λc v hc q=>k c v ?_ q) (λ_ q=>q) λ_ _ q=>q
  rcases hc with z|z
  .rw[z];exact nit b u e
  .exact nit c _ z
def Inv.tok(I:Inv X ξ σ H s)(t:Nat)(ht:s.toks<=t:=by trivial):Inv X ξ σ H {s with toks:=t}:=I.un Un.refl I.hok ht
theorem Inv.kept{t':Nat}(I:Inv X ξ σ H s)(k:∀b u,s.heap.get? b=some u->h'.get? b=some u)(ht:s.toks<=t':=by trivial):Inv X ξ σ H {s with heap:=h',toks:=t'}:=I.un (Un.kept k) (I.hok.kept k) ht
theorem Inv.laid{a:Addr}{o:HO}{t':Nat}(I:Inv X ξ σ H s)(k:∀b u,s.heap.get? b=some u->h'.get? b=some u)(hp:s.heap.objs.size<=a)(new:ObjOk X.prog X.w (upd H a o) h' a o)(ht:s.toks<=t':=by trivial) :
  Inv X ξ σ (upd H a o) {s with heap:=h',toks:=t'}:=I.un (Un.laid k hp (I.hok.fresh hp)) (I.hok.laid k hp new) ht
theorem Inv.write{x e:Addr}{o:HO}{t':Nat}(I:Inv X ξ σ H s)(mu:Mut (H x))(he:e=x\/H e=some (.own x))(k:∀b u,b≠e->s.heap.get? b=some u->h'.get? b=some u)(heo:∃u,h'.get? e=some u)(new:ObjOk X.prog X.w (upd H x o) h' x o)(ht:s.toks<=t':=by trivial):Inv X ξ σ (upd H x o) {s with heap:=h',toks:=t'}:=I.un (Un.write mu he k heo) (I.hok.write mu he k heo new) ht
def Inv.pins_of{pins':List (Addr×Obj)}(I:Inv X ξ σ H s)(h:∀p∈pins',s.heap.get? p.1=some p.2/\H p.1=none/\p.1≠X.env.locals/\p.1∉X.fs/\∀v,p.2.data≠.cell v):Inv X pins' σ H s:=
 ⟨I.ok,I.os,I.bare,I.base,I.loc,I.cell,I.free,I.freeC,λp hp=>(List.mem_append.mp hp).elim (λz=>I.pin p (bh _ z)) (h p),I.hok,I.len⟩
def Rh{N:List Str}(hN:N.Nodup){i j:Nat}{x:Str}(a:N[i]?=some x)(b:N[j]?=some x):i=j:=by
 obtain⟨h1,e1⟩:=List.getElem?_eq_some_iff.mp a
 obtain⟨h2,e2⟩:=List.getElem?_eq_some_iff.mp b
 exact(List.getElem_inj hN).mp (e1.trans e2.symm)
def Zr{M:Model}{A:bJ}{E:aj->aq->Prop}{i:Nat}{x:Str}{v:V}{u:aj}{Q:Unit->aq->Prop}(I:Inv X ξ σ H s)(hN:X.N.Nodup)(hi:X.N[i]?=some x)(hx:Loc X.env.scope x)(r:RelV v u)(h:∀s',Inv X ξ (σ.set i (some v)) H s'->(∃a,bT a s.heap s'.heap/\(a=X.env.locals\/X.env.cells.lookup x=some a))->Q () s')(hf:X.fn x=true\/X.env.scope.names.lookup x=some .local:=by trivial):ba M A (storeName X.env x u) Q E s:=by
 obtain⟨m,hn,hl⟩:=I.loc
 have hcls:(X.env.scope.kind==.class||(X.env.scope.kind==.module&&X.env.locals != X.env.globals))=false:=by rw[I.ok.kind];rfl
 have hiσ:i<σ.length:=by rw[I.len];exact(List.getElem?_eq_some_iff.mp hi).1
 have cne:=I.cne
 have tracked:∀{a} {h'},(∃o,s.heap.get? a=some o/\H a=none)->bT a s.heap h'->HOk X.prog X.w H h':=λ{a h'} ha hs b ob e=>by
  obtain⟨_,_,hfree⟩:=ha
  refine(I.hok b ob e).stay (λc w' hc q=>(hs.2 c ?_).trans q) (λ_ q=>q) λ_ _ q=>q
  rintro rfl
  rcases hc with rfl|hc
  .rw[hfree] at e;cases e
  .rw[hfree] at hc;cases hc
 rcases hx with hk|hk
 .refine wpAny_storeName_local hk hn (λh' hn' hs=>?_) hcls
  obtain⟨oL,_,_,hoL,_⟩:=hn
  refine h _ ⟨I.ok,⟨I.os.1,aF I.os.2 (by first|exact ag _|exact bE _ _)⟩,I.bare,⟨λb o e n hb hx=>?_,λb o e n hb hx=>?_,I.base.free,λb o e hx=>?_,I.base.tups,I.base.frzs,I.base.tbls⟩,⟨_,hn',λj y v' e1 e2 e3=>?_⟩,λy c e=>?_,I.free,I.freeC,λp hp=>?_,tracked ⟨oL,hoL,I.free⟩ hs,by simpa using I.len⟩ ⟨_,hs,.inl rfl⟩
  .exact (hs.2 b (aV (aH (aQ e) I.ok.above))).trans (I.base.keep b o e n hb hx)
  .obtain⟨sl,e1⟩:=I.base.slot b o e n hb hx
   exact⟨sl,(hs.2 b (aV (aH (aQ e) I.ok.above))).trans e1⟩
  .obtain⟨o',e1⟩:=I.base.there b o e hx
   exact⟨o',(hs.2 b (aV (aH (aQ e) I.ok.above))).trans e1⟩
  .by_cases hj:j=i
   .subst hj
    rw[hi] at e1;cases e1
    rw[jx hiσ] at e2
    cases e2
    exact⟨u,r,.inl ⟨hk,by simp⟩⟩
   .rw[ke (bx hj)] at e2
    obtain⟨u',r',q⟩:=hl j y v' e1 e2 e3
    refine⟨u',r',?_⟩
    rcases q with⟨k,e⟩|⟨k,c,e,z⟩
    .refine .inl ⟨k,?_⟩
     have:y≠x:=λe=>hj (Rh hN e1 (e▸hi))
     simp[this,e]
    .exact .inr ⟨k,c,e,z.sameBut hs (cne y c e)⟩
  .obtain⟨w',z⟩:=I.cell y c e
   exact⟨w',z.sameBut hs (cne y c e)⟩
  .obtain⟨e,n,ne,nf,d⟩:=I.pin p hp
   exact⟨(hs.2 p.1 ne).trans e,n,ne,nf,d⟩
 .have hfn:X.fn x=true:=by
   rcases hf with z|z
   .exact z
   .rw[z] at hk;cases hk
  obtain⟨c,hc⟩:=I.ok.has x (.inl hk)
  obtain⟨w',z⟩:=I.cell x c hc
  refine wpAny_storeName_cell I.ok.kind hk hc z (λh' hc' hs=>?_)
  obtain⟨oc,hoc,hocd⟩:=z
  refine h {s with heap:=h'} ⟨I.ok,I.os,I.bare,⟨λb o e n hb hx=>?_,λb o e n hb hx=>?_,I.base.free,λb o e hx=>?_,I.base.tups,I.base.frzs,I.base.tbls⟩,⟨m,hn.sameBut hs (bx (cne x c hc)),λj y v' e1 e2 e3=>?_⟩,λy c' e=>?_,I.free,I.freeC,λp hp=>?_,tracked ⟨oc,hoc,I.freeC x c hc⟩ hs,by simpa using I.len⟩ ⟨c,hs,.inr hc⟩
  .exact (hs.2 b (aV (aH (aQ e) (I.ok.cab x c hfn hc)))).trans (I.base.keep b o e n hb hx)
  .obtain⟨sl,e1⟩:=I.base.slot b o e n hb hx
   exact⟨sl,(hs.2 b (aV (aH (aQ e) (I.ok.cab x c hfn hc)))).trans e1⟩
  .obtain⟨o',e1⟩:=I.base.there b o e hx
   exact⟨o',(hs.2 b (aV (aH (aQ e) (I.ok.cab x c hfn hc)))).trans e1⟩
  .by_cases hj:j=i
   .subst hj
    rw[hi] at e1;cases e1
    rw[jx hiσ] at e2
    cases e2
    exact⟨u,r,.inr ⟨.inl hk,c,hc,hc'⟩⟩
   .rw[ke (bx hj)] at e2
    obtain⟨u',r',q⟩:=hl j y v' e1 e2 e3
    refine⟨u',r',?_⟩
    rcases q with q|⟨k,c',e,z'⟩
    .exact .inl q
    .refine .inr ⟨k,c',e,z'.sameBut hs ?_⟩
     rintro rfl
     exact hj (Rh hN e1 (I.ok.inj _ _ _ e hc▸hi))
  .by_cases hcc:c'=c
   .subst hcc;exact⟨_,hc'⟩
   .obtain⟨w2,z2⟩:=I.cell y c' e
    exact⟨w2,z2.sameBut hs hcc⟩
  .obtain⟨e,n,ne,nf,d⟩:=I.pin p hp
   refine⟨(hs.2 p.1 ?_).trans e,n,ne,nf,d⟩
   intro q
   rw[q,hoc] at e
   have q':=bt e
   exact d w' (by rw[<- q'];exact hocd)
def L3{M:Model}{A:bJ}{E:aj->aq->Prop}{i:Nat}{x:Str}{v:V}{u:aj}{Q:Unit->aq->Prop}(I:Inv X ξ σ H s)(hN:X.N.Nodup)(hi:X.N[i]?=some x)(hx:Loc X.env.scope x)(r:RelV v u)(h:∀s',Inv X ξ (σ.set i (some v)) H s'->Q () s')(hf:X.fn x=true\/X.env.scope.names.lookup x=some .local:=by trivial):ba M A (storeName X.env x u) Q E s:=
 Zr I hN hi hx r (λs' I' _=>h s' I') hf
def Inv.call'{s':aq}{ch:List Addr}(I:Inv X ξ σ H s)(ho:s'.os=s.os/\s.toks<=s'.toks)(u:Un (frs X.stack) ch H H' s.heap s'.heap)(hok:HOk X.prog X.w H' s'.heap)(hg:kH s'.gens)(hch:∀b∈ch,(b∈X.ex\/X.s₀.heap.objs.size<=b)/\b≠X.env.locals/\(∀x c,X.env.cells.lookup x=some c->c≠b)/\∀p∈X.pn++ξ,p.1≠b):Inv X ξ σ H' s':=by
 obtain⟨h',g',d',t',o'⟩:=s'
 have e:=ho.1
 subst e
 exact I.call u hok hg hch ho.2
end
abbrev XK:=aj->Option Addr->Hp->Prop
abbrev St:=List (Option V)
abbrev VK:=V->Hp->Prop
abbrev TE:=St->Hp->VK->Prop
abbrev TT:=St->Hp->(Bool->Hp->Prop)->Prop
abbrev TA:=St->Hp->(List V->Hp->Prop)->Prop
structure Sx where
 nx:St->Hp->Prop
 rt:VK
 bk:St->Hp->Prop:=λ_ _=>False
 ct:St->Hp->Prop:=λ_ _=>False
abbrev TS:=Sx->St->Hp->Prop
def EP(X:Cx)(ξ:List (Addr×Obj))(σ:St)(Q:VK)(u:aj)(s':aq):Prop:=∃v H',Inv X ξ σ H' s'/\RelV v u/\Q v H'
def TP(X:Cx)(ξ:List (Addr×Obj))(σ:St)(Q:Bool->Hp->Prop)(b:Bool)(s':aq):Prop:=∃H',Inv X ξ σ H' s'/\Q b H'
def AP(X:Cx)(ξ:List (Addr×Obj))(σ:St)(Q:List V->Hp->Prop)(us:List aj)(s':aq):Prop:=∃vs H',Inv X ξ σ H' s'/\Vals vs us/\Q vs H'
def SP(X:Cx)(ξ:List (Addr×Obj))(D:Sx)(f:Flow)(s':aq):Prop:=
 match f with
 |.next=>∃ σ' H',Inv X ξ σ' H' s'/\D.nx σ' H'
 |.brk=>∃ σ' H',Inv X ξ σ' H' s'/\D.bk σ' H'
 |.cont=>∃ σ' H',Inv X ξ σ' H' s'/\D.ct σ' H'
 |.ret u=>∃v σ' H',Inv X ξ σ' H' s'/\RelV v u/\D.rt v H'
def PE(X:Cx)(e:Expr)(t:TE):Prop:=
 ∀ξ s (σ:St) (H:Hp) (Q:VK),Inv X ξ σ H s->t σ H Q->ba (model X.prog X.w) X.A (eval e X.env) (EP X ξ σ Q) X.xe s
def PT(X:Cx)(e:Expr)(t:TT):Prop:=
 ∀ξ s (σ:St) (H:Hp) (Q:Bool->Hp->Prop),Inv X ξ σ H s->t σ H Q->ba (model X.prog X.w) X.A (isTrue e X.env (eval e X.env)) (TP X ξ σ Q) X.xe s
def PW(X:Cx)(e:Expr)(t:TT):Prop:=
 ∀whole ξ s (σ:St) (H:Hp) (Q:Bool->Hp->Prop),Inv X ξ σ H s->t σ H Q->ba (model X.prog X.w) X.A (isTrue e X.env whole) (TP X ξ σ Q) X.xe s
def PW.pt{X:Cx}{e:Expr}{t:TT}(h:PW X e t):PT X e t:=h _
def PA(X:Cx)(es:List Expr)(t:TA):Prop:=
 ∀pos ξ s (σ:St) (H:Hp) (Q:List V->Hp->Prop),Inv X ξ σ H s->t σ H Q->ba (model X.prog X.w) X.A (spliced (jv pos (cZ es X.env))) (AP X ξ σ Q) X.xe s
def PS(X:Cx)(st:Stmt)(t:TS):Prop:=
 ∀ξ s (σ:St) (H:Hp) (D:Sx),Inv X ξ σ H s->t D σ H->ba (model X.prog X.w) X.A (exec st X.env) (SP X ξ D) X.xe s
def PSs(X:Cx)(st:List Stmt)(t:TS):Prop:=
 ∀ξ s (σ:St) (H:Hp) (D:Sx),Inv X ξ σ H s->t D σ H->ba (model X.prog X.w) X.A (execs st X.env) (SP X ξ D) X.xe s
def thn{α:Type}{t:Sem α}{Q Q':α->aq->Prop}{M:Model}{A:bJ}{E:aj->aq->Prop}{s:aq}(h:ba M A t Q E s)(hQ:∀a s,Q a s->Q' a s):ba M A t Q' E s:=b9 h hQ λ_ _ x=>x
section
variable {X:Cx}
def b54(i:Nat):TE:=λσ H Q=>∃v,σ[i]?=some (some v)/\Q v H
def tC(v:V):TE:=λ_ H Q=>Q v H
def bl6{i:Nat}{x:Str}{pos:Pos}(hN:X.N[i]?=some x)(hv:Vis X.env.scope x)(hd:(x==("__debug__" : Str))=false:=by decide)(hcd:(x==("__classdict__" : Str))=false:=by decide):PE X (.Name x pos) (b54 i):=by
 intro ξ s σ H Q I h
 obtain⟨v,e,h⟩:=h
 obtain⟨m,hn,hl⟩:=I.loc
 obtain⟨u,r,l⟩:=hl i x v hN e hv
 have fin:EP X ξ σ Q u s:=⟨v,H,I,r,h⟩
 rcases l with⟨hk,hm⟩|⟨hk,c,hc,hcell⟩
 .exact wpAny_Name (wpAny_loadName_local I.ok.kind hk hn hm fin) hd
 .rcases hk with hk|hk
  .exact wpAny_Name (wpAny_loadName_cell I.ok.kind hk hc hcell fin) hd
  .exact wpAny_Name (wpAny_loadName_free I.ok.kind hk hc hcell fin hcd) hd
def bl0{i j pos}:PE X (.Constant (.int i) j pos) (tC (.int i)):=λ_ _ _ H _ I h=>wpAny_Constant_int ⟨.int i,H,I.tok _,⟨_,rfl⟩,h⟩
def bw1{b j pos}:PE X (.Constant (.bool b) j pos) (tC (.bl b)):=λ_ _ _ H _ I h=>Constant_bool ⟨.bl b,H,I,rfl,h⟩
def bl2{j pos}:PE X (.Constant .none j pos) (tC .non):=λ_ _ _ H _ I h=>Constant_none ⟨.non,H,I,rfl,h⟩
def bl4{x j pos}:PE X (.Constant (.str x) j pos) (tC (.str x)):=λ_ _ _ H _ I h=>Calls.Constant_str ⟨.str x,H,I.tok _,⟨_,rfl⟩,h⟩
def Gl(X:Cx)(x:Str):Prop:=X.env.kindOf x=some .globalImplicit
def Pa{E:aj->aq->Prop}{ξ:List (Addr×Obj)}{s:aq}{σ:St}{H:Hp}{x:Str}{u:aj}{pos:Pos}{Q:aj->aq->Prop}(I:Inv X ξ σ H s)(hg:Gl X x)(hm:X.mg x=some u)(h:Q u s)(hd:(x==("__debug__" : Str))=false:=by decide):ba (model X.prog X.w) X.A (eval (.Name x pos) X.env) Q E s:=
 iG I.ok.kind hg (Calls.loadGlobal_global (by rw[I.ok.glob];exact I.mod.glob.keeps I.bk) hm h) hd
def Em{E:aj->aq->Prop}{ξ:List (Addr×Obj)}{s:aq}{σ:St}{H:Hp}{x:Str}{u:aj}{pos:Pos}{Q:aj->aq->Prop}(I:Inv X ξ σ H s)(hg:Gl X x)(hm:X.mg x=none)(hv:cX x=some u)(h:Q u s)(hn:x ≠ "__name__" := by decide)(hd:(x==("__debug__" : Str))=false:=by decide):ba (model X.prog X.w) X.A (eval (.Name x pos) X.env) Q E s:=by
 obtain⟨mb,h1,h2⟩:=I.mod.blt
 exact iG I.ok.kind hg (Calls.loadGlobal_builtin (by rw[I.ok.glob];exact I.mod.glob.keeps I.bk) hm (by rw[I.ok.blt];exact h1.keeps I.bk) ((h2 x hn).trans hv) h) hd
def Xe{x:Str}{v:V}{u:aj}{pos:Pos}(hg:Gl X x)(hm:X.mg x=some u)(r:RelV v u)(hd:(x==("__debug__" : Str))=false:=by decide):PE X (.Name x pos) (tC v):=
 λ_ _ _ H _ I h=>Pa I hg hm ⟨v,H,I,r,h⟩ hd
def a09{x:Str}{v:V}{u:aj}{pos:Pos}(hg:Gl X x)(hm:X.mg x=none)(hv:cX x=some u)(r:RelV v u)(hn:x ≠ "__name__" := by decide)(hd:(x==("__debug__" : Str))=false:=by decide):PE X (.Name x pos) (tC v):=
 λ_ _ _ H _ I h=>Em I hg hm hv ⟨v,H,I,r,h⟩ hn hd
variable {a b:Expr}{ta tb:TE}{pos:Pos}
variable {tA tB':TT}{rest:List Expr}
def b45(t u:TT):TT:=λσ H Q=>t σ H λc H1=>if c=true then u σ H1 Q else Q false H1
def tOr(t u:TT):TT:=λσ H Q=>t σ H λc H1=>if c=true then Q true H1 else u σ H1 Q
def b50(t:TT):TT:=λσ H Q=>t σ H λc H1=>Q (!c) H1
def a21(ha:PT X a tA):PW X (.BoolOp .And [a] pos) tA:=by
 intro wh ξ s σ H Q I h
 refine isTrue_and (thn (ha ξ s σ H Q I h) λc s1 e=>?_)
 cases c with
 |true=>exact isTrue_and_nil e
 |false=>exact e
def bn0(ha:PT X a tA):PW X (.BoolOp .Or [a] pos) tA:=by
 intro wh ξ s σ H Q I h
 refine isTrue_or (thn (ha ξ s σ H Q I h) λc s1 e=>?_)
 cases c with
 |false=>exact isTrue_or_nil e
 |true=>exact e
def bm9(ha:PT X a tA)(hb:PW X (.BoolOp .And (b::rest) pos) tB'):PW X (.BoolOp .And (a::b::rest) pos) (b45 tA tB'):=by
 intro wh ξ s σ H Q I h
 refine isTrue_and (thn (ha ξ s σ H _ I h) λc s1 ⟨H1,I1,q1⟩=>?_)
 cases c with
 |true=>exact hb wh ξ s1 σ H1 Q I1 q1
 |false=>exact⟨H1,I1,q1⟩
def bx0(ha:PT X a tA)(hb:PW X (.BoolOp .Or (b::rest) pos) tB'):PW X (.BoolOp .Or (a::b::rest) pos) (tOr tA tB'):=by
 intro wh ξ s σ H Q I h
 refine isTrue_or (thn (ha ξ s σ H _ I h) λc s1 ⟨H1,I1,q1⟩=>?_)
 cases c with
 |true=>exact⟨H1,I1,q1⟩
 |false=>exact hb wh ξ s1 σ H1 Q I1 q1
def bm5(ha:PT X a tA):PT X (.UnaryOp .Not a pos) (b50 tA):=by
 intro ξ s σ H Q I h
 exact isTrue_not (ha ξ s σ H (λc H1=>Q (!c) H1) I h)
def bl3{op}{t:TE}(h:PE X a t):PE X (.BoolOp op [a] pos) t:=λξ s σ H Q I hw=>BoolOp_one (h ξ s σ H Q I hw)
end
def SqL(K:ae)(H:Hp)(a:Addr)(xs:List V):Prop:=
 Rd H a (.lst xs) \/
  ∃o χ n,K.lookup a=some o/\o.cls=.type "list" /\ o.dict=none/\o.data=.seq χ n/\χ.size<=sizeLine/\xs.all V.pl=true/\Vals xs χ.toList
def SqT(K:ae)(H:Hp)(a:Addr)(xs:List V):Prop:=
 Rd H a (.tup xs) \/
  ∃o χ n,K.lookup a=some o/\o.cls=.type "tuple" /\ o.data=.seq χ n/\χ.size<=sizeLine/\xs.all V.pl=true/\Vals xs χ.toList
def bc3:aj->Option V
 |.none=>some .non
 |.bool b=>some (.bl b)
 |.int i _=>some (.int i)
 |.str x _=>some (.str x)
 |.ref a=>some (.ref a)
 |.type n=>some (.ty n)
 |_=>none
def RelV.abs{x:V}{u:aj}(r:RelV x u)(p:x.pl=true):bc3 u=some x:=by
 cases x <;> first|cases p|skip
 all_goals first|(cases r;rfl)|(obtain⟨t,rfl⟩:=r;rfl)
def RelV.inj{x y:V}{u:aj}(r:RelV x u)(q:RelV y u)(p:x.pl=true)(p':y.pl=true):x=y:=bt ((r.abs p).symm.trans (q.abs p'))
theorem Vals.inj:∀{xs ys} {us},Vals xs us->Vals ys us->xs.all V.pl=true->ys.all V.pl=true->xs=ys
 |_,_,_,.nil,.nil,_,_=>rfl
 | _,_,_,.cons r t,.cons r' t',p,q=>by
  simp only[cx,aW] at p q
  rw[r.inj r' p.1 q.1,Vals.inj t t' p.2 q.2]
section
variable {X:Cx}{ξ:List (Addr×Obj)}{σ:St}{H:Hp}{s:aq}{a:Addr}{xs ys:List V}
def SqL.of{K:ae}(h:H a=some (.lst xs)):SqL K H a xs:=.inl (.inl h)
def SqT.of{K:ae}(h:H a=some (.tup xs)):SqT K H a xs:=.inl (.inl h)
def Inv.list(I:Inv X ξ σ H s)(h:SqL X.K H a xs):∃χ,Vals xs χ/\PlainL s.heap a χ.toArray/\xs.length<=sizeLine:=by
 rcases h with h|⟨o,χ,n,hk,hc,hd,hs,hz,_,r⟩
 .obtain⟨z,χ,n,r,e⟩:=h.ok I.hok
  exact⟨χ,r,⟨_,n,e,rfl,rfl,rfl⟩,z⟩
 .refine⟨χ.toList,r,⟨o,n,I.kIn a o hk,hc,hd,by simpa using hs⟩,?_⟩
  have e:=r.length
  simp only[bn] at e
  omega
def Inv.tuple(I:Inv X ξ σ H s)(h:SqT X.K H a xs):∃χ,Vals xs χ/\IsTup s.heap a χ.toArray/\xs.length<=sizeLine:=by
 rcases h with h|⟨o,χ,n,hk,hc,hs,hz,_,r⟩
 .obtain⟨z,χ,r,p⟩:=h.ok I.hok
  exact⟨χ,r,p,z⟩
 .refine⟨χ.toList,r,⟨o,I.kIn a o hk,hc,n,by simpa using hs⟩,?_⟩
  have e:=r.length
  simp only[bn] at e
  omega
def Inv.notK(I:Inv X ξ σ H s){o:HO}{ob:Obj}(h:Rd H a o)(e:X.K.lookup a=some ob):False:=by
 have n:=(I.bs a ob (I.mod.kin a ob e)).2
 rcases h with h|⟨u,h⟩
 .rw[n] at h;cases h
 .rw[n] at h;cases h
def Inv.list_inj(I:Inv X ξ σ H s)(h:SqL X.K H a xs)(h':SqL X.K H a ys):xs=ys:=by
 rcases h with h|⟨o,χ,n,hk,hc,hd,hs,hz,p,r⟩
 .rcases h' with h'|⟨o',its',n',hk',hc',hd',hs',hz',p',r'⟩
  .rcases h with h|⟨u,h⟩ <;> rcases h' with h'|⟨u',h'⟩ <;> (rw[h] at h';first|(cases h';rfl)|cases h')
  .exact (I.notK h hk').elim
 .rcases h' with h'|⟨o',its',n',hk',hc',hd',hs',hz',p',r'⟩
  .exact (I.notK h' hk).elim
  .rw[hk] at hk';cases hk'
   rw[hs] at hs';cases hs'
   exact r.inj r' p p'
def Inv.tuple_inj(I:Inv X ξ σ H s)(h:SqT X.K H a xs)(h':SqT X.K H a ys):xs=ys:=by
 rcases h with h|⟨o,χ,n,hk,hc,hs,hz,p,r⟩
 .rcases h' with h'|⟨o',its',n',hk',hc',hs',hz',p',r'⟩
  .rcases h with h|⟨u,h⟩ <;> rcases h' with h'|⟨u',h'⟩ <;> (rw[h] at h';first|(cases h';rfl)|cases h')
  .exact (I.notK h hk').elim
 .rcases h' with h'|⟨o',its',n',hk',hc',hs',hz',p',r'⟩
  .exact (I.notK h' hk).elim
  .rw[hk] at hk';cases hk'
   rw[hs] at hs';cases hs'
   exact r.inj r' p p'
end
abbrev Cx.wish(X:Cx)(E:aj->aq->Prop):Cx:={X with xe:=E}
abbrev Cx.nox(X:Cx):Cx:=X.wish λ_ _=>False
theorem Cx.Ok.wish{X:Cx}(ok:X.Ok)(E:aj->aq->Prop):(X.wish E).Ok:=
 ⟨ok.mod,ok.kind,ok.glob,ok.blt,ok.above,ok.inj,ok.has,ok.cab,ok.hd,ok.frames,ok.stk,ok.exf,ok.bs,ok.bsz,ok.noex,ok.exfs,ok.funs,ok.frf,ok.tk⟩
def Cx.Ok.unwish{X:Cx}{E:aj->aq->Prop}(ok:(X.wish E).Ok):X.Ok:=
 ⟨ok.mod,ok.kind,ok.glob,ok.blt,ok.above,ok.inj,ok.has,ok.cab,ok.hd,ok.frames,ok.stk,ok.exf,ok.bs,ok.bsz,ok.noex,ok.exfs,ok.funs,ok.frf,ok.tk⟩
section
variable {X:Cx}{ξ:List (Addr×Obj)}{σ:St}{H:Hp}{s:aq}{E:aj->aq->Prop}
theorem Inv.wish(I:Inv X ξ σ H s)(E:aj->aq->Prop):Inv (X.wish E) ξ σ H s:=⟨I.ok.wish E,I.os,I.bare,I.base,I.loc,I.cell,I.free,I.freeC,I.pin,I.hok,I.len⟩
theorem Inv.unwish(I:Inv (X.wish E) ξ σ H s):Inv X ξ σ H s:=⟨I.ok.unwish,I.os,I.bare,I.base,I.loc,I.cell,I.free,I.freeC,I.pin,I.hok,I.len⟩
theorem SP.unwish{D:Sx}{f:Flow}{s':aq}(h:SP (X.wish E) ξ D f s'):SP X ξ D f s':=by
 cases f with
 |next=>obtain⟨σ',H',I,q⟩:=h;exact⟨σ',H',I.unwish,q⟩
 |brk=>obtain⟨σ',H',I,q⟩:=h;exact⟨σ',H',I.unwish,q⟩
 |cont=>obtain⟨σ',H',I,q⟩:=h;exact⟨σ',H',I.unwish,q⟩
 |ret u=>obtain⟨v,σ',H',I,r,q⟩:=h;exact⟨v,σ',H',I.unwish,r,q⟩
theorem PSs.nox{st:List Stmt}{t:TS}(h:PSs X.nox st t):PSs X st t:=λξ s σ H D I hw=>
 b9 (h ξ s σ H D (I.wish _) hw) (λ_ _ q=>q.unwish) λ_ _ z=>cA z
end
section
variable {X:Cx}{st:Stmt}{rest:List Stmt}{t u:TS}{e:Expr}{te:TE}{pos:Pos}
def a98:TS:=λD σ H=>D.nx σ H
def b52(t u:TS):TS:=λD σ H=>t {D with nx:=u D} σ H
def a18:PSs X [] a98:=λ_ _ σ H _ I h=>j5 ⟨σ,H,I,h⟩
def al1(h1:PS X st t)(h2:PSs X rest u):PSs X (st::rest) (b52 t u):=by
 intro ξ s σ H D I h
 refine wpAny_execs_cons (thn (h1 ξ s σ H {D with nx:=u D} I h) λf s1 q=>?_)
 cases f with
 |next=>
  obtain⟨σ',H',I',q⟩:=q
  exact h2 ξ s1 σ' H' D I' q
 |ret v=>exact q
 |brk=>exact q
 |cont=>exact q
def a16:PS X (.Pass pos) a98:=λ_ _ σ H _ I h=>wpAny_Pass ⟨σ,H,I,h⟩
def Inv.quiet{ξ:List (Addr×Obj)}{σ:St}{H:Hp}{s:aq}(I:Inv X ξ σ H s):interactive X.env=false:=by simp[interactive,I.ok.kind]
def bz1(te:TE):TS:=λD σ H=>te σ H λ_ H1=>D.nx σ H1
def a15(he:PE X e te)(hs:iC e none pos.line X.env=pure false:=by rfl):PS X (.Expr e pos) (bz1 te):=by
 intro ξ s σ H D I h
 exact wpAny_Expr_any (thn (he ξ s σ H _ I h) λv s1 ⟨x,H1,I1,r1,q1⟩=>⟨σ,H1,I1,q1⟩) I.quiet hs
def b51(te:TE):TS:=λD σ H=>te σ H D.rt
def bm3(he:PE X e te):PS X (.Return (some e) pos) (b51 te):=by
 intro ξ s σ H D I h
 exact wpAny_Return_some (thn (he ξ s σ H _ I h) λv s1 ⟨x,H1,I1,r1,q1⟩=>⟨x,σ,H1,I1,r1,q1⟩)
def bz2:TS:=λD _ H=>D.rt .non H
def a17:PS X (.Return none pos) bz2:=λ_ _ σ H _ I h=>wpAny_Return_none ⟨.non,σ,H,I,rfl,h⟩
def b47(c:TT)(t u:TS):TS:=λD σ H=>c σ H λb H1=>if b=true then t D σ H1 else u D σ H1
def bw8{c:Expr}{a b:List Stmt}{tc:TT}(hc:PT X c tc)(ha:PSs X a t)(hb:PSs X b u):PS X (.If c a b pos) (b47 tc t u):=by
 intro ξ s σ H D I h
 refine wpAny_If (thn (hc ξ s σ H _ I h) λd s1 ⟨H1,I1,q1⟩=>?_)
 cases d with
 |true=>exact ha ξ s1 σ H1 D I1 q1
 |false=>exact hb ξ s1 σ H1 D I1 q1
end
abbrev TG:=V->St->Hp->(St->Hp->Prop)->Prop
abbrev TGs:=List V->St->Hp->(St->Hp->Prop)->Prop
def PG(X:Cx)(target:Expr)(t:TG):Prop:=
 ∀ξ s (σ:St) (H:Hp) (v:V) (u:aj) (Q:St->Hp->Prop),Inv X ξ σ H s->RelV v u->t v σ H Q ->
  ba (model X.prog X.w) X.A (mq target X.env u) (λ_ s'=>∃ σ' H',Inv X ξ σ' H' s'/\Q σ' H') X.xe s
def PGs(X:Cx)(ts:List Expr)(t:TGs):Prop:=
 ∀ξ s (σ:St) (H:Hp) (vs:List V) (us:List aj) (Q:St->Hp->Prop),Inv X ξ σ H s->Vals vs us->t vs σ H Q ->
  ba (model X.prog X.w) X.A (assignInOrder ((dy ts X.env).map (·.2)) us) (λ_ s'=>∃ σ' H',Inv X ξ σ' H' s'/\Q σ' H') X.xe s
abbrev bc2:=V->V->V->Hp->(Hp->Prop)->Prop
def br9(X:Cx)(t:bc2):Prop:=
 ∀ξ s (σ:St) (H:Hp) (o i v:V) (ov iv u:aj) (Q:Hp->Prop),Inv X ξ σ H s->RelV o ov->RelV i iv->RelV v u->t o i v H Q ->
  ba (model X.prog X.w) X.A (setItem ov iv u) (λ_ s'=>∃H',Inv X ξ σ H' s'/\Q H') X.xe s
section
variable {X:Cx}{pos:Pos}
def ae8(i:Nat):TG:=λv σ H Q=>Q (σ.set i (some v)) H
def a11{i:Nat}{x:Str}(hN:X.N.Nodup)(hi:X.N[i]?=some x)(hx:Loc X.env.scope x)(hf:X.fn x=true\/X.env.scope.names.lookup x=some .local:=by trivial):PG X (.Name x pos) (ae8 i):=by
 intro ξ s σ H v u Q I r h
 exact wpAny_assign_Name (L3 I hN hi hx r (λs' I'=>⟨_,H,I',h⟩) hf)
def b33:TGs:=λvs σ H Q=>vs=[]/\Q σ H
def bs7(t:TG)(u:TGs):TGs:=λvs σ H Q=>∃v r,vs=v::r/\t v σ H λσ' H'=>u r σ' H' Q
def a12:PGs X [] b33:=by
 intro ξ s σ H vs us Q I r h
 obtain⟨e,h⟩:=h
 subst e
 cases r
 exact assignInOrder_nil ⟨σ,H,I,h⟩
def ak1{e:Expr}{es:List Expr}{t:TG}{u:TGs}(h1:PG X e t)(h2:PGs X es u)(hs:(dy (e::es) X.env).map (·.2)=mq e X.env::(dy es X.env).map (·.2):=by rfl):PGs X (e::es) (bs7 t u):=by
 intro ξ s σ H vs us Q I r h
 obtain⟨v,vr,e1,h⟩:=h
 subst e1
 cases r with
 |cons r rr=>
  rw[hs]
  exact assignInOrder_cons (thn (h1 ξ s σ H _ _ _ I r h) λ_ s1 ⟨σ1,H1,I1,q1⟩=>(h2 ξ s1 σ1 H1 _ _ Q I1 rr q1))
def b35(K:ae)(n:Nat)(t:TGs):TG:=λv σ H Q=>∃a xs,v=.ref a/\SqT K H a xs/\xs.length=n/\t xs σ H Q
def bl8{es:List Expr}{k:Nat}{t:TGs}{n:Nat}(hc:X.calm=true)(h:PGs X es t)(hn:(dy es X.env).length=n:=by rfl)(hst:(dy es X.env).findIdx? (·.1)=none:=by rfl):PG X (.Tuple es k pos) (b35 X.K n t):=by
 intro ξ s σ H v u Q I r hw
 obtain⟨a,xs,e1,hq,hl,hw⟩:=hw
 subst e1
 cases r
 obtain⟨χ,rv,ht,hz⟩:=I.tuple hq
 refine assign_Tuple_tuple (I.ok.hd hc) ht (by simp[hn,<- hl,rv.length]) hst λh' hx=>?_
 have I1:=I.kept λb o e=>hx b o (aV (aQ e)) e
 exact h ξ _ σ H xs _ Q I1 (rv) hw
def b34(to ti:TE)(t:bc2):TG:=λv σ H Q=>to σ H λo H1=>ti σ H1 λi H2=>t o i v H2 λH3=>Q σ H3
def bl7{o i:Expr}{to ti:TE}{t:bc2}(ho:PE X o to)(hi:PE X i ti)(hs:br9 X t)(ha:∀v,mq (.Subscript o i pos) X.env v=(do
   let ov <- kP [v] (eval o X.env)
   let iv <- kP [v,ov] (eval i X.env)
   standAt pos
   kP [v,ov,iv] (setItem ov iv v)
   release [v,ov,iv] []):=by intro _;rfl):PG X (.Subscript o i pos) (b34 to ti t):=by
 intro ξ s σ H v u Q I r h
 rw[ha]
 refine ah (bQ (thn (ho ξ s σ H _ I h) λov s1 ⟨x,H1,I1,r1,q1⟩=>?_))
 refine ah (bQ (thn (hi ξ s1 σ H1 _ I1 q1) λiv s2 ⟨y,H2,I2,r2,q2⟩=>?_))
 exact ah (fO (ah (bQ (thn (hs ξ s2 σ H2 x y v ov iv u _ I2 r1 r2 r q2) λ_ s3 ⟨H3,I3,q3⟩=>(wpAny_release ⟨σ,H3,I3,q3⟩)))))
def bq5(te:TE)(g:TG):TS:=λD σ H=>te σ H λx H1=>g x σ H1 D.nx
def ak9{tg e:Expr}{te:TE}{g:TG}(he:PE X e te)(hg:PG X tg g)(hs:swapsWithSole [tg] e pos.line X.env=pure false:=by rfl)(hw:swappedStores [tg] e X.env=pure none:=by rfl)(h1:(dy [tg] X.env).map (·.2)=[mq tg X.env]:=by rfl):PS X (.Assign [tg] e pos) (bq5 te g):=by
 intro ξ s σ H D I h
 refine wpAny_Assign_stores (thn (he ξ s σ H _ I h) λv s1 ⟨x,H1,I1,r1,q1⟩=>?_) hs hw
 rw[h1]
 exact thn (hg ξ s1 σ H1 x v _ I1 r1 q1) λ_ s2 q=>q
def bm4{i:Nat}{x:Str}{e:Expr}{te:TE}{pos':Pos}(hN:X.N.Nodup)(hi:X.N[i]?=some x)(hx:Loc X.env.scope x)(he:PE X e te)(hs:iC e (some (.Name x pos')) pos.line X.env=pure false:=by rfl)(hf:X.fn x=true\/X.env.scope.names.lookup x=some .local:=by trivial) :
  PS X (.Assign [.Name x pos'] e pos) (bq5 te (ae8 i)):=by
 intro ξ s σ H D I h
 exact wpAny_Assign_Name (thn (he ξ s σ H _ I h) λv s1 ⟨y,H1,I1,r1,q1⟩=>(L3 I1 hN hi hx r1 (λs2 I2=>⟨_,H1,I2,q1⟩) hf)) hs
def bq6(c:TT)(tb:TS):TS:=λD σ H=>∃W:Nat->St->Hp->Prop,(∃m,W m σ H)/\∀m σ H,W m σ H ->
 c σ H λb H1=>if b=true then ∃N,(∀ σ' H',N σ' H' -> ∃m',m'<m/\W m' σ' H')/\tb {D with nx:=N,ct:=N,bk:=D.nx} σ H1 else D.nx σ H1
def al0{c:Expr}{body:List Stmt}{tc:TT}{tb:TS}(hp:l0 (model X.prog X.w) X.A X.env X.xe)(hc:PT X c tc)(hb:PSs X body tb):PS X (.While c body [] pos) (bq6 tc tb):=by
 intro ξ s σ H D I h
 obtain⟨W,⟨m0,w0⟩,turn⟩:=h
 refine wpAny_While (codeAny_whileLoop (λn s'=>∃ σ' H',Inv X ξ σ' H' s'/\W n σ' H') ?_ m0 ⟨σ,H,I,w0⟩)
 rintro n s1 ⟨σ1,H1,I1,w1⟩
 refine eK hp (thn (hc ξ s1 σ1 H1 _ I1 (turn n σ1 H1 w1)) λb s2 ⟨H2,I2,q2⟩=>?_)
 cases b with
 |true=>
  obtain⟨N,hN,q2⟩:=q2
  rw[if_pos rfl]
  refine eK hp (thn (hb ξ s2 σ1 H2 _ I2 q2) λf s3 q3=>?_)
  cases f with
  |next=>
   obtain⟨σ3,H3,I3,n3⟩:=q3
   obtain⟨m',hm,w3⟩:=hN σ3 H3 n3
   exact⟨m',hm,σ3,H3,I3,w3⟩
  |cont=>
   obtain⟨σ3,H3,I3,n3⟩:=q3
   obtain⟨m',hm,w3⟩:=hN σ3 H3 n3
   exact⟨m',hm,σ3,H3,I3,w3⟩
  |brk=>exact q3
  |ret v=>exact q3
 |false=>
  rw[if_neg aR]
  exact j5 ⟨σ1,H2,I2,q2⟩
end
structure It where
 go:Nat->Hp->Prop
 yld:Nat->Hp->V->Hp->Prop
 stop:Nat->Hp->Prop
def Ek(X:Cx)(ξ:List (Addr×Obj))(H:Hp)(b:Addr):Prop:=
 H b=none/\b≠X.env.locals/\b∉X.fs/\(b∈X.ex\/X.s₀.heap.objs.size<=b)/\(∀x c,X.env.cells.lookup x=some c->c≠b)/\∀p∈X.pn++ξ,p.1≠b
def Inv.fpOk{X:Cx}{ξ:List (Addr×Obj)}{σ:St}{H H':Hp}{s:aq}{b:Addr}(I:Inv X ξ σ H s)(hb:s.heap.objs.size<=b)(hn:H' b=none):Ek X ξ H' b:=by
 refine⟨hn,dG (aH I.lt hb),I.nofs hb,.inr (aF I.sz hb),λx c e z=>?_,λp hp z=>?_⟩
 .obtain⟨v,q⟩:=I.cell x c e
  exact absurd (aH q.lt (by rw[z];exact hb)) (d_ _)
 .exact absurd (aH (aQ (I.pin p hp).1) (by rw[z];exact hb)) (d_ _)
structure Mj (P:a7) (w:bL) (K:ae) (tg:Expr) (J:It) (fp:List Addr) (it:Addr) (tn:Nat->Heap->Prop):Prop where
 mem:it∈fp
 obj:∀i h,tn i h -> ∀b∈fp,∃o,h.get? b=some o/\∀v,o.data≠.cell v
 keep:∀i h h',tn i h->(∀b∈fp,∀o,h.get? b=some o->h'.get? b=some o)->tn i h'
 item:∀(X:Cx),X.prog=P->X.w=w->X.K=K->X.calm=true -> ∀(i:Nat)(ξ:List (Addr×Obj))(s:aq)(σ:St)(H:Hp)(E:aj->aq->Prop),Inv X ξ σ H s->(∀b∈fp,Ek X ξ H b)->tn i s.heap->J.go i H ->
  ba (model P w) X.A (j4 (.ref it)) (λr s1=>∃u,r=some u /\
   ba (model P w) X.A (jZ tg (.ref it) u) (λ_ s2=>∃x H',Inv X ξ σ H' s2/\RelV x u/\J.yld i H x H'/\tn (i+1) s2.heap/\∀b∈fp,H' b=none) E s1) E s
 done:∀(X:Cx),X.prog=P->X.w=w->X.K=K->X.calm=true -> ∀(i:Nat)(ξ:List (Addr×Obj))(s:aq)(σ:St)(H:Hp)(E:aj->aq->Prop),Inv X ξ σ H s->(∀b∈fp,Ek X ξ H b)->tn i s.heap->J.stop i H ->
  ba (model P w) X.A (j4 (.ref it)) (λr s1=>r=none/\Inv X ξ σ H s1) E s
 self:∀(A:bJ)(i:Nat)(s:aq)(Q:aj->aq->Prop)(E:aj->aq->Prop),tn i s.heap->Q (.ref it) s->ba (model P w) A (ms (.ref it)) Q E s
abbrev TI:=St->Hp->(It->Hp->Prop)->Prop
def PIE(X:Cx)(ξ:List (Addr×Obj))(σ:St)(tg:Expr)(R:It->Hp->Prop)(itv:aj)(s2:aq):Prop:=
 ∃it fp tn J H',itv=.ref it/\Inv X ξ σ H' s2/\Mj X.prog X.w X.K tg J fp it tn/\tn 0 s2.heap/\(∀b∈fp,Ek X ξ H' b)/\R J H'
def PI(X:Cx)(tg iter:Expr)(wi:TI):Prop:=
 ∀ξ s (σ:St) (H:Hp) (R:It->Hp->Prop),Inv X ξ σ H s->wi σ H R ->
  ba (model X.prog X.w) X.A (eval iter X.env) (λv s1=>ba (model X.prog X.w) X.A (ms v) (PIE X ξ σ tg R) X.xe s1) X.xe s
def K7{M:Model}{A:bJ}{E:aj->aq->Prop}{s:aq}{tg:Expr}{it:Addr}{u:aj}{o:Obj}{n:String}{vs:Array aj}{Q:Unit->aq->Prop}(ho:s.heap.get? it=some o)(hc:o.cls=.type n)(hd:o.data=.fields vs)(hn:["enumerate","zip","dict_itemiterator","dict_reverseitemiterator","odict_iterator","itertools.zip_longest","itertools.pairwise"].contains n=false)(hQ:Q () s):ba M A (jZ tg (.ref it) u) Q E s:=by
  cases tg <;> first
    |exact ao hQ
    | (cases u <;> first
        |exact ao hQ
        | (refine ah (lI ho ?_)
           rw[hc,hd]
           show ba M A (if(["enumerate","zip","dict_itemiterator","dict_reverseitemiterator","odict_iterator","itertools.zip_longest","itertools.pairwise"].contains n&&vs[0]? == some (ie _))=true then _ else _) Q E s
           rw[if_neg (by intro h;rw[hn,Bool.false_and] at h;cases h)]
           exact ao hQ))
def Itl(K:ae)(a:Addr):It:=
 ⟨λi H=>∃xs x,SqL K H a xs/\xs[i]?=some x,λi H x H'=>H'=H/\∀xs,SqL K H a xs->xs[i]?=some x,λi H=>∃xs,SqL K H a xs/\xs.length<=i⟩
def Itt(K:ae)(a:Addr):It:=
 ⟨λi H=>∃xs x,SqT K H a xs/\xs[i]?=some x,λi H x H'=>H'=H/\∀xs,SqT K H a xs->xs[i]?=some x,λi H=>∃xs,SqT K H a xs/\xs.length<=i⟩
def Itr(lo:Int)(n:Nat):It:=⟨λi _=>i<n,λi H x H'=>H'=H/\x=.int (lo+i),λi _=>n<=i⟩
def Zx{P:a7}{w:bL}{K:ae}{tg:Expr}(a it:Addr):Mj P w K tg (Itl K a) [it] it (λi h=>h.IsListIter it a i) where
 mem:=by simp
 obj:=λi h st b hb=>by
  have e:b=it:=by simpa using hb
  subst e
  obtain⟨o,e,c,d⟩:=st
  exact⟨o,e,λv z=>by rw[d] at z;cases z⟩
 keep:=λi h h' st k=>st.at λo e=>k it (by simp) o e
 item:=by
  intro X hP hw hK hc i ξ s σ H E I hf st hg
  subst hP hw hK
  obtain⟨xs,x,hq,hx⟩:=hg
  obtain⟨χ,rv,p,hz⟩:=I.list hq
  obtain⟨u,hu,ru⟩:=rv.get hx
  obtain⟨f0,f1,f2,f3,f4,f5⟩:=hf it (by simp)
  refine wpAny_pyNext_list_item st p.isList (by simpa using hu) λh' st' sb=>?_
  have I1:=I.turned (λb o hb e=>(sb.2 b hb).trans e) f0 f1 f3 f4 f5
  obtain⟨o,e,c,d⟩:=id st'
  exact⟨u,rfl,K7 e c d (by decide) ⟨x,H,I1,ru,⟨rfl,λys hy=>by rw[I.list_inj hy hq];exact hx⟩,st',λb hb=>(hf b hb).1⟩⟩
 done:=by
  intro X hP hw hK hc i ξ s σ H E I hf st hg
  subst hP hw hK
  obtain⟨xs,hq,hx⟩:=hg
  obtain⟨χ,rv,p,hz⟩:=I.list hq
  obtain⟨f0,f1,f2,f3,f4,f5⟩:=hf it (by simp)
  have hl:=rv.length
  exact wpAny_pyNext_list_end (I.ok.hd hc) st p.isList (by simp;omega) λh' eb=>⟨rfl,I.turned (λb o hb e=>eb b o hb e) f0 f1 f3 f4 f5⟩
 self:=λ_ _ _ _ _ st h=>wpAny_pyIter_listiter st h
def Vu{P:a7}{w:bL}{K:ae}{tg:Expr}(a it:Addr):Mj P w K tg (Itt K a) [it] it (λi h=>h.IsTupleIter it a i) where
 mem:=by simp
 obj:=λi h st b hb=>by
  have e:b=it:=by simpa using hb
  subst e
  obtain⟨o,e,c,d⟩:=st
  exact⟨o,e,λv z=>by rw[d] at z;cases z⟩
 keep:=λi h h' st k=>st.at λo e=>k it (by simp) o e
 item:=by
  intro X hP hw hK hc i ξ s σ H E I hf st hg
  subst hP hw hK
  obtain⟨xs,x,hq,hx⟩:=hg
  obtain⟨χ,rv,p,hz⟩:=I.tuple hq
  obtain⟨u,hu,ru⟩:=rv.get hx
  obtain⟨f0,f1,f2,f3,f4,f5⟩:=hf it (by simp)
  refine wpAny_pyNext_tuple_item st (p) (by simpa using hu) λh' st' sb=>?_
  have I1:=I.turned (λb o hb e=>(sb.2 b hb).trans e) f0 f1 f3 f4 f5
  obtain⟨o,e,c,d⟩:=id st'
  exact⟨u,rfl,K7 e c d (by decide) ⟨x,H,I1,ru,⟨rfl,λys hy=>by rw[I.tuple_inj hy hq];exact hx⟩,st',λb hb=>(hf b hb).1⟩⟩
 done:=by
  intro X hP hw hK hc i ξ s σ H E I hf st hg
  subst hP hw hK
  obtain⟨xs,hq,hx⟩:=hg
  obtain⟨χ,rv,p,hz⟩:=I.tuple hq
  obtain⟨f0,f1,f2,f3,f4,f5⟩:=hf it (by simp)
  have hl:=rv.length
  exact wpAny_pyNext_tuple_end (I.ok.hd hc) st (p) (by simp;omega) λh' eb=>⟨rfl,I.turned (λb o hb e=>eb b o hb e) f0 f1 f3 f4 f5⟩
 self:=λ_ _ _ _ _ st h=>wpAny_pyIter_tupleiter st h
def Vt{P:a7}{w:bL}{K:ae}{tg:Expr}(it:Addr)(lo:Int)(n:Nat):Mj P w K tg (Itr lo n) [it] it (λi h=>lW h it (lo+(i:Nat)*1) ((n:Int)-(i:Nat)) 1) where
 mem:=by simp
 obj:=λi h st b hb=>by
  have e:b=it:=by simpa using hb
  subst e
  exact⟨_,st,λv z=>by
   have z':=z
   cases z'⟩
 keep:=λi h h' st k=>k it (by simp) _ st
 item:=by
  intro X hP hw hK hc i ξ s σ H E I hf st hg
  subst hP hw hK
  obtain⟨f0,f1,f2,f3,f4,f5⟩:=hf it (by simp)
  have W:=Walks.range (prog:=X.prog) (w:=X.w) (I.ok.hd hc) it lo 1 n
  refine bD (ag _) (W.item i s _ _ hg st λv h' tk hv st' kk htk=>?_)
  obtain⟨t,rfl⟩:=hv
  have I1:Inv X ξ σ H {s with heap:=h',toks:=tk}:=I.turned (λb o hb e=>kk b o (by simpa using hb) e) f0 f1 f3 f4 f5
  refine⟨_,rfl,K7 st' rfl rfl (by decide) ⟨.int (lo+i),H,I1,⟨t,?_⟩,⟨rfl,rfl⟩,st',λb hb=>(hf b hb).1⟩⟩
  rw[Int.mul_one]
 done:=by
  intro X hP hw hK hc i ξ s σ H E I hf st hg
  subst hP hw hK
  obtain⟨f0,f1,f2,f3,f4,f5⟩:=hf it (by simp)
  exact jH (I.ok.hd hc) st (by have:n<=i:=hg;omega) λh' eb=>⟨rfl,I.turned (λb o hb e=>eb b o hb e) f0 f1 f3 f4 f5⟩
 self:=λ_ _ _ _ _ st h=>jG st h
section
variable {X:Cx}{tg:Expr}
def Ru{ξ:List (Addr×Obj)}{σ:St}{H:Hp}{s:aq}{R:It->Hp->Prop}{E:aj->aq->Prop}{lo hi:Int}{t u v:Tok}{tk:Nat}(I:Inv X ξ σ H s)(htk:s.toks<=tk)(h1:-(2^62)<=lo)(h2:lo<2^62)(h3:-(2^62)<=hi)(h4:hi<2^62)(q:R (Itr lo (hi-lo).toNat) H):ba (model X.prog X.w) X.A (ms (.ref s.heap.objs.size)) (PIE X ξ σ tg R) E {s with heap:=s.heap.push {cls:=.type "range", data:=.fields #[.int lo t,.int hi u,.int 1 v]},toks:=tk}:=by
 refine lq (IsRange.new ..) (small_one h1 h2 h3 h4) ?_
 have I1:Inv X ξ σ H {s with heap:=s.heap.push {cls:=.type "range", data:=.fields #[.int lo t,.int hi u,.int 1 v]},toks:=tk}:=I.kept λb o e=>ai _ e
 refine⟨(s.heap.push {cls:=.type "range", data:=.fields #[.int lo t,.int hi u,.int 1 v]}).objs.size,[(s.heap.push {cls:=.type "range", data:=.fields #[.int lo t,.int hi u,.int 1 v]}).objs.size],_,_,H,rfl,
  I1.kept λb o e=>ai _ e,Vt _ lo (hi-lo).toNat,?_,λb hb=>?_,q⟩
 .have e1:lo+((0:Nat):Int)*1=lo:=by simp
  have e2:(((hi-lo).toNat:Nat):Int)-((0:Nat):Int)=bV lo hi 1:=by rw[rangeSize_one];split <;> omega
  rw[e1,e2]
  exact aL _ rfl
 .have e:b=(s.heap.push {cls:=.type "range", data:=.fields #[.int lo t,.int hi u,.int 1 v]}).objs.size:=by simpa using hb
  subst e
  exact I1.fpOk (ag _) (I1.hok.fresh (ag _))
def b46(wi:TI)(g:TG)(tb:TS):TS:=λD σ H=>wi σ H λJ H1=>∃W:Nat->Nat->St->Hp->Prop,(∃m,W 0 m σ H1)/\∀i m σ H,W i m σ H ->
 (J.stop i H/\D.nx σ H)\/(J.go i H/\∃N,(∀ σ' H',N σ' H' -> ∃m',m'<m/\W (i+1) m' σ' H')/\∀x H',J.yld i H x H'->g x σ H' λσ2 H2=>tb {D with nx:=N,ct:=N,bk:=D.nx} σ2 H2)
def Jh(fp:List Addr)(h:Heap):List (Addr×Obj):=fp.filterMap λb=>(h.get? b).map λo=>(b,o)
def E5{fp:List Addr}{h:Heap}{b:Addr}{o:Obj}(hb:b∈fp)(e:h.get? b=some o):(b,o)∈Jh fp h:=List.mem_filterMap.mpr ⟨b,hb,by rw[e];rfl⟩
def Zd{fp:List Addr}{h:Heap}{p:Addr×Obj}(hp:p∈Jh fp h):p.1∈fp/\h.get? p.1=some p.2:=by
 obtain⟨b,hb,e⟩:=List.mem_filterMap.mp hp
 cases q:h.get? b with
 |none=>rw[q] at e;cases e
 |some o=>
  rw[q] at e
  have e':=bt e
  subst e'
  exact⟨hb,q⟩
def Inv.pinned{ξ:List (Addr×Obj)}{σ:St}{H:Hp}{s:aq}{fp:List Addr}(I:Inv X ξ σ H s)(hf:∀b∈fp,Ek X ξ H b)(ho:∀b∈fp,∃o,s.heap.get? b=some o/\∀v,o.data≠.cell v):Inv X (ξ++Jh fp s.heap) σ H s:=
 I.pins_of λp hp=>(List.mem_append.mp hp).elim (λz=>I.pin p (aN _ z)) λz=>by
  obtain⟨hb,e⟩:=Zd z
  obtain⟨f0,f1,f2,_⟩:=hf p.1 hb
  obtain⟨o,e',d⟩:=ho p.1 hb
  rw[e] at e';cases e'
  exact⟨e,f0,f1,f2,d⟩
def Inv.unpinned{ξ pl:List (Addr×Obj)}{σ:St}{H:Hp}{s:aq}(I:Inv X (ξ++pl) σ H s):Inv X ξ σ H s:=I.pins_of λp hp=>I.pin p (aN _ (bh _ hp))
def bm2{iter:Expr}{body:List Stmt}{wi:TI}{g:TG}{tb:TS}{pos:Pos}(hp:l0 (model X.prog X.w) X.A X.env X.xe)(hc:X.calm=true)(hi:PI X tg iter wi)(hg:PG X tg g)(hb:PSs X body tb)(hs:∀x,fN iter X.env x=pure x:=by intro _;rfl):PS X (.For tg iter body [] pos) (b46 wi g tb):=by
 intro ξ s σ H D I h
 refine wpAny_For (thn (hi ξ s σ H _ I h) λv s1 h1=>thn h1 λitv s2 h2=>?_) hs
 obtain⟨it,fp,tn,J,H2,e,I2,T,st2,f2,W,⟨m0,w0⟩,turn⟩:=h2
 subst e
 have stat:∀{H':Hp},(∀b∈fp,H' b=none) -> ∀b∈fp,Ek X ξ H' b:=λhn b hb=>⟨hn b hb,(f2 b hb).2⟩
 refine codeAny_forLoop_any (λn s'=>∃i σ' H',Inv X ξ σ' H' s'/\tn i s'.heap/\(∀b∈fp,H' b=none)/\W i n σ' H') ?_ m0 ⟨0,σ,H2,I2,st2,λb hb=>(f2 b hb).1,w0⟩
 rintro n s3 ⟨i,σ3,H3,I3,st3,fr3,w3⟩
 rcases turn i n σ3 H3 w3 with⟨stop,qn⟩|⟨go,N,hN,step⟩
 .refine eK hp (thn (T.done X rfl rfl rfl hc i ξ s3 σ3 H3 X.xe I3 (stat fr3) st3 stop) λr s4 ⟨hr,I4⟩=>?_)
  subst hr
  exact j5 ⟨σ3,H3,I4,qn⟩
 .refine eK hp (thn (T.item X rfl rfl rfl hc i ξ s3 σ3 H3 X.xe I3 (stat fr3) st3 go) λr s4 ⟨u,hr,h4⟩=>?_)
  subst hr
  refine eK hp (thn h4 λ_ s5 ⟨x,H5,I5,r5,y5,st5,fr5⟩=>?_)
  have I5':=I5.pinned (stat fr5) (T.obj _ _ st5)
  refine eK hp (thn (hg _ s5 σ3 H5 x u _ I5' r5 (step x H5 y5)) λ_ s6 ⟨σ6,H6,I6,q6⟩=>?_)
  refine eK hp (thn (hb _ s6 σ6 H6 _ I6 q6) λf s7 q7=>?_)
  have again:∀{σ7:St}{H7:Hp},Inv X (ξ++Jh fp s5.heap) σ7 H7 s7->N σ7 H7 -> ∃m,m<n/\∃i σ' H',Inv X ξ σ' H' s7/\tn i s7.heap/\(∀b∈fp,H' b=none)/\W i m σ' H':=λ{σ7 H7} I7 n7=>by
   obtain⟨m',hm,w7⟩:=hN σ7 H7 n7
   refine⟨m',hm,i+1,σ7,H7,I7.unpinned,T.keep _ _ _ st5 λb hb o e=>(I7.pin (b,o) (aN _ (aN _ (E5 hb e)))).1,λb hb=>?_,w7⟩
   obtain⟨o,e,d⟩:=T.obj _ _ st5 b hb
   exact(I7.pin (b,o) (aN _ (aN _ (E5 hb e)))).2.1
  cases f with
  |next=>obtain⟨σ7,H7,I7,n7⟩:=q7;exact again I7 n7
  |cont=>obtain⟨σ7,H7,I7,n7⟩:=q7;exact again I7 n7
  |brk=>obtain⟨σ7,H7,I7,q7⟩:=q7;exact⟨σ7,H7,I7.unpinned,q7⟩
  |ret v=>obtain⟨x7,σ7,H7,I7,r7,q7⟩:=q7;exact⟨x7,σ7,H7,I7.unpinned,r7,q7⟩
end
abbrev R2:=V->V->Hp->VK->Prop
def OpR(X:Cx)(f:aj->aj->Sem aj)(r:R2):Prop:=
 ∀ξ s (σ:St) (H:Hp) (x y:V) (v u:aj) (Q:VK),Inv X ξ σ H s->RelV x v->RelV y u->r x y H Q ->
  ba (model X.prog X.w) X.A (f v u) (EP X ξ σ Q) X.xe s
def UnR(X:Cx)(f:aj->Sem aj)(r:V->Hp->VK->Prop):Prop:=
 ∀ξ s (σ:St) (H:Hp) (x:V) (v:aj) (Q:VK),Inv X ξ σ H s->RelV x v->r x H Q ->
  ba (model X.prog X.w) X.A (f v) (EP X ξ σ Q) X.xe s
def Cm(X:Cx)(f:aj)(r:List V->Hp->VK->Prop):Prop:=
 ∀ξ s (σ:St) (H:Hp) (xs:List V) (us:List aj) (Q:VK),Inv X ξ σ H s->Vals xs us->r xs H Q ->
  ba (model X.prog X.w) X.A (call f us) (EP X ξ σ Q) X.xe s
def bs2(X:Cx)(r:V->Hp->(Bool->Hp->Prop)->Prop):Prop:=
 ∀ξ s (σ:St) (H:Hp) (x:V) (v:aj) (Q:Bool->Hp->Prop),Inv X ξ σ H s->RelV x v->r x H Q ->
  ba (model X.prog X.w) X.A (truthy v) (TP X ξ σ Q) X.xe s
def tOp(r:R2)(ta tb:TE):TE:=λσ H Q=>ta σ H λx H1=>tb σ H1 λy H2=>r x y H2 Q
def tUn(r:V->Hp->VK->Prop)(ta:TE):TE:=λσ H Q=>ta σ H λx H1=>r x H1 Q
def rI(C:Int->Int->Prop)(g:Int->Int->V):R2:=λx y H Q=>∃i j,x=.int i/\y=.int j/\C i j/\Q (g i j) H
def rI0(g:Int->Int->V):R2:=λx y H Q=>∃i j,x=.int i/\y=.int j/\Q (g i j) H
def rU(g:Int->V):V->Hp->VK->Prop:=λx H Q=>∃i,x=.int i/\Q (g i) H
section
variable {X:Cx}{a b c:Expr}{ta tb tc:TE}{pos:Pos}
def bc6(ha:PE X a ta)(hb:PE X b tb){ξ:List (Addr×Obj)}{s:aq}{σ:St}{H:Hp}{R:V->V->Hp->Prop}(I:Inv X ξ σ H s)(h:ta σ H λx H1=>tb σ H1 λy H2=>R x y H2){Q:aj->aq->Prop}{f:aj->aj->Sem aj}(hf:∀v u s2 x y H2,Inv X ξ σ H2 s2->RelV x v->RelV y u->R x y H2->ba (model X.prog X.w) X.A (f v u) Q X.xe s2) :
  ba (model X.prog X.w) X.A (eval a X.env) (λv s₁=>ba (model X.prog X.w) X.A (eval b X.env) (λu s₂=>ba (model X.prog X.w) X.A (f v u) Q X.xe s₂) X.xe s₁) X.xe s:=by
 refine thn (ha ξ s σ H _ I h) λv s1 ⟨x,H1,I1,r1,q1⟩=>?_
 exact thn (hb ξ s1 σ H1 _ I1 q1) λu s2 ⟨y,H2,I2,r2,q2⟩=>(hf v u s2 x y H2 I2 r1 r2 q2)
def bw3{op:mx}{r:R2}(ho:OpR X (fc op) r)(ha:PE X a ta)(hb:PE X b tb):PE X (.BinOp a op b pos) (tOp r ta tb):=by
 intro ξ s σ H Q I h
 exact wpAny_BinOp (bc6 ha hb I h λv u s2 x y H2 I2 rx ry q=>ho ξ s2 σ H2 x y v u Q I2 rx ry q)
def bw4{op:UnaryOp}{r:V->Hp->VK->Prop}(ho:UnR X (unaryOp op) r)(ha:PE X a ta):PE X (.UnaryOp op a pos) (tUn r ta):=by
 intro ξ s σ H Q I h
 exact UnaryOp_ (thn (ha ξ s σ H _ I h) λv s1 ⟨x,H1,I1,r1,q1⟩=>ho ξ s1 σ H1 x v Q I1 r1 q1)
def opI{f:aj->aj->Sem aj}{C:Int->Int->Prop}{g:Int->Int->Int}(rule:∀i j t u s Q E,C i j->Q (.int (g i j) s.toks) {s with toks:=s.toks+1}->ba (model X.prog X.w) X.A (f (.int i t) (.int j u)) Q E s) :
  OpR X f (rI C λi j=>.int (g i j)):=by
 intro ξ s σ H x y v u Q I rx ry h
 obtain⟨i,j,rfl,rfl,hc,q⟩:=h
 obtain⟨t,rfl⟩:=rx
 obtain⟨t',rfl⟩:=ry
 exact rule i j t t' s _ _ hc ⟨.int (g i j),H,I.tok _,⟨_,rfl⟩,q⟩
def bj7{f:aj->aj->Sem aj}{g:Int->Int->Int}(rule:∀i j t u s Q E,Q (.int (g i j) s.toks) {s with toks:=s.toks+1}->ba (model X.prog X.w) X.A (f (.int i t) (.int j u)) Q E s) :
  OpR X f (rI0 λi j=>.int (g i j)):=by
 intro ξ s σ H x y v u Q I rx ry h
 obtain⟨i,j,rfl,rfl,q⟩:=h
 obtain⟨t,rfl⟩:=rx
 obtain⟨t',rfl⟩:=ry
 exact rule i j t t' s _ _ ⟨.int (g i j),H,I.tok _,⟨_,rfl⟩,q⟩
def b37{f:aj->aj->Sem aj}{g:Int->Int->Bool}(rule:∀i j t u s Q E,Q (.bool (g i j)) s->ba (model X.prog X.w) X.A (f (.int i t) (.int j u)) Q E s) :
  OpR X f (rI0 λi j=>.bl (g i j)):=by
 intro ξ s σ H x y v u Q I rx ry h
 obtain⟨i,j,rfl,rfl,q⟩:=h
 obtain⟨t,rfl⟩:=rx
 obtain⟨t',rfl⟩:=ry
 exact rule i j t t' s _ _ ⟨.bl (g i j),H,I,rfl,q⟩
def ba6(i j:Int):Prop:=0<j/\j<1073741824
def ba7(i j:Int):Prop:=0<=j/\j<=1000000/\i.natAbs<2^64
def CMul(i j:Int):Prop:=(-(2^64)<i/\i<2^64)\/(-(2^64)<j/\j<2^64)
def CMul.ok{i j:Int}(h:CMul i j):IntMulOk i j:=by
 rcases h with⟨h1,h2⟩|⟨h1,h2⟩
 .exact .of_left (intBits_le_64 h1 h2)
 .exact .of_right (intBits_le_64 h1 h2)
def Vv(k:Nat):(0:Int)<=2^k:=by
 rw[two_pow_cast]
 exact kU _
def bj8:OpR X (fc .Add) (rI0 λi j=>.int (i+j)):=bj7 λ_ _ _ _ _ _ _ q=>add_int q
def bk7:OpR X (fc .Sub) (rI0 λi j=>.int (i-j)):=bj7 λ_ _ _ _ _ _ _ q=>sub_int q
def bk3:OpR X (fc .Mult) (rI CMul λi j=>.int (i*j)):=opI λ_ _ _ _ _ _ _ hc q=>mul_int q hc.ok
def a05:OpR X (fc .FloorDiv) (rI ba6 λi j=>.int (i/j)):=opI λi j _ _ _ _ _ hc q=>by
 have h1:=hc.1
 have h2:=hc.2
 exact floordiv_int (by omega) (by rw[iH i (by omega)];exact q) (.inl (jB (by omega)))
def bk2:OpR X (fc .Mod) (rI (λ_ j=>0<j) λi j=>.int (i%j)):=opI λi j _ _ _ _ _ hc q=>by
 have h1:=hc
 exact mod_int' (by omega) (by rw[Int.fmod_eq_emod_of_nonneg i (by omega)];exact q)
def bk4:OpR X (fc .Pow) (rI ba7 λi j=>.int (i^j.toNat)):=opI λ_ _ _ _ _ _ _ hc q=>pow_int_small hc.1 hc.2.1 hc.2.2 q
def bk6:OpR X (fc .RShift) (rI (λ_ j=>0<=j) λi j=>.int (i/2^j.toNat)):=opI λi j _ _ _ _ _ hc q=>
 rshift_int hc (by rw[iH i (Vv _)];exact q)
def bj9:OpR X (fc .BitAnd) (rI0 λi j=>.int (Builtin.bitAnd i j)):=bj7 λ_ _ _ _ _ _ _ q=>and_int q
def unI{f:aj->Sem aj}{g:Int->Int}(rule:∀i t s Q E,Q (.int (g i) s.toks) {s with toks:=s.toks+1}->ba (model X.prog X.w) X.A (f (.int i t)) Q E s) :
  UnR X f (rU λi=>.int (g i)):=by
 intro ξ s σ H x v Q I rx h
 obtain⟨i,rfl,q⟩:=h
 obtain⟨t,rfl⟩:=rx
 exact rule i t s _ _ ⟨.int (g i),H,I.tok _,⟨_,rfl⟩,q⟩
def bq9:UnR X (unaryOp .USub) (rU λi=>.int (-i)):=unI λ_ _ _ _ _ q=>neg_int q
end
def bp9:V->V->Bool
 |.non,.non=>true | .non,.int _=>true | .int _,.non=>true | .non,.bl _=>true | .bl _,.non=>true | .non,.str _=>true | .str _,.non=>true
 |.int _,.int _=>true | .bl _,.bl _=>true | .str _,.str _=>true
 |.int _,.str _=>true | .str _,.int _=>true | .bl _,.str _=>true | .str _,.bl _=>true
 |_,_=>false
def rEq:R2:=λx y H Q=>bp9 x y=true/\Q (.bl (decide (x=y))) H
def rNe:R2:=λx y H Q=>bp9 x y=true/\Q (.bl (!decide (x=y))) H
def Ke{i j:Int}:decide (V.int i=V.int j)=(i==j):=by
 rw[gw]
 simp
def O2{i j:Bool}:decide (V.bl i=V.bl j)=(i==j):=by
 rw[gw]
 simp
def Kf{i j:Str}:decide (V.str i=V.str j)=(i==j):=by
 rw[gw]
 simp
section
variable {X:Cx}{a b c:Expr}{ta tb tc:TE}{pos:Pos}
def Jb{ξ:List (Addr×Obj)}{σ:St}{H:Hp}{s:aq}{Q:VK}{k k':Bool}(I:Inv X ξ σ H s)(q:Q (.bl k) H)(e:k=k'):EP X ξ σ Q (.bool k') s:=by
 subst e
 exact⟨.bl k,H,I,rfl,q⟩
def Xb:OpR X (eB .Eq) rEq:=by
 intro ξ s σ H x y v u Q I rx ry h
 obtain⟨hs,q⟩:=h
 cases x <;> cases y <;> first|cases(hs)|skip
 all_goals first|obtain⟨_,rfl⟩:=rx|cases rx
 all_goals first|obtain⟨_,rfl⟩:=ry|cases ry
 all_goals with_reducible first|refine eq_bool ?_|refine eq_int ?_|refine eq_str ?_|refine PySem.EqNone.eq_none_none ?_|refine PySem.EqNone.eq_none_bool ?_|refine PySem.EqNone.eq_none_int ?_|refine PySem.EqNone.eq_none_str ?_|refine PySem.EqNone.eq_bool_none ?_|refine PySem.EqNone.eq_int_none ?_|refine PySem.EqNone.eq_str_none ?_|refine PySem.EqMixed.eq_bool_str ?_|refine PySem.EqMixed.eq_int_str ?_|refine PySem.EqMixed.eq_str_bool ?_|refine PySem.EqMixed.eq_str_int ?_
 all_goals exact Jb I q (by first|exact O2|exact Ke|exact Kf|simp)
def Xc:OpR X (eB .NotEq) rNe:=by
 intro ξ s σ H x y v u Q I rx ry h
 obtain⟨hs,q⟩:=h
 cases x <;> cases y <;> first|cases(hs)|skip
 all_goals first|obtain⟨_,rfl⟩:=rx|cases rx
 all_goals first|obtain⟨_,rfl⟩:=ry|cases ry
 all_goals with_reducible first|refine ne_bool ?_|refine ne_int ?_|refine ne_str ?_|refine PySem.EqNone.ne_none_none ?_|refine PySem.EqNone.ne_none_bool ?_|refine PySem.EqNone.ne_none_int ?_|refine PySem.EqNone.ne_none_str ?_|refine PySem.EqNone.ne_bool_none ?_|refine PySem.EqNone.ne_int_none ?_|refine PySem.EqNone.ne_str_none ?_|refine PySem.EqMixed.ne_bool_str ?_|refine PySem.EqMixed.ne_int_str ?_|refine PySem.EqMixed.ne_str_bool ?_|refine PySem.EqMixed.ne_str_int ?_
 all_goals exact Jb I q (by first|exact(congrArg not O2)|exact(congrArg not Ke)|exact(congrArg not Kf)|simp)
def bv9:OpR X (eB .Lt) (rI0 λi j=>.bl (decide (i<j))):=b37 λ_ _ _ _ _ _ _ q=>lt_int q
def Zg:OpR X (eB .Lt) (λx y H Q=>∃i j,x=.str i/\y=.str j/\Q (.bl (decide (i.cps.toList<j.cps.toList))) H):=by
 intro ξ s σ H x y v u Q I rx ry h
 obtain⟨i,j,rfl,rfl,q⟩:=h
 obtain⟨t,rfl⟩:=rx
 obtain⟨t',rfl⟩:=ry
 exact lt_str (Jb I q rfl)
def bk1:OpR X (eB .Is) (λx y H Q=>y=.non/\Q (.bl (decide (x=.non))) H):=by
 intro ξ s σ H x y v u Q I rx ry h
 obtain⟨rfl,q⟩:=h
 cases ry
 refine is_none_gen (Jb I q ?_)
 cases x <;> first
  |(cases rx;rfl)
  |(obtain⟨t,rfl⟩:=rx;rfl)
  |(obtain⟨t,rfl,_⟩:=rx;rfl)
def a07:OpR X (eB .IsNot) (λx y H Q=>y=.non/\Q (.bl (!decide (x=.non))) H):=by
 intro ξ s σ H x y v u Q I rx ry h
 obtain⟨rfl,q⟩:=h
 cases ry
 refine isnot_none_gen (Jb I q ?_)
 cases x <;> first
  |(cases rx;rfl)
  |(obtain⟨t,rfl⟩:=rx;rfl)
  |(obtain⟨t,rfl,_⟩:=rx;rfl)
def OpR.or{f:aj->aj->Sem aj}{r r':R2}(h:OpR X f r)(h':OpR X f r'):OpR X f (λx y H Q=>r x y H Q\/r' x y H Q):=by
 intro ξ s σ H x y v u Q I rx ry q
 rcases q with q|q
 .exact h ξ s σ H x y v u Q I rx ry q
 .exact h' ξ s σ H x y v u Q I rx ry q
def a10{op:lT}{r:R2}(ho:OpR X (eB op) r)(ha:PE X a ta)(hb:PE X b tb)(hm:gL op b=false):PE X (.Compare a [op] [b] pos) (tOp r ta tb):=by
 intro ξ s σ H Q I h
 exact wpAny_Compare1 (bc6 ha hb I h λv u s2 x y H2 I2 rx ry q=>ho ξ s2 σ H2 x y v u Q I2 rx ry q) hm
def bs3(K:ae)(x:V)(H:Hp)(k:Bool):Prop:=
 match x with
 |.non=>k=false
 |.bl b=>k=b
 |.int i=>k=(i != 0)
 |.str y=>y.length<=sizeLine/\k=((y.length:Int) != 0)
 |.ref p=>(∃xs,SqL K H p xs/\k = !xs.isEmpty)\/(∃xs,SqT K H p xs/\k = !xs.isEmpty) \/ ∃kvs,H p=some (.dK kvs)/\k = !kvs.isEmpty
 |_=>False
def Tv{κ:Type}{kvs:List (κ×V)}{vs:List (κ×aj)}(r:KV kvs vs):(!vs.isEmpty) = !kvs.isEmpty:=by
 cases r <;> rfl
def K8{xs:List V}{χ:List aj}(r:Vals xs χ):(!χ.toArray.isEmpty) = !xs.isEmpty:=by
 cases r <;> simp
def Lb:(sizeLine:Nat)<2^63:=by rw[bM];decide
def Mf:bs2 X (λx H Q=>∃k,bs3 X.K x H k/\Q k H):=by
 intro ξ s σ H x v Q I rx h
 obtain⟨k,e,q⟩:=h
 have hs:=bM
 cases x with
 |non=>
  cases rx
  have e':=e
  subst e'
  exact truthy_none ⟨H,I,q⟩
 |bl b=>
  cases rx
  have e':=e
  subst e'
  exact eP ⟨H,I,q⟩
 |int i=>
  obtain⟨t,rfl⟩:=rx
  have e':=e
  subst e'
  exact PySem.P.truthy_int ⟨H,I,q⟩
 |str y=>
  obtain⟨t,rfl⟩:=rx
  obtain⟨hy,e'⟩:y.length<=sizeLine/\k=((y.length:Int) != 0):=e
  subst e'
  exact PySem.P.truthy_str (by omega) ⟨H,I.tok _,q⟩
 |ref p=>
  cases rx
  have e':=e
  rcases e' with⟨xs,hx,e'⟩|⟨xs,hx,e'⟩|⟨kvs,hx,e'⟩
  .subst e'
   obtain⟨χ,r,pl,hz⟩:=I.list hx
   have hlen:=r.length
   exact wpAny_truthy_list pl.isList (by simp only[aB];omega) ⟨H,I.tok _,by rw[K8 r];exact q⟩
  .subst e'
   obtain⟨χ,r,pl,hz⟩:=I.tuple hx
   have hlen:=r.length
   exact truthy_tuple pl (by simp only[aB];omega) ⟨H,I.tok _,by rw[K8 r];exact q⟩
  .subst e'
   obtain⟨hz,hS,vs,r,m⟩:kvs.length<=sizeLine/\(p==gj)=false/\∃vs,KV kvs vs/\s.heap.DictOf (Ce X.prog X.w) p vs:=I.hok p _ hx
   have hlen:=kW r
   exact wpAny_truthy_dict hS m (by omega) ⟨H,I.tok _,by rw[Tv r];exact q⟩
 |_=>exact(e).elim
def Uj:OpR X (fc .Add) (λx y H Q=>∃i j,x=.str i/\y=.str j/\i.length+j.length<=sizeLine/\Q (.str (i++j)) H):=by
 intro ξ s σ H x y v u Q I rx ry h
 obtain⟨i,j,rfl,rfl,hz,q⟩:=h
 obtain⟨t,rfl⟩:=rx
 obtain⟨t',rfl⟩:=ry
 exact bD (ag _) (add_str (λt' tk htk=>⟨.str (i++j),H,I.tok _ htk,⟨_,rfl⟩,q⟩) hz)
def Ei{x:V}{us:List aj}(r:Vals [x] us):∃u,us=[u]/\RelV x u:=by
 cases r with
 |cons r1 r2=>cases r2;exact⟨_,rfl,r1⟩
def as8{x y:V}{us:List aj}(r:Vals [x,y] us):∃u w',us=[u,w']/\RelV x u/\RelV y w':=by
 cases r with
 |cons r1 r2=>
  cases r2 with
  |cons r3 r4=>cases r4;exact⟨_,_,rfl,r1,r3⟩
def Nt:Cm X (.type "int") (λxs H Q=>(∃i,xs=[.int i]/\Q (.int i) H) \/ ∃k,xs=[.bl k]/\Q (.int (if k then 1 else 0)) H):=by
 intro ξ s σ H xs us Q I r h
 rcases h with⟨i,rfl,q⟩|⟨k,rfl,q⟩
 .obtain⟨u,rfl,t,rfl⟩:=Ei r
  exact call_int_int ⟨.int i,H,I,⟨_,rfl⟩,q⟩
 .obtain⟨u,rfl,r1⟩:=Ei r
  cases r1
  exact call_int_bool ⟨.int (if k then 1 else 0),H,I.tok _,⟨_,rfl⟩,q⟩
end
structure ObjM (h:Heap) (x dx C:Addr) (mA:Str->Option aj):Prop where
 obj:h.get? x=some (ce C dx)
 ns:h.Ns1 dx mA
 ne:dx≠x
def Y7{h:Heap}{dx:Addr}{mA:Str->Option aj}(n:h.Ns1 dx mA):∃od,h.get? dx=some od/\∀name,iQ name od=some (mA name):=by
 obtain⟨o,es,ep,ho,hd,hk,_,hm⟩:=n
 refine⟨o,ho,λname=>?_⟩
 have e:=hm name
 unfold nsFind findBy at e
 rw[<- Array.find?_toList] at e
 unfold iQ
 rw[hd]
 dsimp only
 split
 .rename_i y q
  rw[q] at e
  exact congrArg some e
 .rename_i q
  rw[q] at e
  have a:es.toList.any (·.refKey)=false:=by
   rw[List.any_eq_false]
   intro y hy
   obtain⟨z,t,hkey⟩:=hk y (Array.mem_toList_iff.mp hy)
   simp[DictEntry.refKey,hkey]
  have a':¬ es.toList.any (·.refKey)=true:=by rw[a];exact aR
  rw[if_neg a']
  exact congrArg some e
def ObjM.look{h:Heap}{x dx C:Addr}{mA:Str->Option aj}(I:ObjM h x dx C mA):∃od,PySem.W.InstAt h x (ce C dx) C (some od)/\∀name,iQ name od=some (mA name):=
 let⟨od,ho,hl⟩:=Y7 I.ns
 ⟨od,⟨I.obj,rfl,rfl,ho⟩,hl⟩
section
variable {prog:a7}{w:bL}{A:bJ}{E:aj->aq->Prop}{s:aq}{K:ae}{x dx C f:Addr}{mA:Str->Option aj}{name:Str}{v:aj}
def ax5{expr:Bool}{Q:aj->aq->Prop}(X:K.In s.heap)(I:ObjM s.heap x dx C mA)(hg:fm K C name=true)(hh:fK K C=true)(ha:bA K (.ref C) name=some none)(hv:mA name=some v)(hv':PySem.W.handedIn v=true)(h:Q v {s with toks:=s.toks+1}) :
  ba (model prog w) A (mE (.ref x) name expr) Q E s:=by
 obtain⟨od,J,hl⟩:=I.look
 exact PySem.W.get_value X J (e_ hg).1 (PySem.W.findObj_own hh ha rfl (by rw[hl,hv])) hv' h
def af0{pl:Sem Bool}{Q:aj×List aj->aq->Prop}(X:K.In s.heap)(I:ObjM s.heap x dx C mA)(hg:fm K C name=true)(hf:bA K (.ref C) name=some (some (.ref f)))(ht:eh K (.ref f)=true)(hv:mA name=none)(h:Q (.ref f,[.ref x]) s) :
  ba (model prog w) A (getMethod (.ref x) name pl) Q E s:=by
 obtain⟨od,J,hl⟩:=I.look
 exact PySem.W.method_fn X J (e_ hg).1 (e_ hg).2 hf (beq_iff_eq.mp ht) (by show(iQ name od).map (·.isSome)=some false;rw[hl,hv];rfl) h
def a45{ns:List Str}{Q:Unit->aq->Prop}(X:K.In s.heap)(I:ObjM s.heap x dx C mA)(hs:bA K (.ref C) "__setattr__"=some (some (.builtin "object.__setattr__")))(hp:g7 K C=true)(ht:jU K C name=some none)(hh:fK K C=true)(hw:jV mA ns)(hsz:ns.length<=sizeLine)(h:∀h',ObjM h' x dx C (λy=>if y=name then some v else mA y)->bT dx s.heap h'->Q () {s with heap:=h',toks:=s.toks+2}) :
  ba (model prog w) A (setAttr (.ref x) name v) Q E s:=by
 obtain⟨od,J,hl⟩:=I.look
 refine PySem.W.set_plain X J hs (PySem.W.osa_open X J hp ht λb=>?_)
 obtain⟨cd,hc,hd'⟩:=PySem.W.any_some hh
 have hx:=I.obj
 refine ah (ao (ah (ah (wpAny_loadPart hx (ah (PySem.W.Looks.here (PySem.W.looks_clsIn X hc) ?_))))))
 rw[hd']
 refine ao (ah (ao (ah ?_)))
 refine wpAny_nsSet1 I.ns λh' hn2 hs2=>?_
 obtain⟨oD,esD,epD,hoD,hdD,hcD⟩:=hn2.count (PySem.Within.cons name v hw)
 exact ah (wpAny_lookBehind hoD (by rw[hdD];exact pastItsLine_dict (aF hcD (by rw[aT];omega))) (ao (h _ ⟨(hs2.2 _ (bx I.ne)).trans I.obj,hn2,I.ne⟩ hs2)))
def ah0{R:mJ->aq->Prop}{vs:List aj}{kw:List (Str×aj)}(X:K.In s.heap)(hm:cB K C=true)(hi:bA K (.ref C) "__init__"=some (some (.ref f)))(hf:PySem.W.typeIn K (.ref f)=some (.type "function"))(h:ic (model prog w) (A.under (.builtin "type.__call__" ⟨.ref C::vs,kw⟩)) (.call (.ref f) ⟨.ref (s.heap.objs.size+1)::vs,kw⟩) (PySem.W.InitBack (s.heap.objs.size+1) R)
   {s with heap:=(s.heap.push bY).push (ce C s.heap.objs.size)}) :
  ic (model prog w) A (.call (.ref C) ⟨vs,kw⟩) R s:=by
 obtain⟨hh,g,d,t,os⟩:=s
 exact PySem.W.make_core (ju X hm) (kq X hi) (λself=>PySem.W.bind_fn X self hf) (.inl rfl) h
end
def He(f:Str)(v:V):List (Str×V)->List (Str×V)
 |[]=>[(f,v)]
 |(g,x)::r=>if g=f then(g,v)::r else(g,x)::He f v r
theorem Jx(f g:Str)(v:V):∀fs,(He f v fs).lookup g=if g=f then some v else fs.lookup g
 | []=>by
  show gY g [(f,v)]=_
  by_cases h:g=f
  .have hb:=beq_iff_eq.mpr h
   simp only[gY,hb,if_pos h]
  .have hb:=beq_eq_false_iff_ne.mpr h
   simp only[gY,hb,if_neg h]
 | (k,x)::r=>by
  have ih:=Jx f g v r
  rw[show He f v ((k,x)::r)=(if k=f then(k,v)::r else(k,x)::He f v r) from rfl]
  by_cases hk:k=f
  .rw[if_pos hk]
   by_cases h:g=k
   .have hb:=beq_iff_eq.mpr h
    simp only[gY,hb,if_pos (h.trans hk)]
   .have hb:=beq_eq_false_iff_ne.mpr h
    simp only[gY,hb,if_neg (λe:g=f=>h (e.trans hk.symm))]
  .rw[if_neg hk]
   by_cases h:g=k
   .have hb:=beq_iff_eq.mpr h
    simp only[gY,hb,if_neg (λe:g=f=>hk (h.symm.trans e))]
   .have hb:=beq_eq_false_iff_ne.mpr h
    simp only[gY,hb]
    exact ih
theorem Jd(f:Str)(v:V):∀fs,f∈(He f v fs).map (·.1)/\∀g,g∈fs.map (·.1)->g∈(He f v fs).map (·.1)
 |[]=>⟨by simp[He],λg h=>by simp at h⟩
 | (k,x)::r=>by
  obtain⟨i1,i2⟩:=Jd f v r
  rw[show He f v ((k,x)::r)=(if k=f then(k,v)::r else(k,x)::He f v r) from rfl]
  by_cases hk:k=f
  .rw[if_pos hk]
   subst hk
   exact⟨by simp,λg h=>by simpa using h⟩
  .rw[if_neg hk]
   refine⟨?_,λg h=>?_⟩
   .rw[a8]
    exact aK _ i1
   .rw[a8] at h ⊢
    rcases List.mem_cons.mp h with e|e
    .exact List.mem_cons.mpr (.inl e)
    .exact aK _ (i2 g e)
theorem Jw(f:Str)(v:V):∀fs,(He f v fs).length<=fs.length+1
 |[]=>by simp[He]
 | (k,x)::r=>by
  have ih:=Jw f v r
  rw[show He f v ((k,x)::r)=(if k=f then(k,v)::r else(k,x)::He f v r) from rfl]
  by_cases hk:k=f
  .rw[if_pos hk,aT,aT];omega
  .rw[if_neg hk,aT,aT];omega
def RelO.some_of{v:V}{o:Option aj}(r:RelO (some v) o):∃u,o=some u/\RelV v u:=by
 cases o with
 |none=>exact(r).elim
 |some u=>exact⟨u,rfl,r⟩
def RelO.none_of{o:Option aj}(r:RelO none o):o=none:=by
 cases o with
 |none=>rfl
 |some u=>exact(r).elim
def Yx{v:V}{u:aj}(r:RelV v u):PySem.W.handedIn u=true:=by
 cases v <;> first|(cases r;rfl)|(obtain⟨t,rfl⟩:=r;rfl)|(obtain⟨t,rfl,_⟩:=r;rfl)
section
variable {P:a7}{w:bL}{H H':Hp}{h h':Heap}{a C dx:Addr}{fs fs':List (Str×V)}
def Kh(hok:HOk P w H h)(e:H a=some (.ins C dx fs)):∃mA,ObjM h a dx C mA/\(∀f,RelO (fs.lookup f) (mA f))/\jV mA (fs.map (·.1))/\fs.length<=1000/\H dx=some (.own a):=by
 obtain⟨d,z,ne,ob,mA,n,r,q⟩:=(hok a _ e)
 exact⟨mA,⟨ob,n,ne⟩,r,q,z,d⟩
end
structure Cls (K:ae) (C:Addr):Prop where
 pg:fm K C bU=true
 hd:fK K C=true
 po:g7 K C=true
 sa:bA K (.ref C) "__setattr__"=some (some (.builtin "object.__setattr__"))
def Cls.get{K:ae}{C:Addr}(c:Cls K C)(f:Str):fm K C f=true:=c.pg
def NoAttr(K:ae)(C:Addr)(f:Str):Prop:=bA K (.ref C) f=some none
def NoAttr.taker{K:ae}{C:Addr}{f:Str}(n:NoAttr K C f):jU K C f=some none:=by
 unfold jU
 rw[n]
 rfl
structure Mi (K:ae) (C:Addr) (m:Str) (f:Addr):Prop where
 at_:bA K (.ref C) m=some (some (.ref f))
 fn:eh K (.ref f)=true
 kp:bP K (.ref f)=true
section
variable {X:Cx}{ξ:List (Addr×Obj)}{σ:St}{H:Hp}{s:aq}{a C dx:Addr}{fs:List (Str×V)}{f:Str}{v:V}{A:bJ}{E:aj->aq->Prop}
def Ts{b:Bool}{Q:aj->aq->Prop}(I:Inv X ξ σ H s)(e:H a=some (.ins C dx fs))(c:Cls X.K C)(n:NoAttr X.K C f)(l:fs.lookup f=some v)(h:∀u s',Inv X ξ σ H s'->RelV v u->Q u s'):ba (model X.prog X.w) A (mE (.ref a) f b) Q E s:=by
 obtain⟨mA,O,r,_,_,_⟩:=Kh I.hok e
 obtain⟨u,hu,ru⟩:=RelO.some_of (by rw[<- l];exact r f)
 exact ax5 I.kIn O (c.get f) c.hd n hu (Yx ru) (h u _ (I.tok _) ru)
def Tt{m:Str}{g:Addr}{pl:Sem Bool}{Q:aj×List aj->aq->Prop}(I:Inv X ξ σ H s)(e:H a=some (.ins C dx fs))(c:Cls X.K C)(k:Mi X.K C m g)(l:fs.lookup m=none)(h:Q (.ref g,[.ref a]) s):ba (model X.prog X.w) A (getMethod (.ref a) m pl) Q E s:=by
 obtain⟨mA,O,r,_,_,_⟩:=Kh I.hok e
 have hn:=RelO.none_of (by rw[<- l];exact r m)
 exact af0 I.kIn O (c.get m) k.at_ k.fn hn h
def Uv{y:V}{u:aj}{Q:Unit->aq->Prop}(I:Inv X ξ σ H s)(e:H a=some (.ins C dx fs))(c:Cls X.K C)(n:NoAttr X.K C f)(hl:fs.length<1000)(ry:RelV y u)(h:∀s',Inv X ξ σ (upd H a (.ins C dx (He f y fs))) s'->Q () s'):ba (model X.prog X.w) A (setAttr (.ref a) f u) Q E s:=by
 obtain⟨mA,O,r,wi,_,ho⟩:=Kh I.hok e
 have hz:(fs.map (·.1)).length<=sizeLine:=by rw[af,bM];omega
 refine a45 I.kIn O c.sa c.po n.taker c.hd wi hz λh' O' sb=>h _ ?_
 have hd:∃o,h'.get? dx=some o:=let⟨o,_,_,e',_⟩:=O'.ns;⟨o,e'⟩
 refine I.write (by rw[e];exact be) (.inr ho) (λb q hb z=>(sb.2 b hb).trans z) hd ?_
 refine⟨by rw[Ah O.ne];exact ho,?_,O.ne,O'.obj,_,O'.ns,λg=>?_,λg hg=>?_⟩
 .have:=Jw f y fs;omega
 .rw[Jx]
  by_cases q:g=f
  .rw[if_pos q,if_pos q];exact ry
  .rw[if_neg q,if_neg q];exact r g
 .by_cases q:g=f
  .rw[q];exact(Jd f y fs).1
  .refine (Jd f y fs).2 g (wi g λz=>hg ?_)
   show(if g=f then some u else mA g)=none
   rw[if_neg q];exact z
def Inv.made(I:Inv X ξ σ H s):Inv X ξ σ (upd (upd H s.heap.objs.size (.own (s.heap.objs.size+1))) (s.heap.objs.size+1) (.ins C s.heap.objs.size []))
  {s with heap:=(s.heap.push bY).push (ce C s.heap.objs.size)}:=by
 have e1:(s.heap.push bY).get? s.heap.objs.size=some bY:=aL s.heap rfl
 have e2:((s.heap.push bY).push (ce C s.heap.objs.size)).get? (s.heap.objs.size+1)=some (ce C s.heap.objs.size):=by
  have:=aL (s.heap.push bY) (o:=ce C s.heap.objs.size) rfl
  rwa[dF] at this
 have e3:(s.heap.push bY).Ns s.heap.objs.size (λ_=>none):=⟨bY,#[],_,e1,rfl,(λe he=>absurd he (by simp)),λ_=>rfl⟩
 have I1:=I.laid (o:=.own (s.heap.objs.size+1)) (λb u q=>ai _ q) (ag _) ⟨_,e1⟩
 refine I1.laid (λb u q=>ai _ q) (jL (dF _ _)) ?_
 have ne:s.heap.objs.size≠s.heap.objs.size+1:=aV (bS _)
 refine⟨by rw[Ah ne,Ab],bo _,ne,e2,λ_=>none,(Heap.Ns1.of_empty e3).at λo q=>ai _ q,λ_=>be,λy hy=>absurd rfl hy⟩
def Wc{prog:a7}{w:bL}{env:Env}{e:Expr}{f:Str}{pos:Pos}{s:aq}{Q:aj->aq->Prop}(hb:jm e f env (eval e env)=eval e env)(h:ba (model prog w) A (eval e env) (λo s₁=>ba (model prog w) A (mE o f true) Q E s₁) E s):ba (model prog w) A (eval (.Attribute e f pos) env) Q E s:=
 Attribute_any_ h (by rw[arm_eval_Attribute,hb])
end
section
variable {X:Cx}{ξ:List (Addr×Obj)}{σ:St}{H:Hp}{s:aq}{A:bJ}{E:aj->aq->Prop}{Q:aj->aq->Prop}{c:aj}{b:Bool}
inductive TyOf (K:ae) (H:Hp):V->aj->Prop where
 |non:TyOf K H .non (.type "NoneType")
 |bl (x:Bool):TyOf K H (.bl x) (.type "bool")
 |int (i:Int):TyOf K H (.int i) (.type "int")
 |str (x:Str):TyOf K H (.str x) (.type "str")
 |lst {a:Addr}{xs:List V} (e:H a=some (.lst xs)):TyOf K H (.ref a) (.type "list")
 |dK {a:Addr}{kvs:List (Key×V)} (e:H a=some (.dK kvs)):TyOf K H (.ref a) (.type "dict")
def Y2{x:V}{u t:aj}(I:Inv X ξ σ H s)(rx:RelV x u)(ty:TyOf X.K H x t)(e:fT X.K t c=some b)(h:∀tk,Q (.bool b) {s with toks:=tk}) :
  ba (model X.prog X.w) A (call (.builtin "isinstance") [u,c]) Q E s:=by
 cases ty with
 |non=>cases(rx);exact dP PySem.W.kitx_none I.kIn be e (λz=>nomatch z) h
 |bl y=>cases(rx);exact dP PySem.W.kitx_bool I.kIn be e (λz=>nomatch z) h
 |int i=>obtain⟨t,q⟩:=(rx);cases q;exact dP PySem.W.kitx_int I.kIn be e (λz=>nomatch z) h
 |str y=>obtain⟨t,q⟩:=(rx);cases q;exact dP PySem.W.kitx_str I.kIn be e (λz=>nomatch z) h
 |@lst a xs ea=>
  cases(rx)
  obtain⟨_,_,n,_,h1⟩:=(I.hok a _ ea)
  exact dP PySem.W.kitx_list I.kIn ⟨_,h1,rfl⟩ e (λz=>nomatch z) h
 |@dK a kvs ea=>
  cases(rx)
  obtain⟨_,_,vs,_,p⟩:=(I.hok a _ ea)
  obtain⟨o,es,ep,h1,h2,_⟩:=p
  exact dP PySem.W.kitx_dict I.kIn ⟨o,h1,h2.1⟩ e (λz=>nomatch z) h
end
structure Room (k:Nat) (A:bJ):Prop where
 hd:A.handled=none
 dp:A.depth+3*k+5<recursionLimit
 un:A.units+16*k+200<cLine
def Room.mono{j k:Nat}{A:bJ}(r:Room k A)(h:j<=k):Room j A:=⟨r.hd,by have:=r.dp;omega,by have:=r.un;omega⟩
theorem Room.deeper{k:Nat}{A:bJ}(r:Room (k+1) A)(env:Env):Room k (A.deeper env):=
 ⟨r.hd,by have:=r.dp;show A.depth+1+3*k+5<_;omega,by have:=r.un;show A.units+3+16*k+200<_;omega⟩
theorem Room.in1{k:Nat}{A:bJ}(r:Room (k+1) A):Room k A.in1:=
 ⟨r.hd,by have:=r.dp;show A.depth+3*k+5<_;omega,by have:=r.un;show A.units+1+16*k+200<_;omega⟩
def Ub{A:bJ}{C:Addr}{us:List aj}{kw:List (Str×aj)}:(A.under (.builtin "type.__call__" ⟨.ref C::us,kw⟩)).depth=A.depth+1:=by
 first|rfl|simp[lK,Code.weight,Code.isCreation,Code.isGuard,Code.isCaller,Code.frames,lL,guardIds]
def Uc{A:bJ}{C:Addr}{us:List aj}{kw:List (Str×aj)}:(A.under (.builtin "type.__call__" ⟨.ref C::us,kw⟩)).units=A.units+1:=by
 first|rfl|simp[lK,Code.cUnits,Code.frames,lL]
def Room.make{k:Nat}{A:bJ}(r:Room (k+1) A)(C:Addr)(us:List aj)(kw:List (Str×aj)):Room k (A.under (.builtin "type.__call__" ⟨.ref C::us,kw⟩)):=
 ⟨r.hd,by have:=r.dp;rw[Ub];omega,by have:=r.un;rw[Uc];omega⟩
theorem Room.depth{k:Nat}{A:bJ}(r:Room k A):A.depth<recursionLimit:=by have:=r.dp;omega
theorem Room.units{k:Nat}{A:bJ}(r:Room k A):A.units+64<cLine:=by have:=r.un;omega
def b49:TA:=λ_ H Q=>Q [] H
def bz0(ta:TE)(tr:TA):TA:=λσ H Q=>ta σ H λx H1=>tr σ H1 λxs H2=>Q (x::xs) H2
section
variable {X:Cx}{e:Expr}{es:List Expr}{te:TE}{t:TA}{pos:Pos}
def bk9:PA X [] b49:=λ_ _ _ _ H Q I h=>iW ⟨[],H,I,.nil,h⟩
def a08(ha:PE X e te)(hr:PA X es t)(hs:cZ (e::es) X.env=(false,eval e X.env)::cZ es X.env:=by rfl):PA X (e::es) (bz0 te t):=by
 intro pos ξ s σ H Q I h
 rw[hs]
 exact iJ (thn (ha ξ s σ H _ I h) λu s1 ⟨x,H1,I1,r1,q1⟩=>(thn (hr pos ξ s1 σ H1 _ I1 q1) λus s2 ⟨xs,H2,I2,r2,q2⟩=>⟨x::xs,H2,I2,.cons r1 r2,q2⟩))
def b53(t:TA):TE:=λσ H Q=>t σ H λxs H1=>xs.length<=sizeLine/\∀p,H1 p=none->Q (.ref p) (upd H1 p (.tup xs))
def b48(t:TA):TE:=λσ H Q=>t σ H λxs H1=>xs.length<=sizeLine/\∀p,H1 p=none->Q (.ref p) (upd H1 p (.lst xs))
def bl5{x1}(h:PA X es t):PE X (.Tuple es x1 pos) (b53 t):=by
 intro ξ s σ H Q I hq
 refine wpAny_Tuple_spliced (thn (h pos ξ s σ H _ I hq) λus s1 ⟨xs,H1,I1,r,z,q⟩=>⟨by rw[<- r.length];exact z,?_⟩)
 have hf:=I1.hok.fresh (ag _)
 refine⟨.ref s1.heap.objs.size,upd H1 s1.heap.objs.size (.tup xs),I1.laid (λb u e=>ai _ e) (ag _) ?_,rfl,q _ hf⟩
 exact⟨z,us,r,⟨_,aL _ rfl,rfl,_,rfl⟩⟩
def bl1(h:PA X es t):PE X (.List es pos) (b48 t):=by
 intro ξ s σ H Q I hq
 refine wpAny_List_spliced (thn (h pos ξ s σ H _ I hq) λus s1 ⟨xs,H1,I1,r,z,q⟩=>⟨by rw[<- r.length];exact z,?_⟩)
 have hf:=I1.hok.fresh (ag _)
 refine⟨.ref s1.heap.objs.size,upd H1 s1.heap.objs.size (.lst xs),I1.laid (λb u e=>ai _ e) (ag _) ?_,rfl,q _ hf⟩
 exact⟨z,us,0,r,aL _ rfl⟩
end
abbrev Sp:=List V->Hp->VK->XK->Prop
abbrev CXT:=List Env->Hp->aq->XK->aj->aq->Prop
structure Env0 (P:a7) (w:bL) (K:ae) (mg:Str->Option aj) (base:Heap) (A:bJ) (outer:List Env) (s:aq) (H:Hp):Prop where
 frames:A.frames=some outer
 mod:Mod K mg base
 bs:∀b o,base.get? b=some o->s.heap.get? b=some o/\H b=none
 bsz:base.objs.size<=s.heap.objs.size
 funs:s.heap.FunFrames base outer
 frf:∀b∈frs outer,H b=none
 hok:HOk P w H s.heap
 bare:kH s.gens
 tk:Nk K s.toks
def CE(outer:List Env)(P:a7)(w:bL)(H:Hp)(s:aq)(Q:VK)(u:aj)(s':aq):Prop:=
 ∃v H',(s'.os=s.os/\s.toks<=s'.toks)/\kH s'.gens/\Un (frs outer) [] H H' s.heap s'.heap/\HOk P w H' s'.heap/\RelV v u/\Q v H'
def CR(CX:CXT)(outer:List Env)(P:a7)(w:bL)(H:Hp)(s:aq)(Q:VK)(E:XK)(r:mJ)(s':aq):Prop:=
 match r with
 |.ok (.ret u)=>CE outer P w H s Q u s'
 |.ok _=>False
 |.error e=>CX outer H s E e s'
structure FnOk (P:a7) (w:bL) (K:ae) (mg:Str->Option aj) (base:Heap) (CX:CXT) (k:Nat) (f:Addr) (fd:bw) (ps:List Str) (sp:Sp):Prop where
 len:∀vs H Q E,sp vs H Q E->vs.length=ps.length
 run:∀(A:bJ)(outer:List Env)(s:aq)(H:Hp)(args:Args)(us:List aj)(vs:List V)(Q:VK)(E:XK),Room k A->Env0 P w K mg base A outer s H->kI s fd args (ps.zip us)->Vals vs us->sp vs H Q E ->
  ic (model P w) A (.call (.ref f) args) (CR CX outer P w H s Q E) s
def FnOk.imp{P:a7}{w:bL}{K:ae}{mg:Str->Option aj}{base:Heap}{CX:CXT}{k:Nat}{f:Addr}{fd:bw}{ps:List Str}{sp sp':Sp}(F:FnOk P w K mg base CX k f fd ps sp)(h:∀vs H Q E,sp' vs H Q E->sp vs H Q E):FnOk P w K mg base CX k f fd ps sp':=
 ⟨λvs H Q E q=>F.len vs H Q E (h _ _ _ _ q),λA outer s H args us vs Q E hr he hb hv hs=>F.run A outer s H args us vs Q E hr he hb hv (h _ _ _ _ hs)⟩
def Env0.make{P:a7}{w:bL}{K:ae}{mg:Str->Option aj}{base:Heap}{A:bJ}{outer:List Env}{s:aq}{H:Hp}(e:Env0 P w K mg base A outer s H)(C:Addr)(us:List aj)(kw:List (Str×aj)) :
  Env0 P w K mg base (A.under (.builtin "type.__call__" ⟨.ref C::us,kw⟩)) outer s H:=⟨by first|exact e.frames|(simpa [lK,Code.envs,lL,pushEnvs] using e.frames),e.mod,e.bs,e.bsz,e.funs,e.frf,e.hok,e.bare,e.tk⟩
theorem Env0.in1{P:a7}{w:bL}{K:ae}{mg:Str->Option aj}{base:Heap}{A:bJ}{outer:List Env}{s:aq}{H:Hp}(e:Env0 P w K mg base A outer s H) :
  Env0 P w K mg base A.in1 outer s H:=⟨e.frames,e.mod,e.bs,e.bsz,e.funs,e.frf,e.hok,e.bare,e.tk⟩
section
variable {X:Cx}{ξ:List (Addr×Obj)}{σ:St}{H:Hp}{s s':aq}
def Inv.env0(I:Inv X ξ σ H s):Env0 X.prog X.w X.K X.mg X.base X.A X.stack s H:=
 ⟨I.ok.frames,I.ok.mod,I.bs,aF I.ok.bsz I.sz,I.stack,I.stkFree,I.hok,I.bare,λx y t e=>aH (I.ok.tk x y t e) I.os.2⟩
def Inv.after{Q:VK}{u:aj}(I:Inv X ξ σ H s)(h:CE X.stack X.prog X.w H s Q u s'):EP X ξ σ Q u s':=by
 obtain⟨v,H',os,bare,un,hok,r,q⟩:=h
 obtain⟨hh,g,d,t,os'⟩:=s'
 obtain rfl:os'=s.os:=os.1
 exact⟨v,H',I.call un hok bare (λb z=>absurd z (by simp)) os.2,r,q⟩
end
def Binds(K:ae)(fd:bw)(ps:List Str)(ds:List aj):Prop:=
 ∀s us,K.In s.heap->(us++ds).length=ps.length->kI s fd ⟨us,[]⟩ (ps.zip (us++ds))
def Binds.all{K:ae}{fd:bw}{ps:List Str}(h:∀us,us.length=ps.length->mC fd ⟨us,[]⟩=pure (ps.zip us)):Binds K fd ps []:=λs us _ hl=>by
 rw[bG] at hl ⊢
 exact .of_eq (h us hl)
section
variable {X:Cx}{CX:CXT}{k:Nat}{f C:Addr}{fd:bw}{ps:List Str}{sp:Sp}{dvs:List V}{ds:List aj}{E:XK}{x m:Str}{p pos apos:Pos}{e o:Expr}{es:List Expr}{ta:TE}{t:TA}
structure Mk (K:ae) (C f:Addr):Prop where
 makes:cB K C=true
 init:bA K (.ref C) "__init__"=some (some (.ref f))
 fn:eh K (.ref f)=true
 kp:bP K (.ref C)=true
end
structure Hi (N P:List Str) (sc:Scope):Prop where
 kind:sc.kind=.function
 co:sc.isCoroutine=false
 gen:sc.isGenerator=false
 nd:N.Nodup
 pre:N.take P.length=P
 par:∀x∈P,sc.names.lookup x=some .local\/sc.names.lookup x=some .cell
 nofree:∀y∈sc.names,y.2≠.free
theorem Nr{kindOf:Str->Option cY}{x:Str}:∀{binds} {m},(∀v,(x,v)∉binds)->bindL kindOf binds m x=m x
 |[],_,_=>rfl
 | (n,v)::r,m,h=>by
  unfold bindL
  rw[Nr λw hw=>h w (aK _ hw)]
  split
  .have:x≠n:=by rintro rfl;exact h v aY
   simp[this]
  .rfl
theorem Np{kindOf:Str->Option cY}{x:Str}:∀{binds} {m},(∀v,(x,v)∉binds)->bindC kindOf binds m x=m x
 |[],_,_=>rfl
 | (n,v)::r,m,h=>by
  unfold bindC
  rw[Np λw hw=>h w (aK _ hw)]
  split
  .rfl
  .have:x≠n:=by rintro rfl;exact h v aY
   simp[this]
theorem Nq{kindOf:Str->Option cY}{x:Str}{v:aj}:∀{P:List Str}{vs:List aj}{i:Nat}{m:Str->Option aj},P.Nodup->P[i]?=some x->vs[i]?=some v->kindOf x=some .local ->
  bindL kindOf (P.zip vs) m x=some v
 |[],_,_,_,_,h,_,_=>by simp at h
 |_::_,[],_,_,_,_,h,_=>by simp at h
 | p::P,w::vs,0,m,nd,h1,h2,hk=>by
  simp at h1 h2;subst h1;subst h2
  show bindL kindOf ((p,w)::P.zip vs) m p=_
  unfold bindL
  rw[Nr λv hv=>(List.nodup_cons.mp nd).1 (jJ hv).1,if_pos hk]
  simp
 | p::P,w::vs,i+1,m,nd,h1,h2,hk=>by
  unfold bindL
  exact Nq (List.nodup_cons.mp nd).2 (h1) (h2) hk
theorem No{kindOf:Str->Option cY}{x:Str}{v:aj}:∀{P:List Str}{vs:List aj}{i:Nat}{m:Str->Option aj},P.Nodup->P[i]?=some x->vs[i]?=some v->kindOf x≠some .local ->
  bindC kindOf (P.zip vs) m x=some v
 |[],_,_,_,_,h,_,_=>by simp at h
 |_::_,[],_,_,_,_,h,_=>by simp at h
 | p::P,w::vs,0,m,nd,h1,h2,hk=>by
  simp at h1 h2;subst h1;subst h2
  show bindC kindOf ((p,w)::P.zip vs) m p=_
  unfold bindC
  rw[Np λv hv=>(List.nodup_cons.mp nd).1 (jJ hv).1,if_neg hk]
  simp
 | p::P,w::vs,i+1,m,nd,h1,h2,hk=>by
  unfold bindC
  exact No (List.nodup_cons.mp nd).2 (h1) (h2) hk
def start(N:List Str)(vs:List V):St:=vs.map some++b7 (N.length-vs.length) none
def Tk(CX:CXT)(P:a7)(w:bL)(K:ae)(mg:Str->Option aj)(base:Heap)(N:List Str)(qual:Str)(scope:Scope)(f:Addr)(cd:aj)(A:bJ)(outer:List Env)(s:aq)(H:Hp)(E:XK):Cx where
 prog:=P
 w:=w
 K:=K
 mg:=mg
 base:=base
 A:=A.deeper (lQ qual scope s.heap.objs.size f cd)
 N:=N
 s₀:=s
 H₀:=H
 env:=lQ qual scope s.heap.objs.size f cd
 outer:=outer
 stack:=lQ qual scope s.heap.objs.size f cd::outer
 ex:=[]
 calm:=true
 fn:=λ_=>true
 pn:=[]
 xe:=λe s'=>ba (model P w) (A.deeper (lQ qual scope s.heap.objs.size f cd)) (leaving (lQ qual scope s.heap.objs.size f cd) e) (λ_ s''=>CX outer H s E e s'') (λe' s''=>CX outer H s E e' s'') s'
def Ky{sc:Scope}{n:Nat}{x:Str}(h:sc.names.lookup x=some .cell):∃c,(cellsFrom n sc.names []).lookup x=some c:=by
 have q:=jE sc.names n [] (.inl h)
 exact Option.isSome_iff_exists.mp q
def Y1{CX:CXT}{P:a7}{w:bL}{K:ae}{mg:Str->Option aj}{base:Heap}{N ps:List Str}{qual:Str}{scope:Scope}{f:Addr}{cd:aj}{A:bJ}{outer:List Env}{s s1:aq}{H:Hp}{E:XK}{us:List aj}{vs:List V}(S:Hi N ps scope)(hd:A.handled=none)(e0:Env0 P w K mg base A outer s H)(htk:s.toks<=s1.toks)(hl:vs.length=ps.length)(r:Vals vs us)(x:InCallC s s.heap.objs.size (bindL (lQ qual scope s.heap.objs.size f cd).kindOf (ps.zip us) λ_=>none) (cellsFrom (s.heap.objs.size+1) scope.names []) (bindC (lQ qual scope s.heap.objs.size f cd).kindOf (ps.zip us) λ_=>none) s1) :
  Inv (Tk CX P w K mg base N qual scope f cd A outer s H E) [] (start N vs) H s1:=by
 have hpl:ps.length<=N.length:=by have:=congrArg eX S.pre;rw[aX] at this;omega
 obtain⟨h1,tk,rfl,hk⟩:=x.done
 have noA:∀b:Addr,b∉(Tk CX P w K mg base N qual scope f cd A outer s H E).ex:=λb z=>absurd (show b∈([]:List Addr) from z) (by simp)
 refine⟨⟨e0.mod,S.kind,rfl,rfl,ag _,λy z c h1 h2=>?_,λy hy=>?_,λy c _ h=>?_,λ_=>hd,Around.frames_deeper e0.frames,.inr ⟨rfl,rfl⟩,λb z=>absurd z (noA b),e0.bs,e0.bsz,λb _ _=>noA b,λb z=>absurd z (noA b),e0.funs,e0.frf,e0.tk⟩,
  ⟨rfl,htk⟩,e0.bare,Un.kept hk,⟨_,x.toInCall.ns,λi y v h1 h2 h3=>?_⟩,λy c h=>⟨_,x.cell y c h⟩,e0.hok.fresh (ag _),λy c h=>?_,λp hp=>absurd (show p∈([]:List (Addr×Obj)) from hp) (by simp),e0.hok.kept hk,?_⟩
 .exact name_of_addr x.apart (cC h1) (cC h2)
 .have hy:=hy
  rcases hy with hy|hy
  .exact Ky hy
  .exact absurd rfl (S.nofree _ (cC hy))
 .exact d9 (x.above y c (cC h))
 .have hi:i<vs.length:=by
   unfold start at h2
   by_cases hi:i<vs.length
   .exact hi
   .rw[bz (by simpa using hi)] at h2
    rw[List.getElem?_replicate] at h2
    split at h2 <;> cases h2
  have ha:vs[i]?=some v:=by
   unfold start at h2
   rw[bO (by simpa using hi),au] at h2
   cases e:vs[i]? with
   |none=>rw[e] at h2;cases h2
   |some a=>rw[e] at h2;cases h2;rfl
  obtain⟨u,hu,rv⟩:=r.get ha
  have hp:ps[i]?=some y:=by
   rw[<- S.pre,List.getElem?_take_of_lt (by omega)];exact h1
  have ndP:ps.Nodup:=by rw[<- S.pre];exact S.nd.sublist (List.take_sublist _ _)
  refine⟨u,rv,?_⟩
  rcases S.par y (aI hp) with k|k
  .exact .inl ⟨k,Nq ndP hp hu k⟩
  .obtain⟨c,e⟩:=Ky k
   refine .inr ⟨.inl k,c,e,?_⟩
   have q:=x.cell y c e
   rw[No ndP hp hu (by show scope.names.lookup y≠_;rw[k];decide)] at q
   exact q
 .exact e0.hok.fresh (d9 (x.above y c (cC h)))
 .unfold start
  show _=N.length
  rw[ak,af,List.length_replicate]
  omega
def bs6{CX:CXT}{P:a7}{w:bL}{K:ae}{mg:Str->Option aj}{base:Heap}{k:Nat}{f:Addr}{name qual:Str}{params:Arguments}{body:List Stmt}{scope:Scope}{dV kV doc pm θ ct oc:aj}{an od:Option Addr}{osl:Array (Option aj)}{N ps:List Str}{sp:Sp}(lk:K.lookup f=some ⟨oc,od,.func (dr name qual params body scope dV kV doc pm an θ ct),osl⟩)(hcd:fv K θ qual=true)(S:Hi N ps scope)(len:∀vs H Q E,sp vs H Q E->vs.length=ps.length)(hbody:∀A outer s H vs Q E,Room k (A.deeper (lQ qual scope s.heap.objs.size f θ))->sp vs H Q E ->
   ∃t,PSs (Tk CX P w K mg base N qual scope f θ A outer s H E) body t/\t {nx:=λ_ H'=>Q .non H',rt:=Q} (start N vs) H) :
  FnOk P w K mg base CX (k+1) f (dr name qual params body scope dV kV doc pm an θ ct) ps sp:=by
 refine⟨len,λA outer s H args us vs Q E hr e0 hb r hsp=>?_⟩
 have hl:=len _ _ _ _ hsp
 have KX:=e0.mod.kin.keeps λb o e=>(e0.bs b o e).1
 have lim:=e0.mod.nolimit.keeps λb o e=>(e0.bs b o e).1
 have hkind:∀y∈ps.zip us,scope.names.lookup y.1=some .local\/(scope.names.lookup y.1=some .cell/\((cellsFrom (s.heap.objs.size+1) scope.names []).lookup y.1).isSome=true):=fun⟨n,v⟩ hy=>by
  rcases S.par n (jJ hy).1 with q|q
  .exact .inl q
  .exact .inr ⟨q,jE _ _ _ (.inl q)⟩
 refine codeAny_call_function hr.depth (KX _ _ lk) rfl S.co S.gen rfl (PySem.W.codeRec_of KX hcd) (hb _ _ _ _ ?_)
 refine bD (ag _) (wpAny_newFunctionEnv_cells S.kind hkind λenv he s1 x htk=>?_)
 subst he
 refine⟨lim.keeps x.toInCall.keep,codeAny_func ?_⟩
 obtain⟨t,ht,hq⟩:=hbody A outer s H vs Q E (hr.deeper _) hsp
 have I:Inv (Tk CX P w K mg base N qual scope f θ A outer s H E) [] (start N vs) H s1:=Y1 S hr.hd e0 htk hl r x
 refine b9 (ht [] s1 (start N vs) H _ I hq) (λfl s' hs=>?_) λe s' hs=>hs
 have fin:∀{σ':St}{H':Hp}{v:V}{u:aj},Inv (Tk CX P w K mg base N qual scope f θ A outer s H E) [] σ' H' s'->RelV v u->Q v H'->CE outer P w H s Q u s':=
  λ{σ' H' v u} J rv q=>⟨v,H',J.os,J.bare,J.base,J.hok,rv,q⟩
 cases fl with
 |ret u=>
  obtain⟨v,σ',H',J,rv,q⟩:=hs
  exact fin J rv q
 |next=>
  obtain⟨σ',H',J,q⟩:=hs
  exact fin (v:=V.non) J rfl q
 |brk=>
  obtain⟨_,_,_,q⟩:=hs
  exact cA q
 |cont=>
  obtain⟨_,_,_,q⟩:=hs
  exact cA q
section
variable {X:Cx}{x:Str}{p pos:Pos}{e:Expr}{es:List Expr}{t:TA}{id T:String}{r:List V->Hp->VK->Prop}
def tCB(r:List V->Hp->VK->Prop)(t:TA):TE:=λσ H Q=>t σ H λvs H1=>r vs H1 Q
def aj9(hc:Cm X (.builtin id) r)(hg:Gl X x)(hm:X.mg x=none)(hv:cX x=some (.builtin id))(ha:PA X (e::es) t)(hn:x ≠ "__name__" := by decide)(hdb:(x==("__debug__" : Str))=false:=by decide)(he:cZ (e::es) X.env=(false,eval e X.env)::cZ es X.env:=by rfl)(hpl:(jv pos (cZ es X.env)).any (·.1)=false:=by rfl):PE X (.Call (.Name x p) (e::es) [] pos) (tCB r t):=by
 intro ξ s σ H Q I h
 exact dz (Em I hg hm hv (h9 (thn (ha pos ξ s σ H _ I h) λus s1 ⟨vs,H1,I1,r1,q1⟩=>hc ξ s1 σ H1 vs us Q I1 r1 q1) he hpl) hn hdb)
def Zh(hc:Cm X (.type T) r)(hg:Gl X x)(hm:X.mg x=none)(hv:cX x=some (.type T))(ha:PA X (e::es) t)(hn:x ≠ "__name__" := by decide)(hdb:(x==("__debug__" : Str))=false:=by decide)(he:cZ (e::es) X.env=(false,eval e X.env)::cZ es X.env:=by rfl)(hpl:(jv pos (cZ es X.env)).any (·.1)=false:=by rfl):PE X (.Call (.Name x p) (e::es) [] pos) (tCB r t):=by
 intro ξ s σ H Q I h
 exact dz (Em I hg hm hv (cT (thn (ha pos ξ s σ H _ I h) λus s1 ⟨vs,H1,I1,r1,q1⟩=>hc ξ s1 σ H1 vs us Q I1 r1 q1) he hpl) hn hdb)
end
end L2
namespace HT
open PySem PyProof.Rows
end HT
namespace L2
open PySem PySem.Spec PyProof.Rows
abbrev TO:=St->Hp->(Option Int->Hp->Prop)->Prop
def PO(X:Cx)(e:Option Expr)(t:TO):Prop:=
 ∀ξ s (σ:St) (H:Hp) (Q:Option Int->Hp->Prop),Inv X ξ σ H s->t σ H Q ->
  ba (model X.prog X.w) X.A (evalPart e X.env) (λu s'=>∃o H',Inv X ξ σ H' s'/\IsPart u o/\Q o H') X.xe s
def a56:TO:=λ_ H Q=>Q none H
section
variable {X:Cx}{e:Expr}{te:TE}{lo hi:Option Expr}{tl th:TO}{pos p2:Pos}
def a14:PO X none a56:=by
 intro ξ s σ H Q I h
 rw[evalPart_none]
 exact ao ⟨none,H,I,.none,h⟩
end
def ixN(n:Nat)(i:Int):Option Nat:=if 0<=i then(if i<n then some i.toNat else none) else if -(n:Int)<=i then some (i+n).toNat else none
def atI{α:Type}(xs:List α)(i:Int):Option α:=(ixN xs.length i).bind λj=>xs[j]?
def ay2{n:Nat}{i:Int}{j:Nat}(h:ixN n i=some j):seqIndex? i n=some j/\j<n /\ -(n:Int)<=i/\i<n:=by
 unfold ixN at h
 by_cases h0:0<=i
 .rw[if_pos h0] at h
  by_cases h1:i<n
  .rw[if_pos h1] at h
   have e:=bt h
   exact⟨by rw[mf h0 h1,e],by omega,by omega,h1⟩
  .rw[if_neg h1] at h;cases h
 .rw[if_neg h0] at h
  by_cases h1:-(n:Int)<=i
  .rw[if_pos h1] at h
   have e:=bt h
   exact⟨by rw[seqIndex_neg (by omega) h1,e],by omega,h1,by omega⟩
  .rw[if_neg h1] at h;cases h
def On{α:Type}{xs:List α}{i:Int}{v:α}(h:atI xs i=some v):∃j,seqIndex? i xs.length=some j/\xs[j]?=some v/\j<xs.length /\ -(xs.length:Int)<=i/\i<xs.length:=by
 unfold atI at h
 cases e:ixN xs.length i with
 |none=>rw[e] at h;cases h
 |some j=>
  rw[e] at h
  obtain⟨h1,h2,h3,h4⟩:=ay2 e
  exact⟨j,h1,h,h2,h3,h4⟩
def V6(b:Expr):Prop:=∀o i,subscripted b false o i=operate [o,i] (mF o i)
def IxR(X:Cx)(r:R2):Prop:=
 ∀value slice ξ s (σ:St) (H:Hp) (x y:V) (v u:aj) (Q:VK),Inv X ξ σ H s->RelV x v->RelV y u->r x y H Q ->
  subscripted slice false v u=operate [v,u] (mF v u)->ba (model X.prog X.w) X.A (subscriptTail value slice v u) (EP X ξ σ Q) X.xe s
def MtR(X:Cx)(id:String)(r:V->List V->Hp->VK->Prop):Prop:=
 ∀ξ s (σ:St) (H:Hp) (x:V) (xs:List V) (v:aj) (us:List aj) (Q:VK),Inv X ξ σ H s->RelV x v->Vals xs us->r x xs H Q ->
  ba (model X.prog X.w) X.A (call (.builtin id) (v::us)) (EP X ξ σ Q) X.xe s
section
variable {X:Cx}{a b:Expr}{ta tb:TE}{pos:Pos}
def bw2{r:R2}(hr:IxR X r)(ha:PE X a ta)(hb:PE X b tb)(hs:V6 b):PE X (.Subscript a b pos) (tOp r ta tb):=by
 intro ξ s σ H Q I h
 exact Subscript_ (bc6 ha hb I h λv u s2 x y H2 I2 rx ry q=>hr a b ξ s2 σ H2 x y v u Q I2 rx ry q (hs _ _))
def b40(K:ae):R2:=λx y H Q=>∃p xs i v,x=.ref p/\y=.int i/\SqL K H p xs/\atI xs i=some v/\Q v H
def b42(K:ae):R2:=λx y H Q=>∃p xs i v,x=.ref p/\y=.int i/\SqT K H p xs/\atI xs i=some v/\Q v H
def b41:R2:=λx y H Q=>∃z i c,x=.str z/\y=.int i/\z.length<=sizeLine/\atI z.cps.toList i=some c/\Q (.str ⟨#[c]⟩) H
def ay4:IxR X (b40 X.K):=by
 intro value slice ξ s σ H x y v u Q I rx ry h hs
 obtain⟨p,xs,i,z,rfl,rfl,hq,he,q⟩:=h
 cases rx
 obtain⟨t,rfl⟩:=ry
 obtain⟨χ,r,pl,hz⟩:=I.list hq
 obtain⟨j,h1,h2,h3,h4,h5⟩:=On he
 obtain⟨w,ew,rw'⟩:=r.get h2
 have hl:=r.length
 have hn:=Lb
 have fin:EP X ξ σ Q w s:=⟨z,H,I,rw',q⟩
 by_cases h0:0<=i
 .have hj:i.toNat=j:=by
   rw[mf h0 h5] at h1
   exact bt h1
  exact item_listR pl.isList h0 (by omega) (by rw[hj];simpa using ew) fin hs
 .have hj:(i+(χ.toArray.size:Int)).toNat=j:=by
   rw[seqIndex_neg (by omega) h4] at h1
   rw[aB,<- hl]
   exact bt h1
  exact jF pl.isList.typeIs slot_list_getitem.lookup
   (wpAny_getItem_list_neg pl.isList (by omega) (by rw[aB] <;> omega) (by omega) (by rw[hj];simpa using ew) ⟨rfl,fin⟩) hs
def be3:IxR X (b42 X.K):=by
 intro value slice ξ s σ H x y v u Q I rx ry h hs
 obtain⟨p,xs,i,z,rfl,rfl,hq,he,q⟩:=h
 cases rx
 obtain⟨t,rfl⟩:=ry
 obtain⟨χ,r,pl,hz⟩:=I.tuple hq
 obtain⟨j,h1,h2,h3,h4,h5⟩:=On he
 obtain⟨w,ew,rw'⟩:=r.get h2
 have hl:=r.length
 have hn:=Lb
 have fin:EP X ξ σ Q w s:=⟨z,H,I,rw',q⟩
 exact jF pl.typeIs slot_tuple_getitem.lookup
  (getItem_tuple pl (by omega) (by omega) (by rw[aB,<- hl];exact h1) (by simpa using ew) ⟨rfl,fin⟩) hs
def be2:IxR X b41:=by
 intro value slice ξ s σ H x y v u Q I rx ry h hs
 obtain⟨z,i,c,rfl,rfl,hz,he,q⟩:=h
 obtain⟨t,rfl⟩:=rx
 obtain⟨t',rfl⟩:=ry
 obtain⟨j,h1,h2,h3,h4,h5⟩:=On he
 have hl:z.cps.toList.length=z.length:=by simp[Str.length]
 rw[hl] at h1 h4 h5
 have hn:=Lb
 exact mH (typeIs_str s z t) slot_str_getitem.lookup (getItem_str (by
  have e1:decide (i < -(2^63:Int))=false:=decide_eq_false (by omega)
  have e2:decide (i ≥ 2^63)=false:=decide_eq_false (by omega)
  rw[e1,e2,Bool.or_false]) (by rw[h1];simpa using h2) ⟨.str ⟨#[c]⟩,H,I.tok _,⟨_,rfl⟩,q⟩) hs
def eqU(x:V)(u:aj):Bool:=match u with
 |.none=>eqV .non x
 |.bool b=>eqV (.bl b) x
 |.int i _=>eqV (.int i) x
 |.str z _=>eqV (.str z) x
 |_=>false
def ae1{x y:V}{u:aj}(r:RelV y u)(f:Cf y=true):eqU x u=eqV y x:=by
 cases y with
 |non=>cases r;rfl
 |bl b=>cases r;rfl
 |int i=>obtain⟨t,rfl⟩:=r;rfl
 |str z=>obtain⟨t,rfl⟩:=r;rfl
 |_=>exact absurd (f) aR
theorem Hk{x:V}:∀{xs} {us},Vals xs us->xs.all Cf=true->us.any (eqU x)=xs.any λy=>eqV y x
 |_,_,.nil,_=>rfl
 | y::xs,u::us,.cons r t,f=>by
  rw[cx,aW] at f
  rw[gB,gB,ae1 r f.1,Hk t f.2]
theorem Fv{A:bJ}{s:aq}{x:V}{v:aj}(rx:RelV x v)(fx:Cf x=true):∀{xs} {us},Vals xs us->xs.all Cf=true -> ∀u∈us,bZ A s u v (eqU x u)
 |_,_,.nil,_=>λu hu=>by cases hu
 | y::xs,u::us,.cons r t,f=>λu' hu=>by
  rw[cx,aW] at f
  rcases List.mem_cons.mp hu with rfl|hu
  .rw[ae1 r f.1];exact Tn r rx f.1 fx
  .exact Fv rx fx t f.2 u' hu
def inV(x:V)(xs:List V):Bool:=xs.any λy=>eqV y x
def rIn(K:ae)(neg:Bool):R2:=λx y H Q=>∃p xs,y=.ref p/\(SqL K H p xs\/SqT K H p xs)/\Cf x=true/\xs.all Cf=true/\Q (.bl (if neg then !inV x xs else inV x xs)) H
def Ze:OpR X (eB .In) (rIn X.K false):=by
 intro ξ s σ H x y v u Q I rx ry h
 obtain⟨p,xs,rfl,hq,fx,fs,q⟩:=h
 cases ry
 rcases hq with hq|hq
 .obtain⟨χ,r,pl,hz⟩:=I.list hq
  refine SeqAt.in_listAt (eqU x) pl.isList (λw hw=>Fv rx fx r fs w (by simpa using hw)) ⟨.bl _,H,I,rfl,?_⟩
  rw[show χ.toArray.any (eqU x)=χ.any (eqU x) by simp,Hk r fs]
  exact q
 .obtain⟨χ,r,pl,hz⟩:=I.tuple hq
  refine SeqAt.in_tupleAt (eqU x) pl (λw hw=>Fv rx fx r fs w (by simpa using hw)) ⟨.bl _,H,I,rfl,?_⟩
  rw[show χ.toArray.any (eqU x)=χ.any (eqU x) by simp,Hk r fs]
  exact q
def Pm:OpR X (eB .NotIn) (rIn X.K true):=by
 intro ξ s σ H x y v u Q I rx ry h
 obtain⟨p,xs,rfl,hq,fx,fs,q⟩:=h
 cases ry
 rcases hq with hq|hq
 .obtain⟨χ,r,pl,hz⟩:=I.list hq
  refine SeqAt.notIn_listAt (eqU x) pl.isList (λw hw=>Fv rx fx r fs w (by simpa using hw)) ⟨.bl _,H,I,rfl,?_⟩
  rw[show χ.toArray.any (eqU x)=χ.any (eqU x) by simp,Hk r fs]
  exact q
 .obtain⟨χ,r,pl,hz⟩:=I.tuple hq
  refine SeqAt.notIn_tupleAt (eqU x) pl (λw hw=>Fv rx fx r fs w (by simpa using hw)) ⟨.bl _,H,I,rfl,?_⟩
  rw[show χ.toArray.any (eqU x)=χ.any (eqU x) by simp,Hk r fs]
  exact q
def Os:Cm X (.builtin "len") (λxs H Q=>∃p ys,xs=[.ref p]/\(SqL X.K H p ys\/SqT X.K H p ys)/\Q (.int ys.length) H):=by
 intro ξ s σ H xs us Q I r h
 obtain⟨p,ys,rfl,hq,q⟩:=h
 obtain⟨u,rfl,rx⟩:=Ei r
 cases rx
 have hn:=Lb
 rcases hq with hq|hq
 .obtain⟨χ,r',pl,hz⟩:=I.list hq
  have hlen:=r'.length
  exact Calls.call_len_list pl.isList (by simp only[aB] <;> omega) ⟨.int ys.length,H,I.tok _,⟨s.toks+1,by rw[aB,hlen]⟩,q⟩
 .obtain⟨χ,r',pl,hz⟩:=I.tuple hq
  have hlen:=r'.length
  exact len_tuple pl (by simp only[aB] <;> omega) ⟨.int ys.length,H,I.tok _,⟨s.toks+1,by rw[aB,hlen]⟩,q⟩
def Ot:Cm X (.builtin "len") (λxs H Q=>∃z,xs=[.str z]/\z.length<=sizeLine/\Q (.int z.length) H):=by
 intro ξ s σ H xs us Q I r h
 obtain⟨z,rfl,hz,q⟩:=h
 obtain⟨u,rfl,t,rfl⟩:=Ei r
 have hn:=Lb
 exact len_str (by omega) ⟨.int z.length,H,I.tok _,⟨_,rfl⟩,q⟩
def Ou:Cm X (.type "list") (λxs H Q=>∃p ys,xs=[.ref p]/\(SqL X.K H p ys\/SqT X.K H p ys)/\∀l,H l=none->Q (.ref l) (upd H l (.lst ys))):=by
 intro ξ s σ H xs us Q I r h
 obtain⟨p,ys,rfl,hq,q⟩:=h
 obtain⟨u,rfl,rx⟩:=Ei r
 cases rx
 have fin:∀χ,Vals ys χ->ys.length<=sizeLine -> ∀h' c',(∀b o',s.heap.get? b=some o'->h'.get? b=some o') ->
   h'.get? s.heap.objs.size=some {cls:=.type "list", dict:=none,data:=.seq χ.toArray c',slots:=#[]}->EP X ξ σ Q (.ref s.heap.objs.size) {s with heap:=h'}:=λχ r' hz h' c' kp e=>
  ⟨.ref s.heap.objs.size,_,I.laid kp (ag _) (show ObjOk X.prog X.w _ h' _ (.lst ys) from⟨hz,χ,c',r',e⟩),rfl,q _ (I.hok.fresh (ag _))⟩
 rcases hq with hq|hq
 .obtain⟨χ,r',pl,hz⟩:=I.list hq
  have hlen:=r'.length
  obtain⟨o,ho,hc,n,hd⟩:=pl.isList
  exact call_list_seq p (.inl rfl) ho hc hd (λh' c' kp e=>fin χ r' hz h' c' kp e) (by simp only[aB] <;> omega)
 .obtain⟨χ,r',pl,hz⟩:=I.tuple hq
  have hlen:=r'.length
  obtain⟨o,ho,hc,n,hd⟩:=pl
  exact call_list_seq p (.inr rfl) ho hc hd (λh' c' kp e=>fin χ r' hz h' c' kp e) (by simp only[aB] <;> omega)
def Mm:Cm X (.type "tuple") (λxs H Q=>∃p ys,xs=[.ref p]/\((SqL X.K H p ys/\∀l,H l=none->Q (.ref l) (upd H l (.tup ys)))\/(SqT X.K H p ys/\Q (.ref p) H))):=by
 intro ξ s σ H xs us Q I r h
 obtain⟨p,ys,rfl,h⟩:=h
 obtain⟨u,rfl,rx⟩:=Ei r
 cases rx
 rcases h with⟨hq,q⟩|⟨hq,q⟩
 .obtain⟨χ,r',pl,hz⟩:=I.list hq
  have hlen:=r'.length
  refine call_tuple_list pl.isList (λh' kp=>?_) (by simp only[aB] <;> omega)
  have I1:=I.kept kp
  have I2:Inv X ξ σ (upd H h'.objs.size (.tup ys)) {s with heap:=h'.push {cls:=.type "tuple", data:=.seq χ.toArray}}:=
   I1.laid (λb o e=>ai _ e) (ag _) (⟨hz,χ,r',IsTup.new _ _⟩)
  exact⟨.ref h'.objs.size,_,I2,rfl,q _ (I1.hok.fresh (ag _))⟩
 .obtain⟨χ,r',pl,hz⟩:=I.tuple hq
  exact call_tuple_same pl ⟨.ref p,H,I,rfl,q⟩
def tyV(K:ae)(T:String)(x:V)(H:Hp):Prop:=match x with
 |.str _=>T="str"
 |.stk _ _ _=>T="str"
 |.int _=>T="int"
 |.ref p=>(T="list" /\ ∃xs,SqL K H p xs)\/False\/(T="dict" /\ ((∃kvs,H p=some (.dK kvs))\/False))\/(T="dict" /\ ∃u kvs,H p=some (.frz u (.dK kvs)))
 |_=>False
def as7{ξ:List (Addr×Obj)}{σ:St}{H:Hp}{s:aq}{T:String}{x:V}{v:aj}(I:Inv X ξ σ H s)(r:RelV x v)(ty:tyV X.K T x H) :
  s.TypeIs v T/\∀a,v=.ref a -> ∃ob,s.heap.get? a=some ob/\ob.dict=none:=by
 cases x with
 |str z=>
  obtain⟨t,rfl⟩:=r
  cases(ty)
  exact⟨typeIs_str s z t,λ_ e=>nomatch e⟩
 |stk z n e=>
  obtain⟨t,rfl,_⟩:=r
  cases(ty)
  exact⟨typeIs_str s z t,λ_ e=>nomatch e⟩
 |int i=>
  obtain⟨t,rfl⟩:=r
  cases(ty)
  exact⟨typeIs_int s i t,λ_ e=>nomatch e⟩
 |ref p=>
  cases r
  rcases ty with⟨rfl,xs,hq⟩|z|⟨rfl,hk⟩|z
  .obtain⟨χ,_,pl,_⟩:=I.list hq
   refine⟨pl.isList.typeIs,λa e=>?_⟩
   cases e
   obtain⟨o,n,e,c,hd,_⟩:=pl
   exact⟨o,e,hd⟩
  .exact z.elim
  .obtain⟨o,e,ex⟩:∃o,s.heap.get? p=some o/\o.ExactDict:=by
    obtain⟨kvs,hk⟩:=hk.resolve_right id
    obtain⟨_,_,_,_,o,_,_,e,ex,_⟩:=I.hok p _ hk
    exact⟨o,e,ex⟩
   refine⟨⟨o,e,ex.1⟩,λa e2=>?_⟩
   cases e2
   exact⟨o,e,ex.2.1⟩
  .obtain⟨rfl,u,kvs,hk⟩:=z
   obtain⟨_,_,_,_,_,o,_,_,e,ex,_⟩:=I.hok p _ hk
   refine⟨⟨o,e,ex.1⟩,λa e2=>?_⟩
   cases e2
   exact⟨o,e,ex.2.1⟩
 |_=>exact cA ty
variable {o e:Expr}{es:List Expr}{to:TE}{t:TA}{name:Str}{apos cpos:Pos}{T id:String}{r:V->List V->Hp->VK->Prop}
end
def MtM(X:Cx)(id:String)(r:V->List V->Hp->VK->Prop):Prop:=
 ∀ξ s (σ:St) (H:Hp) (x:V) (xs:List V) (v:aj) (us:List aj) (Q:VK),Inv X ξ σ H s->RelV x v->Vals xs us->r x xs H Q ->
  ba (model X.prog X.w) X.A (call (.builtin id) (v::us)) (EP X ξ σ Q) X.xe s
theorem Vals.one:∀{x} {us},Vals [x] us -> ∃u,us=[u]/\RelV x u
 |_,_,.cons r .nil=>⟨_,rfl,r⟩
theorem Vals.two:∀{x y} {us},Vals [x,y] us -> ∃u v,us=[u,v]/\RelV x u/\RelV y v
 |_,_,_,.cons r (.cons q .nil)=>⟨_,_,rfl,r,q⟩
theorem Vals.zero:∀{us},Vals [] us->us=[]
 |_,.nil=>rfl
theorem Vals.dropLast{xs:List V}{us:List aj}(h:Vals xs us):Vals xs.dropLast us.dropLast:=by
 induction h with
 |nil=>exact .nil
 |cons r t ih=>
  cases t with
  |nil=>exact .nil
  |cons q t'=>exact .cons r ih
def To{α:Type}(l:List α):l.eraseIdx (l.length-1)=l.dropLast:=by
 induction l with
 |nil=>rfl
 |cons a r ih=>
  cases r with
  |nil=>rfl
  |cons b r=>
   have e:(a::b::r).length-1=((b::r).length-1)+1:=by
    have h1:(a::b::r).length=r.length+2:=rfl
    have h2:(b::r).length=r.length+1:=rfl
    omega
   rw[e,List.eraseIdx_cons_succ,ih]
   all_goals rfl
section
variable {X:Cx}{ξ:List (Addr×Obj)}{σ:St}{H:Hp}{s:aq}{l b:Addr}{xs ys zs:List V}
def Inv.lset{χ its':List aj}{n:Nat}{f:Array aj->Array aj}{t':Nat}(I:Inv X ξ σ H s)(hH:H l=some (.lst xs))(e:s.heap.get? l=some {cls:=.type "list", data:=.seq χ.toArray n})(hf:f χ.toArray=its'.toArray)(hv:Vals ys its')(hz:ys.length<=sizeLine)(ht:s.toks<=t':=by trivial) :
  Inv X ξ σ (upd H l (.lst ys)) {s with heap:=s.heap.update l (bv f),toks:=t'}:=by
 have q:=PySem.IsL.update e f
 rw[hf] at q
 refine I.write (by rw[hH];exact trivial) (.inl rfl) (λb' u hb hu=>(cf s.heap (bv f) (bx hb)).trans hu) ⟨_,q⟩ ?_
 exact⟨hz,its',_,hv,q⟩
def Inv.lnew{χ:List aj}{t':Nat}(I:Inv X ξ σ H s)(hv:Vals ys χ)(hz:ys.length<=sizeLine)(ht:s.toks<=t':=by trivial) :
  Inv X ξ σ (upd H s.heap.objs.size (.lst ys)) {s with heap:=s.heap.push {cls:=.type "list", data:=.seq χ.toArray},toks:=t'}:=
 I.laid (λ_ _ q=>ai _ q) (ag _) ⟨hz,χ,0,hv,aL _ rfl⟩ ht
theorem Inv.fresh(I:Inv X ξ σ H s):H s.heap.objs.size=none:=I.hok.fresh (ag _)
def Inv.lstM(I:Inv X ξ σ H s)(hH:H l=some (.lst xs)):xs.length<=sizeLine/\∃χ n,Vals xs χ/\xs.length=χ.length/\s.heap.get? l=some {cls:=.type "list", data:=.seq χ.toArray n}:=by
 obtain⟨z,χ,n,r,e⟩:=I.hok l _ hH
 exact⟨z,χ,n,r,r.length,e⟩
def Ri{n:Nat}(h:n<=sizeLine):ge n=false:=by
 exact decide_eq_false (by omega)
end
section
variable {X:Cx}
def Be:V->List V->Hp->VK->Prop:=λx vs H Q=>∃l xs y,x=.ref l/\vs=[y]/\H l=some (.lst xs)/\xs.length<sizeLine/\Q .non (upd H l (.lst (xs++[y])))
def Oa:MtM X "list.append" Be:=by
 intro ξ s σ H x vs v us Q I rx rv h
 obtain⟨l,xs,y,rfl,rfl,hH,hz,q⟩:=h
 cases rx
 obtain⟨u,rfl,ru⟩:=rv.one
 obtain⟨z,χ,n,r,hl,e⟩:=I.lstM hH
 refine gh F.slot_list_append ⟨_,e,rfl⟩ F.entry_list_append (F.args_list_append_2 _ _) (PySem.list_append l χ.toArray n u (by rw[aB];omega)) ⟨e,?_⟩
 refine⟨.non,_,I.lset hH e (by simp) (r.append (.cons ru .nil)) ?_,rfl,q⟩
 rw[ak,bK]
 omega
def Gi:V->List V->Hp->VK->Prop:=λx vs H Q=>∃l b xs zs,x=.ref l/\vs=[.ref b]/\H l=some (.lst xs)/\H b=some (.lst zs)/\xs.length+zs.length<=sizeLine/\Q .non (upd H l (.lst (xs++zs)))
def Zb:MtM X "list.extend" Gi:=by
 intro ξ s σ H x vs v us Q I rx rv h
 obtain⟨l,b,xs,zs,rfl,rfl,hH,hB,hz,q⟩:=h
 cases rx
 obtain⟨u,rfl,ru⟩:=rv.one
 cases ru
 obtain⟨z,χ,n,r,hl,e⟩:=I.lstM hH
 obtain⟨z2,its2,n2,r2,hl2,e2⟩:=I.lstM hB
 have hsz:χ.toArray.size+its2.toArray.size<=sizeLine:=by rw[aB,aB];omega
 have hlong:¬ (!χ.toArray.isEmpty&&ge (χ.toArray.size+its2.toArray.size))=true:=by
  rw[Ri hsz,iO]
  exact aR
 refine gh F.slot_list_extend ⟨_,e,rfl⟩ F.entry_list_extend (F.args_list_extend_2 _ _)
  (AutoSeq1.list_extend_list_list_0 l χ.toArray n b its2.toArray n2 hlong (by rw[aB];omega) (by omega)) ⟨e,e2,?_⟩
 refine⟨.non,_,I.lset hH e (by simp) (r.append r2) ?_,rfl,q⟩
 rw[ak]
 omega
def by0:V->List V->Hp->VK->Prop:=λx vs H Q=>∃l xs y,x=.ref l/\vs=[]/\H l=some (.lst xs)/\xs[xs.length-1]?=some y/\Q y (upd H l (.lst xs.dropLast))
def bg0:MtM X "list.pop" by0:=by
 intro ξ s σ H x vs v us Q I rx rv h
 obtain⟨l,xs,y,rfl,rfl,hH,hy,q⟩:=h
 cases rx
 have hus:=rv.zero
 subst hus
 obtain⟨z,χ,n,r,hl,e⟩:=I.lstM hH
 obtain⟨u,hu,ru⟩:=r.get hy
 have hy':χ.toArray[χ.toArray.size-1]?=some u:=by
  show χ.toArray[χ.length-1]?=some u
  rw[<- bW,<- hl]
  exact hu
 refine gh F.slot_list_pop ⟨_,e,rfl⟩ F.entry_list_pop (F.args_list_pop_1 _) (MeetsSeq.list_pop_last l χ.toArray n u hy' (by rw[aB];omega)) ⟨e,?_⟩
 refine⟨y,_,I.lset hH e ?_ r.dropLast ?_,ru,q⟩
 .rw[aB,gU,To]
 .rw[List.length_dropLast]
  omega
def Ur:V->List V->Hp->VK->Prop:=λx vs H Q=>∃l xs,x=.ref l/\vs=[]/\H l=some (.lst xs)/\Q .non (upd H l (.lst []))
def ai0:MtM X "list.clear" Ur:=by
 intro ξ s σ H x vs v us Q I rx rv h
 obtain⟨l,xs,rfl,rfl,hH,q⟩:=h
 cases rx
 have hus:=rv.zero
 subst hus
 obtain⟨z,χ,n,r,hl,e⟩:=I.lstM hH
 exact gh F.slot_list_clear ⟨_,e,rfl⟩ F.entry_list_clear (F.args_list_clear_1 _) (AutoSeq1.list_clear_list_0 l χ.toArray n (by rw[aB];omega)) ⟨e,⟨.non,_,I.lset (its':=[]) (ys:=[]) hH e rfl .nil (bo _),rfl,q⟩⟩
def bx9:R2:=λx y H Q=>∃l b xs zs,x=.ref l/\y=.ref b/\H l=some (.lst xs)/\H b=some (.lst zs)/\xs.length+zs.length<=sizeLine/\∀p,H p=none->Q (.ref p) (upd H p (.lst (xs++zs)))
def bk0:OpR X (fc .Add) bx9:=by
 intro ξ s σ H x y v u Q I rx ry h
 obtain⟨l,b,xs,zs,rfl,rfl,hH,hB,hz,q⟩:=h
 cases rx
 cases ry
 obtain⟨z,χ,n,r,hl,e⟩:=I.lstM hH
 obtain⟨z2,its2,n2,r2,hl2,e2⟩:=I.lstM hB
 refine PySem.P.add_list e e2 ?_ (by rw[aB,aB];omega)
 have ea:χ.toArray++its2.toArray=(χ++its2).toArray:=by simp
 rw[ea]
 exact⟨.ref _,_,I.lnew (r.append r2) (by rw[ak];omega),rfl,q _ I.fresh⟩
end
end L2
namespace Att
open PySem PySem.W PySem.Calls PyProof.Rows
def J9{P:Params}{h:Heap}:∀ns vs,WellAll P h vs (ns.map l_)->IntsAre vs ns:=by
 intro ns
 induction ns with
 |nil=>
  intro vs w
  rw[lN] at w
  cases w
  exact .nil
 |cons n ns ih=>
  intro vs w
  rw[a8] at w
  cases w with
  |cons a b=>
   cases a
   exact .cons _ _ (ih _ b)
def Zp{l:OpenLaw}{n:Nat}(hn:l.most=some n){P:Params}{h:Heap}{args:List mK}{vals:List aj}(hpre:l.row.toRowW.claim.pre args=true)(hwl:WellAll P h vals args) :
  ∃a vs ns,vals=[dE a]/\args=[WData.list (ns.map l_)]/\h.get? a=some {cls:=.type "list", data:=.seq vs.toArray}/\IntsAre vs ns/\ns.length<=n:=by
 have hsh:=(pre_splitW hpre).1
 have hc:=(pre_splitW hpre).2
 obtain⟨d,r,rfl,h1,h2⟩:=hasAllW_cons hsh
 obtain rfl:=hasAllW_nil h2
 obtain⟨xs,rfl,h3⟩:=hasW_list h1
 obtain⟨ns,rfl⟩:=items_int h3
 have hlen:ns.length<=n:=by
  have h4:(WTm.not (.lt (.lit (.int (n:Int))) (.len (.arg 0)))).holds [] {args:=[.list (ns.map .int)]}=true:=by
   have h4:=(holds_andW hc).1
   rw[hn] at h4
   exact h4
  have h5:=condW_of h4 (w_not (w_lt w_lit (w_len_list (w_arg rfl))))
  rw[af] at h5
  refine Nat.le_of_not_lt λq=>?_
  have q':(n:Int)<((ns.length:Nat):Int):=by omega
  first
   |(rw[decide_eq_true q'] at h5;exact absurd h5 (by decide))
   |(simp at h5;omega)
 cases hwl with
 |cons w1 w2=>
  cases w2
  cases w1 with
  |list ho hall=>exact⟨_,_,ns,rfl,rfl,ho,J9 ns _ hall,hlen⟩
def Zj(l:OpenLaw)(args:List mK):l.row.toRowW.claim.post args (.bool true) args=true:=
 postW_of
  (show WShape.has [] (.bool true) .bool=true by first|rfl|decide|simp[WShape.has,WShape.arms,WShape.armsAll])
  (w_eq_bool (w_res rfl) w_lit) rfl
end Att
namespace L2
open PySem PySem.Spec PyProof.Rows
theorem Ol:∀{vs} {ns},IntsAre vs ns->Vals (ns.map V.int) vs
 |_,_,.nil=>.nil
 |_,_,.cons n t h=>.cons ⟨t,rfl⟩ (Ol h)
def A5(s:Stmt)(j:Nat):Stmt:=match s with
 |.ClassDef _ _ _ body _ _ _ _ _ _ _=>body.getD j (.Pass ⟨0,0,0,0⟩)
 |_=>.Pass ⟨0,0,0,0⟩
def Di(s:Stmt):Arguments:=match s with
 |.FunctionDef _ a _ _ _ _ _ _ _ _=>a
 |_=>{posonlyargs:=[],args:=[],vararg:=none,kwonlyargs:=[],kw_defaults:=[],kwarg:=none,defaults:=[]}
def Cc(s:Stmt):List Stmt:=match s with
 |.FunctionDef _ _ b _ _ _ _ _ _ _=>b
 |_=>[]
def Ay(s:Stmt):Scope:=match s with
 |.FunctionDef _ _ _ _ _ _ sc _ _ _=>sc
 |_=>{kind:=.function,names:=[],isGenerator:=false,isCoroutine:=false}
abbrev CX0:CXT:=λ_ _ _ _ _ _=>False
structure Fun (K:ae) (x qual:Str) (st:Stmt) (f:Addr) (fd:bw):Prop where
 ex:∃(oc:aj)(od:Option Addr)(kV doc pm:aj)(an:Option Addr)(θ ct:aj)(osl:Array (Option aj)),
  fd=dr x qual (Di st) (Cc st) (Ay st) .none kV doc pm an θ ct/\K.lookup f=some ⟨oc,od,.func fd,osl⟩/\fv K θ qual=true
 kp:bP K (.ref f)=true
section
variable {P:a7}{w:bL}{K:ae}{mg:Str->Option aj}{base:Heap}
def Fun.binds{x qual:Str}{st:Stmt}{f:Addr}{fd:bw}{ps:List Str}(F:Fun K x qual st f fd)(h:∀kV doc pm an θ ct us,us.length=ps.length->mC (dr x qual (Di st) (Cc st) (Ay st) .none kV doc pm an θ ct) ⟨us,[]⟩=pure (ps.zip us)):Binds K fd ps []:=by
 obtain⟨oc,od,kV,doc,pm,an,θ,ct,osl,rfl,lk,hcd⟩:=F.ex
 exact .all (h kV doc pm an θ ct)
def O4{x qual:Str}{st:Stmt}{f:Addr}{oc:aj}{od an:Option Addr}{osl:Array (Option aj)}{kV doc pm θ ct:aj}(l:K.lookup f=some ⟨oc,od,.func (dr x qual (Di st) (Cc st) (Ay st) .none kV doc pm an θ ct),osl⟩)(c:fv K θ qual=true)(k:bP K (.ref f)=true):Fun K x qual st f (dr x qual (Di st) (Cc st) (Ay st) .none kV doc pm an θ ct):=⟨⟨oc,od,kV,doc,pm,an,θ,ct,osl,rfl,l,c⟩,k⟩
end
def Bf{c A B:Prop} [Decidable c](h1:c->A)(h2:¬ c->B):if c then A else B:=by
 by_cases h:c
 .rw[if_pos h]
  exact h1 h
 .rw[if_neg h]
  exact h2 h
def Same(H H':Hp):Prop:=∀b o,H b=some o->H' b=some o
def Same.refl(H:Hp):Same H H:=λ_ _ h=>h
def Same.trans{H H1 H2:Hp}(a:Same H H1)(b:Same H1 H2):Same H H2:=λc o h=>b c o (a c o h)
def Same.free{H H':Hp}(e:Same H H'){l:Addr}(h:H' l=Option.none):H l=Option.none:=by
 cases q:H l with
 |none=>rfl
 |some o=>
  rw[e l o q] at h
  cases h
def Cx.comp(X:Cx)(N':List Str)(scope:Scope)(cl:List (Str×Addr))(fp:List Addr)(C:Addr)(s:aq)(H:Hp)(xe:aj->aq->Prop):Cx:=
 {prog:=X.prog,w:=X.w,K:=X.K,mg:=X.mg,base:=X.base,A:=X.A,N:=N',s₀:=s,H₀:=H,env:=compEnvC scope cl C X.env,outer:=X.stack,stack:=X.stack,
  ex:=fp,fn:=λx=>(cl.lookup x).isNone,calm:=X.calm,pn:=[],xe:=xe}
def Yp(srcs:List (Option Nat))(σ:St):St:=srcs.map λo=>o.bind λj=>(σ[j]?).join
structure Ku (X:Cx) (N':List Str) (srcs:List (Option Nat)) (scope:Scope) (cl:List (Str×Addr)):Prop where
 clos:closureFor scope X.env=pure cl
 nocell:∀y∈scope.names,y.2≠.cell
 kind:scope.kind=.function
 names:∀y∈scope.names,y.2=.local->scope.names.lookup y.1=some .local
 sub:∀x c,cl.lookup x=some c->X.env.cells.lookup x=some c
 has:∀x,((jo scope X.env).names.lookup x=some .cell\/(jo scope X.env).names.lookup x=some .free) -> ∃c,cl.lookup x=some c
 len:srcs.length=N'.length
 src:∀(k j:Nat)(x:Str),N'[k]?=some x->srcs[k]?=some (some j)->X.N[j]?=some x/\(X.env.scope.names.lookup x=some .cell\/X.env.scope.names.lookup x=some .free) /\
  ((jo scope X.env).names.lookup x=some .cell\/(jo scope X.env).names.lookup x=some .free)
def Yf(X:Cx)(ifs:List Expr)(t:TT):Prop:=
 ∀ξ s (σ:St) (H:Hp) (Q:Bool->Hp->Prop),Inv X ξ σ H s->t σ H Q ->
  ba (model X.prog X.w) X.A (forIn ifs true λc r=>if r=true then do let ok <- isTrue c X.env (eval c X.env);pure (fC ok) else pure (fC r)) (TP X ξ σ Q) X.xe s
def b55:TT:=λ_ H Q=>Q true H
def ak2{X:Cx}:Yf X [] b55:=λ_ _ _ H _ I h=>wpAny_tests_nil ⟨H,I,h⟩
def ak3{X:Cx}{c:Expr}{t:TT}(h:PT X c t):Yf X [c] t:=λξ s σ H Q I q=>wpAny_tests_one (h ξ s σ H Q I q)
def ar8(srcs:List (Option Nat))(wi:TI)(g:TG)(tc:TT)(te:TE):TE:=λσ H Q=>wi σ H λJ H1=>∀D,H1 D=none ->
 ∃W:Nat->Nat->St->Hp->Prop,(∃m,W 0 m (Yp srcs σ) (upd H1 D (.lst [])))/\∀i m σ' H',W i m σ' H' ->
  (J.stop i H'/\Q (.ref D) H')\/(J.go i H'/\∃N:St->Hp->Prop,(∀ σ2 H2,N σ2 H2 -> ∃m',m'<m/\W (i+1) m' σ2 H2)/\∀x H2,J.yld i H' x H2->g x σ' H2 λσ3 H3=>tc σ3 H3 λb H4=>if b=true then
    te σ3 H4 λv H5=>∃ys,H5 D=some (.lst ys)/\ys.length<sizeLine/\N σ3 (upd H5 D (.lst (ys++[v])))
   else N σ3 H4)
section
variable {prog:a7}{w:bL}{A:bJ}{E:aj->aq->Prop}{R:mJ->aq->Prop}{s:aq}
def Ox{elt target iter:Expr}{ifs:List Expr}{scope:Scope}{pos:Pos}{it acc:aj}{env:Env}(I:Nat->aq->Prop)(turn:∀n s,I n s->ba (model prog w) A (j4 it) (λr s₁=>match r with
   |none=>R (.ok .next) s₁
   |some v=>ba (model prog w) A (jZ target it v) (λ_ s₀=>ba (model prog w) A (mq target env v) (λ_ s₂=>
     ba (model prog w) A (forIn ifs true λc r=>if r=true then do let ok <- isTrue c env (eval c env);pure (fC ok) else pure (fC r)) (λok s₃=>
      if ok=true then ba (model prog w) A (eval elt env) (λx s₄=>
       ba (model prog w) A (call (.builtin "list.append") [acc,x]) (λ_ s₅=>∃m,m<n/\I m s₅) (lG (model prog w) A env λe s'=>R (.error e) s') s₄) (lG (model prog w) A env λe s'=>R (.error e) s') s₃
      else ∃m,m<n/\I m s₃) (lG (model prog w) A env λe s'=>R (.error e) s') s₂) (lG (model prog w) A env λe s'=>R (.error e) s') s₀) (lG (model prog w) A env λe s'=>R (.error e) s') s₁) (lG (model prog w) A env λe s'=>R (.error e) s') s)(n:Nat)(h:I n s) :
  ic (model prog w) A (.compLoop (.ListComp elt [⟨target,iter,ifs,0⟩] scope pos) 0 it acc env) R s:=by
 refine codeAny_loop rfl I (λn s hI=>?_) n h
 refine wpAny_noted ?_
 rw[compTurn_list]
 refine ah (fO (ah (b9 (turn n s hI) (λr s₁ h₁=>?_) λ_ _ h'=>h')))
 cases r with
 |none=>exact ao h₁
 |some v=>
  refine ah (b9 h₁ (λ_ s₀ h₀=>?_) λ_ _ h'=>h')
  refine ah (b9 h₀ (λ_ s₂ h₂=>ah (b9 h₂ (λok s₃ h₃=>?_) λ_ _ h'=>h')) λ_ _ h'=>h')
  cases ok with
  |false=>exact ao ⟨rfl,h₃⟩
  |true=>
   exact ah (ah (b9 h₃ (λx s₄ h₄=>ah (b9 h₄ (λ_ s₅ h₅=>ao (ao ⟨rfl,h₅⟩)) λ_ _ h'=>h')) λ_ _ h'=>h'))
end
section
variable {X:Cx}{elt tg iter:Expr}{ifs:List Expr}{scope:Scope}{pos:Pos}{N':List Str}{srcs:List (Option Nat)}{cl:List (Str×Addr)}{wi:TI}{g:TG}{tc:TT}{te:TE}
def Th{xe:aj->aq->Prop}{ξ:List (Addr×Obj)}{σ:St}{H:Hp}{s:aq}{fp:List Addr}{C D:Addr}{h₁:Heap}{tk:Nat}(S:Ku X N' srcs scope cl)(I:Inv X ξ σ H s)(f:∀b∈fp,Ek X ξ H b)(fo:∀b∈fp,b<s.heap.objs.size)(hD:s.heap.objs.size<=D)(hC:s.heap.objs.size<=C)(hDC:C≠D)(hns:∃m,h₁.Ns C m)(old:∀b o,s.heap.get? b=some o->h₁.get? b=some o)(hacc:∃n,h₁.get? D=some {cls:=.type "list", data:=.seq ([]:List aj).toArray n})(ht:s.toks<=tk:=by trivial) :
  Inv (X.comp N' scope cl fp C s H xe) [] (Yp srcs σ) (upd H D (.lst [])) {s with heap:=h₁,toks:=tk}:=by
 have hfD:=I.hok.fresh hD
 have ok:(X.comp N' scope cl fp C s H xe).Ok:=by
  refine⟨I.ok.mod,S.kind,I.ok.glob,I.ok.blt,hC,λx y c a b=>I.ok.inj x y c (S.sub x c a) (S.sub y c b),S.has,λx c hf hl=>?_,I.ok.hd,I.ok.frames,.inl rfl,λb hb=>⟨?_,λx c hl=>?_⟩,I.bs,aF I.ok.bsz I.sz,λb o e hb=>?_,λb hb hfs=>?_,I.stack,I.stkFree,λx y t e=>aH (I.ok.tk x y t e) I.os.2⟩
  .have hl':cl.lookup x=some c:=hl
   have hf':(cl.lookup x).isNone=true:=hf
   rw[hl'] at hf'
   cases hf'
  .exact aV (aH (fo b hb) hC)
  .exact (f b hb).2.2.2.2.1 x c (S.sub x c hl)
  .rcases (f b hb).2.2.2.1 with z|z
   .exact I.ok.noex b o e z
   .exact absurd (aH (aQ e) (aF I.ok.bsz z)) (d_ _)
  .rcases List.mem_cons.mp (I.stkSub b hfs) with z|z
   .exact (f b hb).2.1 z
   .exact (f b hb).2.2.1 z
 obtain⟨m0,hns⟩:=hns
 obtain⟨nn,hacc⟩:=hacc
 refine⟨ok,⟨rfl,ht⟩,I.bare,Un.laid old hD hfD,⟨m0,hns,λk x v e1 e2 e3=>?_⟩,λx c hl=>?_,?_,λx c hl=>?_,λp hp=>absurd (show p∈([]:List (Addr×Obj)) from hp) (by simp),I.hok.laid old hD ⟨bo _,[],nn,.nil,hacc⟩,?_⟩
 ·-- the captured names
  have e1:=e1
  have e2:(srcs.map λo=>o.bind λj=>(σ[j]?).join)[k]?=some (some v):=e2
  rw[au] at e2
  cases hk:srcs[k]? with
  |none=>rw[hk] at e2;cases e2
  |some o=>
   rw[hk] at e2
   cases o with
   |none=>cases e2
   |some j=>
    have e2':(σ[j]?).join=some v:=bt e2
    have e3':σ[j]?=some (some v):=by
     cases hj:σ[j]? with
     |none=>rw[hj] at e2';cases e2'
     |some y=>rw[hj] at e2';exact congrArg some e2'
    obtain⟨a1,a2,a3⟩:=S.src k j x e1 hk
    obtain⟨m,hn,hl⟩:=I.loc
    obtain⟨u,r,l⟩:=hl j x v a1 e3' (a2.elim (λz=>.inr (.inl z)) λz=>.inr (.inr z))
    refine⟨u,r,.inr ⟨a3,?_⟩⟩
    obtain⟨c,hc⟩:=S.has x a3
    refine⟨c,hc,?_⟩
    rcases l with⟨z,_⟩|⟨_,c',hc',o,ho,hd⟩
    .have z':X.env.scope.names.lookup x=some .local:=z
     rcases a2 with q|q <;> rw[q] at z' <;> cases z'
    .have e:=S.sub x c hc
     rw[hc'] at e
     cases e
     exact⟨o,old _ o ho,hd⟩
 .obtain⟨v,o,ho,hd⟩:=I.cell x c (S.sub x c hl)
  exact⟨v,o,old _ o ho,hd⟩
 .show upd H D (.lst []) C=none
  rw[Ah hDC]
  exact I.hok.fresh hC
 .have hx:=S.sub x c hl
  obtain⟨v,o,ho,hd⟩:=I.cell x c hx
  rw[Ah (aV (aH (aQ ho) hD))]
  exact I.freeC x c hx
 .show (Yp srcs σ).length=N'.length
  unfold Yp
  rw[af,S.len]
def Ck(X:Cx)(scope:Scope)(cl:List (Str×Addr))(use:Option (aj->Sem Unit))(Q2:aj->aq->Prop)(D C:Addr):aj->aq->Prop:=
 lG (model X.prog X.w) X.A (compEnvC scope cl C X.env) λe s'=>compPost (model X.prog X.w) X.A X.xe use Q2 (.ref D) C (.error e) s'
def Nw{ξ:List (Addr×Obj)}{s:aq}{σ:St}{H:Hp}{Q:VK}{use:Option (aj->Sem Unit)}{Q2:aj->aq->Prop}(hc:X.calm=true)(S:Ku X N' srcs scope cl)(hi:PI X tg iter wi)(hb:∀fp C D s2 H2,Inv X ξ σ H2 s2->(∀b∈fp,Ek X ξ H2 b)->s2.heap.objs.size<=C->PG (X.comp N' scope cl fp C s2 H2 (Ck X scope cl use Q2 D C)) tg g/\Yf (X.comp N' scope cl fp C s2 H2 (Ck X scope cl use Q2 D C)) ifs tc/\PE (X.comp N' scope cl fp C s2 H2 (Ck X scope cl use Q2 D C)) elt te)(I:Inv X ξ σ H s)(h:ar8 srcs wi g tc te σ H Q)(fin:∀(D C:Addr)(H':Hp)(s':aq),Inv X ξ σ H' s'->(∃m,s'.heap.Ns C m)->Ek X ξ H' C->Q (.ref D) H'->compPost (model X.prog X.w) X.A X.xe use Q2 (.ref D) C (.ok .next) s')(hs:∀x,fN iter X.env x=pure x) :
  ba (model X.prog X.w) X.A (comprehension (.ListComp elt [⟨tg,iter,ifs,0⟩] scope pos) scope X.env (firstIterPos [⟨tg,iter,ifs,0⟩] pos) (newList []) false (eval iter X.env) use) Q2 X.xe s:=by
 refine wpAny_comprehension_free rfl hs S.clos S.kind S.names (thn (hi ξ s σ H _ I h) λv s1 h1=>thn h1 λitv s2 h2=>?_)
 obtain⟨it,fp,tn,J,H2,e,I2,T,st2,f2,q2⟩:=h2
 subst e
 refine cN (wpAny_newFunctionEnv S.nocell (by intro y hy;simp at hy) (λh₁ hns₁ hsb₁=>?_) S.kind)
 generalize hH2:s2.heap.push {cls:=.type "list", dict:=none,data:=.seq ([]:List aj).toArray}=G2 at hns₁ hsb₁ ⊢
 have hCe:G2.objs.size=s2.heap.objs.size+1:=by rw[<- hH2,dF]
 have hDC:G2.objs.size≠s2.heap.objs.size:=by rw[hCe];exact dG (bS _)
 have hCle:s2.heap.objs.size<=G2.objs.size:=by rw[hCe];exact cS _
 have old:∀b o,s2.heap.get? b=some o->h₁.get? b=some o:=λb o e=>
  hsb₁.extBut b o (aV (aH (aQ e) hCle)) (ai _ (hH2▸ai _ e))
 have hacc:∃n,h₁.get? s2.heap.objs.size=some {cls:=.type "list", data:=.seq ([]:List aj).toArray n}:=⟨_,hsb₁.extBut _ _ (bx hDC) (ai _ (hH2▸aL _ rfl))⟩
 have fo:∀b∈fp,b<s2.heap.objs.size:=λb hb=>by
  obtain⟨o,ho,_⟩:=T.obj _ _ st2 b hb
  exact aQ ho
 have st3:=T.keep _ _ _ st2 λb _ o e=>old b o e
 obtain⟨hg,ht,he⟩:=hb fp G2.objs.size s2.heap.objs.size s2 H2 I2 f2 hCle
 obtain⟨W,⟨m0,w0⟩,turn⟩:=q2 s2.heap.objs.size (I2.hok.fresh (ag _))
 have loop:∀s3:aq,s3={s2 with heap:=h₁,toks:=s2.toks+([]:List (Str×aj)).length} ->
   ic (model X.prog X.w) X.A (.compLoop (.ListComp elt [⟨tg,iter,ifs,0⟩] scope pos) 0 (.ref it) (.ref s2.heap.objs.size) (compEnvC scope cl G2.objs.size X.env))
    (compPost (model X.prog X.w) X.A X.xe use Q2 (.ref s2.heap.objs.size) G2.objs.size) s3:=by
  rintro s3 rfl
  have I3:Inv (X.comp N' scope cl fp G2.objs.size s2 H2 (Ck X scope cl use Q2 s2.heap.objs.size G2.objs.size)) [] (Yp srcs σ) (upd H2 s2.heap.objs.size (.lst [])) {s2 with heap:=h₁,toks:=s2.toks+([]:List (Str×aj)).length}:=
   Th S I2 f2 fo (ag _) hCle hDC ⟨_,hns₁⟩ old hacc
  have stat:∀{H':Hp},(∀b∈fp,H' b=none) -> ∀b∈fp,Ek (X.comp N' scope cl fp G2.objs.size s2 H2 (Ck X scope cl use Q2 s2.heap.objs.size G2.objs.size)) [] H' b:=λhn b hb=>
   ⟨hn b hb,aV (aH (fo b hb) hCle),(λz=>(List.mem_cons.mp (I2.stkSub b z)).elim (f2 b hb).2.1 (f2 b hb).2.2.1),.inl hb,λx c hl=>(f2 b hb).2.2.2.2.1 x c (S.sub x c hl),λp hp=>absurd (show p∈([]:List (Addr×Obj)) from hp) (by simp)⟩
  refine Ox (λn s'=>∃i σ' H',Inv (X.comp N' scope cl fp G2.objs.size s2 H2 (Ck X scope cl use Q2 s2.heap.objs.size G2.objs.size)) [] σ' H' s'/\tn i s'.heap/\(∀b∈fp,H' b=none)/\W i n σ' H') ?_ m0
   ⟨0,_,_,I3,st3,λb hb=>by rw[Ah (aV (fo b hb))];exact(f2 b hb).1,w0⟩
  rintro n s4 ⟨i,σ4,H4,I4,st4,fr4,w4⟩
  rcases turn i n σ4 H4 w4 with⟨stop,qn⟩|⟨go,NN,hNN,step⟩
  .refine thn (T.done (X.comp N' scope cl fp G2.objs.size s2 H2 (Ck X scope cl use Q2 s2.heap.objs.size G2.objs.size)) rfl rfl rfl hc i [] s4 σ4 H4 _ I4 (stat fr4) st4 stop) λr s5 ⟨hr,I5⟩=>?_
   subst hr
   obtain⟨m5,hn5,_⟩:=I5.loc
   have I6:=I2.call' I5.os I5.base I5.hok I5.bare λb hb=>⟨(f2 b hb).2.2.2.1,(f2 b hb).2.1,(f2 b hb).2.2.2.2.1,(f2 b hb).2.2.2.2.2⟩
   exact fin _ _ H4 s5 I6 ⟨m5,hn5⟩ (I2.fpOk hCle I5.free) qn
  .refine thn (T.item (X.comp N' scope cl fp G2.objs.size s2 H2 (Ck X scope cl use Q2 s2.heap.objs.size G2.objs.size)) rfl rfl rfl hc i [] s4 σ4 H4 _ I4 (stat fr4) st4 go) λr s5 ⟨u,hr,h5⟩=>?_
   subst hr
   refine thn h5 λ_ s6 ⟨x,H6,I6,r6,y6,st6,fr6⟩=>?_
   have I6':=I6.pinned (stat fr6) (T.obj _ _ st6)
   refine thn (hg _ s6 σ4 H6 x u _ I6' r6 (step x H6 y6)) λ_ s7 ⟨σ7,H7,I7,q7⟩=>?_
   have again:∀{s9:aq}{H9:Hp},Inv (X.comp N' scope cl fp G2.objs.size s2 H2 (Ck X scope cl use Q2 s2.heap.objs.size G2.objs.size)) ([]++Jh fp s6.heap) σ7 H9 s9->NN σ7 H9 ->
     ∃m,m<n/\∃i σ' H',Inv (X.comp N' scope cl fp G2.objs.size s2 H2 (Ck X scope cl use Q2 s2.heap.objs.size G2.objs.size)) [] σ' H' s9/\tn i s9.heap/\(∀b∈fp,H' b=none)/\W i m σ' H':=λ{s9 H9} I9 n9=>by
    obtain⟨m',hm,w9⟩:=hNN σ7 H9 n9
    refine⟨m',hm,i+1,σ7,H9,I9.unpinned,T.keep _ _ _ st6 λb hb o e=>(I9.pin (b,o) (aN _ (aN _ (E5 hb e)))).1,λb hb=>?_,w9⟩
    obtain⟨o,e,d⟩:=T.obj _ _ st6 b hb
    exact(I9.pin (b,o) (aN _ (aN _ (E5 hb e)))).2.1
   refine thn (ht _ s7 σ7 H7 _ I7 q7) λb s8 ⟨H8,I8,q8⟩=>?_
   cases b with
   |false=>
    rw[if_neg aR] at q8
    exact again I8 q8
   |true=>
    rw[if_pos rfl] at q8
    refine thn (he _ s8 σ7 H8 _ I8 q8) λy s9 ⟨v9,H9,I9,r9,ys,hD,hlen,w9⟩=>?_
    refine thn (Oa ([]++Jh fp s6.heap) s9 σ7 H9 (.ref s2.heap.objs.size) [v9] (.ref s2.heap.objs.size) [y] (λ_ H'=>H'=upd H9 s2.heap.objs.size (.lst (ys++[v9]))) I9 rfl (.cons r9 .nil)
     ⟨_,ys,v9,rfl,rfl,hD,hlen,rfl⟩) λ_ s10 ⟨_,H10,I10,_,e10⟩=>?_
    subst e10
    exact again I10 w9
 exact codeAny_compStart_list (loop _ rfl) (T.self X.A 0 _ _ _ st3 (loop _ rfl))
def ad1{ξ:List (Addr×Obj)}{s:aq}{σ:St}{H:Hp}{Q:VK}(hc:X.calm=true)(S:Ku X N' srcs scope cl)(hi:PI X tg iter wi)(hb:∀Q2 fp C D s2 H2,Inv X ξ σ H2 s2->(∀b∈fp,Ek X ξ H2 b)->s2.heap.objs.size<=C->PG (X.comp N' scope cl fp C s2 H2 (Ck X scope cl none Q2 D C)) tg g/\Yf (X.comp N' scope cl fp C s2 H2 (Ck X scope cl none Q2 D C)) ifs tc/\PE (X.comp N' scope cl fp C s2 H2 (Ck X scope cl none Q2 D C)) elt te)(I:Inv X ξ σ H s)(h:ar8 srcs wi g tc te σ H Q)(hs:∀x,fN iter X.env x=pure x) :
  ba (model X.prog X.w) X.A (eval (.ListComp elt [⟨tg,iter,ifs,0⟩] scope pos) X.env) (EP X ξ σ Q) X.xe s:=by
 rw[eval_ListComp]
 refine Nw hc S hi (λfp C D s2 H2=>hb _ fp C D s2 H2) I h (λD C H' s' I' ns fo q=>?_) hs
 obtain⟨m,hn⟩:=ns
 obtain⟨f0,f1,f2,f3,f4,f5⟩:=fo
 exact⟨m,hn,λh' sb=>⟨.ref D,H',I'.turned (λb o hb e=>(sb.2 b hb).trans e) f0 f1 f3 f4 f5,rfl,q⟩⟩
def ad0{i:Nat}{x:Str}{pos' spos:Pos}{ξ:List (Addr×Obj)}{s:aq}{σ:St}{H:Hp}{D:Sx}(hc:X.calm=true)(hN:X.N.Nodup)(hx:X.N[i]?=some x)(hl:X.env.scope.names.lookup x=some .local)(S:Ku X N' srcs scope cl)(hi:PI X tg iter wi)(hb:∀us Q2 fp C D s2 H2,Inv X ξ σ H2 s2->(∀b∈fp,Ek X ξ H2 b)->s2.heap.objs.size<=C->PG (X.comp N' scope cl fp C s2 H2 (Ck X scope cl us Q2 D C)) tg g/\Yf (X.comp N' scope cl fp C s2 H2 (Ck X scope cl us Q2 D C)) ifs tc/\PE (X.comp N' scope cl fp C s2 H2 (Ck X scope cl us Q2 D C)) elt te)(I:Inv X ξ σ H s)(h:bq5 (ar8 srcs wi g tc te) (ae8 i) D σ H)(hsw:iC (.ListComp elt [⟨tg,iter,ifs,0⟩] scope pos) (some (.Name x pos')) spos.line X.env=pure true)(hs:∀x,fN iter X.env x=pure x) :
  ba (model X.prog X.w) X.A (exec (.Assign [.Name x pos'] (.ListComp elt [⟨tg,iter,ifs,0⟩] scope pos) spos) X.env) (SP X ξ D) X.xe s:=by
 rw[exec_Assign_Name_used _ _ _ _ hsw]
 refine ah (fO (ah ?_))
 refine ah (thn (Nw (Q2:=λ_ s'=>SP X ξ D .next s') hc S hi (λfp C D s2 H2=>hb _ _ fp C D s2 H2) I h (λL C H' s' I' ns fo q=>?_) hs) λ_ s' hq=>ao (ao hq))
 obtain⟨m,hn⟩:=ns
 obtain⟨f0,f1,f2,f3,f4,f5⟩:=fo
 obtain⟨oC,es,ep,hoC,hd,hr⟩:=hn
 have I2:Inv X (ξ++[(C,oC)]) σ H' s':=I'.pins_of λp hp=>(List.mem_append.mp hp).elim (λz=>I'.pin p (aN _ z)) λz=>by
  have z':p=(C,oC):=by simpa using z
  subst z'
  exact⟨hoC,f0,f1,f2,λv e=>by rw[hd] at e;cases e⟩
 refine wpAny_assign_Name (L3 (v:=.ref L) I2 hN hx (.inl hl) rfl (λs2 I3=>?_) (.inr hl))
 have hoC':=(I3.pin (C,oC) (aN _ (aN _ (by simp)))).1
 exact⟨m,⟨oC,es,ep,hoC',hd,hr⟩,λh' sb=>⟨_,H',(I3.unpinned).turned (t':=s2.toks) (λb o hb e=>(sb.2 b hb).trans e) f0 f1 f3 f4 f5,q⟩⟩
end
def Its(x:Str):It:=⟨λi _=>i<x.cps.size,λi H v H'=>H'=H/\∃c,x.cps[i]?=some c/\v=.str ⟨#[c]⟩,λi _=>i=x.cps.size⟩
def as5{P:a7}{w:bL}{K:ae}{tg:Expr}(it:Addr)(x:Str)(t:Tok)(ty:String)(hty:ty="str_ascii_iterator" \/ ty="str_iterator") :
  Mj P w K tg (Its x) [it] it (λi h=>h.IsStrIter it ty x t i) where
 mem:=by simp
 obj:=λi h st b hb=>by
  have e:b=it:=by simpa using hb
  subst e
  obtain⟨o,e,c,d⟩:=st
  exact⟨o,e,λv z=>by rw[d] at z;cases z⟩
 keep:=λi h h' st k=>by
  obtain⟨o,e,r⟩:=st
  exact⟨o,k it (by simp) o e,r⟩
 item:=by
  intro X hP hw hK hc i ξ s σ H E I hf st hg
  subst hP hw hK
  obtain⟨f0,f1,f2,f3,f4,f5⟩:=hf it (by simp)
  have W:lC X.prog X.w X.A it [it] [it] x.cps.size (SignAt x) (λi h=>h.IsStrIter it ty x t i):=by
   rcases hty with rfl|rfl
   .exact Walks.strAscii (I.ok.hd hc) it x t
   .exact Walks.strWide (I.ok.hd hc) it x t
  refine bD (ag _) (W.item i s _ _ hg st λv h' tk hv st' kk htk=>?_)
  obtain⟨c,u,hcp,rfl⟩:=hv
  have I1:Inv X ξ σ H {s with heap:=h',toks:=tk}:=I.turned (λb o hb e=>kk b o (by simpa using hb) e) f0 f1 f3 f4 f5
  obtain⟨o,e,cc,d⟩:=id st'
  exact⟨_,rfl,K7 e cc d (by rcases hty with rfl|rfl <;> decide) ⟨.str ⟨#[c]⟩,H,I1,⟨_,rfl⟩,⟨rfl,c,hcp,rfl⟩,st',λb hb=>(hf b hb).1⟩⟩
 done:=by
  intro X hP hw hK hc i ξ s σ H E I hf st hg
  subst hP hw hK
  obtain⟨f0,f1,f2,f3,f4,f5⟩:=hf it (by simp)
  have hg:=hg
  subst hg
  have W:lC X.prog X.w X.A it [it] [it] x.cps.size (SignAt x) (λi h=>h.IsStrIter it ty x t i):=by
   rcases hty with rfl|rfl
   .exact Walks.strAscii (I.ok.hd hc) it x t
   .exact Walks.strWide (I.ok.hd hc) it x t
  exact bD (ag _) (W.done s _ _ st λh' tk kk htk=>⟨rfl,I.turned (λb o hb e=>kk b o (by simpa using hb) e) f0 f1 f3 f4 f5⟩)
 self:=by
  intro A i s Q E st h
  rcases hty with rfl|rfl
  .exact wpAny_pyIter_striter_ascii st h
  .exact wpAny_pyIter_striter_wide st h
section
variable {X:Cx}{ξ:List (Addr×Obj)}{σ:St}{H:Hp}{s:aq}{h':Heap}{ch:List Addr}{t':Nat}
def Inv.turnedL(I:Inv X ξ σ H s)(hf:∀b∈ch,Ek X ξ H b)(k:∀b o,b∉ch->s.heap.get? b=some o->h'.get? b=some o)(ht:s.toks<=t':=by trivial):Inv X ξ σ H {s with heap:=h',toks:=t'}:=by
 have tr:∀b ob,H b=some ob->b∉ch:=λb ob e hb=>by rw[(hf b hb).1] at e;cases e
 refine I.step (λb hb=>⟨(hf b hb).2.2.2.1,(hf b hb).2.1,(hf b hb).2.2.2.2.1,(hf b hb).2.2.2.2.2⟩) (λb o _ _ hb e _=>k b o hb e) (λb o _ _ hb e _=>⟨o.slots,k b o hb e⟩) (λ_ _ _ _ n=>n) (λb o hb e=>⟨o,k b o hb e⟩)
  (λ_ _ e=>e) (λ_ _ _ e=>e) (λb ps e=>⟨#[],by rw[e];simp⟩) (λm hm=>?_) (λb ob e=>?_) I.bare
 .obtain⟨o,es,ep,ho,r⟩:=hm
  exact⟨o,es,ep,k _ o (λz=>(hf _ z).2.1 rfl) ho,r⟩
 .refine (I.hok b ob e).stay (λb' w' hc' q=>k b' w' ?_ q) (λ_ q=>q) λ_ _ q=>q
  rcases hc' with rfl|hc'
  .exact tr _ _ e
  .exact tr _ _ hc'
def Inv.turnedN{T:Addr}{o:HO}(I:Inv X ξ σ H s)(hf:∀b∈ch,Ek X ξ H b)(k:∀b o,b∉ch->s.heap.get? b=some o->h'.get? b=some o)(hT:s.heap.objs.size<=T)(new:ObjOk X.prog X.w (upd H T o) h' T o)(ht:s.toks<=t':=by trivial) :
  Inv X ξ σ (upd H T o) {s with heap:=h',toks:=t'}:=by
 have tr:∀b ob,H b=some ob->b∉ch:=λb ob e hb=>by rw[(hf b hb).1] at e;cases e
 have hn:=I.hok.fresh hT
 have nT:∀{b o},s.heap.get? b=some o->b≠T:=λe=>aV (aH (aQ e) hT)
 refine I.step (λb hb=>⟨(hf b hb).2.2.2.1,(hf b hb).2.1,(hf b hb).2.2.2.2.1,(hf b hb).2.2.2.2.2⟩) (λb o _ _ hb e _=>k b o hb e) (λb o _ _ hb e _=>⟨o.slots,k b o hb e⟩) (λb o _ e n=>by rw[Ah (nT e)];exact n) (λb o hb e=>⟨o,k b o hb e⟩)
  (λb zs e=>by rw[Ah (A2 e hn)];exact e) (λb o zs e=>by rw[Ah (A2 e hn)];exact e) (λb ps e=>⟨#[],by rw[Ah (A2 e hn),e];simp⟩) (λm hm=>?_) (λb ob e=>?_) I.bare
 .obtain⟨o,es,ep,ho,r⟩:=hm
  exact⟨o,es,ep,k _ o (λz=>(hf _ z).2.1 rfl) ho,r⟩
 .by_cases hb:b=T
  .subst hb
   rw[Ab] at e
   cases e
   exact new
  .rw[Ah hb] at e
   refine(I.hok b ob e).stay (λb' w' hc' q=>k b' w' ?_ q) (λb' q=>by rw[Ah (A2 q hn)];exact q) λb' zs q=>by rw[Ah (A2 q hn)];exact q
   rcases hc' with rfl|hc'
   .exact tr _ _ e
   .exact tr _ _ hc'
end
def ah1{cl:List (Str×Addr)}{x:Str}(h:x∈cl.map (·.1)):∃c,cl.lookup x=some c:=by
 induction cl with
 |nil=>simp at h
 |cons p r ih=>
  obtain⟨n,a⟩:=p
  rw[List.lookup_cons]
  cases e:x==n with
  |true=>exact⟨a,rfl⟩
  |false=>
   refine ih ?_
   rcases List.mem_cons.mp h with q|q
   .rw[q] at e;simp at e
   .exact q
section
variable {X:Cx}{e:Expr}{te:TE}{lo hi:Option Expr}{tl th:TO}{pos p2:Pos}
def Vj{ys:List Str}:∀{us},Vals (ys.map V.str) us->StrsAre us ys:=by
 induction ys with
 |nil=>intro us r;rw[lN] at r;cases r;exact .nil
 |cons y ys ih=>
  intro us r
  rw[a8] at r
  cases r with
  |cons r1 r2=>
   obtain⟨t,e⟩:=r1
   subst e
   exact .cons y t (ih r2)
def az7:MtR X "str.join" (λx xs H Q=>∃z p ys,x=.str z/\xs=[.ref p]/\SqL X.K H p (ys.map V.str)/\(ys.map (·.length)).sum+ys.length*z.length<=16777216/\Q (.str (k4 z ys)) H):=by
 intro ξ s σ H x xs v us Q I rx rs h
 obtain⟨z,p,ys,rfl,rfl,hq,hz,q⟩:=h
 obtain⟨t,rfl⟩:=rx
 obtain⟨u,rfl,ru⟩:=rs.one
 cases ru
 obtain⟨χ,rv,pl,_⟩:=I.list hq
 exact bD (ag _) (PyProof.Rows.join_list pl.isList (Vj rv) hz λt' k htk=>⟨.str _,H,I.tok k htk,⟨_,rfl⟩,q⟩)
end
section
variable {κ:Type} [DecidableEq κ]
def Bt(kvs:List (κ×V))(k:κ):Option V:=(kvs.find? λkv=>decide (kv.1=k)).map (·.2)
def E0(kvs:List (κ×V))(k:κ)(v:V):List (κ×V):=
 if(kvs.any λkv=>decide (kv.1=k))=true then kvs.map (λkv=>if kv.1=k then(kv.1,v) else kv) else kvs++[(k,v)]
def Ci{p:κ×V}{r:List (κ×V)}{k:κ}(e:p.1=k):Bt (p::r) k=some p.2:=by simp[Bt,dN,e]
def Ch{p:κ×V}{r:List (κ×V)}{k:κ}(e:¬ p.1=k):Bt (p::r) k=Bt r k:=by simp[Bt,dN,e]
theorem F8(k:κ):∀kvs,(kvs.any λkv=>decide (kv.1=k))=(Bt kvs k).isSome
 |[]=>rfl
 | p::r=>by
  rw[gB]
  by_cases e:p.1=k
  .simp only[Ci e,decide_eq_true e,Bool.true_or,Option.isSome_some]
  .rw[Ch e,decide_eq_false e,kQ];exact F8 k r
theorem Sm(k j:κ)(y:V):∀kvs,Bt (kvs.map λkv=>if kv.1=k then(kv.1,y) else kv) j=(Bt kvs j).map λx=>if j=k then y else x
 |[]=>rfl
 | p::r=>by
  have ih:=Sm k j y r
  rw[a8]
  by_cases h:p.1=k
  .rw[if_pos h]
   by_cases e:p.1=j
   .rw[Ci (p:=(p.1,y)) e,Ci e,fF,if_pos (e.symm.trans h)]
   .rw[Ch (p:=(p.1,y)) e,Ch e,ih]
  .rw[if_neg h]
   by_cases e:p.1=j
   .rw[Ci e,Ci e,fF,if_neg (λz=>h (e.trans z))]
   .rw[Ch e,Ch e,ih]
theorem Oj(k j:κ)(y:V):∀kvs,Bt kvs k=none->Bt (kvs++[(k,y)]) j=if j=k then some y else Bt kvs j
 | [],_=>by
  by_cases e:k=j
  .rw[if_pos e.symm];exact Ci e
  .rw[if_neg (λz=>e z.symm)];exact Ch e
 | p::r,hn=>by
  rw[dS]
  have hk:¬ p.1=k:=λz=>by rw[Ci z] at hn;cases hn
  rw[Ch hk] at hn
  have ih:=Oj k j y r hn
  by_cases e:p.1=j
  .rw[Ci e,Ci e,if_neg (λz=>hk (e.trans z))]
  .rw[Ch e,Ch e,ih]
def Mg(kvs:List (κ×V))(k j:κ)(y:V):Bt (E0 kvs k y) j=if j=k then some y else Bt kvs j:=by
 unfold E0
 by_cases a:(kvs.any λkv=>decide (kv.1=k))=true
 .rw[if_pos a,Sm]
  rw[F8] at a
  by_cases e:j=k
  .obtain⟨x,hx⟩:=Option.isSome_iff_exists.mp a
   rw[if_pos e,e,hx,fF,if_pos rfl]
  .rw[if_neg e]
   cases Bt kvs j with
   |none=>rfl
   |some x=>rw[fF,if_neg e]
 .rw[if_neg a]
  refine Oj k j y kvs ?_
  rw[F8] at a
  cases q:Bt kvs k with
  |none=>rfl
  |some x=>rw[q] at a;exact(a rfl).elim
def Fu(kvs:List (κ×V))(k:κ)(v:V):(E0 kvs k v).length<=kvs.length+1:=by
 unfold E0
 split
 .rw[af];omega
 .rw[ak,aT,List.length_nil];omega
def al2{kvs:List (κ×V)}{k:κ}(v:V)(h:Bt kvs k=none):E0 kvs k v=kvs++[(k,v)]:=by
 unfold E0
 rw[F8,h]
 exact if_neg (by decide)
def RelO.isSome_eq{o:Option V}{u:Option aj}(r:RelO o u):o.isSome=u.isSome:=by
 cases o with
 | none=>cases u with
  |none=>rfl
  |some _=>exact(r).elim
 | some _=>cases u with
  |none=>exact(r).elim
  |some _=>rfl
theorem RelO.getD{o:Option V}{u:Option aj}{d:V}{d':aj}(r:RelO o u)(rd:RelV d d'):RelV (o.getD d) (u.getD d'):=by
 cases o with
 | none=>cases u with
  |none=>exact rd
  |some _=>exact(r).elim
 | some _=>cases u with
  |none=>exact(r).elim
  |some _=>exact r
def KV.val{kvs:List (κ×V)}{vs:List (κ×aj)}(r:KV kvs vs)(k:κ):RelO (Bt kvs k) (mj vs k):=by
 induction r with
 |nil=>exact be
 |@cons p q ps qs h t ih=>
  obtain⟨h1,h2⟩:=h
  by_cases e:p.1=k
  .have e':=h1.symm.trans e
   have b:mj (q::qs) k=some q.2:=by simp[mj,dN,e']
   rw[Ci e,b];exact h2
  .have e':¬ q.1=k:=λz=>e (h1.trans z)
   have b:mj (q::qs) k=mj qs k:=by simp[mj,dN,e']
   rw[Ch e,b];exact ih
theorem KV.any{kvs:List (κ×V)}{vs:List (κ×aj)}(r:KV kvs vs)(k:κ):(kvs.any λkv=>decide (kv.1=k))=vs.any λkv=>decide (kv.1=k):=by
 induction r with
 |nil=>rfl
 |cons h t ih=>rw[gB,gB,ih,h.1]
def KV.repl{kvs:List (κ×V)}{vs:List (κ×aj)}(r:KV kvs vs)(k:κ){y:V}{u:aj}(ry:RelV y u) :
  KV (kvs.map λkv=>if kv.1=k then(kv.1,y) else kv) (vs.map λkv=>if kv.1=k then(kv.1,u) else kv):=by
 induction r with
 |nil=>exact .nil
 |@cons p q ps qs h t ih=>
  rw[a8,a8]
  refine .cons ?_ ih
  obtain⟨h1,h2⟩:=h
  by_cases e:p.1=k
  .rw[if_pos e,if_pos (h1.symm.trans e)];exact⟨h1,ry⟩
  .rw[if_neg e,if_neg (λz=>e (h1.trans z))];exact⟨h1,h2⟩
def KV.put{kvs:List (κ×V)}{vs:List (κ×aj)}(r:KV kvs vs)(k:κ){y:V}{u:aj}(ry:RelV y u):KV (E0 kvs k y) (stored vs k u):=by
 unfold E0 stored
 rw[r.any k]
 by_cases e:(vs.any λkv=>decide (kv.1=k))=true
 .rw[if_pos e,if_pos e];exact r.repl k ry
 .rw[if_neg e,if_neg e];exact Paired.snoc r ⟨rfl,ry⟩
def KV.keys{kvs:List (κ×V)}{vs:List (κ×aj)}(r:KV kvs vs):kvs.map (·.1)=vs.map (·.1):=by
 induction r with
 |nil=>rfl
 |cons h t ih=>rw[a8,a8,ih,h.1]
theorem KV.length{kvs:List (κ×V)}{vs:List (κ×aj)}(r:KV kvs vs):kvs.length=vs.length:=kW r
end
def La{P:a7}{w:bL}{k:Key}{u:aj}(r:RelV (kV k) u):(Ce P w).is k u=true:=by
 cases k with
 |inl i=>obtain⟨t,e⟩:=(r);subst e;exact Re P w i t
 |inr x=>obtain⟨t,e⟩:=(r);subst e;exact Rf P w x t
section
variable {P:a7}{w:bL}{H:Hp}{h:Heap}{a:Addr}
def by2{u:HO}(ok:HOk P w H h)(e:Rd H a u):ObjOk P w H h a u:=e.ok ok
def Fp{kvs:List (Key×V)}(ok:HOk P w H h)(e:Rd H a (.dK kvs)):kvs.length<=sizeLine/\(a==gj)=false/\∃vs,KV kvs vs/\h.DictOf (Ce P w) a vs:=
 by2 ok e
def a70{kvs:List (Key×V)}(ok:HOk P w H h)(e:H a=some (.dK kvs)):kvs.length<=sizeLine/\(a==gj)=false/\∃vs,KV kvs vs/\h.DictOf (Ce P w) a vs:=Fp ok (.inl e)
end
def Vz(H:Hp)(a:Addr)(y:V)(r:Option V):Prop:=∃kvs k,Rd H a (.dK kvs)/\y=kV k/\r=Bt kvs k
def Iq(H:Hp)(a:Addr)(y:V)(r:Option V):Prop:=
 (∃kvs k,Rd H a (.dK kvs)/\y=kV k/\r=Bt kvs k)\/False
def DPut(H:Hp)(a:Addr)(y v:V)(H':Hp):Prop:=
 (∃kvs k,H a=some (.dK kvs)/\y=kV k/\kvs.length<sizeLine/\H'=upd H a (.dK (E0 kvs k v)))\/False
theorem DPut.k{H:Hp}{a:Addr}{kvs:List (Key×V)}{k:Key}{v:V}(e:H a=some (.dK kvs))(hl:kvs.length<sizeLine):DPut H a (kV k) v (upd H a (.dK (E0 kvs k v))):=.inl ⟨kvs,k,e,rfl,hl,rfl⟩
section
variable {X:Cx}{ξ:List (Addr×Obj)}{σ:St}{H:Hp}{s:aq}{a:Addr}{y v:V}{u r:aj}{o:Option V}{A:bJ}{E:aj->aq->Prop}
def Inv.big(I:Inv X ξ σ H s):gj<s.heap.objs.size:=by
 have h:=(I.mod.glob.keeps I.bk).lt
 exact h7 (by decide) h
def Ys{Q:aj->aq->Prop}(hu:A.units+9<cLine)(I:Inv X ξ σ H s)(g:Iq H a y (some v))(ry:RelV y u)(h:∀w' s',Inv X ξ σ H s'->RelV v w'->Q w' s') :
  ba (model X.prog X.w) A (mF (.ref a) u) Q E s:=by
 rcases g with⟨kvs,k,e,ey,l⟩|z
 .subst ey
  obtain⟨z,hd,vs,rel,dd⟩:=Fp I.hok e
  obtain⟨w',hw,rw'⟩:=RelO.some_of (by rw[l];exact rel.val k)
  exact wpAny_getItem_of (La ry) dd.mapOf hw (h w' _ (I.tok _) rw')
 .exact z.elim
def b32{Q:aj->aq->Prop}(I:Inv X ξ σ H s)(g:Vz H a y o)(ry:RelV y u)(h:∀s',Inv X ξ σ H s'->Q (.bool o.isSome) s') :
  ba (model X.prog X.w) A (eB .In u (.ref a)) Q E s:=by
 obtain⟨kvs,k,e,ey,l⟩:=g
 subst ey
 obtain⟨z,hd,vs,rel,dd⟩:=Fp I.hok e
 refine wpAny_in_of (La ry) hd dd.mapOf ?_
 rw[<- (rel.val k).isSome_eq,<- l]
 exact h _ (I.tok _)
def aw6{Q:aj->aq->Prop}(I:Inv X ξ σ H s)(g:Vz H a y o)(ry:RelV y u)(h:∀s',Inv X ξ σ H s'->Q (.bool (!o.isSome)) s') :
  ba (model X.prog X.w) A (eB .NotIn u (.ref a)) Q E s:=by
 obtain⟨kvs,k,e,ey,l⟩:=g
 subst ey
 obtain⟨z,hd,vs,rel,dd⟩:=Fp I.hok e
 refine wpAny_notIn_of (La ry) hd dd.mapOf ?_
 rw[<- (rel.val k).isSome_eq,<- l]
 exact h _ (I.tok _)
def Wn{h':Heap}{t':Nat}{ob:HO}(I:Inv X ξ σ H s)(mu:Mut (H a))(hs:bT a s.heap h')(he:∃q,h'.get? a=some q)(new:ObjOk X.prog X.w (upd H a ob) h' a ob)(ht:s.toks<=t':=by trivial) :
  Inv X ξ σ (upd H a ob) {s with heap:=h',toks:=t'}:=
 I.write mu (.inl rfl) (λb q hb z=>(hs.2 b hb).trans z) he new
def ad6{P:a7}{w:bL}{H':Hp}{h':Heap}{kvs:List (Key×V)}{vs:List (Key×aj)}(z:kvs.length<=sizeLine)(hd:(a==gj)=false)(rel:KV kvs vs)(dd:h'.DictOf (Ce P w) a vs) :
  ObjOk P w H' h' a (.dK kvs):=⟨z,hd,vs,rel,dd⟩
def Yt{H':Hp}{Q:Unit->aq->Prop}(hu:A.units+9<cLine)(I:Inv X ξ σ H s)(g:DPut H a y v H')(ry:RelV y u)(rv:RelV v r)(h:∀s',Inv X ξ σ H' s'->Q () s') :
  ba (model X.prog X.w) A (setItem (.ref a) u r) Q E s:=by
 rcases g with⟨kvs,k,e,ey,l,eH⟩|z
 .subst ey eH
  obtain⟨z,hd,vs,rel,dd⟩:=a70 I.hok e
  have hz:vs.length<=sizeLine:=by rw[<- rel.length];exact z
  have hl:(E0 kvs k v).length<=sizeLine:=by have:=Fu kvs k v;omega
  refine wpAny_setItem_pairs (La ry) dd λh' dd' hs=>h _ ?_
  have he:∃q,h'.get? a=some q:=let⟨q,_,_,hq,_⟩:=dd';⟨q,hq⟩
  exact Wn I (by rw[e];exact be) hs he (ad6 hl hd (rel.put k rv) dd')
 .exact z.elim
end
section
variable {X:Cx}{ξ:List (Addr×Obj)}{σ:St}{H:Hp}{s:aq}{a:Addr}{kvs:List (Key×V)}{k:Key}{u:aj}{A:bJ}{E:aj->aq->Prop}
def bs5{Q:aj->aq->Prop}(I:Inv X ξ σ H s)(e:Rd H a (.dK kvs))(h:∀t s',Inv X ξ σ H s'->Q (.int kvs.length t) s'):ba (model X.prog X.w) A (call (.builtin "len") [.ref a]) Q E s:=by
 obtain⟨z,hd,vs,rel,dd⟩:=Fp I.hok e
 refine call_len_dict hd dd (by rw[<- rel.length];rw[bM] at z;omega) ?_
 rw[<- rel.length]
 exact h _ _ (I.tok _)
end
def Qz{X:Cx}{ξ:List (Addr×Obj)}{σ:St}{H:Hp}{s:aq}{a:Addr}{y:V}{o:Option V}(I:Inv X ξ σ H s)(g:Iq H a y o):s.TypeIs (.ref a) "dict" := by
 rcases g with⟨kvs,k,e,_,_⟩|z
 .obtain⟨_,_,vs,_,dd⟩:=Fp I.hok e
  exact dd.typeIs
 .exact z.elim
def ad5{P:a7}{w:bL}{H:Hp}(h:Heap)(hb:gj<h.objs.size):ObjOk P w H (h.push {cls:=.type "dict", data:=.dict #[]}) h.objs.size (.dK []):=
 ⟨bo _,beq_eq_false_iff_ne.mpr (bx (aV hb)),[],.nil,Heap.DictOf.new h⟩
section
variable {X:Cx}{ξ:List (Addr×Obj)}{σ:St}{H:Hp}{s:aq}{a:Addr}{y d:V}{u r:aj}{o:Option V}{A:bJ}{E:aj->aq->Prop}
def bd5{Q:aj->aq->Prop}(hu:A.units+9<cLine)(I:Inv X ξ σ H s)(g:Iq H a y o)(ry:RelV y u)(h:∀w' s',Inv X ξ σ H s'->RelV (o.getD .non) w'->Q w' s') :
  ba (model X.prog X.w) A (call (.builtin "dict.get") [.ref a,u]) Q E s:=by
 rcases g with⟨kvs,k,e,ey,l⟩|z
 .subst ey
  obtain⟨z,hd,vs,rel,dd⟩:=Fp I.hok e
  refine jX h_ dd.typeIs jC (PySem.F.args_dict_get_2 _ _) (meets_dict_get (Ce X.prog X.w) a (La ry) hd) ⟨_,dd.mapOf,h _ _ (I.tok _) ?_⟩
  rw[l]
  exact(rel.val k).getD rfl
 .exact z.elim
def bd6{Q:aj->aq->Prop}(hu:A.units+9<cLine)(I:Inv X ξ σ H s)(g:Iq H a y o)(ry:RelV y u)(rd:RelV d r)(h:∀w' s',Inv X ξ σ H s'->RelV (o.getD d) w'->Q w' s') :
  ba (model X.prog X.w) A (call (.builtin "dict.get") [.ref a,u,r]) Q E s:=by
 rcases g with⟨kvs,k,e,ey,l⟩|z
 .subst ey
  obtain⟨z,hd,vs,rel,dd⟩:=Fp I.hok e
  refine jX h_ dd.typeIs jC (PySem.F.args_dict_get_3 _ _ _) (meets_dict_get_default (Ce X.prog X.w) a (La ry) hd r) ⟨_,dd.mapOf,h _ _ (I.tok _) ?_⟩
  rw[l]
  exact(rel.val k).getD rd
 .exact z.elim
end
abbrev EK:=Addr->Hp->Prop
abbrev DE:=St->Hp->VK->EK->Prop
abbrev DT:=St->Hp->(Bool->Hp->Prop)->EK->Prop
abbrev DA:=St->Hp->(List V->Hp->Prop)->EK->Prop
structure Outs where
 nx:St->Hp->Prop
 rt:VK
 bk:St->Hp->Prop
 ct:St->Hp->Prop
 ex:St->EK
abbrev DS:=Outs->St->Hp->Prop
def Meets(_:Cx)(Ex:St->EK):Prop:=∀ σ a H,¬ Ex σ a H
def QE(X:Cx)(e:Expr)(t:DE):Prop:=∀Ex,Meets X Ex->PE X e (λσ H Q=>t σ H Q (Ex σ))
def QT(X:Cx)(e:Expr)(t:DT):Prop:=∀Ex,Meets X Ex->PT X e (λσ H Q=>t σ H Q (Ex σ))
def QW(X:Cx)(e:Expr)(t:DT):Prop:=∀Ex,Meets X Ex->PW X e (λσ H Q=>t σ H Q (Ex σ))
def QA(X:Cx)(es:List Expr)(t:DA):Prop:=∀Ex,Meets X Ex->PA X es (λσ H Q=>t σ H Q (Ex σ))
def bw0(Ex:St->EK)(D:Sx):Outs:=⟨D.nx,D.rt,D.bk,D.ct,Ex⟩
def QS(X:Cx)(st:Stmt)(t:DS):Prop:=∀Ex,Meets X Ex->PS X st (λD σ H=>t (bw0 Ex D) σ H)
def QSs(X:Cx)(st:List Stmt)(t:DS):Prop:=∀Ex,Meets X Ex->PSs X st (λD σ H=>t (bw0 Ex D) σ H)
noncomputable def dNo:DE:=λ_ _ _ _=>False
noncomputable def Ac(i:Nat):DE:=λσ H Q _=>match σ[i]? with
 |some (some v)=>Q v H
 |_=>False
noncomputable def dC(v:V):DE:=λ_ H Q _=>Q v H
noncomputable def Ad(r:R2)(a b:DE):DE:=λσ H Q E=>a σ H (λx H1=>b σ H1 (λy H2=>r x y H2 Q) E) E
noncomputable def dUn(r:V->Hp->VK->Prop)(a:DE):DE:=λσ H Q E=>a σ H (λx H1=>r x H1 Q) E
noncomputable def O0(r r':R2)(a b c:DE):DE:=λσ H Q E=>a σ H (λx H1=>b σ H1 (λy H2=>r x y H2 λz H3=>match z with
 |.bl k=>if k=true then c σ H3 (λw H4=>r' y w H4 Q) E else Q (.bl false) H3
 |_=>False) E) E
noncomputable def Gk(a b:DT):DT:=λσ H Q E=>a σ H (λk H1=>if k=true then b σ H1 Q E else Q false H1) E
noncomputable def dOr(a b:DT):DT:=λσ H Q E=>a σ H (λk H1=>if k=true then Q true H1 else b σ H1 Q E) E
noncomputable def O1(a:DT):DT:=λσ H Q E=>a σ H (λk H1=>Q (!k) H1) E
def as2(K:ae)(x:V)(H:Hp)(Q:Bool->Hp->Prop):Prop:=match x with
 |.bl k=>Q k H
 |.non=>Q false H
 |.int i=>Q (i != 0) H
 |.str y=>y.length<=sizeLine/\Q ((y.length:Int) != 0) H
 |.ref p=>∃k,bs3 K (.ref p) H k/\Q k H
 |_=>False
noncomputable def Nx(K:ae)(a b:DE):DE:=λσ H Q E=>a σ H (λx H1=>as2 K x H1 λk H2=>if k=true then b σ H2 Q E else Q x H2) E
noncomputable def aw5(K:ae)(a b:DE):DE:=λσ H Q E=>a σ H (λx H1=>as2 K x H1 λk H2=>if k=true then Q x H2 else b σ H2 Q E) E
noncomputable def a68(K:ae)(a:DE):DE:=λσ H Q E=>a σ H (λx H1=>as2 K x H1 λk H2=>Q (.bl (!k)) H2) E
noncomputable def D4(K:ae)(a:DE):DT:=λσ H Q E=>a σ H (λx H1=>as2 K x H1 Q) E
noncomputable def Au(a:DE):DT:=λσ H Q E=>a σ H (λx H1=>match x with
 |.bl k=>Q k H1
 |_=>False) E
noncomputable def aw4(t:DT)(a b:DE):DE:=λσ H Q E=>t σ H (λk H1=>if k=true then a σ H1 Q E else b σ H1 Q E) E
noncomputable def Ae:DA:=λ_ H Q _=>Q [] H
noncomputable def Aa(a:DE)(r:DA):DA:=λσ H Q E=>a σ H (λx H1=>r σ H1 (λxs H2=>Q (x::xs) H2) E) E
noncomputable def Bp(t:DA):DE:=λσ H Q E=>t σ H (λxs H1=>xs.length<=sizeLine/\∀p,H1 p=none->Q (.ref p) (upd H1 p (.tup xs))) E
noncomputable def As(t:DA):DE:=λσ H Q E=>t σ H (λxs H1=>xs.length<=sizeLine/\∀p,H1 p=none->Q (.ref p) (upd H1 p (.lst xs))) E
noncomputable def dFn(r:List V->Hp->VK->EK->Prop)(t:DA):DE:=λσ H Q E=>t σ H (λvs H1=>r vs H1 Q E) E
noncomputable def dMt(r:V->Hp->(Hp->(List V->Hp->Prop)->Prop)->VK->Prop)(o:DE)(t:DA):DE:=λσ H Q E=>o σ H (λx H1=>r x H1 (λH2 R=>t σ H2 R E) Q) E
noncomputable def Ag:DS:=λD σ H=>D.nx σ H
noncomputable def Cl:DS:=λ_ _ _=>False
def Outs.thn(D:Outs)(f:St->Hp->Prop):Outs:={D with nx:=f}
def Outs.lp(D:Outs)(P:St->Hp->Prop):Outs:={D with nx:=P,ct:=P,bk:=D.nx}
noncomputable def Af(t u:DS):DS:=λD σ H=>t (D.thn (u D)) σ H
noncomputable def Ap(e:DE):DS:=λD σ H=>e σ H D.rt (D.ex σ)
noncomputable def a69:DS:=λD _ H=>D.rt .non H
noncomputable def Bj(e:DE):DS:=λD σ H=>e σ H (λ_ H1=>D.nx σ H1) (D.ex σ)
noncomputable def dIf(c:DT)(t u:DS):DS:=λD σ H=>c σ H (λb H1=>if b=true then t D σ H1 else u D σ H1) (D.ex σ)
noncomputable def Aq(i:Nat)(e:DE):DS:=λD σ H=>e σ H (λv H1=>D.nx (σ.set i (some v)) H1) (D.ex σ)
abbrev DG:=TG
noncomputable def Dw(e:DE)(g:DG):DS:=λD σ H=>e σ H (λv H1=>g v σ H1 D.nx) (D.ex σ)
abbrev DI:=St->Hp->(It->Hp->Prop)->EK->Prop
noncomputable def Ix(c:DT)(tb:DS):DS:=λD σ H=>∃W:Nat->St->Hp->Prop,(∃m,W m σ H)/\∀m σ H,W m σ H ->
 c σ H (λb H1=>if b=true then ∃N,(∀ σ' H',N σ' H' -> ∃m',m'<m/\W m' σ' H')/\tb (D.lp N) σ H1 else D.nx σ H1) (D.ex σ)
def bb6(J:It)(g:DG)(tb:DS)(D:Outs)(σ:St)(H:Hp):Prop:=∃W:Nat->Nat->St->Hp->Prop,(∃m,W 0 m σ H)/\∀i m σ H,W i m σ H ->
 (J.stop i H/\D.nx σ H)\/(J.go i H/\∃N,(∀ σ' H',N σ' H' -> ∃m',m'<m/\W (i+1) m' σ' H')/\∀x H',J.yld i H x H'->g x σ H' (λσ2 H2=>tb (D.lp N) σ2 H2))
def Thaw(H0 H:Hp)(P:Hp->Prop):Prop:=P H \/ ∃p o kvs,H0 p=some (.dK kvs)/\H p=some (.frz o (.dK kvs))/\P (upd H p (.dK kvs))
def Outs.thw(D:Outs)(H:Hp):Outs:={D with nx:=λσ' H'=>Thaw H H' (D.nx σ')}
noncomputable def Da(wi:DI)(g:DG)(tb:DS):DS:=λD σ H=>wi σ H (λJ H1=>bb6 J g tb (D.thw H) σ H1) (D.ex σ)
def Z4(J:It)(g:DG)(tc:DT)(te:DE)(D:Addr)(R:Hp->Prop)(σ:St)(H:Hp)(E:EK):Prop:=
 ∃W:Nat->Nat->St->Hp->Prop,(∃m,W 0 m σ H)/\∀i m σ' H',W i m σ' H' ->
  (J.stop i H'/\R H')\/(J.go i H'/\∃N:St->Hp->Prop,(∀ σ2 H2,N σ2 H2 -> ∃m',m'<m/\W (i+1) m' σ2 H2)/\∀x H2,J.yld i H' x H2->g x σ' H2 (λσ3 H3=>tc σ3 H3 (λb H4=>if b=true then
    te σ3 H4 (λv H5=>∃ys,H5 D=some (.lst ys)/\ys.length<sizeLine/\N σ3 (upd H5 D (.lst (ys++[v])))) E
   else N σ3 H4) E))
noncomputable def By(srcs:List (Option Nat))(wi:DI)(g:DG)(tc:DT)(te:DE):DE:=λσ H Q E=>wi σ H (λJ H1=>∀D,H1 D=none->Z4 J g tc te D (λH'=>Q (.ref D) H') (Yp srcs σ) (upd H1 D (.lst [])) E) E
noncomputable def De:DT:=λ_ H Q _=>Q true H
noncomputable def gdN(i:Nat):DG:=λv σ H Q=>Q (σ.set i (some v)) H
open PySem.W
inductive TyX (K:ae) (H:Hp) (x:V) (t:aj):Prop where
 |of (h:TyOf K H x t)
 |sqT {a:Addr}{xs:List V} (ex:x=.ref a) (e:SqT K H a xs) (et:t=.type "tuple")
 |sqL {a:Addr}{xs:List V} (ex:x=.ref a) (e:SqL K H a xs) (et:t=.type "list")
section
variable {X:Cx}{ξ:List (Addr×Obj)}{σ:St}{H:Hp}{s:aq}{A:bJ}{E:aj->aq->Prop}
def Tx{Q:aj->aq->Prop}{c:aj}{b:Bool}{x:V}{u t:aj}(I:Inv X ξ σ H s)(rx:RelV x u)(ty:TyX X.K H x t)(e:fT X.K t c=some b)(h:∀tk,Q (.bool b) {s with toks:=tk}) :
  ba (model X.prog X.w) A (call (.builtin "isinstance") [u,c]) Q E s:=by
 cases ty with
 |of ty=>exact Y2 I rx ty e h
 |@sqT a xs ex q et=>
  subst ex et
  cases(rx)
  obtain⟨_,_,⟨o,h1,h2,_⟩,_⟩:=I.tuple q
  exact dP PySem.W.kitx_tuple I.kIn ⟨o,h1,h2⟩ e (λz=>nomatch z) h
 |@sqL a xs ex q et=>
  subst ex et
  cases(rx)
  obtain⟨_,_,⟨o,_,h1,h2,_⟩,_⟩:=I.list q
  exact dP PySem.W.kitx_list I.kIn ⟨o,h1,h2⟩ e (λz=>nomatch z) h
end
end L2
namespace L2
open PySem PySem.Spec PyProof.Rows
def Itz(K:ae)(l1 l2:Addr):It:=
  ⟨λi H=>∃xs ys x y,SqL K H l1 xs/\SqL K H l2 ys/\xs[i]?=some x/\ys[i]?=some y,
   λi H v H'=>∃T x y,H T=none/\v=.ref T/\(∀xs,SqL K H l1 xs->xs[i]?=some x)/\(∀ys,SqL K H l2 ys->ys[i]?=some y)/\H'=upd H T (.tup [x,y]),
   λi H=>∃xs ys,SqL K H l1 xs/\SqL K H l2 ys/\(xs.length<=i\/ys.length<=i)⟩
def as6{P:a7}{w:bL}{K:ae}{elts:List Expr}{kt:Nat}{pt:Pos}{z TI TO i1 i2 l1 l2:Addr}(D:ZipApart z TI TO i1 i2 l1 l2) :
  Mj P w K (.Tuple elts kt pt) (Itz K l1 l2) [z,TI,TO,i1,i2] z
   (λi h=>IsZip h z TI TO .none/\IsPair h TI (.ref i1) (.ref i2)/\(∃a b,IsPair h TO a b)/\h.IsListIter i1 l1 i/\h.IsListIter i2 l2 i) where
 mem:=by simp
 obj:=λi h st b hb=>by
  obtain⟨hz,hTI,⟨a,c,hTO⟩,⟨o1,e1,c1,d1⟩,⟨o2,e2,c2,d2⟩⟩:=st
  have hb:b=z\/b=TI\/b=TO\/b=i1\/b=i2:=by simpa using hb
  rcases hb with rfl|rfl|rfl|rfl|rfl
  .exact⟨_,hz,λv q=>nomatch q⟩
  .exact⟨_,hTI,λv q=>nomatch q⟩
  .exact⟨_,hTO,λv q=>nomatch q⟩
  .exact⟨o1,e1,λv q=>by rw[d1] at q;cases q⟩
  .exact⟨o2,e2,λv q=>by rw[d2] at q;cases q⟩
 keep:=λi h h' st k=>by
  obtain⟨hz,hTI,⟨a,c,hTO⟩,h1,h2⟩:=st
  exact⟨k z (by simp) _ hz,k TI (by simp) _ hTI,⟨a,c,k TO (by simp) _ hTO⟩,h1.at λo e=>k i1 (by simp) o e,h2.at λo e=>k i2 (by simp) o e⟩
 item:=by
  intro X hP hw hK hc i ξ s σ H E I hf st hg
  subst hP hw hK
  obtain⟨xs,ys,x,y,q1,q2,hx,hy⟩:=hg
  obtain⟨its1,r1,p1,z1⟩:=I.list q1
  obtain⟨its2,r2,p2,z2⟩:=I.list q2
  obtain⟨u,hu,ru⟩:=r1.get hx
  obtain⟨v,hv,rv⟩:=r2.get hy
  obtain⟨hz,hTI,⟨a,c,hTO⟩,h1,h2⟩:=st
  refine wpAny_pyNext_zip_item D hz hTI hTO h1 h2 p1.isList p2.isList (x:=u) (y:=v) (by simpa using hu) (by simpa using hv) λh' a1 a2 a3 a4 a5 a6 hk=>?_
  refine⟨_,rfl,wpAny_letOwnedTupleGo_zip a1 λh'' hz' hs'=>?_⟩
  have hT:=I.hok.fresh (ag s.heap.objs.size)
  have up':∀b o,b∉[z,TO,i1,i2]->s.heap.get? b=some o->h''.get? b=some o:=λb o hb e=>by
   have b1:b≠z:=by rintro rfl;exact hb (by simp)
   have b2:b≠TO:=by rintro rfl;exact hb (by simp)
   have b3:b≠i1:=by rintro rfl;exact hb (by simp)
   have b4:b≠i2:=by rintro rfl;exact hb (by simp)
   exact hs'.extBut b o b1 (hk b o b1 b2 b3 b4 e)
  have nT:∀{b o},s.heap.get? b=some o->b≠s.heap.objs.size:=λe=>aV (aQ e)
  have Tnew:h''.get? s.heap.objs.size=some {cls:=.type "tuple", data:=.seq #[u,v]}:=hs'.extBut _ _ (bx (nT hz)) a5
  have I1:Inv X ξ σ (upd H s.heap.objs.size (.tup [x,y])) {s with heap:=h''}:=
   I.turnedN (t':=s.toks) (ch:=[z,TO,i1,i2]) (λb hb=>hf b (by
    have hb:b=z\/b=TO\/b=i1\/b=i2:=by simpa using hb
    rcases hb with rfl|rfl|rfl|rfl <;> simp)) up' (ag _) ⟨by show 2<=sizeLine;decide,[u,v],.cons ru (.cons rv .nil),⟨_,Tnew,rfl,_,rfl⟩⟩
  refine⟨.ref s.heap.objs.size,_,I1,rfl,⟨s.heap.objs.size,x,y,hT,rfl,λxs' h'=>by rw[I.list_inj h' q1];exact hx,λys' h'=>by rw[I.list_inj h' q2];exact hy,rfl⟩,
   ⟨hz',hs'.extBut _ _ D.TIz (hk _ _ D.TIz D.TITO D.TIi1 D.TIi2 hTI),⟨_,_,hs'.extBut _ _ D.TOz a2⟩,a3.at λo e=>hs'.extBut _ o D.i1z e,a4.at λo e=>hs'.extBut _ o D.i2z e⟩,λb hb=>?_⟩
  have q:=(hf b hb).1
  rw[Ah ?_]
  .exact q
  .have hb:b=z\/b=TI\/b=TO\/b=i1\/b=i2:=by simpa using hb
   rcases hb with rfl|rfl|rfl|rfl|rfl
   .exact nT hz
   .exact nT hTI
   .exact nT hTO
   .obtain⟨_,e,_⟩:=h1;exact nT e
   .obtain⟨_,e,_⟩:=h2;exact nT e
 done:=by
  intro X hP hw hK hc i ξ s σ H E I hf st hg
  subst hP hw hK
  obtain⟨xs,ys,q1,q2,hx⟩:=hg
  obtain⟨its1,r1,p1,z1⟩:=I.list q1
  obtain⟨its2,r2,p2,z2⟩:=I.list q2
  have e1:=r1.length
  have e2:=r2.length
  obtain⟨hz,hTI,⟨a,c,hTO⟩,h1,h2⟩:=st
  have hend:its1.toArray[i]?=none\/its2.toArray[i]?=none:=by
   rcases hx with hx|hx
   .exact .inl (by simp;omega)
   .exact .inr (by simp;omega)
  refine wpAny_pyNext_zip_end (I.ok.hd hc) D hz hTI hTO h1 h2 p1.isList p2.isList hend λh' hk=>⟨rfl,?_⟩
  refine I.turnedL (t':=s.toks) (ch:=[z,TO,i1,i2]) (λb hb=>hf b (by
    have hb:b=z\/b=TO\/b=i1\/b=i2:=by simpa using hb
    rcases hb with rfl|rfl|rfl|rfl <;> simp)) λb o hb e=>?_
  have b1:b≠z:=by rintro rfl;exact hb (by simp)
  have b2:b≠TO:=by rintro rfl;exact hb (by simp)
  have b3:b≠i1:=by rintro rfl;exact hb (by simp)
  have b4:b≠i2:=by rintro rfl;exact hb (by simp)
  exact hk b o b1 b2 b3 b4 e
 self:=λA i s Q E st h=>wpAny_pyIter_zip st.1 h
def br5{K:ae}{l1 l2:Addr}{xs ys:List V}{H:Hp}{i:Nat}(h1:SqL K H l1 xs)(h2:SqL K H l2 ys)(hi:i<min xs.length ys.length):(Itz K l1 l2).go i H:=
 ⟨xs,ys,xs[i]'(by omega),ys[i]'(by omega),h1,h2,by simp,by simp⟩
section
variable {X:Cx}{ξ:List (Addr×Obj)}{σ σ0:St}{H H0:Hp}{s s0:aq}{p:Addr}{kvs:List (Key×V)}{o:Obj}
def Ye(o:Obj)(ep:Nat):Prop:=∃es,o.data=.dict es ep
def Inv.froze(I:Inv X ξ σ H s)(h:H p=some (.dK kvs)):∃ob ep,s.heap.get? p=some ob/\Ye ob ep/\Inv X ξ σ (upd H p (.frz ob (.dK kvs))) s:=by
 have K:=I.hok p _ h
 obtain⟨z,y,vs,r,ob,es,ep,e,c,d,q⟩:=id K
 exact⟨ob,ep,e,⟨es,d⟩,(I.write (x:=p) (e:=p) (t':=s.toks) (h':=s.heap) (by rw[h];trivial) (.inl rfl) (λb u _ q=>q) ⟨ob,e⟩ ⟨e,K⟩)⟩
def Inv.thaw(I0:Inv X ξ σ0 H0 s0)(h0:H0 p=some (.dK kvs))(I:Inv X ξ σ H s)(h:H p=some (.frz o (.dK kvs))):Inv X ξ σ (upd H p (.dK kvs)) s:=by
 have ne:∀b,H b=none->b≠p:=λb e z=>by rw[z,h] at e;cases e
 have ntup:∀b xs,H b=some (.tup xs)->b≠p:=λb xs e z=>by rw[z,h] at e;cases e
 have nown:∀b c,H b=some (.own c)->b≠p:=λb c e z=>by rw[z,h] at e;cases e
 refine⟨I.ok,I.os,I.bare,⟨I.base.keep,I.base.slot,λb ob e n hx=>?_,I.base.there,λb xs e=>?_,λb ob u e=>?_,λb ps e=>?_⟩,I.loc,I.cell,?_,λx c e=>?_,λq hq=>?_,λb u e=>?_,I.len⟩
 .have q:=I.base.free b ob e n hx
  rw[Ah (ne b q)];exact q
 .have q:=I.base.tups b xs e
  rw[Ah (ntup b xs q)];exact q
 .have q:=I.base.frzs b ob u e
  have n:b≠p:=λz=>by
   have q0:=I0.base.frzs b ob u e
   rw[z,h0] at q0;cases q0
  rw[Ah n];exact q
 .obtain⟨more,q⟩:=I.base.tbls b ps e
  have n:b≠p:=λz=>by rw[z,h] at q;cases q
  exact⟨more,by rw[Ah n];exact q⟩
 .rw[Ah (ne _ I.free)];exact I.free
 .have q:=I.freeC x c e
  rw[Ah (ne _ q)];exact q
 .obtain⟨a,b,c⟩:=I.pin q hq
  exact⟨a,by rw[Ah (ne _ b)];exact b,c⟩
 .by_cases z:b=p
  .subst z
   rw[Ab] at e
   cases e
   exact(I.hok b _ h).2
  .rw[Ah z] at e
   exact(I.hok b u e).stay (λ_ _ _ q=>q) (λc q=>by rw[Ah (nown c b q)];exact q) λc xs q=>by rw[Ah (ntup c xs q)];exact q
def Thaw.inv{P:Hp->Prop}(I0:Inv X ξ σ0 H0 s0)(I:Inv X ξ σ H s)(t:Thaw H0 H P):∃H',Inv X ξ σ H' s/\P H':=by
 rcases t with t|⟨p,o,kvs,h0,h,t⟩
 .exact⟨H,I,t⟩
 .exact⟨_,I0.thaw h0 I h,t⟩
def Inv.kdict(I:Inv X ξ σ H s)(h:H p=some (.frz o (.dK kvs))){ep:Nat}(he:Ye o ep):∃vs,KV kvs vs/\s.heap.DictAt (Ce X.prog X.w) p vs ep/\(p==gj)=false:=by
 obtain⟨e1,z,y,vs,r,ob,es,ep',e,c,d,q⟩:=I.hok p _ h
 obtain⟨es',d'⟩:=he
 rw[e1] at e
 cases e
 have d2:=d
 rw[d'] at d2
 cases d2
 exact⟨vs,r,⟨o,_,e1,c,d,q⟩,y⟩
end
def Itd(p:Addr)(o:Obj)(kvs:List (Key×V)):It:=
 ⟨λi H=>H p=some (.frz o (.dK kvs))/\i<kvs.length,λi H x H'=>H'=H/\∃k v,kvs[i]?=some (k,v)/\x=kV k,λi H=>H p=some (.frz o (.dK kvs))/\kvs.length<=i⟩
theorem af7:∀{kvs} {vs}{i:Nat}{k:Key}{v:V},KV kvs vs->kvs[i]?=some (k,v) -> ∃u,vs[i]?=some (k,u)/\RelV v u
 | _,_,0,k,v,.cons (b:=q) r _,e=>by
  simp only[eV,Option.some.injEq] at e
  subst e
  exact⟨q.2,congrArg some (lU r.1.symm rfl),r.2⟩
 | _,_,i+1,k,v,.cons r t,e=>by
  simp only[b_] at e ⊢
  exact af7 t e
def a76{P:a7}{w:bL}{k:Key}{u:aj}(h:(Ce P w).is k u=true):RelV (kV k) u:=by
 cases k with
 |inl i=>obtain⟨t,rfl⟩:=Value.isInt_shape (h);exact⟨t,rfl⟩
 |inr z=>obtain⟨t,rfl⟩:=ga (h);exact⟨t,rfl⟩
def Zw{P:a7}{w:bL}{K:ae}{tg:Expr}(p it:Addr)(o:Obj)(kvs:List (Key×V)){ep:Nat}(he:Ye o ep):Mj P w K tg (Itd p o kvs) [it] it (λi h=>h.IsKeyIter it p i kvs.length ep) where
 mem:=by simp
 obj:=λi h st b hb=>by
  have e:b=it:=by simpa using hb
  subst e
  obtain⟨o,e,c,d⟩:=st
  exact⟨o,e,λv z=>by rw[d] at z;cases z⟩
 keep:=λi h h' st k=>st.at λo e=>k it (by simp) o e
 item:=by
  intro X hP hw hK hc i ξ s σ H E I hf st hg
  subst hP hw hK
  obtain⟨hH,hi⟩:=hg
  obtain⟨vs,rel,hd,hm⟩:=I.kdict hH he
  obtain⟨f0,f1,f2,f3,f4,f5⟩:=hf it (by simp)
  obtain⟨⟨k,v⟩,hx⟩:∃q,kvs[i]?=some q:=⟨kvs[i],by simp[hi]⟩
  obtain⟨u,hu,_⟩:=af7 rel hx
  have hl:=rel.length
  rw[hl] at st
  refine wpAny_pyNext_dict_item st hd hu λkey h' hk st' sb=>?_
  have I1:=I.turned (λb o hb e=>sb.extBut b o hb e) f0 f1 f3 f4 f5
  obtain⟨o1,e,c,d⟩:=id st'
  exact⟨key,rfl,K7 e c d (by decide) ⟨kV k,H,I1,a76 hk,⟨rfl,k,v,hx,rfl⟩,by rw[hl];exact st',λb hb=>(hf b hb).1⟩⟩
 done:=by
  intro X hP hw hK hc i ξ s σ H E I hf st hg
  subst hP hw hK
  obtain⟨hH,hi⟩:=hg
  obtain⟨vs,rel,hd,hm⟩:=I.kdict hH he
  obtain⟨f0,f1,f2,f3,f4,f5⟩:=hf it (by simp)
  have hl:=rel.length
  rw[hl] at st
  exact wpAny_pyNext_dict_end (I.ok.hd hc) st hd (by simp;omega) λh' eb=>⟨rfl,I.turned (λb o hb e=>eb b o hb e) f0 f1 f3 f4 f5⟩
 self:=λ_ _ _ _ _ st h=>wpAny_pyIter_keyiter st h
def aw8{X:Cx}{tg:Expr}{ξ:List (Addr×Obj)}{σ:St}{H:Hp}{s:aq}{R:It->Hp->Prop}{E:aj->aq->Prop}{p:Addr}{o:Obj}{kvs:List (Key×V)}(I:Inv X ξ σ H s)(h:H p=some (.frz o (.dK kvs)))(q:R (Itd p o kvs) H):ba (model X.prog X.w) X.A (ms (.ref p)) (PIE X ξ σ tg R) E s:=by
 have he:∃ep,Ye o ep:=by
  obtain⟨e1,z,y,vs,r,ob,es,ep,e,c,d,_⟩:=I.hok p _ h
  rw[e1] at e;cases e
  exact⟨ep,es,d⟩
 obtain⟨ep,he⟩:=he
 obtain⟨vs,rel,hd,hm⟩:=I.kdict h he
 refine wpAny_pyIter_dict hm hd ?_
 refine⟨s.heap.objs.size,[s.heap.objs.size],_,_,H,rfl,I.kept λb o e=>ai _ e,Zw p _ o kvs he,⟨_,aL _ rfl,rfl,by rw[rel.length];rfl⟩,λb hb=>?_,q⟩
 have e:b=s.heap.objs.size:=by simpa using hb
 subst e
 exact I.fpOk (ag _) (I.hok.fresh (ag _))
end L2
namespace PySem
open PyProof.Rows
section
variable {κ:Type} [DecidableEq κ]
def Dl(xs:List κ):List κ:=xs.foldl (λσ k=>if σ.any (λj=>decide (j=k)) then σ else σ++[k]) []
def N9(xs:List κ)(k:κ):Dl (xs++[k])=if(Dl xs).any (λj=>decide (j=k)) then Dl xs else Dl xs++[k]:=by
 unfold Dl
 rw[List.foldl_append]
 rfl
def ah2(xs:List κ)(k j:κ):(Dl (xs++[k])).any (λi=>decide (i=j))=((Dl xs).any (λi=>decide (i=j))||decide (j=k)):=by
 rw[N9]
 by_cases h:(Dl xs).any (λi=>decide (i=k))=true
 .rw[if_pos h]
  by_cases e:j=k
  .subst e;rw[h];rfl
  .simp[e]
 .rw[if_neg h,List.any_append]
  congr 1
  simp[eq_comm]
def Rb(xs:List κ):(Dl xs).length<=xs.length:=by
 have:∀(ys acc:List κ),(ys.foldl (λσ k=>if σ.any (λj=>decide (j=k)) then σ else σ++[k]) acc).length<=acc.length+ys.length:=by
  intro ys
  induction ys with
  |nil=>intro acc;exact ag _
  |cons y ys ih=>
   intro acc
   refine aF (ih _) ?_
   rw[aT]
   dsimp only
   split
   .omega
   .rw[ak,bK];omega
 exact aF (this xs []) (by simp)
end
section
variable {prog:a7}{w:bL}{A:bJ}{E:aj->aq->Prop}{s:aq}{κ:Type} [DecidableEq κ] {knd:KeyKind prog w κ}{ks:List κ}
abbrev Cs(led:Bool):Obj:={cls:=.type "set", dict:=none,data:=.set #[] 0 (.fresh 0 0 led)}
end
end PySem
namespace L2
open PySem PySem.Spec PyProof.Rows
section
variable {X:Cx}{e:Expr}{de:DE}{p p2 pos pos2:Pos}
theorem X3:∀{ys:List Str}{us:List aj}{i:Nat}{v:aj},Vals (ys.map V.str) us->us[i]?=some v -> ∃k t,ys[i]?=some k/\v=.str k t
 |[],_,i,v,r,e=>by rw[lN] at r;cases r;simp at e
 | y::ys,_,i,v,r,e=>by
  rw[a8] at r
  cases r with
  |cons r1 r2=>
   obtain⟨t,rfl⟩:=r1
   cases i with
   |zero=>simp only[eV,Option.some.injEq] at e;exact⟨y,t,rfl,e.symm⟩
   |succ i=>simp only[b_] at e ⊢;exact X3 r2 e
end
section
variable {X:Cx}
def ay3(hu:X.A.units+64<cLine):IxR X (λx y H Q=>∃a v,x=.ref a/\Iq H a y (some v)/\Q v H):=by
 intro value slice ξ s σ H x y v u Q I rx ry h hs
 obtain⟨a,w',rfl,g,q⟩:=h
 cases rx
 exact mH (Qz I g) PySem.F.slot_dict_getitem.lookup (Ys (by omega) I g ry λw1 s' I' r'=>⟨w',H,I',r',q⟩) hs
def av7{y:V}{v:aj}(r:RelV y v)(f:Cf y=true):bc3 v=some y:=by
 cases y with
 |non=>cases r;rfl
 |bl b=>cases r;rfl
 |int i=>obtain⟨t,rfl⟩:=r;rfl
 |str z=>obtain⟨t,rfl⟩:=r;rfl
 |_=>cases f
def eqF(y:V)(v:aj):Bool:=match bc3 v with
 |some x=>eqV x y
 |none=>false
def a61{ys:List V}{us:List aj}(r:Vals ys us):∀{i:Nat}{u:aj},us[i]?=some u -> ∃y,ys[i]?=some y/\RelV y u:=by
 induction r with
 |nil=>intro i u e;simp at e
 |@cons y v ys us h t ih=>
  intro i u e
  cases i with
  |zero=>rw[eV] at e;cases e;exact⟨y,rfl,h⟩
  |succ i=>rw[b_] at e;exact ih e
def Us:V->List V->Hp->VK->Prop:=λx xs H Q=>∃p ys y,x=.ref p/\xs=[y]/\H p=some (.lst ys)/\Cf y=true/\ys.all Cf=true/\∃j:Nat,j<ys.length/\eqV (ys.getD j .non) y=true/\(∀m,m<j->eqV (ys.getD m .non) y=false)/\Q (.int j) H
def ai1:MtR X "list.index" Us:=by
 intro ξ s σ H x xs v us Q I rx rs h
 obtain⟨p,ys,y,rfl,rfl,hp,fy,fs,j,hj,e1,e2,q⟩:=h
 cases rx
 obtain⟨u,rfl,ru⟩:=rs.one
 obtain⟨hz,χ,n,r,e⟩:=I.hok p _ hp
 have hl:=r.length
 have at_:∀(m:Nat)(hm:m<χ.toArray.size),eqF y χ.toArray[m]=eqV (ys.getD m .non) y/\RelV (ys.getD m .non) χ.toArray[m]/\Cf (ys.getD m .non)=true:=λm hm=>by
  have hm':m<χ.length:=by simpa using hm
  obtain⟨y',h1,h2⟩:=a61 r (i:=m) (u:=χ[m]) (am hm')
  have f':Cf y'=true:=List.all_eq_true.mp fs y' (aI h1)
  have g:ys.getD m .non=y':=by rw[aS,h1];rfl
  rw[g]
  have e3:χ.toArray[m]=χ[m]:=by simp
  rw[e3]
  refine⟨?_,h2,f'⟩
  unfold eqF
  rw[av7 h2 f']
 have hs:χ.toArray.size=ys.length:=by rw[aB];omega
 refine gh ji ⟨_,e,rfl⟩ PySem.F.entry_list_index (PySem.F.args_list_index_2 _ _)
  (MeetsSeq.list_index p χ.toArray n u (eqF y) (λz hz=>?_) j (by omega) ?_ (by rw[(at_ j (by omega)).1];exact e1) (λm hm hlt=>by rw[(at_ m hm).1];exact e2 m hlt)) ⟨e,?_⟩
 .obtain⟨m,hm,rfl⟩:=Array.mem_iff_getElem.mp hz
  obtain⟨a1,a2,a3⟩:=at_ m hm
  rw[a1]
  exact λprog w A E s Q hq=>Tn (A:=A) (s:=s) a2 ru a3 fy prog w E Q hq
 .have:=bM
  have h3:(sizeLine:Int)<2^63-1:=by decide
  omega
 .exact⟨.int j,H,I.tok _,⟨_,rfl⟩,q⟩
end
inductive Dt where
 |at_ (v:V)
 |lst (l:List Dt)
 |tup (l:List Dt)
mutual
def deq:Dt->Dt->Bool
 |.at_ v,.at_ w=>eqV v w
 |.lst xs,.lst ys=>C0 xs ys
 |.tup xs,.tup ys=>C0 xs ys
 |_,_=>false
def C0:List Dt->List Dt->Bool
 |[],[]=>true
 |x::xs,y::ys=>deq x y&&C0 xs ys
 |_,_=>false
end
mutual
def dep:Dt->Nat
 |.at_ _=>0
 |.lst l=>Bz l+1
 |.tup l=>Bz l+1
def Bz:List Dt->Nat
 |[]=>0
 |x::xs=>lZ (dep x) (Bz xs)
end
mutual
def At(K:ae)(H:Hp):Dt->V->Prop
 |.at_ v,x=>x=v/\Cf v=true
 |.lst ds,x=>∃a xs,x=.ref a/\SqL K H a xs/\AtL K H ds xs
 |.tup ds,x=>∃a xs,x=.ref a/\SqT K H a xs/\AtL K H ds xs
def AtL(K:ae)(H:Hp):List Dt->List V->Prop
 |[],xs=>xs=[]
 |d::ds,xs=>∃y ys,xs=y::ys/\At K H d y/\AtL K H ds ys
end
theorem AtL.length{K:ae}{H:Hp}:∀{ds:List Dt}{xs:List V},AtL K H ds xs->xs.length=ds.length
 |[],xs,h=>by unfold AtL at h;subst h;rfl
 | d::ds,xs,h=>by
  unfold AtL at h
  obtain⟨y,ys,rfl,_,h2⟩:=h
  rw[aT,aT,AtL.length h2]
def ae2{v:V}(h:Cf v=true):eqV v v=true:=by
 cases v <;> first|rfl|(exact beq_self_eq_true _)|exact absurd (show false=true from h) aR
mutual
theorem Ht{K:ae}{H:Hp}:∀{d:Dt}{x:V},At K H d x->deq d d=true
 |.at_ v,x,h=>by unfold At at h;unfold deq;exact ae2 h.2
 |.lst l,x,h=>by unfold At at h;obtain⟨a,xs,_,_,h⟩:=h;unfold deq;exact Iz h
 |.tup l,x,h=>by unfold At at h;obtain⟨a,xs,_,_,h⟩:=h;unfold deq;exact Iz h
theorem Iz{K:ae}{H:Hp}:∀{ds:List Dt}{xs:List V},AtL K H ds xs->C0 ds ds=true
 |[],xs,h=>by unfold C0;rfl
 | d::ds,xs,h=>by
  unfold AtL at h
  obtain⟨y,ys,rfl,h1,h2⟩:=h
  unfold C0
  rw[Ht h1,Iz h2]
  rfl
end
theorem Fo:∀{xs ys:List Dt},xs.length≠ys.length->C0 xs ys=false
 |[],[],h=>absurd rfl h
 |[],_::_,_=>by unfold C0;rfl
 |_::_,[],_=>by unfold C0;rfl
 | x::xs,y::ys,h=>by
  unfold C0
  rw[Fo (xs:=xs) (ys:=ys) (λe=>h (by rw[aT,aT,e])),iO]
theorem D7(z:Dt):∀{xs ys:List Dt},xs.length=ys.length->C0 xs ys=(bi xs.length).all λj=>deq (xs.getD j z) (ys.getD j z)
 |[],[],_=>by unfold C0;rfl
 |[],_::_,h=>by simp at h
 |_::_,[],h=>by simp at h
 | x::xs,y::ys,h=>by
  unfold C0
  rw[aT,jy,cx,List.all_map,D7 z (xs:=xs) (ys:=ys) (by simpa using h)]
  rfl
section
variable {X:Cx}{ξ:List (Addr×Obj)}{σ:St}{H:Hp}{s:aq}
def Rk{a:Addr}{xs ys:List V}(I:Inv X ξ σ H s)(h:SqL X.K H a xs)(h':SqT X.K H a ys):False:=by
 obtain⟨χ,r,⟨o,n,e,c,_,d⟩,_⟩:=I.list h
 obtain⟨its',r',⟨o',e',c',n',d'⟩,_⟩:=I.tuple h'
 rw[e] at e';cases e'
 rw[c] at c'
 injection c' with c'
 exact absurd c' (by decide)
mutual
theorem Ta(I:Inv X ξ σ H s):∀{d d':Dt}{x:V},At X.K H d x->At X.K H d' x->d=d'
 |.at_ v,.at_ w,x,h,h'=>by unfold At at h h';rw[<- h.1,<- h'.1]
 | .at_ v,.lst l,x,h,h'=>by
  unfold At at h h'
  obtain⟨a,xs,rfl,_⟩:=h'
  rw[<- h.1] at h
  exact absurd (show false=true from h.2) aR
 | .at_ v,.tup l,x,h,h'=>by
  unfold At at h h'
  obtain⟨a,xs,rfl,_⟩:=h'
  rw[<- h.1] at h
  exact absurd (show false=true from h.2) aR
 | .lst l,.at_ v,x,h,h'=>by
  unfold At at h h'
  obtain⟨a,xs,rfl,_⟩:=h
  rw[<- h'.1] at h'
  exact absurd (show false=true from h'.2) aR
 | .tup l,.at_ v,x,h,h'=>by
  unfold At at h h'
  obtain⟨a,xs,rfl,_⟩:=h
  rw[<- h'.1] at h'
  exact absurd (show false=true from h'.2) aR
 | .lst l,.lst l',x,h,h'=>by
  unfold At at h h'
  obtain⟨a,xs,rfl,q,h⟩:=h
  obtain⟨a',xs',e,q',h'⟩:=h'
  cases e
  rw[I.list_inj q q'] at h
  rw[Oo I h h']
 | .tup l,.tup l',x,h,h'=>by
  unfold At at h h'
  obtain⟨a,xs,rfl,q,h⟩:=h
  obtain⟨a',xs',e,q',h'⟩:=h'
  cases e
  rw[I.tuple_inj q q'] at h
  rw[Oo I h h']
 | .lst l,.tup l',x,h,h'=>by
  unfold At at h h'
  obtain⟨a,xs,rfl,q,h⟩:=h
  obtain⟨a',xs',e,q',h'⟩:=h'
  cases e
  exact(Rk I q q').elim
 | .tup l,.lst l',x,h,h'=>by
  unfold At at h h'
  obtain⟨a,xs,rfl,q,h⟩:=h
  obtain⟨a',xs',e,q',h'⟩:=h'
  cases e
  exact(Rk I q' q).elim
theorem Oo(I:Inv X ξ σ H s):∀{ds ds':List Dt}{xs:List V},AtL X.K H ds xs->AtL X.K H ds' xs->ds=ds'
 |[],[],_,_,_=>rfl
 |[],_::_,_,h,h'=>by unfold AtL at h h';obtain⟨y,ys,e,_⟩:=h';rw[h] at e;cases e
 |_::_,[],_,h,h'=>by unfold AtL at h h';obtain⟨y,ys,e,_⟩:=h;rw[h'] at e;cases e
 | d::ds,d'::ds',xs,h,h'=>by
  unfold AtL at h h'
  obtain⟨y,ys,rfl,h1,h2⟩:=h
  obtain⟨y',ys',e,h1',h2'⟩:=h'
  cases e
  rw[Ta I h1 h1',Oo I h2 h2']
end
def N0{A:bJ}{v:V}{u:aj}{a:Addr}{χ:Array aj}(f:Cf v=true)(r:RelV v u)(hl:s.heap.IsList a χ)(hu:A.units<cLine):bZ A s u (.ref a) false/\bZ A s (.ref a) u false:=by
 cases v with
 |non=>cases r;exact⟨.none_list hl hu,.list_none hl hu⟩
 |bl b=>cases r;exact⟨.bool_list b hl hu,.list_bool b hl hu⟩
 |int i=>obtain⟨t,rfl⟩:=r;exact⟨.int_list i t hl hu,.list_int i t hl hu⟩
 |str i=>obtain⟨t,rfl⟩:=r;exact⟨.str_list i t hl hu,.list_str i t hl hu⟩
 |_=>exact absurd (show false=true from f) aR
def K6{A:bJ}{v:V}{u:aj}{a:Addr}{χ:Array aj}(f:Cf v=true)(r:RelV v u)(hl:s.heap.IsTuple a χ)(hu:A.units<cLine):bZ A s u (.ref a) false/\bZ A s (.ref a) u false:=by
 cases v with
 |non=>cases r;exact⟨.none_tuple hl hu,.tuple_none hl hu⟩
 |bl b=>cases r;exact⟨.bool_tuple b hl hu,.tuple_bool b hl hu⟩
 |int i=>obtain⟨t,rfl⟩:=r;exact⟨.int_tuple i t hl hu,.tuple_int i t hl hu⟩
 |str i=>obtain⟨t,rfl⟩:=r;exact⟨.str_tuple i t hl hu,.tuple_str i t hl hu⟩
 |_=>exact absurd (show false=true from f) aR
mutual
theorem ae0(I:Inv X ξ σ H s):∀(d d':Dt)(A:bJ)(x y:V)(u v:aj),At X.K H d x->At X.K H d' y->RelV x u->RelV y v->A.units+dep d<cLine->bZ A s u v (deq d d')
 | .at_ p,.at_ q,A,x,y,u,v,h,h',r,r',hu=>by
  unfold At at h h';unfold deq
  obtain⟨rfl,f⟩:=h
  obtain⟨rfl,f'⟩:=h'
  exact Tn r r' f f'
 | .at_ p,.lst l,A,x,y,u,v,h,h',r,r',hu=>by
  unfold At at h h';unfold deq
  obtain⟨rfl,f⟩:=h
  obtain⟨a,xs,rfl,q,_⟩:=h'
  obtain⟨χ,_,pl,_⟩:=I.list q
  cases r'
  exact(N0 f r pl.isList (by omega)).1
 | .at_ p,.tup l,A,x,y,u,v,h,h',r,r',hu=>by
  unfold At at h h';unfold deq
  obtain⟨rfl,f⟩:=h
  obtain⟨a,xs,rfl,q,_⟩:=h'
  obtain⟨χ,_,pl,_⟩:=I.tuple q
  cases r'
  exact(K6 f r pl (by omega)).1
 | .lst l,.at_ p,A,x,y,u,v,h,h',r,r',hu=>by
  unfold At at h h';unfold deq
  obtain⟨rfl,f⟩:=h'
  obtain⟨a,xs,rfl,q,_⟩:=h
  obtain⟨χ,_,pl,_⟩:=I.list q
  cases r
  exact(N0 f r' pl.isList (by omega)).2
 | .tup l,.at_ p,A,x,y,u,v,h,h',r,r',hu=>by
  unfold At at h h';unfold deq
  obtain⟨rfl,f⟩:=h'
  obtain⟨a,xs,rfl,q,_⟩:=h
  obtain⟨χ,_,pl,_⟩:=I.tuple q
  cases r
  exact(K6 f r' pl (by omega)).2
 | .lst l,.tup l',A,x,y,u,v,h,h',r,r',hu=>by
  unfold At at h h';unfold deq
  obtain⟨a,xs,rfl,q,_⟩:=h
  obtain⟨b,ys,rfl,q',_⟩:=h'
  obtain⟨χ,_,pl,_⟩:=I.list q
  obtain⟨its',_,pl',_⟩:=I.tuple q'
  cases r;cases r'
  exact .list_tuple pl.isList pl' (by omega)
 | .tup l,.lst l',A,x,y,u,v,h,h',r,r',hu=>by
  unfold At at h h';unfold deq
  obtain⟨a,xs,rfl,q,_⟩:=h
  obtain⟨b,ys,rfl,q',_⟩:=h'
  obtain⟨χ,_,pl,_⟩:=I.tuple q
  obtain⟨its',_,pl',_⟩:=I.list q'
  cases r;cases r'
  exact .tuple_list pl pl'.isList (by omega)
 | .lst l,.lst l',A,x,y,u,v,h,h',r,r',hu=>by
  by_cases e:x=y
  .subst e
   have:=Ta I h h'
   rw[<- this,Ht h]
   have hx:∃a,x=.ref a:=by unfold At at h;obtain⟨a,_,e,_⟩:=h;exact⟨a,e⟩
   obtain⟨a,rfl⟩:=hx
   cases r;cases r'
   exact .same _
  .unfold At at h h';unfold deq
   unfold dep at hu
   obtain⟨a,xs,rfl,q,h⟩:=h
   obtain⟨b,ys,rfl,q',h'⟩:=h'
   obtain⟨χ,ri,pl,_⟩:=I.list q
   obtain⟨its',ri',pl',_⟩:=I.list q'
   cases r;cases r'
   have ne:a≠b:=λz=>e (by rw[z])
   have e1:=h.length
   have e2:=h'.length
   have e3:=ri.length
   have e4:=ri'.length
   refine .of_refs ne ?_
   by_cases hl:l.length=l'.length
   .rw[D7 (.lst []) hl]
    have hsz:χ.toArray.size=l.length:=by simp;omega
    rw[<- hsz]
    exact .lists pl.isList pl'.isList (by simp;omega) (by omega) λj h1 h2=>by
     have:=Gf I l l' A.in1 xs ys χ its' h h' ri ri' (by show A.units+1+Bz l<cLine;omega) j (by simpa using h1) (by simpa using h2)
     simpa using this
   .rw[Fo hl]
    exact .lists_lengths pl.isList pl'.isList (by simp;omega) (by omega)
 | .tup l,.tup l',A,x,y,u,v,h,h',r,r',hu=>by
  by_cases e:x=y
  .subst e
   have:=Ta I h h'
   rw[<- this,Ht h]
   have hx:∃a,x=.ref a:=by unfold At at h;obtain⟨a,_,e,_⟩:=h;exact⟨a,e⟩
   obtain⟨a,rfl⟩:=hx
   cases r;cases r'
   exact .same _
  .unfold At at h h';unfold deq
   unfold dep at hu
   obtain⟨a,xs,rfl,q,h⟩:=h
   obtain⟨b,ys,rfl,q',h'⟩:=h'
   obtain⟨χ,ri,pl,_⟩:=I.tuple q
   obtain⟨its',ri',pl',_⟩:=I.tuple q'
   cases r;cases r'
   have ne:a≠b:=λz=>e (by rw[z])
   have e1:=h.length
   have e2:=h'.length
   have e3:=ri.length
   have e4:=ri'.length
   refine .of_refs ne ?_
   have T:=SeqAt.RcAt.tuples (A:=A) (s:=s) (e:=λj=>deq (l.getD j (.lst [])) (l'.getD j (.lst []))) pl pl' (by omega) λj h1 h2=>by
     have:=Gf I l l' A.in1 xs ys χ its' h h' ri ri' (by show A.units+1+Bz l<cLine;omega) j (by simpa using h1) (by simpa using h2)
     simpa using this
   by_cases hl:l.length=l'.length
   .rw[D7 (.lst []) hl]
    have hsz:χ.toArray.size=l.length:=by simp;omega
    have hsz':its'.toArray.size=l.length:=by simp;omega
    rw[hsz,hsz',Nat.min_self,beq_self_eq_true,gp] at T
    exact T
   .rw[Fo hl]
    have hne:(χ.toArray.size==its'.toArray.size)=false:=by
     rw[beq_eq_false_iff_ne];simp;omega
    rw[hne,iO] at T
    exact T
theorem Gf(I:Inv X ξ σ H s):∀(ds ds':List Dt)(A:bJ)(xs ys:List V)(us vs:List aj),AtL X.K H ds xs->AtL X.K H ds' ys->Vals xs us->Vals ys vs->A.units+Bz ds<cLine ->
  ∀(j:Nat)(h1:j<us.length)(h2:j<vs.length),bZ A s us[j] vs[j] (deq (ds.getD j (.lst [])) (ds'.getD j (.lst [])))
 | [],_,A,xs,ys,us,vs,h,h',r,r',hu=>λj h1 h2=>by
  unfold AtL at h
  subst h
  cases r
  cases h1
 | _::_,[],A,xs,ys,us,vs,h,h',r,r',hu=>λj h1 h2=>by
  unfold AtL at h'
  subst h'
  cases r'
  cases h2
 | d::ds,d'::ds',A,xs,ys,us,vs,h,h',r,r',hu=>λj h1 h2=>by
  unfold AtL at h h'
  obtain⟨y,ys,rfl,q1,q2⟩:=h
  obtain⟨z,zs,rfl,q1',q2'⟩:=h'
  cases r with
  |cons r1 r2=>
   cases r' with
   |cons r1' r2'=>
    unfold Bz at hu
    have m1:dep d<=lZ (dep d) (Bz ds):=Nat.le_max_left _ _
    have m2:Bz ds<=lZ (dep d) (Bz ds):=Nat.le_max_right _ _
    cases j with
    |zero=>exact ae0 I d d' A _ _ _ _ q1 q1' r1 r1' (by omega)
    |succ j=>exact Gf I ds ds' A _ _ _ _ q2 q2' r2 r2' (by omega) j (by simpa using h1) (by simpa using h2)
end
def Gg{K:ae}{d:Dt}{a:Addr}(h:At K H d (.ref a)):(∃l xs,d=.lst l/\SqL K H a xs/\AtL K H l xs)\/(∃l xs,d=.tup l/\SqT K H a xs/\AtL K H l xs):=by
 cases d with
 |at_ v=>
  unfold At at h
  rw[<- h.1] at h
  exact absurd (show false=true from h.2) aR
 |lst l=>unfold At at h;obtain⟨b,xs,e,q,h⟩:=h;cases e;exact .inl ⟨l,xs,rfl,q,h⟩
 |tup l=>unfold At at h;obtain⟨b,xs,e,q,h⟩:=h;cases e;exact .inr ⟨l,xs,rfl,q,h⟩
def Rj{K:ae}{d:Dt}{x:V}(h:At K H d x)(f:∀a,x≠.ref a):d=.at_ x/\Cf x=true:=by
 cases d with
 |at_ v=>unfold At at h;rw[h.1];exact⟨rfl,h.2⟩
 |lst l=>unfold At at h;obtain⟨b,xs,e,_⟩:=h;exact absurd e (f b)
 |tup l=>unfold At at h;obtain⟨b,xs,e,_⟩:=h;exact absurd e (f b)
def b44(I:Inv X ξ σ H s){A:bJ}{d d':Dt}{a b:Addr}(h:At X.K H d (.ref a))(h':At X.K H d' (.ref b))(hu:A.units+dep d<cLine):i9 A s (.ref a) (.ref b) (deq d d')/\iN A s (.ref a) (.ref b) (!deq d d'):=by
 rcases Gg h with⟨l,xs,rfl,q,h⟩|⟨l,xs,rfl,q,h⟩
 .rcases Gg h' with⟨l',ys,rfl,q',h'⟩|⟨l',ys,rfl,q',h'⟩
  .unfold deq
   unfold dep at hu
   obtain⟨χ,ri,pl,_⟩:=I.list q
   obtain⟨its',ri',pl',_⟩:=I.list q'
   have e1:=h.length
   have e2:=h'.length
   have e3:=ri.length
   have e4:=ri'.length
   have it:∀j (h1:j<χ.toArray.size) (h2:j<its'.toArray.size),bZ A.in1 s χ.toArray[j] its'.toArray[j] (deq (l.getD j (.lst [])) (l'.getD j (.lst []))):=λj h1 h2=>by
    have:=Gf I l l' A.in1 xs ys χ its' h h' ri ri' (by show A.units+1+Bz l<cLine;omega) j (by simpa using h1) (by simpa using h2)
    simpa using this
   by_cases hl:l.length=l'.length
   .rw[D7 (.lst []) hl]
    have hsz:χ.toArray.size=l.length:=by simp;omega
    rw[<- hsz]
    exact⟨.lists pl.isList pl'.isList (by simp;omega) (by omega) it,.lists pl.isList pl'.isList (by simp;omega) (by omega) it⟩
   .rw[Fo hl]
    exact⟨.lists_lengths pl.isList pl'.isList (by simp;omega) (by omega),.lists_lengths pl.isList pl'.isList (by simp;omega) (by omega)⟩
  .unfold deq
   obtain⟨χ,ri,pl,_⟩:=I.list q
   obtain⟨its',ri',pl',_⟩:=I.tuple q'
   exact⟨.list_tuple pl.isList pl' (by omega),.list_tuple pl.isList pl' (by omega)⟩
 .rcases Gg h' with⟨l',ys,rfl,q',h'⟩|⟨l',ys,rfl,q',h'⟩
  .unfold deq
   obtain⟨χ,ri,pl,_⟩:=I.tuple q
   obtain⟨its',ri',pl',_⟩:=I.list q'
   exact⟨.tuple_list pl pl'.isList (by omega),.tuple_list pl pl'.isList (by omega)⟩
  .unfold deq
   unfold dep at hu
   obtain⟨χ,ri,pl,_⟩:=I.tuple q
   obtain⟨its',ri',pl',_⟩:=I.tuple q'
   have e1:=h.length
   have e2:=h'.length
   have e3:=ri.length
   have e4:=ri'.length
   have it:∀j (h1:j<χ.toArray.size) (h2:j<its'.toArray.size),bZ A.in1 s χ.toArray[j] its'.toArray[j] (deq (l.getD j (.lst [])) (l'.getD j (.lst []))):=λj h1 h2=>by
    have:=Gf I l l' A.in1 xs ys χ its' h h' ri ri' (by show A.units+1+Bz l<cLine;omega) j (by simpa using h1) (by simpa using h2)
    simpa using this
   have T:=SeqAt.RcAt.tuples pl pl' (by omega) it
   have T':=SeqAt.RcNeAt.tuples pl pl' (by omega) it
   by_cases hl:l.length=l'.length
   .rw[D7 (.lst []) hl]
    have hsz:χ.toArray.size=l.length:=by simp;omega
    have hsz':its'.toArray.size=l.length:=by simp;omega
    rw[hsz,hsz',Nat.min_self,beq_self_eq_true,gp] at T T'
    exact⟨T,T'⟩
   .rw[Fo hl]
    have hne:(χ.toArray.size==its'.toArray.size)=false:=by
     rw[beq_eq_false_iff_ne];simp;omega
    rw[hne,iO] at T T'
    exact⟨T,T'⟩
def Xq(I:Inv X ξ σ H s){A:bJ}{d:Dt}{a:Addr}{v:V}{u:aj}(h:At X.K H d (.ref a))(f:Cf v=true)(r:RelV v u)(hu:A.units<cLine) :
  i9 A s (.ref a) u false/\iN A s (.ref a) u true/\i9 A s u (.ref a) false/\iN A s u (.ref a) true:=by
 rcases Gg h with⟨l,xs,rfl,q,h⟩|⟨l,xs,rfl,q,h⟩
 .obtain⟨χ,ri,pl,_⟩:=I.list q
  cases v with
  |non=>cases r;exact⟨.list_none pl.isList hu,.list_none pl.isList hu,.none_list pl.isList hu,.none_list pl.isList hu⟩
  |bl b=>cases r;exact⟨.list_bool b pl.isList hu,.list_bool b pl.isList hu,.bool_list b pl.isList hu,.bool_list b pl.isList hu⟩
  |int b=>obtain⟨t,rfl⟩:=r;exact⟨.list_int b t pl.isList hu,.list_int b t pl.isList hu,.int_list b t pl.isList hu,.int_list b t pl.isList hu⟩
  |str b=>obtain⟨t,rfl⟩:=r;exact⟨.list_str b t pl.isList hu,.list_str b t pl.isList hu,.str_list b t pl.isList hu,.str_list b t pl.isList hu⟩
  |_=>exact absurd (show false=true from f) aR
 .obtain⟨χ,ri,pl,_⟩:=I.tuple q
  cases v with
  |non=>cases r;exact⟨.tuple_none pl hu,.tuple_none pl hu,.none_tuple pl hu,.none_tuple pl hu⟩
  |bl b=>cases r;exact⟨.tuple_bool b pl hu,.tuple_bool b pl hu,.bool_tuple b pl hu,.bool_tuple b pl hu⟩
  |int b=>obtain⟨t,rfl⟩:=r;exact⟨.tuple_int b t pl hu,.tuple_int b t pl hu,.int_tuple b t pl hu,.int_tuple b t pl hu⟩
  |str b=>obtain⟨t,rfl⟩:=r;exact⟨.tuple_str b t pl hu,.tuple_str b t pl hu,.str_tuple b t pl hu,.str_tuple b t pl hu⟩
  |_=>exact absurd (show false=true from f) aR
def am8(K:ae)(neg:Bool):R2:=λx y H Q=>∃d d',At K H d x/\At K H d' y/\dep d<=40/\Q (.bl (if neg then !deq d d' else deq d d')) H
def ao1(I:Inv X ξ σ H s){A:bJ}{d d':Dt}{x y:V}{u v:aj}(h:At X.K H d x)(h':At X.K H d' y)(r:RelV x u)(r':RelV y v)(hr:(∃a,x=.ref a) \/ ∃b,y=.ref b)(hu:A.units+dep d<cLine) :
  i9 A s u v (deq d d')/\iN A s u v (!deq d d'):=by
 by_cases hx:∃a,x=.ref a
 .obtain⟨a,rfl⟩:=hx
  cases r
  by_cases hy:∃b,y=.ref b
  .obtain⟨b,rfl⟩:=hy
   cases r'
   exact b44 I h h' hu
  .obtain⟨rfl,f⟩:=Rj h' (λb e=>hy ⟨b,e⟩)
   obtain⟨q1,q2,_⟩:=Xq I h f r' (show A.units<cLine by omega)
   have e:deq d (.at_ y)=false:=by
    rcases Gg h with⟨l,xs,rfl,_⟩|⟨l,xs,rfl,_⟩ <;> (unfold deq;rfl)
   rw[e]
   exact⟨q1,q2⟩
 .have hy:∃b,y=.ref b:=hr.resolve_left hx
  obtain⟨b,rfl⟩:=hy
  cases r'
  obtain⟨rfl,f⟩:=Rj h (λb e=>hx ⟨b,e⟩)
  obtain⟨_,_,q1,q2⟩:=Xq I h' f r (show A.units<cLine by omega)
  have e:deq (.at_ x) d'=false:=by
   rcases Gg h' with⟨l,xs,rfl,_⟩|⟨l,xs,rfl,_⟩ <;> (unfold deq;rfl)
  rw[e]
  exact⟨q1,q2⟩
def Uk(hu:X.A.units+64<cLine){x y:V}{u v:aj}{Q:VK}(I:Inv X ξ σ H s)(rx:RelV x u)(ry:RelV y v)(hr:(∃a,x=.ref a) \/ ∃b,y=.ref b)(h:am8 X.K false x y H Q):ba (model X.prog X.w) X.A (eB .Eq u v) (EP X ξ σ Q) X.xe s:=by
 obtain⟨d,d',h1,h2,hd,q⟩:=h
 exact(ao1 I h1 h2 rx ry hr (A:=X.A) (by omega)).1 _ _ _ _ ⟨.bl _,H,I,rfl,q⟩
def Um(hu:X.A.units+64<cLine){x y:V}{u v:aj}{Q:VK}(I:Inv X ξ σ H s)(rx:RelV x u)(ry:RelV y v)(hr:(∃a,x=.ref a) \/ ∃b,y=.ref b)(h:am8 X.K true x y H Q):ba (model X.prog X.w) X.A (eB .NotEq u v) (EP X ξ σ Q) X.xe s:=by
 obtain⟨d,d',h1,h2,hd,q⟩:=h
 exact(ao1 I h1 h2 rx ry hr (A:=X.A) (by omega)).2 _ _ _ _ ⟨.bl _,H,I,rfl,q⟩
def an2:R2:=λx y H Q=>match x,y with
 |.str a,.int k=>∃z,(k=0/\z=bU\/k=1/\z=a)/\Q (.str z) H
 |_,_=>False
def op_mulS:OpR X (fc .Mult) an2:=by
 intro ξ s σ H x y v u Q I rx ry h
 unfold an2 at h
 split at h
 .rename_i a k
  obtain⟨t,rfl⟩:=rx
  obtain⟨t',rfl⟩:=ry
  obtain⟨z,⟨rfl,rfl⟩|⟨rfl,rfl⟩,q⟩:=h
  .refine jR rfl (λz _=>absurd (by decide) z) (λz _=>absurd (by decide) z) ?_
   rw[if_pos (by decide)]
   exact⟨by decide,.str _,H,I.tok _,⟨_,rfl⟩,q⟩
  .refine jR rfl (λ_ z=>by cases z) (λ_ z=>by cases z) ?_
   rw[if_neg (by decide)]
   exact⟨.str _,H,I,⟨_,rfl⟩,q⟩
 .exact h.elim
def bp7(a:Str)(k:Nat):Str:=⟨(b7 k a.cps).foldl (· ++ ·) #[]⟩
def an1:R2:=λx y H Q=>match x,y with
 |.str a,.int k=>0<a.length/\2<=k/\k<=1000/\a.length*k.toNat<=16777216/\(bp7 a k.toNat).length<=16777216/\Q (.str (bp7 a k.toNat)) H
 |_,_=>False
def a06:OpR X (fc .Mult) an1:=by
 intro ξ s σ H x y v u Q I rx ry h
 unfold an1 at h
 split at h
 .rename_i a k
  obtain⟨h1,h2,h3,h4,h5,q⟩:=h
  obtain⟨t,rfl⟩:=rx
  obtain⟨t',rfl⟩:=ry
  have e1:¬ k<1:=by omega
  have e2:(k==1||a.length==0)=false:=by
   rw[j_,beq_eq_false_iff_ne,beq_eq_false_iff_ne];omega
  refine jR ?_ (λ_ _=>?_) (λ_ _=>?_) ?_
  .rw[j_,decide_eq_false_iff_not,decide_eq_false_iff_not];constructor <;> omega
  .intro z
   have ek:((k.toNat:Nat):Int)=k:=kJ (by omega)
   have z3:(a.length:Int)*k<=16777216:=by rw[<- ek,<- gA];exact Int.ofNat_le.mpr h4
   have z4:(a.length:Int)*1<=(a.length:Int)*k:=ia (by omega) (kU _)
   have z5:(2^63-1:Int)/1000<=(2^63-1)/k:=Int.le_ediv_of_mul_le (by omega) (Int.le_trans (ia h3 (by decide)) (by decide))
   have z6:(16777216:Int)<=(2^63-1:Int)/1000:=by decide
   omega
  .show decide _=false;rw[bM];exact decide_eq_false (by omega)
  .rw[if_neg e1,e2]
   exact⟨by rw[bM];exact h5,.str _,H,I.tok _,⟨_,rfl⟩,q⟩
 .exact h.elim
end
section
variable {X:Cx}{ξ:List (Addr×Obj)}{σ:St}{H:Hp}{s:aq}{a b:Expr}{ta tb:TE}{tA tB:TT}{pos:Pos}
def tIf(t:TT)(ta tb:TE):TE:=λσ H Q=>t σ H λc H1=>if c=true then ta σ H1 Q else tb σ H1 Q
def ak0{c:Expr}(hc:PT X c tA)(ha:PE X a ta)(hb:PE X b tb):PE X (.IfExp c a b pos) (tIf tA ta tb):=by
 intro ξ s σ H Q I h
 refine wpAny_IfExp (thn (hc ξ s σ H _ I h) λd s1 ⟨H1,I1,q1⟩=>?_)
 cases d with
 |true=>exact ha ξ s1 σ H1 Q I1 q1
 |false=>exact hb ξ s1 σ H1 Q I1 q1
def Zf:OpR X (eB .In) (λx y H Q=>∃i j,x=.str i/\y=.str j/\Q (.bl (!(gx j i 0 j.length 1).isEmpty)) H):=by
 intro ξ s σ H x y v u Q I rx ry h
 obtain⟨i,j,rfl,rfl,q⟩:=h
 obtain⟨t,rfl⟩:=rx
 obtain⟨t',rfl⟩:=ry
 exact in_str (Jb I q rfl)
def Yj(hc:X.calm=true):Cm X (.builtin "max") (λxs H Q=>∃i j,xs=[.int i,.int j]/\Q (.int (if j > i then j else i)) H):=by
 intro ξ s σ H xs us Q I r h
 obtain⟨i,j,rfl,q⟩:=h
 obtain⟨u,w',rfl,⟨t,rfl⟩,⟨t',rfl⟩⟩:=as8 r
 refine bD (ag _) (max_two_ints (I.ok.hd hc) λh' tk k htk=>⟨_,H,I.kept k htk,?_,q⟩)
 by_cases hj:j > i
 .rw[if_pos hj,if_pos hj];exact⟨_,rfl⟩
 .rw[if_neg hj,if_neg hj];exact⟨_,rfl⟩
def Yl(hc:X.calm=true):Cm X (.builtin "min") (λxs H Q=>∃i j,xs=[.int i,.int j]/\Q (.int (if j<i then j else i)) H):=by
 intro ξ s σ H xs us Q I r h
 obtain⟨i,j,rfl,q⟩:=h
 obtain⟨u,w',rfl,⟨t,rfl⟩,⟨t',rfl⟩⟩:=as8 r
 refine bD (ag _) (min_two_ints (I.ok.hd hc) λh' tk k htk=>⟨_,H,I.kept k htk,?_,q⟩)
 by_cases hj:j<i
 .rw[if_pos hj,if_pos hj];exact⟨_,rfl⟩
 .rw[if_neg hj,if_neg hj];exact⟨_,rfl⟩
theorem Vals.eraseIdx:∀{xs:List V}{us:List aj} (i:Nat),Vals xs us->Vals (xs.eraseIdx i) (us.eraseIdx i)
 |_,_,_,.nil=>.nil
 |_,_,0,.cons _ t=>t
 |_,_,i+1,.cons r t=>.cons r (Vals.eraseIdx i t)
theorem N8{α:Type}:∀(l:List α)(i:Nat),(l.eraseIdx i).length<=l.length
 |[],_=>ag _
 |_::_,0=>cS _
 |_::r,i+1=>dB (N8 r i)
def an3:V->List V->Hp->VK->Prop:=λx vs H Q=>∃l xs i k y,x=.ref l/\vs=[.int i]/\H l=some (.lst xs) /\ -(2^63)<=i/\i<2^63/\seqIndex? i xs.length=some k/\xs[k]?=some y/\Q y (upd H l (.lst (xs.eraseIdx k)))
def ai3:MtM X "list.pop" an3:=by
 intro ξ s σ H x vs v us Q I rx rv h
 obtain⟨l,xs,i,k,y,rfl,rfl,hH,h1,h2,hk,hy,q⟩:=h
 cases rx
 obtain⟨u,rfl,ru⟩:=rv.one
 obtain⟨t,rfl⟩:=ru
 obtain⟨z,χ,n,r,hl,e⟩:=I.lstM hH
 obtain⟨w,hw,rw'⟩:=r.get hy
 refine gh F.slot_list_pop ⟨_,e,rfl⟩ F.entry_list_pop (F.args_list_pop_2 _ _)
  (MeetsSeq.list_pop_at l χ.toArray n i t k w (fitsIndex_both h1 h2) (by rw[aB,<- hl];exact hk) (by rw[<- bW];exact hw) (by rw[aB];omega)) ⟨e,?_⟩
 refine⟨y,_,I.lset (its':=χ.eraseIdx k) hH e ?_ (r.eraseIdx k) ?_,rw',q⟩
 .show χ.toArray.eraseIdxIfInBounds k=(χ.eraseIdx k).toArray
  rw[gU]
 .have:=N8 xs k
  omega
theorem Vals.rep{xs:List V}{us:List aj}(h:Vals xs us):∀k:Nat,Vals (b7 k xs).flatten (b7 k us).flatten
 |0=>.nil
 | k+1=>by
  rw[eY,eY,gX,gX]
  exact Vals.append h (Vals.rep h k)
theorem N1(χ:List aj):∀(k:Nat)(acc:List aj),
  List.foldl (λx1 x2=>x1++x2) acc.toArray (b7 k χ.toArray)=(acc++(b7 k χ).flatten).toArray
 |0,acc=>by simp
 | k+1,acc=>by
  have e:acc.toArray++χ.toArray=(acc++χ).toArray:=by simp
  have e2:(acc++χ)++(b7 k χ).flatten=acc++(b7 (k+1) χ).flatten:=by
   rw[eY,gX,ck]
  rw[<- e2,<- N1 χ k (acc++χ),<- e,eY,List.foldl_cons]
def by1:R2:=λx y H Q=>∃l k xs,x=.ref l/\y=.int k/\H l=some (.lst xs) /\ -(2^63)<=k/\k<2^63/\xs.length*k.toNat<=sizeLine /\
 ∀p,H p=none->Q (.ref p) (upd H p (.lst (b7 k.toNat xs).flatten))
def az0{α:Type}(xs:List α)(k:Nat):(b7 k xs).flatten.length=k*xs.length:=by
 induction k with
 |zero=>simp
 |succ k ih=>rw[eY,gX,ak,ih,Nat.succ_mul,Nat.add_comm]
def bk5:OpR X (fc .Mult) by1:=by
 intro ξ s σ H x y v u Q I rx ry h
 obtain⟨l,k,xs,rfl,rfl,hH,h1,h2,hz,q⟩:=h
 cases rx
 obtain⟨t,rfl⟩:=ry
 obtain⟨z,χ,n,r,hl,e⟩:=I.lstM hH
 have hlen:χ.toArray.size*k.toNat<=sizeLine:=by rw[aB,<- hl];exact hz
 have hcap:¬ χ.toArray.size*k.toNat > (2^63-1)/8:=by
  have:(sizeLine:Nat)<=(2^63-1)/8:=by decide
  omega
 have hfit:¬ (!dQ k)=true:=by
  rw[fitsIndex_both h1 h2]
  exact aR
 have hlong:¬ ge (χ.toArray.size*k.toNat)=true:=by
  rw[Ri hlen]
  exact aR
 have hnew:List.foldl (λx1 x2=>x1++x2) #[] (b7 (if χ.toArray.isEmpty=true then 0 else k.toNat) χ.toArray)=(b7 k.toNat χ).flatten.toArray:=by
  have f0:∀m:Nat,List.foldl (λx1 x2=>x1++x2) #[] (b7 m χ.toArray)=(b7 m χ).flatten.toArray:=λm=>by
   have:=N1 χ m []
   rw[List.nil_append] at this
   exact this
  rw[f0]
  cases χ with
  |nil=>simp
  |cons a r'=>rw[if_neg (by simp)]
 refine wpAny_binaryOp_repeat_ref (T := "list") (U := "int") (by decide) ⟨_,e,rfl⟩ (λs'=>typeIs_int s' k t) noFill_list_mul F.fills_int_mul F.slot_int_rmul repeat_list F.slot_int_index.lookup
  (gh F.slot_int_rmul (typeIs_int s k t) F.entry_int_rmul (F.args_int_rmul_2 _ _) (int___rmul___int_list k t l χ.toArray n)
   ⟨e,rfl,⟨_,e,rfl⟩,gh F.slot_list_mul ⟨_,e,rfl⟩ F.entry_list_mul (F.args_list_mul_2 _ _) (AutoListH.list___mul___list_int_3 l χ.toArray n k t hfit hcap hlong) ⟨e,?_⟩⟩)
 rw[hnew]
 exact⟨.ref _,_,I.lnew (t':=s.toks) (r.rep k.toNat) (by rw[az0,Nat.mul_comm];exact hz),rfl,q _ I.fresh⟩
def Inv.tkn(I:Inv X ξ σ H s){x y:Str}{t:Tok}(e:cg X.K bq x=some (some (.str y t))):t<s.toks:=aH (I.ok.tk x y t e) I.os.2
def am7(K:ae):R2:=λx y H Q=>match x,y with
 |.stk a _ true,.stk b n true=>0<a.length/\0<b.length/\a.length+b.length<=16777216/\(∃x,cg K bq x=some (some (.str b n)))/\Q (.stk (a++b) (n+1) false) H
 |_,_=>False
def a04:OpR X (fc .Add) (am7 X.K):=by
 intro ξ s σ H x y v u Q I rx ry h
 unfold am7 at h
 split at h
 .rename_i a m b n
  obtain⟨h1,h2,h3,⟨g,e⟩,q⟩:=h
  obtain⟨t,rfl,_⟩:=rx
  obtain⟨t',rfl,rfl⟩:=ry
  have lt:=I.tkn e
  refine PySem.P.add_str ?_
  have e1:(a.length==0)=false:=by rw[beq_eq_false_iff_ne];omega
  have e2:(b.length==0)=false:=by rw[beq_eq_false_iff_ne];omega
  rw[e1,e2]
  refine⟨?_,.stk (a++b) (t'+1) false,H,I.tok _,⟨_,rfl,?_⟩,q⟩
  .have:(a++b).length=a.length+b.length:=by show(a.cps++b.cps).size=_;rw[Array.size_append];rfl
   rw[this,bM];exact h3
  .show (if false=true then _ else t'+1<=s.toks)
   rw[if_neg aR];exact lt
 .exact h.elim
def Pz:V->List V->Hp->VK->Prop:=λx xs H Q=>match x,xs with
 |.str a,[.stk y n true,.stk z m false]=>0<n/\n<m/\y≠z/\a.length+(a.length+1)*z.length<=16777216/\Q (.str (g9 a y z)) H
 |_,_=>False
def ai4:MtR X "str.replace" Pz:=by
 intro ξ s σ H x xs v us Q I rx rs h
 unfold Pz at h
 split at h
 .rename_i a y n z m
  obtain⟨h1,h2,h3,h4,q⟩:=h
  obtain⟨t,rfl⟩:=rx
  obtain⟨u1,u2,rfl,r1,r2⟩:=rs.two
  obtain⟨t1,rfl,e1⟩:=r1
  obtain⟨t2,rfl,e2⟩:=r2
  have e1:t1=n:=e1
  have e2:m<=t2:=by simpa using e2
  subst e1
  have n1:t1≠0:=dG h1
  have n2:t2≠0:=dG (aH (h7 h1 h2) e2)
  have n3:t1≠t2:=aV (aH h2 e2)
  exact bD (ag _) (SC.replace n1 n2 n3 (beq_eq_false_iff_ne.mpr h3) h4 λt' k htk=>⟨.str _,H,I.tok k htk,⟨_,rfl⟩,q⟩)
 .exact h.elim
end
def rNo:R2:=λ_ _ _ _=>False
def Az(K:ae):R2:=λx y H Q=>match x,y with
 |.int i,.int j=>Q (.int (i+j)) H
 |.str a,.str b=>a.length+b.length<=sizeLine/\Q (.str (a++b)) H
 |.ref a,.ref b=>bx9 (.ref a) (.ref b) H Q\/False
 |.stk a m e,.stk b n f=>am7 K (.stk a m e) (.stk b n f) H Q
 |_,_=>False
def a95:R2:=λx y H Q=>match x,y with
 |.int i,.int j=>Q (.int (i-j)) H
 |_,_=>False
def C8(K:ae):R2:=λx y H Q=>match x,y with
 |.int i,.int j=>CMul i j/\Q (.int (i*j)) H
 |.str a,.int k=>an2 (.str a) (.int k) H Q\/an1 (.str a) (.int k) H Q
 |.ref a,.int k=>by1 (.ref a) (.int k) H Q
 |_,_=>False
def Cp:R2:=λx y H Q=>match x,y with
 |.int i,.int j=>ba6 i j/\Q (.int (i/j)) H
 |_,_=>False
def B0:R2:=λx y H Q=>match x,y with
 |.int i,.int j=>0<j/\Q (.int (i%j)) H
 |_,_=>False
def a93:R2:=λx y H Q=>match x,y with
 |.int i,.int j=>ba7 i j/\Q (.int (i^j.toNat)) H
 |_,_=>False
def an6:R2:=λx y H Q=>match x,y with
 |.int i,.int j=>0<=j/\Q (.int (i/2^j.toNat)) H
 |_,_=>False
def a90:R2:=λx y H Q=>match x,y with
 |.int i,.int j=>Q (.int (Builtin.bitAnd i j)) H
 |_,_=>False
def rOp(K:ae):mx->R2
 |.Add=>Az K
 |.Sub=>a95
 |.Mult=>C8 K
 |.FloorDiv=>Cp
 |.Mod=>B0
 |.Pow=>a93
 |.RShift=>an6
 |.BitAnd=>a90
 |_=>rNo
section
variable {X:Cx}
def b38(op:mx):OpR X (fc op) (rOp X.K op):=by
 intro ξ s σ H x y v u Q I rx ry h
 cases op with
 |Add=>
  cases x <;> cases y <;> first
   |exact(h).elim
   |exact bj8 ξ s σ H _ _ v u Q I rx ry ⟨_,_,rfl,rfl,h⟩
   |exact Uj ξ s σ H _ _ v u Q I rx ry ⟨_,_,rfl,rfl,h⟩
   |exact bk0 ξ s σ H _ _ v u Q I rx ry (h.resolve_right id)
   |exact a04 ξ s σ H _ _ v u Q I rx ry h
 |Sub=>cases x <;> cases y <;> first|exact(h).elim|exact bk7 ξ s σ H _ _ v u Q I rx ry ⟨_,_,rfl,rfl,h⟩
 |Mult=>cases x <;> cases y <;> first|exact(h).elim|exact bk3 ξ s σ H _ _ v u Q I rx ry ⟨_,_,rfl,rfl,h⟩|exact(op_mulS.or a06) ξ s σ H _ _ v u Q I rx ry h|exact bk5 ξ s σ H _ _ v u Q I rx ry h
 |FloorDiv=>cases x <;> cases y <;> first|exact(h).elim|exact a05 ξ s σ H _ _ v u Q I rx ry ⟨_,_,rfl,rfl,h⟩
 |Mod=>cases x <;> cases y <;> first|exact(h).elim|exact bk2 ξ s σ H _ _ v u Q I rx ry ⟨_,_,rfl,rfl,h⟩
 |Pow=>cases x <;> cases y <;> first|exact(h).elim|exact bk4 ξ s σ H _ _ v u Q I rx ry ⟨_,_,rfl,rfl,h⟩
 |RShift=>cases x <;> cases y <;> first|exact(h).elim|exact bk6 ξ s σ H _ _ v u Q I rx ry ⟨_,_,rfl,rfl,h⟩
 |BitAnd=>cases x <;> cases y <;> first|exact(h).elim|exact bj9 ξ s σ H _ _ v u Q I rx ry ⟨_,_,rfl,rfl,h⟩
 |_=>exact(h).elim
end
def A0(K:ae)(neg:Bool):R2:=λx y H Q=>match x,y with
 |.ref a,.ref b=>False\/am8 K neg (.ref a) (.ref b) H Q\/False
 |.ref a,y=>am8 K neg (.ref a) y H Q\/False
 |x,.ref b=>am8 K neg x (.ref b) H Q
 |.int i,.int j=>Q (.bl (if neg then !decide (i=j) else decide (i=j))) H
 |.str i,.str j=>Q (.bl (if neg then !decide (i=j) else decide (i=j))) H
 |.bl i,.bl j=>Q (.bl (if neg then !(i==j) else(i==j))) H
 |x,y=>bp9 x y=true/\Q (.bl (if neg then !decide (x=y) else decide (x=y))) H
def Ut:R2:=λx y H Q=>match x,y with
 |.int i,.int j=>Q (.bl (decide (i<j))) H
 |.str i,.str j=>Q (.bl (decide (i.cps.toList<j.cps.toList))) H
 |_,_=>False
def Rq(K:ae)(neg:Bool):R2:=λx y H Q=>match x,y with
 |.non,_=>False
 |.str i,.str j=>neg=false/\Q (.bl (!(gx j i 0 j.length 1).isEmpty)) H
 |x,.ref p=>rIn K neg x (.ref p) H Q \/ ∃o,(Vz H p x o\/False)/\Q (.bl (if neg then !o.isSome else o.isSome)) H
 |_,_=>False
def Lp(neg:Bool):R2:=λx y H Q=>match y with
 |.non=>Q (.bl (if neg then !decide (x=.non) else decide (x=.non))) H
 | .bl d=>(match x with
  |.bl c=>Q (.bl (if neg then !(c==d) else(c==d))) H
  |_=>False)
 |_=>False
def Jj(K:ae):lT->R2
 |.Eq=>A0 K false
 |.NotEq=>A0 K true
 |.Lt=>Ut
 |.LtE=>rNo
 |.Gt=>rNo
 |.GtE=>rNo
 |.In=>Rq K false
 |.NotIn=>Rq K true
 |.Is=>Lp false
 |.IsNot=>Lp true
section
variable {X:Cx}
def Nv(hu:X.A.units+64<cLine)(op:lT):OpR X (eB op) (Jj X.K op):=by
  intro ξ s σ H x y v u Q I rx ry h
  cases op with
  |Eq=>
    cases x <;> cases y <;> first
      | (rcases h with h|h|h
         . exact h.elim
         . exact Uk hu I rx ry (.inl ⟨_,rfl⟩) h
         . exact h.elim)
      | (rcases h with h|h
         . exact Uk hu I rx ry (.inl ⟨_,rfl⟩) h
         . exact h.elim)
      |exact Uk hu I rx ry (.inr ⟨_,rfl⟩) h
      |exact Xb ξ s σ H _ _ v u Q I rx ry h
      |exact Xb ξ s σ H _ _ v u Q I rx ry ⟨rfl,by rw[Ke,dY];exact h⟩
      |exact Xb ξ s σ H _ _ v u Q I rx ry ⟨rfl,by rw[Kf,dY];exact h⟩
      |exact Xb ξ s σ H _ _ v u Q I rx ry ⟨rfl,by rw[O2];exact h⟩
  |NotEq=>
    cases x <;> cases y <;> first
      | (rcases h with h|h|h
         . exact h.elim
         . exact Um hu I rx ry (.inl ⟨_,rfl⟩) h
         . exact h.elim)
      | (rcases h with h|h
         . exact Um hu I rx ry (.inl ⟨_,rfl⟩) h
         . exact h.elim)
      |exact Um hu I rx ry (.inr ⟨_,rfl⟩) h
      |exact Xc ξ s σ H _ _ v u Q I rx ry h
      |exact Xc ξ s σ H _ _ v u Q I rx ry ⟨rfl,by rw[Ke,dY];exact h⟩
      |exact Xc ξ s σ H _ _ v u Q I rx ry ⟨rfl,by rw[Kf,dY];exact h⟩
      |exact Xc ξ s σ H _ _ v u Q I rx ry ⟨rfl,by rw[O2];exact h⟩
  |Lt=>cases x <;> cases y <;> first|exact(h).elim|exact bv9 ξ s σ H _ _ v u Q I rx ry ⟨_,_,rfl,rfl,h⟩|exact Zg ξ s σ H _ _ v u Q I rx ry ⟨_,_,rfl,rfl,h⟩
  |LtE=>exact(h).elim
  |Gt=>exact(h).elim
  |GtE=>exact(h).elim
  |In=>cases x <;> cases y <;> first|exact(h).elim|exact Zf ξ s σ H _ _ v u Q I rx ry ⟨_,_,rfl,rfl,h.2⟩|exact h.elim (Ze ξ s σ H _ _ v u Q I rx ry) (fun⟨o,g,q⟩=>by cases ry;exact b32 I (g.resolve_right id) rx λs' I'=>⟨.bl _,H,I',rfl,q⟩)
  |NotIn=>cases x <;> cases y <;> first|exact(h).elim|exact nomatch h.1|exact h.elim (Pm ξ s σ H _ _ v u Q I rx ry) (fun⟨o,g,q⟩=>by cases ry;exact g.elim (λg=>aw6 I g rx λs' I'=>⟨.bl _,H,I',rfl,q⟩) cA)
  |Is=>cases y <;> first|exact(h).elim|exact bk1 ξ s σ H _ _ v u Q I rx ry ⟨rfl,h⟩|(cases x <;> first|exact(h).elim|(cases rx;cases ry;exact is_bool ⟨.bl _,H,I,rfl,h⟩))
  |IsNot=>cases y <;> first|exact(h).elim|exact a07 ξ s σ H _ _ v u Q I rx ry ⟨rfl,h⟩|(cases x <;> first|exact(h).elim|(cases rx;cases ry;exact isnot_bool ⟨.bl _,H,I,rfl,h⟩))
end
def Xp:V->Hp->VK->Prop:=λx H Q=>match x with
 |.int i=>Q (.int (-i)) H
 |_=>False
def b83{X:Cx}:UnR X (unaryOp .USub) Xp:=by
 intro ξ s σ H x v Q I rx h
 cases x <;> first|exact(h).elim|exact bq9 ξ s σ H _ v Q I rx ⟨_,rfl,h⟩
def Ya{X:Cx}:bs2 X (as2 X.K):=by
 intro ξ s σ H x v Q I rx h
 cases x with
 |non=>exact Mf ξ s σ H _ v Q I rx ⟨_,rfl,h⟩
 |bl b=>exact Mf ξ s σ H _ v Q I rx ⟨_,rfl,h⟩
 |int i=>exact Mf ξ s σ H _ v Q I rx ⟨_,rfl,h⟩
 |str y=>exact Mf ξ s σ H _ v Q I rx ⟨_,⟨h.1,rfl⟩,h.2⟩
 |ref p=>exact Mf ξ s σ H _ v Q I rx h
 |_=>exact(h).elim
inductive SqX (K:ae) (H:Hp) (p:Addr) (i:Int) (xs:List V):Prop where
 |inl (h:SqL K H p xs)
 |inr (h:SqT K H p xs)
def Ai(K:ae):R2:=λx y H Q=>match x,y with
 |.str z,.int i=>z.length<=sizeLine/\∃c,atI z.cps.toList i=some c/\Q (.str ⟨#[c]⟩) H
 |.ref p,.int i=>∃xs v,SqX K H p i xs/\atI xs i=some v/\Q v H
 |.ref p,.str k=>∃v,Iq H p (.str k) (some v)/\Q v H
 |_,_=>False
def b36{X:Cx}(hu:X.A.units+64<cLine):IxR X (Ai X.K):=by
  intro value slice ξ s σ H x y v u Q I rx ry h hs
  cases x <;> cases y <;> first
    |exact(h).elim
    |(obtain⟨h1,c,h2,h3⟩:=h;exact be2 value slice ξ s σ H _ _ v u Q I rx ry ⟨_,_,c,rfl,rfl,h1,h2,h3⟩ hs)
    | (obtain⟨xs,w,h1|h1,h2,h3⟩:=h
       . exact ay4 value slice ξ s σ H _ _ v u Q I rx ry ⟨_,_,_,_,rfl,rfl,h1,h2,h3⟩ hs
       . exact be3 value slice ξ s σ H _ _ v u Q I rx ry ⟨_,_,_,_,rfl,rfl,h1,h2,h3⟩ hs)
    |(obtain⟨w,h1,h2⟩:=h;exact ay3 hu value slice ξ s σ H _ _ v u Q I rx ry ⟨_,w,rfl,h1,h2⟩ hs)
def an9:V->V->V->Hp->(Hp->Prop)->Prop:=λo i v H N=>match o,i with
 |.ref p,i=>∃H',DPut H p i v H'/\N H'
 |_,_=>False
def by7{X:Cx}(hu:X.A.units+64<cLine):br9 X an9:=by
 intro ξ s σ H o i v ov iv u Q I ro ri rv h
 cases o with
 |ref p=>
  have dp:∀{H'},DPut H p i v H'->Q H'->ba (model X.prog X.w) X.A (setItem ov iv u) (λ_ s'=>∃H',Inv X ξ σ H' s'/\Q H') X.xe s:=λ{H'} g q=>by
   cases ro
   exact Yt (by omega) I g ri rv λs' I'=>⟨H',I',q⟩
  obtain⟨H',g,q⟩:=h
  exact dp g q
 |_=>exact(h).elim
def Gs(K:ae)(f:Str):V->Hp->VK->Prop:=λx H Q=>match x with
 |.ref a=>(∃C dx fs v,H a=some (.ins C dx fs)/\Cls K C/\NoAttr K C f/\fs.lookup f=some v/\Q v H)
 |_=>False
def a94(K:ae)(f:Str):V->V->Hp->(Hp->Prop)->Prop:=λx y H N=>match x with
 |.ref a=>(∃C dx fs,H a=some (.ins C dx fs)/\Cls K C/\NoAttr K C f/\fs.length<1000/\N (upd H a (.ins C dx (He f y fs))))
 |_=>False
section
variable {X:Cx}{ξ:List (Addr×Obj)}{σ:St}{H:Hp}{s:aq}{A:bJ}{E:aj->aq->Prop}
def bs8{f:Str}{x:V}{u:aj}{b:Bool}{Q:VK}(I:Inv X ξ σ H s)(rx:RelV x u)(h:Gs X.K f x H Q):ba (model X.prog X.w) A (mE u f b) (EP X ξ σ Q) E s:=by
 cases x with
 |ref a=>
  cases rx
  obtain⟨C,dx,fs,v,ea,c,n,l,q⟩:=h
  exact Ts I ea c n l λu' s2 I2 ru=>⟨v,H,I2,ru,q⟩
 |_=>exact(h).elim
def by3{f:Str}{x y:V}{u v:aj}{N:Hp->Prop}{Q:Unit->aq->Prop}(I:Inv X ξ σ H s)(rx:RelV x u)(ry:RelV y v)(h:a94 X.K f x y H N)(hQ:∀H' s',Inv X ξ σ H' s'->N H'->Q () s') :
  ba (model X.prog X.w) A (setAttr u f v) Q E s:=by
 cases x with
 |ref a=>
  cases rx
  obtain⟨C,dx,fs,ea,c,n,l,q⟩:=h
  exact Uv I ea c n l ry λs3 I3=>hQ _ _ I3 q
 |_=>exact(h).elim
end
structure FI where
 f:Addr
 fd:bw
 ps:List Str
 k:Nat
 sp:Sp
 dfs:List V
 ds:List aj
structure MI where
 C:Addr
 i:FI
inductive GB where
 |fn (i:FI)
 |cls (C:Addr) (i:Option FI)
 |met (m:Str) (l:List MI)
 |val (v:V) (u:aj)
 |key (m:Str) (l:List MI)
 |kfn (i:FI)
def Cu:List (Str×GB)->Str->Option (List MI)
 |[],_=>none
 |(_,.met m l)::r,x=>if m=x then some l else Cu r x
 |_::r,x=>Cu r x
theorem Cn:∀{gb} {x} {l},Cu gb x=some l -> ∃k,(k,GB.met x l)∈gb
 | (k,.met m l')::r,x,l,h=>by
  unfold Cu at h
  by_cases e:m=x
  .rw[if_pos e] at h;cases h;subst e;exact⟨k,by simp⟩
  .rw[if_neg e] at h;obtain⟨k,q⟩:=Cn h;exact⟨k,aK _ q⟩
 |(_,.fn _)::r,x,l,h=>by unfold Cu at h;obtain⟨k,q⟩:=Cn h;exact⟨k,aK _ q⟩
 |(_,.cls _ _)::r,x,l,h=>by unfold Cu at h;obtain⟨k,q⟩:=Cn h;exact⟨k,aK _ q⟩
 |(_,.val _ _)::r,x,l,h=>by unfold Cu at h;obtain⟨k,q⟩:=Cn h;exact⟨k,aK _ q⟩
 |(_,.kfn _)::r,x,l,h=>by unfold Cu at h;obtain⟨k,q⟩:=Cn h;exact⟨k,aK _ q⟩
 |(_,.key _ _)::r,x,l,h=>by unfold Cu at h;obtain⟨k,q⟩:=Cn h;exact⟨k,aK _ q⟩
def Hu:List (Str×GB)->Str->Option (List MI)
 |[],_=>none
 | (_,g)::r,x=>match g with
  |.key m l=>if m=x then some l else Hu r x
  |_=>Hu r x
theorem Fr:∀{gb} {x} {l},Hu gb x=some l -> ∃k,(k,GB.key x l)∈gb
 |[],_,_,h=>by cases h
 | (k,g)::r,x,l,h=>by
  unfold Hu at h
  split at h
  .split at h
   .rename_i e
    cases h
    subst e
    exact⟨k,aY⟩
   .obtain⟨k,q⟩:=Fr h;exact⟨k,aK _ q⟩
  .obtain⟨k,q⟩:=Fr h;exact⟨k,aK _ q⟩
structure Sg where
 K:ae
 N:List Str
 sc:List (Str×cY)
 gb:List (Str×GB)
 bl:List Str
 top:Bool
 calm:Bool
def Eh:List Str->Str->Nat->Option Nat
 |[],_,_=>none
 |y::r,x,i=>if y=x then some i else Eh r x (i+1)
theorem Oe:∀{N} {x} {i j},Eh N x j=some i->j<=i/\N[i-j]?=some x
 |[],_,_,_,h=>by cases h
 | y::r,x,i,j,h=>by
  unfold Eh at h
  by_cases e:y=x
  .rw[if_pos e] at h
   cases h
   refine⟨ag _,?_⟩
   rw[h8,e]
   rfl
  .rw[if_neg e] at h
   obtain⟨h1,h2⟩:=Oe h
   refine⟨by omega,?_⟩
   have:i-j=(i-(j+1))+1:=by omega
   rw[this,b_]
   exact h2
def F4{N:List Str}{x:Str}{i:Nat}(h:Eh N x 0=some i):N[i]?=some x:=(Oe h).2
def Ey(x:Str):Bool:=!(x==("__debug__" : Str)) && !(x==("__classdict__" : Str)) && !(x==("__name__" : Str))
def K9(G:Sg)(x:Str):Bool:=(G.sc.lookup x==some .globalImplicit)&&Ey x
def Vw(x:Str):Option String:=
 if x="int" then some "int" else if x="bool" then some "bool" else if x="str" then some "str" else if x="list" then some "list" else if x="tuple" then some "tuple" else if x="dict" then some "dict" else none
def Zz{x:Str}{T:String}(h:Vw x=some T):cX x=some (.type T):=by
 unfold Vw at h
 by_cases e1:x="int"
 .rw[if_pos e1] at h;cases h;rw[e1];exact jO
 rw[if_neg e1] at h
 by_cases e2:x="bool"
 .rw[if_pos e2] at h;cases h;rw[e2];exact PyProof.Rows.boot_bool
 rw[if_neg e2] at h
 by_cases e3:x="str"
 .rw[if_pos e3] at h;cases h;rw[e3];exact jQ
 rw[if_neg e3] at h
 by_cases e4:x="list"
 .rw[if_pos e4] at h;cases h;rw[e4];exact jA
 rw[if_neg e4] at h
 by_cases e5:x="tuple"
 .rw[if_pos e5] at h;cases h;rw[e5];exact jf
 rw[if_neg e5] at h
 by_cases e6:x="dict"
 .rw[if_pos e6] at h;cases h;rw[e6];exact PyProof.Rows.boot_dict
 rw[if_neg e6] at h
 cases h
structure Ir (X:Cx) (i:FI):Prop where
 kp:bP X.K (.ref i.f)=true
 ok:FnOk X.prog X.w X.K X.mg X.base CX0 i.k i.f i.fd i.ps i.sp
 room:Room i.k X.A
 binds:∀j,j<=i.dfs.length->Binds X.K i.fd i.ps (i.ds.drop j)
 vals:Vals i.dfs i.ds
def bb9(X:Cx)(C:Addr):Option FI->Prop
 |none=>cB X.K C=true/\bA X.K (.ref C) "__init__"=some (some (.builtin "object.__init__"))
 |some i=>cB X.K C=true/\bA X.K (.ref C) "__init__"=some (some (.ref i.f))/\eh X.K (.ref i.f)=true/\Ir X i/\Room (i.k+1) X.A
structure bb8 (X:Cx) (m:Str) (mi:MI):Prop where
 c:Cls X.K mi.C
 k:Mi X.K mi.C m mi.i.f
 sg:eJ X.K (.ref mi.i.f) "__get__"=some (some (.builtin "function.__get__"))
 tk:fH X.K (.ref mi.i.f)=some false
 cn:PySem.W.copiedNames.contains m=false
 fi:Ir X mi.i
 room:Room (mi.i.k+2) X.A
def GBOk(X:Cx)(x:Str):GB->Prop
 |.fn i=>X.mg x=some (.ref i.f)/\Ir X i
 |.val v u=>X.mg x=some u/\RelV v u
 |.cls C oi=>X.mg x=some (.ref C)/\bP X.K (.ref C)=true/\bb9 X C oi
 |.met m l=>∀mi∈l,Cls X.K mi.C/\Mi X.K mi.C m mi.i.f/\Ir X mi.i
 |.key m l=>∀mi∈l,bb8 X m mi
 |.kfn i=>X.mg x=some (.ref i.f)/\Ir X i/\Room (i.k+1) X.A
def GBOk.to{X X':Cx}(hm:X'.mg=X.mg)(hK:X'.K=X.K)(hP:X'.prog=X.prog)(hw:X'.w=X.w)(hA:∀k,Room k X.A->Room k X'.A)(hf:∀i,Ir X i->Ir X' i){x:Str}{g:GB}(h:GBOk X x g):GBOk X' x g:=by
 cases g with
 |fn i=>exact⟨hm▸h.1,hf i h.2⟩
 |val v u=>exact⟨hm▸h.1,h.2⟩
 |cls C oi=>
  obtain⟨a,b,d⟩:=h
  refine⟨hm▸a,hK▸b,?_⟩
  cases oi with
  |none=>unfold bb9 at d ⊢;rw[hK];exact d
  |some i=>obtain⟨d1,d2,d3,d4,d5⟩:=d;exact⟨hK▸d1,hK▸d2,hK▸d3,hf i d4,hA _ d5⟩
 |met m l=>exact λmi hi=>⟨hK▸(h mi hi).1,hK▸(h mi hi).2.1,hf _ (h mi hi).2.2⟩
 |kfn i=>exact⟨hm▸h.1,hf i h.2.1,hA _ h.2.2⟩
 |key m l=>exact λmi hi=>let q:=h mi hi;⟨hK▸q.c,hK▸q.k,hK▸q.sg,hK▸q.tk,q.cn,hf _ q.fi,hA _ q.room⟩
def FrH(X:Cx):Prop:=∃e0 o0 L,X.stack=e0::o0/\e0.frame=some L/\X.env.frame=some L
structure GOk (X:Cx) (G:Sg):Prop where
 K:X.K=G.K
 kind:X.env.scope.kind=.function
 own:G.top=true->l0 (model X.prog X.w) X.A X.env X.xe
 N:X.N=G.N
 nd:G.N.Nodup
 sc:∀x,X.env.scope.names.lookup x=G.sc.lookup x
 vis:∀x∈G.N,Vis X.env.scope x
 top:G.top=true -> ∀x,X.fn x=true
 calm:G.calm=X.calm
 hd:X.calm=true->X.A.handled=none
 units:X.A.units+64<cLine
 cel:∀x,(X.env.scope.names.lookup x=some .cell\/X.env.scope.names.lookup x=some .free) -> ∃c,X.env.cells.lookup x=some c
 gb:∀x g,(x,g)∈G.gb->GBOk X x g
 bl:∀x,G.bl.contains x=true->X.mg x=none
 frm:G.top=true->X.stack=X.env::X.outer/\X.env.frame=some X.env.locals
 fr:FrH X
section
variable {X:Cx}{G:Sg}
def GOk.at_(O:GOk X G)(x:Str)(g:GB)(e:G.gb.lookup x=some g):GBOk X x g:=O.gb x g (cC e)
def GOk.met(O:GOk X G)(m:Str)(l:List MI)(e:Cu G.gb m=some l):∀mi∈l,Cls X.K mi.C/\Mi X.K mi.C m mi.i.f/\Ir X mi.i:=by
 obtain⟨x,hx⟩:=Cn e
 exact O.gb x _ hx
def GOk.gl(O:GOk X G){x:Str}(h:K9 G x=true):Gl X x:=by
 unfold K9 at h
 rw[aW] at h
 have:=eC h.1
 show X.env.scope.names.lookup x=_
 rw[O.sc x]
 exact this
def Pn{x:Str}(h:Ey x=true):(x==("__debug__" : Str))=false/\(x==("__classdict__" : Str))=false/\x ≠ "__name__" := by
 unfold Ey at h
 simp only[aW,iU] at h
 exact⟨h.1.1,h.1.2,λe=>by rw[e] at h;simp at h⟩
def Tw{x:Str}(h:K9 G x=true):(x==("__debug__" : Str))=false/\(x==("__classdict__" : Str))=false/\x ≠ "__name__" := by
 unfold K9 at h
 rw[aW] at h
 exact Pn h.2
noncomputable def at3(G:Sg)(x:Str):DE:=
 match Eh G.N x 0 with
 |some i=>if Ey x=true then Ac i else dNo
 | none=>if K9 G x=true then(match G.gb.lookup x with
   |some (.val v _)=>dC v
   |some (.cls C _)=>dC (.ref C)
   |some _=>dNo
   | none=>if G.bl.contains x=true then(match Vw x with
    |some T=>dC (.ty T)
    |none=>dNo) else dNo) else dNo
def Bo{e:Expr}:QE X e dNo:=λ_ _ _ _ _ _ _ _ h=>h.elim
def bo4{i:Nat}{x:Str}{pos:Pos}(hN:X.N[i]?=some x)(hv:Vis X.env.scope x)(hp:Ey x=true):QE X (.Name x pos) (Ac i):=by
 intro Ex _ ξ s σ H Q I h
 unfold Ac at h
 split at h
 .rename_i v e
  exact bl6 hN hv (Pn hp).1 (Pn hp).2.1 ξ s σ H Q I ⟨v,e,h⟩
 .exact h.elim
def a28(O:GOk X G)(x:Str)(pos:Pos):QE X (.Name x pos) (at3 G x):=by
 unfold at3
 split
 .rename_i i e
  split
  .rename_i hp
   have hi:=F4 e
   exact bo4 (by rw[O.N];exact hi) (O.vis x (aI hi)) hp
  .exact Bo
 .split
  .rename_i hg
   have dd:=Tw hg
   split
   .rename_i v u e
    obtain⟨h1,h2⟩:=O.at_ x _ e
    exact λ_ _=>Xe (O.gl hg) h1 h2 dd.1
   .rename_i C oi e
    exact λ_ _=>Xe (O.gl hg) (O.at_ x _ e).1 rfl dd.1
   .exact Bo
   .split
    .rename_i hb
     split
     .rename_i T e
      exact λ_ _=>a09 (O.gl hg) (O.bl x hb) (Zz e) rfl dd.2.2 dd.1
     .exact Bo
    .exact Bo
  .exact Bo
noncomputable def as9:Const->DE
 |.int i=>dC (.int i)
 |.bool b=>dC (.bl b)
 |.none=>dC .non
 |.str x=>dC (.str x)
 |_=>dNo
def al7(c:Const)(j:Nat)(pos:Pos):QE X (.Constant c j pos) (as9 c):=by
 cases c with
 |int i=>exact λ_ _=>bl0
 |bool b=>exact λ_ _=>bw1
 |none=>exact λ_ _=>bl2
 |str x=>exact λ_ _=>bl4
 |_=>exact Bo
variable {a b c:Expr}{da db dc:DE}{ta tb:DT}{es:List Expr}{r:DA}{pos:Pos}
def bn3(op:mx)(ha:QE X a da)(hb:QE X b db):QE X (.BinOp a op b pos) (Ad (rOp X.K op) da db):=λEx m=>bw3 (b38 op) (ha Ex m) (hb Ex m)
def bn9(ha:QE X a da):QE X (.UnaryOp .USub a pos) (dUn Xp da):=λEx m=>bw4 b83 (ha Ex m)
def bn5(hu:X.A.units+64<cLine)(op:lT)(ha:QE X a da)(hb:QE X b db)(hm:gL op b=false):QE X (.Compare a [op] [b] pos) (Ad (Jj X.K op) da db):=λEx m=>a10 (Nv hu op) (ha Ex m) (hb Ex m) hm
def bp2(hu:X.A.units+64<cLine)(op:lT)(ha:QE X a da)(hb:QE X b db)(hm:gL op b=false):QT X (.Compare a [op] [b] pos) (Au (Ad (Jj X.K op) da db)):=by
 intro Ex m ξ s σ H Q I h
 refine wpAny_isTrue_Compare1 (thn (ha Ex m ξ s σ H _ I h) λv s1 ⟨x,H1,I1,r1,q1⟩=>thn (hb Ex m ξ s1 σ H1 _ I1 q1) λu s2 ⟨y,H2,I2,r2,q2⟩=>
  thn (Nv hu op ξ s2 σ H2 x y v u _ I2 r1 r2 q2) λc s3 ⟨z,H3,I3,r3,q3⟩=>?_) hm
 cases z with
 |bl k=>cases r3;exact eP ⟨H3,I3,q3⟩
 |_=>exact(q3).elim
def al6(hu:X.A.units+64<cLine)(op op':lT)(ha:QE X a da)(hb:QE X b db)(hc:QE X c dc)(hm:k9 [op,op'] [b,c]=false) :
  QE X (.Compare a [op,op'] [b,c] pos) (O0 (Jj X.K op) (Jj X.K op') da db dc):=by
 intro Ex m ξ s σ H Q I h
 refine Compare_chain (thn (ha Ex m ξ s σ H _ I h) λv s1 ⟨x,H1,I1,r1,q1⟩=>chain_link (thn (hb Ex m ξ s1 σ H1 _ I1 q1) λu s2 ⟨y,H2,I2,r2,q2⟩=>
  thn (Nv hu op ξ s2 σ H2 x y v u _ I2 r1 r2 q2) λd s3 ⟨z,H3,I3,r3,q3⟩=>?_)) hm
 cases z with
 |bl k=>
  cases r3
  refine eP ?_
  cases k with
  |false=>exact ite_ff ⟨.bl false,H3,I3,rfl,q3⟩
  |true=>exact ite_tt (chain_last (thn (hc Ex m ξ s3 σ H3 _ I3 q3) λw' s4 ⟨z',H4,I4,r4,q4⟩=>Nv hu op' ξ s4 σ H4 y z' u w' Q I4 r2 r4 q4))
 |_=>exact(q3).elim
def am5(hu:X.A.units+64<cLine)(op op':lT)(ha:QE X a da)(hb:QE X b db)(hc:QE X c dc)(hm:k9 [op,op'] [b,c]=false) :
  QT X (.Compare a [op,op'] [b,c] pos) (Au (O0 (Jj X.K op) (Jj X.K op') da db dc)):=by
 intro Ex m ξ s σ H Q I h
 refine isTrue_chain (thn (ha Ex m ξ s σ H _ I h) λv s1 ⟨x,H1,I1,r1,q1⟩=>test_link (thn (hb Ex m ξ s1 σ H1 _ I1 q1) λu s2 ⟨y,H2,I2,r2,q2⟩=>
  thn (Nv hu op ξ s2 σ H2 x y v u _ I2 r1 r2 q2) λd s3 ⟨z,H3,I3,r3,q3⟩=>?_)) hm
 cases z with
 |bl k=>
  cases r3
  refine eP ?_
  cases k with
  |false=>exact ite_ff ⟨H3,I3,q3⟩
  |true=>
   refine ite_tt (test_last (thn (hc Ex m ξ s3 σ H3 _ I3 q3) λw' s4 ⟨z',H4,I4,r4,q4⟩=>thn (Nv hu op' ξ s4 σ H4 y z' u w' _ I4 r2 r4 q4) λd' s5 ⟨z2,H5,I5,r5,q5⟩=>?_))
   cases z2 with
   |bl k2=>cases r5;exact eP ⟨H5,I5,q5⟩
   |_=>exact(q5).elim
 |_=>exact(q3).elim
def ak5:Expr->Bool
 |.UnaryOp .Not _ _=>false
 |.BoolOp _ _ _=>false
 |.IfExp _ _ _ _=>false
 |.Compare _ _ _ _=>false
 |_=>true
def Zi{e:Expr}(h:ak5 e=true)(whole:Sem aj):isTrue e X.env whole=(do let v <- whole;standAt e.pos;kP [v] (truthy v)):=by
 cases e with
 |UnaryOp op _ _=>cases op <;> first|rfl|cases h
 |BoolOp _ _ _=>cases h
 |IfExp _ _ _ _=>cases h
 |Compare _ _ _ _=>cases h
 |_=>rfl
def bx1{t:Expr}(ht:QT X t ta)(ha:QE X a da)(hb:QE X b db):QE X (.IfExp t a b pos) (aw4 ta da db):=λEx m=>ak0 (ht Ex m) (ha Ex m) (hb Ex m)
def am6(ha:QE X a da)(h:ak5 a=true):QT X a (D4 X.K da):=by
 intro Ex m ξ s σ H Q I hw
 exact isTrue_plain (thn (ha Ex m ξ s σ H _ I hw) λv s1 ⟨x,H1,I1,r1,q1⟩=>Ya ξ s1 σ H1 x v Q I1 r1 q1) (Zi h _)
def bp3(ha:QT X a ta):QT X (.UnaryOp .Not a pos) (O1 ta):=λEx m=>bm5 (ha Ex m)
def a35(ha:QT X a ta):QW X (.BoolOp .And [a] pos) ta:=λEx m=>a21 (ha Ex m)
def bp5(ha:QT X a ta):QW X (.BoolOp .Or [a] pos) ta:=λEx m=>bn0 (ha Ex m)
def bp4(ha:QT X a ta)(hb:QW X (.BoolOp .And (b::es) pos) tb):QW X (.BoolOp .And (a::b::es) pos) (Gk ta tb):=λEx m=>bm9 (ha Ex m) (hb Ex m)
def bx8(ha:QT X a ta)(hb:QW X (.BoolOp .Or (b::es) pos) tb):QW X (.BoolOp .Or (a::b::es) pos) (dOr ta tb):=λEx m=>bx0 (ha Ex m) (hb Ex m)
def bo1{op:BoolOp}(ha:QE X a da):QE X (.BoolOp op [a] pos) da:=λEx m=>bl3 (ha Ex m)
def bn2(ha:QE X a da)(hb:QE X (.BoolOp .And (b::es) pos) db):QE X (.BoolOp .And (a::b::es) pos) (Nx X.K da db):=by
 intro Ex m ξ s σ H Q I h
 refine BoolOp_and (thn (ha Ex m ξ s σ H _ I h) λv s1 ⟨x,H1,I1,r1,q1⟩=>thn (Ya ξ s1 σ H1 x v _ I1 r1 q1) λk s2 ⟨H2,I2,q2⟩=>?_)
 cases k with
 |true=>exact hb Ex m ξ s2 σ H2 Q I2 q2
 |false=>exact⟨x,H2,I2,r1,q2⟩
def bx6(ha:QE X a da)(hb:QE X (.BoolOp .Or (b::es) pos) db):QE X (.BoolOp .Or (a::b::es) pos) (aw5 X.K da db):=by
 intro Ex m ξ s σ H Q I h
 refine BoolOp_or (thn (ha Ex m ξ s σ H _ I h) λv s1 ⟨x,H1,I1,r1,q1⟩=>thn (Ya ξ s1 σ H1 x v _ I1 r1 q1) λk s2 ⟨H2,I2,q2⟩=>?_)
 cases k with
 |false=>exact hb Ex m ξ s2 σ H2 Q I2 q2
 |true=>exact⟨x,H2,I2,r1,q2⟩
def bo0(ha:QE X a da):QE X (.UnaryOp .Not a pos) (a68 X.K da):=by
 intro Ex m ξ s σ H Q I h
 exact UnaryOp_ (thn (ha Ex m ξ s σ H _ I h) λv s1 ⟨x,H1,I1,r1,q1⟩=>not_of (thn (Ya ξ s1 σ H1 x v _ I1 r1 q1) λk s2 ⟨H2,I2,q2⟩=>⟨.bl (!k),H2,I2,rfl,q2⟩))
def Ba:Expr->Bool
 |.Starred _ _=>false
 |_=>true
def A7{e:Expr}(h:Ba e=true)(es:List Expr)(env:Env):cZ (e::es) env=(false,eval e env)::cZ es env:=by
 cases e with
 |Starred _ _=>cases h
 |_=>rfl
def Cz{es:List Expr}(h:es.all Ba=true)(env:Env)(pos:Pos):(jv pos (cZ es env)).any (·.1)=false:=by
 induction es with
 |nil=>rfl
 |cons e es ih=>
  rw[cx,aW] at h
  rw[A7 h.1]
  show(false||(jv pos (cZ es env)).any (·.1))=false
  rw[ih h.2]
  rfl
def Jy{es:List Expr}(h:es.all Ba=true)(env:Env)(pos:Pos):(jv pos (cZ es env)).all (λx=>!x.1)=true:=by
 induction es with
 |nil=>rfl
 |cons e es ih=>
  rw[cx,aW] at h
  rw[A7 h.1]
  show(true&&(jv pos (cZ es env)).all (λx=>!x.1))=true
  rw[ih h.2]
  rfl
def Pq:QA X [] Ae:=λ_ _=>bk9
def Ko(ha:QE X a da)(hr:QA X es r)(hs:Ba a=true):QA X (a::es) (Aa da r):=λEx m=>a08 (ha Ex m) (hr Ex m) (A7 hs es X.env)
def bo3{k:Nat}(h:QA X es r):QE X (.Tuple es k pos) (Bp r):=λEx m=>bl5 (h Ex m)
def bn7(h:QA X es r):QE X (.List es pos) (As r):=λEx m=>bl1 (h Ex m)
def Kl:Expr->Bool
 |.Slice _ _ _ _=>false
 |_=>true
def Ug{e:Expr}(h:Kl e=true):V6 e:=by
 intro o i
 cases e with
 |Slice _ _ _ _=>cases h
 |_=>rfl
def bx2(hu:X.A.units+64<cLine)(ha:QE X a da)(hb:QE X b db)(h:Kl b=true):QE X (.Subscript a b pos) (Ad (Ai X.K) da db):=λEx m=>bw2 (b36 hu) (ha Ex m) (hb Ex m) (Ug h)
def a22{f:Str}(ha:QE X a da)(h:jm a f X.env (eval a X.env)=eval a X.env):QE X (.Attribute a f pos) (dUn (Gs X.K f) da):=by
 intro Ex m ξ s σ H Q I hw
 exact Wc h (thn (ha Ex m ξ s σ H _ I hw) λu s1 ⟨x,H1,I1,rx,q⟩=>bs8 I1 rx q)
end
end L2
namespace PySem.SeqAt
open AutoSeq1 (wpAny_loadPart')
open MeetsSeq MeetsSeq2 MeetsSeq3
end PySem.SeqAt
namespace PySem.W
open PySem PySem.Calls PyProof.Rows
def kRun{α:Type}(n:Nat)(lt:Nat->Nat->Bool):KasT α->Option α
 |.ret a=>some a
 |.ask i j k=>if i<n/\j<n then kRun n lt (k (lt i j)) else none
theorem kRun_wp{α:Type}{n:Nat}{lt:Nat->Nat->Bool}{cmp:Nat->Nat->(Bool->aq->Prop)->aq->Prop}{G:α->aq->Prop}{s:aq}(h:∀i j C,i<n->j<n->C (lt i j) s->cmp i j C s) :
  ∀{t} {a},kRun n lt t=some a->G a s->t.kasWp cmp G s
 | .ret b,a,e,g=>by
  have:b=a:=bt e
  subst this
  exact g
 | .ask i j k,a,e,g=>by
  unfold kRun at e
  split at e
  .rename_i hij
   exact h i j _ hij.1 hij.2 (kRun_wp h e g)
  .cases e
section
variable {prog:a7}{w:bL}{A:bJ}{E:aj->aq->Prop}{s:aq}{vs:List aj}
def SoFin(a:Addr)(e:Nat)(out:List aj)(C:aq->Prop)(s:aq):Prop:=
 s.heap.get? a=some (bu "list" #[] e)/\∀h' c,h'.get? a=some (bu "list" (eQ out) c)->bT a s.heap h'->C {s with heap:=h'}
def SoFin.mono{a:Addr}{e:Nat}{out:List aj}{C C':aq->Prop}(h:SoFin a e out C s)(hc:∀s,C s->C' s):SoFin a e out C' s:=⟨h.1,λh' c x y=>hc _ (h.2 h' c x y)⟩
def P4{n:Nat}{a:Addr}{P:l9->aq->Prop}(ho:s.heap.get? a=some (bu "list" vs.toArray n))(h2:2<=vs.length)(h64:vs.length<64)(h:∀e1 h',h'.get? a=some (bu "list" #[] e1)->(∀b o,b≠a->s.heap.get? b=some o->h'.get? b=some o) ->
   ba (model prog w) A (j7 vs.toArray) (λκ s'=>(kas_sort vs.length).kasWp (kas_ask prog w A κ vs) (λp s''=>SoFin a e1 (p.toList.map λi=>vs.getD i b8) (λs3=>P (.done (.ret .none)) s3) s'') s') (λ_ _=>False) {s with heap:=h'}) :
  ba (model prog w) A (bI.«list.sort» ⟨[.ref a],[]⟩) P E s:=by
 have ha:=aQ ho
 have s1:=b5 s.heap a (bv λ_=>(#[]:Array aj))
 obtain⟨e1,ho1⟩:∃e1,(s.heap.update a (bv λ_=>(#[]:Array aj))).get? a=some (bu "list" #[] e1):=⟨_,du ho λ_=>#[]⟩
 have ask:=h e1 (((s.heap.update a (bv λ_=>(#[]:Array aj))).push (bu "tuple" vs.toArray 0)).push (bu "list" #[] 0)) (ai _ (ai _ ho1))
  (λb o nb e=>ai _ (ai _ ((s1.2 b nb).trans e)))
 rw[list_sort_plain]
 refine ah (j0 ho rfl ?_)
 refine ah (fe ho rfl ?_ (by rw[aB,bM];omega) (bo _))
 refine ah (iB ho1 rfl ?_)
 refine ah (iS ?_ (by show vs.length<=_;rw[bM];omega))
 refine ah (fh ?_ (bo _))
 refine bQ ?_
 have hn2:¬ vs.toArray.size<2:=by rw[aB];omega
 rw[if_neg hn2,if_neg hn2]
 refine ah (b9 ask (λκ s0 hk=>?_) λ_ _ x=>x.elim)
 refine ah (b9 (kat_run (Q:=λst' s'=>∃p,p.size=vs.length/\arrOf st'=p.map (kas_item (vs.toArray.zip vs.toArray))/\failedOf st'=none/\SoFin a e1 (p.toList.map λi=>vs.getD i b8) (λs''=>P (.done (.ret .none)) s'') s')
  rfl h2 h64 (λp' st' s' a1 a2 a3 a4=>⟨p',a1,a2,a3,a4⟩) hk) ?_ λ_ _ e=>e)
 rintro⟨⟨⟩,st'⟩ s' ⟨p,hp,har,hf,na,k⟩
 dsimp only
 have hout:=kat_snds rfl har
 have hsz:(eQ (p.toList.map λi=>vs.getD i b8)).size=vs.length:=by rw[aB,af,bn,hp]
 rw[hout]
 have s2:=b5 s'.heap a (bv λ_=>eQ (p.toList.map λi=>vs.getD i b8))
 obtain⟨c2,hc2⟩:∃c2,(s'.heap.update a (bv λ_=>eQ (p.toList.map λi=>vs.getD i b8))).get? a=some (bu "list" (eQ (p.toList.map λi=>vs.getD i b8)) c2):=⟨_,du na λ_=>eQ (p.toList.map λi=>vs.getD i b8)⟩
 refine ah (iB na rfl ?_)
 refine ah (fe na rfl ?_ (bo _) (aF (jL hsz) (by rw[bM];omega)))
 rw[hf]
 simp only[bne_self_eq_false,cO,if_false]
 exact ao (k _ c2 hc2 s2)
end
end PySem.W
namespace L2
open PySem PySem.Spec PyProof.Rows
def Fm:cX "sorted"=some (.builtin "sorted"):=by decide +kernel
end L2
namespace PySem.W
open PySem PySem.Calls PyProof.Rows
section
variable {n:Nat}{lt:Nat->Nat->Bool}
theorem Dz{α β:Type}{f:α->KasT β}:∀t,kRun n lt (t.bind f)=(kRun n lt t).bind λa=>kRun n lt (f a)
 |.ret a=>rfl
 | .ask i j k=>by
  show(if i<n/\j<n then kRun n lt ((k (lt i j)).bind f) else none)=(if i<n/\j<n then kRun n lt (k (lt i j)) else none).bind _
  by_cases h:i<n/\j<n
  .rw[if_pos h,if_pos h,Dz (k (lt i j))]
  .rw[if_neg h,if_neg h];rfl
structure Tot (n:Nat) (lt:Nat->Nat->Bool):Prop where
 tot:∀i j,i<n->j<n->i≠j->lt i j = !lt j i
 tr:∀i j k,i<n->j<n->k<n->lt i j=true->lt j k=true->lt i k=true
def pg(p:Array Nat)(i:Nat):Nat:=p.getD i 0
def PermN(n:Nat)(p:Array Nat):Prop:=p.toList.Perm (bi n)
theorem PermN.size{p:Array Nat}(h:PermN n p):p.size=n:=by
 have:=h.length_eq
 simpa using this
def pg_get{p:Array Nat}{i:Nat}(h:i<p.size):p[i]?=some (pg p i):=by
 unfold pg
 rw[dM,bN h]
 rfl
def PermN.bd{p:Array Nat}(h:PermN n p){i:Nat}(hi:i<n):pg p i<n:=by
 have hs:i<p.size:=by rw[h.size];exact hi
 have hm:pg p i∈p.toList:=by
  have:=pg_get hs
  rw[<- bW] at this
  exact aI this
 exact List.mem_range.mp (h.mem_iff.mp hm)
def PermN.inj{p:Array Nat}(h:PermN n p){i j:Nat}(hi:i<n)(hj:j<n)(e:pg p i=pg p j):i=j:=by
 have nd:=(h.nodup_iff).mpr List.nodup_range
 have ei:=pg_get (by rw[h.size];exact hi)
 have ej:=pg_get (by rw[h.size];exact hj)
 rw[<- bW] at ei ej
 have li:i<p.toList.length:=by rw[bn,h.size];exact hi
 refine(List.getElem?_inj li nd).mp ?_
 rw[ei,ej,e]
def Srt(lt:Nat->Nat->Bool)(p:Array Nat)(m:Nat):Prop:=∀i j,i<j->j<m->lt (pg p i) (pg p j)=true
def Dsc(lt:Nat->Nat->Bool)(p:Array Nat)(m:Nat):Prop:=∀i j,i<j->j<m->lt (pg p j) (pg p i)=true
def Eu{α:Type}{i j:Nat}{k:Bool->KasT α}(hi:i<n)(hj:j<n):kRun n lt (.ask i j k)=kRun n lt (k (lt i j)):=if_pos ⟨hi,hj⟩
variable (T:Tot n lt) {p:Array Nat} (h:PermN n p)
include T h
theorem Hl:∀f k,1<=k->k+f<=n->Srt lt p k -> ∃m,kRun n lt (mG p f k)=some m/\k<=m/\m<=k+f/\Srt lt p m
 |0,k,h1,h2,hs=>⟨k,rfl,ag _,ag _,hs⟩
 | f+1,k,h1,h2,hs=>by
  have e:kRun n lt (mG p (f+1) k)=kRun n lt (if lt (pg p k) (pg p (k-1))=true then .ret k else mG p f (k+1)):=Eu (h.bd (by omega)) (h.bd (by omega))
  rw[e]
  cases c:lt (pg p k) (pg p (k-1)) with
  |true=>exact⟨k,rfl,ag _,by omega,hs⟩
  |false=>
   have c1:lt (pg p (k-1)) (pg p k)=true:=by
    rw[T.tot _ _ (h.bd (by omega)) (h.bd (by omega)) (λq=>by have:=h.inj (by omega) (by omega) q;omega),c];rfl
   obtain⟨m,r1,r2,r3,r4⟩:=Hl f (k+1) (by omega) (by omega) (λi j hij hj=>by
    by_cases hk:j<k
    .exact hs i j hij hk
    .have:j=k:=by omega
     subst this
     by_cases hi:i=j-1
     .subst hi;exact c1
     .exact T.tr _ _ _ (h.bd (by omega)) (h.bd (by omega)) (h.bd (by omega)) (hs i (j-1) (by omega) (by omega)) c1)
   exact⟨m,r1,by omega,by omega,r4⟩
theorem Qy:∀f k,1<=k->k+f<=n->Dsc lt p k -> ∃m,kRun n lt (k6 f p k 0)=some (p,m,0)/\k<=m/\m<=k+f/\Dsc lt p m
 |0,k,h1,h2,hs=>⟨k,rfl,ag _,ag _,hs⟩
 | f+1,k,h1,h2,hs=>by
  have e:kRun n lt (k6 (f+1) p k 0)=kRun n lt (if lt (pg p k) (pg p (k-1))=true then(if 0 > 0 then k6 f (jY p (k-(0+1)) k) (k+1) 0 else k6 f p (k+1) 0) else .ask (pg p (k-1)) (pg p k) λd=>if d=true then .ret (p,k,0) else k6 f p (k+1) (0+1)):=Eu (h.bd (by omega)) (h.bd (by omega))
  rw[e]
  cases c:lt (pg p k) (pg p (k-1)) with
  |true=>
   rw[if_pos rfl,if_neg (by omega)]
   obtain⟨m,r1,r2,r3,r4⟩:=Qy f (k+1) (by omega) (by omega) (λi j hij hj=>by
    by_cases hk:j<k
    .exact hs i j hij hk
    .have:j=k:=by omega
     subst this
     by_cases hi:i=j-1
     .subst hi;exact c
     .exact T.tr _ _ _ (h.bd (by omega)) (h.bd (by omega)) (h.bd (by omega)) c (hs i (j-1) (by omega) (by omega)))
   exact⟨m,r1,by omega,by omega,r4⟩
  |false=>
   have c1:lt (pg p (k-1)) (pg p k)=true:=by
    rw[T.tot _ _ (h.bd (by omega)) (h.bd (by omega)) (λq=>by have:=h.inj (by omega) (by omega) q;omega),c];rfl
   rw[if_neg aR,Eu (h.bd (by omega)) (h.bd (by omega)),c1]
   exact⟨k,rfl,ag _,by omega,hs⟩
omit T in
def a40{m:Nat}(hm:m<=n)(hd:Dsc lt p m):PermN n (jY p 0 m)/\Srt lt (jY p 0 m) m:=by
 have hp:PermN n (jY p 0 m):=by
  have:=mirror_perm p 0 m ((m-0)/2)
  exact(Array.perm_iff_toList_perm.mp this).trans h
 have gt:∀k,k<m->pg (jY p 0 m) k=pg p (m-1-k):=λk hk=>by
  have e:=getElem?_mirror_all (i:=0) (by rw[h.size];exact hm) k
  have e1:(jY p 0 m)[k]?=some (pg (jY p 0 m) k):=pg_get (by rw[hp.size];omega)
  have e2:p[m-1-k]?=some (pg p (m-1-k)):=pg_get (by rw[h.size];omega)
  have e':(jY p 0 m)[k]?=p[m-1-k]?:=by
   refine e.trans ?_
   rw[if_pos (by omega)]
   congr 1
   omega
  rw[e1,e2] at e'
  exact bt e'
 refine⟨hp,λi j hij hj=>?_⟩
 rw[gt i (by omega),gt j hj]
 exact hd _ _ (by omega) (by omega)
def Yr(hn:1<=n):∃m p',kRun n lt (kas_count n p)=some (m,p')/\PermN n p'/\1<=m/\m<=n/\Srt lt p' m:=by
 obtain⟨m,r1,r2,r3,r4⟩:=Hl T h (n-1) 1 (ag _) (by omega) (λi j hij hj=>by omega)
 unfold kas_count
 rw[Dz,r1,ib]
 by_cases hm:m=n
 .have e:(m==n)=true:=by rw[hm];exact beq_self_eq_true n
  rw[if_pos e]
  exact⟨m,p,rfl,h,r2,by omega,r4⟩
 .have e:¬ (m==n)=true:=λq=>hm (beq_iff_eq.mp q)
  rw[if_neg e]
  by_cases h1:m > 1
  .rw[if_pos h1]
   have:=Eu (lt:=lt) (k:=λc=>if c=true then KasT.ret (m,p) else kas_descPart m n (jY p 0 m)) (h.bd (i:=0) (by omega)) (h.bd (i:=m-1) (by omega))
   refine⟨m,p,this.trans ?_,h,r2,by omega,r4⟩
   have e1:=r4 0 (m-1) (by omega) (by omega)
   rw[e1]
   rfl
  .rw[if_neg h1]
   have hm1:m=1:=by omega
   subst hm1
   unfold kas_descPart
   have hd:∃d,kRun n lt (k6 (n-(1+1)) p (1+1) 0)=some (p,d,0)/\1<=d/\d<=n/\Dsc lt p d:=by
    by_cases c:lt (pg p 1) (pg p 0)=true
    .obtain⟨d,q1,q2,q3,q4⟩:=Qy T h (n-2) 2 (by omega) (by omega) (λi j hij hj=>by
      have:i=0:=by omega
      have:j=1:=by omega
      subst i j;exact c)
     exact⟨d,q1,by omega,by omega,q4⟩
    .exfalso
     have e:=Hl T h (n-1) 1 (ag _) (by omega) (λi j hij hj=>by omega)
     obtain⟨m',a1,a2,a3,a4⟩:=e
     obtain⟨f,hf⟩:∃f,n-1=f+1:=⟨n-2,by omega⟩
     rw[hf] at r1
     have e2:kRun n lt (mG p (f+1) 1)=kRun n lt (if lt (pg p 1) (pg p (1-1))=true then .ret 1 else mG p f (1+1)):=Eu (h.bd (by omega)) (h.bd (by omega))
     rw[e2,if_neg c] at r1
     have c0:lt (pg p 1) (pg p 0)=false:=by simpa using c
     have c1:lt (pg p 0) (pg p 1)=true:=by
      rw[T.tot _ _ (h.bd (by omega)) (h.bd (by omega)) (λq=>by have:=h.inj (by omega) (by omega) q;omega),c0];rfl
     obtain⟨m2,b1,b2,b3,b4⟩:=Hl T h f 2 (by omega) (by omega) (λi j hij hj=>by
      have:i=0:=by omega
      have:j=1:=by omega
      subst i j;exact c1)
     rw[r1] at b1
     cases b1
     omega
   obtain⟨d,q1,q2,q3,q4⟩:=hd
   rw[Dz,q1,ib]
   show ∃m p',kRun n lt (if 0 > 0 then _ else kas_tail3 d n p)=some (m,p')/\_
   rw[if_neg (by omega)]
   unfold kas_tail3
   obtain⟨hp,hs⟩:=a40 h q3 q4
   obtain⟨m',a1,a2,a3,a4⟩:=Hl T hp (n-d) d q2 (by omega) hs
   rw[Dz,a1,ib]
   exact⟨m',_,rfl,hp,by omega,by omega,a4⟩
theorem Ji{k:Nat}(hk:k<n)(hs:Srt lt p k):∀f l r,l<=r->r<=k->r-l<=f->(∀i,i<l->lt (pg p i) (pg p k)=true)->(∀i,r<=i->i<k->lt (pg p k) (pg p i)=true) ->
  ∃m,kRun n lt (iA p k f l r)=some m/\m<=k/\(∀i,i<m->lt (pg p i) (pg p k)=true)/\(∀i,m<=i->i<k->lt (pg p k) (pg p i)=true)
 |0,l,r,h1,h2,h3,hl,hr=>⟨l,rfl,by omega,hl,λi a b=>hr i (by omega) b⟩
 | f+1,l,r,h1,h2,h3,hl,hr=>by
  by_cases hlr:l ≥ r
  .have e:iA p k (f+1) l r=.ret l:=by unfold iA;rw[if_pos hlr]
   rw[e]
   exact⟨l,rfl,by omega,hl,λi a b=>hr i (by omega) b⟩
  .have e:kRun n lt (iA p k (f+1) l r)=kRun n lt (if lt (pg p k) (pg p ((l+r)/2))=true then iA p k f l ((l+r)/2) else iA p k f ((l+r)/2+1) r):=by
    conv=>lhs;unfold iA
    rw[if_neg hlr]
    exact Eu (h.bd hk) (h.bd (by omega))
   rw[e]
   have hm1:l<=(l+r)/2:=by omega
   have hm2:(l+r)/2<r:=by omega
   generalize (l+r)/2=mid at hm1 hm2 ⊢
   cases c:lt (pg p k) (pg p mid) with
   |true=>
    rw[if_pos rfl]
    refine Ji hk hs f l mid hm1 (by omega) (by omega) hl λi a b=>?_
    by_cases hi:i=mid
    .subst hi;exact c
    .exact T.tr _ _ _ (h.bd hk) (h.bd (by omega)) (h.bd (by omega)) c (hs mid i (by omega) b)
   |false=>
    rw[if_neg aR]
    have c1:lt (pg p mid) (pg p k)=true:=by
     rw[T.tot _ _ (h.bd (by omega)) (h.bd hk) (λq=>by have:=h.inj (by omega) hk q;omega),c];rfl
    refine Ji hk hs f (mid+1) r (by omega) h2 (by omega) (λi a=>?_) hr
    by_cases hi:i=mid
    .subst hi;exact c1
    .exact T.tr _ _ _ (h.bd (by omega)) (h.bd (by omega)) (h.bd hk) (hs i mid (by omega) (by omega)) c1
omit T in
def Tb{k l:Nat}(hk:k<n)(hl:l<=k)(hs:Srt lt p k)(h1:∀i,i<l->lt (pg p i) (pg p k)=true)(h2:∀i,l<=i->i<k->lt (pg p k) (pg p i)=true):PermN n (mr p k (k-l))/\Srt lt (mr p k (k-l)) (k+1):=by
 have hp:PermN n (mr p k (k-l)):=(Array.perm_iff_toList_perm.mp (bubble_perm p k (k-l))).trans h
 have hk':k<p.size:=by rw[h.size];exact hk
 have gt:∀i,i<k+1->pg (mr p k (k-l)) i=if i=l then pg p k else if l<i then pg p (i-1) else pg p i:=λi hi=>by
  have e:=getElem?_bubble hk' (k-l) (by omega) i
  have e1:(mr p k (k-l))[i]?=some (pg (mr p k (k-l)) i):=pg_get (by rw[hp.size];omega)
  rw[e1,show k-(k-l)=l by omega] at e
  by_cases a:i=l
  .rw[if_pos a] at e ⊢
   rw[pg_get hk'] at e
   exact bt e
  .rw[if_neg a] at e ⊢
   by_cases b:l<i
   .rw[if_pos ⟨b,by omega⟩] at e
    rw[if_pos b]
    rw[pg_get (by rw[h.size];omega)] at e
    exact bt e
   .rw[if_neg (λq=>b q.1)] at e
    rw[if_neg b]
    rw[pg_get (by rw[h.size];omega)] at e
    exact bt e
 refine⟨hp,λi j hij hj=>?_⟩
 rw[gt i (by omega),gt j hj]
 by_cases a:i=l
 .rw[if_pos a,if_neg (by omega),if_pos (by omega)]
  exact h2 (j-1) (by omega) (by omega)
 .rw[if_neg a]
  by_cases b:l<i
  .rw[if_pos b,if_neg (by omega),if_pos (by omega)]
   exact hs (i-1) (j-1) (by omega) (by omega)
  .rw[if_neg b]
   by_cases c:j=l
   .rw[if_pos c];exact h1 i (by omega)
   .rw[if_neg c]
    by_cases d:l<j
    .rw[if_pos d]
     exact hs i (j-1) (by omega) (by omega)
    .rw[if_neg d];exact hs i j hij (by omega)
end
theorem Wf{n:Nat}{lt:Nat->Nat->Bool}(T:Tot n lt):∀f p k,PermN n p->k+f=n->Srt lt p k -> ∃p',kRun n lt (kas_bin f p k)=some p'/\PermN n p'/\Srt lt p' n
 |0,p,k,h,e,hs=>⟨p,rfl,h,by rw[<- e];exact hs⟩
 | f+1,p,k,h,e,hs=>by
  obtain⟨l,a1,a2,a3,a4⟩:=Ji T h (by omega) hs k 0 k (bo _) (ag _) (by omega) (λi hi=>by omega) (λi a b=>by omega)
  obtain⟨b1,b2⟩:=Tb h (by omega) a2 hs a3 a4
  obtain⟨p',c1,c2,c3⟩:=Wf T f _ (k+1) b1 (by omega) b2
  refine⟨p',?_,c2,c3⟩
  show kRun n lt ((iA p k k 0 k).bind λl=>kas_bin f (mr p k (k-l)) (k+1))=some p'
  rw[Dz,a1]
  exact c1
def sort_run{n:Nat}{lt:Nat->Nat->Bool}(T:Tot n lt)(hn:1<=n):∃p,kRun n lt (kas_sort n)=some p/\PermN n p/\Srt lt p n:=by
 have h0:PermN n (eQ (bi n)):=by show(eQ (bi n)).toList.Perm _;exact fu _
 obtain⟨m,p,r1,r2,r3,r4,r5⟩:=Yr T h0 hn
 unfold kas_sort
 rw[Dz,r1,ib]
 by_cases h:m<n
 .rw[if_pos h,Nat.max_eq_left r3]
  exact Wf T (n-m) p m r2 (by omega) r5
 .rw[if_neg h]
  have:m=n:=by omega
  subst this
  exact⟨p,rfl,r2,r5⟩
end PySem.W
namespace L2
open PySem PySem.Spec PyProof.Rows
section
variable {α:Type}
def O6(lt:α->α->Bool)(z:α):List α->List α
 |[]=>[z]
 |y::ys=>if lt z y=true then z::y::ys else y::O6 lt z ys
def An(lt:α->α->Bool):List α->List α
 |[]=>[]
 |z::zs=>O6 lt z (An lt zs)
structure OrdL (lt:α->α->Bool) (zs:List α):Prop where
 tot:∀a∈zs,∀b∈zs,a≠b->lt a b = !lt b a
 tr:∀a∈zs,∀b∈zs,∀c∈zs,lt a b=true->lt b c=true->lt a c=true
 nd:zs.Nodup
theorem Jc(lt:α->α->Bool)(z:α):∀ys,(O6 lt z ys).Perm (z::ys)
 |[]=>fu _
 | y::ys=>by
  unfold O6
  split
  .exact fu _
  .exact ((Jc lt z ys).cons y).trans (List.Perm.swap z y ys)
theorem Al(lt:α->α->Bool):∀zs,(An lt zs).Perm zs
 |[]=>fu _
 |z::zs=>(Jc lt z _).trans ((Al lt zs).cons z)
def OrdL.of{lt:α->α->Bool}{zs ys:List α}(h:OrdL lt zs)(hs:∀a∈ys,a∈zs)(nd:ys.Nodup):OrdL lt ys:=⟨λa ha b hb=>h.tot a (hs a ha) b (hs b hb),λa ha b hb c hc=>h.tr a (hs a ha) b (hs b hb) c (hs c hc),nd⟩
theorem N3{lt:α->α->Bool}{z:α}:∀{ys},OrdL lt (z::ys)->ys.Pairwise (λa b=>lt a b=true)->(O6 lt z ys).Pairwise (λa b=>lt a b=true)
 |[],_,_=>jd _ _
 | y::ys,h,hp=>by
  rw[dZ] at hp
  have nd:=h.nd
  rw[bC] at nd
  have ny:=nd.2
  rw[bC] at ny
  unfold O6
  split
  .rename_i c
   refine List.pairwise_cons.mpr ⟨λb hb=>?_,List.pairwise_cons.mpr hp⟩
   rcases List.mem_cons.mp hb with rfl|hb'
   .exact c
   .exact h.tr z (.head _) y (.tail _ (.head _)) b (.tail _ hb) c (hp.1 b hb')
  .rename_i c
   have c:lt z y=false:=by simpa using c
   have c1:lt y z=true:=by rw[h.tot y (.tail _ (.head _)) z (.head _) (λe=>nd.1 (e▸.head _)),c];rfl
   have hz:=h.of (λa ha=>by rcases List.mem_cons.mp ha with rfl|q;exact .head _;exact .tail _ (.tail _ q)) (List.nodup_cons.mpr ⟨λq=>nd.1 (.tail _ q),ny.2⟩)
   refine List.pairwise_cons.mpr ⟨λb hb=>?_,N3 hz hp.2⟩
   rcases List.mem_cons.mp ((Jc lt z ys).mem_iff.mp hb) with rfl|hb'
   .exact c1
   .exact hp.1 b hb'
theorem Bq{lt:α->α->Bool}:∀{zs},OrdL lt zs->(An lt zs).Pairwise (λa b=>lt a b=true)
 |[],_=>iZ
 | z::zs,h=>by
  have nd:=List.nodup_cons.mp h.nd
  have hz:=h.of (λa ha=>.tail _ ha) nd.2
  refine N3 (h.of (λa ha=>?_) ?_) (Bq hz)
  .rcases List.mem_cons.mp ha with rfl|q
   .exact .head _
   .exact .tail _ ((Al lt zs).mem_iff.mp q)
  .exact List.nodup_cons.mpr ⟨λq=>nd.1 ((Al lt zs).mem_iff.mp q),((Al lt zs).nodup_iff).mpr nd.2⟩
theorem D0{lt:α->α->Bool}:∀{xs ys},OrdL lt xs->xs.Perm ys->xs.Pairwise (λa b=>lt a b=true)->ys.Pairwise (λa b=>lt a b=true)->xs=ys
 |[],ys,_,h,_,_=>(List.Perm.nil_eq h)
 |x::xs,[],_,h,_,_=>absurd h.symm.nil_eq (by simp)
 | x::xs,y::ys,o,h,hx,hy=>by
  rw[dZ] at hx hy
  have e:x=y:=by
   apply c_
   intro ne
   have m1:x∈ys:=by
    have:x∈y::ys:=h.mem_iff.mp (.head _)
    rcases List.mem_cons.mp this with q|q
    .exact absurd q ne
    .exact q
   have m2:y∈xs:=by
    have:y∈x::xs:=h.mem_iff.mpr (.head _)
    rcases List.mem_cons.mp this with q|q
    .exact absurd q.symm ne
    .exact q
   have a:=hx.1 y m2
   have b:=hy.1 x m1
   rw[o.tot x (.head _) y (.tail _ m2) ne,b] at a
   cases a
  subst e
  have nd:=List.nodup_cons.mp o.nd
  rw[D0 (o.of (λa ha=>.tail _ ha) nd.2) ((List.perm_cons x).mp h) hx.2 hy.2]
def Zq{lt:α->α->Bool}{zs:List α}(d:α)(o:OrdL lt zs)(hn:1<=zs.length) :
  ∃p,PySem.W.kRun zs.length (λi j=>lt (zs.getD i d) (zs.getD j d)) (PySem.W.kas_sort zs.length)=some p/\p.toList.length=zs.length/\(∀i∈p.toList,i<zs.length)/\(p.toList.map λi=>zs.getD i d)=An lt zs:=by
 have gm:∀i,i<zs.length->zs.getD i d∈zs:=λi hi=>by rw[aS,am hi];exact cV hi
 have gi:∀i j,i<zs.length->j<zs.length->zs.getD i d=zs.getD j d->i=j:=λi j hi hj e=>by
  rw[aS,am hi,aS,am hj] at e
  exact(List.getElem_inj o.nd).mp e
 obtain⟨p,h1,h2,h3⟩:=PySem.W.sort_run ⟨λi j hi hj ne=>o.tot _ (gm i hi) _ (gm j hj) (λe=>ne (gi i j hi hj e)),λi j k hi hj hk=>o.tr _ (gm i hi) _ (gm j hj) _ (gm k hk)⟩ hn
 have hp:(p.toList.map λi=>zs.getD i d).Perm zs:=by
  have q:=h2.map (λi=>zs.getD i d)
  have e:((bi zs.length).map λi=>zs.getD i d)=zs:=by
   apply List.ext_getElem?
   intro i
   rw[au]
   by_cases hi:i<zs.length
   .rw[List.getElem?_range hi,am hi,fF,aS,am hi];rfl
   .rw[fE (by simp;omega),fE (by omega)];rfl
  rw[e] at q
  exact q
 refine⟨p,h1,by rw[bn,h2.size],λi hi=>List.mem_range.mp (h2.mem_iff.mp hi),?_⟩
 refine D0 (o.of (λa ha=>hp.mem_iff.mp ha) ((hp.nodup_iff).mpr o.nd)) (hp.trans (Al lt zs).symm) ?_ (Bq o)
 rw[dm]
 intro i j hi hj hij
 rw[af,bn,h2.size] at hi hj
 have g:∀k (hk:k<zs.length),∃hk',(p.toList.map λi=>zs.getD i d)[k]'hk'=zs.getD (PySem.W.pg p k) d:=λk hk=>by
  have e:=PySem.W.pg_get (by rw[h2.size];exact hk)
  rw[<- bW] at e
  obtain⟨a,b⟩:=List.getElem?_eq_some_iff.mp e
  refine⟨by rw[af];exact a,?_⟩
  rw[List.getElem_map,b]
 obtain⟨a1,b1⟩:=g i hi
 obtain⟨a2,b2⟩:=g j hj
 rw[b1,b2]
 exact h3 i j hij hj
end
def ltS(a b:Str):Bool:=decide (a.cps.toList<b.cps.toList)
def Cv{zs:List Str}(nd:zs.Nodup):OrdL ltS zs where
 nd:=nd
 tot:=λa _ b _ ne=>by
  unfold ltS
  rw[<- decide_not]
  refine decide_eq_decide.mpr ⟨λh q=>hJ _ (ig h q),λh=>?_⟩
  apply c_
  intro q
  exact ne (Str.ext' (Array.toList_inj.mp (List.le_antisymm (List.not_lt.mp h) (List.not_lt.mp q))))
 tr:=λa _ b _ c _ h q=>by
  exact decide_eq_true (ig (of_decide_eq_true h) (of_decide_eq_true q))
end L2
namespace PySem.W
open PySem PySem.Calls PyProof.Rows
section
variable {prog:a7}{w:bL}{A:bJ}{E:aj->aq->Prop}{s:aq}{vs:List aj}
def collect_src{T:String}{r d:Addr}{n:Nat}{P:Nat->aj->Prop}{OK:Heap->Prop}{Q:List aj->aq->Prop}(K:KdlSrc prog w T r d n P OK)(hh:A.handled=none)(hok:OK s.heap)(hn:n<=sizeLine)(h:∀h' tk us,(∀b o,s.heap.get? b=some o->h'.get? b=some o)->s.heap.objs.size<h'.objs.size->us.length=n->(∀j v,us[j]?=some v->P j v)->Q us {s with heap:=h',toks:=tk}) :
  ba (model prog w) A (kO (.ref r)) Q E s:=by
 have hlt:=K.there _ hok
 refine ah (kF (cH ky ?_))
 refine ah (fh (ao ⟨iK _ (by decide +kernel),cH entry_list_iadd' ?_⟩))
 rw[cE jg _]
 refine kdl_extend (R:=wants _ _) K hh (K.keep _ _ hok λb _ o e=>ai _ e) s.heap.objs.size (dG hlt.1) (dG hlt.2) _ 0 (aL _ rfl) (λh' tk acc' c' hk hS' hacc=>?_) hn
 show ba (model prog w) A (do
   let o <- load s.heap.objs.size
   match o.data with
   |.seq xs _=>pure xs.toList
   |_=>unsupported "internal:collect") Q E {s with heap:=h',toks:=tk}
 exact ah (lI hS' (ao (h h' tk acc'.toList (λb o e=>hk b o (aV (aQ e)) (ai _ e)) (aQ hS') (by rw[bn];exact hacc.1) λj v e=>hacc.2 j v (by rw[<- bW];exact e))))
def Mq{n:Nat}{a:Addr}{P:l9->aq->Prop}(ho:s.heap.get? a=some (bu "list" vs.toArray n))(h2:vs.length<2)(h:∀h' c,h'.get? a=some (bu "list" vs.toArray c)->(∀b o,b≠a->s.heap.get? b=some o->h'.get? b=some o)->P (.done (.ret .none)) {s with heap:=h'}) :
  ba (model prog w) A (bI.«list.sort» ⟨[.ref a],[]⟩) P E s:=by
 have ha:=aQ ho
 have s1:=b5 s.heap a (bv λ_=>(#[]:Array aj))
 obtain⟨e1,ho1⟩:∃e1,(s.heap.update a (bv λ_=>(#[]:Array aj))).get? a=some (bu "list" #[] e1):=⟨_,du ho λ_=>#[]⟩
 rw[list_sort_plain]
 refine ah (j0 ho rfl ?_)
 refine ah (fe ho rfl ?_ (by rw[aB,bM];omega) (bo _))
 refine ah (iB ho1 rfl ?_)
 refine ah (iS ?_ (by show vs.length<=_;rw[bM];omega))
 refine ah (fh ?_ (bo _))
 refine bQ ?_
 dsimp only
 have hn2:vs.toArray.size<2:=by rw[aB];omega
 rw[if_pos hn2,if_pos hn2]
 refine ah (ao ?_)
 rw[StateT.run_pure]
 refine ah (ao ?_)
 have ho6:(((s.heap.update a (bv λ_=>(#[]:Array aj))).push (bu "tuple" vs.toArray 0)).push (bu "list" #[] 0)).get? a=some (bu "list" #[] e1):=ai _ (ai _ ho1)
 have o6:∀b o,b≠a->s.heap.get? b=some o->(((s.heap.update a (bv λ_=>(#[]:Array aj))).push (bu "tuple" vs.toArray 0)).push (bu "list" #[] 0)).get? b=some o:=λb o nb e=>ai _ (ai _ ((s1.2 b nb).trans e))
 generalize ((s.heap.update a (bv λ_=>(#[]:Array aj))).push (bu "tuple" vs.toArray 0)).push (bu "list" #[] 0)=h6 at ho6 o6 ⊢
 have hout:iT (λx=>x.snd) (arrOf (lB mD (vs.toArray.zip vs.toArray) #[] 7 none))=vs.toArray:=by
  show iT (λx=>x.snd) (vs.toArray.zip vs.toArray)=vs.toArray
  apply Array.ext'
  simp only[Array.toList_map,Array.toList_zip]
  exact List.map_snd_zip (ag _)
 refine ah (iB ho6 rfl ?_)
 refine ah (fe ho6 rfl ?_ (bo _) (by rw[hout,aB,bM];omega))
 have s2:=b5 h6 a (bv λ_=>iT (λx=>x.snd) (arrOf (lB mD (vs.toArray.zip vs.toArray) #[] 7 none)))
 obtain⟨c2,hc2⟩:∃c2,(h6.update a (bv λ_=>iT (λx=>x.snd) (arrOf (lB mD (vs.toArray.zip vs.toArray) #[] 7 none)))).get? a=some (bu "list" (iT (λx=>x.snd) (arrOf (lB mD (vs.toArray.zip vs.toArray) #[] 7 none))) c2):=⟨_,du ho6 λ_=>_⟩
 rw[hout] at hc2 s2 ⊢
 simp only[bne_self_eq_false,cO,if_false]
 exact ao (h _ c2 hc2 λb o nb e=>(s2.2 b nb).trans (o6 b o nb e))
def so_sortedG{x:aj}{OKQ:List aj->aq->Prop}{Q:aj->aq->Prop}(hc:∀R,(∀us s',OKQ us s'->R us s')->ba (model prog w) A.in1 (kO x) R (λ_ _=>False) s)(h:∀us s',OKQ us s'->us.length<64/\((us.length<2 -> ∀h2 c,h2.get? s'.heap.objs.size=some (bu "list" us.toArray c)->(∀b o,s'.heap.get? b=some o->h2.get? b=some o)->Q (.ref s'.heap.objs.size) {s' with heap:=h2})/\(2<=us.length -> ∀D e1 h2,s'.heap.objs.size<=D->h2.get? D=some (bu "list" #[] e1)->(∀b o,s'.heap.get? b=some o->h2.get? b=some o) ->
   ba (model prog w) A.in1.in1 (j7 us.toArray) (λκ s''=>(kas_sort us.length).kasWp (kas_ask prog w A.in1.in1 κ us) (λp s3=>SoFin D e1 (p.toList.map λi=>us.getD i b8) (λs4=>Q (.ref D) s4) s3) s'') (λ_ _=>False) {s' with heap:=h2}))) :
  ba (model prog w) A (call (.builtin "sorted") [x]) Q E s:=by
 refine Calls.call_function_entry kind_sorted plain_sorted entry_sorted (args_sorted1 _) ?_
 refine ah (ao ?_)
 refine ah (b9 (hc _ λus s' ok=>?_) (λ_ _ z=>z) λ_ _ z=>z.elim)
 obtain⟨h64,hs,hb⟩:=h us s' ok
 refine ah (fh ?_ (by rw[bM];omega))
 have hoL:(s'.heap.push (bu "list" us.toArray 0)).get? s'.heap.objs.size=some (bu "list" us.toArray 0):=aL _ rfl
 refine ah (bQ (dX slot_list_sort ⟨_,hoL,rfl⟩ entry_list_sort ?body (args_list_sort _)))
 case body=>
  by_cases h2:2<=us.length
  .refine P4 hoL h2 h64 λe1 h2' g k=>?_
   refine b9 (hb h2 _ e1 h2' (ag _) g λb o q=>k b o (aV (aQ q)) (ai _ q)) (λκ s' hk=>?_) λ_ _ x=>x
   rw[kat_ask_eq rfl] at hk ⊢
   exact kas_wp_mono hk λp s'' hk'=>hk'.mono λs3 hq=>⟨_,rfl,ao ⟨_,rfl,hq⟩⟩
  .have h2:us.length<2:=by omega
   exact Mq (s:={s' with heap:=s'.heap.push (bu "list" us.toArray 0)}) hoL h2 λh3 c g k=>⟨_,rfl,ao ⟨_,rfl,hs h2 h3 c g λb o q=>k b o (aV (aQ q)) (ai _ q)⟩⟩
def so_sortedC{x:aj}{OKQ:List aj->Heap->Nat->Prop}{Q:aj->aq->Prop}(hc:∀R,(∀us h' tk,OKQ us h' tk->R us {s with heap:=h',toks:=tk})->ba (model prog w) A.in1 (kO x) R (λ_ _=>False) s)(h:∀us h' tk,OKQ us h' tk->us.length<64/\((us.length<2 -> ∀h2 c,h2.get? h'.objs.size=some (bu "list" us.toArray c)->(∀b o,h'.get? b=some o->h2.get? b=some o)->Q (.ref h'.objs.size) {s with heap:=h2,toks:=tk})/\(2<=us.length -> ∀D e1 h2,h'.objs.size<=D->h2.get? D=some (bu "list" #[] e1)->(∀b o,h'.get? b=some o->h2.get? b=some o) ->
   ba (model prog w) A.in1.in1 (j7 us.toArray) (λκ s'=>(kas_sort us.length).kasWp (kas_ask prog w A.in1.in1 κ us) (λp s''=>SoFin D e1 (p.toList.map λi=>us.getD i b8) (λs3=>Q (.ref D) s3) s'') s') (λ_ _=>False) {s with heap:=h2,toks:=tk}))) :
  ba (model prog w) A (call (.builtin "sorted") [x]) Q E s:=
 so_sortedG (OKQ:=λus s'=>∃h' tk,s'={s with heap:=h',toks:=tk}/\OKQ us h' tk) (λR hR=>hc R λus h' tk ok=>hR us _ ⟨h',tk,rfl,ok⟩) λus s' ⟨h',tk,e,ok⟩=>by subst e;exact h us h' tk ok
end
end PySem.W
namespace L2
open PySem PySem.Spec PyProof.Rows
theorem Qo:∀{xs}{us:List aj},xs.length=us.length->(∀(i:Nat) x u,xs[i]?=some x->us[i]?=some u->RelV x u)->Vals xs us
 |[],[],_,_=>.nil
 |[],_::_,h,_=>by simp at h
 |_::_,[],h,_=>by simp at h
 |x::xs,u::us,h,g=>.cons (g 0 x u rfl rfl) (Qo (by simpa using h) λi a b ha hb=>g (i+1) a b ha hb)
def N6{P:a7}{w:bL}{kvs:List (Key×V)}{vs:List (Key×aj)}{us:List aj}(rel:KV kvs vs)(hl:us.length=vs.length)(h:∀(j:Nat) v,us[j]?=some v -> ∃k x,vs[j]?=some (k,x)/\(Ce P w).is k v=true):Vals (kvs.map λkv=>kV kv.1) us:=by
 refine Qo (by rw[af,rel.length,hl]) λi x u hx hu=>?_
 obtain⟨k,y,hk,his⟩:=h i u hu
 have e:(kvs.map (·.1))[i]?=some k:=by rw[rel.keys,au,hk];rfl
 rw[au] at hx e
 obtain⟨kv,hkv,rfl⟩:=Option.map_eq_some_iff.mp hx
 rw[hkv] at e
 cases e
 exact ay8 his
section
variable {X:Cx}
def Tg{ξ:List (Addr×Obj)}{s:aq}{σ:St}{H:Hp}{p:Addr}{xs:List V}{R:List aj->aq->Prop}(hc:X.calm=true)(I:Inv X ξ σ H s)(hp:SqL X.K H p xs \/ ∃kvs,Rd H p (.dK kvs)/\(kvs.map λkv=>kV kv.1)=xs)(hR:∀us h' tk,(∀b o,s.heap.get? b=some o->h'.get? b=some o)->s.heap.objs.size<=h'.objs.size->s.toks<=tk->Vals xs us->R us {s with heap:=h',toks:=tk}):ba (model X.prog X.w) X.A.in1 (kO (.ref p)) R (λ_ _=>False) s:=by
 rcases hp with hp|⟨kvs,hp,ek⟩
 .obtain⟨χ,ri,pl,hz⟩:=I.list hp
  refine collect_list pl.isList (hR _ _ s.toks (λb o e=>?_) ?_ (ag _) ri) (by rw[<- ri.length];exact hz)
  .rw[Heap.get?_update_ne _ _ _ _ (aV (aQ e))]
   exact ai _ e
  .rw[Heap.size_update,j9]
   exact cS _
 .obtain⟨z,lo,vs,rel,dof⟩:=Fp I.hok hp
  obtain⟨ep,dat⟩:=dof.dictAt
  exact bD (ag _) (PySem.W.collect_src (PySem.W.kdl_dict lo) (by simp[I.ok.hd hc]) dat (by rw[<- rel.length];exact z) λh' tk us hk hs hl hi htk=>hR us h' tk hk (d9 hs) htk (ek▸N6 rel hl hi))
def am9:List V->Hp->VK->Prop:=λxs H Q=>∃p kvs,xs=[.ref p]/\Rd H p (.dK kvs)/\∀l,H l=none->Q (.ref l) (upd H l (.lst (kvs.map λkv=>kV kv.1)))
def Td(hc:X.calm=true):Cm X (.type "list") am9:=by
 intro ξ s σ H xs us Q I r h
 obtain⟨p,kvs,rfl,e,q⟩:=h
 obtain⟨u,rfl,ru⟩:=Ei r
 cases ru
 obtain⟨z,lo,vs,rel,dof⟩:=Fp I.hok e
 obtain⟨ep,dat⟩:=dof.dictAt
 exact bD (ag _) (PySem.W.kdl_call (PySem.W.kdl_dict lo) (I.ok.hd hc) dat (by rw[<- rel.length];exact z) λh' tk acc' c' hk hS' hacc htk=>⟨.ref s.heap.objs.size,_,I.laid (t':=tk) (o:=.lst (kvs.map λkv=>kV kv.1)) hk (ag _) ⟨by rw[af];exact z,acc'.toList,c',N6 rel (by rw[bn];exact hacc.1) λj v e=>hacc.2 j v (by rw[<- bW];exact e),by simpa using hS'⟩,rfl,q _ (I.hok.fresh (ag _))⟩)
def Kp{α:Type}{lt:α->α->Bool}{zs:List α}(h:zs.length<2):An lt zs=zs:=by
 match zs,h with
 |[],_=>rfl
 |[z],_=>rfl
def Ml{α:Type}{v:α->V}{zs:List α}{us:List aj}(d:α)(rv:Vals (zs.map v) us){i:Nat}(h:i<zs.length):RelV (v (zs.getD i d)) (us.getD i b8):=by
 obtain⟨u,hu,ru⟩:=rv.get (x:=v (zs.getD i d)) (by rw[au,aS,am h];rfl)
 rw[aS (l:=us),hu]
 exact ru
theorem Sn{α:Type}{v:α->V}{zs:List α}{us:List aj}(d:α)(rv:Vals (zs.map v) us):∀p:List Nat,(∀i∈p,i<zs.length)->Vals ((p.map λi=>zs.getD i d).map v) (p.map λi=>us.getD i b8)
 |[],_=>.nil
 |i::p,h=>.cons (Ml d rv (h i aY)) (Sn d rv p λj hj=>h j (aK _ hj))
def L0{α:Type}{v:α->V}{lt:α->α->Bool}{zs:List α}{us:List aj}{s:aq}{G:Array Nat->aq->Prop}{ask:Nat->Nat->(Bool->aq->Prop)->aq->Prop}(d:α)(o:OrdL lt zs)(rv:Vals (zs.map v) us)(h2:2<=us.length)(ha:∀i j C,i<zs.length->j<zs.length->C (lt (zs.getD i d) (zs.getD j d)) s->ask i j C s)(hG:∀p:Array Nat,Vals ((An lt zs).map v) (p.toList.map λi=>us.getD i b8)->G p s):(PySem.W.kas_sort us.length).kasWp ask G s:=by
 have hl:zs.length=us.length:=by have:=rv.length;rwa[af] at this
 obtain⟨pp,h1,h3,h4,h5⟩:=Zq d o (by omega)
 rw[<- hl]
 exact PySem.W.kRun_wp ha h1 (hG pp (h5▸Sn d rv pp.toList h4))
def an8(K:ae):List V->Hp->VK->Prop:=λxs H Q=>∃p zs,xs=[.ref p]/\(SqL K H p (zs.map V.str) \/ ∃kvs,Rd H p (.dK kvs)/\kvs.map (·.1)=zs.map fA)/\zs.Nodup/\zs.length<64/\∀D,H D=none->Q (.ref D) (upd H D (.lst ((An ltS zs).map V.str)))
def Wz{K:ae}{H:Hp}{p:Addr}{zs:List Str}(h:SqL K H p (zs.map V.str) \/ ∃kvs,Rd H p (.dK kvs)/\kvs.map (·.1)=zs.map fA):SqL K H p (zs.map V.str) \/ ∃kvs,Rd H p (.dK kvs)/\(kvs.map λkv=>kV kv.1)=zs.map V.str:=
 h.imp id fun⟨kvs,h1,h2⟩=>⟨kvs,h1,by
  have:=congrArg (jc kV) h2
  rwa[cF,cF] at this⟩
def Te(hc:X.calm=true):Cm X (.builtin "sorted") (an8 X.K):=by
 intro ξ s σ H xs us Q I r h
 obtain⟨p,zs,rfl,hp,nd,h64,q⟩:=h
 obtain⟨u,rfl,ru⟩:=Ei r
 cases ru
 refine PySem.W.so_sortedC (OKQ:=λus h' tk=>(∀b o,s.heap.get? b=some o->h'.get? b=some o)/\s.heap.objs.size<=h'.objs.size/\s.toks<=tk/\Vals (zs.map V.str) us) (λR hR=>Tg hc I (Wz hp) λus h' tk a b c d=>hR us h' tk ⟨a,b,c,d⟩) λus h' tk ⟨keep,hD,htk,rv⟩=>?_
 have hl:zs.length=us.length:=by have:=rv.length;rwa[af] at this
 have fin:∀{h3} {D} {out} {c},h'.objs.size<=D->(∀b o,h'.get? b=some o->h3.get? b=some o)->Vals ((An ltS zs).map V.str) out->h3.get? D=some (bu "list" out.toArray c)->EP X ξ σ Q (.ref D) {s with heap:=h3,toks:=tk}:=λ{h3 D out c} hD2 k r g=>
  ⟨.ref D,_,I.laid (λb o e=>k b o (keep b o e)) (aF hD hD2) (o:=.lst ((An ltS zs).map V.str)) ⟨by rw[af,(Al ltS zs).length_eq,bM];omega,out,c,r,g⟩,rfl,q _ (I.hok.fresh (aF hD hD2))⟩
 refine⟨by omega,λh2 h2' c g k=>fin (ag _) k (by rw[Kp (by omega)];exact rv) g,λh2 D e1 h2' hD2 gD k=>?_⟩
 refine PySem.W.kas_kind (T:=.type "str") h2 (λv hv=>?_) rfl rfl (L0 bU (Cv nd) rv h2 (λi j C hi hj hC=>?_) λp ro=>⟨gD,λh3 c g sb=>fin hD2 (λb o e=>(sb.2 b (aV (aH (aQ e) hD2))).trans (k b o e)) ro g⟩)
 .obtain⟨i,hi,rfl⟩:=eW hv
  obtain⟨t,e⟩:=Ml bU rv (i:=i) (by omega)
  rw[aS,am hi] at e
  rw[show us[i]=_ from e]
  exact .now
 .unfold gK
  obtain⟨t1,e1⟩:=Ml bU rv hi
  obtain⟨t2,e2⟩:=Ml bU rv hj
  rw[e1,e2]
  exact kY hC
end
end L2
namespace PySem
def by8{t:ci}{n:Nat}:(t.orStandIn n).led=t.led/\((t.orStandIn n).plain=true->t.plain=true):=by
 unfold SetTable.orStandIn
 split
 .exact⟨rfl,λh=>h⟩
 .exact⟨rfl,λh=>by cases h⟩
def Vl(t:ci)(es:Array (Int×aj))(h:Int)(x:aj):(layNew t es h x).2.1.led=t.led/\((layNew t es h x).2.1.plain=true->t.plain=true):=by
 unfold layNew
 split
 .exact by8
 .exact⟨rfl,λh=>by cases h⟩
def Zs{t t':ci}{hs:Array Int}{n:Nat}{o:Array Nat}(h:t.relaid hs n=some (t',o)):t'.led=t.led/\t'.plain=t.plain:=by
 unfold SetTable.relaid SetTable.laid at h
 cases e:SetTable.layClean (SetTable.sizeAbove n-1) hs with
 |none=>rw[e] at h;cases h
 |some ow=>
  rw[e] at h
  cases h
  exact⟨rfl,rfl⟩
def ar0(t:ci)(es:Array (Int×aj))(n:Nat):(j8 t es n).2.1.led=t.led/\((j8 t es n).2.1.plain=true->t.plain=true):=by
 unfold j8
 split
 .rename_i t' o e
  obtain⟨h1,h2⟩:=Zs e
  dsimp only
  split
  .exact⟨h1,λh=>h2▸h⟩
  .exact⟨rfl,λh=>by cases h⟩
 .exact⟨rfl,λh=>by cases h⟩
section
variable {prog:a7}{w:bL}{κ:Type} [DecidableEq κ] {knd:KeyKind prog w κ}{A:bJ}{E:aj->aq->Prop}{s:aq}
structure SetQ (knd:KeyKind prog w κ) (h:Heap) (a:Addr) (S:κ->Bool) (n:Nat) (led:Bool) (o:Obj) (es:Array (Int×aj)) (ep:Nat) (t:ci):Prop where
 at_:h.get? a=some o
 ex:o.ExactSet
 dt:o.data=.set es ep t
 el:ElemsOf knd es.toList
 mem:∀k,S k=true ↔ ∃e∈es.toList,knd.is k e.2=true
 few:es.size<scanBound
 fit:t.fits es.size=true
 sz:es.size=n
 led:t.led=led
 pl:t.plain=true->es.size=0
def Sy(knd:KeyKind prog w κ)(h:Heap)(a:Addr)(S:κ->Bool)(n:Nat)(led:Bool):Prop:=∃o es ep t,SetQ knd h a S n led o es ep t
def SetQ.of{h:Heap}{a:Addr}{S S':κ->Bool}{n m:Nat}{led:Bool}{o:Obj}{es es':Array (Int×aj)}{ep:Nat}{t t':ci}(q:SetQ knd h a S n led o es ep t)(el:ElemsOf knd es'.toList)(mem:∀k,S' k=true ↔ ∃e∈es'.toList,knd.is k e.2=true)(few:es'.size<scanBound)(fit:t'.fits es'.size=true)(sz:es'.size=m)(ld:t'.led=led)(pl:t'.plain=false) :
  SetQ knd (h.update a (Obj.putSet es' t')) a S' m led {o with data:=.set es' (ep+1) t'} es' (ep+1) t':=
 ⟨(SetOf_store (knd:=knd) q.at_ q.ex q.dt el mem few fit).1,q.ex,rfl,el,mem,few,fit,sz,ld,λc=>by rw[pl] at c;cases c⟩
def bq2{a:Addr}{S:κ->Bool}{n:Nat}{led:Bool}{k:κ}{x:aj}{Q:Bool->aq->Prop}(hk:knd.is k x=true)(hx:x.scannable=true)(hp:plainKind x=false)(hQ:Sy knd s.heap a S n led)(room:n+1<scanBound)(h:∀h',bT a s.heap h'->Sy knd h' a (λk'=>S k'||decide (k'=k)) (if S k then n else n+1) led->Q (!S k) {s with heap:=h'}) :
  ba (model prog w) A (setAddHashed a x (knd.hash k)) Q E s:=by
 obtain⟨o,es,ep,t,q⟩:=hQ
 have fit:=q.fit
 unfold setAddHashed setAddHashedIn setAddByScan
 refine bQ (ah (eO q.at_ q.dt fit ?_))
 dsimp only
 rw[byScan_of hx q.few q.el,if_pos rfl]
 refine ah (ah (lJ (ah (wpAny_setScan_of hk q.at_ q.dt fit q.el ?_))))
 cases hr:List.findIdx? (λe=>knd.is k e.2) es.toList with
 |some j=>
  obtain⟨hj,hpj,_⟩:=List.findIdx?_eq_some_iff_getElem.mp hr
  have inS:S k=true:=(q.mem k).mpr ⟨_,cV hj,hpj⟩
  rw[inS] at h
  refine ao (ao (h s.heap (Heap.SameBut.refl _ _) ⟨o,es,ep,t,{q with mem:=λk'=>?_}⟩))
  rw[<- q.mem k',eF,decide_eq_true_eq]
  exact⟨λc=>c.elim id λe=>e▸inS,.inl⟩
 |none=>
  have noS:S k=false:=by
   cases c:S k with
   |false=>rfl
   |true=>
    obtain⟨e,he,hp⟩:=(q.mem k).mp c
    have:=List.findIdx?_eq_none_iff.mp hr e he
    rw[hp] at this;cases this
  rw[noS] at h
  have perm:=layNew_perm t es (knd.hash k) x
  have fits:=layNew_fits t es (knd.hash k) x
  obtain⟨l1,l2⟩:=Vl t es (knd.hash k) x
  generalize layNew t es (knd.hash k) x=L at perm fits l1 l2 ⊢
  obtain⟨es1,t1,wd,gv⟩:=L
  dsimp only at perm fits l1 l2 ⊢
  rw[Array.toList_push] at perm
  have el1:ElemsOf knd es1.toList:=(q.el.push hk hx).perm perm
  have mem1:=mem_push_iff hk q.mem perm
  have sz1:es1.size=n+1:=by rw[<- bn,perm.length_eq,ak,bn,q.sz];rfl
  have few1:es1.size<scanBound:=by omega
  have tail:∀t2:ci,t2.fits es1.size=true->t2.led=led->t2.plain=false -> ∀(g:Bool->Sem Unit),(∀b s1 (R:Unit->aq->Prop),R () s1->ba (model prog w) A (g b) R E s1)->ba (model prog w) A (do
    storeSet a es1 t2
    if(!wd&&t2.tooFull)=true then do
      g (j8 t2 es1 (fw es1.size)).2.2
      storeSet a (j8 t2 es1 (fw es1.size)).1 (j8 t2 es1 (fw es1.size)).2.1
      pure (some true)
     else pure (some true)) (λ(r:Option Bool) s'=>r=some true/\∃h',s'={s with heap:=h'}/\bT a s.heap h'/\Sy knd h' a (λk'=>S k'||decide (k'=k)) (n+1) led) E s:=λt2 f2 ld2 pl2 g hg=>by
   have q1:=q.of (m:=n+1) el1 mem1 few1 f2 sz1 ld2 pl2
   have b1:=b5 s.heap a (Obj.putSet es1 t2)
   refine ah (wpAny_storeSet_of q.at_ q.dt ?_ (fits_of_scanBound few1))
   split
   .have p2:=relayAll_perm t2 es1 (fw es1.size)
    have f3:=relayAll_fits t2 es1 (fw es1.size)
    obtain⟨r1,r2⟩:=ar0 t2 es1 (fw es1.size)
    generalize j8 t2 es1 (fw es1.size)=L2 at p2 f3 r1 r2 ⊢
    obtain⟨es2,t3,gv2⟩:=L2
    dsimp only at p2 f3 r1 r2 ⊢
    have sz2:es2.size=n+1:=by rw[<- bn,p2.length_eq,bn,sz1]
    have mem2:∀k',(S k'||decide (k'=k))=true ↔ ∃e∈es2.toList,knd.is k' e.2=true:=λk'=>by
     rw[mem1 k']
     exact⟨fun⟨e,he,z⟩=>⟨e,p2.mem_iff.mpr he,z⟩,fun⟨e,he,z⟩=>⟨e,p2.mem_iff.mp he,z⟩⟩
    have pl3:t3.plain=false:=by
     cases c:t3.plain with
     |false=>rfl
     |true=>rw[r2 c] at pl2;cases pl2
    refine ah (hg _ _ _ (ah (wpAny_storeSet_of q1.at_ q1.dt (ao ⟨rfl,_,rfl,b1.trans (b5 _ a _),_,_,_,_,q1.of (m:=n+1) (el1.perm p2) mem2 (by omega) f3 sz2 (r1.trans ld2) pl3⟩) (by rw[sz2,bM];have:scanBound=4096:=rfl;omega))))
   .exact ao ⟨rfl,_,rfl,b1,_,_,_,_,q1⟩
  have fin:∀(r:Option Bool)(s':aq),(r=some true/\∃h',s'={s with heap:=h'}/\bT a s.heap h'/\Sy knd h' a (λk'=>S k'||decide (k'=k)) (n+1) led)->Q true s':=λr s' ⟨_,h',e,b,z⟩=>by
   rw[e];exact h h' b z
  have hg:∀(b:Bool)(s1:aq)(R:Unit->aq->Prop),R () s1->ba (model prog w) A (match b with|true=>rule "set.scan.the-table-gave-way" | false=>pure ()) R E s1:=λb s1 R z=>by
   cases b
   .exact ao z
   .exact lJ z
  refine ah (hg gv _ _ ?_)
  split
  .rw[hashByValue_scannable 8 hx,hp]
   refine ah (ao ?_)
   refine b9 (tail {t1 with plain:=false} (SetTable.fits_plain_off fits) (l1.trans q.led) rfl _ hg) (λr s' z=>?_) λ_ _ z=>z
   obtain⟨rfl,z⟩:=z
   exact ao (fin _ s' ⟨rfl,z⟩)
  .rename_i c
   refine ah (ao ?_)
   refine b9 (tail t1 fits (l1.trans q.led) (by simpa using c) _ hg) (λr s' z=>?_) λ_ _ z=>z
   obtain⟨rfl,z⟩:=z
   exact ao (fin _ s' ⟨rfl,z⟩)
def a51(a:aj){Q₁:aj->aq->Prop}(h:Q₁ (.ref s.heap.objs.size) {s with heap:=s.heap.push (Cs (!w.params.followText "set-order"))}):ic (model prog w) A (.call (.builtin "set.__new__") ⟨[.type "set", a],[]⟩) (wants Q₁ E) s:=by
 have hsub:=sub_set_self
 refine codeAny_of_tree (show ba _ A.in1 (checkBuiltinCall "set.__new__" ⟨[.type "set", a],[]⟩ >>= λ_=>again (.builtin "set.__new__" ⟨[.type "set", a],[]⟩)) _ _ s from ?_)
 refine ah (mo (F.newCall_set_1 a) (ao ⟨ff F.plain_set_new _,cH F.entry_set_new (cE F.plain_set_new _ ▸ ?_)⟩))
 unfold bI.«set.__new__» Builtin.Frozenset.newClass
 obtain⟨hp,g,d,tk,os⟩:=s;dsimp only
 wp_walk
 refine fq (ao ?_);dsimp only;simp only[newObj]
 exact ah (wpAny_alloc (ao (ao h)))
def aq9{led:Bool}{h:Heap}{a:Addr}(e:h.get? a=some (Cs led)):Sy knd h a (λ_=>false) 0 led:=
 ⟨_,#[],0,_,e,⟨rfl,rfl,rfl⟩,rfl,(λe he=>by simp at he),(λk=>by simp),(by decide),rfl,rfl,rfl,λ_=>rfl⟩
end
end PySem
namespace PySem
open PySem PySem.Spec PyProof.Rows
section
variable {prog:a7}{w:bL}{A:bJ}{R:mJ->aq->Prop}{I:Addr}{fp wr:List Addr}{G:Array kR->Array kR->Prop}{P:Nat->aj->Prop}{St:Nat->aq->Prop}{κ:Type} [DecidableEq κ] {knd:KeyKind prog w κ}{ks:List κ}{led:Bool}
abbrev Eb(knd:KeyKind prog w κ)(led:Bool)(h:Heap)(S:Addr)(ks:List κ):Prop:=Sy knd h S (λk=>(Dl ks).any (λj=>decide (j=k))) (Dl ks).length led
def a97{h h':Heap}{S:Addr}(x:Eb knd led h S ks)(k:∀o,h.get? S=some o->h'.get? S=some o):Eb knd led h' S ks:=
 let⟨o,es,ep,t,q⟩:=x;⟨o,es,ep,t,{q with at_:=k o q.at_}⟩
def Vm(W:WalksS prog w A.in1 I fp wr G ks.length P St)(S:Addr)(out:S∉fp)(hv:∀i v,P i v -> ∃k,ks[i]?=some k/\knd.is k v=true/\v.scannable=true/\plainKind v=false)(few:ks.length+1<scanBound)(left:Nat) :
  ∀(i:Nat)(s:aq),i+left=ks.length->St i s->Eb knd led s.heap S (ks.take i)->(∀s',Moved (S::wr) G s s'->Eb knd led s'.heap S ks->R (.ok (.ret .none)) s') ->
   ic (model prog w) A (.builtin "set.update.loop" ⟨[.ref S,.ref I],[]⟩) R s:=by
 have outw:S∉wr:=λz=>out (W.sub _ z)
 have into:∀b∈wr,b∈S::wr:=λb z=>.tail _ z
 induction left with
 |zero=>
  intro i s hi st fl hR
  have ei:i=ks.length:=hi
  subst ei
  rw[bp] at fl
  refine cH ja (cE gy _ ▸ ?_)
  show ba _ A.in1 (j4 (.ref I) >>= _) _ _ s
  exact ah (W.done s _ _ st λs' mv=>ao (hR s' (mv.mono into) (a97 fl λo e=>mv.heap S o outw e)))
 |succ left ih=>
  intro i s hi st fl hR
  have lt:i<ks.length:=by omega
  refine cH ja (cE gy _ ▸ ?_)
  show ba _ A.in1 (j4 (.ref I) >>= _) _ _ s
  refine ah (W.item i s _ _ lt st λv s1 pv st1 mv=>?_)
  obtain⟨k,ek,ik,sk,nk⟩:=hv i v pv
  have fl1:Eb knd led s1.heap S (ks.take i):=a97 fl λo e=>mv.heap S o outw e
  have tk:ks.take (i+1)=ks.take i++[k]:=by rw[List.take_succ,ek];rfl
  show ba _ A.in1 (kP [v] (setAdd S v) >>= _) _ _ s1
  refine ah (bQ ?_)
  unfold setAdd
  refine bQ (ah (knd.pyHash (k:=k) ik ?_))
  have room:(Dl (ks.take i)).length+1<scanBound:=by
   have:=Rb (ks.take i)
   rw[aX] at this
   omega
  refine bq2 (knd:=knd) (s:={s1 with toks:=s1.toks+1}) ik sk nk fl1 room λh' sb fl2=>?_
  have fl3:Eb knd led h' S (ks.take (i+1)):=by
   have eS:(λj=>(Dl (ks.take i)).any (λm=>decide (m=j))||decide (j=k))=λj=>(Dl (ks.take i++[k])).any (λm=>decide (m=j)):=funext λj=>(ah2 (ks.take i) k j).symm
   have en:(if(Dl (ks.take i)).any (λm=>decide (m=k))=true then(Dl (ks.take i)).length else(Dl (ks.take i)).length+1)=(Dl (ks.take i++[k])).length:=by
    rw[N9];split <;> simp
   rw[tk]
   show Sy knd h' S _ _ led
   rw[<- eS,<- en]
   exact fl2
  refine ao ⟨ff gy _,ih (i+1) _ (by omega) (W.frame _ s1 _ _ st1 (cS _) λb hb o e=>?_) fl3 λs2 mv2 fl4=>?_⟩
  .exact (sb.2 b λz=>out (z▸hb)).trans e
  .exact hR s2 (Moved.trans W.gtrans ((mv.mono into).then_heap (cS _) λb o hb e=>(sb.2 b λz=>hb (z▸aY)).trans e) mv2) fl4
end
section
variable {prog:a7}{w:bL}{A:bJ}{E:aj->aq->Prop}{s:aq}{κ:Type} [DecidableEq κ] {knd:KeyKind prog w κ}{ks:List κ}
def Vn{l:Addr}{ψ:Array aj}{Q:aj->aq->Prop}(hh:A.handled=none)(hl:s.heap.IsList l ψ)(hv:∀(i:Nat)(v:aj),ψ[i]?=some v -> ∃k,ks[i]?=some k/\knd.is k v=true/\v.scannable=true/\plainKind v=false)(hs:ψ.size=ks.length)(few:ks.length+1<scanBound)(h:∀(h':Heap)(tk:Nat),Eb knd (!w.params.followText "set-order") h' s.heap.objs.size ks->(∀b o,b<s.heap.objs.size->s.heap.get? b=some o->h'.get? b=some o)->Q (.ref s.heap.objs.size) {s with heap:=h',toks:=tk}) :
  ba (model prog w) A (call (.type "set") [.ref l]) Q E s:=by
 obtain⟨c,tl,hmro⟩:=F.called_set.mro
 have m1:=F.called_set.made
 have m2:=F.called_set.sub
 have m3:=F.called_set.notType
 have m4:=F.called_set.canCreate
 have m5:=F.typeCall_set_1 (.ref l)
 refine il (codeAny_of_tree (show ba _ _ (callAny (.type "set") _) _ _ _ from ao ⟨iK _ (by decide +kernel),cH F.entry_type_call ?_⟩))
 rw[Around.under_plain (weight_type_call_type "set" [.ref l] []) rfl]
 repeat (any_goals (first|assumption|wp_step))
 refine fJ (a51 (.ref l) (E:=E) (Q₁:=λobj s₁=>obj=.ref s.heap.objs.size/\s₁={s with heap:=s.heap.push (Cs (!w.params.followText "set-order"))}) ⟨rfl,rfl⟩) λr s₁ hr=>?_
 cases r with
 |error e=>exact hr
 |ok fl=>
  cases fl with
  |ret obj=>
   obtain⟨rfl,rfl⟩:=hr
   have new:(s.heap.push (Cs (!w.params.followText "set-order"))).get? s.heap.objs.size=some (Cs (!w.params.followText "set-order")):=aL _ rfl
   have ty:Shared.TypeIs {s with heap:=s.heap.push (Cs (!w.params.followText "set-order"))} (.ref s.heap.objs.size) "set" := ⟨_,new,rfl⟩
   have m6:=F.called_set.init.lookup
   have m7:=F.called_set.init.bind (.ref s.heap.objs.size)
   repeat (any_goals (first|assumption|wp_step))
   refine fJ (kx (R:=wants (λr s₂=>r=.none/\∃h' tk,s₂={s with heap:=h',toks:=tk}/\Eb knd (!w.params.followText "set-order") h' s.heap.objs.size ks/\(∀b o,b<s.heap.objs.size->s.heap.get? b=some o->h'.get? b=some o)) E) F.called_set.init.plain F.entry_set_init (check_set_init_1 ty ?_)) λr2 s2 hr2=>?_
   .obtain⟨⟨oc,odict,od,osl⟩,ol,hc,n,hd⟩:=hl
    simp only at hc hd
    subst hc;subst hd
    have lt:l<s.heap.objs.size:=aQ ol
    have ol2:(s.heap.push (Cs (!w.params.followText "set-order"))).get? l=some {cls:=.type "list", dict:=odict,data:=.seq ψ n,slots:=osl}:=ai _ ol
    have m8:=F.sub_list_set
    have m9:=F.sub_list_frozenset
    have m10:(fM "list" == fM "dict")=false:=by decide
    have isl:(s.heap.push (Cs (!w.params.followText "set-order"))).IsList l ψ:=⟨_,ol2,rfl,n,rfl⟩
    have size:(s.heap.push (Cs (!w.params.followText "set-order"))).objs.size=s.heap.objs.size+1:=dF ..
    unfold bI.«set.__init__» noKeywords Builtin.Frozenset.updateFrom
    generalize hPI:ms=PI
    wp_walk
    subst hPI
    refine g_ isl (ah (kF ?_))
    have quiet:A.in1.in1.in1.handled=none:=by simp[hh]
    have ne1:l≠(s.heap.push (Cs (!w.params.followText "set-order"))).objs.size:=size▸aV (dL lt)
    have out:s.heap.objs.size∉[(s.heap.push (Cs (!w.params.followText "set-order"))).objs.size,l]:=by
     simp only[size,aG,cD,or_false,not_or]
     exact⟨aV (bS _),dG lt⟩
    have W:=(j6 (prog:=prog) (w:=w) quiet (s.heap.push (Cs (!w.params.followText "set-order"))).objs.size l ne1 ψ).toS
    rw[hs] at W
    refine Vm (ks:=ks) (led:=!w.params.followText "set-order") W s.heap.objs.size out hv few ks.length 0 _ (iM _) ⟨⟨_,aL _ rfl,rfl,rfl⟩,isl.push _⟩ ?_ λs' mv fl=>?_
    .exact aq9 (ai _ new)
    .obtain⟨h',g',d',tk',os'⟩:=s'
     have e1:g'=s.gens:=mv.gens
     have e2:d'=s.drawn:=mv.drawn
     have e3:os'=s.os:=mv.os
     subst e1;subst e2;subst e3
     refine(show ba _ _ _ _ _ _ from ao (show ba _ _ (ret b8) _ _ _ from ao ⟨rfl,h',tk',rfl,fl,λb o hb e=>?_⟩))
     refine mv.heap b o ?_ (ai _ (ai _ e))
     simp only[size,aG,cD,or_false,not_or]
     exact⟨aV hb,aV (dL hb)⟩
   .cases r2 with
    |error e=>exact hr2
    |ok f2=>
     cases f2 with
     |ret r=>
      obtain⟨rfl,h',tk,rfl,fl,kept⟩:=hr2
      repeat (any_goals (first|assumption|wp_step))
      exact h _ _ fl kept
     |_=>exact hr2.elim
  |_=>exact hr.elim
end
end PySem
namespace PySem
open PySem PySem.Spec PyProof.Rows
def Zu:entryFor table "set.__iter__"=some bI.«frozenset.__iter__»:=entryFor_alias (id' := "frozenset.__iter__") (by kernel_rfl) rfl (by decide +kernel) (by kernel_rfl)
def sy_s_next:Slot "set_iterator" "__next__" "set_iterator.__next__" := .of (owner := "set_iterator") (n := "__next__") (by rw[typeLookup_type,jW];kernel_rfl) (by decide +kernel) (by decide +kernel) (by decide +kernel) (by first|exact .inl (by decide +kernel)|exact .inr (by decide +kernel)) (by rw[kE];kernel_rfl)
def Oh:entryFor table "set_iterator.__next__"=some bI.«set_iterator.__next__»:=entryFor_of_tree (by kernel_rfl)
def by9:Manifest.owners.lookup (String.ofList ['r','o','t','a','r','e','t','i','_','t','e','s'].reverse)=some Manifest.sig_set_iterator:=by kernel_rfl
def Og(a:aj):argsOk "set_iterator.__next__" ⟨[a],[]⟩:=by
 unfold argsOk
 rw[signature?_of (id := "set_iterator.__next__") (n:=['_','_','t','x','e','n','_','_']) (o:=['r','o','t','a','r','e','t','i','_','t','e','s']) (by kernel_rfl) by9]
 kernel_rfl
def Oi:Slot "set_iterator" "__iter__" "set_iterator.__iter__" := .of (owner := "set_iterator") (n := "__iter__") (by rw[typeLookup_type,jW];kernel_rfl) (by decide +kernel) (by decide +kernel) (by decide +kernel) (by first|exact .inl (by decide +kernel)|exact .inr (by decide +kernel)) (by rw[kE];kernel_rfl)
def Zv:entryFor table "set_iterator.__iter__"=some bI.«dict_keyiterator.__iter__»:=entryFor_alias (id' := "dict_keyiterator.__iter__") (by kernel_rfl) rfl (by decide +kernel) (by kernel_rfl)
def Zt(a:aj):argsOk "set_iterator.__iter__" ⟨[a],[]⟩:=by
 unfold argsOk
 rw[signature?_of (id := "set_iterator.__iter__") (n:=['_','_','r','e','t','i','_','_']) (o:=['r','o','t','a','r','e','t','i','_','t','e','s']) (by kernel_rfl) by9]
 kernel_rfl
theorem Qb{α:Type}:∀{l:List α}{i:Nat} (h:i<l.length),(l[i]::l.eraseIdx i).Perm l
 |a::l,0,_=>.refl _
 |a::l,i+1,h=>(List.Perm.swap a _ _).trans ((Qb (l:=l) (i:=i) (jz h)).cons a)
theorem X6{α:Type}(next:Nat->Nat):∀(fuel k:Nat)(left:List α)(out:Array α),left.length<=fuel -> ∃ys,(j3 next fuel k left out).toList=out.toList++ys/\ys.Perm left
 |0,k,left,out,h=>⟨[],by simp[j3],by rw[cJ (Nat.le_zero.mp h)]⟩
 |fuel+1,k,[],out,h=>⟨[],by simp[j3],.nil⟩
 | fuel+1,k,z::left,out,h=>by
  have hlt:next k%(z::left).length<(z::left).length:=lA _ (by simp)
  obtain⟨ys,e,p⟩:=X6 next fuel (k+1) ((z::left).eraseIdx (next k%(z::left).length)) (out.push (z::left)[next k%(z::left).length]) (by rw[iI hlt];exact Nat.sub_le_of_le_add h)
  refine⟨(z::left)[next k%(z::left).length]::ys,?_,?_⟩
  .rw[j3,am hlt]
   dsimp only
   rw[e];simp
  .exact (p.cons _).trans (Qb hlt)
def ar1{α:Type}(next:Nat->Nat)(xs:Array α):(fU next xs).toList.Perm xs.toList:=by
 obtain⟨ys,e,p⟩:=X6 next xs.size 0 xs.toList #[] (jL bn)
 unfold fU
 rw[e];simpa using p
section
variable {prog:a7}{w:bL}{A:bJ}{E:aj->aq->Prop}
theorem X5{α:Type}:∀(n:Nat)(xs:List α)(s:aq) {Q:List α->aq->Prop},xs.length=n->(∀ys d,ys.Perm xs->Q ys {s with drawn:=d})->ba (model prog w) A (drawOrder n xs) Q E s
 | 0,xs,s,Q,h,hQ=>by
  rw[cJ h] at hQ ⊢
  unfold drawOrder
  exact ao (hQ [] s.drawn .nil)
 |n+1,[],s,Q,h,hQ=>by cases h
 | n+1,z::xs,s,Q,h,hQ=>by
  unfold drawOrder
  refine ah (λΓ p _=>⟨by simp,?_⟩)
  have hlt:(model prog w).w.draws .order (s.drawn.get .order)%(z::xs).length<(z::xs).length:=lA _ (by simp)
  generalize (model prog w).w.draws .order (s.drawn.get .order)%(z::xs).length=i at hlt
  show ba (model prog w) A _ Q E {s with drawn:=s.drawn.bump .order}
  rw[am hlt]
  dsimp only
  refine ah (X5 n ((z::xs).eraseIdx i) _ (by rw[iI hlt];simpa using h) λys d p=>ao (hQ _ d ((p.cons _).trans (Qb hlt))))
end
def bc1(h:Heap)(I:Addr)(f:aj)(i:Nat)(S:Addr)(n ep:Nat):Prop:=∃o,h.get? I=some o/\o.cls=.type "set_iterator" /\ o.data=.fields #[f,.int i 0,.ref S,.int n 0,.int ep 0]
def SyF(w:bL)(h:Heap)(S T:Addr)(es:Array (Int×aj))(ep:Nat)(t:ci)(xs:List aj)(i:Nat)(f:aj):Prop:=
 (w.params.followText "set-order"=true/\f=.int 0 0/\xs=(fU (w.params.setOrder S ep) es).toList.map (·.2)) \/
 (∃ps:List Nat,f=.ref T/\(∃o c,h.get? T=some o/\o.data=.seq (ps.map λ(i:Nat)=>ie i).toArray c)/\ps.length=es.size/\∀(i p:Nat),ps[i]?=some p -> ∃e:Int×aj,es[p]?=some e/\xs[i]?=some e.2) \/
 (w.params.followText "set-order"=false/\es.size<=1/\t.led=true/\f=.int ((if i=0 then 0 else t.place.getD 0 0+1:Nat)) 0/\xs=es.toList.map (·.2))
def Yg(w:bL)(I S T:Addr)(es:Array (Int×aj))(ep:Nat)(t:ci)(xs:List aj)(i:Nat)(h:Heap):Prop:=
 ∃f,bc1 h I f i S es.size ep/\(∃o,h.get? S=some o/\o.data=.set es ep t)/\SyF w h S T es ep t xs i f
section
variable {prog:a7}{w:bL}{A:bJ}{E:aj->aq->Prop}{s:aq}{I S T:Addr}{es:Array (Int×aj)}{ep:Nat}{t:ci}{xs:List aj}{i:Nat}
def Vp{n:Nat}{places:Array Nat}(h:places.size=n)(h1:n<=1):dH places 0=0/\dH places (places.getD 0 0+1)=n:=by
 subst h
 match places,h1 with
 |⟨[]⟩,_=>exact⟨rfl,rfl⟩
 |⟨[a]⟩,_=>
  constructor
  .simp[dH,SetTable.below.go]
  .simp[dH,SetTable.below.go]
def ar2{oT:Obj}{χ:Array aj}{c:Nat}{Q:Option (Array aj)->aq->Prop}(hoT:s.heap.get? T=some oT)(hdT:oT.data=.seq χ c)(h:Q (some χ) s):ba (model prog w) A (k_ (.ref T)) Q E s:=by
 unfold k_
 refine ah (lI hoT ?_)
 rw[hdT]
 exact ao h
def Sj{slot given:Nat}{oS:Obj}{Q:Option (aj×Nat)->aq->Prop}(hoS:s.heap.get? S=some oS)(hdS:oS.data=.set es ep t)(fit:t.fits es.size=true)(hw:w.params.followText "set-order"=true)(h:Q (((fU (w.params.setOrder S ep) es)[given]?).map λe=>(e.2,slot)) s):ba (model prog w) A (setNext S slot given ep) Q E s:=by
 unfold setNext
 refine ah (eO hoS hdS fit ?_)
 dsimp only
 unfold lH
 refine ah (ah (fq (ao ?_)))
 rw[if_pos (show(model prog w).w.params.followText "set-order"=true from hw),if_neg (by simp)]
 refine ah ?_
 unfold setWalk
 refine ah (eO hoS hdS fit ?_)
 dsimp only
 unfold lH
 refine ah (ah (fq (ao ?_)))
 rw[if_pos (show(model prog w).w.params.followText "set-order"=true from hw)]
 exact ah (fq (ao (ao h)))
def Sk{slot given:Nat}{oS:Obj}{Q:Option (aj×Nat)->aq->Prop}(hoS:s.heap.get? S=some oS)(hdS:oS.data=.set es ep t)(fit:t.fits es.size=true)(hw:w.params.followText "set-order"=false)(h1:es.size<=1)(hl:t.led=true)(h:Q (match es[dH t.place slot]?,t.place[dH t.place slot]? with
  |some (_,x),some j=>some (x,j+1)
  |_,_=>none) s):ba (model prog w) A (setNext S slot given ep) Q E s:=by
 unfold setNext
 refine ah (eO hoS hdS fit ?_)
 dsimp only
 unfold lH
 refine ah (ah (fq (ao ?_)))
 rw[if_neg (show ¬ (model prog w).w.params.followText "set-order"=true from by rw[show(model prog w).w.params.followText "set-order"=false from hw];exact aR)]
 refine gN (λc=>?_) (λ_=>?_)
 .have c2:(!t.plain&&decide (es.size > 1))=true:=c
  simp at c2
  omega
 refine ah (m:=if(!t.led && !es.isEmpty)=true then unsupported "set:maker-not-led" else pure ()) ?_
 rw[hl]
 exact ao (ao h)
def bq4{h:Heap}{o:Obj}{f g:aj}{j:Int}{n:Nat}(ho:h.get? I=some o)(hc:o.cls=.type "set_iterator")(hd:o.data=.fields #[f,.int i 0,.ref S,.int n 0,.int ep 0]) :
  bc1 ((h.update I (cK (·.setIfInBounds 0 g))).update I (cK (·.setIfInBounds 1 (ie ((i:Int)+1))))) I g (i+1) S n ep:=by
 have a:=cM (cK (·.setIfInBounds 0 g)) ho (ee (cv hd _))
 have b:=cM (cK (·.setIfInBounds 1 (ie ((i:Int)+1)))) a (ee (cv (cv hd _) _))
 exact⟨_,b,(i5 ..).trans ((i5 ..).trans hc),by rw[cv (cv hd _)];simp[ie]⟩
def a55{h:Heap}{o:Obj}{f:aj}{n:Nat}(ho:h.get? I=some o)(hc:o.cls=.type "set_iterator")(hd:o.data=.fields #[f,.int i 0,.ref S,.int n 0,.int ep 0]) :
  bc1 (h.update I (cK (·.setIfInBounds 1 (ie ((i:Int)+1))))) I f (i+1) S n ep:=
 ⟨_,cM _ ho (ee (cv hd _)),(i5 ..).trans hc,by rw[cv hd];simp[ie]⟩
def a53{Q:Option aj->aq->Prop}(fit:t.fits es.size=true)(hxs:xs.length=es.size)(hST:S≠I/\T≠I)(hi:i<es.size)(st:Yg w I S T es ep t xs i s.heap)(hQ:∀v h',xs[i]?=some v->Yg w I S T es ep t xs (i+1) h'->(∀b o,b≠I->s.heap.get? b=some o->h'.get? b=some o)->Q (some v) {s with heap:=h'}) :
  ba (model prog w) A (j4 (.ref I)) Q E s:=by
 obtain⟨f,⟨o,ho,hc,hd⟩,⟨oS,hoS,hdS⟩,hf⟩:=st
 have ty:s.TypeIs (.ref I) "set_iterator" := ⟨o,ho,hc⟩
 unfold j4
 refine ah (lh (gM (name:=eA "__next__") ty sy_s_next (dX sy_s_next ty Oh ?_ (Og _))))
 unfold bI.«set_iterator.__next__»
 refine ah (ao ?_)
 refine ah (wpAny_fieldsOf ho hd ?_)
 dsimp only
 refine ah (iD hoS hdS fit ?_)
 rw[if_neg (by simp)]
 refine ah (ao ?_)
 have oth:∀{g:aj} (b:Addr) (o:Obj),b≠I->s.heap.get? b=some o->((s.heap.update I (cK (·.setIfInBounds 0 g))).update I (cK (·.setIfInBounds 1 (ie ((i:Int)+1))))).get? b=some o:=
  λb o hb e=>(cf _ _ (bx hb)).trans ((cf _ _ (bx hb)).trans e)
 have oth1:∀(b:Addr)(o:Obj),b≠I->s.heap.get? b=some o->(s.heap.update I (cK (·.setIfInBounds 1 (ie ((i:Int)+1))))).get? b=some o:=
  λb o hb e=>(cf _ _ (bx hb)).trans e
 have fin:∀(v:aj)(nx:Nat),xs[i]?=some v->SyF w ((s.heap.update I (cK (·.setIfInBounds 0 (ie nx)))).update I (cK (·.setIfInBounds 1 (ie ((i:Int)+1))))) S T es ep t xs (i+1) (ie nx) ->
   ba (model prog w) A.in1 (do
     setField (dE I) 0 (ie (nx:Nat))
     setField (dE I) 1 (ie ((i:Int)+1))
     ret v) (λfin s'=>∃v,fin=Fin.done (Flow.ret v)/\ba (model prog w) A (pure (some v)) Q E s')
    (λe s'=>ba (model prog w) A (do if <- isInstance e (fM "StopIteration") then pure none else throw e) Q E s') s:=by
  intro v nx ev sf
  refine ah (fz ho hd (by simp) ?_)
  have a:=cM (cK (·.setIfInBounds 0 (ie nx))) ho (ee (cv hd _))
  refine ah (fz (s:={s with heap:=_}) a (cv hd _) (by simp) ?_)
  exact ao ⟨v,rfl,ao (hQ v _ ev ⟨_,bq4 (j:=0) ho hc hd,⟨oS,oth _ _ hST.1 hoS,hdS⟩,sf⟩ oth)⟩
 rcases hf with⟨hw,rfl,ex⟩|⟨ps,rfl,⟨oT,c,hoT,hdT⟩,hps,hx⟩|⟨hw,h1,hl,rfl,ex⟩
 .dsimp only
  have e1:(fU (w.params.setOrder S ep) es).size=es.size:=by rw[ex,af,bn] at hxs;exact hxs
  refine ah (Sj hoS hdS fit hw ?_)
  rw[bB,bN (by omega)]
  refine fin _ 0 ?_ (.inl ⟨hw,rfl,ex⟩)
  rw[ex,au,bW,bN (by omega)]
  rfl
 .obtain⟨p,hp⟩:∃p,ps[i]?=some p:=⟨_,am (by omega)⟩
  obtain⟨e,he,hv⟩:=hx i p hp
  dsimp only
  refine ah (ar2 hoT hdT ?_)
  dsimp only
  rw[bB,jI,au,hp]
  show ba _ _ (setNextDrawn S _ _ >>= _) _ _ s
  refine ah ?_
  unfold setNextDrawn
  refine ah (eO hoS hdS fit ?_)
  dsimp only
  rw[if_neg (by simp)]
  refine ah (ao ?_)
  rw[show(hX (p:Int))=p from bB p,he]
  refine ao ?_
  refine ah (fz ho hd (by simp) ?_)
  exact ao ⟨_,rfl,ao (hQ _ _ hv ⟨_,a55 ho hc hd,⟨oS,oth1 _ _ hST.1 hoS,hdS⟩,.inr (.inl ⟨ps,rfl,⟨oT,c,oth1 _ _ hST.2 hoT,hdT⟩,hps,hx⟩)⟩ oth1)⟩
 .dsimp only
  have hsz:t.place.size=es.size:=by simp only[SetTable.fits,aW,beq_iff_eq,decide_eq_true_eq] at fit;exact fit.1
  obtain rfl:i=0:=by omega
  refine ah (Sk hoS hdS fit hw h1 hl ?_)
  rw[show(hX ((if(0:Nat)=0 then 0 else t.place.getD 0 0+1:Nat):Int))=0 from rfl,(Vp hsz h1).1,bN hi,bN (by omega)]
  refine fin _ _ ?_ (.inr (.inr ⟨hw,h1,hl,?_,ex⟩))
  .rw[ex,au,bW,bN hi];rfl
  .simp[ie,dM,bN (show 0<t.place.size by omega)]
def bq3{Q:Option aj->aq->Prop}(hh:A.handled=none)(fit:t.fits es.size=true)(hxs:xs.length=es.size)(st:Yg w I S T es ep t xs es.size s.heap)(hQ:∀h',(∀b o,b≠I->s.heap.get? b=some o->h'.get? b=some o)->Q none {s with heap:=h'}) :
  ba (model prog w) A (j4 (.ref I)) Q E s:=by
 obtain⟨f,⟨o,ho,hc,hd⟩,⟨oS,hoS,hdS⟩,hf⟩:=st
 have ty:s.TypeIs (.ref I) "set_iterator" := ⟨o,ho,hc⟩
 unfold j4
 refine ah (lh (gM (name:=eA "__next__") ty sy_s_next (dX sy_s_next ty Oh ?_ (Og _))))
 unfold bI.«set_iterator.__next__»
 refine ah (ao ?_)
 refine ah (wpAny_fieldsOf ho hd ?_)
 dsimp only
 refine ah (iD hoS hdS fit ?_)
 rw[if_neg (by simp)]
 refine ah (ao ?_)
 have fin:∀h':Heap,(∀b o,b≠I->s.heap.get? b=some o->h'.get? b=some o)->ba (model prog w) A.in1 (do raiseNew (<- newExc (fM "StopIteration") [])) (λfin s'=>∃v,fin=Fin.done (Flow.ret v)/\ba (model prog w) A (pure (some v)) Q E s')
    (λe s'=>ba (model prog w) A (do if <- isInstance e (fM "StopIteration") then pure none else throw e) Q E s') {s with heap:=h'}:=by
  intro h' k
  refine ah ?_;simp only[newExc,newTuple]
  refine ah (cN ?_ (by size_fits));refine ah (m:=firstArgMember _ _) (mo (a:=b8) (by first|rfl|(simp only[firstArgMember];rfl)) ?_);refine cN ?_ (by size_fits)
  simp only[raiseNew];refine ah (wpAny_handled ?_);rw[show A.in1.handled=none from hh]
  refine ah (ao (wpAny_throw ?_));refine ah (wpAny_isInstance (T := "StopIteration") (b:=true) ⟨_,aL _ rfl,rfl⟩ isSubtype_stop ?_)
  exact ao (hQ _ λb o hb e=>ai _ (ai _ (k b o hb e)))
 have k1:∀{j:Nat}{g:aj} (b:Addr) (o:Obj),b≠I->s.heap.get? b=some o->(s.heap.update I (cK (·.setIfInBounds j g))).get? b=some o:=λb o hb e=>(cf _ _ (bx hb)).trans e
 rcases hf with⟨hw,rfl,ex⟩|⟨ps,rfl,⟨oT,c,hoT,hdT⟩,hps,hx⟩|⟨hw,h1,hl,rfl,ex⟩
 .dsimp only
  have e1:(fU (w.params.setOrder S ep) es).size=es.size:=by rw[ex,af,bn] at hxs;exact hxs
  refine ah (Sj hoS hdS fit hw ?_)
  rw[bB,jw (by omega)]
  refine ah (fz ho hd (by simp) ?_)
  exact fin _ k1
 .dsimp only
  refine ah (ar2 hoT hdT ?_)
  dsimp only
  rw[bB,jI,fE (by rw[af];omega)]
  refine ah (fz ho hd (by simp) ?_)
  have a:=cM (cK (·.setIfInBounds 0 (ie 0))) ho (ee (cv hd _))
  refine ah (fz (s:={s with heap:=_}) a (cv hd _) (by simp) ?_)
  exact fin _ λb o hb e=>(cf _ _ (bx hb)).trans (k1 b o hb e)
 .dsimp only
  have hsz:t.place.size=es.size:=by simp only[SetTable.fits,aW,beq_iff_eq,decide_eq_true_eq] at fit;exact fit.1
  refine ah (Sk hoS hdS fit hw h1 hl ?_)
  have e2:dH t.place (hX ((if es.size=0 then 0 else t.place.getD 0 0+1:Nat):Int))=es.size:=by
   rw[bB]
   by_cases e0:es.size=0
   .rw[if_pos e0,(Vp hsz h1).1,e0]
   .rw[if_neg e0,(Vp hsz h1).2]
  rw[e2,jw (ag _)]
  refine ah (fz ho hd (by simp) ?_)
  exact fin _ k1
def ar7(hh:A.handled=none)(fit:t.fits es.size=true)(hxs:xs.length=es.size)(hST:S≠I/\T≠I):lC prog w A I [I,S,T] [I] es.size (λi v=>xs[i]?=some v) (Yg w I S T es ep t xs) where
 sub:=λb hb=>by simp at hb;simp[hb]
 frame:=λi h h' ⟨f,⟨o,ho,r⟩,⟨oS,hoS,rS⟩,hf⟩ hk=>⟨f,⟨o,hk I (by simp) o ho,r⟩,⟨oS,hk S (by simp) oS hoS,rS⟩,hf.imp id (Or.imp (fun⟨ps,e,⟨oT,c,hT,rT⟩,r⟩=>⟨ps,e,⟨oT,c,hk T (by simp) oT hT,rT⟩,r⟩) id)⟩
 item:=λi s Q E hi st hQ=>a53 fit hxs hST hi st λv h' e st' k=>hQ v h' s.toks e st' λb o hb g=>k b o (λz=>hb (by simp[z])) g
 done:=λs Q E st hQ=>bq3 hh fit hxs st λh' k=>hQ h' s.toks λb o hb g=>k b o (λz=>hb (by simp[z])) g
 self:=λi s Q E ⟨f,⟨o,ho,hc,hd⟩,_⟩ hQ=>by
  have ty:s.TypeIs (.ref I) "set_iterator" := ⟨o,ho,hc⟩
  refine i_ ty Oi (dX Oi ty Zv ?_ (Zt _))
  show ba _ _ (ret (.ref I)) _ _ s
  exact ao ⟨_,rfl,"set_iterator", _,ty,sy_s_next.lookup,hQ⟩
def a54{κ:Type} [DecidableEq κ]{knd:KeyKind prog w κ}{Sf:κ->Bool}{n:Nat}{o:Obj}{Q:aj->aq->Prop}(q:SetQ knd s.heap S Sf n (!w.params.followText "set-order") o es ep t)(few:es.size<=sizeLine)(h:∀I T xs h' d,xs.Perm (es.toList.map (·.2))->s.heap.objs.size<=I->(T=S\/s.heap.objs.size<=T)->S≠I/\T≠I->(∀b o,s.heap.get? b=some o->h'.get? b=some o)->Yg w I S T es ep t xs 0 h'->Q (.ref I) {s with heap:=h',drawn:=d}) :
  ba (model prog w) A (ms (.ref S)) Q E s:=by
 have ty:s.TypeIs (.ref S) "set" := ⟨o,q.at_,q.ex.1⟩
 have lt:S<s.heap.objs.size:=aQ q.at_
 refine i_ ty F.slot_set_iter (dX F.slot_set_iter ty Zu ?_ (F.args_set_iter_1 _))
 unfold bI.«frozenset.__iter__»
 refine ah (ao ?_)
 refine ah ?_
 unfold Builtin.Frozenset.sizeOf
 refine ah (iD q.at_ q.dt q.fit (ao ?_))
 refine ah ?_
 unfold setDrawn
 refine ah (eO q.at_ q.dt q.fit ?_)
 dsimp only
 unfold lH
 refine ah (ah (fq (ao ?_)))
 refine ao ?_
 refine gN (λc=>?_) (λc=>?_)
 .have c2:(!w.params.followText "set-order" && (!t.plain&&decide (es.size > 1)))=true:=c
  simp only[aW] at c2
  refine ah (X5 es.size (bi es.size) s bX λps d hp=>?_)
  have hl:ps.length=es.size:=by rw[hp.length_eq,bX]
  refine ah (iS ?_ (by rw[af,hl];exact few))
  have e:∀c,(s.heap.push c).objs.size=s.heap.objs.size+1:=λc=>dF ..
  refine ah (wpAny_setEpoch_of (s:={s with heap:=_,drawn:=d}) (ai _ q.at_) q.dt q.fit ?_)
  refine ah (cN (ao ⟨_,rfl,"set_iterator", _,⟨_,aL _ rfl,rfl⟩,sy_s_next.lookup,?_⟩))
  refine h _ s.heap.objs.size (ps.map λp=>(es.getD p (0,b8)).2) _ d ?_ (by rw[e];exact cS _) (.inr (ag _)) ⟨by rw[e];exact aV (dL lt),by rw[e];exact aV (bS _)⟩ (λb o g=>ai _ (ai _ g)) ⟨_,⟨_,aL _ rfl,rfl,rfl⟩,⟨o,ai _ (ai _ q.at_),q.dt⟩,.inr (.inl ⟨ps,rfl,⟨_,0,ai _ (aL _ rfl),rfl⟩,hl,λi p hi=>?_⟩)⟩
  .refine (hp.map _).trans (List.Perm.of_eq ?_)
   refine List.ext_getElem (by simp) λi h1 h2=>?_
   have hi:i<es.size:=by simpa using h1
   simp[dM,bN hi]
  .have hm:p∈bi es.size:=hp.mem_iff.mp (aI hi)
   have hlt:p<es.size:=List.mem_range.mp hm
   refine⟨es[p],bN hlt,?_⟩
   rw[au,hi]
   simp[dM,bN hlt]
 .have c2:¬ (!w.params.followText "set-order" && (!t.plain&&decide (es.size > 1)))=true:=c
  refine ah (ao ?_)
  refine ah (wpAny_setEpoch_of q.at_ q.dt q.fit ?_)
  refine ah (cN (ao ⟨_,rfl,"set_iterator", _,⟨_,aL _ rfl,rfl⟩,sy_s_next.lookup,?_⟩))
  by_cases hw:w.params.followText "set-order"=true
  .refine h _ S ((fU (w.params.setOrder S ep) es).toList.map (·.2)) _ s.drawn ((ar1 _ _).map _) (ag _) (.inl rfl) ⟨aV lt,aV lt⟩ (λb o g=>ai _ g) ⟨_,⟨_,aL _ rfl,rfl,rfl⟩,⟨o,ai _ q.at_,q.dt⟩,.inl ⟨hw,rfl,rfl⟩⟩
  .have hw:w.params.followText "set-order"=false:=by simpa using hw
   have h1:es.size<=1:=by
    rw[hw] at c2
    refine Nat.le_of_not_lt λz=>c2 ?_
    have:t.plain=false:=by
     cases hp:t.plain with
     |false=>rfl
     |true=>have:=q.pl hp;omega
    simp[this,z]
   refine h _ S (es.toList.map (·.2)) _ s.drawn (.refl _) (ag _) (.inl rfl) ⟨aV lt,aV lt⟩ (λb o g=>ai _ g) ⟨_,⟨_,aL _ rfl,rfl,rfl⟩,⟨o,ai _ q.at_,q.dt⟩,.inr (.inr ⟨hw,h1,?_,rfl,rfl⟩)⟩
   rw[q.led,hw];rfl
def a52{Q:Bool->aq->Prop}(ty:s.TypeIs (.ref S) "set")(h:Q false s):ba (model prog w) A (iu (.ref S)) Q E s:=by
 unfold iu
 refine ah (wpAny_specialOf ty F.slot_set_len.lookup ?_)
 generalize hid:("set.__len__" : String)=id0
 wp_delta
 rw[show splitId id0=some ("set","__len__") from by subst hid;decide +kernel]
 subst hid
 refine ah (wpAny_isInstance (T := "set") (b:=true) ty (by rw[kE];kernel_rfl) ?_)
 refine gN (λc=>absurd c (by decide)) (λ_=>?_)
 refine gN (λ_=>?_) (λc=>absurd (by decide +kernel) c)
 exact ah (lR ty (ao h))
open PySem.W in
def Vo{κ:Type} [DecidableEq κ]{knd:KeyKind prog w κ}{Sf:κ->Bool}{n:Nat}{o:Obj}{Q:List aj->aq->Prop}(hh:A.handled=none)(q:SetQ knd s.heap S Sf n (!w.params.followText "set-order") o es ep t)(few:es.size<=sizeLine)(h:∀us h' tk d,us.Perm (es.toList.map (·.2))->(∀b o,s.heap.get? b=some o->h'.get? b=some o)->s.heap.objs.size<=h'.objs.size->s.toks<=tk->Q us {s with heap:=h',toks:=tk,drawn:=d}):ba (model prog w) A (kO (.ref S)) Q E s:=by
 have lt:S<s.heap.objs.size:=aQ q.at_
 unfold kO
 refine ah (kF (cH ky ?_))
 show ba _ _ (do again (.builtin "list.__iadd__" ⟨[<- newList [],.ref S],[]⟩)) _ _ s
 refine ah (fh (ao ⟨iK _ (by decide +kernel),cH entry_list_iadd' ?_⟩))
 show ba _ _ (ir (.ref s.heap.objs.size) (.ref S) (.ref s.heap.objs.size)) _ _ {s with heap:=s.heap.push (bu "list" #[] 0)}
 rw[cE jg _]
 have e0:(s.heap.push (bu "list" #[] 0)).objs.size=s.heap.objs.size+1:=dF ..
 have hL:(s.heap.push (bu "list" #[] 0)).get? s.heap.objs.size=some (bu "list" #[] 0):=aL _ rfl
 have q1:SetQ knd (s.heap.push (bu "list" #[] 0)) S Sf n (!w.params.followText "set-order") o es ep t:={q with at_:=ai _ q.at_}
 unfold ir
 refine ah (lR (T := "set") ⟨o,q1.at_,q.ex.1⟩ ?_)
 have h1:iV (.ref s.heap.objs.size) (.ref S)=false:=by simp[iV];exact dG lt
 simp only[h1,show(fM "set" == fM "list")=false from by decide,show(fM "set" == fM "tuple")=false from by decide,Bool.or_false,cO,if_false]
 refine ah (a54 (s:={s with heap:=s.heap.push (bu "list" #[] 0)}) q1 few λI T xs h' d hp hI hT hST k st=>?_)
 have hxs:xs.length=es.size:=by rw[hp.length_eq,af,bn]
 have hI2:s.heap.objs.size+1<=I:=e0▸hI
 have out:s.heap.objs.size∉[I,S,T]:=by
  simp only[aG,cD,or_false,not_or]
  refine⟨aV hI2,dG lt,?_⟩
  rcases hT with rfl|hT
  .exact dG lt
  .have hT2:s.heap.objs.size+1<=T:=e0▸hT
   exact aV hT2
 have fit:=q.fit
 have W:=ar7 (prog:=prog) (w:=w) (A:=A.in1) (I:=I) (S:=S) (T:=T) (ep:=ep) (t:=t) (hh) fit hxs hST
 have hS1:h'.get? s.heap.objs.size=some (bu "list" #[] 0):=k _ _ hL
 have key:∀(h2:Heap)(c tk:Nat),s.toks<=tk->Yg w I S T es ep t xs 0 h2->(∀b o,b≠s.heap.objs.size->s.heap.get? b=some o->h2.get? b=some o)->h2.get? s.heap.objs.size=some (bu "list" #[] c) ->
   ic (model prog w) A (.builtin "list.extend.loop" ⟨[.ref s.heap.objs.size,.ref I,.ref s.heap.objs.size],[]⟩) (wants (λv s'=>ba (model prog w) A (do
    let .ref a:=v|unsupported "internal:collect"
    match (<- load a).data with
    |.seq xs _=>pure xs.toList
    |_=>unsupported "internal:collect") Q E s') E) {s with heap:=h2,toks:=tk,drawn:=d}:=by
  intro h2 c tk htk st2 k2 hS2
  refine codeAny_extend_loopS W.toS (by exact few) _ out _ es.size 0 _ #[] c rfl (bo _) st2 hS2 (ItemsOf.nil _) λs' acc' c' hm hS' hacc=>?_
  refine(show ba (model prog w) A (do
    let o <- load s.heap.objs.size
    match o.data with
    |.seq xs _=>pure xs.toList
    |_=>unsupported "internal:collect") Q E s' from ?_)
  refine ah (lI hS' (ao ?_))
  rw[Moved.eq_with hm]
  refine h acc'.toList s'.heap s'.toks d ?_ (λb o e=>hm.heap b o (λhmem=>?_) (k2 b o (aV (aQ e)) e)) ?_ (aF htk hm.toks)
  .have e:acc'.toList=xs:=List.ext_getElem (by rw[bn,hacc.1,hxs]) λi h1 h2=>by
    have g:xs[i]?=some acc'.toList[i]:=hacc.2 i _ (show acc'[i]?=some acc'.toList[i] from by rw[<- bW];exact am h1)
    rw[am h2] at g
    exact(bt g).symm
   rw[e];exact hp
  .have hb:=aQ e
   rcases List.mem_cons.mp hmem with z|z
   .exact absurd z (aV hb)
   .rw[List.mem_singleton.mp z] at hb
    exact d_ _ (h7 hb (aH (bS _) hI2))
  .exact d9 (aQ hS')
 refine ah (bQ (a52 (s:={s with heap:=h',drawn:=d}) ⟨o,k _ _ q1.at_,q.ex.1⟩ ?_))
 refine gN (λ_=>?_) (λ_=>ao ⟨ff iP _,key _ 0 _ (ag _) st (λb o _ e=>k b o (ai _ e)) hS1⟩)
 refine ah (lJ ?_);refine ah ?_
 show ba _ _ (mh s.heap.objs.size (·.push .none) >>= λ_=>mh s.heap.objs.size (·.pop)) _ _ {s with heap:=h',drawn:=d}
 refine ah (gP (s:={s with heap:=h',drawn:=d}) hS1 rfl ?_)
 have hS2:=cM (bv (·.push b8)) hS1 rfl
 refine gP (s:={s with heap:=_,drawn:=d}) (hz:=by seq_fits) hS2 rfl ?_
 have hS3:=cM (bv (·.pop)) hS2 rfl
 have oth:∀b o,b≠s.heap.objs.size->h'.get? b=some o->((h'.update s.heap.objs.size (bv (·.push b8))).update s.heap.objs.size (bv (·.pop))).get? b=some o:=λb o hb e=>(cf _ _ (bx hb)).trans ((cf _ _ (bx hb)).trans e)
 exact ao ⟨ff iP _,key _ _ _ (ag _) (W.frame 0 _ _ st λb hb o e=>oth b o (λz=>out (z▸hb)) e) (λb o hb e=>oth b o hb (k b o (ai _ e))) hS3⟩
end
end PySem
namespace L2
open PySem PySem.Spec PyProof.Rows
def E6(xs:List Str):(Dl xs).Nodup:=by
 suffices h:∀(xs σ:List Str),σ.Nodup->(xs.foldl (λσ k=>if σ.any (λj=>decide (j=k)) then σ else σ++[k]) σ).Nodup from h xs [] eE
 intro xs
 induction xs with
 |nil=>exact λσ h=>h
 |cons x xs ih=>
  intro σ h
  refine ih _ ?_
  dsimp only
  split
  .exact h
  .rename_i c
   refine List.nodup_append.mpr ⟨h,by simp,λa ha b hb=>?_⟩
   rw[List.mem_singleton.mp hb]
   intro e
   exact c (List.any_eq_true.mpr ⟨a,ha,decide_eq_true e⟩)
theorem Xf:∀{l m:List Str},l.Nodup->(∀x∈l,x∈m)->m.length=l.length->m.Perm l
 |[],m,_,_,h=>by rw[cJ h]
 | x::l,m,nd,sub,h=>by
  have hx:=sub x aY
  have nd2:=List.nodup_cons.mp nd
  refine(List.perm_cons_erase hx).trans ((Xf nd2.2 (λy hy=>(kh (show y≠x from λe=>nd2.1 (e▸hy))).mpr (sub y (aK _ hy))) ?_).cons x)
  rw[i3 hx,h];rfl
def ao6{X:Cx}{ξ:List (Addr×Obj)}{s:aq}{σ:St}{H:Hp}{Q:VK}{u:aj}{zs:List Str}(I:Inv X ξ σ H s)(nd:zs.Nodup)(h64:zs.length<64)(hc:∀R:List aj->aq->Prop,(∀(us:List aj)(ys:List Str)(h':Heap)(tk:Nat)(d:Drawn),ys.Perm zs->(∀b o,s.heap.get? b=some o->h'.get? b=some o)->s.heap.objs.size<=h'.objs.size->s.toks<=tk->Vals (ys.map V.str) us->R us {s with heap:=h',toks:=tk,drawn:=d})->ba (model X.prog X.w) X.A.in1 (kO u) R (λ_ _=>False) s)(q:∀D,H D=none->Q (.ref D) (upd H D (.lst ((An ltS zs).map V.str)))):ba (model X.prog X.w) X.A (call (.builtin "sorted") [u]) (EP X ξ σ Q) X.xe s:=by
 refine PySem.W.so_sortedG (OKQ:=λus s'=>∃(ys:List Str)(h':Heap)(tk:Nat)(d:Drawn),s'={s with heap:=h',toks:=tk,drawn:=d}/\ys.Perm zs/\(∀b o,s.heap.get? b=some o->h'.get? b=some o)/\s.heap.objs.size<=h'.objs.size/\s.toks<=tk/\Vals (ys.map V.str) us) (λR hR=>hc R λus ys h' tk d p k z e r=>hR us _ ⟨ys,h',tk,d,rfl,p,k,z,e,r⟩) λus s' ⟨ys,h',tk,d,e,perm,keep,hD,htk,rv⟩=>?_
 subst e
 have I1:Inv X ξ σ H {s with drawn:=d}:={I with}
 have nd2:ys.Nodup:=perm.nodup_iff.mpr nd
 have same:An ltS ys=An ltS zs:=D0 ((Cv nd2).of (λa ha=>(Al _ _).mem_iff.mp ha) ((Al _ _).nodup_iff.mpr nd2)) ((Al _ _).trans (perm.trans (Al _ _).symm)) (Bq (Cv nd2)) (Bq (Cv nd))
 have hyz:=perm.length_eq
 rw[<- same] at q
 have hl:us.length=ys.length:=by have:=rv.length;simpa using this.symm
 have fin:∀{h3} {D} {out} {c},h'.objs.size<=D->(∀b o,h'.get? b=some o->h3.get? b=some o)->Vals ((An ltS ys).map V.str) out->h3.get? D=some (bu "list" out.toArray c)->EP X ξ σ Q (.ref D) {s with heap:=h3,toks:=tk,drawn:=d}:=λ{h3 D out c} hD2 k r g=>
  ⟨.ref D,_,I1.laid (λb o e=>k b o (keep b o e)) (aF hD hD2) (o:=.lst ((An ltS ys).map V.str)) ⟨by rw[af,(Al ltS ys).length_eq,bM];omega,out,c,r,g⟩,rfl,q _ (I.hok.fresh (aF hD hD2))⟩
 refine⟨by omega,λh2 h2' c g k=>fin (ag _) k (by rw[Kp (by omega)];exact rv) g,λh2 D e1 h2' hD2 gD k=>?_⟩
 refine PySem.W.kas_kind (T:=.type "str") h2 (λv hv=>?_) rfl rfl (L0 bU (Cv nd2) rv h2 (λi j C hi hj hC=>?_) λp ro=>⟨gD,λh3 c g sb=>fin hD2 (λb o e=>(sb.2 b (aV (aH (aQ e) hD2))).trans (k b o e)) ro g⟩)
 .obtain⟨i,hi,rfl⟩:=eW hv
  obtain⟨t,e⟩:=Ml bU rv (i:=i) (by omega)
  rw[aS,am hi] at e
  rw[show us[i]=_ from e]
  exact .now
 .unfold gK
  obtain⟨t1,e1⟩:=Ml bU rv hi
  obtain⟨t2,e2⟩:=Ml bU rv hj
  rw[e1,e2]
  exact kY hC
def aq7:aj->Str
 |.str k _=>k
 |_=>bU
section
variable {X:Cx}
def Ik(K:ae):V->Hp->VK->Prop:=λx H Q=>match x with
 |.ref l=>∃ys:List Str,SqL K H l (ys.map V.str)/\ys.length<30/\∀D,H D=none->Q (.ref D) (upd H D (.lst ((An ltS (Dl ys)).map V.str)))
 |_=>False
def ao7{ξ:List (Addr×Obj)}{σ:St}{H:Hp}{s:aq}{x:V}{u:aj}{Q:VK}(hc:X.calm=true)(I:Inv X ξ σ H s)(rx:RelV x u)(h:Ik X.K x H Q) :
  ba (model X.prog X.w) X.A (call (.type "set") [u]) (λv s1=>ba (model X.prog X.w) X.A (call (.builtin "sorted") [v]) (EP X ξ σ Q) X.xe s1) X.xe s:=by
 cases x with
 |ref l=>
  cases rx
  obtain⟨ys,hq,few,q⟩:=h
  obtain⟨χ,rv,pl,hz⟩:=I.list hq
  have hl:χ.length=ys.length:=by rw[<- rv.length,af]
  have hm:=Rb ys
  refine bD (ag _) (Vn (knd:=PySem.strKind X.prog X.w) (ks:=ys) (I.ok.hd hc) pl.isList (λi v e=>?_) (by simpa using hl) (by unfold scanBound;omega) λh' tk fl kept htk=>?_)
  .obtain⟨k,t,ek,rfl⟩:=X3 rv (by simpa using e)
   exact⟨k,ek,by show jk k (.str k t)=true;simp[jk],rfl,rfl⟩
  .have I1:Inv X ξ σ H {s with heap:=h',toks:=tk}:=I.kept (t':=tk) λb o e=>kept b o (aQ e) e
   obtain⟨o,es,ep,t,sq⟩:=fl
   refine ao6 I1 (E6 ys) (by omega) (λR hR=>?_) q
   refine Vo (s:={s with heap:=h',toks:=tk}) (by simp[I.ok.hd hc]) sq (by rw[sq.sz,bM];omega) λus h2 tk2 d perm k2 z2 ht2=>?_
   have texts:∀v∈es.toList.map (·.2),∃t,v=.str (aq7 v) t:=λv hv=>by
    obtain⟨e,he,rfl⟩:=List.mem_map.mp hv
    obtain⟨⟨k,hk,_⟩,_⟩:=sq.el e he
    obtain⟨t,e2⟩:=ga (x:=k) hk
    exact⟨t,by rw[e2];rfl⟩
   refine hR us (us.map aq7) h2 tk2 d ((perm.map aq7).trans (Xf (E6 ys) (λx hx=>?_) (by rw[af,af,bn];exact sq.sz))) k2 z2 ht2 (Qo (by rw[af,af]) λi a b ha hb=>?_)
   .obtain⟨e,he,hk⟩:=(sq.mem x).mp (List.any_eq_true.mpr ⟨x,hx,decide_eq_true rfl⟩)
    obtain⟨t,e2⟩:=ga (x:=x) hk
    exact List.mem_map.mpr ⟨e.2,List.mem_map.mpr ⟨e,he,rfl⟩,by rw[e2];rfl⟩
   .rw[cF,au,hb] at ha
    cases ha
    obtain⟨t,e⟩:=texts b (perm.mem_iff.mp (aI hb))
    exact⟨t,e⟩
 |_=>exact(show False from h).elim
end
end L2
namespace PySem.W
open PySem PySem.Calls PyProof.Rows
section
variable {prog:a7}{w:bL}{A:bJ}{E:aj->aq->Prop}{s:aq}{vs:List aj}
def SkFin(a b:Addr)(e e1:Nat)(ks out:List aj)(C:aq->Prop)(s:aq):Prop:=
 s.heap.get? a=some (bu "list" #[] e1)/\s.heap.get? b=some (bu "list" ks.toArray e)/\∀h' c,h'.get? a=some (bu "list" (eQ out) c)->(∀d,d≠a->d≠b->h'.get? d=s.heap.get? d)->C {s with heap:=h'}
def Xx{a kS:Addr}{ks:List aj}{st:SortSt}{e e1:Nat}{out:List aj}{P:l9->aq->Prop}(hne:a≠kS)(har:iT (λx=>x.snd) (arrOf st)=out.toArray)(h64:out.length<64)(k64:ks.length<64)(hf:failedOf st=none)(h:SkFin a kS e e1 ks out (λs'=>P (.done (.ret .none)) s') s):ba (model prog w) A (ksk_tail a false e1 (.ref kS) st) P E s:=by
 obtain⟨ha,hk,q⟩:=h
 unfold ksk_tail
 rw[har,hf]
 have s1:=b5 s.heap kS (bv λ_=>(#[]:Array aj))
 have ha1:=(s1.2 a hne).trans ha
 refine ah (fe hk rfl ?_ (by rw[aB,bM];omega) (bo _))
 refine ah (jq ?_)
 refine ah (iB ha1 rfl ?_)
 refine ah (fe ha1 rfl ?_ (bo _) (by simp only[cO,if_false];rw[aB,bM];omega))
 simp only[bne_self_eq_false,cO,if_false]
 have s2:=b5 (s.heap.update kS (bv λ_=>(#[]:Array aj))) a (bv λ_=>out.toArray)
 obtain⟨c2,hc2⟩:∃c2,((s.heap.update kS (bv λ_=>(#[]:Array aj))).update a (bv λ_=>out.toArray)).get? a=some (bu "list" out.toArray c2):=⟨_,du ha1 λ_=>_⟩
 exact ao (q _ c2 hc2 λd d1 d2=>(s2.2 d d1).trans (s1.2 d d2))
def a48{n:Nat}{a:Addr}{f:aj}{P:l9->aq->Prop}(ho:s.heap.get? a=some (bu "list" vs.toArray n))(h64:vs.length<64)(h:∀e1 kS h',s.heap.objs.size<=kS->h'.get? a=some (bu "list" #[] e1)->h'.get? kS=some (bu "list" #[] 0)->(∀b o,b≠a->s.heap.get? b=some o->h'.get? b=some o) ->
   ∃G:List aj->aq->Prop,(∀e,h'.get? kS=some (bu "list" #[] e)->G [] {s with heap:=h'}) /\
    (∀(j:Nat) x ks e s',vs[j]?=some x->ks.length=j->s'.heap.get? kS=some (bu "list" ks.toArray e)->G ks s'->ba (model prog w) A (call f [x]) (λk s''=>s''.heap.get? kS=some (bu "list" ks.toArray e)/\∀h2 c,h2.get? kS=some (bu "list" (ks++[k]).toArray c)->bT kS s''.heap h2->G (ks++[k]) {s'' with heap:=h2}) (λ_ _=>False) s') /\
    (∀ks e s',ks.length=vs.length->s'.heap.get? kS=some (bu "list" ks.toArray e)->G ks s'->(vs.length<2->SkFin a kS e e1 ks vs (λs3=>P (.done (.ret .none)) s3) s')/\(2<=vs.length ->
     ba (model prog w) A (j7 ks.toArray) (λκ s''=>(kas_sort vs.length).kasWp (kas_ask prog w A κ ks) (λp s3=>SkFin a kS e e1 ks (p.toList.map λi=>vs.getD i b8) (λs4=>P (.done (.ret .none)) s4) s3) s'') (λ_ _=>False) s'))) :
  ba (model prog w) A (ksk_tree a f false) P E s:=by
 have ha:=aQ ho
 have s1:=b5 s.heap a (bv λ_=>(#[]:Array aj))
 obtain⟨e1,ho1⟩:∃e1,(s.heap.update a (bv λ_=>(#[]:Array aj))).get? a=some (bu "list" #[] e1):=⟨_,du ho λ_=>#[]⟩
 have hsz:((s.heap.update a (bv λ_=>(#[]:Array aj))).push (bu "tuple" vs.toArray 0)).objs.size=s.heap.objs.size+1:=by rw[j9,Heap.size_update]
 refine ah (j0 ho rfl ?_)
 refine ah (fe ho rfl ?_ (by rw[aB,bM];omega) (bo _))
 refine ah (iB ho1 rfl ?_)
 refine ah (iS ?_ (by show vs.length<=_;rw[bM];omega))
 refine ah (fh ?_ (bo _))
 refine bQ ?_
 have hk0:(((s.heap.update a (bv λ_=>(#[]:Array aj))).push (bu "tuple" vs.toArray 0)).push (bu "list" #[] 0)).get? (((s.heap.update a (bv λ_=>(#[]:Array aj))).push (bu "tuple" vs.toArray 0)).objs.size)=some (bu "list" #[] 0):=aL _ rfl
 have ha0:(((s.heap.update a (bv λ_=>(#[]:Array aj))).push (bu "tuple" vs.toArray 0)).push (bu "list" #[] 0)).get? a=some (bu "list" #[] e1):=ai _ (ai _ ho1)
 obtain⟨G,g0,gs,gf⟩:=h e1 _ _ (by rw[hsz];exact cS _) ha0 hk0 (λb o nb e=>ai _ (ai _ ((s1.2 b nb).trans e)))
 have hne:a≠((s.heap.update a (bv λ_=>(#[]:Array aj))).push (bu "tuple" vs.toArray 0)).objs.size:=by rw[hsz];exact aV (dL ha)
 have gz:=g0 0 hk0
 generalize ((s.heap.update a (bv λ_=>(#[]:Array aj))).push (bu "tuple" vs.toArray 0)).objs.size=kS at *
 generalize ((s.heap.update a (bv λ_=>(#[]:Array aj))).push (bu "tuple" vs.toArray 0)).push (bu "list" #[] 0)=h' at *
 refine ah (lJ ?_)
 rw[<- Array.forIn_toList]
 refine ah (ksk_fold (λj s'=>∃ks e,ks.length=j/\s'.heap.get? kS=some (bu "list" ks.toArray e)/\G ks s') vs 0 _ ⟨[],0,rfl,hk0,gz⟩ (λj x s' hx ⟨ks,e,hl,hk,hg⟩=>?_) λs' ⟨ks,e,hl,hk,hg⟩=>?_)
 .rw[iM] at hl
  have hj:=(List.getElem?_eq_some_iff.mp hx).1
  refine ah (lh (b9 (gs j x ks e s' hx hl hk hg) (λk s'' hq=>?_) λ_ _ z=>z.elim))
  obtain⟨hk2,hq⟩:=hq
  refine ah (fe hk2 rfl ?_ (by rw[aB,bM];omega) (by rw[Array.size_push,aB,bM];omega))
  have e3:(ks.toArray.push k)=(ks++[k]).toArray:=by simp
  obtain⟨c,hc⟩:∃c,(s''.heap.update kS (bv λx=>x.push k)).get? kS=some (bu "list" (ks++[k]).toArray c):=⟨_,by rw[<- e3];exact du hk2 λx=>x.push k⟩
  exact ao ⟨rfl,ks++[k],c,by rw[ak,hl,iM];rfl,hc,hq _ c hc (b5 _ _ _)⟩
 .rw[iM] at hl
  obtain⟨q1,q2⟩:=gf ks e s' hl hk hg
  refine ah (j0 hk rfl ?_)
  unfold ksk_end
  simp only[cO,if_false]
  by_cases h2:vs.toArray.size<2
  .rw[if_pos h2,if_pos h2]
   refine ah (ao ?_)
   rw[StateT.run_pure]
   refine ah (ao ?_)
   refine Xx hne ?_ h64 (by omega) rfl (q1 (by simpa using h2))
   show iT (λx:Keyed=>x.snd) (ks.toArray.zip vs.toArray)=vs.toArray
   apply Array.ext'
   simp only[Array.toList_map,Array.toList_zip]
   exact List.map_snd_zip (by omega)
  .have h2':2<=vs.length:=by rw[aB] at h2;omega
   rw[if_neg h2,if_neg h2]
   refine ah (b9 (q2 h2') (λκ s0 hk0=>?_) λ_ _ x=>x.elim)
   refine ah (b9 (kat_run (Q:=λst' s'=>∃p:Array Nat,p.size=vs.length/\arrOf st'=p.map (kas_item (ks.toArray.zip vs.toArray))/\failedOf st'=none/\SkFin a kS e e1 ks (p.toList.map λi=>vs.getD i b8) (λs''=>P (.done (.ret .none)) s'') s')
    hl h2' h64 (λp' st' s' a1 a2 a3 a4=>⟨p',a1,a2,a3,a4⟩) hk0) ?_ λ_ _ e=>e)
   rintro⟨⟨⟩,st'⟩ s' ⟨p,hp,har,hf,hq⟩
   exact Xx hne (kat_snds hl har) (by rw[af,bn,hp];exact h64) (by omega) hf hq
def sk_sorted{x:aj}{b:Addr}{OKQ:List aj->Heap->Nat->Prop}{Q:aj->aq->Prop}(hc:∀R:List aj->aq->Prop,(∀us h' tk,OKQ us h' tk->R us {s with heap:=h',toks:=tk})->ba (model prog w) A.in1 (kO x) R (λ_ _=>False) s)(h:∀us h' tk,OKQ us h' tk->us.length<64/\∀D e1 kS h2,h'.objs.size<=D->D<kS->h2.get? D=some (bu "list" #[] e1)->h2.get? kS=some (bu "list" #[] 0)->(∀b o,h'.get? b=some o->h2.get? b=some o) ->
   ∃G:List aj->aq->Prop,G [] {s with heap:=h2,toks:=tk} /\
    (∀(j:Nat) x ks e s',us[j]?=some x->ks.length=j->s'.heap.get? kS=some (bu "list" ks.toArray e)->G ks s'->ba (model prog w) A.in1.in1 (call (.ref b) [x]) (λk s''=>s''.heap.get? kS=some (bu "list" ks.toArray e)/\∀h2 c,h2.get? kS=some (bu "list" (ks++[k]).toArray c)->bT kS s''.heap h2->G (ks++[k]) {s'' with heap:=h2}) (λ_ _=>False) s') /\
    (∀ks e s',ks.length=us.length->s'.heap.get? kS=some (bu "list" ks.toArray e)->G ks s'->(us.length<2->SkFin D kS e e1 ks us (λs3=>Q (.ref D) s3) s')/\(2<=us.length ->
     ba (model prog w) A.in1.in1 (j7 ks.toArray) (λκ s''=>(kas_sort us.length).kasWp (kas_ask prog w A.in1.in1 κ ks) (λp s3=>SkFin D kS e e1 ks (p.toList.map λi=>us.getD i b8) (λs4=>Q (.ref D) s4) s3) s'') (λ_ _=>False) s'))) :
  ba (model prog w) A (call (.builtin "sorted") [x] [("key", .ref b)]) Q E s:=by
 refine call_function_entry_kw kind_sorted plain_sorted entry_sorted (ksk_s1 _ _) ?_
 refine ah (ao ?_)
 refine ah (b9 (hc _ λus h' tk ok=>?_) (λ_ _ z=>z) λ_ _ z=>z.elim)
 obtain⟨h64,hb⟩:=h us h' tk ok
 refine ah (fh ?_ (by rw[bM];omega))
 have hoL:(h'.push (bu "list" us.toArray 0)).get? h'.objs.size=some (bu "list" us.toArray 0):=aL _ rfl
 refine ah (bQ (wpAny_call_entry_kw slot_list_sort ⟨_,hoL,rfl⟩ entry_list_sort ?body (ksk_l1 _ _)))
 case body=>
  rw[ksk_t1]
  refine a48 hoL h64 λe1 kS h2 hk g gk k=>?_
  have hk2:h'.objs.size<kS:=by
   have hk:(h'.push (bu "list" us.toArray 0)).objs.size<=kS:=hk
   rw[j9] at hk;omega
  obtain⟨G,g0,gs,gf⟩:=hb h'.objs.size e1 kS h2 (ag _) hk2 g gk λb o q=>k b o (aV (aQ q)) (ai _ q)
  refine⟨G,λ_ _=>g0,gs,λks e s' hl hk hg=>?_⟩
  obtain⟨q1,q2⟩:=gf ks e s' hl hk hg
  refine⟨λh2=>?_,λh2=>b9 (q2 h2) (λκ s'' hk=>?_) λ_ _ x=>x⟩
  .obtain⟨r1,r2,r3⟩:=q1 h2
   exact⟨r1,r2,λh' c x y=>⟨_,rfl,ao ⟨_,rfl,r3 h' c x y⟩⟩⟩
  .rw[kat_ask_eq hl] at hk ⊢
   exact kas_wp_mono hk λp s3 ⟨r1,r2,r3⟩=>⟨r1,r2,λh' c x y=>⟨_,rfl,ao ⟨_,rfl,r3 h' c x y⟩⟩⟩
end
end PySem.W
namespace L2
open PySem PySem.Spec PyProof.Rows
def ltK(kf:Str->Int)(a b:Str):Bool:=if kf a=kf b then ltS a b else decide (kf a<kf b)
def Kj{kf:Str->Int}{zs:List Str}(nd:zs.Nodup):OrdL (ltK kf) zs where
 tot:=λa ha b hb n=>by
  unfold ltK
  by_cases h:kf a=kf b
  .rw[if_pos h,if_pos h.symm];exact(Cv nd).tot a ha b hb n
  .rw[if_neg h,if_neg (bx h)]
   by_cases c:kf a<kf b
   .rw[decide_eq_true c,decide_eq_false (by omega)];rfl
   .rw[decide_eq_false c,decide_eq_true (by omega)];rfl
 tr:=λa ha b hb c hc h1 h2=>by
  unfold ltK at *
  by_cases e1:kf a=kf b
  .rw[if_pos e1] at h1
   by_cases e2:kf b=kf c
   .rw[if_pos e2] at h2
    rw[if_pos (e1.trans e2)]
    exact(Cv nd).tr a ha b hb c hc h1 h2
   .rw[if_neg e2] at h2
    rw[e1,if_neg e2]
    exact h2
  .rw[if_neg e1] at h1
   have h1:=of_decide_eq_true h1
   by_cases e2:kf b=kf c
   .rw[<- e2,if_neg e1]
    exact decide_eq_true h1
   .rw[if_neg e2] at h2
    have h2:=of_decide_eq_true h2
    rw[if_neg (by omega)]
    exact decide_eq_true (by omega)
 nd:=nd
section
variable {X:Cx}{ξ:List (Addr×Obj)}{σ:St}{H:Hp}{s:aq}
def Inv.adopt{a d:Addr}{o:HO}{h':Heap}(I:Inv X ξ σ H s)(fa:Ek X ξ H a)(fd:Ek X ξ H d)(k:∀b u,b≠a->b≠d->s.heap.get? b=some u->h'.get? b=some u)(new:ObjOk X.prog X.w (upd H a o) h' a o):Inv X ξ σ (upd H a o) {s with heap:=h'}:=by
 have nit:∀b u,H b=some u->b≠a/\b≠d:=λb u e=>⟨A2 e fa.1,A2 e fd.1⟩
 have nc:∀{b},b∉[a,d]->b≠a/\b≠d:=λh=>by simpa using h
 refine I.step (λb hb=>?_) (λb u _ _ hc e _=>k b u (nc hc).1 (nc hc).2 e) (λb u _ _ hc e _=>⟨u.slots,k b u (nc hc).1 (nc hc).2 e⟩) (λb u hc e n=>by rw[Ah (nc hc).1];exact n)
  (λb u hc e=>⟨u,k b u (nc hc).1 (nc hc).2 e⟩) (λb xs q=>by rw[Ah (nit b _ q).1];exact q) (λb u v q=>by rw[Ah (nit b _ q).1];exact q) (λb ps q=>⟨#[],by rw[Ah (nit b _ q).1,q];simp⟩) (λm hm=>?_) (λb u e=>?_) I.bare
 .rcases List.mem_cons.mp hb with rfl|hb
  .exact⟨fa.2.2.2.1,fa.2.1,fa.2.2.2.2.1,fa.2.2.2.2.2⟩
  .have e:b=d:=by simpa using hb
   subst e
   exact⟨fd.2.2.2.1,fd.2.1,fd.2.2.2.2.1,fd.2.2.2.2.2⟩
 .obtain⟨u,es,ep,ho,r⟩:=hm
  exact⟨u,es,ep,k _ u (bx fa.2.1) (bx fd.2.1) ho,r⟩
 .by_cases hb:b=a
  .subst hb;rw[Ab] at e;cases e;exact new
  .rw[Ah hb] at e
   refine(I.hok b u e).stay (λc v hc q=>?_) (λc q=>by rw[Ah (nit c _ q).1];exact q) λc xs q=>by rw[Ah (nit c _ q).1];exact q
   rcases hc with z|z
   .rw[z] at q ⊢;exact k _ v (nit b u e).1 (nit b u e).2 q
   .exact k c v (nit c _ z).1 (nit c _ z).2 q
def Yw{A:bJ}{E:aj->aq->Prop}{m:Str}{g a C dx:Addr}{fs:List (Str×V)}{expr:Bool}{Q:aj->aq->Prop}(I:Inv X ξ σ H s)(e:H a=some (.ins C dx fs))(c:Cls X.K C)(k:Mi X.K C m g)(sg:eJ X.K (.ref g) "__get__"=some (some (.builtin "function.__get__")))(tk:fH X.K (.ref g)=some false)(cn:PySem.W.copiedNames.contains m=false)(l:fs.lookup m=none)(h:∀s',s'.heap.get? s.heap.objs.size=some (i8 (.ref g) (.ref a))->s.heap.objs.size<s'.heap.objs.size->Inv X ξ σ H s'->Q (.ref s.heap.objs.size) s'):ba (model X.prog X.w) A (mE (.ref a) m expr) Q E s:=by
 obtain⟨mA,O,r,_,_,_⟩:=Kh I.hok e
 have hn:=RelO.none_of (by rw[<- l];exact r m)
 obtain⟨od,J,hl⟩:=O.look
 exact PySem.W.get_bind I.kIn J (e_ (c.get m)).1 (PySem.W.findObj_fn c.hd k.at_ sg tk cn (by rw[hl,hn])) (e_ (c.get m)).2 (il (PySem.W.fn_get (s:={s with toks:=s.toks+1}) I.kIn (beq_iff_eq.mp k.fn) (PySem.W.handed_on rfl (h _ (aL _ rfl) (by show _<(s.heap.push _).objs.size;rw[j9];exact bS _) (I.kept (t':=s.toks+1) λb o e=>ai _ e)))))
def a42{m:Str}{mi:MI}(K:bb8 X m mi){bm a:Addr}{u:aj}{z:Str}{Q:VK}(I:Inv X ξ σ H s)(hb:s.heap.get? bm=some (i8 (.ref mi.i.f) (.ref a)))(ru:RelV (.str z) u)(h:mi.i.sp [.ref a,.str z] H Q (λv _ _=>∃a,v=dE a/\False)) :
  ba (model X.prog X.w) X.A.in1.in1 (call (.ref bm) [u]) (EP X ξ σ Q) (λ_ _=>False) s:=by
 have FO:=K.fi.ok
 have r2:Vals [.ref a,.str z] [dE a,u]:=.cons rfl (.cons ru .nil)
 have hl:=FO.len _ _ _ _ h
 have hd:=K.fi.binds mi.i.dfs.length (ag _)
 rw[c6 (by rw[K.fi.vals.length];exact ag _)] at hd
 have hb2:=hd s [dE a,u] I.kIn hl
 rw[bG] at hb2
 refine il (ks_codeAny_call_bound hb (fJ (FO.run X.A.in1.in1 X.stack s H ⟨[dE a,u],[]⟩ [dE a,u] _ Q _ K.room.in1.in1 I.env0.in1.in1 hb2 r2 h) λr s' hq=>?_))
 cases r with
 |error e=>exact hq.elim
 |ok fl=>
  cases fl with
  |ret u=>exact I.after hq
  |next=>exact cA hq
  |brk=>exact cA hq
  |cont=>exact cA hq
def av3{α:Type}(KR:α->V->Hp->Prop)(H:Hp)(zs:List α)(ks:List aj):Prop:=∀(i:Nat) k z,ks[i]?=some k->zs[i]?=some z -> ∃w,RelV w k/\KR z w H
def be6(kf:Str->Int)(z:Str)(w:V)(H:Hp):Prop:=∃q,w=.ref q/\H q=some (.tup [.int (kf z),.str z])
theorem Q4(I:Inv X ξ σ H s){kf:Str->Int}:∀{zs} {ks},ks.length=zs.length->av3 (be6 kf) H zs ks -> ∃fs,fG s.heap ks fs/\fs.length=zs.length/\∀v∈fs,∃i t,v=.int i t
 |[],[],_,_=>⟨[],kL,rfl,λv hv=>by cases hv⟩
 |[],_::_,h,_=>by simp at h
 |_::_,[],h,_=>by simp at h
 | z::zs,k::ks,h,ka=>by
  obtain⟨fs,kt,hl,hi⟩:=Q4 I (by simpa using h) λi k' z' h1 h2=>ka (i+1) k' z' h1 h2
  obtain⟨_,rk,q,rfl,hq⟩:=ka 0 k z rfl rfl
  cases rk
  obtain⟨χ,ri,⟨o,e,c,n,dd⟩,_⟩:=I.tuple (SqT.of hq)
  cases ri with
  |cons ra rr=>
   obtain⟨t,rfl⟩:=ra
   exact⟨_::fs,ko e c dd rfl kt,by rw[aT,aT,hl],λv hv=>(List.mem_cons.mp hv).elim (λz=>⟨_,_,z⟩) (hi v)⟩
def be9(I:Inv X ξ σ H s){A:bJ}{kf:Str->Int}{q1 q2:Addr}{z1 z2:Str}{C:Bool->aq->Prop}{E:aj->aq->Prop}(h1:H q1=some (.tup [.int (kf z1),.str z1]))(h2:H q2=some (.tup [.int (kf z2),.str z2]))(hC:C (ltK kf z1 z2) s) :
  ba (model X.prog X.w) A (keyLt' (tuples' true) (.ref q1) (.ref q2)) C E s:=by
 obtain⟨i1,r1,⟨o1,e1,c1,m1,d1⟩,_⟩:=I.tuple (SqT.of h1)
 obtain⟨i2,r2,⟨o2,e2,c2,m2,d2⟩,_⟩:=I.tuple (SqT.of h2)
 obtain⟨u1,v1,rfl,⟨tk1,rfl⟩,⟨tv1,rfl⟩⟩:=r1.two
 obtain⟨u2,v2,rfl,⟨tk2,rfl⟩,⟨tv2,rfl⟩⟩:=r2.two
 refine PySem.W.kat_lt e1 d1 e2 d2 ?_
 refine js (wpAny_eqBool_int ?_)
 unfold ltK at hC
 refine kC (λe=>?_) (λe=>?_)
 .have e:kf z1=kf z2:=by simpa using e
  rw[if_pos e] at hC
  refine jT (js (wpAny_eqBool_str ?_))
  refine kC (λe=>?_) (λe=>?_)
  .have e:z1=z2:=by simpa using e
   subst e
   have:ltS z1 z1=false:=by unfold ltS;exact decide_eq_false (hJ _)
   rw[this] at hC
   exact jT (jS hC)
  .exact kD (PySem.W.kat_one _ _ (lt_str hC))
 .have e:¬ kf z1=kf z2:=by simpa using e
  rw[if_neg e] at hC
  exact kD (oneLt_int hC)
def a49{α:Type}{v:α->V}{lt:α->α->Bool}{KR:α->V->Hp->Prop}(d:α)(hc:X.calm=true){fn p:Addr}{zs:List α}{Q:VK}(I:Inv X ξ σ H s)(hp:SqL X.K H p (zs.map v) \/ ∃kvs,Rd H p (.dK kvs)/\(kvs.map λkv=>kV kv.1)=zs.map v)(o:OrdL lt zs)(h64:zs.length<64)(up:∀{z w H1 H2},Same H1 H2->KR z w H1->KR z w H2)(hk:∀z∈zs,∀pl s' H3 u,Inv X (ξ++pl) σ H3 s'->Same H H3->RelV (v z) u->ba (model X.prog X.w) X.A.in1.in1 (call (.ref fn) [u]) (EP X (ξ++pl) σ λw H4=>KR z w H4/\Same H3 H4) (λ_ _=>False) s')(ht:∀{pins' H3 s3 ks},Inv X pins' σ H3 s3->ks.length=zs.length->2<=ks.length->av3 KR H3 zs ks -> ∀{G:SortKind->aq->Prop},(∀ κ,(∀i j C,i<zs.length->j<zs.length->C (lt (zs.getD i d) (zs.getD j d)) s3->gK X.prog X.w X.A.in1.in1 κ ks i j C s3)->G κ s3)->ba (model X.prog X.w) X.A.in1.in1 (j7 ks.toArray) G (λ_ _=>False) s3)(q:∀H3 D,Same H H3->H D=none->H3 D=some (.lst ((An lt zs).map v))->Q (.ref D) H3) :
  ba (model X.prog X.w) X.A (call (.builtin "sorted") [.ref p] [("key", .ref fn)]) (EP X ξ σ Q) X.xe s:=by
 refine PySem.W.sk_sorted (OKQ:=λus h' tk=>(∀b o,s.heap.get? b=some o->h'.get? b=some o)/\s.heap.objs.size<=h'.objs.size/\s.toks<=tk/\Vals (zs.map v) us) (λR hR=>Tg hc I hp λus h' tk a b c d=>hR us h' tk ⟨a,b,c,d⟩) λus h' tk ⟨keep,hD,htk,rv⟩=>?_
 have hl:us.length=zs.length:=by have:=rv.length;simpa using this.symm
 refine⟨by omega,λD e1 kS h2 hD2 hDk gD gk k=>?_⟩
 have lD:=aF hD hD2
 have lk:=aF lD (d9 hDk)
 have I2:=I.kept (t':=tk) λb o e=>k b o (keep b o e)
 have fD:∀{H':Hp},H' D=none->Ek X ξ H' D:=λhn=>I.fpOk lD hn
 have fk:∀{H':Hp},H' kS=none->Ek X (ξ++[(D,bu "list" #[] e1)]) H' kS:=λhn=>by
  obtain⟨a1,a2,a3,a4,a5,a6⟩:=I.fpOk lk (I.hok.fresh lk)
  refine⟨hn,a2,a3,a4,a5,λp hp=>?_⟩
  rw[<- ck] at hp
  rcases List.mem_append.mp hp with hp|hp
  .exact a6 p hp
  .rw[List.mem_singleton.mp hp]
   exact aV hDk
 refine⟨λks s'=>∃H',Inv X (ξ++[(D,bu "list" #[] e1)]) σ H' s'/\Same H H'/\H' kS=none/\av3 KR H' zs ks,⟨H,?_,Same.refl _,I.hok.fresh lk,λi k z h=>by simp at h⟩,?_,?_⟩
 .refine I2.pins_of λp hp=>?_
  rcases List.mem_append.mp hp with hp|hp
  .exact I2.pin p (aN _ hp)
  .rw[List.mem_singleton.mp hp]
   have f:=fD (I.hok.fresh lD)
   exact⟨gD,f.1,f.2.1,f.2.2.1,λv z=>by cases z⟩
 .intro j x ks e s' hx hlk hks ⟨H',I',S,hn,ka⟩
  have hj:=(List.getElem?_eq_some_iff.mp hx).1
  obtain⟨u,hu,ru⟩:=rv.get (i:=j) (by rw[au,am (by omega)];rfl)
  rw[hx] at hu
  cases hu
  have I1:Inv X (ξ++([(D,bu "list" #[] e1)]++[(kS,bu "list" ks.toArray e)])) σ H' s':=I'.pins_of λp hp=>by
   rw[<- ck] at hp
   rcases List.mem_append.mp hp with hp|hp
   .exact I'.pin p (aN _ hp)
   .rw[List.mem_singleton.mp hp]
    have f:=fk hn
    exact⟨hks,f.1,f.2.1,f.2.2.1,λv z=>by cases z⟩
  refine b9 (hk _ (cV _) _ s' H' _ I1 S ru) (λk s'' hq=>?_) λ_ _ z=>z
  obtain⟨w,H'',I'',rk,kr,S2⟩:=hq
  have pk:=I''.pin (kS,bu "list" ks.toArray e) (by simp)
  refine⟨pk.1,λh3 c g sb=>⟨H'',?_,S.trans S2,pk.2.1,λi k' z h1 h2=>?_⟩⟩
  .have f:=fk pk.2.1
   have I3:Inv X (ξ++[(D,bu "list" #[] e1)]) σ H'' s'':=I''.pins_of λp hp=>I''.pin p (by
    rcases List.mem_append.mp hp with hp|hp
    .exact aN _ (bh _ hp)
    .exact aN _ (aN _ (bh _ hp)))
   exact I3.turned (t':=s''.toks) (λb o nb e=>(sb.2 b nb).trans e) f.1 f.2.1 f.2.2.2.1 f.2.2.2.2.1 f.2.2.2.2.2
  .by_cases hi:i<ks.length
   .rw[bO hi] at h1
    obtain⟨w',r',h'⟩:=ka i k' z h1 h2
    exact⟨w',r',up S2 h'⟩
   .have hi2:i<(ks++[k]).length:=(List.getElem?_eq_some_iff.mp h1).1
    rw[ak,bK] at hi2
    have ei:i=j:=by omega
    subst ei
    rw[bz (by omega),show i-ks.length=0 by omega] at h1
    cases h1
    rw[am (by omega)] at h2
    cases h2
    exact⟨w,rk,kr⟩
 .intro ks e s' hlk hks ⟨H',I',S,hn,ka⟩
  have pD:=I'.pin (D,bu "list" #[] e1) (by simp)
  have Iu:=I'.unpinned
  have fk':Ek X ξ H' kS:=by
   have f:=fk hn
   exact⟨f.1,f.2.1,f.2.2.1,f.2.2.2.1,f.2.2.2.2.1,λp hp=>f.2.2.2.2.2 p (by rw[<- ck];exact bh _ hp)⟩
  have fin:∀out:List aj,Vals ((An lt zs).map v) out->PySem.W.SkFin D kS e e1 ks out (λs3=>EP X ξ σ Q (.ref D) s3) s':=λout ro=>by
   refine⟨pD.1,hks,λh4 c g sm=>?_⟩
   refine⟨.ref D,upd H' D (.lst ((An lt zs).map v)),Iu.adopt (fD pD.2.1) fk' (λb u b1 b2 e=>(sm b b1 b2).trans e) ⟨?_,out,c,ro,g⟩,rfl,q _ D (λb o e=>?_) (I.hok.fresh lD) Ab⟩
   .rw[af,(Al _ zs).length_eq,bM];omega
   .rw[Ah (A2 (S b o e) pD.2.1)]
    exact S b o e
  exact⟨λh2=>fin us (by rw[Kp (by omega)];exact rv),λh2=>ht I' (by omega) (by omega) ka λκ hκ=>L0 d o rv h2 hκ λp ro=>fin _ ro⟩
def bt7{kf:Str->Int}{zs:List Str}{pins':List (Addr×Obj)}{H3:Hp}{s3:aq}{ks:List aj}{A:bJ}(I':Inv X pins' σ H3 s3)(hlz:ks.length=zs.length)(h2:2<=ks.length)(ka:av3 (be6 kf) H3 zs ks){G:SortKind->aq->Prop}(hG:∀ κ,(∀i j C,i<zs.length->j<zs.length->C (ltK kf (zs.getD i bU) (zs.getD j bU)) s3->gK X.prog X.w A κ ks i j C s3)->G κ s3):ba (model X.prog X.w) A (j7 ks.toArray) G (λ_ _=>False) s3:=by
 obtain⟨fs,kt,kl,ki⟩:=Q4 I' hlz ka
 refine jt kt (by omega) (λv hv=>by obtain⟨i,t,rfl⟩:=ki v hv;exact .now) rfl (hG _ λi j C hi hj hC=>?_)
 unfold gK
 have at_:∀{i:Nat},i<zs.length -> ∃q,ks.getD i b8=.ref q/\H3 q=some (.tup [.int (kf (zs.getD i bU)),.str (zs.getD i bU)]):=λ{i} hi=>by
  obtain⟨w,r,q,rfl,h⟩:=ka i (ks[i]'(by omega)) (zs[i]'(by omega)) (am _) (am _)
  refine⟨q,?_,?_⟩
  .rw[aS,am (by omega)];exact r
  .rw[aS,am (by omega)];exact h
 obtain⟨q1,e1,t1⟩:=at_ hi
 obtain⟨q2,e2,t2⟩:=at_ hj
 rw[e1,e2]
 exact be9 I' t1 t2 hC
end
end L2
namespace PySem.SeqAt
open AutoSeq1 (wpAny_loadPart')
open MeetsSeq MeetsSeq2 MeetsSeq3
def LtAt(A:bJ)(s:aq)(y x:aj)(b:Bool):Prop:=∀(prog:a7)(w:bL)(E:aj->aq->Prop)(Q:aj->aq->Prop),Q (.bool b) s->ba (model prog w) A (md .Lt y x) Q E s
def Vr(l b:Addr)(ψ items2:Array aj)(n n2:Nat)(dd dd2:Option Addr)(sl sl2:Array (Option aj))(e lt:Nat->Bool) :
  Meets (bI.«tuple.__lt__» ⟨[.ref l,.ref b],[]⟩)
   (λA R s=>s.heap.get? l=some {cls:=.type "tuple", dict:=dd,data:=.seq ψ n,slots:=sl}/\s.heap.get? b=some {cls:=.type "tuple", dict:=dd2,data:=.seq items2 n2,slots:=sl2} /\
    (∀j (h1:j<ψ.size) (h2:j<items2.size),EqAt A.in1 s ψ[j] items2[j] (e j))/\(∀j (h1:j<ψ.size) (h2:j<items2.size),e j=false->LtAt A.in1 s ψ[j] items2[j] (lt j)) /\
    R (.ok (.ret (.bool (match (bi (min ψ.size items2.size)).find? (λj=>!e j) with|some j=>lt j|none=>decide (ψ.size<items2.size))))) s):=
 .of_wp λprog w A R s h=>by
  obtain⟨hp,g,d,tk,os⟩:=s;obtain⟨hl,hb,he,hr,h⟩:=h
  have f2:=AutoSeq1.sub_tuple_tuple
  have hZ:(ψ.toList.zip items2.toList).length=min ψ.size items2.size:=by simp
  wp_walk using gO hl,gO hb,wpAny_forIn_list _ (λrest b s'=>b.1=none/\s'=⟨hp,g,d,tk,os⟩/\∃i,rest=(ψ.toList.zip items2.toList).drop i/\R (.ok (.ret (.bool (match ((bi (min ψ.size items2.size)).drop i).find? (λj=>!e j) with|some j=>lt j|none=>decide (ψ.size<items2.size))))) ⟨hp,g,d,tk,os⟩) _
  case turn=>
   rintro⟨y,x⟩ rest b s' ⟨hb',rfl,i,hz,hR⟩
   have hlt:i<(ψ.toList.zip items2.toList).length:=by
    rcases jM i (ψ.toList.zip items2.toList).length with h'|h'
    .exact h'
    .rw[c6 h'] at hz;cases hz
   have hm:i<min ψ.size items2.size:=hZ▸hlt
   have h1:i<ψ.size:=aH hm (jN _ _)
   have h2:i<items2.size:=aH hm (Nat.min_le_right _ _)
   rw[fR hlt] at hz
   injection hz with hyx hrest
   have hy:y=ψ[i]:=by have:=congrArg kX hyx;simpa using this
   have hx:x=items2[i]:=by have:=congrArg mB hyx;simpa using this
   subst hy hx
   have hd:(bi (min ψ.size items2.size)).drop i=i::(bi (min ψ.size items2.size)).drop (i+1):=by simp[fR,hm]
   rw[hd,dN] at hR
   refine ah (he i h1 h2 prog w _ _ ?_)
   cases hy:e i with
   |true=>
    rw[hy] at hR
    wp_walk
    exact⟨rfl,rfl,i+1,hrest,hR⟩
   |false=>
    rw[hy] at hR
    have hq:=hr i h1 h2 hy prog w
    generalize md CmpOp.Lt ψ[i] items2[i]=rc at hq ⊢
    wp_walk
    refine hq _ _ ?_
    wp_walk
    exact⟨_,rfl,hR⟩
  case fin=>
   rintro⟨b1,b2⟩ s' ⟨hb',rfl,i,hz,hR⟩
   simp only at hb'
   subst hb'
   have hge:min ψ.size items2.size<=i:=by
    rcases jM i (ψ.toList.zip items2.toList).length with h'|h'
    .rw[fR h'] at hz;cases hz
    .exact hZ▸h'
   rw[c6 (by simpa using hge)] at hR
   wp_walk
   exact⟨_,rfl,by simpa [Builtin.Tuple.tupleCompareSizes] using hR⟩
  case h=>
   exact⟨rfl,rfl,0,rfl,by simpa using h⟩
def lt_tuples{A:bJ}{s:aq}{l b:Addr}{ol ob:Obj}{ψ items2:Array aj}{e lt:Nat->Bool}{n n2:Nat}(hl:s.heap.get? l=some ol)(cl:ol.cls=.type "tuple")(dl:ol.data=.seq ψ n)(hb:s.heap.get? b=some ob)(cb:ob.cls=.type "tuple")(db:ob.data=.seq items2 n2)(hu:A.units<cLine)(he:∀j (h1:j<ψ.size) (h2:j<items2.size),EqAt A.in1 s ψ[j] items2[j] (e j))(hr:∀j (h1:j<ψ.size) (h2:j<items2.size),e j=false->LtAt A.in1 s ψ[j] items2[j] (lt j)) :
  LtAt A s (.ref l) (.ref b) (match (bi (min ψ.size items2.size)).find? (λj=>!e j) with|some j=>lt j|none=>decide (ψ.size<items2.size)):=by
 intro prog w E Q h
 obtain⟨cls,dd,data,sl⟩:=ol
 obtain⟨cls2,dd2,data2,sl2⟩:=ob
 simp only at cl dl cb db
 subst cl dl cb db
 exact richCompare_meets_room (op:=.Lt) ⟨_,hl,rfl⟩ ⟨_,hb,rfl⟩ F.slot_tuple_lt F.entry_tuple_lt (F.args_tuple_lt_2 _ _) (Vr l b ψ items2 n n2 dd dd2 sl sl2 e lt)
  ⟨hl,hb,he,hr,⟨(λx=>nomatch x),h⟩⟩ hu
end PySem.SeqAt
namespace L2
open PySem PySem.Spec PyProof.Rows
mutual
def dlt:Dt->Dt->Bool
 |.at_ (.int i),.at_ (.int j)=>decide (i<j)
 |.at_ (.str a),.at_ (.str b)=>ltS a b
 |.tup xs,.tup ys=>Bc xs ys
 |_,_=>false
def Bc:List Dt->List Dt->Bool
 |[],[]=>false
 |[],_::_=>true
 |_::_,[]=>false
 |x::xs,y::ys=>if deq x y=true then Bc xs ys else dlt x y
end
mutual
def D1:Dt->Dt->Bool
 |.at_ (.int _),.at_ (.int _)=>true
 |.at_ (.str _),.at_ (.str _)=>true
 |.tup xs,.tup ys=>Qx xs ys
 |_,_=>false
def Qx:List Dt->List Dt->Bool
 |x::xs,y::ys=>D1 x y&&Qx xs ys
 |_,_=>true
end
def J0(n:Nat)(p:Nat->Bool):(bi (n+1)).find? p=if p 0=true then some 0 else((bi n).find? λj=>p (j+1)).map (· + 1):=by
 rw[jy,dN]
 cases e:p 0 with
 |true=>simp
 |false=>simp[List.find?_map,Function.comp_def]
theorem Ny(z:Dt):∀xs ys:List Dt,(match (bi (min xs.length ys.length)).find? (λj=>!deq (xs.getD j z) (ys.getD j z)) with|some j=>dlt (xs.getD j z) (ys.getD j z)|none=>decide (xs.length<ys.length))=Bc xs ys
 |[],[]=>by unfold Bc;rfl
 |[],_::_=>by unfold Bc;simp
 |_::_,[]=>by unfold Bc;simp
 | x::xs,y::ys=>by
  have ih:=Ny z xs ys
  have e:min (x::xs).length (y::ys).length=min xs.length ys.length+1:=by simp only[aT];omega
  rw[e,J0]
  unfold Bc
  cases h:deq x y with
  |true=>
   have c:(!deq ((x::xs).getD 0 z) ((y::ys).getD 0 z))=false:=by show(!deq x y)=false;rw[h];rfl
   rw[c,if_neg aR,if_pos rfl,<- ih]
   show(match ((bi (min xs.length ys.length)).find? (λj=>!deq (xs.getD j z) (ys.getD j z))).map (· + 1) with|some j=>dlt ((x::xs).getD j z) ((y::ys).getD j z)|none=>decide (xs.length+1<ys.length+1))=_
   cases(bi (min xs.length ys.length)).find? (λj=>!deq (xs.getD j z) (ys.getD j z)) with
   |none=>simp
   |some j=>rfl
  |false=>
   have c:(!deq ((x::xs).getD 0 z) ((y::ys).getD 0 z))=true:=by show(!deq x y)=true;rw[h];rfl
   rw[c,if_pos rfl,if_neg aR]
   rfl
section
variable {X:Cx}{ξ:List (Addr×Obj)}{σ:St}{H:Hp}{s:aq}
mutual
theorem T9(I:Inv X ξ σ H s):∀(d d':Dt)(A:bJ)(x y:V)(u v:aj),At X.K H d x->At X.K H d' y->RelV x u->RelV y v->D1 d d'=true->A.units+dep d<cLine->SeqAt.LtAt A s u v (dlt d d')
 | .at_ p,.at_ q,A,x,y,u,v,h,h',r,r',c,hu=>by
  unfold At at h h'
  obtain⟨rfl,f⟩:=h
  obtain⟨rfl,f'⟩:=h'
  cases x with
  |int i=>
   cases y with
   |int j=>obtain⟨t,rfl⟩:=r;obtain⟨t',rfl⟩:=r';unfold dlt;exact λprog w E Q hq=>lt_int hq
   |_=>unfold D1 at c;cases c
  |str i=>
   cases y with
   |str j=>obtain⟨t,rfl⟩:=r;obtain⟨t',rfl⟩:=r';unfold dlt;exact λprog w E Q hq=>lt_str hq
   |_=>unfold D1 at c;cases c
  |_=>unfold D1 at c;cases c
 |.at_ p,.tup l,A,x,y,u,v,h,h',r,r',c,hu=>by unfold D1 at c;cases p <;> cases c
 |.at_ p,.lst l,A,x,y,u,v,h,h',r,r',c,hu=>by unfold D1 at c;cases p <;> cases c
 |.lst l,d',A,x,y,u,v,h,h',r,r',c,hu=>by unfold D1 at c;cases c
 |.tup l,.at_ p,A,x,y,u,v,h,h',r,r',c,hu=>by unfold D1 at c;cases c
 |.tup l,.lst l',A,x,y,u,v,h,h',r,r',c,hu=>by unfold D1 at c;cases c
 | .tup l,.tup l',A,x,y,u,v,h,h',r,r',c,hu=>by
  unfold At at h h'
  unfold D1 at c
  unfold dep at hu
  unfold dlt
  obtain⟨a,xs,rfl,q,h⟩:=h
  obtain⟨b,ys,rfl,q',h'⟩:=h'
  obtain⟨χ,ri,⟨o,eo,co,n,dd⟩,_⟩:=I.tuple q
  obtain⟨its',ri',⟨o',eo',co',n',dd'⟩,_⟩:=I.tuple q'
  cases r;cases r'
  have e1:=h.length
  have e2:=h'.length
  have e3:=ri.length
  have e4:=ri'.length
  have T:=SeqAt.lt_tuples (A:=A) (e:=λj=>deq (l.getD j (.lst [])) (l'.getD j (.lst []))) (lt:=λj=>dlt (l.getD j (.lst [])) (l'.getD j (.lst []))) eo co dd eo' co' dd' (by omega) (λj h1 h2=>by
    have:=Gf I l l' A.in1 xs ys χ its' h h' ri ri' (by show A.units+1+Bz l<cLine;omega) j (by simpa using h1) (by simpa using h2)
    simpa using this) (λj h1 h2 _=>by
    have:=W2 I l l' A.in1 xs ys χ its' h h' ri ri' c (by show A.units+1+Bz l<cLine;omega) j (by simpa using h1) (by simpa using h2)
    simpa using this)
  rw[aB,aB,<- e3,<- e4,e1,e2,Ny] at T
  exact T
theorem W2(I:Inv X ξ σ H s):∀(ds ds':List Dt)(A:bJ)(xs ys:List V)(us vs:List aj),AtL X.K H ds xs->AtL X.K H ds' ys->Vals xs us->Vals ys vs->Qx ds ds'=true->A.units+Bz ds<cLine ->
  ∀(j:Nat)(h1:j<us.length)(h2:j<vs.length),SeqAt.LtAt A s us[j] vs[j] (dlt (ds.getD j (.lst [])) (ds'.getD j (.lst [])))
 | [],_,A,xs,ys,us,vs,h,h',r,r',c,hu=>λj h1 h2=>by
  unfold AtL at h
  subst h
  cases r
  cases h1
 | _::_,[],A,xs,ys,us,vs,h,h',r,r',c,hu=>λj h1 h2=>by
  unfold AtL at h'
  subst h'
  cases r'
  cases h2
 | d::ds,d'::ds',A,xs,ys,us,vs,h,h',r,r',c,hu=>λj h1 h2=>by
  unfold AtL at h h'
  unfold Qx at c
  rw[aW] at c
  obtain⟨y,ys,rfl,q1,q2⟩:=h
  obtain⟨z,zs,rfl,q1',q2'⟩:=h'
  cases r with
  |cons r1 r2=>
   cases r' with
   |cons r1' r2'=>
    unfold Bz at hu
    have m1:dep d<=lZ (dep d) (Bz ds):=Nat.le_max_left _ _
    have m2:Bz ds<=lZ (dep d) (Bz ds):=Nat.le_max_right _ _
    cases j with
    |zero=>exact T9 I d d' A _ _ _ _ q1 q1' r1 r1' c.1 (by omega)
    |succ j=>exact W2 I ds ds' A _ _ _ _ q2 q2' r2 r2' c.2 (by omega) j (by simpa using h1) (by simpa using h2)
end
def Er:List Dt->List Dt->Bool
 |x::xs,y::ys=>if deq x y=true then Er xs ys else D1 x y
 |_,_=>true
def Fk(b:Bool)(d:Dt):Prop:=if b=true then ∃z,d=.at_ (.str z) else ∃l,d=.tup l
theorem a77(I:Inv X ξ σ H s){A:bJ}{b fin:Bool}{C:Bool->aq->Prop}(hu:A.units+30<cLine):∀{l l' i xs ys us vs},AtL X.K H l xs->AtL X.K H l' ys->Vals xs us->Vals ys vs->Er l l'=true->Bz l<=20->(b=true->i=0 -> ∀d∈l.head?,Fk true d)->fin=decide (l.length<l'.length)->C (Bc l l') s->PySem.W.KatLex X.prog X.w A b fin C (us.zip vs) i s
 | [],l',i,xs,ys,us,vs,h,h',r,r',c,hd,hb,hf,hC=>by
  unfold AtL at h
  subst h
  cases r
  refine jS ?_
  rw[hf]
  cases l' with
  |nil=>exact hC
  |cons=>simpa [Bc] using hC
 | _::_,[],i,xs,ys,us,vs,h,h',r,r',c,hd,hb,hf,hC=>by
  unfold AtL at h'
  subst h'
  cases r'
  rw[List.zip_nil_right]
  refine jS ?_
  rw[hf]
  simpa [Bc] using hC
 | d::ds,d'::ds',i,xs,ys,us,vs,h,h',r,r',c,hd,hb,hf,hC=>by
  unfold AtL at h h'
  unfold Er at c
  unfold Bz at hd
  have hd:=Nat.max_le.mp hd
  obtain⟨y,ys,rfl,q1,q2⟩:=h
  obtain⟨z,zs,rfl,q1',q2'⟩:=h'
  cases r with
  |cons r1 r2=>
   cases r' with
   |cons r1' r2'=>
    unfold Bc at hC
    refine js (ae0 I d d' A _ _ _ _ q1 q1' r1 r1' (by omega) _ _ _ _ ?_)
    refine kC (λe=>?_) (λe=>?_)
    .rw[if_pos e] at c hC
     exact jT (a77 I hu q2 q2' r2 r2' c hd.2 (λ_ z=>by cases z) (by rw[hf,aT,aT];exact decide_eq_decide.mpr (by omega)) hC)
    .rw[if_neg (by rw[e];exact aR)] at c hC
     refine kD ?_
     have go:ba (model X.prog X.w) A (oneLt' false _ _) C (λ_ _=>False) s:=PySem.W.kat_one _ _ (T9 I d d' A _ _ _ _ q1 q1' r1 r1' c (by omega) _ _ _ (PySem.W.BoolBack C) hC)
     cases b with
     |false=>exact go
     |true=>
      cases i with
      |succ i=>exact go
      |zero=>
       obtain⟨a,rfl⟩:=hb rfl rfl d rfl
       unfold At at q1
       obtain⟨rfl,_⟩:=q1
       cases d' with
       |at_ v=>
        cases v with
        |str a'=>
         unfold At at q1'
         obtain⟨rfl,_⟩:=q1'
         obtain⟨t,rfl⟩:=r1
         obtain⟨t',rfl⟩:=r1'
         exact oneLt_str (by unfold dlt at hC;exact hC)
        |_=>unfold D1 at c;cases c
       |_=>unfold D1 at c;cases c
def ltT(a b:List Dt×Addr):Bool:=Bc a.1 b.1
def an7(K:ae):List V->Hp->VK->Prop:=λxs H Q=>∃(p:Addr)(ds:List (List Dt×Addr))(b:Bool),xs=[.ref p]/\SqL K H p (ds.map λd=>.ref d.2)/\(∀d∈ds,(∃f r,d.1=f::r/\Fk b f)/\At K H (.tup d.1) (.ref d.2)/\Bz d.1<=20)/\ds.length<64/\(∀a∈ds,∀b∈ds,Er a.1 b.1=true)/\OrdL ltT ds/\∀D,H D=none->Q (.ref D) (upd H D (.lst ((An ltT ds).map λd=>.ref d.2)))
theorem as3(I:Inv X ξ σ H s){b:Bool}:∀{ds:List (List Dt×Addr)} {us},Vals (ds.map λd=>V.ref d.2) us->(∀d∈ds,(∃f r,d.1=f::r/\Fk b f)/\At X.K H (.tup d.1) (.ref d.2)) -> ∃fs,fG s.heap us fs/\fs.length=ds.length/\∀v∈fs,∃f x,Fk b f/\At X.K H f x/\RelV x v
 |[],us,r,_=>by cases r;exact⟨[],kL,rfl,λv hv=>by cases hv⟩
 | d::ds,us,r,h=>by
  rw[a8] at r
  cases r with
  |cons r1 r2=>
   cases r1
   obtain⟨fs,kt,hl,hi⟩:=as3 I r2 λe he=>h e (aK _ he)
   obtain⟨⟨f,rr,ef,hk⟩,ha⟩:=h d aY
   rw[ef] at ha
   unfold At at ha
   obtain⟨a,xs,e,sq,al⟩:=ha
   cases e
   unfold AtL at al
   obtain⟨x,ys,rfl,hx,_⟩:=al
   obtain⟨χ,ri,⟨o,e,c,n,dd⟩,_⟩:=I.tuple sq
   cases ri with
   |cons ra _=>exact⟨_::fs,ko e c dd rfl kt,by rw[aT,aT,hl],λv hv=>(List.mem_cons.mp hv).elim (λz=>⟨f,x,hk,hx,z▸ra⟩) (hi v)⟩
def Qw(hu:X.A.units+64<cLine)(hc:X.calm=true):Cm X (.builtin "sorted") (an7 X.K):=by
 intro ξ s σ H xs us Q I r h
 obtain⟨p,ds,b,rfl,hp,hd,h64,hcm,ho,q⟩:=h
 obtain⟨u,rfl,ru⟩:=Ei r
 cases ru
 refine PySem.W.so_sortedC (OKQ:=λus h' tk=>(∀b o,s.heap.get? b=some o->h'.get? b=some o)/\s.heap.objs.size<=h'.objs.size/\s.toks<=tk/\Vals (ds.map λd=>V.ref d.2) us) (λR hR=>Tg hc I (.inl hp) λus h' tk a b c d=>hR us h' tk ⟨a,b,c,d⟩) λus h' tk ⟨keep,hD,htk,rv⟩=>?_
 have hl:ds.length=us.length:=by have:=rv.length;rwa[af] at this
 have fin:∀{h3} {D} {out} {c},h'.objs.size<=D->(∀b o,h'.get? b=some o->h3.get? b=some o)->Vals ((An ltT ds).map λd=>V.ref d.2) out->h3.get? D=some (bu "list" out.toArray c)->EP X ξ σ Q (.ref D) {s with heap:=h3,toks:=tk}:=λ{h3 D out c} hD2 k r g=>
  ⟨.ref D,_,I.laid (λb o e=>k b o (keep b o e)) (aF hD hD2) (o:=.lst ((An ltT ds).map λd=>V.ref d.2)) ⟨by rw[af,(Al ltT ds).length_eq,bM];omega,out,c,r,g⟩,rfl,q _ (I.hok.fresh (aF hD hD2))⟩
 refine⟨by omega,λh2 h2' c g k=>fin (ag _) k (by rw[Kp (by omega)];exact rv) g,λh2 D e1 h2' hD2 gD k=>?_⟩
 have I2:Inv X ξ σ H {s with heap:=h2',toks:=tk}:=I.kept (t':=tk) λb o e=>k b o (keep b o e)
 obtain⟨fs,kt,kl,ki⟩:=as3 I2 rv λd m=>⟨(hd d m).1,(hd d m).2.1⟩
 have ask:∀i j (C:Bool->aq->Prop),i<ds.length->j<ds.length->C (ltT (ds.getD i ([],0)) (ds.getD j ([],0))) {s with heap:=h2',toks:=tk}->ba (model X.prog X.w) X.A.in1.in1 (keyLt' (tuples' b) (us.getD i b8) (us.getD j b8)) C (λ_ _=>False) {s with heap:=h2',toks:=tk}:=λi j C hi hj hC=>by
  rw[show us.getD i b8=_ from Ml ([],0) rv hi,show us.getD j b8=_ from Ml ([],0) rv hj]
  have gm:∀{i:Nat},i<ds.length->ds.getD i ([],0)∈ds:=λ{i} hi=>by rw[aS,am hi];exact cV hi
  obtain⟨⟨f,rr,ef,hk⟩,a1,dp⟩:=hd _ (gm hi)
  have a2:=(hd _ (gm hj)).2.1
  have cm:=hcm _ (gm hi) _ (gm hj)
  generalize ds.getD i ([],0)=d1 at *
  generalize ds.getD j ([],0)=d2 at *
  unfold At at a1 a2
  obtain⟨q1,xs,e,s1,l1⟩:=a1
  cases e
  obtain⟨q2,ys,e,s2,l2⟩:=a2
  cases e
  obtain⟨i1,r1,⟨o1,e1,_,_,d1'⟩,_⟩:=I2.tuple s1
  obtain⟨i2,r2,⟨o2,e2,_,_,d2'⟩,_⟩:=I2.tuple s2
  refine PySem.W.kat_lt e1 d1' e2 d2' (a77 I2 (by show X.A.units+1+1+30<cLine;omega) l1 l2 r1 r2 cm dp (λhb _ d hd=>?_) ?_ hC)
  .rw[ef] at hd
   cases hd
   exact hb▸hk
  .rw[aB,aB,<- r1.length,<- r2.length,l1.length,l2.length]
 cases b with
 |false=>
  refine jt (T:=.type "tuple") kt (by omega) (λv hv=>?_) rfl (L0 ([],0) ho rv h2 ask λp ro=>⟨gD,λh3 c g sb=>fin hD2 (λb o e=>(sb.2 b (aV (aH (aQ e) hD2))).trans (k b o e)) ro g⟩)
  obtain⟨f,x,⟨l,rfl⟩,hx,rx⟩:=ki v hv
  unfold At at hx
  obtain⟨a,xs,rfl,sq,_⟩:=hx
  cases rx
  obtain⟨_,_,⟨o,eo,co,_⟩,_⟩:=I2.tuple sq
  exact co▸(PySem.W.Looks.ld eo).andThen .now
 |true=>
  refine jt (T:=.type "str") kt (by omega) (λv hv=>?_) rfl (L0 ([],0) ho rv h2 ask λp ro=>⟨gD,λh3 c g sb=>fin hD2 (λb o e=>(sb.2 b (aV (aH (aQ e) hD2))).trans (k b o e)) ro g⟩)
  obtain⟨f,x,⟨z,rfl⟩,hx,rx⟩:=ki v hv
  unfold At at hx
  obtain⟨rfl,_⟩:=hx
  obtain⟨t,rfl⟩:=rx
  exact .now
end
section
variable {K:ae}{H H':Hp}
def Same.seqT{K:ae}{H H':Hp}{a:Addr}{xs:List V}(e:Same H H')(h:SqT K H a xs):SqT K H' a xs:=by
 rcases h with(h|⟨o,h⟩)|h
 .exact .inl (.inl (e _ _ h))
 .exact .inl (.inr ⟨o,e _ _ h⟩)
 .exact .inr h
def Same.seqL{a:Addr}{xs:List V}(e:Same H H')(h:SqL K H a xs):SqL K H' a xs:=by
 rcases h with(h|⟨o,h⟩)|h
 .exact .inl (.inl (e _ _ h))
 .exact .inl (.inr ⟨o,e _ _ h⟩)
 .exact .inr h
mutual
theorem A3(S:Same H H'):∀{d:Dt}{x:V},At K H d x->At K H' d x
 |.at_ v,x,h=>by unfold At at h ⊢;exact h
 |.lst l,x,h=>by unfold At at h ⊢;obtain⟨a,xs,e,q,h⟩:=h;exact⟨a,xs,e,S.seqL q,Aw S h⟩
 |.tup l,x,h=>by unfold At at h ⊢;obtain⟨a,xs,e,q,h⟩:=h;exact⟨a,xs,e,S.seqT q,Aw S h⟩
theorem Aw(S:Same H H'):∀{ds:List Dt}{xs:List V},AtL K H ds xs->AtL K H' ds xs
 |[],xs,h=>by unfold AtL at h ⊢;exact h
 |d::ds,xs,h=>by unfold AtL at h ⊢;obtain⟨y,ys,e,h1,h2⟩:=h;exact⟨y,ys,e,A3 S h1,Aw S h2⟩
end
end
def a92(K:ae)(p:Addr)(H:Hp)(Q:VK):Prop:=∃zs:List Str,SqL K H p (zs.map V.str)/\zs≠[]/\∀z∈zs,(∀y∈zs,ltS y z=false)->Q (.str z) H
def ag7{a b c:Str}(h1:ltS a b=true)(h2:ltS c b=false):ltS c a=false:=by
 unfold ltS at *
 exact decide_eq_false λh=>of_decide_eq_false h2 (ig h (of_decide_eq_true h1))
def D8(a:Str):ltS a a=false:=decide_eq_false (hJ _)
def az2{a b:Str}(h:ltS a b=true):ltS b a=false:=decide_eq_false λz=>hJ _ (ig z (of_decide_eq_true h))
theorem Qv(f:Nat->Str):∀n,argBest (λi j=>ltS (f i) (f j)) n<=n/\∀i,i<=n->ltS (f i) (f (argBest (λi j=>ltS (f i) (f j)) n))=false
 |0=>⟨ag _,λi h=>by rw[Nat.le_zero.mp h];exact D8 _⟩
 | n+1=>by
  obtain⟨h1,h2⟩:=Qv f n
  unfold argBest
  cases e:ltS (f (n+1)) (f (argBest (λi j=>ltS (f i) (f j)) n)) with
  |true=>
   refine⟨ag _,λi h=>?_⟩
   rcases jM i (n+1) with g|g
   .exact ag7 e (h2 i (by omega))
   .rw[show i=n+1 by omega];exact D8 _
  |false=>
   refine⟨i4 h1,λi h=>?_⟩
   rcases jM i (n+1) with g|g
   .exact h2 i (by omega)
   .rw[show i=n+1 by omega];exact e
section
variable {X:Cx}
def Za(hc:X.calm=true){p:Addr}:∀ξ s σ H us Q,Inv X ξ σ H s->Vals [.ref p] us->a92 X.K p H Q->ba (model X.prog X.w) X.A (call (.builtin "min") us) (EP X ξ σ Q) X.xe s:=by
 intro ξ s σ H us Q I r ⟨zs,hq,ne,q⟩
 obtain⟨u,rfl,ru⟩:=r.one
 cases ru
 obtain⟨χ,rv,pl,hz⟩:=I.list hq
 have hlen:=rv.length
 rw[af] at hlen
 obtain⟨o,n,e,c,hd,ds⟩:=id pl
 have plt:=aQ e
 have pos:=List.length_pos_iff.mpr ne
 have at_:∀{i v},χ.toArray[i]?=some v->i<zs.length/\∃t,v=.str (zs.getD i bU) t:=λ{i v} hv=>by
  have hv:χ[i]?=some v:=by simpa using hv
  have hi:i<zs.length:=by rw[hlen];exact(List.getElem?_eq_some_iff.mp hv).1
  obtain⟨t,e⟩:=Ml bU rv hi
  rw[aS (l:=χ),hv] at e
  exact⟨hi,t,e⟩
 refine bD (ag _) (call_min_walk (g_ pl.isList ?_))
 refine⟨s.heap.objs.size,_,_,_,_,_,(λi j=>ltS (zs.getD i bU) (zs.getD j bU)),rfl,j6 (show X.A.in1.handled=none from I.ok.hd hc) s.heap.objs.size p (aV plt) χ.toArray,⟨⟨_,aL _ rfl,rfl,rfl⟩,pl.isList.push _⟩,λb hb=>?_,by rw[aB];omega,λi j v w s' Q' E' hv hw hq'=>?_,λv h' tk hP kk htk=>?_⟩
 .have:b=s.heap.objs.size\/b=p:=by simpa using hb
  rw[dF]
  rcases this with rfl|rfl
  .exact bS _
  .exact dL plt
 .obtain⟨_,t,rfl⟩:=at_ hv
  obtain⟨_,t',rfl⟩:=at_ hw
  exact lt_str hq'
 .obtain⟨hi,t,rfl⟩:=at_ hP
  obtain⟨_,h2⟩:=Qv (λi=>zs.getD i bU) (χ.toArray.size-1)
  have gm:∀{i:Nat},i<zs.length->zs.getD i bU∈zs:=λ{i} hi=>by rw[aS,am hi];exact cV hi
  refine⟨.str _,H,I.kept (λb o' eb=>kk b o' ?_ (ai _ eb)) htk,⟨_,rfl⟩,q _ (gm hi) λy hy=>?_⟩
  .exact λz=>d_ _ (List.mem_singleton.mp z▸aQ eb)
  .obtain⟨i,hi,rfl⟩:=eW hy
   have:=h2 i (by rw[aB];omega)
   rw[aS,am hi] at this
   exact this
end
abbrev RF:=List V->Hp->VK->Prop
def a75(x:V)(T:String):Bool:=match x with
 |.int _=>T == "int"
 |.bl _=>T == "bool" || T == "int"
 |.str _=>T == "str"
 |_=>false
def okT(T:String):Bool:=["int","bool","str","list","tuple","dict"].contains T
def Rr(K:ae):RF:=λxs H Q=>match xs with
 | [x,c]=>(match c with
  |.ty T=>if Cf x=true then okT T=true/\Q (.bl (a75 x T)) H else ∃t b,TyX K H x t/\fT K t (.type T)=some b/\Q (.bl b) H
  |.ref C=>(∃t b,TyX K H x t/\fT K t (.ref C)=some b/\Q (.bl b) H)\/False
  |_=>False)
 |_=>False
def Dm(K:ae):RF:=λxs H Q=>match xs with
 |[.str z]=>z.length<=sizeLine/\Q (.int z.length) H
 |[.ref p]=>(∃ys,(SqL K H p ys\/SqT K H p ys)/\Q (.int ys.length) H) \/ ∃kvs,Rd H p (.dK kvs)/\Q (.int kvs.length) H
 |_=>False
def Zl:RF:=λxs H Q=>match xs with
 |[.int i]=>Q (.int i) H
 |[.bl k]=>Q (.int (if k then 1 else 0)) H
 |_=>False
def Px(K:ae):RF:=λxs H Q=>match xs with
 |[.ref p]=>∃ys,(SqL K H p ys\/SqT K H p ys)/\∀l,H l=none->Q (.ref l) (upd H l (.lst ys))
 |_=>False
def Ep(K:ae):RF:=λxs H Q=>match xs with
 |[.ref p]=>∃ys,(SqL K H p ys/\∀l,H l=none->Q (.ref l) (upd H l (.tup ys)))\/(SqT K H p ys/\Q (.ref p) H)
 |_=>False
def Jk(K:ae)(calm:Bool):RF:=λxs H Q=>Px K xs H Q\/(calm=true/\am9 xs H Q)
def E7(K:ae)(calm:Bool):RF:=λxs H Q=>False\/(calm=true/\(an8 K xs H Q\/an7 K xs H Q))
def a37:RF:=λxs H Q=>match xs with
 |[.int i,.int j]=>Q (.int (if j > i then j else i)) H
 |_=>False
def an0(K:ae):RF:=λxs H Q=>match xs with
 |[.int i,.int j]=>Q (.int (if j<i then j else i)) H
 |[.ref p]=>a92 K p H Q
 |_=>False
def Lq:RF:=λxs H Q=>match xs with
 |[.int i]=>i.natAbs.log2<1920/\Q (.str (fg i)) H
 |_=>False
inductive BF where
 |bf (id:String)|ty (T:String)
def bc7(K:ae)(calm:Bool)(x:Str):Option (BF×RF):=
 if x="len" then some (.bf "len", Dm K) else
 if x="isinstance" then some (.bf "isinstance", Rr K) else
 if x="int" then some (.ty "int", Zl) else
 if x="list" then some (.ty "list", Jk K calm) else
 if x="tuple" then some (.ty "tuple", Ep K) else
 if x="sorted" then some (.bf "sorted", E7 K calm) else
 if x="max" /\ calm=true then some (.bf "max", a37) else
 if x="min" /\ calm=true then some (.bf "min", an0 K) else
 if x="str" then some (.ty "str", Lq) else none
def BF.val:BF->aj
 |.bf id=>.builtin id
 |.ty T=>.type T
section
variable {X:Cx}
def T0{K:ae}{x:V}{T:String}(hx:Cf x=true)(h:okT T=true):∃t,(∀H,TyOf K H x t)/\fT K t (.type T)=some (a75 x T):=by
 have hT:T="int" \/ T="bool" \/ T="str" \/ T="list" \/ T="tuple" \/ T="dict" := by
  unfold okT at h
  simpa using h
 cases x with
 |int i=>refine⟨_,λH=>TyOf.int i,?_⟩;rcases hT with rfl|rfl|rfl|rfl|rfl|rfl <;> rfl
 |bl i=>refine⟨_,λH=>TyOf.bl i,?_⟩;rcases hT with rfl|rfl|rfl|rfl|rfl|rfl <;> rfl
 |str i=>refine⟨_,λH=>TyOf.str i,?_⟩;rcases hT with rfl|rfl|rfl|rfl|rfl|rfl <;> rfl
 |non=>refine⟨_,λH=>TyOf.non,?_⟩;rcases hT with rfl|rfl|rfl|rfl|rfl|rfl <;> rfl
 |_=>cases hx
def ac6:Cm X (.builtin "isinstance") (Rr X.K):=by
 intro ξ s σ H xs us Q I r h
 rcases xs with _|⟨x,_|⟨c,_|_⟩⟩ <;> try exact h.elim
 obtain⟨u,v,rfl,ru,rv⟩:=r.two
 have go:∀w,(∃t b,TyX X.K H x t/\fT X.K t w=some b/\Q (.bl b) H)->ba (model X.prog X.w) X.A (call (.builtin "isinstance") [u,w]) (EP X ξ σ Q) X.xe s:=λw ⟨t,b,ty,e,q⟩=>bD (ag _) (Tx I ru ty e λtk htk=>⟨.bl b,H,I.tok tk htk,rfl,q⟩)
 cases c with
 |ty T=>
  cases rv
  by_cases f:Cf x=true
  .rw[show Rr X.K [x,.ty T] H Q=_ from if_pos f] at h
   obtain⟨t,ht,hk⟩:=T0 f h.1
   exact go _ ⟨t,_,.of (ht H),hk,h.2⟩
  .rw[show Rr X.K [x,.ty T] H Q=_ from if_neg f] at h
   exact go _ h
 |ref C=>cases rv;exact go _ (h.resolve_right id)
 |_=>exact h.elim
def Yi:Cm X (.builtin "len") (Dm X.K):=by
 intro ξ s σ H xs us Q I r h
 unfold Dm at h
 split at h
 .exact Ot ξ s σ H _ us Q I r ⟨_,rfl,h.1,h.2⟩
 .rcases h with⟨ys,h1,h2⟩|⟨kvs,h1,h2⟩
  .exact Os ξ s σ H _ us Q I r ⟨_,ys,rfl,h1,h2⟩
  .obtain⟨u,rfl,ru⟩:=Ei r
   cases ru
   exact bs5 I h1 λt s' I'=>⟨.int _,H,I',⟨t,rfl⟩,h2⟩
 .exact h.elim
def Yh:Cm X (.type "int") Zl:=by
 intro ξ s σ H xs us Q I r h
 unfold Zl at h
 split at h
 .exact Nt ξ s σ H _ us Q I r (.inl ⟨_,rfl,h⟩)
 .exact Nt ξ s σ H _ us Q I r (.inr ⟨_,rfl,h⟩)
 .exact h.elim
def Tc:Cm X (.type "list") (Px X.K):=by
 intro ξ s σ H xs us Q I r h
 unfold Px at h
 split at h
 .obtain⟨ys,h1,h2⟩:=h
  exact Ou ξ s σ H _ us Q I r ⟨_,ys,rfl,h1,h2⟩
 .exact h.elim
def Yo:Cm X (.type "tuple") (Ep X.K):=by
 intro ξ s σ H xs us Q I r h
 unfold Ep at h
 split at h
 .obtain⟨ys,h1⟩:=h
  exact Mm ξ s σ H _ us Q I r ⟨_,ys,rfl,h1⟩
 .exact h.elim
def Yn:Cm X (.type "str") Lq:=by
 intro ξ s σ H xs us Q I r h
 unfold Lq at h
 split at h
 .cases r with
  |cons r1 t=>cases t;obtain⟨tk,rfl⟩:=r1;exact bD (ag _) (PySem.P.str_of_int h.1 λht=>⟨.str _,H,I.tok _ ht,⟨_,rfl⟩,h.2⟩)
 .exact h.elim
def Yk(hc:X.calm=true):Cm X (.builtin "max") a37:=by
 intro ξ s σ H xs us Q I r h
 unfold a37 at h
 split at h
 .exact Yj hc ξ s σ H _ us Q I r ⟨_,_,rfl,h⟩
 .exact h.elim
def Ym(hc:X.calm=true):Cm X (.builtin "min") (an0 X.K):=by
 intro ξ s σ H xs us Q I r h
 unfold an0 at h
 split at h
 .exact Yl hc ξ s σ H _ us Q I r ⟨_,_,rfl,h⟩
 .exact Za hc ξ s σ H us Q I r h
 .exact h.elim
def Cr{α:Type}{c:Prop} [Decidable c]{a z:α}{b:Option α}{P:Prop}(h:(if c then some a else b)=some z)(h1:c->a=z->P)(h2:b=some z->P):P:=by
 by_cases k:c
 .rw[if_pos k] at h;exact h1 k (bt h)
 .rw[if_neg k] at h;exact h2 h
def Dj{α:Type}{c:Prop} [Decidable c]{a z:α}{b:List α}{P:Prop}(h:z∈(if c then [a] else b))(h1:c->z=a->P)(h2:z∈b->P):P:=by
 by_cases k:c
 .rw[if_pos k] at h;exact h1 k (List.mem_singleton.mp h)
 .rw[if_neg k] at h;exact h2 h
def av9(hu:X.A.units+64<cLine){x:Str}{f:BF}{r:RF}{c:Bool}(h:bc7 X.K c x=some (f,r))(hc:c=X.calm):cX x=some f.val/\Cm X f.val r:=by
 have ok:∀{y} {g} {q},(g,q)=(f,r)->x=y->cX y=some g.val/\Cm X g.val q->cX x=some f.val/\Cm X f.val r:=λe1 e2 z=>by cases e1;subst e2;exact z
 exact Cr h (λe z=>ok z e ⟨PySem.boot_len,Yi⟩) λh=>Cr h (λe z=>ok z e ⟨PyProof.Rows.boot_isinstance,ac6⟩) λh=>Cr h (λe z=>ok z e ⟨jO,Yh⟩) λh=>Cr h (λe z=>ok z e ⟨jA,λξ s σ H xs us Q I r h=>h.elim (Tc ξ s σ H xs us Q I r) λz=>Td (hc▸z.1) ξ s σ H xs us Q I r z.2⟩) λh=>Cr h (λe z=>ok z e ⟨jf,Yo⟩) λh=>
  Cr h (λe z=>ok z e ⟨Fm,λξ s σ H xs us Q I r h=>h.elim cA λz=>z.2.elim (Te (hc▸z.1) ξ s σ H xs us Q I r) (Qw hu (hc▸z.1) ξ s σ H xs us Q I r)⟩) λh=>Cr h (λe z=>ok z e.1 ⟨PyProof.Rows.boot_max,Yk (hc▸e.2)⟩) λh=>Cr h (λe z=>ok z e.1 ⟨jP,Ym (hc▸e.2)⟩) λh=>Cr h (λe z=>ok z e ⟨jQ,Yn⟩) λh=>nomatch h
abbrev RM:=V->List V->Hp->VK->Prop
structure BM where
 T:String
 id:String
 r:RM
def rMt(K:ae)(bs:List BM):V->Hp->(Hp->(List V->Hp->Prop)->Prop)->VK->Prop:=λx H1 ta Q=>
 match bs with
 |[]=>False
 |[b]=>tyV K b.T x H1/\ta H1 λxs H2=>b.r x xs H2 Q
 |b::rest=>(tyV K b.T x H1/\ta H1 λxs H2=>b.r x xs H2 Q)\/rMt K rest x H1 ta Q
structure Z3 (X:Cx) (m:Str) (b:BM):Prop where
 pa:PlainAttrs b.T
 slot:Slot b.T m b.id
 ty:typeOf (.builtin b.id)=pure (.type "method_descriptor")
 mt:MtR X b.id b.r
def Ij(K:ae):RM:=λx xs H Q=>∃z p ys,(x=.str z \/ ∃n e,x=.stk z n e)/\xs=[.ref p]/\(SqL K H p (ys.map V.str)\/False)/\(ys.map (·.length)).sum+ys.length*z.length<=16777216/\Q (.str (k4 z ys)) H
def ai2{X:Cx}:MtR X "str.join" (Ij X.K):=by
 intro ξ s σ H x xs v us Q I rx rs h
 obtain⟨z,p,ys,hx,rfl,hq,hz,q⟩:=h
 have rx:RelV (.str z) v:=by
  rcases hx with rfl|⟨n,e,rfl⟩
  .exact rx
  .obtain⟨t,e,_⟩:=rx;exact⟨t,e⟩
 exact az7 ξ s σ H _ _ v us Q I rx rs ⟨z,p,ys,rfl,rfl,hq.resolve_right id,hz,q⟩
def Fb:RM:=λx xs H Q=>match x,xs with
 |.ref a,[y]=>∃o,Iq H a y o/\Q (o.getD .non) H
 |.ref a,[y,z]=>∃o,Iq H a y o/\Q (o.getD z) H
 |_,_=>False
def az6(hu:X.A.units+64<cLine):MtR X "dict.get" Fb:=by
 intro ξ s σ H x xs v us Q I rx rs h
 unfold Fb at h
 split at h
 .obtain⟨o,g,q⟩:=h
  obtain⟨u,rfl,ru⟩:=rs.one
  cases rx
  exact bd5 (by omega) I g ru λw' s' I' r'=>⟨_,H,I',r',q⟩
 .obtain⟨o,g,q⟩:=h
  obtain⟨u,w,rfl,ru,rw'⟩:=rs.two
  cases rx
  exact bd6 (by omega) I g ru rw' λw' s' I' r'=>⟨_,H,I',r',q⟩
 .exact h.elim
def Tp{i:Nat}(h:i<sizeLine):dQ (i:Int)=true:=by
 have hs:sizeLine<=9223372036854775807:=bb rfl
 have e:(2:Int)^63=9223372036854775808:=rfl
 unfold dQ
 rw[e,aW]
 exact⟨decide_eq_true (by omega),decide_eq_true (by omega)⟩
def Pw:RM:=λx vs H Q=>∃l xs y,∃i:Nat,x=.ref l/\vs=[.int (i:Int),y]/\H l=some (.lst xs)/\i<=xs.length/\xs.length<sizeLine/\Q .non (upd H l (.lst (xs.take i++y::xs.drop i)))
def Zc:MtR X "list.insert" Pw:=by
 intro ξ s σ H x vs v us Q I rx rv h
 obtain⟨l,xs,y,i,rfl,rfl,hH,hi,hz,q⟩:=h
 cases rx
 obtain⟨u1,u2,rfl,⟨t,rfl⟩,r2⟩:=rv.two
 obtain⟨z,χ,n,r,hl,e⟩:=I.lstM hH
 have hf:=Tp (aZ hi hz)
 have hz':χ.toArray.size<=sizeLine:=by rw[aB,<- hl];exact z
 obtain⟨j,hj⟩:∃j:Int,j=(i:Int):=⟨_,rfl⟩
 rw[<- hj] at hf ⊢
 have hf':¬ (!dQ j)=true:=by rw[hf];decide
 have M:=AutoSeq1.list_insert_list_int_val_1 l χ.toArray n j t u2 hf' hz'
 refine gh i7 ⟨_,e,rfl⟩ PySem.F.entry_list_insert (PySem.F.args_list_insert_3 _ _ _) M ⟨e,?_⟩
 refine⟨.non,_,I.lset hH e ?_ ((r.take i).append (.cons r2 (r.drop i))) ?_,rfl,q⟩
 .have hk:(if j<0 then(j+(χ.toArray.size:Int)).toNat else min j.toNat χ.toArray.size)=i:=by
   rw[if_neg (by omega),aB,hj,bB]
   omega
  rw[hk]
  apply Array.toList_inj.mp
  simp
  exact gR (by simp)
 .rw[ak,aT,aX,dW]
  omega
def an4:RM:=λx vs H Q=>by0 x vs H Q\/an3 x vs H Q
def an5:RM:=λx xs H Q=>∃p k v kvs,x=.ref p/\xs=[kV k,v]/\H p=some (.dK kvs)/\kvs.length<sizeLine/\(match Bt kvs k with
 |some w=>Q w H
 |none=>Q v (upd H p (.dK (E0 kvs k v))))
def ai5:MtR X "dict.setdefault" an5:=by
 intro ξ s σ H x xs v us Q I rx rs h
 obtain⟨p,k,y,kvs,rfl,rfl,e,hl,q⟩:=h
 cases rx
 obtain⟨u1,u2,rfl,ru,rv⟩:=rs.two
 obtain⟨z,hd,vs,rel,dd⟩:=a70 I.hok e
 have hv:=rel.val k
 refine jX ii dd.typeIs PySem.F.entry_dict_setdefault (PySem.F.args_dict_setdefault_3 _ _ _) (kt_meets_setdefault (Ce X.prog X.w) p (La ru) hd u2) ⟨vs,dd,by rw[<- rel.length];exact z,λr hr=>?_,λhr h' dd' hs=>?_⟩
 .rw[hr] at hv
  cases e2:Bt kvs k with
  |none=>rw[e2] at hv;cases hv
  |some w=>rw[e2] at hv q;exact⟨w,H,I.tok _,hv,q⟩
 .rw[hr] at hv
  cases e2:Bt kvs k with
  |some w=>rw[e2] at hv;cases hv
  |none=>
   rw[e2] at q
   have hl2:(E0 kvs k y).length<=sizeLine:=by have:=Fu kvs k y;omega
   have he:∃q,h'.get? p=some q:=let⟨q,_,_,hq,_⟩:=dd';⟨q,hq⟩
   exact⟨y,_,Wn I (by rw[e];exact be) hs he (ad6 hl2 hd (rel.put k rv) dd'),rv,q⟩
def Rt:RM:=λx vs H Q=>False\/an5 x vs H Q
def mtR(K:ae)(m:Str):List BM:=
 if m="append" then [⟨"list","list.append", Be⟩] else
 if m="get" then [⟨"dict","dict.get", Fb⟩] else
 if m="extend" then [⟨"list","list.extend", Gi⟩] else
 if m="clear" then [⟨"list","list.clear", Ur⟩] else
 if m="join" then [⟨"str","str.join", Ij K⟩] else
 if m="setdefault" then [⟨"dict","dict.setdefault", Rt⟩] else
 if m="insert" then [⟨"list","list.insert", Pw⟩] else
 if m="pop" then [⟨"list","list.pop", an4⟩] else
 if m="index" then [⟨"list","list.index", Us⟩] else
 if m="replace" then [⟨"str","str.replace", Pz⟩] else []
def ah9{m:Str}{b:BM}(hu:X.A.units+64<cLine)(h:b∈mtR X.K m):Z3 X m b:=by
 have ok:∀{y} {c},m=y->b=c->Z3 X y c->Z3 X m b:=λe1 e2 z=>by subst e1 e2;exact z
 exact Dj h (λe z=>ok e z ⟨cU,PySem.F.slot_list_append,PySem.F.type_list_append,Oa⟩) λh=>Dj h (λe z=>ok e z ⟨gH,h_,PySem.F.type_dict_get,az6 hu⟩) λh=>Dj h (λe z=>ok e z ⟨cU,PySem.F.slot_list_extend,PySem.F.type_list_extend,Zb⟩) λh=>
  Dj h (λe z=>ok e z ⟨cU,PySem.F.slot_list_clear,PySem.F.type_list_clear,ai0⟩) λh=>Dj h (λe z=>ok e z ⟨jD,PySem.F.slot_str_join,PySem.F.type_str_join,ai2⟩) λh => 
  Dj h (λe z=>ok e z ⟨gH,ii,PySem.F.type_dict_setdefault,λξ s σ H x vs v us Q I rx rv h=>ai5 ξ s σ H x vs v us Q I rx rv (h.resolve_left id)⟩) λh=>Dj h (λe z=>ok e z ⟨cU,i7,PySem.F.type_list_insert,Zc⟩) λh=>Dj h (λe z=>ok e z ⟨cU,PySem.F.slot_list_pop,PySem.F.type_list_pop,λξ s σ H x vs v us Q I rx rv h=>h.elim (bg0 ξ s σ H x vs v us Q I rx rv) (ai3 ξ s σ H x vs v us Q I rx rv)⟩) λh=>Dj h (λe z=>ok e z ⟨cU,ji,PySem.F.type_list_index,ai1⟩) λh=>Dj h (λe z=>ok e z ⟨jD,PySem.F.slot_str_replace,PySem.F.type_str_replace,ai4⟩) λh=>nomatch h
theorem Py{K:ae}:∀{bs} {x} {H1} {ta} {Q},rMt K bs x H1 ta Q -> ∃b∈bs,tyV K b.T x H1/\ta H1 λxs H2=>b.r x xs H2 Q
 |[],_,_,_,_,h=>h.elim
 |[b],_,_,_,_,h=>⟨b,by simp,h⟩
 | b::c::rest,x,H1,ta,Q,h=>by
  rcases h with h|h
  .exact⟨b,by simp,h⟩
  .obtain⟨d,hd,q⟩:=Py h
   exact⟨d,aK _ hd,q⟩
def C6:Expr->Bool
 |.Call (.Name x _) [] [] _=>!(x==("super" : Str))
 |_=>true
def Dh{e:Expr}(h:C6 e=true)(f:Str)(env:Env)(whole:Sem aj):jm e f env whole=whole:=by
 unfold jm
 split
 .rename_i id p pos
  have:(id==("super" : Str))=false:=by
   have h':(!(id==("super" : Str)))=true:=h
   simpa using h'
  have e2:(id != "super")=true:=by
   show(!(id == "super"))=true
   rw[this]
   rfl
  rw[e2]
  simp
 .rfl
variable {o:Expr}{do':DE}{es:List Expr}{r:DA}{m:Str}{apos cpos:Pos}
def bn8{bs:List BM}(hb:∀b∈bs,Z3 X m b)(ho:QE X o do')(h1:C6 o=true)(h4:(apos.endLine==cpos.line)=true) :
  QE X (.Call (.Attribute o m apos) [] [] cpos) (dMt (rMt X.K bs) do' Ae):=by
 intro Ex mt ξ s σ H Q I h
 refine jp (Dh h1 m X.env _) h4 (thn (ho Ex mt ξ s σ H _ I h) λv s1 ⟨x,H1,I1,r1,q1⟩=>?_)
 obtain⟨b,hbm,ty,q⟩:=Py q1
 obtain⟨k1,k2⟩:=as7 I1 r1 ty
 have B:=hb b hbm
 exact⟨b.T,b.id,B.pa,B.slot,B.ty,k1,k2,gQ rfl (kM (B.mt ξ s1 σ H1 x [] v [] Q I1 r1 .nil q))⟩
def bx4{bs:List BM}{e:Expr}(hb:∀b∈bs,Z3 X m b)(ho:QE X o do')(ha:QA X (e::es) r)(h1:C6 o=true)(h2:(e::es).all Ba=true)(h3:(e::es).length<30)(h4:(apos.endLine==cpos.line)=true) :
  QE X (.Call (.Attribute o m apos) (e::es) [] cpos) (dMt (rMt X.K bs) do' r):=by
 intro Ex mt ξ s σ H Q I h
 have hs:=cx▸h2
 rw[aW] at hs
 have hfew:((jv cpos (cZ (e::es) X.env)).all (λx=>!x.1)&&(lV cpos (jn [] X.env)).all (λx=>x.1.isSome)
   && decide ((e::es).length+([]:List lX).length+(if([]:List lX).isEmpty then 0 else 1)<30))=true:=by
  rw[Jy h2]
  have:decide ((e::es).length+([]:List lX).length+(if([]:List lX).isEmpty then 0 else 1)<30)=true:=by
   rw[decide_eq_true_iff]
   simpa using h3
  rw[this]
  rfl
 refine wpAny_Call_method_late (Dh h1 m X.env _) hfew h4 rfl (thn (ho Ex mt ξ s σ H _ I h) λv s1 ⟨x,H1,I1,r1,q1⟩=>?_)
 obtain⟨b,hbm,ty,q⟩:=Py q1
 obtain⟨k1,k2⟩:=as7 I1 r1 ty
 have B:=hb b hbm
 refine⟨b.T,b.id,B.pa,B.slot,B.ty,k1,k2,?_⟩
 have hA:=ha Ex mt cpos ξ s1 σ H1 _ I1 q
 rw[A7 hs.1] at hA ⊢
 exact gQ (by show(false||(jv cpos (cZ es X.env)).any (·.1))=false;rw[Cz hs.2] <;> rfl) (Calls.evalArgs_plain (thn hA λus s2 ⟨vs,H2,I2,r2,q2⟩=>B.mt ξ s2 σ H2 x vs v us Q I2 r1 r2 q2))
variable {x:Str}{p pos:Pos}{G:Sg}
def bn4{f:BF}{rf:RF}{e:Expr}(hc:Cm X f.val rf)(hg:Gl X x)(hm:X.mg x=none)(hv:cX x=some f.val)(ha:QA X (e::es) r)(hs:(e::es).all Ba=true)(hn:x ≠ "__name__")(hdb:(x==("__debug__" : Str))=false) :
  QE X (.Call (.Name x p) (e::es) [] pos) (dFn (λvs H Q _=>rf vs H Q) r):=by
 intro Ex mt
 have h:=cx▸hs
 rw[aW] at h
 cases f with
 |bf id=>exact aj9 hc hg hm hv (ha Ex mt) hn hdb (A7 h.1 es X.env) (Cz h.2 X.env pos)
 |ty T=>exact Zh hc hg hm hv (ha Ex mt) hn hdb (A7 h.1 es X.env) (Cz h.2 X.env pos)
def spE(sp:Sp)(dvs:List V):List V->Hp->VK->EK->Prop:=λvs H Q E=>sp (vs++dvs) H Q (λv _ H'=>∃a,v=.ref a/\E a H')
def Xr{i:FI}(F:Ir X i){j:Nat}(hj:j<=i.dfs.length){Ex:St->EK}(mt:Meets X Ex){ξ:List (Addr×Obj)}{σ:St}{H:Hp}{s:aq}{Q:VK}{us:List aj}{vs:List V}(I:Inv X ξ σ H s)(r:Vals vs us)(h:spE i.sp (i.dfs.drop j) vs H Q (Ex σ)):ba (model X.prog X.w) X.A (call (.ref i.f) us) (EP X ξ σ Q) X.xe s:=by
 have FO:=F.ok
 have r2:=r.append (F.vals.drop j)
 have hl:(us++i.ds.drop j).length=i.ps.length:=by rw[<- r2.length];exact FO.len _ _ _ _ h
 refine il (fJ (FO.run X.A X.stack s H ⟨us,[]⟩ (us++i.ds.drop j) (vs++i.dfs.drop j) Q _ F.room I.env0 (F.binds j hj s us I.kIn hl) r2 h) λr s' hq=>?_)
 cases r with
 |error e=>exact hq.elim
 |ok fl=>
  cases fl with
  |ret u=>exact I.after hq
  |next=>exact cA hq
  |brk=>exact cA hq
  |cont=>exact cA hq
noncomputable def Ec:List DE->DA
 |[]=>Ae
 |a::r=>Aa a (Ec r)
theorem Eg{X:Cx}{w:Expr->DE}(h:∀e,QE X e (w e)):∀{es},es.all Ba=true->QA X es (Ec (es.map w))
 |[],_=>Pq
 | e::es,hs=>by
  rw[cx,aW] at hs
  exact Ko (h e) (Eg h hs.2) hs.1
def Wl{w:Expr->DE}{f:Addr}{first:List aj}(kp:bP X.K (.ref f)=true)(h:∀e,QE X e (w e))(hs:es.all Ba=true){Ex:St->EK}(mt:Meets X Ex){ξ:List (Addr×Obj)}{σ:St}{H:Hp}{s:aq}{C:List V->Hp->Prop}{P:aj->aq->Prop}(I:Inv X ξ σ H s)(ha:Ec (es.map w) σ H C (Ex σ))(run:∀us vs H1 s1,Inv X ξ σ H1 s1->Vals vs us->C vs H1->ba (model X.prog X.w) X.A (call (.ref f) (first++us)) P X.xe s1) :
  ba (model X.prog X.w) X.A (callWith pos (.ref f) first (jv pos (cZ es X.env)) (lV pos (jn [] X.env))) P X.xe s:=by
 cases es with
 |nil=>exact PySem.W.callWith_K0 I.kIn kp (run [] [] H s I .nil ha)
 |cons e es=>
  have h2:=cx▸hs
  rw[aW] at h2
  exact PySem.W.callWith_K I.ok.mod.kin kp (thn (Eg h hs Ex mt pos ξ s σ H _ I ha) λus s1 ⟨vs,H1,I1,r,q⟩=>⟨I1.kIn,run us vs H1 s1 I1 r q⟩) (A7 h2.1 es X.env) (Cz h2.2 X.env pos)
def a87{w:Expr->DE}{f:Addr}{R:List V->Hp->VK->EK->Prop}(h:∀e,QE X e (w e))(hs:es.all Ba=true)(hg:Gl X x)(hdb:(x==("__debug__" : Str))=false)(hm:X.mg x=some (.ref f))(kp:bP X.K (.ref f)=true)(run:∀{Ex} {ξ}{σ:St}{H:Hp}{s:aq}{Q:VK}{us:List aj}{vs:List V},Meets X Ex->Inv X ξ σ H s->Vals vs us->R vs H Q (Ex σ)->ba (model X.prog X.w) X.A (call (.ref f) us) (EP X ξ σ Q) X.xe s) :
  QE X (.Call (.Name x p) es [] pos) (dFn R (Ec (es.map w))):=by
 intro Ex mt ξ s σ H Q I q
 exact dz (Pa I hg hm (Wl kp h hs mt I q λus vs H1 s1 I1 r q=>run mt I1 r q) hdb)
def mkC(C:Addr):Option FI->Nat->List V->Hp->VK->EK->Prop
 |none,_=>λvs H Q _=>vs=[]/\∀a dx,H a=none->H dx=none->dx≠a->Q (.ref a) (upd (upd H dx (.own a)) a (.ins C dx []))
 | some i,j=>λvs H Q E=>∀a dx,H a=none->H dx=none->dx≠a ->
   i.sp (.ref a::(vs++i.dfs.drop j)) (upd (upd H dx (.own a)) a (.ins C dx [])) (λv H2=>v=.non/\Q (.ref a) H2) (λv _ H'=>∃b,v=.ref b/\E b H')
section
variable {prog:a7}{w:bL}{A:bJ}{s:aq}{K:ae}{C:Addr}
def Y8{R:mJ->aq->Prop}(X:K.In s.heap)(hm:cB K C=true)(hi:bA K (.ref C) "__init__"=some (some (.builtin "object.__init__")))(hb:∀self,gJ (model prog w) s.heap (bindSpecial (.builtin "object.__init__") self) (.builtin "object.__init__", [self]))(h:ic (model prog w) (A.under (.builtin "type.__call__" ⟨[.ref C],[]⟩)) (.call (.builtin "object.__init__") ⟨[.ref (s.heap.objs.size+1)],[]⟩) (PySem.W.InitBack (s.heap.objs.size+1) R)
   {s with heap:=(s.heap.push bY).push (ce C s.heap.objs.size)}) :
  ic (model prog w) A (.call (.ref C) ⟨[],[]⟩) R s:=by
 obtain⟨hh,g,d,t,os⟩:=s
 exact PySem.W.make_core (ju X hm) (kq X hi) hb (.inr ⟨rfl,rfl⟩) h
end
def Zo{C:Addr}(h1:cB X.K C=true)(h2:bA X.K (.ref C) "__init__"=some (some (.builtin "object.__init__"))){ξ:List (Addr×Obj)}{σ:St}{H:Hp}{s:aq}{Q:VK}(I:Inv X ξ σ H s)(h:∀a dx,H a=none->H dx=none->dx≠a->Q (.ref a) (upd (upd H dx (.own a)) a (.ins C dx []))):ba (model X.prog X.w) X.A (call (.ref C) []) (EP X ξ σ Q) X.xe s:=by
 have hq:=h (s.heap.objs.size+1) s.heap.objs.size (I.hok.fresh (cS _)) (I.hok.fresh (ag _)) (aV (bS _))
 have I2:=Inv.made (C:=C) I
 have e2:((s.heap.push bY).push (ce C s.heap.objs.size)).get? (s.heap.objs.size+1)=some (ce C s.heap.objs.size):=by
  have z:=aL (s.heap.push bY) (o:=ce C s.heap.objs.size) rfl
  rwa[dF] at z
 refine il (Y8 I.kIn h1 h2 (λself=>.of_pure (PySem.W.oi_bind self)) ?_)
 have ty:gJ (model X.prog X.w) ((s.heap.push bY).push (ce C s.heap.objs.size)) (typeOf (.ref (s.heap.objs.size+1))) (.ref C):=(PySem.W.Looks.ld e2).andThen .now
 have io:gJ (model X.prog X.w) ((s.heap.push bY).push (ce C s.heap.objs.size)) (isInstance (.ref (s.heap.objs.size+1)) (.type "object")) true:=
  ty.andThen ((ju (M:=model X.prog X.w) I.kIn h1).top.keeps λb o e=>ai _ (ai _ e))
 refine kx PySem.W.oi_plain PySem.W.entry_oi (PySem.W.check_slot (s:={s with heap:=(s.heap.push bY).push (ce C s.heap.objs.size)}) (i := "object.__init__") (owner := "object") (self:=.ref (s.heap.objs.size+1)) PySem.W.oi_kind PySem.W.oi_split io (PySem.W.oi_args _) ?_)
 rw[PySem.W.oi_run]
 exact ao ⟨rfl,⟨.ref _,_,I2,rfl,hq⟩⟩
def a43{C f:Addr}{k:Nat}{fd:bw}{ps:List Str}{sp:Sp}{ds:List aj}{dvs:List V}{E:XK}{ξ:List (Addr×Obj)}{σ:St}{H:Hp}{s:aq}{Q:VK}{us:List aj}{vs:List V}(M:Mk X.K C f)(F:FnOk X.prog X.w X.K X.mg X.base CX0 k f fd ps sp)(hr:Room (k+1) X.A)(hb:Binds X.K fd ps ds)(hd:Vals dvs ds)(I:Inv X ξ σ H s)(r:Vals vs us)(h:∀x dx,H x=none->H dx=none->dx≠x->sp (.ref x::(vs++dvs)) (upd (upd H dx (.own x)) x (.ins C dx [])) (λv H2=>v=.non/\Q (.ref x) H2) E) :
  ba (model X.prog X.w) X.A (call (.ref C) us) (EP X ξ σ Q) X.xe s:=by
 have hq:=h (s.heap.objs.size+1) s.heap.objs.size (I.hok.fresh (cS _)) (I.hok.fresh (ag _)) (aV (bS _))
 have I2:=Inv.made (C:=C) I
 have r2:Vals (V.ref (s.heap.objs.size+1)::(vs++dvs)) (dE (s.heap.objs.size+1)::(us++ds)):=.cons rfl (r.append hd)
 have hl:(dE (s.heap.objs.size+1)::us++ds).length=ps.length:=by
  have e:=r2.length
  rw[F.len _ _ _ _ hq] at e
  exact e.symm
 refine il (ah0 I.kIn M.makes M.init (beq_iff_eq.mp M.fn) (fJ (F.run _ X.stack _ _ ⟨dE (s.heap.objs.size+1)::us,[]⟩ (dE (s.heap.objs.size+1)::(us++ds)) _ _ E (hr.make C us [])
  (I2.env0.make C us []) (hb _ (dE (s.heap.objs.size+1)::us) I2.kIn hl) r2 hq) λr s' hq'=>?_))
 cases r with
 |error e=>exact hq'.elim
 |ok fl=>
  cases fl with
  |ret u=>
   obtain⟨v,H',I3,rv,ev,q3⟩:=I2.after hq'
   subst ev
   exact⟨rv,⟨V.ref (s.heap.objs.size+1),H',I3,rfl,q3⟩⟩
  |next=>exact cA hq'
  |brk=>exact cA hq'
  |cont=>exact cA hq'
def a44{C:Addr}{oi:Option FI}{j:Nat}(hi:bb9 X C oi)(hj:∀i,oi=some i->j<=i.dfs.length){Ex:St->EK}(mt:Meets X Ex){ξ:List (Addr×Obj)}{σ:St}{H:Hp}{s:aq}{Q:VK}{us:List aj}{vs:List V}(I:Inv X ξ σ H s)(rv:Vals vs us)(kp:bP X.K (.ref C)=true)(h:mkC C oi j vs H Q (Ex σ)):ba (model X.prog X.w) X.A (call (.ref C) us) (EP X ξ σ Q) X.xe s:=by
 cases oi with
 |none=>
  obtain⟨rfl,h⟩:=h
  cases rv
  exact Zo hi.1 hi.2 I h
 |some i=>
  obtain⟨h0,h1,h2,F,hr⟩:=hi
  exact a43 ⟨h0,h1,h2,kp⟩ F.ok hr (F.binds j (hj i rfl)) (F.vals.drop j) I rv h
noncomputable def Bw(m:Str)(n:Nat)(l:List MI)(o:DE)(t:DA):DE:=λσ H Q E=>o σ H (λx H1=>∃a dx fs mi,x=.ref a/\mi∈l/\H1 a=some (.ins mi.C dx fs)/\fs.lookup m=none/\(n+1<=mi.i.ps.length/\mi.i.ps.length<=n+1+mi.i.dfs.length) /\
 t σ H1 (λvs H2=>spE mi.i.sp (mi.i.dfs.drop (n+1+mi.i.dfs.length-mi.i.ps.length)) (.ref a::vs) H2 Q E) E) E
def aj8{es:List Expr}{P:aj->aq->Prop}{s:aq}(h1:C6 o=true)(h2:es.all Ba=true)(h3:es.length<30)(h4:(apos.endLine==cpos.line)=true)(h:ba (model X.prog X.w) X.A (eval o X.env) (λov s1=>∀pl,ba (model X.prog X.w) X.A (getMethod ov m pl) (λfx s2=>ba (model X.prog X.w) X.A (callWith cpos fx.1 fx.2 (jv cpos (cZ es X.env)) (lV cpos (jn [] X.env))) P X.xe s2) X.xe s1) X.xe s) :
  ba (model X.prog X.w) X.A (eval (.Call (.Attribute o m apos) es [] cpos) X.env) P X.xe s:=by
 have few:methodCallForm (es.length+([]:List lX).length) (jv cpos (cZ es X.env)) (lV cpos (jn [] X.env))=true:=by
  unfold methodCallForm
  rw[Jy h2]
  simpa [lV,jn] using h3
 rw[arm_eval_Call,Dh h1]
 refine ah (thn h λov s1 h1=>ah (fO ?_))
 unfold methodCall calleeOf
 rw[few,if_pos rfl]
 refine ah (bQ (thn (h1 _) λfx s2 h2=>?_))
 have hp:methodCallPos true o X.env apos cpos=pure cpos:=by unfold methodCallPos;rw[h4];rfl
 rw[hp]
 exact ah (ao h2)
def bo2{l:List MI}{w:Expr->DE}(hl:∀mi∈l,Cls X.K mi.C/\Mi X.K mi.C m mi.i.f/\Ir X mi.i)(h:∀e,QE X e (w e))(h1:C6 o=true)(h2:es.all Ba=true)(h3:es.length<30)(h4:(apos.endLine==cpos.line)=true) :
  QE X (.Call (.Attribute o m apos) es [] cpos) (Bw m es.length l (w o) (Ec (es.map w))):=by
 intro Ex mt ξ s σ H Q I q
 refine aj8 h1 h2 h3 h4 (thn (h o Ex mt ξ s σ H _ I q) λu s1 ⟨x,H1,I1,rx,a,dx,fs,mi,ex,hm,ea,hf,hn,q⟩ pl=>?_)
 subst ex
 obtain rfl:u=dE a:=rx
 obtain⟨c,k,F⟩:=hl mi hm
 exact Tt I1 ea c k hf (Wl k.kp h h2 mt I1 q λus vs H2 s2 I2 r2 q2=>Xr (vs:=.ref a::vs) F (by omega) mt I2 (.cons rfl r2) q2)
noncomputable def Jv:DE:=λ_ H Q _=>∀p,H p=none->Q (.ref p) (upd H p (.dK []))\/False
def a24:QE X (.Dict [] [] pos) Jv:=λEx mt ξ s σ H Q I h=>by
 have fr:=I.hok.fresh (ag s.heap.objs.size)
 exact wpAny_Dict_empty ⟨.ref _,_,I.laid (λ_ _ q=>ai _ q) (ag _) (ad5 s.heap I.big),rfl,(h _ fr).resolve_right id⟩
section
variable {o:Expr}{do':DE}
def a36:V->Hp->VK->Prop:=λx H Q=>match x with
 |.int i=>i.natAbs.log2<1920/\Q (.str (fg i)) H
 |.str z=>z.length<=sizeLine/\Q (.str z) H
 |_=>False
def Wm:Str->List DE->DE
 |out,[]=>λ_ H Q _=>out.length<=sizeLine/\Q (.str out) H
 | out,d::ds=>λσ H Q E=>d σ H (λx H1=>match x with
  |.str y=>(out++y).length<=sizeLine/\Wm (out++y) ds σ H1 Q E
  |_=>False) E
def bn6(ho:QE X o do'):QE X (.FormattedValue o (-1) none pos) (dUn a36 do'):=by
 intro Ex mt ξ s σ H Q I h
 refine FormattedValue_plain (thn (ho Ex mt ξ s σ H _ I h) λu s1 ⟨x,H1,I1,rx,q⟩=>?_)
 cases x with
 |int i=>obtain⟨t,rfl⟩:=rx;exact formatField_int_small q.1 ⟨.str _,H1,I1.tok _,⟨_,rfl⟩,q.2⟩
 |str z=>obtain⟨t,rfl⟩:=rx;exact bD (ag _) (formatField_str (λt' tk htk=>⟨.str _,H1,I1.tok _ htk,⟨_,rfl⟩,q.2⟩) q.1)
 |_=>exact(show False from q).elim
theorem Wy{w:Expr->DE}(h:∀e,QE X e (w e)){Ex:St->EK}(mt:Meets X Ex){ξ:List (Addr×Obj)}{σ:St}{Q:VK}:∀{es:List Expr}{out:Str}{s:aq}{H:Hp},Inv X ξ σ H s->Wm out (es.map w) σ H Q (Ex σ) ->
  ba (model X.prog X.w) X.A (joinParts out (evalEach es X.env)) (EP X ξ σ Q) X.xe s
 |[],out,s,H,I,q=>joinParts_nil ⟨.str _,H,I.tok _,⟨_,rfl⟩,q.2⟩ q.1
 | e::es,out,s,H,I,q=>joinParts_cons (thn (h e Ex mt ξ s σ H _ I q) λu s1 ⟨x,H1,I1,rx,q⟩=>by
  cases x with
  |str y=>obtain⟨t,rfl⟩:=rx;exact⟨q.1,Wy h mt I1 q.2⟩
  |_=>exact(show False from q).elim)
noncomputable def ba2(w:Expr->DE):List Expr->DE
 |[]=>dNo
 |[e]=>w e
 |e::f::es=>Wm bU ((e::f::es).map w)
theorem a26{w:Expr->DE}(h:∀e,QE X e (w e)):∀(es:List Expr),QE X (.JoinedStr es pos) (ba2 w es)
 |[]=>Bo
 |[e]=>λEx mt ξ s σ H Q I q=>JoinedStr_one (h e Ex mt ξ s σ H Q I q)
 |e::f::es=>λEx mt ξ s σ H Q I q=>JoinedStr_many (Wy (es:=e::f::es) h mt I q)
end
def Zk{a:Expr}{da:DE}{p2 pos2:Pos}(hc:X.calm=true)(hg:Gl X "sorted")(hm:X.mg "sorted"=none)(hg2:Gl X "set")(hm2:X.mg "set"=none)(ha:QE X a da)(hs:Ba a=true) :
  QE X (.Call (.Name "sorted" p) [.Call (.Name "set" p2) [a] [] pos2] [] pos) (dUn (Ik X.K) da):=by
 intro Ex mt ξ s σ H Q I h
 refine dz (Em I hg hm Fm (h9 (iJ ?_) rfl rfl) (by decide) (by decide))
 refine dz (Em I hg2 hm2 PyProof.Rows.boot_set (cT ?_ (A7 hs [] X.env) rfl) (by decide) (by decide))
 rw[A7 hs]
 show ba _ _ (spliced ((false,eval a X.env)::jv pos2 (cZ [] X.env))) _ _ s
 refine iJ (thn (ha Ex mt ξ s σ H _ I h) λu s1 ⟨x,H1,I1,r1,q1⟩=>iW ?_)
 exact thn (ao7 hc I1 r1 q1) λv s2 q=>iW q
end
noncomputable def ad4(K:ae)(m:Str)(l:List MI)(a o:DE):DE:=λσ H Q E=>Aa a Ae σ H (λxs H1=>o σ H1 (λy H2=>∃(p b dx:Addr)(fs:List (Str×V))(mi:MI)(zs:List Str)(kf:Str->Int),xs=[.ref p]/\(SqL K H2 p (zs.map V.str) \/ ∃kvs,Rd H2 p (.dK kvs)/\kvs.map (·.1)=zs.map fA)/\zs.Nodup/\zs.length<64/\y=.ref b/\mi∈l/\H2 b=some (.ins mi.C dx fs)/\fs.lookup m=none /\
 (∀z∈zs,∀H3,Same H2 H3->spE mi.i.sp [] [.ref b,.str z] H3 (λv H4=>∃q,v=.ref q/\Same H3 H4/\H4 q=some (.tup [.int (kf z),.str z])) (λ_ _=>False))/\∀H3 D,Same H2 H3->H2 D=none->H3 D=some (.lst ((An (ltK kf) zs).map V.str))->Q (.ref D) H3) E) E
section
variable {X:Cx}{a o:Expr}{da do':DE}{p ap kp pos:Pos}{m:Str}
def a29{l:List MI}(hc:X.calm=true)(hl:∀mi∈l,bb8 X m mi)(hg:Gl X "sorted")(hm:X.mg "sorted"=none)(ha:QE X a da)(ho:QE X o do')(hs:Ba a=true)(h1:C6 o=true):QE X (.Call (.Name "sorted" p) [a] [⟨some "key", .Attribute o m ap,kp⟩] pos) (ad4 X.K m l da do'):=by
 intro Ex mt ξ s σ H Q I h
 have hA:=Ko ha Pq hs
 refine dz (Em I hg hm Fm ?_ (by decide) (by decide))
 refine ku ?_ rfl ?_
 .rw[A7 hs [] X.env];rfl
 have e0:cZ [a] X.env=[(false,eval a X.env)]:=by rw[A7 hs [] X.env];rfl
 have hh:=hA Ex mt pos ξ s σ H _ I h
 rw[e0] at hh ⊢
 refine ah (thn hh λus s1 ⟨vs,H1,I1,r1,q1⟩=>ah (ao (bQ ?_)))
 show ba (model X.prog X.w) X.A (do
  let l <- evalAll [do let v <- eval (.Attribute o m ap) X.env;standAt pos;pure v]
  let ps <- (pure us:Sem (List aj))
  pure (⟨ps,[("key" : Str)].zip l⟩:Args)) _ _ s1
 refine ah (lm (ah (Wc (Dh h1 _ X.env _) (thn (ho Ex mt ξ s1 σ H1 _ I1 q1) λov s2 ⟨y,H2,I2,ry,q2⟩=>?_))))
 obtain⟨pp,b,dx,fs,mi,zs,kf,rfl,hp,nd,h64,rfl,hm,eb,hf,hk,q⟩:=q2
 cases ry
 obtain⟨u,rfl,ru⟩:=Ei r1
 cases ru
 have K:=hl mi hm
 refine Yw I2 eb K.c K.k K.sg K.tk K.cn hf λs3 g3 l3 I3=>?_
 refine ah (fO (ao (wpAny_evalAll_nil (ah (ao (ao ?_))))))
 have fb:=I2.fpOk (ag _) (I2.hok.fresh (ag _))
 have I4:Inv X (ξ++[(s2.heap.objs.size,i8 (.ref mi.i.f) (.ref b))]) σ H2 s3:=I3.pins_of λp hp=>by
  rcases List.mem_append.mp hp with hp|hp
  .exact I3.pin p (aN _ hp)
  .rw[List.mem_singleton.mp hp]
   exact⟨g3,fb.1,fb.2.1,fb.2.2.1,λv z=>by cases z⟩
 exact b9 (a49 (v:=V.str) (KR:=be6 kf) bU hc I4 (Wz hp) (Kj nd) h64 (λS ⟨q,e,h⟩=>⟨q,e,S _ _ h⟩) (λz hz pl s' H3 u I' S ru=>(b9 (a42 K I' (I'.pin (s2.heap.objs.size,_) (by simp)).1 ru (hk z hz H3 S)) (λv s'' ⟨w,H4,J,r,q,e,S2,h⟩=>⟨w,H4,J,r,⟨q,e,h⟩,S2⟩) λ_ _ z=>z)) (λa b c d=>@λ_ e=>bt7 a b c d e) q) (λv s' ⟨y,H',J,r,qq⟩=>⟨y,H',J.unpinned,r,qq⟩) λ_ _ z=>z
end
def a91(K:ae)(sp:Sp)(p:Addr)(H:Hp)(Q:VK):Prop:=∃x1 x2 d1 d2,SqL K H p [x1,x2]/\sp [x1] H (λw1 H2=>Same H H2/\At K H2 d1 w1/\sp [x2] H2 (λw2 H3=>Same H2 H3/\At K H3 d2 w2/\D1 d2 d1=true/\dep d2<=20/\Q (if dlt d2 d1=true then x2 else x1) H3) λ_ _ _=>False) λ_ _ _=>False
noncomputable def ad3(K:ae)(sp:Sp)(a:DE):DE:=λσ H Q E=>Aa a Ae σ H (λxs H1=>∃p,xs=[.ref p]/\a91 K sp p H1 Q) E
section
variable {X:Cx}{ξ:List (Addr×Obj)}{σ:St}{H:Hp}{s:aq}
def Xs{i:FI}(F:Ir X i)(hr:Room (i.k+1) X.A){x:V}{u:aj}{Q:VK}(I:Inv X ξ σ H s)(ru:RelV x u)(h:i.sp [x] H Q λ_ _ _=>False):ba (model X.prog X.w) X.A.in1 (call (.ref i.f) [u]) (EP X ξ σ Q) (λ_ _=>False) s:=by
 have FO:=F.ok
 have r2:Vals [x] [u]:=.cons ru .nil
 have hl:=FO.len _ _ _ _ h
 have hd:=F.binds i.dfs.length (ag _)
 rw[c6 (by rw[F.vals.length];exact ag _)] at hd
 have hb2:=hd s [u] I.kIn hl
 rw[bG] at hb2
 refine il (fJ (FO.run X.A.in1 X.stack s H ⟨[u],[]⟩ [u] _ Q _ hr.in1 I.env0.in1 hb2 r2 h) λr s' hq=>?_)
 cases r with
 |error e=>exact hq.elim
 |ok fl=>
  cases fl with
  |ret u=>exact I.after hq
  |next=>exact cA hq
  |brk=>exact cA hq
  |cont=>exact cA hq
def az3{i:FI}(hu:X.A.units+64<cLine)(hc:X.calm=true)(F:Ir X i)(hr:Room (i.k+1) X.A){p:Addr}{Q:VK}(I:Inv X ξ σ H s)(h:a91 X.K i.sp p H Q) :
  ba (model X.prog X.w) X.A (call (.builtin "min") [.ref p] [("key", .ref i.f)]) (EP X ξ σ Q) X.xe s:=by
 obtain⟨x1,x2,d1,d2,hq,h1⟩:=h
 obtain⟨χ,rv,pl,hz⟩:=I.list hq
 obtain⟨u1,u2,rfl,ru1,ru2⟩:=rv.two
 have hname:(fg "min" ++ fg ".loop" : String)="min.loop" := by decide
 obtain⟨o,n,e,c,hd,ds⟩:=id pl
 have plt:=aQ e
 refine kmk_tree PySem.F.kind_min PySem.F.plain_min PySem.F.entry_min (kmk_min_key _ _) ?_
 show ba _ X.A.in1 (iq "min" ["key","default"] 0 ⟨[],[(eA "key", .ref i.f)]⟩ >>= _) _ _ s
 refine ah (mo (show iq "min" ["key","default"] 0 ⟨[],[(eA "key", .ref i.f)]⟩=pure [some (.ref i.f),none] from rfl) ?_)
 refine ah (ao ?_)
 refine ah (g_ pl.isList ?_)
 refine ah (fh ?_ (bo _))
 rw[hname]
 have hS:(s.heap.push {cls:=.type "list_iterator", data:=.fields #[.ref p,.int 0 0]}).objs.size=s.heap.objs.size+1:=j9 ..
 have hlI:p≠s.heap.objs.size:=aV plt
 have I1:Inv X ξ σ H {s with heap:=(s.heap.push {cls:=.type "list_iterator", data:=.fields #[.ref p,.int 0 0]}).push (bu "list" #[] 0)}:=I.kept λb o e=>ai _ (ai _ e)
 have gI:((s.heap.push {cls:=.type "list_iterator", data:=.fields #[.ref p,.int 0 0]}).push (bu "list" #[] 0)).get? s.heap.objs.size=some {cls:=.type "list_iterator", data:=.fields #[.ref p,.int 0 0]}:=ai _ (aL _ rfl)
 have gS:((s.heap.push {cls:=.type "list_iterator", data:=.fields #[.ref p,.int 0 0]}).push (bu "list" #[] 0)).get? (s.heap.push {cls:=.type "list_iterator", data:=.fields #[.ref p,.int 0 0]}).objs.size=some (bu "list" #[] 0):=aL _ rfl
 have fI:∀{H':Hp},H' s.heap.objs.size=none->Ek X ξ H' s.heap.objs.size:=λhn=>I.fpOk (ag _) hn
 have fS:∀{H':Hp},H' (s.heap.objs.size+1)=none->Ek X ξ H' (s.heap.objs.size+1):=λhn=>I.fpOk (cS _) hn
 have nI:=I.hok.fresh (ag s.heap.objs.size)
 have nS:=I.hok.fresh (cS s.heap.objs.size)
 have hSI:s.heap.objs.size+1≠s.heap.objs.size:=dG (bS _)
 have pl1:=I1.list hq
 rw[hS] at gS ⊢
 refine ao ⟨ff cG _,?_⟩
 generalize ((s.heap.push {cls:=.type "list_iterator", data:=.fields #[.ref p,.int 0 0]}).push (bu "list" #[] 0))=h1' at I1 gI gS pl1 ⊢
 generalize eI:s.heap.objs.size=it at *
 clear eI
 have hh:X.A.in1.handled=none:=I.ok.hd hc
 have un:∀{H':Hp}{s':aq}{o1 o2:Obj},Inv X ξ σ H' s'->s'.heap.get? (it+1)=some o1->s'.heap.get? it=some o2->H' (it+1)=none->H' it=none->(∀v,o1.data≠.cell v)->(∀v,o2.data≠.cell v)->Inv X (ξ++[(it+1,o1),(it,o2)]) σ H' s':=λ{H' s' o1 o2} I' g1 g2 n1 n2 c1 c2=>I'.pins_of λq hq=>by
  rcases List.mem_append.mp hq with hq|hq
  .exact I'.pin q (aN _ hq)
  .rcases List.mem_cons.mp hq with rfl|hq
   .have f:=fS n1
    exact⟨g1,f.1,f.2.1,f.2.2.1,c1⟩
   .rw[List.mem_singleton.mp hq]
    have f:=fI n2
    exact⟨g2,f.1,f.2.1,f.2.2.1,c2⟩
 have tI:∀{H':Hp}{s':aq}{h2:Heap}{tk:Nat},Inv X ξ σ H' s'->H' it=none->(∀b o,b≠it->s'.heap.get? b=some o->h2.get? b=some o)->s'.toks<=tk->Inv X ξ σ H' {s' with heap:=h2,toks:=tk}:=λI' n k ht=>by
  have f:=fI n
  exact I'.turned (λb o nb e=>k b o nb e) f.1 f.2.1 f.2.2.2.1 f.2.2.2.2.1 f.2.2.2.2.2 ht
 have tS:∀{H':Hp}{s':aq}{h2:Heap},Inv X ξ σ H' s'->H' (it+1)=none->(∀b o,b≠it+1->s'.heap.get? b=some o->h2.get? b=some o)->Inv X ξ σ H' {s' with heap:=h2}:=λ{H' s' h2} I' n k=>by
  have f:=fS n
  exact I'.turned (t':=s'.toks) (λb o nb e=>k b o nb e) f.1 f.2.1 f.2.2.2.1 f.2.2.2.2.1 f.2.2.2.2.2
 have fin:∀{H':Hp}{s':aq}{vb kb:aj}{xb:V}{c:Nat},Inv X ξ σ H' s'->Same H H'->H' (it+1)=none->H' it=none->s'.heap.get? (it+1)=some (bu "list" #[vb,kb] c)->s'.heap.IsListIter it p 2->RelV xb vb->Q xb H' ->
   ic (model X.prog X.w) X.A (.builtin "min.loop" ⟨[.ref it,.ref i.f,.ref (it+1)],[]⟩) (λr s'=>match r with | .ok (.ret v)=>EP X ξ σ Q v s' | .ok _=>False | .error e=>X.xe e s') s':=λ{H' s' vb kb xb c} I' S n1 n2 gS it2 rb q=>by
  obtain⟨χ,rv,pl,_⟩:=I'.list (S.seqL hq)
  obtain⟨b1,b2,rfl,_,_⟩:=rv.two
  refine cH gT ?_
  rw[cE cG _]
  show ba _ X.A.in1 (k_ (.ref (it+1)) >>= _) _ _ _
  refine ah (kG gS rfl ?_)
  show ba _ X.A.in1 (lg (j4 (.ref it)) _ >>= _) _ _ _
  refine ah (fV (bD (ag _) ((j6 (A:=X.A.in1) hh it p hlI [b1,b2].toArray).done _ _ _ ⟨it2,pl.isList⟩ λh' tk' hk' htk=>?_)))
  have J:=tI I' n2 (λb o nb e=>hk' b o (by simpa using nb) e) htk
  have gS':=hk' (it+1) _ (by simpa using hSI) gS
  show ba _ X.A.in1 (mh (it+1) (λ_=>#[]) >>= _) _ _ _
  refine ah ?_
  refine gP gS' rfl (ah (jq (ao ?_)))
  exact⟨xb,H',tS J n1 λb o nb e=>(cf _ _ (bx nb)).trans e,rb,q⟩
 obtain⟨its0,rv0,pl0,_⟩:=pl1
 obtain⟨a1,a2,rfl,ra1,_⟩:=rv0.two
 refine cH gT ?_
 rw[cE cG _]
 show ba _ X.A.in1 (k_ (.ref (it+1)) >>= _) _ _ _
 refine ah (kG gS rfl ?_)
 show ba _ X.A.in1 (lg (j4 (.ref it)) _ >>= _) _ _ _
 refine ah (fV (bD (ag _) ((j6 (A:=X.A.in1) hh it p hlI [a1,a2].toArray).item 0 _ _ _ (bb rfl) ⟨⟨_,gI,rfl,rfl⟩,pl0.isList⟩ λv h' tk' hP hst' hk' htk=>?_)))
 obtain rfl:a1=v:=by simpa using hP
 obtain⟨oI,hoI,hoc,hod⟩:=id hst'.1
 have cI:∀{o:Obj}{n:Nat},o.data=.fields #[.ref p,.int n 0] -> ∀v,o.data≠.cell v:=λe v z=>by rw[e] at z;cases z
 have J1:=tI I1 nI (λb o nb e=>hk' b o (by simpa using nb) e) htk
 have J2:=un J1 (hk' (it+1) _ (by simpa using hSI) gS) hoI nS nI (λv z=>by cases z) (λv z=>by rw[hod] at z;cases z)
 show ba _ X.A.in1 (lg (kP [a1] (call (.ref i.f) [a1])) _ >>= _) _ _ _
 refine ah (fV (bQ (b9 (Xs F hr J2 ra1 h1) (λk1 s2 he=>?_) λ_ _ z=>z.elim)))
 obtain⟨w1,H2,J3,rw1,S2,at1,h2⟩:=he
 have pS:=J3.pin (it+1,bu "list" #[] 0) (by simp)
 have pI:=J3.pin (it,oI) (by simp)
 show ba _ X.A.in1 (mh (it+1) (λ_=>#[a1,k1]) >>= _) _ _ _
 refine ah ?_
 refine gP pS.1 rfl ?_
 rw[hname]
 have sb:=b5 s2.heap (it+1) (bv λ_=>#[a1,k1])
 obtain⟨c2,hc2⟩:∃c2,(s2.heap.update (it+1) (bv λ_=>#[a1,k1])).get? (it+1)=some (bu "list" #[a1,k1] c2):=⟨_,du pS.1 λ_=>#[a1,k1]⟩
 have J4:=tS J3.unpinned pS.2.1 λb o nb e=>(sb.2 b nb).trans e
 have gI2:=(sb.2 it (bx hSI)).trans pI.1
 refine ao ⟨ff cG _,?_⟩
 generalize s2.heap.update (it+1) (bv λ_=>#[a1,k1])=h4 at J4 hc2 gI2 ⊢
 obtain⟨its1,rv1,pl2,_⟩:=J4.list (S2.seqL hq)
 obtain⟨b1,b2,rfl,_,rb2⟩:=rv1.two
 refine cH gT ?_
 rw[cE cG _]
 show ba _ X.A.in1 (k_ (.ref (it+1)) >>= _) _ _ _
 refine ah (kG hc2 rfl ?_)
 show ba _ X.A.in1 (lg (j4 (.ref it)) _ >>= _) _ _ _
 refine ah (fV (bD (ag _) ((j6 (A:=X.A.in1) hh it p hlI [b1,b2].toArray).item 1 _ _ _ (bb rfl) ⟨⟨_,gI2,hoc,hod⟩,pl2.isList⟩ λv h5 tk5 hP hst5 hk5 htk5=>?_)))
 obtain rfl:b2=v:=by simpa using hP
 obtain⟨oJ,hoJ,hoc2,hod2⟩:=id hst5.1
 have J5:=tI J4 pI.2.1 (λb o nb e=>hk5 b o (by simpa using nb) e) htk5
 have J6:=un J5 (hk5 (it+1) _ (by simpa using hSI) hc2) hoJ pS.2.1 pI.2.1 (λv z=>by cases z) (λv z=>by rw[hod2] at z;cases z)
 show ba _ X.A.in1 (lg (kP [b2] (call (.ref i.f) [b2])) _ >>= _) _ _ _
 refine ah (fV (bQ (b9 (Xs F hr J6 rb2 h2) (λk2 s3 he=>?_) λ_ _ z=>z.elim)))
 obtain⟨w2,H3,J7,rw2,S3,at2,cm,dp,q⟩:=he
 have pS3:=J7.pin (it+1,bu "list" #[a1,k1] c2) (by simp)
 have pI3:=J7.pin (it,oJ) (by simp)
 show ba _ X.A.in1 (lg (kP [b2,k2] (md .Lt k2 k1 >>= _)) _ >>= _) _ _ _
 refine ah (fV (bQ (ah (T9 J7 d2 d1 X.A.in1 w2 w1 k2 k1 at2 (A3 S3 at1) rw2 rw1 cm (by show X.A.units+1+_<_;omega) _ _ _ _ ?_))))
 refine ah (bQ (eP ?_))
 refine ah (jq (ao ?_))
 cases e:dlt d2 d1 with
 |true=>
  rw[if_pos e] at q
  simp only[if_true]
  refine ah ?_
  refine gP pS3.1 rfl (ah (jq ?_))
  rw[hname]
  have sb3:=b5 s3.heap (it+1) (bv λ_=>#[b2,k2])
  obtain⟨c3,hc3⟩:∃c3,(s3.heap.update (it+1) (bv λ_=>#[b2,k2])).get? (it+1)=some (bu "list" #[b2,k2] c3):=⟨_,du pS3.1 λ_=>#[b2,k2]⟩
  exact ao ⟨ff cG _,fin (tS J7.unpinned pS3.2.1 λb o nb e=>(sb3.2 b nb).trans e) (S2.trans S3) pS3.2.1 pI3.2.1 hc3 ⟨oJ,(sb3.2 it (bx hSI)).trans pI3.1,hoc2,hod2⟩ rb2 q⟩
 |false=>
  rw[if_neg (by rw[e];exact aR)] at q
  simp only[cO,if_false]
  refine ah (jq ?_)
  rw[hname]
  exact ao ⟨ff cG _,fin J7.unpinned (S2.trans S3) pS3.2.1 pI3.2.1 pS3.1 ⟨oJ,pI3.1,hoc2,hod2⟩ ra1 q⟩
variable {a:Expr}{da:DE}{p kp pos fp:Pos}{f:Str}
def a27{i:FI}(hu:X.A.units+64<cLine)(hc:X.calm=true)(F:Ir X i)(hr:Room (i.k+1) X.A)(hg:Gl X "min")(hm:X.mg "min"=none)(hgf:Gl X f)(hmf:X.mg f=some (.ref i.f))(hdf:(f==("__debug__" : Str))=false)(ha:QE X a da)(hs:Ba a=true):QE X (.Call (.Name "min" p) [a] [⟨some "key", .Name f fp,kp⟩] pos) (ad3 X.K i.sp da):=by
 intro Ex mt ξ s σ H Q I h
 have hA:=Ko ha Pq hs
 refine dz (Em I hg hm jP ?_ (by decide) (by decide))
 refine ku ?_ rfl ?_
 .rw[A7 hs [] X.env];rfl
 have e0:cZ [a] X.env=[(false,eval a X.env)]:=by rw[A7 hs [] X.env];rfl
 have hh:=hA Ex mt pos ξ s σ H _ I h
 rw[e0] at hh ⊢
 refine ah (thn hh λus s1 ⟨vs,H1,I1,r1,q1⟩=>ah (ao (bQ ?_)))
 show ba (model X.prog X.w) X.A (do
  let l <- evalAll [do let v <- eval (.Name f fp) X.env;standAt pos;pure v]
  let ps <- (pure us:Sem (List aj))
  pure (⟨ps,[("key" : Str)].zip l⟩:Args)) _ _ s1
 obtain⟨pp,rfl,q1⟩:=q1
 obtain⟨u,rfl,ru⟩:=Ei r1
 cases ru
 refine ah (lm (ah (Pa I1 hgf hmf ?_ hdf)))
 exact ah (fO (ao (wpAny_evalAll_nil (ah (ao (ao (az3 hu hc F hr I1 q1)))))))
end
def av2(lo st:Int)(n:Nat):It:=⟨λi _=>i<n,λi H x H'=>H'=H/\x=.int (lo+(i:Int)*st),λi _=>n<=i⟩
def Zy{P:a7}{w:bL}{K:ae}{tg:Expr}(it:Addr)(lo st:Int)(n:Nat):Mj P w K tg (av2 lo st n) [it] it (λi h=>lW h it (lo+(i:Nat)*st) ((n:Int)-(i:Nat)) st) where
 mem:=List.mem_singleton.mpr rfl
 obj:=λi h q b hb=>by
  obtain rfl:=List.mem_singleton.mp hb
  exact⟨_,q,λv z=>by cases(show Data.fields _=Data.cell v from z)⟩
 keep:=λi h h' q k=>k it (List.mem_singleton.mpr rfl) _ q
 item:=by
  intro X hP hw hK hc i ξ s σ H E I hf q go
  subst hP hw hK
  obtain⟨g0,g1,_,g3,g4,g5⟩:=hf it (List.mem_singleton.mpr rfl)
  refine bD (ag _) ((Walks.range (prog:=X.prog) (w:=X.w) (I.ok.hd hc) it lo st n).item i s _ _ go q λv h' tk hv q' kk htk=>?_)
  obtain⟨t,rfl⟩:=hv
  have I1:Inv X ξ σ H {s with heap:=h',toks:=tk}:=I.turned (λb o nb e=>kk b o (λz=>nb (List.mem_singleton.mp z)) e) g0 g1 g3 g4 g5
  exact⟨_,rfl,K7 (s:={s with heap:=h',toks:=tk}) (n := "range_iterator") q' rfl rfl (by decide) ⟨.int (lo+(i:Int)*st),H,I1,⟨t,rfl⟩,⟨rfl,rfl⟩,q',λb hb=>(hf b hb).1⟩⟩
 done:=by
  intro X hP hw hK hc i ξ s σ H E I hf q go
  subst hP hw hK
  obtain⟨g0,g1,_,g3,g4,g5⟩:=hf it (List.mem_singleton.mpr rfl)
  exact jH (I.ok.hd hc) q (by have:n<=i:=go;omega) λh' eb=>⟨rfl,I.turned (t':=s.toks) (λb o nb e=>eb b o nb e) g0 g1 g3 g4 g5⟩
 self:=λ_ _ _ _ _ q h=>jG q h
section
variable {X:Cx}{tg:Expr}
def a50{ξ:List (Addr×Obj)}{σ:St}{H:Hp}{s:aq}{R:It->Hp->Prop}{E:aj->aq->Prop}{lo hi st:Int}{t u v:Tok}{tk:Nat}(I:Inv X ξ σ H s)(htk:s.toks<=tk)(sm:fY lo hi st=true)(q:R (av2 lo st (bV lo hi st).toNat) H):ba (model X.prog X.w) X.A (ms (.ref s.heap.objs.size)) (PIE X ξ σ tg R) E {s with heap:=s.heap.push {cls:=.type "range", data:=.fields #[.int lo t,.int hi u,.int st v]},toks:=tk}:=by
 refine lq (IsRange.new ..) sm ?_
 have I1:Inv X ξ σ H {s with heap:=s.heap.push {cls:=.type "range", data:=.fields #[.int lo t,.int hi u,.int st v]},toks:=tk}:=I.kept λb o e=>ai _ e
 generalize s.heap.push {cls:=.type "range", data:=.fields #[.int lo t,.int hi u,.int st v]}=h1 at I1 ⊢
 refine⟨h1.objs.size,[h1.objs.size],_,_,H,rfl,I1.kept (t':=tk) λb o e=>ai _ e,Zy _ lo st (bV lo hi st).toNat,?_,λb hb=>?_,q⟩
 .have e:lo+((0:Nat):Int)*st=lo:=by rw[Int.natCast_zero,Int.zero_mul,Int.add_zero]
  have f:(((bV lo hi st).toNat:Nat):Int)-((0:Nat):Int)=bV lo hi st:=by
   rw[<- rangeSize_toNat,Int.natCast_zero,Int.sub_zero]
  show lW _ _ (lo+((0:Nat):Int)*st) ((((bV lo hi st).toNat:Nat):Int)-((0:Nat):Int)) st
  rw[e,f]
  exact aL _ rfl
 .obtain rfl:=List.mem_singleton.mp hb
  exact I1.fpOk (ag _) (I1.hok.fresh (ag _))
end
def QI(X:Cx)(tg e:Expr)(t:DI):Prop:=∀Ex,Meets X Ex->PI X tg e (λσ H R=>t σ H R (Ex σ))
noncomputable def iNo:DI:=λ_ _ _ _=>False
def onD(p:Addr)(H:Hp)(R:Obj->List (Key×V)->Hp->Prop):Prop:=(∃kvs,H p=some (.dK kvs)/\∀o,R o kvs (upd H p (.frz o (.dK kvs)))) \/ ∃o kvs,H p=some (.frz o (.dK kvs))/\R o kvs H
def aj6{X:Cx}{ξ:List (Addr×Obj)}{σ:St}{H:Hp}{s:aq}{p:Addr}{R:Obj->List (Key×V)->Hp->Prop}(I:Inv X ξ σ H s)(h:onD p H R):∃o kvs H',Inv X ξ σ H' s/\H' p=some (.frz o (.dK kvs))/\R o kvs H':=by
 rcases h with⟨kvs,e,q⟩|⟨o,kvs,e,q⟩
 .obtain⟨o,ep,_,_,I'⟩:=I.froze e
  exact⟨o,kvs,_,I',Ab,q o⟩
 .exact⟨o,kvs,H,I,e,q⟩
noncomputable def B9(K:ae)(a:DE):DI:=λσ H R E=>a σ H (λx H1=>match x with
 |.str z=>R (Its z) H1
 |.ref p=>((∃xs,SqL K H1 p xs)/\R (Itl K p) H1)\/((∃xs,SqT K H1 p xs)/\R (Itt K p) H1)\/(onD p H1 λo kvs H2=>R (Itd p o kvs) H2)\/False
 |_=>False) E
noncomputable def Gv(t:DA):DI:=λσ H R E=>t σ H (λvs H1=>match vs with
 |[.int j]=>(-(2^62)<=j/\j<2^62)/\R (Itr 0 j.toNat) H1
 |[.int i,.int j]=>(-(2^62)<=i/\i<2^62 /\ -(2^62)<=j/\j<2^62)/\R (Itr i (j-i).toNat) H1
 |[.int i,.int j,.int k]=>(fY i j k=true/\0<k/\k<2^30)/\R (av2 i k (bV i j k).toNat) H1
 |_=>False) E
noncomputable def iZp(K:ae)(t:DA):DI:=λσ H R E=>t σ H (λvs H1=>match vs with
 |[.ref a,.ref b]=>(∃xs,SqL K H1 a xs)/\(∃ys,SqL K H1 b ys)/\R (Itz K a b) H1
 |_=>False) E
section
variable {X:Cx}{tg e a b:Expr}{da:DE}{r:DA}{p pos:Pos}
def a88:QI X tg e iNo:=λ_ _ _ _ _ _ _ _ h=>h.elim
def F1(ha:QE X e da):QI X tg e (B9 X.K da):=by
 intro Ex mt ξ s σ H R I h
 refine thn (ha Ex mt ξ s σ H _ I h) λv s1 ⟨x,H1,I1,r1,q1⟩=>?_
 cases x with
 |str z=>
  obtain⟨t,rfl⟩:=r1
  refine wpAny_pyIter_strU ?_
  refine⟨s1.heap.objs.size,[s1.heap.objs.size],_,_,H1,rfl,I1.kept λb o e=>ai _ e,as5 s1.heap.objs.size z t (strIterType z) (by unfold strIterType;split <;> simp),⟨_,aL _ rfl,rfl,rfl⟩,λb hb=>?_,q1⟩
  have e:b=s1.heap.objs.size:=by simpa using hb
  subst e
  exact I1.fpOk (ag _) (I1.hok.fresh (ag _))
 |ref a=>
  cases r1
  rcases q1 with⟨⟨xs,hq⟩,q⟩|⟨⟨xs,hq⟩,q⟩|q|z
  .obtain⟨χ,rv,p,hz⟩:=I1.list hq
   refine g_ p.isList ?_
   refine⟨s1.heap.objs.size,[s1.heap.objs.size],_,_,H1,rfl,I1.kept λb o e=>ai _ e,Zx a _,⟨_,aL _ rfl,rfl,rfl⟩,λb hb=>?_,q⟩
   have e:b=s1.heap.objs.size:=by simpa using hb
   subst e
   exact I1.fpOk (ag _) (I1.hok.fresh (ag _))
  .obtain⟨χ,rv,p,hz⟩:=I1.tuple hq
   refine wpAny_pyIter_tuple (p) ?_
   refine⟨s1.heap.objs.size,[s1.heap.objs.size],_,_,H1,rfl,I1.kept λb o e=>ai _ e,Vu a _,⟨_,aL _ rfl,rfl,rfl⟩,λb hb=>?_,q⟩
   have e:b=s1.heap.objs.size:=by simpa using hb
   subst e
   exact I1.fpOk (ag _) (I1.hok.fresh (ag _))
  .obtain⟨o,kvs,H2,I2,e,q⟩:=aj6 I1 q
   exact aw8 I2 e q
  .exact z.elim
 |_=>exact(q1).elim
variable {es:List Expr}
def am1(hg:Gl X "range")(hm:X.mg "range"=none)(ha:QA X (a::es) r)(hs:(a::es).all Ba=true):QI X tg (.Call (.Name "range" p) (a::es) [] pos) (Gv r):=by
 intro Ex mt ξ s σ H R I h
 have h2:=cx▸hs
 rw[aW] at h2
 refine Call_ (Em I hg hm boot_range (cT (thn (ha Ex mt pos ξ s σ H _ I h) λus s1 ⟨vs,H1,I1,r1,q1⟩=>?_) (A7 h2.1 es X.env) (Cz h2.2 X.env pos)))
 dsimp only at q1
 split at q1
 .obtain⟨⟨h1,h2⟩,q⟩:=q1
  obtain⟨u,rfl,t,rfl⟩:=Ei r1
  exact call_range_1 (Ru I1 (by first|exact ag _|exact bE _ _|omega|(dsimp only;omega)) (by omega) (by omega) h1 h2 (by simpa using q))
 .obtain⟨⟨h1,h2,h3,h4⟩,q⟩:=q1
  obtain⟨u,v,rfl,⟨t,rfl⟩,⟨t',rfl⟩⟩:=as8 r1
  exact call_range_2 (Ru I1 (by first|exact ag _|exact bE _ _|omega|(dsimp only;omega)) h1 h2 h3 h4 q)
 .obtain⟨⟨h1,h2,h3⟩,q⟩:=q1
  cases r1 with
  | cons ra rr=>cases rr with
   | cons rb rr=>cases rr with
    |cons rc rr=>
     cases rr
     obtain⟨t,rfl⟩:=ra
     obtain⟨t',rfl⟩:=rb
     obtain⟨t2,rfl⟩:=rc
     exact call_range_3 (by omega) (a50 I1 (by first|exact ag _|exact bE _ _|omega|(dsimp only;omega)) h1 q) (.inl (jB (by omega)))
 .exact q1.elim
def bo6{elts:List Expr}{kt:Nat}{pt:Pos}(hg:Gl X "zip")(hm:X.mg "zip"=none)(ha:QA X (a::es) r)(hs:(a::es).all Ba=true):QI X (.Tuple elts kt pt) (.Call (.Name "zip" p) (a::es) [] pos) (iZp X.K r):=by
 intro Ex mt ξ s σ H R I h
 have hh:=cx▸hs
 rw[aW] at hh
 refine Call_ (Em I hg hm boot_zip (cT (thn (ha Ex mt pos ξ s σ H _ I h) λus s1 ⟨vs,H1,I1,r1,q1⟩=>?_) (A7 hh.1 es X.env) (Cz hh.2 X.env pos)))
 dsimp only at q1
 split at q1
 .rename_i l1 l2
  obtain⟨⟨xs,q1⟩,⟨ys,q2⟩,q⟩:=q1
  obtain⟨u,v,rfl,ru,rv⟩:=r1.two
  cases ru
  cases rv
  obtain⟨its1,t1,p1,z1⟩:=I1.list q1
  obtain⟨its2,t2,p2,z2⟩:=I1.list q2
  refine call_zip_2 p1.isList p2.isList λh' hz hTI hTO hi1 hi2 hsz hk=>?_
  refine wpAny_pyIter_zip hz ?_
  have a1:l1<s1.heap.objs.size:=by obtain⟨_,e,_⟩:=p1.isList;exact aQ e
  have a2:l2<s1.heap.objs.size:=by obtain⟨_,e,_⟩:=p2.isList;exact aQ e
  refine⟨_,_,_,_,H1,rfl,I1.kept (t':=s1.toks) hk,as6 (PyProof.Rows.zipApart_new a1 a2),⟨hz,hTI,⟨_,_,hTO⟩,hi1,hi2⟩,λb hb=>?_,q⟩
  have le:s1.heap.objs.size<=b:=by
   simp only[aG,cD,or_false] at hb
   rcases hb with e|e|e|e|e <;> (rw[e];first|exact ag _|exact bE _ _)
  exact I1.fpOk le (I1.hok.fresh le)
 .exact q1.elim
noncomputable def gNo:DG:=λ_ _ _ _=>False
def gdS:List DG->List V->St->Hp->(St->Hp->Prop)->Prop
 |[],[],σ,H,Q=>Q σ H
 |g::gs,v::vs,σ,H,Q=>g v σ H λσ' H'=>gdS gs vs σ' H' Q
 |_,_,_,_,_=>False
noncomputable def gdT(K:ae)(n:Nat)(gs:List DG):DG:=λv σ H Q=>match v with
 |.ref a=>∃xs,(SqT K H a xs\/SqL K H a xs)/\xs.length=n/\gdS gs xs σ H Q
 |_=>False
def Rm:PG X tg gNo:=λ_ _ _ _ _ _ _ _ _ h=>h.elim
def bw6:PGs X [] (gdS []):=by
 intro ξ s σ H vs us Q I r h
 cases vs with
 |nil=>exact a12 ξ s σ H [] us Q I r ⟨rfl,h⟩
 |cons v vs=>exact(h).elim
def bw5{g:DG}{gs:List DG}{ts:List Expr}(h1:PG X tg g)(h2:PGs X ts (gdS gs))(hs:(dy (tg::ts) X.env).map (·.2)=mq tg X.env::(dy ts X.env).map (·.2)):PGs X (tg::ts) (gdS (g::gs)):=by
 intro ξ s σ H vs us Q I r h
 cases vs with
 |nil=>exact(h).elim
 |cons v vs=>exact ak1 h1 h2 hs ξ s σ H (v::vs) us Q I r ⟨v,vs,rfl,h⟩
def b39{ts:List Expr}{k n:Nat}{gs:List DG}(hc:X.calm=true)(h:PGs X ts (gdS gs))(hn:(dy ts X.env).length=n)(hst:(dy ts X.env).findIdx? (·.1)=none):PG X (.Tuple ts k pos) (gdT X.K n gs):=by
 intro ξ s σ H v u Q I r hw
 cases v with
 |ref a=>
  obtain⟨xs,h1|h1,h2,h3⟩:=hw
  .exact bl8 hc h hn hst ξ s σ H _ u Q I r ⟨a,xs,rfl,h1,h2,h3⟩
  cases r
  obtain⟨χ,rv,pl,_⟩:=I.list h1
  rw[assign_Tuple]
  refine ah (fO ?_)
  unfold unpack
  rw[hst,show(dy ts X.env).length=χ.toArray.size by rw[hn,<- h2,rv.length];rfl]
  refine ah (bQ (PySem.W.kun_itemsOf (I.ok.hd hc) pl.isList λh' hx=>?_))
  have I1:=I.kept λb o e=>hx b o (aV (aQ e)) e
  exact h ξ _ σ H xs _ Q I1 (rv) h3
 |_=>exact(hw).elim
end
def Qq(K:ae)(a:Addr)(n:Nat):It:=
 ⟨λi H=>i<n/\∃xs,SqL K H a xs/\xs.length=n,λi H x H'=>H'=H/\∀xs,SqL K H a xs->xs[n-1-i]?=some x,λi _=>n<=i⟩
def as4{P:a7}{w:bL}{K:ae}{tg:Expr}(a it:Addr)(n:Nat):Mj P w K tg (Qq K a n) [it] it (λi h=>i<=n/\h.IsRevIter it a ((n:Int)-1-(i:Int))) where
 mem:=by simp
 obj:=λi h st b hb=>by
  have e:b=it:=by simpa using hb
  subst e
  obtain⟨_,o,e,c,d⟩:=st
  exact⟨o,e,λv z=>by rw[d] at z;cases z⟩
 keep:=λi h h' st k=>⟨st.1,by
  obtain⟨_,o,e,c,d⟩:=st
  exact⟨o,k it (by simp) o e,c,d⟩⟩
 item:=by
  intro X hP hw hK hc i ξ s σ H E I hf st hg
  subst hP hw hK
  obtain⟨hi,xs,hq,hl⟩:=hg
  obtain⟨χ,rv,p,hz⟩:=I.list hq
  have hx:xs[n-1-i]?=some (xs[n-1-i]'(by omega)):=am _
  obtain⟨u,hu,ru⟩:=rv.get hx
  obtain⟨f0,f1,f2,f3,f4,f5⟩:=hf it (by simp)
  have e0:(n:Int)-1-(i:Int)=((n-1-i:Nat):Int):=by omega
  have st2:=st.2
  rw[e0] at st2
  refine wpAny_pyNext_rev_item st2 p.isList (by simpa using hu) λh' st' sb=>?_
  have I1:=I.turned (λb o hb e=>(sb.2 b hb).trans e) f0 f1 f3 f4 f5
  obtain⟨o,e,c,d⟩:=id st'
  refine⟨u,rfl,K7 e c d (by decide) ⟨_,H,I1,ru,⟨rfl,λys hy=>by rw[I.list_inj hy hq];exact hx⟩,⟨hi,?_⟩,λb hb=>(hf b hb).1⟩⟩
  rw[show(n:Int)-1-((i+1:Nat):Int)=((n-1-i:Nat):Int)-1 by omega]
  exact st'
 done:=by
  intro X hP hw hK hc i ξ s σ H E I hf st hg
  subst hP hw hK
  obtain⟨f0,f1,f2,f3,f4,f5⟩:=hf it (by simp)
  have hg:n<=i:=hg
  have st2:=st.2
  rw[show(n:Int)-1-(i:Int) = -1 by have:=st.1;omega] at st2
  exact wpAny_pyNext_rev_end (I.ok.hd hc) st2 λh' eb=>⟨rfl,I.turned (t':=s.toks) (λb o hb e=>eb b o hb e) f0 f1 f3 f4 f5⟩
 self:=λ_ _ _ _ _ st h=>kA st.2 h
noncomputable def ax7(K:ae)(a:DE):DI:=λσ H R E=>a σ H (λx H1=>match x with
 |.ref p=>∃xs,SqL K H1 p xs/\R (Qq K p xs.length) H1
 |_=>False) E
def ac5:cX "reversed"=some (.type "reversed"):=by decide +kernel
def bo5{X:Cx}{tg a:Expr}{da:DE}{p pos:Pos}(hg:Gl X "reversed")(hm:X.mg "reversed"=none)(ha:QE X a da)(hs:Ba a=true):QI X tg (.Call (.Name "reversed" p) [a] [] pos) (ax7 X.K da):=by
 intro Ex mt ξ s σ H R I h
 have hA:=Ko ha Pq hs
 refine Call_ (Em I hg hm ac5 (cT (thn (hA Ex mt pos ξ s σ H (λvs H1=>∃x,vs=[x]/\(match x with | .ref p=>∃xs,SqL X.K H1 p xs/\R (Qq X.K p xs.length) H1|_=>False)) I ?_) λus s1 ⟨vs,H1,I1,r1,q1⟩=>?_) (A7 hs [] X.env) rfl))
 .have h2:da σ H (λx H1=>∃y,[x]=[y]/\(match y with | .ref p=>∃xs,SqL X.K H1 p xs/\R (Qq X.K p xs.length) H1|_=>False)) (Ex σ):=by
   have e:(λ(x:V) H1=>∃y,[x]=[y]/\(match y with | .ref p=>∃xs,SqL X.K H1 p xs/\R (Qq X.K p xs.length) H1|_=>False))=λx H1=>(match x with | .ref p=>∃xs,SqL X.K H1 p xs/\R (Qq X.K p xs.length) H1|_=>False):=by
    funext x H1
    apply propext
    constructor
    .rintro⟨y,e,h⟩
     cases e
     exact h
    .exact λh=>⟨x,rfl,h⟩
   rw[e]
   exact h
  exact h2
 .obtain⟨x,rfl,q⟩:=q1
  obtain⟨u,rfl,ru⟩:=Ei r1
  cases x with
  |ref l=>
   cases ru
   obtain⟨xs,hq,q⟩:=q
   obtain⟨χ,rv,pl,hz⟩:=I1.list hq
   refine call_reversed_list pl.isList ?_
   have e:((χ.toArray.size:Nat):Int)-1=(xs.length:Int)-1-((0:Nat):Int):=by rw[aB,rv.length];omega
   rw[e]
   have st:(s1.heap.push (revObj l ((xs.length:Int)-1-((0:Nat):Int)))).IsRevIter s1.heap.objs.size l ((xs.length:Int)-1-((0:Nat):Int)):=⟨_,aL _ rfl,rfl,rfl⟩
   refine kA st ?_
   refine⟨s1.heap.objs.size,[s1.heap.objs.size],_,_,H1,rfl,I1.kept λb o e=>ai _ e,as4 l s1.heap.objs.size xs.length,⟨bo _,st⟩,λb hb=>?_,q⟩
   have e:b=s1.heap.objs.size:=by simpa using hb
   subst e
   exact I1.fpOk (ag _) (I1.hok.fresh (ag _))
  |_=>exact(q).elim
def bb7(p:Addr)(o:Obj)(kvs:List (Key×V)):It:=
  ⟨λi H=>H p=some (.frz o (.dK kvs))/\i<kvs.length,
   λi H x H'=>∃T k v,H T=none/\x=.ref T/\kvs[i]?=some (k,v)/\H'=upd H T (.tup [kV k,v]),
   λi H=>H p=some (.frz o (.dK kvs))/\kvs.length<=i⟩
def Vs{P:a7}{w:bL}{K:ae}{elts:List Expr}{kt:Nat}{pt:Pos}{it p:Addr}{o:Obj}{kvs:List (Key×V)}{ep:Nat}(he:Ye o ep) :
  Mj P w K (.Tuple elts kt pt) (bb7 p o kvs) [it] it (λi h=>∃ok ov,IsItemIter h it p i kvs.length ep ok ov) where
 mem:=by simp
 obj:=λi h st b hb=>by
  obtain⟨ok,ov,e⟩:=st
  rw[List.mem_singleton.mp hb]
  exact⟨_,e,λv q=>nomatch q⟩
 keep:=λi h h' st k=>let⟨ok,ov,e⟩:=st;⟨ok,ov,k it (by simp) _ e⟩
 item:=by
  intro X hP hw hK hc i ξ s σ H E I hf st hg
  subst hP hw hK
  obtain⟨hH,hi⟩:=hg
  obtain⟨vs,rel,hd,hm⟩:=I.kdict hH he
  obtain⟨⟨k,v⟩,hx⟩:∃q,kvs[i]?=some q:=⟨kvs[i],by simp[hi]⟩
  obtain⟨u,hu,ru⟩:=af7 rel hx
  have hl:kvs.length=vs.length:=rel.length
  obtain⟨ok,ov,st⟩:=st
  rw[hl] at st
  refine wpAny_pyNext_items_item st hd hu λkey h' hk out tup hz hk'=>?_
  refine⟨_,rfl,wpAny_letOwnedTupleGo_items out λh'' hi' hs'=>?_⟩
  have hT:=I.hok.fresh (ag s.heap.objs.size)
  have nT:∀{b ob},s.heap.get? b=some ob->b≠s.heap.objs.size:=λq=>aV (aQ q)
  have up:∀b ob,b∉[it]->s.heap.get? b=some ob->h''.get? b=some ob:=λb ob hb q=>by
   have b1:b≠it:=by rintro rfl;exact hb (by simp)
   exact hs'.extBut b ob b1 (hk' b ob b1 q)
  have Tnew:h''.get? s.heap.objs.size=some {cls:=.type "tuple", data:=.seq #[key,u]}:=hs'.extBut _ _ (bx (nT st)) tup
  have I1:Inv X ξ σ (upd H s.heap.objs.size (.tup [kV k,v])) {s with heap:=h''}:=
   I.turnedN (t':=s.toks) (ch:=[it]) (λb hb=>hf b hb) up (ag _) ⟨by show 2<=sizeLine;decide,[key,u],.cons (a76 hk) (.cons ru .nil),⟨_,Tnew,rfl,_,rfl⟩⟩
  refine⟨.ref s.heap.objs.size,_,I1,rfl,⟨s.heap.objs.size,k,v,hT,rfl,hx,rfl⟩,⟨_,_,by rw[hl];exact hi'⟩,λb hb=>?_⟩
  have q:=(hf b hb).1
  rw[Ah ?_]
  .exact q
  .rw[List.mem_singleton.mp hb];exact nT st
 done:=by
  intro X hP hw hK hc i ξ s σ H E I hf st hg
  subst hP hw hK
  obtain⟨hH,hi⟩:=hg
  obtain⟨vs,rel,hd,hm⟩:=I.kdict hH he
  have hl:kvs.length=vs.length:=rel.length
  obtain⟨ok,ov,st⟩:=st
  rw[hl] at st
  obtain⟨f0,f1,f2,f3,f4,f5⟩:=hf it (by simp)
  exact wpAny_pyNext_items_end (I.ok.hd hc) st hd (by simp;omega) λh' eb=>⟨rfl,I.turned (t':=s.toks) (λb o hb e=>eb b o hb e) f0 f1 f3 f4 f5⟩
 self:=λA i s Q E st h=>by
  obtain⟨ok,ov,e⟩:=st
  have hT:s.TypeIs (.ref it) "dict_itemiterator" := ⟨_,e,rfl⟩
  refine i_ hT f9 (dX f9 hT PySem.W.kcp_entry ?_ (PySem.F.args_dict_itemiterator_iter_1 _))
  show ba _ _ (ret (.ref it)) _ _ s
  exact ao ⟨_,rfl,"dict_itemiterator", _,hT,PySem.F.slot_dict_itemiterator_next.lookup,h⟩
noncomputable def bd9(a:DE):DI:=λσ H R E=>a σ H (λx H1=>match x with
 |.ref p=>onD p H1 λo kvs H2=>R (bb7 p o kvs) H2
 |_=>False) E
def am0{X:Cx}{elts:List Expr}{kt:Nat}{pt ap cp:Pos}{o:Expr}{do':DE}(ho:QE X o do')(h1:C6 o=true)(h4:(ap.endLine==cp.line)=true):QI X (.Tuple elts kt pt) (.Call (.Attribute o "items" ap) [] [] cp) (bd9 do'):=by
 intro Ex mt ξ s σ H R I h
 refine jp (Dh h1 "items" X.env _) h4 (thn (ho Ex mt ξ s σ H _ I h) λv s1 ⟨x,H1,I1,r1,q1⟩=>?_)
 cases x with
 |ref p=>
  cases r1
  obtain⟨o,kvs,H2,I2,e,q⟩:=aj6 I1 q1
  have he:∃ep,Ye o ep:=by
   obtain⟨e1,z,y,vs,r,ob,es,ep,e,c,d,_⟩:=I2.hok p _ e
   rw[e1] at e;cases e
   exact⟨ep,es,d⟩
  obtain⟨ep,he⟩:=he
  obtain⟨vs,rel,hd,hm⟩:=I2.kdict e he
  obtain⟨_,lo,vs',rel',dof⟩:=Fp I2.hok (.inr ⟨o,e⟩)
  obtain⟨ob,es,ep',e',c,_⟩:=id dof
  refine⟨"dict","dict.items", gH,jh,PySem.F.type_dict_items,dof.typeIs,λa' e2=>?_,gQ rfl (kM ?_)⟩
  .cases e2;exact⟨ob,e',c.2.1⟩
  .refine jX jh dof.typeIs PySem.F.entry_dict_items (PySem.F.args_dict_items_1 _) (meets_dict_items _ p lo) ⟨⟨vs',dof⟩,?_⟩
   have k1:∀b o,s1.heap.get? b=some o->(s1.heap.push {cls:=.type "dict_items", data:=.fields #[.ref p]}).get? b=some o:=λb o q=>ai _ q
   have z1:(s1.heap.push {cls:=.type "dict_items", data:=.fields #[.ref p]}).objs.size=s1.heap.objs.size+1:=dF ..
   have view:(s1.heap.push {cls:=.type "dict_items", data:=.fields #[.ref p]}).get? s1.heap.objs.size=some {cls:=.type "dict_items", data:=.fields #[.ref p]}:=aL _ rfl
   generalize s1.heap.push {cls:=.type "dict_items", data:=.fields #[.ref p]}=h1 at k1 z1 view ⊢
   refine wpAny_pyIter_items (s:={s1 with heap:=h1}) ⟨_,view,rfl,rfl⟩ (hd.keep k1) ?_
   have le:s1.heap.objs.size<=h1.objs.size:=by rw[z1];exact cS _
   refine⟨h1.objs.size,[h1.objs.size],_,_,H2,rfl,I2.kept (t':=s1.toks) λb o e=>ai _ (k1 b o e),Vs he,⟨_,_,by rw[rel.length];exact aL _ rfl⟩,λb hb=>?_,q⟩
   have eb:b=h1.objs.size:=by simpa using hb
   subst eb
   exact I2.fpOk le (I2.hok.fresh le)
 |_=>exact(show False from q1).elim
def Du(cs:List (Str×Addr)):List (Str×cY)->List (Str×Addr)->List (Str×Addr)
 |[],acc=>acc
 |(n,k)::r,acc=>if k==.free then Du cs r ((n,(cs.lookup n).getD 0)::acc) else Du cs r acc
def Mn{scope:Scope}{env:Env}(h:∀y∈scope.names,y.2=.free -> ∃c,env.cells.lookup y.1=some c):closureFor scope env=pure (Du env.cells scope.names []):=by
 unfold closureFor
 generalize scope.names=names at h
 suffices ∀acc,(forIn names acc λx cs=>do
   if(x.2==.free)=true then do
    let c <- cellOf env x.1
    pure (fC ((x.1,c)::cs))
   else pure (fC cs):Sem (List (Str×Addr)))=pure (Du env.cells names acc) by
  have:=this []
  simp only[bind_pure]
  exact this
 induction names with
 |nil=>intro acc;rfl
 |cons y r ih=>
  intro acc
  obtain⟨n,k⟩:=y
  rw[List.forIn_cons]
  unfold Du
  by_cases e:(k==eZ)=true
  .obtain⟨c,hc⟩:=h (n,k) (by simp) (eC e)
   have ec:cellOf env n=pure c:=by
    unfold cellOf
    rw[hc]
   simp only[e,if_true,ec,pure_bind]
   rw[ih (λy hy=>h y (aK _ hy)),show env.cells.lookup n=some c from hc]
   rfl
  .have e':(k==eZ)=false:=by simpa using e
   simp only[e',cO,if_false,pure_bind]
   rw[ih (λy hy=>h y (aK _ hy))]
theorem Iw{cs:List (Str×Addr)}:∀{names} {acc} {p},p∈Du cs names acc->p∈acc\/((p.1,eZ)∈names/\p.2=(cs.lookup p.1).getD 0)
 |[],_,_,h=>.inl h
 | (n,k)::r,acc,p,h=>by
  unfold Du at h
  by_cases e:(k==eZ)=true
  .rw[if_pos e] at h
   rcases Iw h with h|⟨h1,h2⟩
   .rcases List.mem_cons.mp h with h|h
    .subst h
     exact .inr ⟨by rw[eC e];simp,rfl⟩
    .exact .inl h
   .exact .inr ⟨aK _ h1,h2⟩
  .rw[if_neg e] at h
   rcases Iw h with h|⟨h1,h2⟩
   .exact .inl h
   .exact .inr ⟨aK _ h1,h2⟩
theorem Iv{cs:List (Str×Addr)}:∀{names} {acc} {p},p∈acc->p∈Du cs names acc
 |[],_,_,h=>h
 | (n,k)::r,acc,p,h=>by
  unfold Du
  split
  .exact Iv (aK _ h)
  .exact Iv h
theorem Nu{cs:List (Str×Addr)}:∀{names} {acc} {n},(n,eZ)∈names->n∈(Du cs names acc).map (·.1)
 |[],_,_,h=>by cases h
 | (m,k)::r,acc,n,h=>by
  unfold Du
  rcases List.mem_cons.mp h with e|h
  .cases e
   rw[if_pos (show(eZ==eZ)=true from rfl)]
   exact List.mem_map.mpr ⟨_,Iv (aY),rfl⟩
  .split <;> exact Nu h
def Zm(sc:List (Str×cY))(names:List (Str×cY)):List (Str×cY):=names.map λ(n,k)=>if(k==.free&&sc.lookup n==some .cell) then(n,.cell) else(n,k)
def Q7(names:List (Str×cY)):List Str:=(names.filter λy=>(y.2==.local) && !(y.1==(".0" : Str))).map (·.1)
def Tq(names:List (Str×cY)):List Str:=(names.filter λy=>y.2==.free).map (·.1)
def cfV(o:Option cY):Bool:=o==some .cell||o==some .free
def Dv(G:Sg)(names:List (Str×cY)):Sg:={G with N:=Q7 names++Tq names,sc:=Zm G.sc names,top:=false}
def Ge(G:Sg)(names:List (Str×cY)):List (Option Nat):=(Q7 names).map (λ_=>none)++(Tq names).map (λx=>Eh G.N x 0)
def Fn(G:Sg)(sc:Scope):Bool:=
 (sc.names.all λy=>!(y.2==.cell))&&(sc.names.all λy=>!(y.2==.local)||(sc.names.lookup y.1==some .local))&&(sc.kind==.function) &&
 decide (Q7 sc.names++Tq sc.names).Nodup&&((Tq sc.names).all λx=>(Eh G.N x 0).isSome&&cfV (G.sc.lookup x)&&cfV ((Zm G.sc sc.names).lookup x)) &&
 ((Q7 sc.names).all λx=>(Zm G.sc sc.names).lookup x==some .local)
section
variable {X:Cx}{G:Sg}{sc:Scope}
def Hq{o:Option cY}(h:cfV o=true):o=some .cell\/o=some .free:=by
 unfold cfV at h
 rw[eF] at h
 exact h.elim (λe=>.inl (eC e)) λe=>.inr (eC e)
def Hh(O:GOk X G):(jo sc X.env).names=Zm G.sc sc.names:=by
 apply c9
 rintro⟨n,k⟩ _
 have e:X.env.kindOf n=G.sc.lookup n:=O.sc n
 dsimp only
 rw[e,O.kind]
 simp
def Oy(O:GOk X G)(h:Fn G sc=true):Ku X (Dv G sc.names).N (Ge G sc.names) sc (Du X.env.cells sc.names []):=by
 unfold Fn at h
 simp only[aW,dA,iU,decide_eq_true_eq,eF] at h
 obtain⟨⟨⟨⟨⟨h1,h2⟩,h3⟩,h4⟩,h5⟩,h6⟩:=h
 have fr:∀y∈sc.names,y.2=.free -> ∃c,X.env.cells.lookup y.1=some c:=λy hy hf=>by
  refine O.cel y.1 ?_
  rw[O.sc]
  exact Hq (h5 y.1 (List.mem_map.mpr ⟨y,List.mem_filter.mpr ⟨hy,by rw[hf];rfl⟩,rfl⟩)).1.2
 have nc:∀y∈sc.names,y.2≠.cell:=λy hy e=>by
  have:=h1 y hy
  rw[e] at this
  cases this
 refine⟨Mn fr,nc,eC h3,λy hy hl=>?_,λx c hx=>?_,λx hx=>?_,?_,λk j x e1 e2=>?_⟩
 .rcases h2 y hy with z|z
  .rw[hl] at z;cases z
  .exact eC z
 .have hm:=cC hx
  rcases Iw hm with z|⟨z1,z2⟩
  .cases z
  .obtain⟨c',hc'⟩:=fr _ z1 rfl
   have z2':c=(X.env.cells.lookup x).getD 0:=z2
   rw[hc'] at z2' ⊢
   rw[z2']
   rfl
 .have hn:(jo sc X.env).names=Zm G.sc sc.names:=Hh O
  have key:∀kd,(jo sc X.env).names.lookup x=some kd->cfV (some kd)=true -> ∃c,(Du X.env.cells sc.names []).lookup x=some c:=λkd hkd hc=>by
   rw[hn] at hkd
   have hm:=cC hkd
   obtain⟨⟨n,k⟩,hy,e⟩:=List.mem_map.mp hm
   dsimp only at e
   have hfree:k=.free/\n=x:=by
    have hkc:=nc _ hy
    by_cases e1:(k==eZ&&G.sc.lookup n==some .cell)=true
    .rw[if_pos e1] at e
     rw[aW] at e1
     exact⟨eC e1.1,congrArg kX e⟩
    .rw[if_neg e1] at e
     cases e
     rcases Hq hc with z|z
     .exact absurd (bt z) hkc
     .exact⟨bt z,rfl⟩
   obtain⟨rfl,rfl⟩:=hfree
   exact ah1 (Nu hy)
  rcases hx with hx|hx
  .exact key _ hx rfl
  .exact key _ hx rfl
 .unfold Ge Dv
  simp
 .have e1':(Q7 sc.names++Tq sc.names)[k]?=some x:=e1
  have e2':((Q7 sc.names).map (λ_=>(none:Option Nat))++(Tq sc.names).map (λx=>Eh G.N x 0))[k]?=some (some j):=e2
  by_cases hlt:k<(Q7 sc.names).length
  .rw[bO (by simpa using hlt),au] at e2'
   cases q:(Q7 sc.names)[k]? with
   |none=>rw[q] at e2';cases e2'
   |some z=>rw[q] at e2';cases e2'
  .rw[bz (by simpa using hlt)] at e1' 
   rw[bz (by simpa using hlt),af,au,e1'] at e2'
   have hs:Eh G.N x 0=some j:=bt e2'
   have hx:x∈Tq sc.names:=aI e1'
   obtain⟨⟨_,c1⟩,c2⟩:=h5 x hx
   refine⟨by rw[O.N];exact F4 hs,?_,?_⟩
   .rw[O.sc];exact Hq c1
   .rw[Hh O];exact Hq c2
def Wj(O:GOk X G)(h:Fn G sc=true)(fp:List Addr)(C:Addr)(s:aq)(H:Hp)(xe:aj->aq->Prop) :
  GOk (X.comp (Dv G sc.names).N sc (Du X.env.cells sc.names []) fp C s H xe) (Dv G sc.names):=by
 have S:=Oy O h
 unfold Fn at h
 simp only[aW,dA,iU,decide_eq_true_eq,eF] at h
 obtain⟨⟨⟨⟨⟨h1,h2⟩,h3⟩,h4⟩,h5⟩,h6⟩:=h
 have hn:(jo sc X.env).names=Zm G.sc sc.names:=Hh O
 refine⟨O.K,eC h3,(λz=>by cases z),rfl,h4,λx=>?_,λx hx=>?_,λz=>(by cases z),O.calm,O.hd,O.units,λx hx=>S.has x hx,λx g e=>?_,O.bl,λz=>(by cases z),O.fr⟩
 .show (jo sc X.env).names.lookup x=_
  rw[hn]
  rfl
 .show Vis (jo sc X.env) x
  unfold Vis
  rw[hn]
  rcases List.mem_append.mp hx with q|q
  .exact .inl (eC (h6 x q))
  .exact .inr (Hq (h5 x q).2)
 .refine GBOk.to ?_ ?_ ?_ ?_ ?_ ?_ (O.gb x g e)
  .rfl
  .rfl
  .rfl
  .rfl
  .exact λ_ r=>r
  .exact λi F=>⟨F.kp,F.ok,F.room,F.binds,F.vals⟩
end
def bq8{prog:a7}{w:bL}{A:bJ}{E:aj->aq->Prop}{s:aq}{t sl:Addr}{a b c d:aj}{u u':Tok}{Q:aj->aq->Prop}(ht:IsTup s.heap t [a,b,c,d].toArray)(hs:s.heap.IsSliceOf sl (.int 1 u) (.int 3 u') .none)(h:Q (.ref s.heap.objs.size) {s with heap:=s.heap.push {cls:=.type "tuple", data:=.seq [b,c].toArray}}):ba (model prog w) A (mF (.ref t) (.ref sl)) Q E s:=by
 have htk:sizeOk (.seq [b,c].toArray):=show 2<=sizeLine by decide
 obtain⟨os,hos,hcs,hds⟩:=id hs
 unfold mF
 try with_reducible refine bQ ?_
 refine ah (wpAny_sequenceKey ht.typeIs (by decide) (ah (gM (name:=eA "__getitem__") ht.typeIs slot_tuple_getitem (dX slot_tuple_getitem ht.typeIs entry_tuple_getitem ?_ (args_tuple_getitem _ _)))))
 show ba _ _ (Builtin.Tuple.tupleItemsOf (.ref t) >>= _) _ _ s
 refine ah (tupleItemsOf_ ht (ah (lR ⟨os,hos,hcs⟩ ?_)))
 rw[if_pos (by decide)]
 have ap:∀{A:bJ}{E:aj->aq->Prop}{Q:Int×Int×Nat->aq->Prop},Q (1,1,2) s->ba (model prog w) A (iF (.ref sl) (pure (([a,b,c,d].toArray.size:Nat):Int))) Q E s:=λ{A E Q} h=>by
  unfold iF Builtin.Slice.sliceFields
  refine ah (ah (ml hos hds (x:=.int 1 u) rfl (ah (ml hos hds (x:=.int 3 u') rfl (ah (ml hos hds (x:=.none) rfl (ao ?_)))))))
  refine ah (slicePart_none ?_)
  show ba _ _ (if((1:Int)==0)=true then _ else _) _ _ s
  rw[if_neg (by decide)]
  refine ah (slicePart_int (ah (slicePart_int (ah (ao ?_)))))
  exact ao h
 refine ah (ap ?_)
 show ba _ _ (if((1:Int)==0&&(1:Int)==1&&2==[a,b,c,d].toArray.size)=true then _ else _) _ _ _
 rw[if_neg (by simp)]
 have pk:((bi 2).filterMap λ(m:Nat)=>[a,b,c,d].toArray[((1:Int)+(m:Int)*1).toNat]?).toArray=[b,c].toArray:=rfl
 rw[pk]
 first
  |exact ah (m:=eG _) (cN (ao ⟨_,rfl,ao h⟩) htk)
  |exact ah (m:=eG _) (cN (ah (ao (ao ⟨_,rfl,ao h⟩))) htk)
  |exact ah (ah (m:=eG _) (cN (ao (ao ⟨_,rfl,ao h⟩)) htk))
  |exact ah (ah (m:=eG _) (cN (ao ⟨_,rfl,ao h⟩) htk))
def K0:St->Hp->(Option Int->Hp->Prop)->EK->Prop:=λ_ H Q _=>Q none H
def Bb(a:DE):St->Hp->(Option Int->Hp->Prop)->EK->Prop:=λσ H Q E=>a σ H (λx H1=>match x with
 |.int i=>Q (some i) H1
 |_=>False) E
def Mp(ψ:Array aj)(a b:Nat):slicePick ψ (some (a:Int)) (some (b:Int)) none=((ψ.toList.take b).drop a).toArray:=by
 rw[slicePick_plain]
 simp only[Option.elim,clipAt_nat]
 congr 1
 rw[List.drop_take]
 have hl:ψ.toList.length=ψ.size:=bn
 rcases lO a ψ.size with h|h
 .rw[Nat.min_eq_left h]
  rcases lO b ψ.size with h2|h2
  .rw[Nat.min_eq_left h2]
  .rw[Nat.min_eq_right h2,gR (by rw[dW];omega),gR (by rw[dW];omega)]
 .rw[Nat.min_eq_right h,c6 (by omega),c6 (by omega),List.take_nil,List.take_nil]
abbrev DO:=St->Hp->(Option Int->Hp->Prop)->EK->Prop
def b43(K:ae):V->Option Int->Option Int->Hp->VK->Prop:=λx lo hi H Q=>match x with
 |.str z=>z.length<=sizeLine/\Q (.str (Txt.slice z lo hi)) H
 |.ref a=>(∃xs,∃i k:Nat,SqL K H a xs/\(lo=none/\i=0\/lo=some (i:Int))/\hi=some (k:Int)/\∀p,H p=none->Q (.ref p) (upd H p (.lst ((xs.take k).drop i)))) \/ ∃x0 x1 x2 x3,SqT K H a [x0,x1,x2,x3]/\lo=some 1/\hi=some 3/\∀p,H p=none->Q (.ref p) (upd H p (.tup [x1,x2]))
 |_=>False
noncomputable def dSl(K:ae)(a:DE)(l h:DO):DE:=λσ H Q E=>a σ H (λx H1=>l σ H1 (λlo H2=>h σ H2 (λhi H3=>b43 K x lo hi H3 Q) E) E) E
def QO(X:Cx)(e:Option Expr)(t:DO):Prop:=∀Ex,Meets X Ex->PO X e (λσ H Q=>t σ H Q (Ex σ))
section
variable {X:Cx}{G:Sg}{e:Expr}{de:DE}{lo hi:Option Expr}{dl dh:DO}{pos p2:Pos}
def Xn:QO X none K0:=λ_ _=>a14
def Xo(h:QE X e de):QO X (some e) (Bb de):=by
 intro Ex m ξ s σ H Q I hw
 rw[evalPart_some]
 refine thn (h Ex m ξ s σ H _ I hw) λu s1 ⟨x,H1,I1,r1,q1⟩=>?_
 cases x with
 |int i=>obtain⟨t,rfl⟩:=r1;exact⟨some i,H1,I1,.int i t,q1⟩
 |_=>exact(q1).elim
def Pk(e:Expr)(z:Str)(t:Tok)(r:aj):letTemporaryGo e (.str z t) r=pure ():=by
 cases e <;> rfl
def al9(he:QE X e de)(hl:QO X lo dl)(hh:QO X hi dh):QE X (.Subscript e (.Slice lo hi none p2) pos) (dSl X.K de dl dh):=by
 intro Ex m ξ s σ H Q I h
 refine Subscript_ (thn (he Ex m ξ s σ H _ I h) λv s1 ⟨x,H1,I1,r1,q1⟩=>?_)
 refine wpAny_Slice (thn (hl Ex m ξ s1 σ H1 _ I1 q1) λvl s2 ⟨l,H2,I2,pl,q2⟩=>thn (hh Ex m ξ s2 σ H2 _ I2 q2) λvu s3 ⟨u,H3,I3,pu,q3⟩=>?_)
 rw[evalPart_none]
 refine ao ?_
 have I4:Inv X ξ σ H3 {s3 with heap:=s3.heap.push {cls:=.type "slice", data:=.fields #[vl,vu,.none]}}:=I3.kept λb ob q=>ai _ q
 cases x with
 |str z=>
  obtain⟨hz,q⟩:=q3
  obtain⟨t,rfl⟩:=r1
  have hk:KeptH (λh=>Inv X ξ σ H3 {s3 with heap:=h}):=λh ob J=>J.kept λb o eb=>ai _ eb
  have fin:∀h' t' k,Inv X ξ σ H3 {s3 with heap:=h'}->(λa s'=>s3.toks<=s'.toks->EP X ξ σ Q a s') (.str (Txt.slice z l u) t') {s3 with heap:=h',toks:=k}:=λh' t' k J htk=>⟨.str _,H3,J.tok k htk,⟨_,rfl⟩,q⟩
  refine bD (ag _) ?_
  cases pl with
  |none=>
   cases pu with
   |none=>exact iR (SBH.sliceItem_nn hk I3 fin hz) (by with_unfolding_all rfl) (Pk e z t)
   |int j uj=>exact iR (SBH.sliceItem_ns hk I3 fin hz) (by with_unfolding_all rfl) (Pk e z t)
  |int i ui=>
   cases pu with
   |none=>exact iR (SBH.sliceItem_sn hk I3 fin hz) (by with_unfolding_all rfl) (Pk e z t)
   |int j uj=>exact iR (SBH.sliceItem_ss hk I3 fin hz) (by with_unfolding_all rfl) (Pk e z t)
 |ref a=>
  cases r1
  rcases q3 with⟨xs,i,k,hx,hi,rfl,q⟩|⟨x0,x1,x2,x3,hx,rfl,rfl,q⟩
  case inr=>
   obtain⟨χ,r,ht,hz⟩:=I4.tuple hx
   cases pl
   cases pu
   cases r with|cons r0 r=>cases r with|cons r1 r=>cases r with|cons r2 r=>cases r with|cons r3 r=>
   cases r
   refine mH (ops:=[.ref s3.heap.objs.size,.ref a]) ht.typeIs PyProof.Rows.slot_tuple_getitem.lookup (bq8 ht (kT ..) ?_) (by with_unfolding_all rfl)
   exact⟨.ref _,_,I4.laid (o:=.tup [x1,x2]) (λb ob q=>ai _ q) (ag _) ⟨(show 2<=sizeLine by decide),_,.cons r1 (.cons r2 .nil),IsTup.new _ _⟩,rfl,q _ (I4.hok.fresh (ag _))⟩
  obtain⟨χ,r,ht,hz⟩:=I4.list hx
  have hl:=r.length
  have big:χ.toArray.size<=sizeLine:=by rw[aB];omega
  refine mH (ops:=[.ref s3.heap.objs.size,.ref a]) ht.isList.typeIs slot_list_getitem.lookup ?_ (by with_unfolding_all rfl)
  refine wpAny_getItem_list_slice ht.isList (kT ..) pl pu .none (by simp) ?_ big
  have e:slicePick χ.toArray l (some (k:Int)) none=((χ.take k).drop i).toArray:=by
   rcases hi with⟨rfl,rfl⟩|rfl
   .rw[slicePick_upto'];rfl
   .exact Mp χ.toArray i k
  rw[e]
  exact⟨.ref _,_,I4.laid (o:=.lst ((xs.take k).drop i)) (λb ob q=>ai _ q) (ag _) ⟨by rw[dW,aX];omega,_,0,(r.take k).drop i,aL _ rfl⟩,rfl,q _ (I4.hok.fresh (ag _))⟩
 |_=>exact(q3).elim
def Li:Expr->Bool
 |.Set _ _ _=>false
 |_=>true
def Lj{e:Expr}(h:Li e=true)(env:Env)(x:aj):fN e env x=pure x:=by
 cases e with
 |Set _ _ _=>cases h
 |_=>rfl
def Ra:Meets X (λ_ _ _=>False):=λ_ _ _ h=>h
variable {tg iter elt:Expr}{ifs:List Expr}{sc:Scope}{wi:DI}{g:DG}{tc:DT}
def Ui(G:Sg)(x:Str):Bool:=(G.sc.lookup x==some .local)||(G.top&&(G.sc.lookup x==some .cell))
noncomputable def wG:Nat->Sg->Expr->DG
 |0,_,_=>gNo
 | n+1,G,e=>match e with
  | .Name x _=>match Eh G.N x 0 with
   |some i=>if Ui G x=true then gdN i else gNo
   |none=>gNo
  |.Tuple ts _ _=>if G.calm=true/\ts.all Ba=true then gdT G.K ts.length (ts.map (wG n G)) else gNo
  |_=>gNo
def Pl(O:GOk X G){x:Str}(h:Ui G x=true):Loc X.env.scope x/\(X.fn x=true\/X.env.scope.names.lookup x=some .local):=by
 unfold Ui at h
 rw[eF,aW] at h
 rcases h with h|⟨h1,h2⟩
 .have:X.env.scope.names.lookup x=some .local:=by rw[O.sc];exact eC h
  exact⟨.inl this,.inr this⟩
 .have:X.env.scope.names.lookup x=some .cell:=by rw[O.sc];exact eC h2
  exact⟨.inr this,.inl (O.top h1 x)⟩
def E9{e:Expr}(h:Ba e=true)(es:List Expr)(env:Env):dy (e::es) env=(false,mq e env)::dy es env:=by
 cases e with
 |Starred _ _=>cases h
 |_=>rfl
def Kv{es:List Expr}(h:es.all Ba=true)(env:Env):(dy es env).length=es.length/\(dy es env).findIdx? (·.1)=none:=by
 induction es with
 |nil=>exact⟨rfl,rfl⟩
 |cons e es ih=>
  rw[cx,aW] at h
  obtain⟨h1,h2⟩:=ih h.2
  rw[E9 h.1]
  refine⟨by rw[aT,aT,h1],?_⟩
  rw[List.findIdx?_cons,h2]
  rfl
theorem So:∀n X G,GOk X G -> ∀e,PG X e (wG n G e)
 |0,_,_,_,_=>Rm
 | n+1,X,G,O,e=>by
  cases e with
  |Name x p=>
   unfold wG
   dsimp only
   split
   .rename_i i e
    split
    .rename_i h
     obtain⟨h1,h2⟩:=Pl O h
     exact a11 (by rw[O.N];exact O.nd) (by rw[O.N];exact F4 e) h1 h2
    .exact Rm
   .exact Rm
  |Tuple ts k p=>
   unfold wG
   dsimp only
   split
   .rename_i h
    obtain⟨h1,h2⟩:=h
    obtain⟨h3,h4⟩:=Kv h2 X.env
    rw[<- O.K]
    refine b39 (O.calm▸h1) ?_ h3 h4
    clear h3 h4
    induction ts with
    |nil=>exact bw6
    |cons t ts ih=>
     rw[cx,aW] at h2
     refine bw5 (So n X G O t) (ih h2.2) ?_
     rw[E9 h2.1]
     rfl
   .exact Rm
  |_=>exact Rm
end
section
variable {X:Cx}{G:Sg}{elt tg iter:Expr}{ifs:List Expr}{sc:Scope}{wi:DI}{g:DG}{tc:DT}{de:DE}{pos:Pos}
def av6(X:Cx)(ifs:List Expr)(t:DT):Prop:=∀Ex,Meets X Ex->Yf X ifs (λσ H Q=>t σ H Q (Ex σ))
def Ro:av6 X [] De:=λ_ _=>ak2
def Rp{c:Expr}{t:DT}(h:QT X c t):av6 X [c] t:=λEx m=>ak3 (h Ex m)
def Xl(O:GOk X G)(hc:X.calm=true)(hk:Fn G sc=true)(hs:Li iter=true)(hi:QI X tg iter wi)(hg:∀X',GOk X' (Dv G sc.names)->PG X' tg g)(ht:∀X',GOk X' (Dv G sc.names)->av6 X' ifs tc)(he:∀X',GOk X' (Dv G sc.names)->QE X' elt de) :
  QE X (.ListComp elt [⟨tg,iter,ifs,0⟩] sc pos) (By (Ge G sc.names) wi g tc de):=by
 intro Ex m ξ s σ H Q I h
 exact ad1 hc (Oy O hk) (hi Ex m) (λQ2 fp C D s2 H2 I2 f2 hC=>
  have M:=λ_ a H=>m σ a H
  have K:=Wj O hk fp C s2 H2 (Ck X sc (Du X.env.cells sc.names []) none Q2 D C)
  ⟨hg _ K,ht _ K _ M,he _ K _ M⟩) I h (λx=>Lj hs X.env x)
end
noncomputable def Wh(K:ae)(op:BoolOp):List DE->DE
 |[]=>dNo
 |[a]=>a
 | a::r=>match op with
  |.And=>Nx K a (Wh K op r)
  |.Or=>aw5 K a (Wh K op r)
noncomputable def Wg(op:BoolOp):List DT->DT
 |[]=>λ_ _ _ _=>False
 |[a]=>a
 | a::r=>match op with
  |.And=>Gk a (Wg op r)
  |.Or=>dOr a (Wg op r)
noncomputable def tNo:DT:=λ_ _ _ _=>False
noncomputable def Qp(G:Sg)(ops:List lT)(bs:List Expr)(a:DE)(ds:List DE):DE:=match ops,bs,ds with
 |[op],[b],[d]=>if gL op b=false then Ad (Jj G.K op) a d else dNo
 |[op,op'],[b,c],[d,d']=>if k9 [op,op'] [b,c]=false then O0 (Jj G.K op) (Jj G.K op') a d d' else dNo
 |_,_,_=>dNo
def exJ(n:Nat)(i:FI):Nat:=min i.dfs.length (n+i.dfs.length-i.ps.length)
def exO(n:Nat):Option FI->Nat
 |none=>0
 |some i=>exJ n i
noncomputable def ba1(G:Sg)(x:Str)(es:List Expr)(ds:List DE):DE:=
 if K9 G x=true/\es.all Ba=true then(match G.gb.lookup x with
  |some (.fn i)=>dFn (spE i.sp (i.dfs.drop (exJ es.length i))) (Ec ds)
  |some (.cls C oi)=>dFn (mkC C oi (exO (es.length+1) oi)) (Ec ds)
  |some _=>dNo
  | none=>if G.bl.contains x=true then(match bc7 G.K G.calm x with
   |some (_,r)=>if es.isEmpty=true then dNo else dFn (λvs H Q _=>r vs H Q) (Ec ds)
   |none=>dNo) else dNo) else dNo
noncomputable def ba3(G:Sg)(o:Expr)(m:Str)(es:List Expr)(ap cp:Pos)(d:DE)(ds:List DE):DE:=
 if C6 o=true/\es.all Ba=true/\es.length<30/\(ap.endLine==cp.line)=true then(match Cu G.gb m with
  |none=>dMt (rMt G.K (mtR G.K m)) d (Ec ds)
  |some l=>Bw m es.length l d (Ec ds)) else dNo
noncomputable def K1(d:DE):DE:=λσ H Q E=>d σ H (λv H'=>Thaw H H' (Q v)) E
def Xm{X:Cx}{e:Expr}{d:DE}(h:QE X e d):QE X e (K1 d):=λEx mt ξ s σ H Q I q=>
 thn (h Ex mt ξ s σ H _ I q) λv s1 ⟨x,H1,I1,r1,q1⟩=>
  let⟨H2,I2,q2⟩:=Thaw.inv I I1 q1
  ⟨x,H2,I2,r1,q2⟩
noncomputable def thw(e:Expr)(d:DE):DE:=match e with
 |.ListComp _ _ _ _=>K1 d
 |_=>d
def Up{X:Cx}{e e':Expr}{d:DE}(h:QE X e d):QE X e (thw e' d):=by
 cases e' with
 |ListComp=>exact Xm h
 |_=>exact h
inductive Fz where
 |srtSet (a:Expr)
noncomputable def fzD(K:ae)(w:Expr->DE):Fz->DE
 |.srtSet a=>dUn (Ik K) (w a)
def ay1(G:Sg)(x:Str):Bool:=K9 G x&&(G.gb.lookup x).isNone&&G.bl.contains x
def fz1(G:Sg)(x:Str):Expr->Option Fz
 | .Call f as ks cp=>(match f with
  | .Name y _=>(match as with
   |[a]=>if x="sorted" /\ y="set" /\ ks.isEmpty=true/\ay1 G x=true/\ay1 G y=true/\Ba a=true/\G.calm=true then some (.srtSet a) else none
   |_=>none)
  |_=>none)
 |_=>none
def ae7(G:Sg)(x:Str):List Expr->Option Fz
 |[a]=>fz1 G x a
 |_=>none
noncomputable def wUn(K:ae)(op:UnaryOp)(d:DE):DE:=match op with
 |.USub=>dUn Xp d
 |.Not=>a68 K d
 |_=>dNo
noncomputable def wNm(G:Sg)(w:Expr->DE)(x:Str)(es:List Expr):DE:=match ae7 G x es with
 |some z=>fzD G.K w z
 |none=>ba1 G x es (es.map λe=>if x="sorted" then thw e (w e) else w e)
noncomputable def wKw(G:Sg)(w:Expr->DE)(x:Str)(a:Expr)(k:Str)(v:Expr):DE:=match v with
 | .Attribute o m _=>if x="sorted" /\ k="key" /\ K9 G x=true/\G.bl.contains x=true/\Ba a=true/\C6 o=true/\G.calm=true then(match Hu G.gb m with
   |some l=>ad4 G.K m l (w a) (w o)
   |none=>dNo) else dNo
 | .Name f _=>if x="min" /\ k="key" /\ K9 G x=true/\G.bl.contains x=true/\Ba a=true/\K9 G f=true/\G.calm=true then(match G.gb.lookup f with
   |some (.kfn i)=>ad3 G.K i.sp (w a)
   |_=>dNo) else dNo
 |_=>dNo
mutual
noncomputable def wE:Nat->Sg->Expr->DE
 |0,_,_=>dNo
 | n+1,G,e=>match e with
  |.Constant c _ _=>as9 c
  |.Name x _=>at3 G x
  |.BinOp a op b _=>thw b (Ad (rOp G.K op) (wE n G a) (wE n G b))
  |.UnaryOp op a _=>wUn G.K op (wE n G a)
  |.BoolOp op es _=>Wh G.K op (es.map (wE n G))
  |.Compare a ops bs _=>Qp G ops bs (wE n G a) (bs.map (wE n G))
  |.List es _=>if es.all Ba=true then As (Ec (es.map (wE n G))) else dNo
  |.Tuple es _ _=>if es.all Ba=true then Bp (Ec (es.map (wE n G))) else dNo
  | .Subscript a b _=>(match b with
   |.Slice lo hi st _=>if st.isNone=true then dSl G.K (wE n G a) (match lo with|none=>K0|some l=>Bb (wE n G l)) (match hi with|none=>K0|some h=>Bb (wE n G h)) else dNo
   |b=>Ad (Ai G.K) (wE n G a) (wE n G b))
  |.IfExp t a b _=>aw4 (wT n G t) (wE n G a) (wE n G b)
  |.JoinedStr es _=>ba2 (wE n G) es
  |.FormattedValue a c f _=>if c = -1/\f.isNone=true then dUn a36 (wE n G a) else dNo
  |.Attribute o f _=>if C6 o=true then dUn (Gs G.K f) (wE n G o) else dNo
  | .Call f es ks cp=>(match f with
   | .Name x _=>(match ks with
    |[]=>wNm G (wE n G) x es
    | [⟨some k,v,_⟩]=>(match es with
     |[a]=>wKw G (wE n G) x a k v
     |_=>dNo)
    |_=>dNo)
   |.Attribute o m ap=>if ks.isEmpty=true then ba3 G o m es ap cp (wE n G o) (es.map (wE n G)) else dNo
   |_=>dNo)
  |.Dict ks vs _=>if ks.isEmpty=true/\vs.isEmpty=true then Jv else dNo
  | .ListComp elt gs sc _=>(match gs with
   | [⟨tg,iter,ifs,a⟩]=>if a=0/\G.calm=true/\Fn G sc=true/\Li iter=true then
    By (Ge G sc.names) (wI n G tg iter) (wG n (Dv G sc.names) tg) (match ifs with | []=>De | [c]=>wT n (Dv G sc.names) c|_=>tNo) (wE n (Dv G sc.names) elt) else dNo
   |_=>dNo)
  |_=>dNo
noncomputable def wT:Nat->Sg->Expr->DT
 |0,_,_=>tNo
 | n+1,G,e=>match e with
  | .UnaryOp op a p=>(match op with
   |.Not=>O1 (wT n G a)
   |op=>D4 G.K (wE n G (.UnaryOp op a p)))
  |.BoolOp op es _=>Wg op (es.map (wT n G))
  |.Compare a ops bs _=>Au (Qp G ops bs (thw a (wE n G a)) (bs.map λe=>thw e (wE n G e)))
  |.IfExp _ _ _ _=>tNo
  |e=>D4 G.K (wE n G e)
noncomputable def wI:Nat->Sg->Expr->Expr->DI
 |0,_,_,_=>iNo
 | n+1,G,tg,e=>match e with
  | .Call f es ks p=>(match f with
   | .Name x q=>(match es with
    | a::es=>if ks.isEmpty=true/\K9 G x=true/\G.bl.contains x=true/\(a::es).all Ba=true then
      (if x="range" then Gv (Ec ((a::es).map (wE n G)))
      else if x="zip" then(match tg with
       |.Tuple _ _ _=>iZp G.K (Ec ((a::es).map (wE n G)))
       |_=>iNo)
      else if x="reversed" /\ es.isEmpty=true then ax7 G.K (wE n G a)
      else B9 G.K (wE n G (.Call (.Name x q) (a::es) ks p)))
     else B9 G.K (wE n G (.Call (.Name x q) (a::es) ks p))
    |[]=>B9 G.K (wE n G (.Call (.Name x q) [] ks p)))
   | .Attribute o m ap=>(match tg with
    |.Tuple _ _ _=>if es.isEmpty=true/\ks.isEmpty=true/\m="items" /\ C6 o=true/\(ap.endLine==p.line)=true then bd9 (wE n G o) else B9 G.K (wE n G (.Call (.Attribute o m ap) es ks p))
    |_=>B9 G.K (wE n G (.Call (.Attribute o m ap) es ks p)))
   |f=>B9 G.K (wE n G (.Call f es ks p)))
  |.ListComp a b c d=>B9 G.K (K1 (wE n G (.ListComp a b c d)))
  |e=>B9 G.K (wE n G e)
end
def a89{X:Cx}{e:Expr}:QT X e tNo:=λ_ _ _ _ _ _ _ _ h=>h.elim
theorem Ps{X:Cx}{w:Expr->DE}{op:BoolOp}{pos:Pos}(h:∀e,QE X e (w e)):∀{es:List Expr},QE X (.BoolOp op es pos) (Wh X.K op (es.map w))
 |[]=>Bo
 |[e]=>bo1 (h e)
 | e::e'::es=>by
  cases op with
  |And=>exact bn2 (h e) (Ps h)
  |Or=>exact bx6 (h e) (Ps h)
theorem Pu{X:Cx}{w:Expr->DT}{op:BoolOp}{pos:Pos}(h:∀e,QT X e (w e)):∀{es:List Expr},QW X (.BoolOp op es pos) (Wg op (es.map w))
 |[]=>λ_ _ _ _ _ _ _ _ _ h=>h.elim
 | [e]=>by
  cases op with
  |And=>exact a35 (h e)
  |Or=>exact bp5 (h e)
 | e::e'::es=>by
  cases op with
  |And=>exact bp4 (h e) (Pu h)
  |Or=>exact bx8 (h e) (Pu h)
section
variable {X:Cx}{G:Sg}
def Eo{c:Prop} [Decidable c]{e:Expr}{d:DE}(h:c->QE X e d):QE X e (if c then d else dNo):=by
 by_cases z:c
 .rw[if_pos z];exact h z
 .rw[if_neg z];exact Bo
def Wi{P:List lT->List Expr->DE->Prop}{w:Expr->DE}(a:Expr)(h1:∀op b,gL op b=false->P [op] [b] (Ad (Jj G.K op) (w a) (w b)))(h2:∀op op' b c,k9 [op,op'] [b,c]=false->P [op,op'] [b,c] (O0 (Jj G.K op) (Jj G.K op') (w a) (w b) (w c)))(h0:∀ops bs,P ops bs dNo)(ops:List lT)(bs:List Expr):P ops bs (Qp G ops bs (w a) (bs.map w)):=by
 rcases ops with _|⟨op,_|⟨op',_|_⟩⟩ <;> rcases bs with _|⟨b,_|⟨c,_|_⟩⟩ <;> try exact h0 _ _
 .exact dite (gL op b=false) (λz=>by rw[show Qp G [op] [b] (w a) ([b].map w)=_ from if_pos z];exact h1 op b z) λz=>by rw[show Qp G [op] [b] (w a) ([b].map w)=_ from if_neg z];exact h0 _ _
 .exact dite (k9 [op,op'] [b,c]=false) (λz=>by rw[show Qp G [op,op'] [b,c] (w a) ([b,c].map w)=_ from if_pos z];exact h2 op op' b c z) λz=>by rw[show Qp G [op,op'] [b,c] (w a) ([b,c].map w)=_ from if_neg z];exact h0 _ _
def a23(O:GOk X G){w:Expr->DE}(h:∀e,QE X e (w e))(a:Expr)(ops:List lT)(bs:List Expr)(pos:Pos):QE X (.Compare a ops bs pos) (Qp G ops bs (w a) (bs.map w)):=
 Wi (P:=λops bs d=>QE X (.Compare a ops bs pos) d) a (λop b z=>by rw[<- O.K];exact bn5 O.units op (h a) (h b) z) (λop op' b c z=>by rw[<- O.K];exact al6 O.units op op' (h a) (h b) (h c) z) (λ_ _=>Bo) ops bs
def a34(O:GOk X G){w:Expr->DE}(h:∀e,QE X e (w e))(a:Expr)(ops:List lT)(bs:List Expr)(pos:Pos):QT X (.Compare a ops bs pos) (Au (Qp G ops bs (w a) (bs.map w))):=
 Wi (P:=λops bs d=>QT X (.Compare a ops bs pos) (Au d)) a (λop b z=>by rw[<- O.K];exact bp2 O.units op (h a) (h b) z) (λop op' b c z=>by rw[<- O.K];exact am5 O.units op op' (h a) (h b) (h c) z) (λ_ _=>λ_ _ _ _ _ _ _ _ h=>h.elim) ops bs
def al5(O:GOk X G){w:Expr->DE}(h:∀e,QE X e (w e))(x:Str)(es:List Expr)(p pos:Pos):QE X (.Call (.Name x p) es [] pos) (ba1 G x es (es.map w)):=by
 refine Eo fun⟨hg,hs⟩=>?_
 have dd:=Tw hg
 cases e:G.gb.lookup x with
 |some b=>
  have A:=O.at_ x _ e
  cases b with
  |fn i=>exact a87 h hs (O.gl hg) dd.1 A.1 A.2.kp λmt I r q=>Xr A.2 (jN _ _) mt I r q
  |cls C oi=>exact a87 h hs (O.gl hg) dd.1 A.1 A.2.1 λmt I r q=>a44 A.2.2 (λi z=>by subst z;exact jN _ _) mt I r A.2.1 q
  |_=>exact Bo
 |none=>
  refine Eo λhb=>?_
  cases er:bc7 G.K G.calm x with
  |none=>exact Bo
  |some f=>
   obtain⟨f,r⟩:=f
   cases es with
   |nil=>exact Bo
   |cons e es=>
    rw[<- O.K] at er
    obtain⟨b1,b2⟩:=av9 O.units er O.calm
    exact bn4 b2 (O.gl hg) (O.bl x hb) b1 (Eg h hs) hs dd.2.2 dd.1
def al8(O:GOk X G){w:Expr->DE}(h:∀e,QE X e (w e))(o:Expr)(m:Str)(es:List Expr)(ap cp:Pos):QE X (.Call (.Attribute o m ap) es [] cp) (ba3 G o m es ap cp (w o) (es.map w)):=by
 refine Eo fun⟨h1,h2,h3,h4⟩=>?_
 rw[<- O.K]
 cases e:Cu G.gb m with
 |none=>
  cases es with
  |nil=>exact bn8 (λb hb=>ah9 O.units hb) (h o) h1 h4
  |cons e es=>exact bx4 (λb hb=>ah9 O.units hb) (h o) (Eg h h2) h1 h2 h3 h4
 |some l=>exact bo2 (O.met m l e) h h1 h2 h3 h4
end
def Ki{X:Cx}{G:Sg}(O:GOk X G){x:Str}(h:ay1 G x=true):Gl X x/\X.mg x=none:=by
 unfold ay1 at h
 rw[aW,aW] at h
 exact⟨O.gl h.1.1,O.bl _ h.2⟩
def a25{X:Cx}{G:Sg}(O:GOk X G){w:Expr->DE}(h:∀e,QE X e (w e)){x:Str}{es:List Expr}{p pos:Pos}{z:Fz}(e:ae7 G x es=some z) :
  QE X (.Call (.Name x p) es [] pos) (fzD G.K w z):=by
 rw[<- O.K]
 rcases es with _|⟨f,_|_⟩
 .cases e
 .cases f with
  |Call f as ks cp=>
   cases f with
   |Name y q=>
    rcases as with _|⟨a,_|_⟩
    .cases e
    .refine Cr e (fun⟨e1,e2,h0,h1,h2,h3,h4⟩ ez=>?_) λe=>nomatch e
     subst e1 e2 ez
     rw[List.isEmpty_iff.mp h0]
     exact Zk (O.calm▸h4) (Ki O h1).1 (Ki O h1).2 (Ki O h2).1 (Ki O h2).2 (h _) h3
    .cases e
   |_=>cases e
  |_=>cases e
 .cases e
def bx5{X:Cx}{G:Sg}(O:GOk X G){w:Expr->DE}(h:∀e,QE X e (w e)){x:Str}{es:List Expr}{p pos:Pos}:QE X (.Call (.Name x p) es [] pos) (wNm G w x es):=by
 unfold wNm
 split
 .exact a25 O h ‹_›
 ·(refine al5 O ?_ _ _ _ _;exact λe=>by split <;> first|exact Up (h e)|exact h e)
def bx3{X:Cx}{G:Sg}(O:GOk X G){w:Expr->DE}(h:∀e,QE X e (w e)){x k:Str}{a v:Expr}{p q pos:Pos}:QE X (.Call (.Name x p) [a] [⟨some k,v,q⟩] pos) (wKw G w x a k v):=by
 cases v with
 |Attribute o m ap=>
  refine Eo λhh=>?_
  obtain⟨rfl,rfl,h1,h2,h3,h4,h5⟩:=hh
  split
  .rename_i l el
   obtain⟨k,hk⟩:=Fr el
   rw[<- O.K]
   exact a29 (O.calm▸h5) (O.gb _ _ hk) (O.gl h1) (O.bl _ h2) (h _) (h _) h3 h4
  .exact Bo
 |Name f q=>
  refine Eo λhh=>?_
  obtain⟨rfl,rfl,h1,h2,h3,h4,h5⟩:=hh
  split
  .rename_i i el
   have A:=O.at_ f _ el
   rw[<- O.K]
   exact a27 O.units (O.calm▸h5) A.2.1 A.2.2 (O.gl h1) (O.bl _ h2) (O.gl h4) A.1 (Tw h4).1 (h _) h3
  .exact Bo
 |_=>exact Bo
def br1:∀(n:Nat)(X:Cx)(G:Sg),GOk X G->(∀e,QE X e (wE n G e))/\(∀e,QT X e (wT n G e))/\(∀tg e,QI X tg e (wI n G tg e)):=by
 intro n
 induction n with
 |zero=>
  intro X G O
  exact⟨λ_=>Bo,λ_=>a89,λ_ _=>a88⟩
 |succ n ih=>
  intro X G O
  obtain⟨hE,hT,hI⟩:=ih X G O
  obtain⟨K,N,sc0,gb,bl,top,cm⟩:=G
  obtain rfl:X.K=K:=O.K
  refine⟨λe=>?_,λe=>?_,λtg e=>?_⟩
  .cases e with
   |Constant=>exact al7 _ _ _
   |Name=>exact a28 O _ _
   |BinOp=>exact Up (bn3 _ (hE _) (hE _))
   |UnaryOp op=>
    cases op with
    |USub=>exact bn9 (hE _)
    |Not=>exact bo0 (hE _)
    |_=>exact Bo
   |BoolOp=>exact Ps hE
   |Compare=>exact a23 O hE _ _ _ _
   |List=>exact Eo λh=>bn7 (Eg hE h)
   |Tuple=>exact Eo λh=>bo3 (Eg hE h)
   |Subscript a b=>
    cases b with
    |Slice lo hi st=>
     cases st with
     |none=>exact al9 (hE _) (by cases lo <;> first|exact Xn|exact Xo (hE _)) (by cases hi <;> first|exact Xn|exact Xo (hE _))
     |some=>exact Bo
    |_=>exact bx2 O.units (hE _) (hE _) rfl
   |IfExp=>exact bx1 (hT _) (hE _) (hE _)
   |JoinedStr=>exact a26 hE _
   |FormattedValue a c f=>
    refine Eo λh=>?_
    cases f with
    |none=>rw[h.1];exact bn6 (hE _)
    |some=>exact nomatch h.2
   |Attribute=>exact Eo λh=>a22 (hE _) (Dh h _ X.env _)
   |Call f es ks=>
    cases f with
    |Name x=>
     rcases ks with _|⟨⟨_|k,v,_⟩,_|_⟩
     .exact bx5 O hE
     .exact Bo
     .exact Bo
     .rcases es with _|⟨a,_|_⟩
      .exact Bo
      .exact bx3 O hE
      .exact Bo
     .exact Bo
    |Attribute=>
     cases ks with
     |nil=>exact al8 O hE _ _ _ _ _
     |cons=>exact Bo
    |_=>exact Bo
   |Dict ks vs=>
    rcases ks with _|⟨_|k,_|_⟩ <;> rcases vs with _|⟨v,_|_⟩ <;> first|exact a24|exact Bo
   |ListComp elt gs=>
    rcases gs with _|⟨⟨tg,it,ifs,a⟩,_|_⟩
    .exact Bo
    .refine Eo fun⟨h0,h1,h2,h3⟩=>?_
     subst h0
     refine Xl O (O.calm▸h1) h2 h3 (hI _ _) (λX' O'=>So n X' _ O' _) (λX' O'=>?_) (λX' O'=>(ih X' _ O').1 _)
     rcases ifs with _|⟨c,_|_⟩
     .exact Ro
     .exact Rp ((ih X' _ O').2.1 _)
     .exact λ_ _ _ _ _ _ _ _ h=>h.elim
    .exact Bo
   |_=>exact Bo
  .cases e with
   |UnaryOp op=>
    cases op with
    |Not=>exact bp3 (hT _)
    |_=>exact am6 (hE _) rfl
   |BoolOp=>exact λEx m=>PW.pt (Pu hT Ex m)
   |Compare=>exact a34 O (λe=>Up (hE e)) _ _ _ _
   |IfExp=>exact a89
   |_=>exact am6 (hE _) rfl
  .cases e with
   |Call f es ks p=>
    cases f with
    |Name x q=>
     cases es with
     |nil=>exact F1 (hE _)
     |cons a es=>
      show QI X tg _ (if _ then _ else _)
      split
      .rename_i hh
       obtain⟨h0,h1,h2,h3⟩:=hh
       rw[List.isEmpty_iff.mp h0]
       split
       .rename_i e;subst e;exact am1 (O.gl h1) (O.bl _ h2) (Eg hE h3) h3
       split
       .rename_i e
        subst e
        cases tg with
        |Tuple=>exact bo6 (O.gl h1) (O.bl _ h2) (Eg hE h3) h3
        |_=>exact a88
       split
       .rename_i e
        obtain⟨rfl,h4⟩:=e
        rw[List.isEmpty_iff.mp h4]
        rw[cx,aW] at h3
        exact bo5 (O.gl h1) (O.bl _ h2) (hE _) h3.1
       .exact F1 (hE _)
      .exact F1 (hE _)
    |Attribute o m ap=>
     cases tg with
     |Tuple=>
      show QI X _ _ (if _ then _ else _)
      split
      .rename_i hh
       obtain⟨h0,h1,rfl,h2,h3⟩:=hh
       rw[List.isEmpty_iff.mp h0,List.isEmpty_iff.mp h1]
       exact am0 (hE _) h2 h3
      .exact F1 (hE _)
     |_=>exact F1 (hE _)
    |_=>exact F1 (hE _)
   |ListComp=>exact F1 (Xm (hE _))
   |_=>exact F1 (hE _)
def Pj:Expr->Bool
 |.ListComp _ _ _ _=>false
 |.SetComp _ _ _ _=>false
 |.DictComp _ _ _ _ _=>false
 |_=>true
def Ob{e:Expr}(h:Pj e=true)(t:Option Expr)(l:Nat)(env:Env):iC e t l env=pure false:=by
 cases e with
 |ListComp _ _ _ _=>cases h
 |SetComp _ _ _ _=>cases h
 |DictComp _ _ _ _ _=>cases h
 |_=>rfl
section
variable {X:Cx}{G:Sg}{st:Stmt}{rest:List Stmt}{t u:DS}{e:Expr}{de:DE}{pos p':Pos}
def C7:QS X st Cl:=λ_ _ _ _ _ _ _ _ h=>h.elim
def a33:QSs X [] Ag:=λ_ _=>a18
def am4(h1:QS X st t)(h2:QSs X rest u):QSs X (st::rest) (Af t u):=λEx m=>al1 (h1 Ex m) (h2 Ex m)
def a31:QS X (.Pass pos) Ag:=λ_ _=>a16
def bp0(h:QE X e de):QS X (.Return (some e) pos) (Ap de):=λEx m=>bm3 (h Ex m)
def a32:QS X (.Return none pos) a69:=λ_ _=>a17
def a30(h:QE X e de)(hn:Pj e=true):QS X (.Expr e pos) (Bj de):=λEx m=>a15 (h Ex m) (Ob hn _ _ _)
def bx7{c:Expr}{a b:List Stmt}{tc:DT}(hc:QT X c tc)(ha:QSs X a t)(hb:QSs X b u):QS X (.If c a b pos) (dIf tc t u):=λEx m=>bw8 (hc Ex m) (ha Ex m) (hb Ex m)
def am2{i:Nat}{x:Str}(O:GOk X G)(hi:Eh G.N x 0=some i)(hx:Ui G x=true)(h:QE X e de)(hn:iC e (some (.Name x p')) pos.line X.env=pure false):QS X (.Assign [.Name x p'] e pos) (Aq i de):=by
 obtain⟨h1,h2⟩:=Pl O hx
 exact λEx m=>bm4 (by rw[O.N];exact O.nd) (by rw[O.N];exact F4 hi) h1 (h Ex m) hn h2
variable {tg iter elt:Expr}{ifs:List Expr}{sc:Scope}{wi:DI}{g:DG}{tc:DT}
def Uq{i:Nat}{x:Str}{cp:Pos}(O:GOk X G)(hi:Eh G.N x 0=some i)(hx:Ui G x=true)(hc:X.calm=true)(hk:Fn G sc=true)(hs:Li iter=true)(hq:QI X tg iter wi)(hg:∀X',GOk X' (Dv G sc.names)->PG X' tg g)(ht:∀X',GOk X' (Dv G sc.names)->av6 X' ifs tc)(he:∀X',GOk X' (Dv G sc.names)->QE X' elt de) :
  QS X (.Assign [.Name x p'] (.ListComp elt [⟨tg,iter,ifs,0⟩] sc cp) pos) (Aq i (By (Ge G sc.names) wi g tc de)):=by
 obtain⟨h1,h2⟩:=Pl O hx
 have sw:iC (.ListComp elt [⟨tg,iter,ifs,0⟩] sc cp) (some (.Name x p')) pos.line X.env=pure (X.env.blockKind==.function&&X.env.kindOf x==some .local&&p'.line==(Expr.ListComp elt [⟨tg,iter,ifs,0⟩] sc cp).pos.line
   && !(sc.names.any λ(n,k)=>n==x&&(k==.local||k==.cell))):=rfl
 cases hb:(X.env.blockKind==.function&&X.env.kindOf x==some .local&&p'.line==(Expr.ListComp elt [⟨tg,iter,ifs,0⟩] sc cp).pos.line
   && !(sc.names.any λ(n,k)=>n==x&&(k==.local||k==.cell))) with
 |false=>
  rw[hb] at sw
  exact am2 O hi hx (Xl O hc hk hs hq hg ht he) sw
 |true=>
  rw[hb] at sw
  simp only[aW] at hb
  have hl:=eC hb.1.1.2
  intro Ex m ξ s σ H D I h
  exact ad0 hc (by rw[O.N];exact O.nd) (by rw[O.N];exact F4 hi) hl (Oy O hk) (hq Ex m) (λus Q2 fp C D s2 H2 I2 f2 hC=>
   have M:=λ_ a H=>m σ a H
   have K:=Wj O hk fp C s2 H2 (Ck X sc (Du X.env.cells sc.names []) us Q2 D C)
   ⟨hg _ K,ht _ K _ M,he _ K _ M⟩) I h sw (λx=>Lj hs X.env x)
def bo9{body:List Stmt}(O:GOk X G)(ht:G.top=true)(hc:X.calm=true)(hi:QI X tg iter wi)(hg:PG X tg g)(hb:QSs X body t)(hs:Li iter=true):QS X (.For tg iter body [] pos) (Da wi g t):=by
 intro Ex m ξ s σ H D I h
 refine b9 (bm2 (O.own ht) hc (hi Ex m) hg (hb Ex m) (λx=>Lj hs X.env x) ξ s σ H {D with nx:=λσ' H'=>Thaw H H' (D.nx σ')} I h) (λf s' q=>?_) λ_ _ z=>z
 cases f with
 |next=>
  obtain⟨σ',H',I',q⟩:=q
  obtain⟨H2,I2,q2⟩:=Thaw.inv I I' q
  exact⟨σ',H2,I2,q2⟩
 |_=>exact q
def am3{c:Expr}{body:List Stmt}(O:GOk X G)(ht:G.top=true)(hc:QT X c tc)(hb:QSs X body t):QS X (.While c body [] pos) (Ix tc t):=λEx m=>al0 (O.own ht) (hc Ex m) (hb Ex m)
def ai8:Expr->Bool
 |.Tuple _ _ _=>false
 |_=>true
def ai9{e:Expr}{ts:List Expr}{kt:Nat}{pt:Pos}(h:ai8 e=true)(env:Env):swappedStores [.Tuple ts kt pt] e env=pure none:=by
 cases e with
 |Tuple _ _ _=>cases h
 |_=>rfl
def bo7{ts:List Expr}{kt:Nat}{pt:Pos}{g:DG}(h:QE X e de)(hg:PG X (.Tuple ts kt pt) g)(ht:ai8 e=true):QS X (.Assign [.Tuple ts kt pt] e pos) (Dw de g):=
 λEx m=>ak9 (h Ex m) hg (by show iC e (some (.Tuple ts kt pt)) pos.line X.env=pure false;cases e <;> rfl) (ai9 ht _)
noncomputable def Dk(K:ae)(o i:DE):DG:=λv σ H Q=>o σ H (λx H1=>i σ H1 (λy H2=>an9 x y v H2 (Q σ)) λ_ _=>False) λ_ _=>False
def bp1{o i:Expr}{do' di:DE}(hu:X.A.units+64<cLine)(ho:QE X o do')(hi:QE X i di)(h:QE X e de)(hsl:Kl i=true):QS X (.Assign [.Subscript o i p'] e pos) (Dw de (Dk X.K do' di)):=by
 intro Ex m
 have hg:PG X (.Subscript o i p') (Dk X.K do' di):=bl7 (ho _ Ra) (hi _ Ra) (by7 hu) (by
  intro v
  cases i with
  |Slice _ _ _ _=>cases hsl
  |_=>rfl)
 exact ak9 (h Ex m) hg (by show iC e (some (.Subscript o i p')) pos.line X.env=pure false;cases e <;> rfl) (by cases e <;> rfl)
noncomputable def bd4(K:ae)(f:Str)(o e:DE):DS:=λD σ H=>e σ H (λy H1=>o σ H1 (λx H2=>a94 K f x y H2 (D.nx σ)) (D.ex σ)) (D.ex σ)
def bo8{o:Expr}{f:Str}{do':DE}(ho:QE X o do')(h:QE X e de):QS X (.Assign [.Attribute o f p'] e pos) (bd4 X.K f do' de):=by
 intro Ex m ξ s σ H D I hw
 exact plainObj_wpAny_Assign_Attribute (thn (h Ex m ξ s σ H _ I hw) λu s1 ⟨y,H1,I1,ry,q⟩=>thn (ho Ex m ξ s1 σ H1 _ I1 q) λov s2 ⟨x,H2,I2,rx,q2⟩=>(by3 I2 rx ry q2 λH' s' I' hN=>⟨σ,H',I',hN⟩)) (by cases e <;> rfl)
end
mutual
noncomputable def wS:Nat->Sg->Stmt->DS
 |0,_,_=>Cl
 | n+1,G,st=>match st with
  |.Pass _=>Ag
  | .Return v _=>(match v with
   |some e=>Ap (wE n G e)
   |none=>a69)
  |.Expr e _=>if Pj e=true then Bj (wE n G e) else Cl
  |.If c a b _=>dIf (wT n G c) (wSs n G a) (wSs n G b)
  | .Assign ts e _=>(match ts with
   | [t]=>(match t with
    | .Name x _=>(match Eh G.N x 0 with
     | some i=>(match e with
      | .ListComp elt gs sc _=>(match gs with
       | [⟨tg,iter,ifs,a⟩]=>if a=0/\Ui G x=true/\G.calm=true/\Fn G sc=true/\Li iter=true then
        Aq i (By (Ge G sc.names) (wI n G tg iter) (wG n (Dv G sc.names) tg) (match ifs with | []=>De | [c]=>wT n (Dv G sc.names) c|_=>tNo) (wE n (Dv G sc.names) elt)) else Cl
       |_=>Cl)
      |e=>if Ui G x=true/\Pj e=true then Aq i (wE n G e) else Cl)
     |none=>Cl)
    |.Tuple ts kt pt=>if ai8 e=true then Dw (wE n G e) (wG n G (.Tuple ts kt pt)) else Cl
    |.Attribute o f _=>bd4 G.K f (wE n G o) (wE n G e)
    |.Subscript o i _=>if Kl i=true then Dw (wE n G e) (Dk G.K (wE n G o) (wE n G i)) else Cl
    |_=>Cl)
   |_=>Cl)
  |.For tg iter body el _=>if el.isEmpty=true/\G.calm=true/\Li iter=true/\G.top=true then Da (wI n G tg iter) (wG n G tg) (wSs n G body) else Cl
  |.While c body el _=>if el.isEmpty=true/\G.top=true then Ix (wT n G c) (wSs n G body) else Cl
  |_=>Cl
noncomputable def wSs:Nat->Sg->List Stmt->DS
 |0,_,_=>Cl
 |_+1,_,[]=>Ag
 |n+1,G,s::r=>Af (wS n G s) (wSs n G r)
end
def Hg{X:Cx}{c:Prop} [Decidable c]{st:Stmt}{d:DS}(h:c->QS X st d):QS X st (if c then d else Cl):=by
 by_cases z:c
 .rw[if_pos z];exact h z
 .rw[if_neg z];exact C7
def b27:∀n X G,GOk X G->(∀s,QS X s (wS n G s))/\(∀ss,QSs X ss (wSs n G ss)):=by
 intro n
 induction n with
 |zero=>exact λ_ _ _=>⟨λ_=>C7,λ_ _ _ _ _ _ _ _ _ h=>h.elim⟩
 |succ n ih=>
  intro X G O
  obtain⟨hS,hSs⟩:=ih X G O
  obtain⟨hE,hT,hI⟩:=br1 n X G O
  refine⟨λs=>?_,λs=>?_⟩
  .obtain⟨K,N,sc0,gb,bl,top,cm⟩:=G
   obtain rfl:X.K=K:=O.K
   cases s with
   |Pass=>exact a31
   |Return v=>
    cases v with
    |some=>exact bp0 (hE _)
    |none=>exact a32
   |Expr=>exact Hg λh=>a30 (hE _) h
   |If=>exact bx7 (hT _) (hSs _) (hSs _)
   |Assign ts e p=>
    rcases ts with _|⟨t,_|_⟩
    .exact C7
    .cases t with
     |Name x q=>
      show QS X _ (match Eh N x 0 with|some i=>_|none=>Cl)
      split
      .rename_i i ei
       cases e with
       |ListComp elt gs sc=>
        rcases gs with _|⟨⟨tg,it,ifs,a⟩,_|_⟩
        .exact C7
        .refine Hg fun⟨h0,h1,h2,h3,h4⟩=>?_
         subst h0
         refine Uq O ei h1 (O.calm▸h2) h3 h4 (hI _ _) (λX' O'=>So n X' _ O' _) (λX' O'=>?_) (λX' O'=>(br1 n X' _ O').1 _)
         rcases ifs with _|⟨c,_|_⟩
         .exact Ro
         .exact Rp ((br1 n X' _ O').2.1 _)
         .exact λ_ _ _ _ _ _ _ _ h=>h.elim
        .exact C7
       |_=>exact Hg λh=>am2 O ei h.1 (hE _) (Ob h.2 _ _ _)
      .exact C7
     |Tuple=>exact Hg λh=>bo7 (hE _) (So n X _ O _) h
     |Attribute=>exact bo8 (hE _) (hE _)
     |Subscript=>exact Hg λh=>bp1 O.units (hE _) (hE _) (hE _) h
     |_=>exact C7
    .exact C7
   |For=>exact Hg λh=>by rw[List.isEmpty_iff.mp h.1];exact bo9 O h.2.2.2 (O.calm▸h.2.1) (hI _ _) (So n X _ O _) (hSs _) h.2.2.1
   |While=>exact Hg λh=>by rw[List.isEmpty_iff.mp h.1];exact am3 O h.2 (hT _) (hSs _)
   |_=>exact C7
  .cases s with
   |nil=>exact a33
   |cons a r=>exact am4 (hS a) (hSs r)
section
variable {P:a7}{w:bL}{K:ae}{mg:Str->Option aj}{base:Heap}
structure FnIn (P:a7) (w:bL) (K:ae) (mg:Str->Option aj) (base:Heap) (k:Nat) (x:Str) (i:FI):Prop where
 at_:mg x=some (.ref i.f)
 kp:bP K (.ref i.f)=true
 ok:FnOk P w K mg base CX0 i.k i.f i.fd i.ps i.sp
 le:i.k<=k
 binds:∀j,j<=i.dfs.length->Binds K i.fd i.ps (i.ds.drop j)
 vals:Vals i.dfs i.ds
structure FiIn (P:a7) (w:bL) (K:ae) (mg:Str->Option aj) (base:Heap) (k:Nat) (i:FI):Prop where
 kp:bP K (.ref i.f)=true
 ok:FnOk P w K mg base CX0 i.k i.f i.fd i.ps i.sp
 le:i.k<=k
 binds:∀j,j<=i.dfs.length->Binds K i.fd i.ps (i.ds.drop j)
 vals:Vals i.dfs i.ds
def FiIn.mono{k k':Nat}{i:FI}(F:FiIn P w K mg base k i)(h:k<=k'):FiIn P w K mg base k' i:=⟨F.kp,F.ok,aF F.le h,F.binds,F.vals⟩
def b30(P:a7)(w:bL)(K:ae)(mg:Str->Option aj)(base:Heap)(k:Nat)(C:Addr):Option FI->Prop
 |none=>cB K C=true/\bA K (.ref C) "__init__"=some (some (.builtin "object.__init__"))
 |some i=>cB K C=true/\bA K (.ref C) "__init__"=some (some (.ref i.f))/\eh K (.ref i.f)=true/\FiIn P w K mg base k i/\i.k+1<=k
structure ClsIn (P:a7) (w:bL) (K:ae) (mg:Str->Option aj) (base:Heap) (k:Nat) (x:Str) (C:Addr) (oi:Option FI):Prop where
 at_:mg x=some (.ref C)
 kp:bP K (.ref C)=true
 made:b30 P w K mg base k C oi
theorem ClsIn.mono{k k':Nat}{x:Str}{C:Addr}{oi:Option FI}(F:ClsIn P w K mg base k x C oi)(h:k<=k'):ClsIn P w K mg base k' x C oi:=by
 refine⟨F.at_,F.kp,?_⟩
 cases oi with
 |none=>exact F.made
 |some i=>obtain⟨a,b,c,d,e⟩:=F.made;exact⟨a,b,c,d.mono h,aF e h⟩
structure MetIn (P:a7) (w:bL) (K:ae) (mg:Str->Option aj) (base:Heap) (k:Nat) (m:Str) (mi:MI):Prop where
 cls:Cls K mi.C
 at_:Mi K mi.C m mi.i.f
 fi:FiIn P w K mg base k mi.i
theorem MetIn.mono{k k':Nat}{m:Str}{mi:MI}(F:MetIn P w K mg base k m mi)(h:k<=k'):MetIn P w K mg base k' m mi:=⟨F.cls,F.at_,F.fi.mono h⟩
structure b28 (P:a7) (w:bL) (K:ae) (mg:Str->Option aj) (base:Heap) (k:Nat) (m:Str) (mi:MI):Prop where
 met:MetIn P w K mg base k m mi
 sg:eJ K (.ref mi.i.f) "__get__"=some (some (.builtin "function.__get__"))
 tk:fH K (.ref mi.i.f)=some false
 cn:PySem.W.copiedNames.contains m=false
 le:mi.i.k+2<=k
def GBIn(P:a7)(w:bL)(K:ae)(mg:Str->Option aj)(base:Heap)(k:Nat)(x:Str):GB->Prop
 |.fn i=>FnIn P w K mg base k x i
 |.val v u=>mg x=some u/\RelV v u
 |.cls C oi=>ClsIn P w K mg base k x C oi
 |.met m l=>∀mi∈l,MetIn P w K mg base k m mi
 |.key m l=>∀mi∈l,b28 P w K mg base k m mi
 |.kfn i=>FnIn P w K mg base k x i/\i.k+1<=k
structure Tab (P:a7) (w:bL) (K:ae) (mg:Str->Option aj) (base:Heap) (k:Nat) (gb:List (Str×GB)) (bl:List Str):Prop where
 all:∀x g,(x,g)∈gb->GBIn P w K mg base k x g
 bl:∀x∈bl,mg x=none
def FnIn.mono{k k':Nat}{x:Str}{i:FI}(F:FnIn P w K mg base k x i)(h:k<=k'):FnIn P w K mg base k' x i:=⟨F.at_,F.kp,F.ok,aF F.le h,F.binds,F.vals⟩
theorem GBIn.mono{k k':Nat}{x:Str}{g:GB}(F:GBIn P w K mg base k x g)(h:k<=k'):GBIn P w K mg base k' x g:=by
 cases g with
 |fn i=>exact FnIn.mono F h
 |val v u=>exact F
 |cls C oi=>exact ClsIn.mono F h
 |met m l=>exact λmi hm=>(F mi hm).mono h
 |kfn i=>exact⟨FnIn.mono F.1 h,aF F.2 h⟩
 |key m l=>exact λmi hm=>let q:=F mi hm;⟨q.met.mono h,q.sg,q.tk,q.cn,aF q.le h⟩
def GBIn.there{X:Cx}{k:Nat}{x:Str}{g:GB}(F:GBIn X.prog X.w X.K X.mg X.base k x g)(hr:Room k X.A):GBOk X x g:=by
 cases g with
 |fn i=>exact⟨F.at_,F.kp,F.ok,hr.mono F.le,F.binds,F.vals⟩
 |val v u=>exact F
 |cls C oi=>
  refine⟨F.at_,F.kp,?_⟩
  cases oi with
  |none=>exact F.made
  |some i=>obtain⟨a,b,c,d,e⟩:=F.made;exact⟨a,b,c,⟨d.kp,d.ok,hr.mono d.le,d.binds,d.vals⟩,hr.mono e⟩
 |met m l=>exact λmi hm=>⟨(F mi hm).cls,(F mi hm).at_,⟨(F mi hm).fi.kp,(F mi hm).fi.ok,hr.mono (F mi hm).fi.le,(F mi hm).fi.binds,(F mi hm).fi.vals⟩⟩
 |kfn i=>exact⟨F.1.at_,⟨F.1.kp,F.1.ok,hr.mono F.1.le,F.1.binds,F.1.vals⟩,hr.mono F.2⟩
 |key m l=>exact λmi hm=>let q:=F mi hm;⟨q.met.cls,q.met.at_,q.sg,q.tk,q.cn,⟨q.met.fi.kp,q.met.fi.ok,hr.mono q.met.fi.le,q.met.fi.binds,q.met.fi.vals⟩,hr.mono q.le⟩
def aw7(K:ae)(N:List Str)(sc:Scope)(gb:List (Str×GB))(bl:List Str):Sg:=⟨K,N,sc.names,gb,bl,true,true⟩
def ba0(N:List Str)(sc:Scope):Bool:=N.all λx=>(sc.names.lookup x==some .local)||(sc.names.lookup x==some .cell)
def K4(Q:VK)(E:EK):Outs:=⟨λ_ H'=>Q .non H',Q,λ_ _=>False,λ_ _=>False,λ_=>E⟩
structure FunD (K:ae) (x qual:Str) (st:Stmt) (f:Addr) (fd:bw) (dV:aj):Prop where
 ex:∃(oc:aj)(od:Option Addr)(kV doc pm:aj)(an:Option Addr)(θ ct:aj)(osl:Array (Option aj)),
  fd=dr x qual (Di st) (Cc st) (Ay st) dV kV doc pm an θ ct/\K.lookup f=some ⟨oc,od,.func fd,osl⟩/\fv K θ qual=true
 kp:bP K (.ref f)=true
def Fun.toD{x qual:Str}{st:Stmt}{f:Addr}{fd:bw}(F:Fun K x qual st f fd):FunD K x qual st f fd .none:=⟨F.ex,F.kp⟩
def FunD.ok{x qual:Str}{st:Stmt}{f:Addr}{fd:bw}{dV:aj}{N ps:List Str}{k:Nat}{sp:Sp}(F:FunD K x qual st f fd dV)(S:Hi N ps (Ay st))(len:∀vs H Q E,sp vs H Q E->vs.length=ps.length)(hbody:∀θ A outer s H vs Q E,Room k (A.deeper (lQ qual (Ay st) s.heap.objs.size f θ))->sp vs H Q E ->
   ∃t,PSs (Tk CX0 P w K mg base N qual (Ay st) f θ A outer s H E).nox (Cc st) t/\t {nx:=λ_ H'=>Q .non H',rt:=Q} (start N vs) H):FnOk P w K mg base CX0 (k+1) f fd ps sp:=by
 obtain⟨oc,od,kV,doc,pm,an,θ,ct,osl,rfl,lk,hcd⟩:=F.ex
 refine bs6 lk hcd S len λA outer s H vs Q E hr hsp=>?_
 obtain⟨t,h,q⟩:=hbody θ A outer s H vs Q E hr hsp
 exact⟨t,h.nox,q⟩
def FunD.okW0{x qual:Str}{st:Stmt}{f:Addr}{fd:bw}{N ps:List Str}{k n:Nat}{sp:Sp}{gb:List (Str×GB)}{bl:List Str}{t:DS}{dV:aj}(F:FunD K x qual st f fd dV)(S:Hi N ps (Ay st))(hv:ba0 N (Ay st)=true)(T:Tab P w K mg base k gb bl)(rd:wSs n (aw7 K N (Ay st) gb bl) (Cc st)=t)(len:∀vs H Q E,sp vs H Q E->vs.length=ps.length)(hbody:∀vs H Q E,sp vs H Q E->t (K4 Q λ_ _=>False) (start N vs) H):FnOk P w K mg base CX0 (k+1) f fd ps sp:=by
 refine F.ok S len λθ A outer s H vs Q E hr h=>?_
 have O:GOk (Tk CX0 P w K mg base N qual (Ay st) f θ A outer s H E).nox (aw7 K N (Ay st) gb bl):=by
  refine⟨rfl,S.kind,(λ_=>PassesOwn.never),rfl,S.nd,λx=>rfl,λx hx=>?_,λ_ _=>rfl,rfl,(λ_=>hr.hd),hr.units,λx hx=>?_,λx g e=>?_,λx hx=>?_,(λ_=>⟨rfl,rfl⟩),⟨_,_,_,rfl,rfl,rfl⟩⟩
  .have:=List.all_eq_true.mp hv x hx
   rw[eF] at this
   exact this.elim (λz=>.inl (eC z)) λz=>.inr (.inl (eC z))
  .rcases hx with hx|hx
   .exact Ky hx
   .exact absurd rfl (S.nofree _ (cC hx))
  .exact (T.all x g e).there hr
  .exact T.bl x (by have hx':bl.contains x=true:=hx;simpa using hx')
 refine⟨_,(b27 n _ _ O).2 (Cc st) (λ_ _ _=>False) (λ_ _ _ h=>h),?_⟩
 rw[rd]
 exact hbody vs H Q E h
end
theorem Same.upd{H:Hp}{a:Addr}{o:HO}(h:H a=none):Same H (upd H a o):=λb u e=>by rw[Ah (A2 e h)];exact e
def Same.set{H H':Hp}{a:Addr}{o:HO}(s:Same H H')(h:H a=none):Same H (L2.upd H' a o):=λb u e=>by rw[Ah (A2 e h)];exact s b u e
structure El (J:It) (χ:List V) (ok:Hp->Prop):Prop where
 go:∀i H,ok H->i<χ.length->J.go i H
 stop:∀H,ok H->J.stop χ.length H
 yld:∀i H x H',ok H->i<χ.length->J.yld i H x H'->H'=H/\χ[i]?=some x
structure Om (J:It) (χ:List (V×V)) (ok:Hp->Prop):Prop where
 go:∀i H,ok H->i<χ.length->J.go i H
 stop:∀H,ok H->J.stop χ.length H
 yld:∀i H v H',ok H->i<χ.length->J.yld i H v H' -> ∃T x y,H T=none/\v=.ref T/\χ[i]?=some (x,y)/\H'=upd H T (.tup [x,y])
def F3(z:Str):List V:=z.cps.toList.map λc=>V.str ⟨#[c]⟩
def br3(z:Str):El (Its z) (F3 z) (λ_=>True):=by
 have e:(F3 z).length=z.cps.size:=by unfold F3;simp
 refine⟨λi H _ h=>?_,λH _=>?_,λi H x H' _ _ h=>?_⟩
 .show i<z.cps.size;omega
 .show (F3 z).length=z.cps.size;exact e
 .obtain⟨h1,c,h2,h3⟩:=h
  refine⟨h1,?_⟩
  unfold F3
  rw[au,bW,h2,h3]
  rfl
def Bu{K:ae}{a:Addr}(xs:List V):El (Itl K a) xs (λH=>SqL K H a xs):=by
 refine⟨λi H q h=>⟨xs,xs[i],q,by simp[h]⟩,λH q=>⟨xs,q,ag _⟩,λi H x H' q _ h=>?_⟩
 obtain⟨h1,h2⟩:=h
 exact⟨h1,h2 xs q⟩
def Mh{K:ae}{a:Addr}(xs:List V):El (Itt K a) xs (λH=>SqT K H a xs):=by
 refine⟨λi H q h=>⟨xs,xs[i],q,by simp[h]⟩,λH q=>⟨xs,q,ag _⟩,λi H x H' q _ h=>?_⟩
 obtain⟨h1,h2⟩:=h
 exact⟨h1,h2 xs q⟩
def Uu(lo:Int)(n:Nat):List V:=(bi n).map λ(i:Nat)=>V.int (lo+(i:Int))
def Bh(lo:Int)(n:Nat):(Uu lo n).length=n:=by unfold Uu;simp
def Rv{lo:Int}{n i:Nat}(h:i<n):(Uu lo n)[i]?=some (.int (lo+(i:Int))):=by unfold Uu;simp[h]
def Cj(lo:Int)(n:Nat):El (Itr lo n) (Uu lo n) (λ_=>True):=by
 refine⟨λi H _ h=>?_,λH _=>?_,λi H x H' _ hi h=>?_⟩
 .rw[Bh] at h;exact h
 .show n<=(Uu lo n).length;rw[Bh];exact ag _
 .obtain⟨h1,h2⟩:=h
  rw[Bh] at hi
  exact⟨h1,by rw[Rv hi,h2]⟩
def br4{K:ae}{a b:Addr}(xs ys:List V):Om (Itz K a b) (xs.zip ys) (λH=>SqL K H a xs/\SqL K H b ys):=by
 have e:(xs.zip ys).length=min xs.length ys.length:=List.length_zip
 refine⟨λi H q h=>br5 q.1 q.2 (by omega),λH q=>⟨xs,ys,q.1,q.2,by omega⟩,λi H v H' q _ h=>?_⟩
 obtain⟨T,x,y,hT,h1,h2,h3,h4⟩:=h
 refine⟨T,x,y,hT,h1,?_,h4⟩
 rw[List.getElem?_zip_eq_some]
 exact⟨h2 xs q.1,h3 ys q.2⟩
def Zn(lo st:Int)(n:Nat):List V:=(bi n).map λ(i:Nat)=>V.int (lo+(i:Int)*st)
def Lv(lo st:Int)(n:Nat):(Zn lo st n).length=n:=by unfold Zn;simp
def a63(lo st:Int)(n:Nat):El (av2 lo st n) (Zn lo st n) (λ_=>True):=by
 refine⟨λi H _ h=>?_,λH _=>?_,λi H x H' _ hi h=>?_⟩
 .rw[Lv] at h;exact h
 .show n<=(Zn lo st n).length;rw[Lv];exact ag _
 .obtain⟨h1,h2⟩:=h
  rw[Lv] at hi
  exact⟨h1,by rw[h2];unfold Zn;simp[hi]⟩
section
variable {J:It}{χ:List V}{ok:Hp->Prop}{g:DG}{tb:DS}{D:Outs}{σ:St}{H:Hp}
def Bm(Y:El J χ ok)(Pv:Nat->St->Hp->Prop)(h0:Pv 0 σ H)(hok:∀i σ H,i<=χ.length->Pv i σ H->ok H)(hs:∀i x σ H,χ[i]?=some x->Pv i σ H->g x σ H λσ2 H2=>tb (D.lp (Pv (i+1))) σ2 H2)(hd:∀ σ H,Pv χ.length σ H->D.nx σ H):bb6 J g tb D σ H:=by
 refine⟨λi m σ H=>m=χ.length-i/\i<=χ.length/\Pv i σ H,⟨χ.length,by simp,bo _,h0⟩,?_⟩
 rintro i m σ H ⟨rfl,hi,p⟩
 by_cases hlt:i<χ.length
 .refine .inr ⟨Y.go i H (hok i σ H hi p) hlt,Pv (i+1),λσ' H' p'=>⟨χ.length-(i+1),by omega,rfl,hlt,p'⟩,λx H' y=>?_⟩
  obtain⟨e,y2⟩:=Y.yld i H x H' (hok i σ H hi p) hlt y
  subst e
  exact hs i x σ _ y2 p
 .have e:i=χ.length:=by omega
  subst e
  exact .inl ⟨Y.stop H (hok _ σ H hi p),hd σ H p⟩
def Ws{χ:List (V×V)}(Y:Om J χ ok)(Pv:Nat->St->Hp->Prop)(h0:Pv 0 σ H)(hok:∀i σ H,i<=χ.length->Pv i σ H->ok H)(hs:∀i x y T σ H,χ[i]?=some (x,y)->H T=none->Pv i σ H->g (.ref T) σ (upd H T (.tup [x,y])) λσ2 H2=>tb (D.lp (Pv (i+1))) σ2 H2)(hd:∀ σ H,Pv χ.length σ H->D.nx σ H):bb6 J g tb D σ H:=by
 refine⟨λi m σ H=>m=χ.length-i/\i<=χ.length/\Pv i σ H,⟨χ.length,by simp,bo _,h0⟩,?_⟩
 rintro i m σ H ⟨rfl,hi,p⟩
 by_cases hlt:i<χ.length
 .refine .inr ⟨Y.go i H (hok i σ H hi p) hlt,Pv (i+1),λσ' H' p'=>⟨χ.length-(i+1),by omega,rfl,hlt,p'⟩,λx H' y=>?_⟩
  obtain⟨T,u,v,hT,e1,e2,e3⟩:=Y.yld i H x H' (hok i σ H hi p) hlt y
  subst e1 e3
  exact hs i u v T σ _ e2 hT p
 .have e:i=χ.length:=by omega
  subst e
  exact .inl ⟨Y.stop H (hok _ σ H hi p),hd σ H p⟩
variable {tc:DT}{te:DE}{L:Addr}{R:Hp->Prop}{E:EK}
def Cb(Y:El J χ ok)(Pv:Nat->St->Hp->Prop)(h0:Pv 0 σ H)(hok:∀i σ H,i<=χ.length->Pv i σ H->ok H)(hs:∀i x σ H,χ[i]?=some x->Pv i σ H->g x σ H λσ3 H3=>tc σ3 H3 (λb H4=>if b=true then te σ3 H4 (λv H5=>∃ys,H5 L=some (.lst ys)/\ys.length<sizeLine/\Pv (i+1) σ3 (upd H5 L (.lst (ys++[v])))) E else Pv (i+1) σ3 H4) E)(hd:∀ σ H,Pv χ.length σ H->R H):Z4 J g tc te L R σ H E:=by
 refine⟨λi m σ H=>m=χ.length-i/\i<=χ.length/\Pv i σ H,⟨χ.length,by simp,bo _,h0⟩,?_⟩
 rintro i m σ H ⟨rfl,hi,p⟩
 by_cases hlt:i<χ.length
 .refine .inr ⟨Y.go i H (hok i σ H hi p) hlt,Pv (i+1),λσ' H' p'=>⟨χ.length-(i+1),by omega,rfl,hlt,p'⟩,λx H' y=>?_⟩
  obtain⟨e,y2⟩:=Y.yld i H x H' (hok i σ H hi p) hlt y
  subst e
  exact hs i x σ _ y2 p
 .have e:i=χ.length:=by omega
  subst e
  exact .inl ⟨Y.stop H (hok _ σ H hi p),hd σ H p⟩
end
section
variable {K:ae}{H H':Hp}
theorem Wb:∀{ds:List Dt}{xs:List V}{i:Nat}{d:Dt},AtL K H ds xs->ds[i]?=some d -> ∃y,xs[i]?=some y/\At K H d y
 |[],_,_,_,_,e=>by simp at e
 | c::ds,xs,0,d,h,e=>by
  unfold AtL at h
  obtain⟨y,ys,rfl,h1,h2⟩:=h
  rw[eV] at e
  cases e
  exact⟨y,rfl,h1⟩
 | c::ds,xs,i+1,d,h,e=>by
  unfold AtL at h
  obtain⟨y,ys,rfl,h1,h2⟩:=h
  rw[b_] at e
  obtain⟨z,e1,e2⟩:=Wb h2 e
  exact⟨z,by rw[b_];exact e1,e2⟩
def Ar:AtL K H [] []:=by unfold AtL;rfl
def Aj{d:Dt}{ds:List Dt}{x:V}{xs:List V}(h:At K H d x)(t:AtL K H ds xs):AtL K H (d::ds) (x::xs):=by unfold AtL;exact⟨x,xs,rfl,h,t⟩
theorem E1:∀{ds:List Dt}{xs:List V}{es:List Dt}{ys:List V},AtL K H ds xs->AtL K H es ys->AtL K H (ds++es) (xs++ys)
 |[],_,_,_,h,g=>by unfold AtL at h;rw[h];exact g
 | c::ds,xs,es,ys,h,g=>by
  unfold AtL at h
  obtain⟨y,zs,rfl,h1,h2⟩:=h
  exact Aj h1 (E1 h2 g)
def Av(z:Str):Dt:=.at_ (.str z)
def A4{z:Str}:At K H (Av z) (.str z):=by unfold Av At;exact⟨rfl,rfl⟩
theorem Hm:∀{r:List Str},AtL K H (r.map Av) (r.map V.str)
 |[]=>Ar
 |_::_=>Aj A4 Hm
theorem Nn:∀{r:List Str}{xs:List V},AtL K H (r.map Av) xs->xs=r.map V.str
 |[],xs,h=>by unfold jc AtL at h;exact h
 | z::r,xs,h=>by
  rw[a8] at h
  unfold AtL at h
  obtain⟨y,ys,rfl,h1,h2⟩:=h
  unfold Av At at h1
  rw[h1.1,Nn h2]
  rfl
def Oq{a:Addr}{r:List Str}(h:SqT K H a (r.map V.str)):At K H (.tup (r.map Av)) (.ref a):=by unfold At;exact⟨a,_,rfl,h,Hm⟩
def Kw{x:V}{r:List Str}(h:At K H (.tup (r.map Av)) x):∃a,x=.ref a/\SqT K H a (r.map V.str):=by
 unfold At at h
 obtain⟨a,xs,e,q,h⟩:=h
 rw[Nn h] at q
 exact⟨a,e,q⟩
def Cw{a:Addr}{ds:List Dt}{xs:List V}(h:SqT K H a xs)(g:AtL K H ds xs):At K H (.tup ds) (.ref a):=by unfold At;exact⟨a,xs,rfl,h,g⟩
def Op{a:Addr}{ds:List Dt}{xs:List V}(h:SqL K H a xs)(g:AtL K H ds xs):At K H (.lst ds) (.ref a):=by unfold At;exact⟨a,xs,rfl,h,g⟩
def Ho{x:V}{ds:List Dt}(h:At K H (.tup ds) x):∃a xs,x=.ref a/\SqT K H a xs/\AtL K H ds xs:=by unfold At at h;exact h
def Cq{v:V}(f:Cf v=true):At K H (.at_ v) v:=by unfold At;exact⟨rfl,f⟩
end
def D6(a b:Str):deq (Av a) (Av b)=decide (a=b):=by
 unfold Av deq
 show(a==b)=_
 rw[dY]
theorem K2{α:Type} [DecidableEq α]{f:α->Dt}(h:∀a b,deq (f a) (f b)=decide (a=b)):∀(l l':List α),C0 (l.map f) (l'.map f)=decide (l=l')
 |[],[]=>by unfold jc C0;rfl
 |[],_::_=>by unfold jc C0;rfl
 |_::_,[]=>by unfold jc C0;rfl
 | a::l,b::l'=>by
  rw[a8,a8]
  unfold C0
  rw[h,K2 h l l',gw,aW,decide_eq_true_iff,decide_eq_true_iff,decide_eq_true_iff,List.cons.injEq]
theorem Es{α:Type}{f:α->Dt}{n:Nat}(h:∀a,dep (f a)<=n):∀(l:List α),Bz (l.map f)<=n
 |[]=>by unfold jc Bz;exact bo _
 | a::l=>by
  rw[a8]
  unfold Bz
  exact Nat.max_le.mpr ⟨h a,Es h l⟩
def D5(z:Str):dep (Av z)<=0:=by unfold Av dep;exact ag _
def TKeep(K:ae)(H H':Hp):Prop:=∀a xs,SqT K H a xs->SqT K H' a xs
section
variable {K:ae}{H H':Hp}
def TKeep.of(S:Same H H'):TKeep K H H':=λ_ _ h=>S.seqT h
def TKeep.trans{H2:Hp}(h:TKeep K H H')(g:TKeep K H' H2):TKeep K H H2:=λa xs q=>g a xs (h a xs q)
theorem TKeep.lst{l:Addr}{ys zs:List V}(h:H l=some (.lst ys)):TKeep K H (upd H l (.lst zs)):=λa xs q=>by
 rcases q with(q|⟨o,q⟩)|q
 .have ne:a≠l:=λe=>by subst e;rw[h] at q;cases q
  exact .inl (.inl (by rw[Ah ne];exact q))
 .have ne:a≠l:=λe=>by subst e;rw[h] at q;cases q
  exact .inl (.inr ⟨o,by rw[Ah ne];exact q⟩)
 .exact .inr q
end
section
variable {P:a7}{w:bL}{K:ae}{mg:Str->Option aj}{base:Heap}{x q:Str}{st:Stmt}{f:Addr}{d:bw}{ps:List Str}
def br7(K:ae)(x q:Str)(st:Stmt)(f:Addr):Prop:=∃d,Fun K x q st f d
structure bs1 (K:ae) (q:Str) (st:Stmt) (f:Addr):Prop where
 at_:cg K bq q=some (some (.ref f))
 d:br7 K q q st f
structure MetD (K:ae) (x q:Str) (st:Stmt) (f:Addr):Prop where
 fn:eh K (.ref f)=true
 d:br7 K x q st f
def top_mk{oc:aj}{od an:Option Addr}{osl:Array (Option aj)}{kV doc pm θ ct:aj}(a:cg K bq q=some (some (.ref f)))(l:K.lookup f=some ⟨oc,od,.func (dr q q (Di st) (Cc st) (Ay st) .none kV doc pm an θ ct),osl⟩)(c:fv K θ q=true)(k:bP K (.ref f)=true):bs1 K q st f:=⟨a,_,O4 l c k⟩
def met_mk{oc:aj}{od an:Option Addr}{osl:Array (Option aj)}{kV doc pm θ ct:aj}(l:K.lookup f=some ⟨oc,od,.func (dr x q (Di st) (Cc st) (Ay st) .none kV doc pm an θ ct),osl⟩)(c:fv K θ q=true)(k:bP K (.ref f)=true)(i:eh K (.ref f)=true):MetD K x q st f:=⟨i,_,O4 l c k⟩
structure DOk (K:ae) (mg:Str->Option aj) (q:Str) (st:Stmt) (f:Addr) (d:bw) (ps:List Str):Prop where
 F:FunD K q q st f d .none
 b:Binds K d ps []
 m:mg q=some (.ref f)
structure MOk (K:ae) (x q:Str) (st:Stmt) (f:Addr) (d:bw) (ps:List Str):Prop where
 F:FunD K x q st f d .none
 b:Binds K d ps []
 i:eh K (.ref f)=true
def MetD.ok(D:MetD K x q st f)(hb:∀kV doc pm an θ ct us,us.length=ps.length->mC (dr x q (Di st) (Cc st) (Ay st) .none kV doc pm an θ ct) ⟨us,[]⟩=pure (ps.zip us)):∃d,MOk K x q st f d ps:=by
 obtain⟨a,d,F⟩:=D
 exact⟨d,F.toD,F.binds hb,a⟩
def bg4{i:FI}(h2:i.ds=[])(b:Binds K i.fd i.ps []):∀j,j<=i.dfs.length->Binds K i.fd i.ps (i.ds.drop j):=λj _=>by
 rw[h2,List.drop_nil];exact b
def one{C:Addr}{i:FI}{m:Str}{k:Nat}(h:MetIn P w K mg base k m ⟨C,i⟩):∀mi∈[(⟨C,i⟩:MI)],MetIn P w K mg base k m mi:=λmi hm=>by
 rw[aC] at hm
 exact hm▸h
end
structure Df where
 x:Str
 q:Str
 st:Stmt
 N:List Str
 np:Nat
 lv:Nat
def Df.ps(d:Df):List Str:=d.N.take d.np
abbrev C1(D:Df)(f:Addr)(d:bw)(s:Sp):FI:=⟨f,d,D.ps,D.lv,s,[],[]⟩
def ScOk(N P:List Str)(sc:Scope):Prop:=(sc.kind=.function/\sc.isCoroutine=false/\sc.isGenerator=false)/\N.Nodup/\N.take P.length=P/\(∀x∈P,sc.names.lookup x=some .local\/sc.names.lookup x=some .cell)/\(∀y∈sc.names,y.2≠.free)/\ba0 N sc=true
noncomputable instance (N P:List Str) (sc:Scope):Decidable (ScOk N P sc):=by unfold ScOk;infer_instance
def ScOk.fn{N P:List Str}{sc:Scope}(h:ScOk N P sc):Hi N P sc:=⟨h.1.1,h.1.2.1,h.1.2.2,h.2.1,h.2.2.1,h.2.2.2.1,h.2.2.2.2.1⟩
structure Ent where
 lv:Nat
 x:Str
 g:GB
def gbT(es:List Ent)(n:Nat):List (Str×GB):=es.filterMap λe=>if e.lv<=n then some (e.x,e.g) else none
def Nj(P:a7)(w:bL)(K:ae)(mg:Str->Option aj)(base:Heap)(es:List Ent)(bl:List Str)(n:Nat):Prop:=∀m,m<n->Tab P w K mg base m (gbT es m) bl
def AllE(P:a7)(w:bL)(K:ae)(mg:Str->Option aj)(base:Heap)(es:List Ent)(bl:List Str):List Ent->Prop
 |[]=>True
 |e::r=>(Nj P w K mg base es bl e.lv->GBIn P w K mg base e.lv e.x e.g)/\AllE P w K mg base es bl r
section
variable {P:a7}{w:bL}{K:ae}{mg:Str->Option aj}{base:Heap}{es:List Ent}{bl:List Str}{f:Nat->Addr}{d:Nat->bw}
theorem AllE.app:∀{a b},AllE P w K mg base es bl a->AllE P w K mg base es bl b->AllE P w K mg base es bl (a++b)
 |[],_,_,h=>h
 |_::_,_,h,g=>⟨h.1,AllE.app h.2 g⟩
theorem AllE.at_:∀{a} {e},AllE P w K mg base es bl a->e∈a->Nj P w K mg base es bl e.lv->GBIn P w K mg base e.lv e.x e.g
 |[],_,_,he=>by cases he
 | _::_,_,h,he=>by
  rcases List.mem_cons.mp he with rfl|he
  .exact h.1
  .exact AllE.at_ h.2 he
def a60(hz:∀x∈bl,mg x=none)(h:AllE P w K mg base es bl es)(n:Nat):Tab P w K mg base n (gbT es n) bl:=by
 induction n using Nat.strongRecOn with
 |ind n ih=>
  refine⟨λx g hx=>?_,hz⟩
  obtain⟨e,he,q⟩:=List.mem_filterMap.mp hx
  split at q
  .rename_i hl
   cases q
   exact(h.at_ he λm hm=>ih m (aH hm hl)).mono hl
  .cases q
def OkD(K:ae)(D:Df)(es:List Ent)(bl:List Str)(f:Addr)(d:bw)(s:Sp):Prop:=∀P w mg base dV,FunD K D.x D.q D.st f d dV->Nj P w K mg base es bl D.lv->FnOk P w K mg base CX0 D.lv f d D.ps s
def OkG(P:a7)(w:bL)(K:ae)(mg:Str->Option aj)(base:Heap)(D:Df)(es:List Ent)(bl:List Str)(f:Addr)(d:bw)(s:Sp):Prop:=Nj P w K mg base es bl D.lv->FnOk P w K mg base CX0 D.lv f d D.ps s
def okD{D:Df}{f:Addr}{d:bw}{s:Sp}{k n:Nat}{t:DS}(hl:D.lv=k+1)(c:ScOk D.N D.ps (Ay D.st))(rd:wSs n (aw7 K D.N (Ay D.st) (gbT es k) bl) (Cc D.st)=t)(len:∀vs H Q E,s vs H Q E->vs.length=D.ps.length)(body:∀vs H Q E,s vs H Q E->t (K4 Q λ_ _=>False) (start D.N vs) H):OkD K D es bl f d s:=λ_ _ _ _ _ F T=>by
 rw[hl] at T ⊢
 exact F.okW0 c.fn c.2.2.2.2.2 (T k (bS k)) rd len body
def A6{D:Df}{f:Addr}{d:bw}{s:Sp}(t:DS)(body:∀vs H Q E,s vs H Q E->vs.length=D.ps.length/\t (K4 Q λ_ _=>False) (start D.N vs) H)(hl:D.lv=D.lv-1+1:=by rfl)(c:ScOk D.N D.ps (Ay D.st):=by decide +kernel)(rd:wSs 40 (aw7 K D.N (Ay D.st) (gbT es (D.lv-1)) bl) (Cc D.st)=t:=by kernel_rfl):OkD K D es bl f d s:=okD hl c rd (λvs H Q E h=>(body vs H Q E h).1) λvs H Q E h=>(body vs H Q E h).2
def BtD(D:Df)(d:bw):Prop:=∀s us,us.length=D.ps.length->kI s d ⟨us,[]⟩ (D.ps.zip us)
def AllG(K:ae)(mg:Str->Option aj)(f:Nat->Addr)(d:Nat->bw):Nat->List Df->Prop
 |_,[]=>True
 |k,D::r=>(DOk K mg D.q D.st (f k) (d k) D.ps/\BtD D (d k))/\AllG K mg f d (k+1) r
theorem AllG.get:∀{L} {k} j {D},AllG K mg f d k L->L[j]?=some D->DOk K mg D.q D.st (f (k+j)) (d (k+j)) D.ps/\BtD D (d (k+j))
 |[],_,_,_,_,e=>by simp at e
 |_::_,_,0,_,h,e=>by cases e;exact h.1
 | _::_,k,j+1,_,h,e=>by
  rw[show k+(j+1)=k+1+j by omega]
  exact AllG.get j h.2 e
def ba4(K:ae):List Df->Prop
 |[]=>True
 |D::r=>(∃a,bs1 K D.q D.st a)/\ba4 K r
def Vy(D:Df):Prop:=∀kV doc pm an θ ct us,us.length=D.ps.length->mC (dr D.x D.q (Di D.st) (Cc D.st) (Ay D.st) .none kV doc pm an θ ct) ⟨us,[]⟩=pure (D.ps.zip us)
def br6:List Df->Prop
 |[]=>True
 |D::r=>(D.x=D.q/\Vy D)/\br6 r
theorem AllG.congr{f':Nat->Addr}{d':Nat->bw}:∀{L} {k},(∀n,k<=n->f' n=f n/\d' n=d n)->AllG K mg f d k L->AllG K mg f' d' k L
 |[],_,_,_=>be
 |_::_,k,e,h=>⟨by rw[(e k (ag _)).1,(e k (ag _)).2];exact h.1,AllG.congr (λn hn=>e n (by omega)) h.2⟩
theorem V9{h:Heap}(d₀:bw)(X:K.In h)(G:h.Ns bq mg):∀{L} k,ba4 K L->br6 L -> ∃f d,AllG K mg f d k L
 |[],_,_,_=>⟨λ_=>0,λ_=>d₀,be⟩
 | D::r,k,⟨⟨a,q⟩,t⟩,⟨⟨e,b⟩,bs⟩=>by
  obtain⟨f,d,g⟩:=V9 d₀ X G (k+1) t bs
  obtain⟨m,d0,F⟩:=q
  have b:=b
  unfold Vy at b
  rw[e] at b
  have g0:DOk K mg D.q D.st a d0 D.ps/\BtD D d0:=⟨⟨F.toD,F.binds b,jj X G m⟩,by
   obtain⟨oc,od,kV,doc,pm,an,θ,ct,osl,rfl,_⟩:=F.ex
   exact λs us hl=>.of_eq (b _ _ _ _ _ _ us hl)⟩
  refine⟨λn=>if n=k then a else f n,λn=>if n=k then d0 else d n,⟨?_,?_⟩⟩
  .simp only[if_true];exact g0
  .exact AllG.congr (λn hn=>by rw[if_neg (by omega),if_neg (by omega)];exact⟨rfl,rfl⟩) g
theorem AllG.pre:∀{a b} {k},AllG K mg f d k (a++b)->AllG K mg f d k a
 |[],_,_,_=>be
 |_::_,_,_,h=>⟨h.1,AllG.pre h.2⟩
theorem OkD.g{D:Df}{a:Addr}{fd:bw}{s:Sp}(h:OkD K D es bl a fd s)(g:DOk K mg D.q D.st a fd D.ps)(e:D.x=D.q:=by rfl):OkG P w K mg base D es bl a fd s:=λT=>h _ _ _ _ _ (by rw[e];exact g.F) T
def fnE(f:Nat->Addr)(d:Nat->bw):Nat->List (Df×Sp)->List Ent
 |_,[]=>[]
 |k,p::r=>⟨p.1.lv,p.1.q,.fn (C1 p.1 (f k) (d k) p.2)⟩::fnE f d (k+1) r
def Z0(P:a7)(w:bL)(K:ae)(mg:Str->Option aj)(base:Heap)(es:List Ent)(bl:List Str)(f:Nat->Addr)(d:Nat->bw):Nat->List (Df×Sp)->Prop
 |_,[]=>True
 |k,p::r=>OkG P w K mg base p.1 es bl (f k) (d k) p.2/\Z0 P w K mg base es bl f d (k+1) r
theorem V8:∀{L} {k},AllG K mg f d k (L.map (·.1))->Z0 P w K mg base es bl f d k L->AllE P w K mg base es bl (fnE f d k L)
 |[],_,_,_=>be
 |_::_,_,g,o=>⟨λT=>⟨g.1.1.m,g.1.1.F.kp,o.1 T,ag _,bg4 rfl g.1.1.b,.nil⟩,V8 g.2 o.2⟩
def AllM(K:ae)(c:Addr)(f:Nat->Addr)(d:Nat->bw):Nat->List Df->Prop
 |_,[]=>True
 |k,D::r=>(MOk K D.x D.q D.st (f k) (d k) D.ps/\Mi K c D.x (f k))/\AllM K c f d (k+1) r
theorem AllM.get{c:Addr}:∀{L} {k} j {D},AllM K c f d k L->L[j]?=some D->MOk K D.x D.q D.st (f (k+j)) (d (k+j)) D.ps/\Mi K c D.x (f (k+j))
 |[],_,_,_,_,e=>by simp at e
 |_::_,_,0,_,h,e=>by cases e;exact h.1
 | _::_,k,j+1,_,h,e=>by
  rw[show k+(j+1)=k+1+j by omega]
  exact AllM.get j h.2 e
theorem AllM.congr{c:Addr}{f':Nat->Addr}{d':Nat->bw}:∀{L} {k},(∀n,k<=n->f' n=f n/\d' n=d n)->AllM K c f d k L->AllM K c f' d' k L
 |[],_,_,_=>be
 |_::_,k,e,h=>⟨by rw[(e k (ag _)).1,(e k (ag _)).2];exact h.1,AllM.congr (λn hn=>e n (by omega)) h.2⟩
def Ni(K:ae)(c:Addr):List Df->Prop
 |[]=>True
 |D::r=>(∃a,bA K (.ref c) D.x=some (some (.ref a))/\MetD K D.x D.q D.st a)/\Ni K c r
def a65:List Df->Prop
 |[]=>True
 |D::r=>Vy D/\a65 r
theorem Hj{c:Addr}(d₀:bw):∀{L} k,Ni K c L->a65 L -> ∃f d,AllM K c f d k L
 |[],_,_,_=>⟨λ_=>0,λ_=>d₀,be⟩
 | D::r,k,⟨⟨a,i,q⟩,t⟩,⟨b,bs⟩=>by
  obtain⟨f,d,g⟩:=Hj d₀ (k+1) t bs
  obtain⟨d0,g0⟩:=q.ok b
  refine⟨λn=>if n=k then a else f n,λn=>if n=k then d0 else d n,⟨?_,?_⟩⟩
  .simp only[if_true];exact⟨g0,i,g0.i,g0.F.kp⟩
  .exact AllM.congr (λn hn=>by rw[if_neg (by omega),if_neg (by omega)];exact⟨rfl,rfl⟩) g
def AllC(mg:Str->Option aj)(u:Nat->aj):Nat->List (Str×V)->Prop
 |_,[]=>True
 |k,c::r=>(mg c.1=some (u k)/\RelV c.2 (u k))/\AllC mg u (k+1) r
theorem AllC.congr{u u':Nat->aj}:∀{L} {k},(∀n,k<=n->u' n=u n)->AllC mg u k L->AllC mg u' k L
 |[],_,_,_=>be
 |_::_,k,e,h=>⟨by rw[e k (ag _)];exact h.1,AllC.congr (λn hn=>e n (by omega)) h.2⟩
def Z2(K:ae):List (Str×V)->Prop
 |[]=>True
 |(x,v)::r=>(∃u,cg K bq x=some (some u)/\RelV v u)/\Z2 K r
def con_mk{x:Str}{v:V}{u:aj}(a:cg K bq x=some (some u))(r:RelV v u):∃u,cg K bq x=some (some u)/\RelV v u:=⟨u,a,r⟩
theorem V7{h:Heap}(X:K.In h)(G:h.Ns bq mg):∀{L} k,Z2 K L -> ∃u,AllC mg u k L
 |[],_,_=>⟨λ_=>.none,be⟩
 | c::r,k,⟨⟨v,i,q⟩,t⟩=>by
  obtain⟨u,g⟩:=V7 X G (k+1) t
  refine⟨λn=>if n=k then v else u n,⟨?_,?_⟩⟩
  .simp only[if_true];exact⟨jj X G i,q⟩
  .exact AllC.congr (λn hn=>if_neg (by omega)) g
def bd2(u:Nat->aj):Nat->List (Str×V)->List Ent
 |_,[]=>[]
 |k,c::r=>⟨0,c.1,.val c.2 (u k)⟩::bd2 u (k+1) r
theorem Qt{u:Nat->aj}:∀{L} {k},AllC mg u k L->AllE P w K mg base es bl (bd2 u k L)
 |[],_,_=>be
 |_::_,_,h=>⟨λ_=>h.1,Qt h.2⟩
def ba5(K:ae):List Str->Prop
 |[]=>True
 |x::r=>cg K bq x=some none/\ba5 K r
theorem Wa{h:Heap}(X:K.In h)(G:h.Ns bq mg):∀{L},ba5 K L -> ∀x∈L,mg x=none
 |[],_,_,hx=>by cases hx
 | _::_,z,x,hx=>by
  rcases List.mem_cons.mp hx with rfl|hx
  .exact PySem.W.mg_none_of X G z.1
  .exact Wa X G z.2 x hx
structure av5 (K:ae) (x:Str) (c f:Addr):Prop where
 a:cg K bq x=some (some (.ref c))
 i:bA K (.ref c) "__init__"=some (some (.ref f))
 kp:bP K (.ref c)=true
 mm:cB K c=true
 cl:Cls K c
def own_mk{x:Str}{c f:Addr}(a:cg K bq x=some (some (.ref c)))(i:bA K (.ref c) "__init__"=some (some (.ref f)))(k:bP K (.ref c)=true)(m:cB K c=true)(pg:fm K c bU=true)(hd:fK K c=true)(po:g7 K c=true)(sa:bA K (.ref c) "__setattr__"=some (some (.builtin "object.__setattr__"))):av5 K x c f:=⟨a,i,k,m,⟨pg,hd,po,sa⟩⟩
structure Qr (K:ae) (x:Str) (c:Addr):Prop where
 a:cg K bq x=some (some (.ref c))
 i:bA K (.ref c) "__init__"=some (some (.builtin "object.__init__"))
 kp:bP K (.ref c)=true
 mm:cB K c=true
 cl:Cls K c
def ownz_mk{x:Str}{c:Addr}(a:cg K bq x=some (some (.ref c)))(i:bA K (.ref c) "__init__"=some (some (.builtin "object.__init__")))(k:bP K (.ref c)=true)(m:cB K c=true)(pg:fm K c bU=true)(hd:fK K c=true)(po:g7 K c=true)(sa:bA K (.ref c) "__setattr__"=some (some (.builtin "object.__setattr__"))):Qr K x c:=⟨a,i,k,m,⟨pg,hd,po,sa⟩⟩
def Ov{x:Str}{c:Addr}{h:Heap}{n:Nat}(X:K.In h)(G:h.Ns bq mg)(o:Qr K x c):ClsIn P w K mg base n x c none:=⟨jj X G o.a,o.kp,o.mm,o.i⟩
structure av1 (K:ae) (D:Df) (f:Addr) (d:bw) (vs:List V) (us:List aj):Prop where
 F:∃dV,FunD K D.x D.q D.st f d dV
 b:∀j,j<=vs.length->Binds K d D.ps (us.drop j)
 w:Vals vs us
 i:eh K (.ref f)=true
def ini0{D:Df}{f:Addr}{oc:aj}{od an:Option Addr}{osl:Array (Option aj)}{kV doc pm θ ct:aj}(b:Vy D)(l:K.lookup f=some ⟨oc,od,.func (dr D.x D.q (Di D.st) (Cc D.st) (Ay D.st) .none kV doc pm an θ ct),osl⟩)(c:fv K θ D.q=true)(k:bP K (.ref f)=true)(i:eh K (.ref f)=true):∃d,av1 K D f d [] []:=
 ⟨_,⟨_,(O4 l c k).toD⟩,λj _=>by rw[List.drop_nil];exact(O4 l c k).binds b,.nil,i⟩
def bd0{x:Str}{c:Addr}{D:Df}{f:Addr}{d:bw}{vs:List V}{us:List aj}{s:Sp}{h:Heap}(X:K.In h)(G:h.Ns bq mg)(o:av5 K x c f)(i:av1 K D f d vs us)(ok:OkD K D es bl f d s)(T:Nj P w K mg base es bl (D.lv+1)):ClsIn P w K mg base (D.lv+1) x c (some ⟨f,d,D.ps,D.lv,s,vs,us⟩):=
 let⟨_,F⟩:=i.F
 ⟨jj X G o.a,o.kp,o.mm,o.i,i.i,⟨F.kp,ok _ _ _ _ _ F λm h=>T m (dL h),cS _,i.b,i.w⟩,ag _⟩
def Y9(c:Addr)(f:Nat->Addr)(d:Nat->bw):Nat->List (Df×Sp)->List Ent
 |_,[]=>[]
 |k,p::r=>⟨p.1.lv,"", .met p.1.x [⟨c,C1 p.1 (f k) (d k) p.2⟩]⟩::Y9 c f d (k+1) r
def Z1(K:ae)(es:List Ent)(bl:List Str)(f:Nat->Addr)(d:Nat->bw):Nat->List (Df×Sp)->Prop
 |_,[]=>True
 |k,p::r=>OkD K p.1 es bl (f k) (d k) p.2/\Z1 K es bl f d (k+1) r
def C4{c a:Addr}{e:bw}{D:Df}{s:Sp}{n:Nat}(cl:Cls K c)(g:MOk K D.x D.q D.st a e D.ps/\Mi K c D.x a)(ok:OkD K D es bl a e s)(h:D.lv<=n)(T:Nj P w K mg base es bl n):MetIn P w K mg base n D.x ⟨c,C1 D a e s⟩:=⟨cl,g.2,g.1.F.kp,ok _ _ _ _ _ g.1.F λm q=>T m (aH q h),h,bg4 rfl g.1.b,.nil⟩
theorem Fj{c:Addr}(cl:Cls K c):∀{L} {k},AllM K c f d k (L.map (·.1))->Z1 K es bl f d k L->AllE P w K mg base es bl (Y9 c f d k L)
 |[],_,_,_=>be
 |_::_,_,g,o=>⟨λT=>one (C4 cl g.1 o.1 (ag _) T),Fj cl g.2 o.2⟩
end
section
variable {P:List aj->Prop}
@[elab_as_elim] theorem len1 (h:∀a,P [a]):∀us,us.length=1->P us
 |[a],_=>h a
@[elab_as_elim] theorem af9 (h:∀a b,P [a,b]):∀us,us.length=2->P us
 |[a,b],_=>h a b
@[elab_as_elim] theorem ag0 (h:∀a b c,P [a,b,c]):∀us,us.length=3->P us
 |[a,b,c],_=>h a b c
@[elab_as_elim] theorem ag1 (h:∀a b c d,P [a,b,c,d]):∀us,us.length=4->P us
 |[a,b,c,d],_=>h a b c d
@[elab_as_elim] theorem ag3 (h:∀a b c d e f,P [a,b,c,d,e,f]):∀us,us.length=6->P us
 |[a,b,c,d,e,f],_=>h a b c d e f
end
def av4(H:Hp):Prop:=∀b,H b=none \/ ∃o xs,H b=some (.frz o (.lst xs))
def law_call{P:a7}{w:bL}{K:ae}{mg mb:Str->Option aj}{CX:CXT}{k:Nat}{fa a:Addr}{fd:bw}{x:Str}{sp:Sp}{s₁:aq}{vs:List aj}{ns:List Int}(KX:K.In s₁.heap)(hns:s₁.heap.Ns bq mg)(hb:s₁.heap.Ns builtinsNs mb)(hbb:∀x:Str,x ≠ "__name__" -> mb x=cX x)(htk:Nk K s₁.toks)(hlim:s₁.heap.NoLimit)(hg:s₁.gens = #[])(ha:s₁.heap.get? a=some {cls:=.type "list", data:=.seq vs.toArray})(hi:IntsAre vs ns)(hl:ns.length<=sizeLine)(hr:Room k lE)(F:∀base:Heap,K.In base->base.Ns bq mg->FnOk P w K mg base CX k fa fd [x] sp)(hbind:∀(s:aq)(u:aj),kI s fd ⟨[u],[]⟩ [(x,u)])(hsp:∀H:Hp,av4 H->SqL K H a (ns.map V.int)->sp [.ref a] H (λv _=>v=.bl true) λ_ _ _=>False)(hCX:∀H e s',CX [] H s₁ (λ_ _ _=>False) e s'->False) :
  ic (model P w) lE (.call (.ref fa) ⟨[.ref a],[]⟩) (λr s'=>r=.ok (.ret (.bool true))/\OldK s₁.heap s'.heap/\s'.os=s₁.os/\kH s'.gens) s₁:=by
 have rv:=Ol hi
 have lenV:=hi.length
 have core:∀H:Hp,av4 H->SqL K H a (ns.map V.int)->HOk P w H s₁.heap->(∀b,H b≠none->b=a)->(H a≠none->K.lookup a=none) ->
   ic (model P w) lE (.call (.ref fa) ⟨[.ref a],[]⟩) (λr s'=>r=.ok (.ret (.bool true))/\OldK s₁.heap s'.heap/\s'.os=s₁.os/\kH s'.gens) s₁:=by
  intro H hO hS hok hA hK
  have base_of:∀{b:Addr}{o:Obj},s₁.heap.get? b=some o->H b=none->(O5 s₁.heap H).get? b=some o:=λe n=>af1 e n
  have noA:∀{b:Addr}{o:Obj}{es:Array iY}{ep:Nat},s₁.heap.get? b=some o->o.data=.dict es ep->H b=none:=λ{b o es ep} e d=>by
   cases q:H b with
   |none=>rfl
   |some u=>
    have e':b=a:=hA b (by rw[q];simp)
    subst e'
    rw[ha] at e;cases e
    have d':Data.seq vs.toArray _=Data.dict es ep:=d
    cases d'
  have nsK:∀{b:Addr}{m:Str->Option aj},s₁.heap.Ns b m->(O5 s₁.heap H).Ns b m:=λ{b m} ⟨o,es,ep,e,d,r⟩=>⟨o,es,ep,base_of e (noA e d),d,r⟩
  have hKb:K.In (O5 s₁.heap H):=λb o e=>base_of (KX b o e) (by
   cases q:H b with
   |none=>rfl
   |some u=>
    have e':b=a:=hA b (by rw[q];simp)
    subst e'
    rw[hK (by rw[q];simp)] at e;cases e)
  have hM:Mod K mg (O5 s₁.heap H):=⟨hKb,nsK hns,⟨mb,nsK hb,hbb⟩,let⟨mc,h1,h2⟩:=hlim;⟨mc,nsK h1,h2⟩⟩
  have e0:Env0 P w K mg (O5 s₁.heap H) lE [] s₁ H:=⟨rfl,hM,λb o e=>a03 e,jL (Yy _ _),trivial,λb hb=>absurd (show b∈([]:List Addr) from hb) (by simp),hok,.of_eq hg,htk⟩
  refine fJ ((F _ hKb (nsK hns)).run lE [] s₁ H ⟨[.ref a],[]⟩ [.ref a] [.ref a] _ _ hr e0 (hbind s₁ (.ref a)) (.cons rfl .nil) (hsp H hO hS)) λr s' h=>?_
  cases r with
  |error e=>exact(hCX H e s' h).elim
  |ok fl=>
   cases fl with
   |next=>exact cA h
   |brk=>exact cA h
   |cont=>exact cA h
   |ret u=>
    obtain⟨v,H',os,bare,un,hok',r',q⟩:=h
    have q':v=.bl true:=q
    subst q'
    obtain rfl:u=Value.bool true:=r'
    refine⟨rfl,OldK.of_keep λb o e=>?_,os.1,bare⟩
    cases q:H b with
    |none=>exact un.keep b o e q (by intro z;exact absurd (show b∈([]:List Addr) from z) (by simp)) (by simp)
    |some u=>
     rcases hO b with z|⟨ob,xs,z⟩
     .rw[q] at z;cases z
     .have z2:=un.frzs b ob _ z
      obtain⟨e1,_⟩:=hok b _ z
      obtain⟨e2,_⟩:=hok' b _ z2
      rw[e] at e1;cases e1
      exact e2
 cases hk:K.lookup a with
 |some o=>
  have e:=KX a o hk
  rw[ha] at e
  cases e
  refine core (λ_=>none) (λ_=>.inl rfl) (.inr ⟨_,vs.toArray,_,hk,rfl,rfl,rfl,by rw[aB,lenV];exact hl,by rw[dA];intro v hv;obtain⟨i,_,rfl⟩:=List.mem_map.mp hv;rfl,by simpa using rv⟩) (λb u z=>by have z':(none:Option HO)=some u:=z;cases z') (λb z=>absurd rfl z) λz=>absurd rfl z
 |none=>
  refine core (λb=>if b=a then some (.frz {cls:=.type "list", data:=.seq vs.toArray} (.lst (ns.map V.int))) else none) (λb=>?_) (.inl (.inr ⟨{cls:=.type "list", data:=.seq vs.toArray},if_pos rfl⟩)) (λb u z=>?_) (λb z=>?_) λ_=>hk
  .by_cases hb:b=a
   .exact .inr ⟨_,_,if_pos hb⟩
   .exact .inl (if_neg hb)
  .by_cases hb:b=a
   .have z':=(if_pos hb).symm.trans z
    cases z'
    subst hb
    exact⟨ha,by rw[af];exact hl,vs,_,rv,ha⟩
   .have z':=(if_neg hb).symm.trans z
    cases z'
  .by_cases hb:b=a
   .exact hb
   .exact absurd (if_neg hb) z
end L2
namespace Att
open PySem PySem.Spec PyProof.Rows PySem.W PySem.W.X
open L2 (Nk Room FnOk CXT Sp Hp V SqL av4)
theorem Xk:∀ns:List Int,ofPys (ns.map PyData.int)=ns.map l_
 |[]=>by simp[ofPys]
 |m::ns=>by simp only[a8,ofPys,ofPy,Xk ns]
def bn1(ns:List Int):WData.list (ns.map l_)=ofPy (PyData.list (ns.map PyData.int)):=by simp only[ofPy,Xk]
def b82(n:Nat):aj->Bool
 |.str _ t=>decide (t<n)
 |_=>true
def tok_mk{K:ae}{n v:Nat}{c:aj}{d:Option Addr}{es:Array iY}{sl:Array (Option aj)}(h:K.lookup bq=some ⟨c,d,.dict es v,sl⟩)(e:es.toList.all (λx=>b82 n x.val)=true):Nk K n:=by
 intro x y t q
 unfold nsIn at q
 rw[h] at q
 dsimp only at q
 split at q
 .rename_i en hf
  have hm:=List.mem_of_find?_eq_some hf
  have:=List.all_eq_true.mp e en hm
  have hv:en.val=.str y t:=by injection q with q;injection q
  rw[hv] at this
  exact of_decide_eq_true this
 .split at q
  .cases q
  .cases q
def walk_z{l:OpenLaw}{n k t:Nat}{q:a7}{loose:List Str}{XP:(Str->Option aj)->Heap->Prop}{d:DefRec}{K:ae}{w:bL}{s₀ s₁:aq}{mg mb:Str->Option aj}{CX:CXT}{sp:ae->Sp}{x:Str}{fa:Addr}{dV kV:aj}{args:List mK}{vals:List aj}{as:List Addr}(hn:l.most=some n)(hn2:n<=sizeLine)(hdf:d.params.defaults=[])(hr:Room k lE)(G:Ground q loose [] XP w s₀ mg mb s₁.heap)(KX:K.In s₁.heap)(hD:Dflts mg s₁.heap d.params [] dV kV)(hmg:mg d.name=some (.ref fa))(hg:s₁.gens = #[])(L:PySem.W.Laid l.row.toRowW.records w s₀ s₁ args vals as)(hpre:l.row.toRowW.claim.pre args=true)(hwl:WellAll w.params s₁.heap vals args)(ZT:s₀.toks=t)(tk:Nk K t)(F:∃fd:bw,(∀(s:aq)(u:aj),kI s fd ⟨[u],[]⟩ [(x,u)])/\∀base:Heap,K.In base->base.Ns bq mg->FnOk l.prog w K mg base CX k fa fd [x] (sp K))(hsp:∀(H:Hp)(a:Addr)(ns:List Int),ns.length<=n->av4 H->SqL K H a (ns.map V.int)->sp K [.ref a] H (λv _=>v=.bl true) λ_ _ _=>False)(hCX:∀(H:Hp)(s:aq)(e:aj)(s':aq),CX [] H s (λ_ _ _=>False) e s'->False) :
  ba (model l.row.toRowW.prog w) lE (PySem.call (.ref fa) vals) (λv s'=>GoodWG l.row.toRowW.claim (classAt s₀.heap) (ExcName.means s₀.heap) args s₁ (.ok (.ret v)) s')
   (λe s'=>GoodWG l.row.toRowW.claim (classAt s₀.heap) (ExcName.means s₀.heap) args s₁ (.error e) s') s₁:=by
 obtain⟨a,vs,ns,rfl,rfl,hobj,hints,hlen⟩:=Zp hn hpre hwl
 rw[bn1] at L
 have htk:t<=s₁.toks:=script_toks L ZT
 obtain⟨fd,hb,hF⟩:=F
 refine enter_call (fJ (L2.law_call KX G.T.g G.T.b G.T.builtins (λx y u e=>aH (tk x y u e) htk) G.T.nolimit hg hobj hints (aF hlen hn2) hr hF hb (λH hO hS=>hsp H a ns hlen hO hS) λH e s'=>hCX H s₁ e s') λr s' z=>?_)
 obtain⟨rfl,h2,h3,h4⟩:=z
 exact⟨.inl ⟨.bool true,.bool true,[],rfl,λ_=>rfl,.bool true,Zj l _,λ_=>⟨iZ,λ_ hm=>(nomatch hm)⟩⟩,h2,h3,h4⟩
end Att
namespace L2
section
variable {α:Type}{ch:α->List α}{h:α->Nat}
def pre(ch:α->List α):Nat->Int->α->List (Int×α)
 |0,_,_=>[]
 |k+1,d,n=>(ch n).flatMap λc=>(d,c)::pre ch k (d+1) c
def Gm(ch:α->List α)(h:α->Nat):Prop:=∀n,∀c∈ch n,h c<h n
theorem Hv{β:Type}{f g:α->List β}:∀{l:List α},(∀x∈l,f x=g x)->l.flatMap f=l.flatMap g
 |[],_=>rfl
 | x::l,e=>by
  rw[gW,gW,e x aY,Hv λy hy=>e y (aK _ hy)]
theorem Ln(S:Gm ch h):∀(k:Nat)(n:α)(d:Int),h n<k -> ∀j,pre ch (k+j) d n=pre ch k d n
 |0,n,d,hk,j=>by omega
 | k+1,n,d,hk,j=>by
  rw[show k+1+j=(k+j)+1 by omega]
  unfold pre
  refine Hv λc hc=>?_
  have:=S n c hc
  rw[Ln S k c (d+1) (by omega) j]
def ak6(S:Gm ch h){k j:Nat}{n:α}{d:Int}(hk:h n<k)(hj:h n<j):pre ch k d n=pre ch j d n:=by
 rcases lO k j with l|l
 .obtain⟨i,rfl⟩:=je l
  exact(Ln S k n d hk i).symm
 .obtain⟨i,rfl⟩:=je l
  exact Ln S j n d hj i
def due(ch:α->List α)(k:Nat)(ws:List (Int×α)):List (Int×α):=ws.reverse.flatMap λw=>w::pre ch k (w.1+1) w.2
def ax0{k:Nat}:due ch k []=[]:=rfl
def ad9(S:Gm ch h){k:Nat}(hk:∀n,h n<k){fs ws:List (Int×α)}{x:Int×α}:(fs++[x])++due ch k (ws++(ch x.2).reverse.map λc=>(x.1+1,c))=fs++due ch k (ws++[x]):=by
 unfold due
 rw[kK,kK,bR,bR,<- jr,kj,List.reverse_singleton,b6,ck]
 congr 1
 rw[List.singleton_append,dS]
 congr 2
 rw[List.flatMap_map]
 obtain⟨j,rfl⟩:∃j,k=j+1:=⟨k-1,by have:=hk x.2;omega⟩
 show(ch x.2).flatMap _=(ch x.2).flatMap _
 refine Hv λc hc=>?_
 have h1:=S _ c hc
 have h2:=hk x.2
 rw[ak6 S (hk c) (show h c<j by omega)]
def Yu(S:Gm ch h){k:Nat}(hk:∀n,h n<k){n:α}{d:Int}:due ch k ((ch n).reverse.map λc=>(d,c))=pre ch k d n:=by
 unfold due
 rw[<- jr,kj,List.flatMap_map]
 obtain⟨j,rfl⟩:∃j,k=j+1:=⟨k-1,by have:=hk n;omega⟩
 show _=(ch n).flatMap _
 refine Hv λc hc=>?_
 have h1:=S _ c hc
 have h2:=hk n
 rw[ak6 S (hk c) (show h c<j by omega)]
end
end L2
namespace K72
open PySem L2
set_option genInjectivity false in
set_option genSizeOfSpec false in
structure Adr where
 f:Nat->Addr
 d:Nat->bw
 u:Nat->aj
 n_zbl:Nat
 n_zbi:Nat
 n_zbj:Nat
 f_zaa:Addr
 d_zaa:bw
 c_zbm:Addr
 m_zbm:Nat->Addr
 e_zbm:Nat->bw
 c_zbk:Addr
 m_zbk:Nat->Addr
 e_zbk:Nat->bw
 c_zbo:Addr
 m_zbo:Nat->Addr
 e_zbo:Nat->bw
 c_zbn:Addr
 m_zbn:Nat->Addr
 e_zbn:Nat->bw
end K72
namespace K72
open PySem L2
inductive Ct where
 |txt (z:Str)
 |tab (T:List (List Str))
 deriving DecidableEq
def Ea(r:List Str):Dt:=.tup (r.map Av)
def Io(T:List (List Str)):Dt:=.tup (T.map Ea)
def ctD:Ct->Dt
 |.txt z=>Av z
 |.tab T=>Io T
def Cg(i:Int):Dt:=.at_ (.int i)
structure Rc where
 kd:Str
 pr:Str
 rk:Int
 ct:Ct
 deriving DecidableEq
abbrev Rs:=List (Str×Rc)
def get(S:Rs)(z:Str):Option Rc:=(S.find? λp=>decide (p.1=z)).map (·.2)
def keys(S:Rs):List Str:=S.map (·.1)
def has(S:Rs)(z:Str):Bool:=(get S z).isSome
def Ak(S:Rs)(z:Str):Rc:=(get S z).getD ⟨"","", 0,.txt ""⟩
def Dy(S:Rs)(z:Str)(r:Rc):Rs:=if(S.any λp=>decide (p.1=z))=true then S.map (λp=>if p.1=z then(p.1,r) else p) else S++[(z,r)]
def rcD(r:Rc):Dt:=.tup [Av r.kd,Av r.pr,Cg r.rk,ctD r.ct]
def RcAt(K:ae)(H:Hp)(r:Rc)(x:V):Prop:=∃q y,x=.ref q/\SqT K H q [.str r.kd,.str r.pr,.int r.rk,y]/\At K H (ctD r.ct) y
def KvAt(K:ae)(H:Hp):Rs->List (Key×V)->Prop
 |[],kvs=>kvs=[]
 |(z,r)::S,kvs=>∃x rest,kvs=(.inr z,x)::rest/\RcAt K H r x/\KvAt K H S rest
def RsAt(K:ae)(H:Hp)(d:Addr)(S:Rs):Prop:=∃kvs,H d=some (.dK kvs)/\KvAt K H S kvs
def RdAt(K:ae)(H:Hp)(d:Addr)(S:Rs):Prop:=∃kvs,Rd H d (.dK kvs)/\KvAt K H S kvs
def PlIn(t:Adr)(H:Hp)(p d:Addr):Prop:=∃dx,H p=some (.ins t.c_zbm dx [("records", .ref d)])
def PlAt(K:ae)(t:Adr)(H:Hp)(p d:Addr)(S:Rs):Prop:=PlIn t H p d/\RdAt K H d S
def PwAt(K:ae)(t:Adr)(H:Hp)(p d:Addr)(S:Rs):Prop:=PlIn t H p d/\RsAt K H d S
def But(d:Addr)(H H':Hp):Prop:=∀b o,b≠d->H b=some o->H' b=some o
def rkf(S:Rs)(z:Str):Int:=(Ak S z).rk
def Ih(S:Rs):List Str:=An (ltK (rkf S)) (keys S)
def chS(S:Rs)(p:Str):List Str:=(Ih S).filter λz=>decide ((Ak S z).pr=p)
structure Tr (S:Rs):Prop where
 nd:(keys S).Nodup
 few:S.length<=10
 ne:("" : Str)∉keys S
 up:∃h:Str->Nat,(∀z,h z<12)/\∀z r,get S z=some r->h z<h r.pr
def Ez(S:Rs)(n:Str):List (Int×Str):=pre (chS S) 12 1 n
def lnD(S:Rs)(w:Int×Str):Dt:=.tup [Cg w.1,Av w.2,Av (Ak S w.2).kd,Cg (Ak S w.2).rk,ctD (Ak S w.2).ct]
def UnAt(H:Hp)(u:Addr)(S:Rs):Prop:=∃kvs,H u=some (.dK kvs)/\∀p,match Bt kvs (.inr p) with
 |none=>chS S p=[]
 |some v=>∃l,v=.ref l/\H l=some (.lst ((chS S p).map V.str))
def PrAt(K:ae)(H:Hp):List (Int×Str)->List V->Prop
 |[],ys=>ys=[]
 |w::ws,ys=>∃q rest,ys=.ref q::rest/\SqT K H q [.int w.1,.str w.2]/\PrAt K H ws rest
structure Ao (K:ae) (t:Adr):Prop where
 pl:Cls K t.c_zbm
 plr:NoAttr K t.c_zbm "records"
 ks_place_key:eJ K (.ref (t.m_zbm 13)) "__get__"=some (some (.builtin "function.__get__"))
 kt_place_key:fH K (.ref (t.m_zbm 13))=some false
 ts:cg K bq "STROKE"=some (some (.str "\\" t.n_zbl))/\0<t.n_zbl
 tc:cg K bq "CELL_SIGN"=some (some (.str "|" t.n_zbi))/\0<t.n_zbi
 tr:cg K bq "ROW_SIGN"=some (some (.str "/" t.n_zbj))/\0<t.n_zbj
def Held(S:Rs):Prop:=∀z r,get S z=some r->r.pr="" \/ ∃q,get S r.pr=some q/\q.kd="chapter"
structure TrC (S:Rs):Prop where
 tr:Tr S
 hd:Held S
 f8:S.length<=8
def wyN:Nat->Rs->Str->List Str
 |0,_,_=>[]
 |n+1,S,z=>if z="" then [] else wyN n S (Ak S z).pr++[z]
def stD(S:Rs)(z:Str):Dt:=.tup [Cg (Ak S z).rk,Av z,Av (Ak S z).kd]
def wyS(S:Rs)(z:Str):List Str:=wyN 12 S z
def Uo(S:Rs)(z:Str):List Dt:=(wyS S z).map (stD S)
def F0(S:Rs)(z:Str):Dt:=.tup (Uo S z)
def OpAt(K:ae)(H:Hp)(o:Option Rc)(x:V):Prop:=match o with
 |none=>x=.non
 |some r=>RcAt K H r x
def opD:Option Rc->Dt
 |none=>.at_ .non
 |some r=>rcD r
def cellS:List Str:=["","x","y/|"]
structure OkTab (T:List (List Str)) (n m:Nat):Prop where
 n1:n=1\/n=2
 m1:m=1\/m=2
 len:T.length=n
 row:∀r∈T,r.length=m/\∀c∈r,c∈cellS
def Fy(kd:Str)(c:Ct):Prop:=match c with
 |.txt _=>kd ≠ "table"
 |.tab T=>kd="table" /\ ∃n m,OkTab T n m
def kdS(z:Str):Prop:=z="chapter" \/ z="para" \/ z="table"
def Gd(r:Rc):Prop:=kdS r.kd/\Fy r.kd r.ct
def Gds(S:Rs):Prop:=∀z r,get S z=some r->Gd r
def shC(c:Str):Str:=if c="y/|" then "y\\/\\|" else c
def shR(r:List Str):Str:=k4 "|" (r.map shC)
def shF:Ct->Str
 |.txt z=>z
 |.tab T=>k4 "/" (T.map shR)
def Bg(r:Rc):List Dt:=[Av r.kd,Av r.pr,Cg r.rk,Av (shF r.ct)]
def cla{α:Type} [DecidableEq α](b o u:α):Bool:=!decide (o=u) && !decide (o=b) && !decide (u=b)
def stl{α:Type} [DecidableEq α](b o u:α):α:=if cla b o u=true then b else if o=b then u else o
def atT(T:List (List Str))(i j:Nat):Str:=(T.getD i []).getD j ""
def A9(T:List (List Str)):Nat:=(T.getD 0 []).length
def Kx(i j:Nat):Str := "cell " ++ (fg (i:Int):Str) ++ " " ++ (fg (j:Int):Str)
def Je(B O U:List (List Str)):List (List Str):=(bi B.length).map λi=>(bi (A9 B)).map λj=>stl (atT B i j) (atT O i j) (atT U i j)
def Jf(B O U:List (List Str)):List Str:=(bi B.length).flatMap λi=>(bi (A9 B)).flatMap λj=>if cla (atT B i j) (atT O i j) (atT U i j)=true then [Kx i j] else []
def whJ(b o u:Ct):Ct×List Str:=(stl b o u,if cla b o u=true then ["content"] else [])
def ctJ(b o u:Ct):Ct×List Str:=match b,o,u with
 |.tab B,.tab O,.tab U=>if cla b o u=true/\(O.length=B.length/\A9 O=A9 B)/\(U.length=B.length/\A9 U=A9 B) then(.tab (Je B O U),Jf B O U) else whJ b o u
 |_,_,_=>whJ b o u
abbrev plO(r:Rc):Str×Int:=(r.pr,r.rk)
def rcJ(b o u:Rc):Rc×List Str:=(⟨b.kd,(stl (plO b) (plO o) (plO u)).1,(stl (plO b) (plO o) (plO u)).2,(ctJ b.ct o.ct u.ct).1⟩,(if cla (plO b) (plO o) (plO u)=true then([("place" : Str)]) else [])++(ctJ b.ct o.ct u.ct).2)
def jnO(b o u:Option Rc):Option Rc×List Str:=if cla b o u=true then(match b,o,u with
 |none,some o,some u=>(some (if Bc (Bg u) (Bg o)=true then u else o),["both"])
 |_,none,u=>(u,["gone"])
 |_,o,none=>(o,["gone"])
 |some b,some o,some u=>if o.kd≠b.kd\/u.kd≠b.kd then(some b,["kind"]) else(some (rcJ b o u).1,(rcJ b o u).2)) else(stl b o u,[])
def jnZ(E O U:Rs)(z:Str):Option Rc×List Str:=jnO (get E z) (get O z) (get U z)
def nms(E O U:Rs):List Str:=An ltS (Dl (keys E++keys O++keys U))
def Bv(E O U:Rs)(zs:List Str):Rs:=zs.filterMap λz=>(jnZ E O U z).1.map λr=>(z,r)
def C2(E O U:Rs)(zs:List Str):List (Str×Str):=zs.flatMap λz=>(jnZ E O U z).2.map λw=>(z,w)
def Bd(S:Rs)(p:Str):Bool:=decide (p="")||decide ((get S p).map (·.kd)=some ("chapter" : Str))
def C3(S:Rs):List Str:=(keys S).filter λz=>!Bd S (Ak S z).pr
def Bi(S:Rs)(L:List Str):Rs:=S.map λp=>if p.1∈L then(p.1,{p.2 with pr := "" }) else p
def itN(S:Rs):Nat->Str->Str
 |0,z=>z
 |n+1,z=>itN S n (Ak S z).pr
def onB(S:Rs)(z:Str):Bool:=(bi S.length).any λk=>decide (itN S (k+1) z=z)
def Cy(S:Rs)(z:Str):Bool:=onB S z&&(bi S.length).all λk=>!ltS (itN S k z) z
def J8(S:Rs):List Str:=(keys S).filter (Cy S)
def up1(S:Rs):Rs:=Bi S (C3 S)
def up2(S:Rs):Rs:=Bi (up1 S) (J8 (up1 S))
def Ja(E O U:Rs):Rs:=up2 (Bv E O U (nms E O U))
def Q8(S:Rs):List (Str×Str):=(C3 S++J8 (up1 S)).map λz=>(z,"loose")
def prL(p:Str×Str):List Dt:=[Av p.1,Av p.2]
def ltP(a b:Str×Str):Bool:=Bc (prL a) (prL b)
def K5(E O U:Rs):List (Str×Str):=An ltP (C2 E O U (nms E O U)++Q8 (Bv E O U (nms E O U)))
structure Lo (S:Rs):Prop where
 nd:(keys S).Nodup
 f8:S.length<=8
 ne:("" : Str)∉keys S
 gd:Gds S
structure Sid (zs:List Str) (S:Rs):Prop where
 tr:TrC S
 gd:Gds S
 sub:∀z∈keys S,z∈zs
def bt9(n:Int):Int:=n*(n+3)%2147483587/32
def bu0(n:Int):Int:=bt9 (n*n%2147483629)
def Ld(c:Int)(k:Nat):Int:=bu0 ((c%1000000007+7919*(k:Int))*48271%2147483647)
abbrev sL(l:List Str):HO:=.lst (l.map V.str)
section
variable (K:ae) (t:Adr)
abbrev S_:=ae->Adr->Sp
def ao9:S_:=λK t vs H Q _=>∃(a dx:Addr),vs=[.ref a]/\H a=some (.ins t.c_zbm dx [])/\∀d,H d=none->Q .non (upd (upd H d (.dK [])) a (.ins t.c_zbm dx [("records", .ref d)]))
def U4:S_:=λK t vs H Q _=>∃(p d:Addr)(S:Rs)(z:Str),vs=[.ref p,.str z]/\PlAt K t H p d S/\Q (.bl (has S z)) H
def aq5:S_:=λK t vs H Q _=>∃(p d:Addr)(S:Rs)(z:Str),vs=[.ref p,.str z]/\PlAt K t H p d S/\has S z=true/\∀x,RcAt K H (Ak S z) x->Q x H
def ao8:S_:=λK t vs H Q _=>∃(p d:Addr)(S:Rs)(z:Str),vs=[.ref p,.str z]/\PwAt K t H p d S/\∀x,OpAt K H (get S z) x->Q x H
def X0(f:Rc->V->V):Sp:=λvs H Q _=>∃(p d:Addr)(S:Rs)(z:Str),vs=[.ref p,.str z]/\PlAt K t H p d S/\has S z=true/\∀y,At K H (ctD (Ak S z).ct) y->Q (f (Ak S z) y) H
def ap5:S_:=λK t=>X0 K t λr _=>.str r.kd
def ap2:S_:=λK t=>X0 K t λr _=>.str r.pr
def ap7:S_:=λK t=>X0 K t λr _=>.int r.rk
def ap1:S_:=λK t=>X0 K t λ_ y=>y
def aq4:S_:=λK t vs H Q _=>∃(p d:Addr)(S:Rs),vs=[.ref p]/\PlAt K t H p d S/\(keys S).Nodup/\S.length<=20/\∀l,H l=none->Q (.ref l) (upd H l (sL (An ltS (keys S))))
def U5:S_:=λK t vs H Q _=>∃(p d:Addr)(S:Rs)(z:Str)(r:Rc)(y:V),vs=[.ref p,.str z,.str r.kd,.str r.pr,.int r.rk,y]/\PwAt K t H p d S/\S.length<100/\At K H (ctD r.ct) y/\∀H',But d H H'->RsAt K H' d (Dy S z r)->Q .non H'
def ap3:S_:=λK t vs H Q _=>∃(p d:Addr)(S:Rs)(z:Str),vs=[.ref p,.str z]/\PlAt K t H p d S/\has S z=true/\∀q,H q=none->Q (.ref q) (upd H q (.tup [.int (rkf S z),.str z]))
def ap0:S_:=λK t vs H Q _=>∃(p d:Addr)(S:Rs),vs=[.ref p]/\PlAt K t H p d S/\Tr S/\∀H' u,Same H H'->UnAt H' u S->Q (.ref u) H'
def Uw:S_:=λK t vs H Q _=>∃(p d:Addr)(S:Rs)(n:Str),vs=[.ref p,.str n]/\PlAt K t H p d S/\Tr S/\∀H' a ys,Same H H'->PrAt K H' (Ez S n) ys->H' a=some (.lst ys)->Q (.ref a) H'
def ap6:S_:=λK t vs H Q _=>∃(p d:Addr)(S:Rs)(w:Int×Str),vs=[.ref p,.int w.1,.str w.2]/\PlAt K t H p d S/\has S w.2=true/\∀H' x,Same H H'->At K H' (lnD S w) x->Q x H'
def aq3:S_:=λK t vs H Q _=>∃(p d:Addr)(S:Rs),vs=[.ref p]/\PlAt K t H p d S/\Tr S/\∀H' l ys,Same H H'->H' l=some (.lst ys)->AtL K H' ((Ez S "").map (lnD S)) ys->Q (.ref l) H'
def P5(z:Str):Sp:=λvs H Q _=>∃s,vs=[s]/\Q (.str z) H
def ap9:S_:=λK t=>P5 "chapter"
def U3:S_:=λK t=>P5 "para"
def Ux:S_:=λK t=>P5 "table"
def Xz(b:Bool):Sp:=λvs H Q _=>∃s,vs=[s]/\Q (.bl b) H
def ap4:S_:=λK t=>Xz true
def Sc:S_:=λK t=>Xz false
def kcl(z:Str):Addr:=if z="chapter" then t.c_zbk else if z="para" then t.c_zbo else t.c_zbn
def Ry:S_:=λK t vs H Q _=>∃z,vs=[.str z]/\kdS z/\∀H' a dx,Same H H'->H' a=some (.ins (kcl t z) dx [])->Q (.ref a) H'
def U1:S_:=λK t vs H Q _=>∃c,vs=[.str c]/\c∈cellS/\∀H',Same H H'->Q (.str (shC c)) H'
def Vb:S_:=λK t vs H Q _=>∃x r,vs=[x]/\At K H (Ea r) x/\r.length<=2/\(∀c∈r,c∈cellS)/\∀H',Same H H'->Q (.str (shR r)) H'
def aq6:S_:=λK t vs H Q _=>∃s x T n m,vs=[s,x]/\At K H (Io T) x/\OkTab T n m/\∀H',Same H H'->Q (.str (shF (.tab T))) H'
def Se:S_:=λK t vs H Q _=>∃s z,vs=[s,.str z]/\Q (.str z) H
def U0:S_:=λK t vs H Q _=>∃x r,vs=[x]/\RcAt K H r x/\Gd r/\∀H' w,Same H H'->At K H' (.tup (Bg r)) w->Q w H'
def scV(x:V):Prop:=x=.non\/(∃z,x=.str z) \/ ∃a,x=.ref a
def Yq(b o u:Dt):Bool:=!deq o u && !deq o b && !deq u b
def Nl(H:Hp)(x y z:V)(b o u:Dt):Prop:=(At K H b x/\scV x)/\(At K H o y/\scV y)/\(At K H u z/\scV z)/\dep b<=20/\dep o<=20/\dep u<=20
def F5:S_:=λK t vs H Q _=>∃x y z b o u,vs=[x,y,z]/\Nl K H x y z b o u/\Q (.bl (Yq b o u)) H
def Jm:S_:=λK t vs H Q _=>∃x y z b o u,vs=[x,y,z]/\Nl K H x y z b o u/\Q (if Yq b o u=true then x else if deq o b=true then z else y) H
def Yc(H:Hp)(q:Addr)(c:Ct×List Str):Prop:=∃v l,SqT K H q [v,.ref l]/\H l=some (sL c.2)/\At K H (ctD c.1) v
def Rx:S_:=λK t vs H Q _=>∃x y z b o u,vs=[x,y,z]/\At K H (ctD b) x/\At K H (ctD o) y/\At K H (ctD u) z/\∀H' q,Same H H'->Yc K H' q (whJ b o u)->Q (.ref q) H'
def Rz:S_:=λK t vs H Q _=>∃s x y z b o u,vs=[s,x,y,z]/\At K H (ctD b) x/\At K H (ctD o) y/\At K H (ctD u) z/\∀H' q,Same H H'->Yc K H' q (whJ b o u)->Q (.ref q) H'
def bc0(B O U:List (List Str)):Prop:=(∃n m,OkTab B n m)/\(∃n m,OkTab O n m)/\∃n m,OkTab U n m
def aq0:S_:=λK t vs H Q _=>∃s x y z B O U,vs=[s,x,y,z]/\At K H (Io B) x/\At K H (Io O) y/\At K H (Io U) z/\bc0 B O U/\∀H' q,Same H H'->Yc K H' q (ctJ (.tab B) (.tab O) (.tab U))->Q (.ref q) H'
def Jl:S_:=λK t vs H Q _=>∃x T n m,vs=[x]/\At K H (Io T) x/\OkTab T n m/\∀q,H q=none->Q (.ref q) (upd H q (.tup [.int (T.length:Nat),.int (A9 T:Nat)]))
def aq1:S_:=λK t vs H Q _=>∃x y z B O U n m,vs=[x,y,z]/\At K H (Io B) x/\At K H (Io O) y/\At K H (Io U) z/\OkTab B n m/\OkTab O n m/\OkTab U n m/\∀H' q,Same H H'->Yc K H' q (.tab (Je B O U),Jf B O U)->Q (.ref q) H'
def ac4(H:Hp)(v:V)(l:Addr)(c:Option Rc×List Str):Prop:=H l=some (sL c.2)/\OpAt K H c.1 v
def ap8:S_:=λK t vs H Q _=>∃x y z b o u,vs=[x,y,z]/\RcAt K H b x/\RcAt K H o y/\RcAt K H u z/\Gd b/\Gd o/\Gd u/\o.kd=b.kd/\u.kd=b.kd/\∀H' q v l,Same H H'->SqT K H' q [v,.ref l]->ac4 K H' v l (some (rcJ b o u).1,(rcJ b o u).2)->Q (.ref q) H'
def OpG(o:Option Rc):Prop:=∀r,o=some r->Gd r
def aq2:S_:=λK t vs H Q _=>∃x y z b o u,vs=[x,y,z]/\OpAt K H b x/\OpAt K H o y/\OpAt K H u z/\OpG b/\OpG o/\OpG u/\∀H' q v l,Same H H'->SqT K H' q [v,.ref l]->ac4 K H' v l (jnO b o u)->Q (.ref q) H'
def Va:S_:=λK t vs H Q _=>∃(p d:Addr)(S:Rs)(z:Str)(o:Option Rc)(x:V),vs=[.ref p,.str z,x]/\PwAt K t H p d S/\S.length<100/\OpAt K H o x/\∀H',But d H H'->RsAt K H' d (match o with|none=>S|some r=>Dy S z r)->Q .non H'
def Vg:S_:=λK t vs H Q _=>∃(p d:Addr)(S:Rs)(z:Str),vs=[.ref p,.str z]/\PlAt K t H p d S/\Gds S/\∀H',Same H H'->Q (.bl (Bd S z)) H'
def P6:S_:=λK t vs H Q _=>∃(p d l:Addr)(S:Rs)(zs:List Str),vs=[.ref p,.ref l]/\PwAt K t H p d S/\H l=some (sL zs)/\(∀z∈zs,has S z=true)/\(keys S).Nodup/\S.length<90/\∀H',But d H H'->RsAt K H' d (Bi S zs)->Q .non H'
def Vh:S_:=λK t vs H Q _=>∃(p d:Addr)(S:Rs)(z:Str)(n:Nat),vs=[.ref p,.str z]/\PlAt K t H p d S/\n<=8/\(∀k,k<=n->has S (itN S k z)=true)/\itN S (n+1) z=z/\(∀k,k<n->itN S (k+1) z≠z)/\∀H' l,Same H H'->H' l=some (sL ((bi (n+1)).map λk=>itN S k z))->Q (.ref l) H'
def ac3(H:Hp)(l:Addr)(rs:List (List Str)):Prop:=∃as:List Addr,H l=some (.lst (as.map V.ref))/\as.length=rs.length/\∀(i:Nat) a r,as[i]?=some a->rs[i]?=some r->H a=some (sL r)
def bs0(S:Rs)(rs:List (List Str)):Prop:=(∀r∈rs,r≠[])/\∀fs:List Str,fs.length=rs.length->(∀(i:Nat) f r,fs[i]?=some f->rs[i]?=some r->f∈r/\∀y∈r,ltS y f=false)->fs.Perm (J8 S)
def Vf:S_:=λK t vs H Q _=>∃(p d:Addr)(S:Rs),vs=[.ref p]/\PlAt K t H p d S/\Lo S/\Held S/\∀H' l rs,Same H H'->ac3 H' l rs->bs0 S rs->rs.length<=8->Q (.ref l) H'
def Uz:S_:=λK t vs H Q _=>∃(p d:Addr)(S:Rs),vs=[.ref p]/\PwAt K t H p d S/\Lo S/\(keys S).Pairwise (λa b=>ltS a b=true)/\∀H' l zs,But d H H'->RsAt K H' d (up2 S)->H' l=some (sL zs)->zs.Perm (C3 S++J8 (up1 S))->Q (.ref l) H'
def PpAt(H:Hp)(ws:List (Str×Str))(ys:List V):Prop:=AtL K H (ws.map λw=>.tup (prL w)) ys
def Uy:S_:=λK t vs H Q _=>∃(p1 d1 p2 d2 p3 d3:Addr)(E O U:Rs)(zs:List Str),vs=[.ref p1,.ref p2,.ref p3]/\PwAt K t H p1 d1 E/\PwAt K t H p2 d2 O/\PwAt K t H p3 d3 U/\Sid zs E/\Sid zs O/\Sid zs U/\zs.Nodup/\zs.length<=8/\∀H' q p l d ys,Same H H'->H l=none->SqT K H' q [.ref p,.ref l]->H' l=some (.lst ys)->PpAt K H' (K5 E O U) ys->PwAt K t H' p d (Ja E O U)->Q (.ref q) H'
def Jz:S_:=λK t vs H Q _=>∃(a:Addr)(ns:List Int)(k:Nat),vs=[.ref a,.int k]/\SqL K H a (ns.map V.int)/\∀r:Int,Q (.int r) H
def F7:S_:=λK t vs H Q _=>∃(c:Int)(k:Nat),vs=[.int c,.int k]/\k<=1000/\∀r:Int,0<=r->r=Ld c k->Q (.int r) H
def F6:S_:=λK t vs H Q _=>∃(c:Int)(k:Nat),vs=[.int c,.int k]/\k<=1000/\∀(r:Int) H',Same H H'->Q (.int r) H'
def U6:S_:=λK t vs H Q _=>∃(c:Int)(m:Nat),vs=[.int c,.int m]/\m<=8/\∀H' l (zs:List Str),Same H H'->H' l=some (sL zs)->zs.Nodup->zs.length<=8->("" : Str)∉zs->(∀z∈zs,z.length<=12)->Q (.ref l) H'
def Sa:S_:=λK t vs H Q _=>∃(z n:Str)(c:Int),vs=[.str z,.str n,.int c]/\n.length<=12/\∀D H' x,Same H H'->Fy z D->At K H' (ctD D) x->Q x H'
def U7:S_:=λK t vs H Q _=>∃(c:Int)(l:Addr)(zs:List Str),vs=[.int c,.ref l]/\H l=some (sL zs)/\zs.length<=8/\∀H' l' (ys:List Str),Same H H'->H' l'=some (sL ys)->ys.Perm zs->Q (.ref l') H'
def ac2(H:Hp)(l:Addr):Prop:=∃ks:List Str,ks.length=4/\(∀k∈ks,kdS k)/\H l=some (sL ks)
def Lw:S_:=λK t vs H Q _=>∃(d:Addr)(R:Rs)(z:Str)(c:Int)(k:Nat)(l:Addr),vs=[.ref d,.str z,.int c,.int k,.ref l]/\RsAt K H d R/\R.length<=8/\(keys R).Nodup/\z.length<=12/\k<=8/\ac2 H l/\∀H' x r,Same H H'->RcAt K H' r x->Gd r->(r.pr="" \/ ∃q,get R r.pr=some q/\q.kd="chapter")->Q x H'
def Ly:S_:=λK t vs H Q _=>∃(c:Int)(ln de lk:Addr)(zs:List Str)(E:Rs),vs=[.int c,.ref ln,.ref de,.ref lk]/\H ln=some (sL zs)/\zs.Nodup/\zs.length<=8/\("" : Str)∉zs/\(∀z∈zs,z.length<=12)/\RsAt K H de E/\Gds E/\ac2 H lk/\∀H' d R,Same H H'->H d=none->RsAt K H' d R->Sid zs R->Q (.ref d) H'
def br8(H:Hp)(q:Addr)(c:Ct×List Str):Prop:=∃v l,H q=some (.lst [v,.ref l])/\H l=some (sL c.2)/\At K H (ctD c.1) v
def X1:S_:=λK t vs H Q _=>∃k x y z b o u,vs=[.str k,x,y,z]/\At K H (ctD b) x/\At K H (ctD o) y/\At K H (ctD u) z/\Fy k b/\Fy k o/\Fy k u/\∀H' q,Same H H'->br8 K H' q (ctJ b o u)->Q (.ref q) H'
def U8:S_:=λK t vs H Q _=>∃x k c,vs=[x]/\At K H (ctD c) x/\Fy k c/\∀H',Same H H'->Q (.str (shF c)) H'
def U9:S_:=λK t vs H Q _=>∃x y z b o u,vs=[x,y,z]/\OpAt K H b x/\OpAt K H o y/\OpAt K H u z/\OpG b/\OpG o/\OpG u/\∀H' q v l,Same H H'->H' q=some (.lst [v,.ref l])->ac4 K H' v l (jnO b o u)->Q (.ref q) H'
def Ve:S_:=λK t vs H Q _=>∃(d:Addr)(R:Rs)(z:Str),vs=[.ref d,.str z]/\RsAt K H d R/\has R z=true/\("" : Str)∉keys R/\R.length<=8/\(∀y r,get R y=some r->r.pr="" \/ has R r.pr=true)/\Q (.bl (onB R z)) H
def Vc:S_:=λK t vs H Q _=>∃(d1 d2 d3:Addr)(E O U:Rs)(zs:List Str),vs=[.ref d1,.ref d2,.ref d3]/\RsAt K H d1 E/\RsAt K H d2 O/\RsAt K H d3 U/\Sid zs E/\Sid zs O/\Sid zs U/\zs.Nodup/\zs.length<=8/\∀H' q d l ys,Same H H'->H' q=some (.lst [.ref d,.ref l])->RsAt K H' d (Ja E O U)->H' l=some (.lst ys)->PpAt K H' (K5 E O U) ys->Q (.ref q) H'
def Vd:S_:=λK t vs H Q _=>∃(d:Addr)(R:Rs)(z:Str),vs=[.ref d,.str z]/\RdAt K H d R/\TrC R/\has R z=true/\∀H' a,Same H H'->At K H' (F0 R z) (.ref a)->Q (.ref a) H'
def P8:S_:=λK t vs H Q _=>∃(d:Addr)(R:Rs),vs=[.ref d]/\RsAt K H d R/\TrC R/\∀H' l ys,Same H H'->H' l=some (.lst ys)->AtL K H' ((Ez R "").map (lnD R)) ys->Q (.ref l) H'
def Lx:S_:=λK t vs H Q _=>∃(d0:Addr)(R:Rs),vs=[.ref d0]/\RsAt K H d0 R/\TrC R/\∀H' p d,Same H H'->PwAt K t H' p d R->H d=none->Q (.ref p) H'
def P7:S_:=λK t vs H Q _=>∃(d1 d2 d3 dd l:Addr)(E O U:Rs)(zs:List Str)(ys:List V),vs=[.ref d1,.ref d2,.ref d3,.ref dd,.ref l]/\RsAt K H d1 E/\RsAt K H d2 O/\RsAt K H d3 U/\RsAt K H dd (Ja E O U)/\Sid zs E/\Sid zs O/\Sid zs U/\zs.Nodup/\zs.length<=8/\H l=some (.lst ys)/\PpAt K H (K5 E O U) ys/\∀H',Same H H'->Q (.bl true) H'
def P9:S_:=λK t vs H Q _=>∃(a:Addr)(ns:List Int),vs=[.ref a]/\SqL K H a (ns.map V.int)/\ns.length<=63/\∀H',Q (.bl true) H'
end
end K72
namespace K72
open PySem L2
noncomputable def top(i:Nat):Stmt:=PySem.Challenge.pw_manyleaf_k72_whole_plain_books_laid_toge.main.body.getD i (.Pass ⟨0,0,0,0⟩)
def bl:List Str:=["int","isinstance","len","list","max","min","range","reversed","set","sorted","str","tuple","zip"]
abbrev bb4:Df:=⟨"_law_cell_at","_law_cell_at", top 36,["_law_script","_law_k"],2,1⟩
abbrev ab9:Df:=⟨"_law_mix","_law_mix", top 37,["_law_cell","_law_k","_law_number"],2,1⟩
abbrev aa2:Df:=⟨"_law_names","_law_names", top 39,["_law_cell","_law_many","_law_signs","_law_some","_law_number","_law_base","_law_k","_law_at","_law_long","_law_found","_law_other"],2,2⟩
abbrev ab1:Df:=⟨"_law_draw","_law_draw", top 38,["_law_cell","_law_k"],2,2⟩
abbrev bb5:Df:=⟨"_law_content","_law_content", top 40,["_law_kind","_law_name","_law_number","_law_shape","_law_rows","_law_row","_law_row_cells","_law_column"],3,1⟩
abbrev aa3:Df:=⟨"_law_order","_law_order", top 41,["_law_cell","_law_names_here","_law_left","_law_order_here","_law_k"],2,3⟩
abbrev Z5:Df:=⟨"_law_record","_law_record", top 42,["_law_records","_law_name","_law_cell","_law_k","_law_kinds","_law_number","_law_kind","_law_parents","_law_parent","_law_rank"],5,3⟩
abbrev ab5:Df:=⟨"_law_side","_law_side", top 43,["_law_cell","_law_names_here","_law_elder","_law_kinds","_law_records","_law_name","_law_k","_law_way","_law_record_here","_law_held","_law_content_here"],4,4⟩
abbrev ba8:Df:=⟨"_law_contents_laid","_law_contents_laid", top 44,["_law_kind","_law_base","_law_one","_law_other","_law_rows","_law_words","_law_at","_law_made","_law_column","_law_was","_law_here","_law_there"],4,1⟩
abbrev aa6:Df:=⟨"_law_shown","_law_shown", top 45,["_law_content_here","_law_cells"],1,1⟩
abbrev aa7:Df:=⟨"_law_state","_law_state", top 46,["_law_base","_law_one","_law_other","_law_ranked","_law_place","_law_words","_law_content_here","_law_more"],3,2⟩
abbrev ab4:Df:=⟨"_law_rung","_law_rung", top 47,["_law_records","_law_name","_law_above","_law_k"],2,1⟩
abbrev ab2:Df:=⟨"_law_laid","_law_laid", top 48,["_law_elder","_law_one","_law_other","_law_records","_law_told","_law_name","_law_state_here","_law_words","_law_loose","_law_parent"],3,3⟩
abbrev au9:Df:=⟨"state","Plain.state", A5 (top 7) 2,["self","name"],2,3⟩
abbrev au8:Df:=⟨"names","Plain.names", A5 (top 7) 8,["self"],1,1⟩
abbrev au0:Df:=⟨"parent_of","Plain.parent_of", A5 (top 7) 5,["self","name"],2,4⟩
abbrev au4:Df:=⟨"rank_of","Plain.rank_of", A5 (top 7) 6,["self","name"],2,4⟩
abbrev Yd:Df:=⟨"place_key","Plain.place_key", A5 (top 7) 10,["self","name"],2,5⟩
abbrev at8:Df:=⟨"all_unders","Plain.all_unders", A5 (top 7) 14,["self","unders","name"],1,8⟩
abbrev V0:Df:=⟨"walk","Plain.walk", A5 (top 7) 13,["self","name","unders","found","waiting","line"],2,9⟩
abbrev au2:Df:=⟨"kind_of","Plain.kind_of", A5 (top 7) 4,["self","name"],2,4⟩
abbrev at9:Df:=⟨"content_of","Plain.content_of", A5 (top 7) 7,["self","name"],2,4⟩
abbrev au3:Df:=⟨"line_of","Plain.line_of", A5 (top 7) 16,["self","depth","name"],3,5⟩
abbrev au7:Df:=⟨"lines","Plain.lines", A5 (top 7) 15,["self"],1,10⟩
abbrev D_zaa:Df:=⟨"__init__","Plain.__init__", A5 (top 7) 0,["self"],1,1⟩
abbrev at7:Df:=⟨"state_or_none","Plain.state_or_none", A5 (top 7) 3,["self","name"],2,1⟩
abbrev V5:Df:=⟨"lay","Plain.lay", A5 (top 7) 17,["self","name","kind","parent","rank","content"],6,1⟩
abbrev aa8:Df:=⟨"lay_state","lay_state", top 26,["plain","name","state"],3,2⟩
abbrev ab0:Df:=⟨"is_clash","is_clash", top 19,["base","one","other"],3,1⟩
abbrev ac1:Df:=⟨"settled","settled", top 21,["base","one","other"],3,2⟩
abbrev Sw:Df:=⟨"shown","Kind.shown", A5 (top 12) 2,["self","content"],2,1⟩
abbrev Z9:Df:=⟨"shown_cell","shown_cell", top 18,["cell","shown","sign"],1,1⟩
abbrev aa9:Df:=⟨"shown_row","shown_row", top 17,["row"],1,2⟩
abbrev av0:Df:=⟨"shown","Table.shown", A5 (top 15) 2,["self","content"],2,3⟩
abbrev au5:Df:=⟨"word","Chapter.word", A5 (top 13) 0,["self"],1,1⟩
abbrev V3:Df:=⟨"word","Para.word", A5 (top 14) 0,["self"],1,1⟩
abbrev V1:Df:=⟨"word","Table.word", A5 (top 15) 0,["self"],1,1⟩
abbrev bb3:Df:=⟨"kind_of_word","kind_of_word", top 16,["word","kind"],1,2⟩
abbrev V2:Df:=⟨"record_key","record_key", top 28,["record"],1,4⟩
abbrev bb2:Df:=⟨"joined_whole","joined_whole", top 20,["base","one","other"],3,3⟩
abbrev Su:Df:=⟨"joined","Kind.joined", A5 (top 12) 4,["self","base","one","other"],4,4⟩
abbrev ab7:Df:=⟨"shape_of","shape_of", top 22,["table"],1,1⟩
abbrev bb0:Df:=⟨"joined_cells","joined_cells", top 23,["base","one","other","rows","words","row","cells","column","three"],3,3⟩
abbrev au6:Df:=⟨"joined","Table.joined", A5 (top 15) 4,["self","base","one","other"],4,4⟩
abbrev ba9:Df:=⟨"joined_record","joined_record", top 29,["elder","one","other","place","words","content"],3,5⟩
abbrev bb1:Df:=⟨"joined_state","joined_state", top 27,["elder","one","other"],3,7⟩
abbrev V4:Df:=⟨"has","Plain.has", A5 (top 7) 1,["self","name"],2,1⟩
abbrev Sv:Df:=⟨"holds","Kind.holds", A5 (top 12) 0,["self"],1,1⟩
abbrev au1:Df:=⟨"holds","Chapter.holds", A5 (top 13) 1,["self"],1,1⟩
abbrev ab8:Df:=⟨"is_held","is_held", top 31,["plain","parent"],2,5⟩
abbrev Z6:Df:=⟨"lay_at_top","lay_at_top", top 32,["plain","names","name"],2,5⟩
abbrev ac0:Df:=⟨"ring_of","ring_of", top 34,["plain","start","ring","name"],2,5⟩
abbrev ab6:Df:=⟨"rings_of","rings_of", top 33,["plain","rings","began","start","name"],1,6⟩
abbrev Z8:Df:=⟨"put_at_top","put_at_top", top 30,["plain","loose","firsts"],1,7⟩
abbrev Z7:Df:=⟨"plain_join","plain_join", top 25,["elder","one","other","plain","clashes","name","joined"],3,9⟩
abbrev ab3:Df:=⟨"_law_path","_law_path", top 49,["_law_records","_law_name","_law_path_here","_law_kind","_law_parent","_law_rank","_law_content_here"],2,1⟩
abbrev aa1:Df:=⟨"_law_lines","_law_lines", top 50,["_law_records","_law_some"],1,2⟩
abbrev aa4:Df:=⟨"_law_plain","_law_plain", top 51,["_law_records","_law_plain_here","_law_name","_law_record_here"],1,3⟩
abbrev aa0:Df:=⟨"_law_comes","_law_comes", top 52,["_law_elder","_law_one","_law_other","_law_due","_law_told","_law_three","_law_found","_law_name","_law_some","_law_records"],5,12⟩
abbrev D_zbh:Df:=⟨"law","law", top 53,["_law_script","_law_names_here","_law_kinds","_law_k","_law_some","_law_elder","_law_one","_law_other","_law_due","_law_told","_law_name"],1,13⟩
section
variable (K:ae) (t:Adr)
abbrev bs9:FI:=C1 at8 (t.m_zbm 0) (t.e_zbm 0) (ap0 K t)
abbrev be0:FI:=C1 at9 (t.m_zbm 1) (t.e_zbm 1) (ap1 K t)
abbrev a74:FI:=C1 V4 (t.m_zbm 2) (t.e_zbm 2) (U4 K t)
abbrev ax9:FI:=C1 au2 (t.m_zbm 3) (t.e_zbm 3) (ap5 K t)
abbrev Wv:FI:=C1 V5 (t.m_zbm 4) (t.e_zbm 4) (U5 K t)
abbrev bt2:FI:=C1 au3 (t.m_zbm 5) (t.e_zbm 5) (ap6 K t)
abbrev be1:FI:=C1 au7 (t.m_zbm 6) (t.e_zbm 6) (aq3 K t)
abbrev Tu:FI:=C1 au8 (t.m_zbm 7) (t.e_zbm 7) (aq4 K t)
abbrev Yz:FI:=C1 au0 (t.m_zbm 8) (t.e_zbm 8) (ap2 K t)
abbrev ay0:FI:=C1 au4 (t.m_zbm 9) (t.e_zbm 9) (ap7 K t)
abbrev Y0:FI:=C1 au9 (t.m_zbm 10) (t.e_zbm 10) (aq5 K t)
abbrev ax8:FI:=C1 at7 (t.m_zbm 11) (t.e_zbm 11) (ao8 K t)
abbrev a71:FI:=C1 V0 (t.m_zbm 12) (t.e_zbm 12) (Uw K t)
abbrev bt0:FI:=C1 Yd (t.m_zbm 13) (t.e_zbm 13) (ap3 K t)
abbrev bt1:FI:=C1 au1 (t.m_zbk 0) (t.e_zbk 0) (ap4 K t)
abbrev Et:FI:=C1 Su (t.m_zbk 1) (t.e_zbk 1) (Rz K t)
abbrev Fa:FI:=C1 Sw (t.m_zbk 2) (t.e_zbk 2) (Se K t)
abbrev bt3:FI:=C1 au5 (t.m_zbk 3) (t.e_zbk 3) (ap9 K t)
abbrev Hx:FI:=C1 Sv (t.m_zbo 0) (t.e_zbo 0) (Sc K t)
abbrev Gp:FI:=C1 Su (t.m_zbo 1) (t.e_zbo 1) (Rz K t)
abbrev Hy:FI:=C1 Sw (t.m_zbo 2) (t.e_zbo 2) (Se K t)
abbrev a73:FI:=C1 V3 (t.m_zbo 3) (t.e_zbo 3) (U3 K t)
abbrev Gq:FI:=C1 Sv (t.m_zbn 0) (t.e_zbn 0) (Sc K t)
abbrev bt4:FI:=C1 au6 (t.m_zbn 1) (t.e_zbn 1) (aq0 K t)
abbrev bt5:FI:=C1 av0 (t.m_zbn 2) (t.e_zbn 2) (aq6 K t)
abbrev a72:FI:=C1 V1 (t.m_zbn 3) (t.e_zbn 3) (Ux K t)
def i_zaa:FI:=⟨t.f_zaa,t.d_zaa,D_zaa.ps,1,ao9 K t,[],[]⟩
def Mo:List MI:=[⟨t.c_zbm,bs9 K t⟩]
def Gr:List MI:=[⟨t.c_zbm,be0 K t⟩]
def bf9:List MI:=[⟨t.c_zbm,a74 K t⟩]
def Le:List MI:=[⟨t.c_zbk,bt1 K t⟩,⟨t.c_zbo,Hx K t⟩,⟨t.c_zbn,Gq K t⟩]
def Jg:List MI:=[⟨t.c_zbk,Et K t⟩,⟨t.c_zbo,Gp K t⟩,⟨t.c_zbn,bt4 K t⟩]
def Gw:List MI:=[⟨t.c_zbm,ax9 K t⟩]
def Ud:List MI:=[⟨t.c_zbm,Wv K t⟩]
def Ue:List MI:=[⟨t.c_zbm,bt2 K t⟩]
def Rg:List MI:=[⟨t.c_zbm,be1 K t⟩]
def Ew:List MI:=[⟨t.c_zbm,Tu K t⟩]
def C5:List MI:=[⟨t.c_zbm,Yz K t⟩]
def Gx:List MI:=[⟨t.c_zbm,ay0 K t⟩]
def Lg:List MI:=[⟨t.c_zbk,Fa K t⟩,⟨t.c_zbo,Hy K t⟩,⟨t.c_zbn,bt5 K t⟩]
def Fw:List MI:=[⟨t.c_zbm,Y0 K t⟩]
def Dg:List MI:=[⟨t.c_zbm,ax8 K t⟩]
def az8:List MI:=[⟨t.c_zbm,a71 K t⟩]
def Pg:List MI:=[⟨t.c_zbk,bt3 K t⟩,⟨t.c_zbo,a73 K t⟩,⟨t.c_zbn,a72 K t⟩]
def Ie:List MI:=[⟨t.c_zbm,bt0 K t⟩]
def cons(n_zbl n_zbi n_zbj:Nat):List (Str×V):=[("TOP", (.str "")),("ROW_SIGN", .stk "/" n_zbj true),("CELL_SIGN", .stk "|" n_zbi true),("STROKE", .stk "\\" n_zbl true)]
def fns:List (Df×Sp):=[(bb4,Jz K t),(ab9,F7 K t),(aa2,U6 K t),(ab1,F6 K t),(bb5,Sa K t),(aa3,U7 K t),(Z5,Lw K t),(ab5,Ly K t),(ba8,X1 K t),(aa6,U8 K t),(aa7,U9 K t),(ab4,Ve K t),(ab2,Vc K t),(aa8,Va K t),(ab0,F5 K t),(ac1,Jm K t),(Z9,U1 K t),(aa9,Vb K t),(bb3,Ry K t),(bb2,Rx K t),(ab7,Jl K t),(bb0,aq1 K t),(ba9,ap8 K t),(bb1,aq2 K t),(ab8,Vg K t),(Z6,P6 K t),(ac0,Vh K t),(ab6,Vf K t),(Z8,Uz K t),(Z7,Uy K t),(ab3,Vd K t),(aa1,P8 K t),(aa4,Lx K t),(aa0,P7 K t)]
def bf6:List (Df×Sp):=[(at8,ap0 K t),(at9,ap1 K t),(V4,U4 K t),(au2,ap5 K t),(V5,U5 K t),(au3,ap6 K t),(au7,aq3 K t),(au8,aq4 K t),(au0,ap2 K t),(au4,ap7 K t),(au9,aq5 K t),(at7,ao8 K t),(V0,Uw K t),(Yd,ap3 K t)]
def bf5:List (Df×Sp):=[(au1,ap4 K t),(Su,Rz K t),(Sw,Se K t),(au5,ap9 K t)]
def bf8:List (Df×Sp):=[(Sv,Sc K t),(Su,Rz K t),(Sw,Se K t),(V3,U3 K t)]
def bf7:List (Df×Sp):=[(Sv,Sc K t),(au6,aq0 K t),(av0,aq6 K t),(V1,Ux K t)]
def A1:List Ent:=[⟨5,"record_key", .kfn (C1 V2 (t.f 34) (t.d 34) (U0 K t))⟩,⟨2,"Plain", .cls t.c_zbm (some (i_zaa K t))⟩,⟨1,"Chapter", .cls t.c_zbk none⟩,⟨1,"Para", .cls t.c_zbo none⟩,⟨1,"Table", .cls t.c_zbn none⟩,⟨1,"", .met "holds" (Le K t)⟩,⟨4,"", .met "joined" (Jg K t)⟩,⟨3,"", .met "shown" (Lg K t)⟩,⟨1,"", .met "word" (Pg K t)⟩,⟨7,"", .key "place_key" (Ie K t)⟩]++(bd2 t.u 0 (cons t.n_zbl t.n_zbi t.n_zbj)++(Y9 t.c_zbm t.m_zbm t.e_zbm 0 (bf6 K t)++(Y9 t.c_zbk t.m_zbk t.e_zbk 0 (bf5 K t)++(Y9 t.c_zbo t.m_zbo t.e_zbo 0 (bf8 K t)++(Y9 t.c_zbn t.m_zbn t.e_zbn 0 (bf7 K t)++(fnE t.f t.d 0 (fns K t)))))))
end
noncomputable abbrev v0_:DE:=Ac 0
noncomputable abbrev v1_:DE:=Ac 1
noncomputable abbrev v2_:DE:=Ac 2
noncomputable abbrev v3_:DE:=Ac 3
noncomputable abbrev v4_:DE:=Ac 4
noncomputable abbrev v5_:DE:=Ac 5
noncomputable abbrev v6_:DE:=Ac 6
noncomputable abbrev v7_:DE:=Ac 7
noncomputable abbrev v8_:DE:=Ac 8
noncomputable abbrev v9_:DE:=Ac 9
noncomputable abbrev v10_:DE:=Ac 10
noncomputable abbrev v11_:DE:=Ac 11
noncomputable abbrev m_(i:Int):DE:=dC (.int i)
noncomputable abbrev n_(a:DE):DA:=Aa a Ae
noncomputable abbrev o_(a b:DE):DA:=Aa a (n_ b)
noncomputable abbrev p_(a b c:DE):DA:=Aa a (o_ b c)
noncomputable abbrev q_(s:Sp)(a:DA):DE:=dFn (spE s []) a
noncomputable abbrev r_(r:RF)(a:DA):DE:=dFn (λvs H Q _=>r vs H Q) a
abbrev R_:=ae->Adr->DS
noncomputable def b78:R_:=λK t=>Af (dIf (Au (Ad Ut v1_ (r_ (Dm K) (n_ v0_)))) (Af (Ap (Ad (Ai K) v0_ v1_)) Ag) Ag) (Af (Ap (Ad (C8 K) (m_ 104730) v1_)) Ag)
noncomputable def b23:R_:=λK t=>Af (Aq 2 (Ad B0 (Ad (C8 K) (Ad (Az K) (Ad B0 v0_ (m_ 1000000007)) (Ad (C8 K) (m_ 7919) v1_)) (m_ 48271)) (m_ 2147483647))) (Af (Aq 2 (Ad B0 (Ad (C8 K) v2_ v2_) (m_ 2147483629))) (Af (Ap (Ad Cp (Ad B0 (Ad (C8 K) v2_ (Ad (Az K) v2_ (m_ 3))) (m_ 2147483587)) (m_ 32))) Ag))
noncomputable def L5:R_:=λK t=>Af (Ap v9_) Ag
noncomputable def M7:R_:=λK t=>Af (Da (Gv (n_ v1_)) (gdN 6) (Af (Aq 10 (Ad (Ai K) v2_ (Ad B0 (Ad (Az K) (q_ (F7 K t) (o_ v0_ (Ad (Az K) (m_ 41) v7_))) (Ad (C8 K) (m_ 5) v6_)) (m_ 37)))) (Af (Bj (dMt (rMt K [⟨"list","list.append", Be⟩]) v9_ (n_ (dMt (rMt K [⟨"str","str.join", Ij K⟩]) (dC (.str "")) (n_ (Ad (Az K) (Ad (Az K) (dSl K v5_ K0 (Bb v7_)) (As (n_ v10_))) (dSl K v5_ (Bb (Ad (Az K) v7_ (m_ 1))) (Bb v8_)))))))) Ag))) (L5 K t)
noncomputable def M6:R_:=λK t=>Af (Aq 9 (As Ae)) (M7 K t)
noncomputable def M5:R_:=λK t=>Af (Aq 8 (Ad (Az K) (Ad (Az K) v7_ (m_ 1)) (Ad B0 (Ad Cp v4_ (m_ 12)) (Ad a95 (m_ 12) v7_)))) (M6 K t)
noncomputable def M4:R_:=λK t=>Af (Aq 7 (Ad B0 v4_ (m_ 12))) (M5 K t)
noncomputable def M3:R_:=λK t=>Af (dIf (Au (Ad (A0 K false) (Ad B0 (q_ (F7 K t) (o_ v0_ (m_ 40))) (m_ 3)) (m_ 1))) (Af (Ap (By [none,some 4,some 3] (Gv (n_ v1_)) (gdN 0) De (Ad (Ai K) v2_ (Ad B0 (Ad (Az K) v1_ v0_) (m_ 12))))) Ag) Ag) (M4 K t)
noncomputable def M2:R_:=λK t=>Af (dIf (Au (Ad (A0 K false) (Ad B0 (q_ (F7 K t) (o_ v0_ (m_ 40))) (m_ 3)) (m_ 0))) (Af (Ap (By [none,some 5,some 4] (Gv (n_ v1_)) (gdN 0) De (dMt (rMt K [⟨"str","str.join", Ij K⟩]) (dC (.str "")) (n_ (dSl K v1_ K0 (Bb (Ad (Az K) (m_ 1) (Ad B0 (Ad (Az K) v2_ (Ad (C8 K) (m_ 5) v0_)) (m_ 12))))))))) Ag) Ag) (M3 K t)
noncomputable def M1:R_:=λK t=>Af (Aq 5 (By [none,some 0,some 2] (Gv (n_ (m_ 12))) (gdN 0) De (Ad (Ai K) v2_ (Ad B0 (q_ (F7 K t) (o_ v1_ (Ad (Az K) (m_ 41) v0_))) (m_ 37))))) (M2 K t)
noncomputable def M0:R_:=λK t=>Af (Aq 4 (Ad Cp (q_ (F7 K t) (o_ v0_ (m_ 40))) (m_ 3))) (M1 K t)
noncomputable def Mz:R_:=λK t=>Af (Aq 3 (As (Aa (dC (.str "chapter")) (Aa (dC (.str "para")) (Aa (dC (.str "table")) (Aa (dC (.str "top")) (Aa (dC (.str "1")) (Aa (dC (.str "10")) (Aa (dC (.str "2")) (Aa (dC (.str "a.")) (Aa (dC (.str ".")) (p_ (dC (.str "a")) (dC (.str "b")) (dC (.str "z9")))))))))))))) (M0 K t)
noncomputable def b07:R_:=λK t=>Af (Aq 2 (dC (.str "abcdefghijklmnopqrstuvwxyz0123456789."))) (Mz K t)
noncomputable def b15:R_:=λK t=>Af (dIf (Gk (Au (Ad (A0 K false) (Ad B0 v0_ (m_ 2)) (m_ 1))) (Au (Ad (Rq K true) (Ad an6 (Ad Cp v0_ (m_ 2)) (Ad (C8 K) (m_ 12) v1_)) (Bp (o_ (m_ 0) (dUn Xp (m_ 1))))))) (Af (Ap (Ad a90 (Ad an6 (Ad Cp v0_ (m_ 2)) (Ad (C8 K) (m_ 12) v1_)) (m_ 4095))) Ag) Ag) (Af (Ap (q_ (F7 K t) (o_ (Ad Cp v0_ (m_ 2)) v1_))) Ag)
noncomputable def Kd:R_:=λK t=>Af (Ap (r_ (Ep K) (n_ v4_))) Ag
noncomputable def Kc:R_:=λK t=>Af (Da (Gv (n_ (Ad (Az K) (m_ 1) (Ad B0 v3_ (m_ 2))))) (gdN 5) (Af (Aq 6 (As Ae)) (Af (Da (Gv (n_ (Ad (Az K) (m_ 1) (Ad B0 (Ad Cp v3_ (m_ 2)) (m_ 2))))) (gdN 7) (Af (Bj (dMt (rMt K [⟨"list","list.append", Be⟩]) v6_ (n_ (Ad (Ai K) (As (p_ (dC (.str "")) (dC (.str "x")) (dC (.str "y/|")))) (Ad B0 (Ad Cp v2_ (Ad (Ai K) (As (Aa (m_ 1) (p_ (m_ 3) (m_ 9) (m_ 27)))) (Ad (Az K) (Ad (C8 K) (m_ 2) v5_) v7_))) (m_ 3)))))) Ag)) (Af (Bj (dMt (rMt K [⟨"list","list.append", Be⟩]) v4_ (n_ (r_ (Ep K) (n_ v6_))))) Ag)))) (Kd K t)
noncomputable def Kb:R_:=λK t=>Af (Aq 4 (As Ae)) (Kc K t)
noncomputable def Ka:R_:=λK t=>Af (Aq 3 (Ad (Az K) (r_ (Dm K) (n_ v1_)) (r_ Zl (n_ (Ad (A0 K false) (Ad B0 (Ad Cp v2_ (m_ 81)) (m_ 6)) (m_ 5)))))) (Kb K t)
noncomputable def b79:R_:=λK t=>Af (dIf (Au (Ad (A0 K true) v0_ (dC (.str "table")))) (Af (Ap (Ad (Ai K) (As (Aa (dC (.str "")) (Aa (dC (.str "a")) (Aa (dC (.str "b")) (p_ (dC (.str " |~")) (Ad (C8 K) (dC (.str "a")) (m_ 60)) (dC (.str "10"))))))) (Ad B0 v2_ (m_ 6)))) Ag) Ag) (Ka K t)
noncomputable def b08:R_:=λK t=>Af (Aq 2 (r_ (Jk K true) (n_ v1_))) (Af (Aq 3 (As Ae)) (Af (Da (Gv (n_ (r_ (Dm K) (n_ v1_)))) (gdN 4) (Af (Bj (dMt (rMt K [⟨"list","list.append", Be⟩]) v3_ (n_ (dMt (rMt K [⟨"list","list.pop", an4⟩]) v2_ (n_ (Ad B0 (q_ (F6 K t) (o_ v0_ (Ad (Az K) (m_ 40) v4_))) (r_ (Dm K) (n_ v2_)))))))) Ag)) (Af (Ap v3_) Ag)))
noncomputable def Ma:R_:=λK t=>Af (Ap (Bp (Aa v6_ (p_ v8_ v9_ (q_ (Sa K t) (p_ v6_ v1_ (q_ (F6 K t) (o_ v2_ (Ad (Az K) (Ad (C8 K) (m_ 4) v3_) (m_ 2)))))))))) Ag
noncomputable def L9:R_:=λK t=>Af (Aq 9 (Ad (Ai K) (As (Aa (m_ 0) (p_ (m_ 1) (Ad B0 (Ad Cp v5_ (m_ 64)) (m_ 10)) (Ad a93 (m_ 10) (m_ 9))))) (Ad B0 (Ad Cp v5_ (m_ 16)) (m_ 4)))) (Ma K t)
noncomputable def L8:R_:=λK t=>Af (Aq 8 (Ad (Ai K) v7_ (Ad B0 (Ad Cp v5_ (m_ 4)) (r_ (Dm K) (n_ v7_))))) (L9 K t)
noncomputable def L7:R_:=λK t=>Af (Aq 7 (K1 (Ad (Az K) (As (n_ (dC (.str "")))) (By [none,some 0] (B9 K v0_) (gdN 0) (Au (Ad (A0 K false) (Ad (Ai K) (Ad (Ai K) v1_ v0_) (m_ 0)) (dC (.str "chapter")))) v0_)))) (L8 K t)
noncomputable def L6:R_:=λK t=>Af (Aq 6 (Ad (Ai K) v4_ (Ad B0 v5_ (m_ 4)))) (L7 K t)
noncomputable def bz6:R_:=λK t=>Af (Aq 5 (q_ (F6 K t) (o_ v2_ (Ad (Az K) (Ad (C8 K) (m_ 4) v3_) (m_ 1))))) (L6 K t)
noncomputable def Qk:R_:=λK t=>Af (Ap v4_) Ag
noncomputable def Qj:R_:=λK t=>Af (Da (B9 K (q_ (U7 K t) (o_ v0_ v1_))) (gdN 5) (Af (Aq 6 (dMt (rMt K [⟨"list","list.index", Us⟩]) v1_ (n_ v5_))) (Af (Aq 7 (Ad B0 (q_ (F6 K t) (o_ v0_ (Ad (Az K) (Ad (C8 K) (m_ 4) v6_) (m_ 3)))) (m_ 8))) (Af (Aq 8 (dMt (rMt K [⟨"dict","dict.get", Fb⟩]) v2_ (o_ v5_ (Bp (Aa (dC (.str "")) (p_ (dC (.str "none")) (m_ 0) (dC (.str "")))))))) (Af (Aq 9 (Nx K (Ad (Rq K false) v5_ v2_) (aw5 K (Ad (A0 K false) (Ad (Ai K) v8_ (m_ 1)) (dC (.str ""))) (Ad (A0 K false) (Ad (Ai K) (dMt (rMt K [⟨"dict","dict.get", Fb⟩]) v4_ (o_ (Ad (Ai K) v8_ (m_ 1)) (Bp (o_ (dC (.str "")) (dC (.str "")))))) (m_ 0)) (dC (.str "chapter")))))) (Af (dIf (Gk (D4 K v9_) (Au (Ad Ut v7_ (m_ 3)))) (Af (Dw v8_ (Dk K v4_ v5_)) Ag) (Af (dIf (Gk (D4 K v9_) (Au (Ad (A0 K false) v7_ (m_ 3)))) (Af (Dw (Bp (Aa (Ad (Ai K) v8_ (m_ 0)) (p_ (Ad (Ai K) v8_ (m_ 1)) (Ad (Az K) (Ad Cp (Ad (Ai K) v8_ (m_ 2)) (m_ 2)) (m_ 1)) (Ad (Ai K) v8_ (m_ 3))))) (Dk K v4_ v5_)) Ag) (Af (dIf (Gk (D4 K v9_) (Au (Ad (A0 K false) v7_ (m_ 4)))) (Af (Aq 10 (q_ (Sa K t) (p_ (Ad (Ai K) v8_ (m_ 0)) v5_ (q_ (F6 K t) (o_ v0_ (Ad (Az K) (Ad (C8 K) (m_ 4) v6_) (m_ 2))))))) (Af (Dw (Bp (Aa (Ad (Ai K) v8_ (m_ 0)) (p_ (Ad (Ai K) v8_ (m_ 1)) (Ad (Ai K) v8_ (m_ 2)) v10_))) (Dk K v4_ v5_)) Ag)) (Af (dIf (Au (Ad Ut v7_ (m_ 7))) (Af (Dw (q_ (Lw K t) (Aa v4_ (Aa v5_ (p_ v0_ v6_ v3_)))) (Dk K v4_ v5_)) Ag) Ag) Ag)) Ag)) Ag)) Ag)))))) (Qk K t)
noncomputable def b19:R_:=λK t=>Af (Aq 4 Jv) (Qj K t)
noncomputable def Fi:R_:=λK t=>Af (Ap (As (o_ (r_ (Ep K) (n_ v4_)) v5_))) Ag
noncomputable def Fh:R_:=λK t=>Af (Da (Gv (n_ (r_ (Dm K) (n_ v1_)))) (gdN 6) (Af (Aq 7 (As Ae)) (Af (Da (Gv (n_ (r_ (Dm K) (n_ (Ad (Ai K) v1_ (m_ 0)))))) (gdN 8) (Af (Dw (By [none,some 6,some 8] (B9 K (As (p_ v1_ v2_ v3_))) (gdN 0) De (Ad (Ai K) (Ad (Ai K) v0_ v1_) v2_)) (gdT K 3 [gdN 9,gdN 10,gdN 11])) (Af (dIf (Au (Ad (A0 K false) v10_ v9_)) (Af (Bj (dMt (rMt K [⟨"list","list.append", Be⟩]) v7_ (n_ v11_))) Ag) (Af (dIf (dOr (Au (Ad (A0 K false) v11_ v9_)) (Au (Ad (A0 K false) v11_ v10_))) (Af (Bj (dMt (rMt K [⟨"list","list.append", Be⟩]) v7_ (n_ v10_))) Ag) (Af (Bj (dMt (rMt K [⟨"list","list.append", Be⟩]) v7_ (n_ v9_))) (Af (Bj (dMt (rMt K [⟨"list","list.append", Be⟩]) v5_ (n_ (Ad (Az K) (Ad (Az K) (Ad (Az K) (dC (.str "cell ")) (r_ Lq (n_ v6_))) (dC (.str " "))) (r_ Lq (n_ v8_)))))) Ag))) Ag)) Ag))) (Af (Bj (dMt (rMt K [⟨"list","list.append", Be⟩]) v4_ (n_ (r_ (Ep K) (n_ v7_))))) Ag)))) (Fi K t)
noncomputable def Fg:R_:=λK t=>Af (Aq 5 (As Ae)) (Fh K t)
noncomputable def Ff:R_:=λK t=>Af (Aq 4 (As Ae)) (Fg K t)
noncomputable def Fe:R_:=λK t=>Af (dIf (dOr (Au (Ad (A0 K true) (r_ (Dm K) (n_ (Ad (Ai K) v2_ (m_ 0)))) (r_ (Dm K) (n_ (Ad (Ai K) v1_ (m_ 0)))))) (Au (Ad (A0 K true) (r_ (Dm K) (n_ (Ad (Ai K) v3_ (m_ 0)))) (r_ (Dm K) (n_ (Ad (Ai K) v1_ (m_ 0))))))) (Af (Ap (As (o_ v1_ (As (n_ (dC (.str "content"))))))) Ag) Ag) (Ff K t)
noncomputable def Fd:R_:=λK t=>Af (dIf (dOr (Au (Ad (A0 K true) v0_ (dC (.str "table")))) (dOr (Au (Ad (A0 K true) (r_ (Dm K) (n_ v2_)) (r_ (Dm K) (n_ v1_)))) (Au (Ad (A0 K true) (r_ (Dm K) (n_ v3_)) (r_ (Dm K) (n_ v1_)))))) (Af (Ap (As (o_ v1_ (As (n_ (dC (.str "content"))))))) Ag) Ag) (Fe K t)
noncomputable def Fc:R_:=λK t=>Af (dIf (Au (Ad (A0 K false) v2_ v1_)) (Af (Ap (As (o_ v3_ (As Ae)))) Ag) Ag) (Fd K t)
noncomputable def b57:R_:=λK t=>Af (dIf (dOr (Au (Ad (A0 K false) v2_ v3_)) (Au (Ad (A0 K false) v3_ v1_))) (Af (Ap (As (o_ v2_ (As Ae)))) Ag) Ag) (Fc K t)
noncomputable def b10:R_:=λK t=>Af (dIf (D4 K (r_ (Rr K) (o_ v0_ (dC (.ty "str"))))) (Af (Ap v0_) Ag) Ag) (Af (Aq 1 (By [none] (B9 K v0_) (gdN 0) De (By [none] (B9 K v0_) (gdN 0) De (dMt (rMt K [⟨"str","str.join", Ij K⟩]) (dC (.str "")) (n_ (By [none] (B9 K v0_) (gdN 0) De (Ad (Az K) (Ad (C8 K) (dC (.str "\\")) (r_ Zl (n_ (Ad (Rq K false) v0_ (dC (.str "\\|/")))))) v0_))))))) (Af (Ap (dMt (rMt K [⟨"str","str.join", Ij K⟩]) (dC (.str "/")) (n_ (By [none] (B9 K v1_) (gdN 0) De (dMt (rMt K [⟨"str","str.join", Ij K⟩]) (dC (.str "|")) (n_ v0_)))))) Ag))
noncomputable def Nh:R_:=λK t=>Af (Ap (As (o_ (Bp (Aa (Ad (Ai K) v0_ (m_ 0)) (p_ (Ad (Ai K) v4_ (m_ 0)) (Ad (Ai K) v4_ (m_ 1)) v6_))) (Ad (Az K) v5_ v7_)))) Ag
noncomputable def Ng:R_:=λK t=>Af (Dw (q_ (X1 K t) (Aa (Ad (Ai K) v0_ (m_ 0)) (p_ (Ad (Ai K) v0_ (m_ 3)) (Ad (Ai K) v1_ (m_ 3)) (Ad (Ai K) v2_ (m_ 3))))) (gdT K 2 [gdN 6,gdN 7])) (Nh K t)
noncomputable def Nf:R_:=λK t=>Af (dIf (Au (Ad (A0 K false) (dSl K v1_ (Bb (m_ 1)) (Bb (m_ 3))) (dSl K v0_ (Bb (m_ 1)) (Bb (m_ 3))))) (Af (Aq 4 (dSl K v2_ (Bb (m_ 1)) (Bb (m_ 3)))) Ag) (Af (dIf (Gk (Au (Ad (A0 K true) (dSl K v1_ (Bb (m_ 1)) (Bb (m_ 3))) (dSl K v2_ (Bb (m_ 1)) (Bb (m_ 3))))) (Au (Ad (A0 K true) (dSl K v2_ (Bb (m_ 1)) (Bb (m_ 3))) (dSl K v0_ (Bb (m_ 1)) (Bb (m_ 3)))))) (Af (Aq 4 (dSl K v0_ (Bb (m_ 1)) (Bb (m_ 3)))) (Af (Aq 5 (As (n_ (dC (.str "place"))))) Ag)) Ag) Ag)) (Ng K t)
noncomputable def Nd:R_:=λK t=>Af (Aq 5 (As Ae)) (Nf K t)
noncomputable def Nc:R_:=λK t=>Af (Aq 4 (dSl K v1_ (Bb (m_ 1)) (Bb (m_ 3)))) (Nd K t)
noncomputable def Nb:R_:=λK t=>Af (dIf (dOr (Au (Ad (A0 K true) (Ad (Ai K) v1_ (m_ 0)) (Ad (Ai K) v0_ (m_ 0)))) (Au (Ad (A0 K true) (Ad (Ai K) v2_ (m_ 0)) (Ad (Ai K) v0_ (m_ 0))))) (Af (Ap (As (o_ v0_ (As (n_ (dC (.str "kind"))))))) Ag) Ag) (Nc K t)
noncomputable def Na:R_:=λK t=>Af (dIf (dOr (Au (Ad (Lp false) v1_ (dC .non))) (Au (Ad (Lp false) v2_ (dC .non)))) (Af (Ap (As (o_ (Ad (Ai K) (As (o_ v2_ v1_)) (r_ Zl (n_ (Ad (Lp false) v2_ (dC .non))))) (As (n_ (dC (.str "gone"))))))) Ag) Ag) (Nb K t)
noncomputable def M9:R_:=λK t=>Af (dIf (Au (Ad (Lp false) v0_ (dC .non))) (Af (Aq 3 (r_ (E7 K true) (n_ (K1 (By [none] (B9 K (As (o_ v1_ v2_))) (gdN 0) De (Bp (Aa (Ad (Ai K) v0_ (m_ 0)) (Aa (Ad (Ai K) v0_ (m_ 1)) (p_ (Ad (Ai K) v0_ (m_ 2)) (q_ (U8 K t) (n_ (Ad (Ai K) v0_ (m_ 3)))) v0_))))))))) (Af (Ap (As (o_ (Ad (Ai K) (Ad (Ai K) v3_ (m_ 0)) (m_ 4)) (As (n_ (dC (.str "both"))))))) Ag)) Ag) (Na K t)
noncomputable def M8:R_:=λK t=>Af (dIf (Au (Ad (A0 K false) v1_ v0_)) (Af (Ap (As (o_ v2_ (As Ae)))) Ag) Ag) (M9 K t)
noncomputable def b11:R_:=λK t=>Af (dIf (dOr (Au (Ad (A0 K false) v1_ v2_)) (Au (Ad (A0 K false) v2_ v0_))) (Af (Ap (As (o_ v1_ (As Ae)))) Ag) Ag) (M8 K t)
noncomputable def b18:R_:=λK t=>Af (Aq 2 (Ad (Ai K) (Ad (Ai K) v0_ v1_) (m_ 1))) (Af (Da (Gv (n_ (r_ (Dm K) (n_ v0_)))) (gdN 3) (Af (dIf (dOr (Au (Ad (A0 K false) v2_ (dC (.str "")))) (Au (Ad (A0 K false) v2_ v1_))) (Af (Ap (Ad (A0 K false) v2_ v1_)) Ag) Ag) (Af (Aq 2 (Ad (Ai K) (Ad (Ai K) v0_ v2_) (m_ 1))) Ag))) (Af (Ap (dC (.bl false))) Ag))
noncomputable def Qi:R_:=λK t=>Af (Ap (As (o_ v3_ (r_ (E7 K true) (n_ (K1 (Ad (Az K) v4_ (By [none] (B9 K v8_) (gdN 0) De (Bp (o_ v0_ (dC (.str "loose")))))))))))) Ag
noncomputable def Qh:R_:=λK t=>Af (Da (B9 K (r_ (E7 K true) (n_ v3_))) (gdN 5) (Af (dIf (D4 K (q_ (Ve K t) (o_ v3_ v5_))) (Af (Bj (dMt (rMt K [⟨"list","list.append", Be⟩]) v8_ (n_ v5_))) (Af (Dw (Bp (Aa (Ad (Ai K) (Ad (Ai K) v3_ v5_) (m_ 0)) (p_ (dC (.str "")) (Ad (Ai K) (Ad (Ai K) v3_ v5_) (m_ 2)) (Ad (Ai K) (Ad (Ai K) v3_ v5_) (m_ 3))))) (Dk K v3_ v5_)) Ag)) Ag) Ag)) (Qi K t)
noncomputable def Qg:R_:=λK t=>Af (Da (B9 K v8_) (gdN 5) (Af (Dw (Bp (Aa (Ad (Ai K) (Ad (Ai K) v3_ v5_) (m_ 0)) (p_ (dC (.str "")) (Ad (Ai K) (Ad (Ai K) v3_ v5_) (m_ 2)) (Ad (Ai K) (Ad (Ai K) v3_ v5_) (m_ 3))))) (Dk K v3_ v5_)) Ag)) (Qh K t)
noncomputable def Qf:R_:=λK t=>Af (Da (B9 K v3_) (gdN 5) (Af (Aq 9 (Ad (Ai K) (Ad (Ai K) v3_ v5_) (m_ 1))) (Af (dIf (Gk (Au (Ad (A0 K true) v9_ (dC (.str "")))) (Au (Ad (A0 K true) (Ad (Ai K) (dMt (rMt K [⟨"dict","dict.get", Fb⟩]) v3_ (o_ v9_ (Bp (o_ (dC (.str "")) (dC (.str "")))))) (m_ 0)) (dC (.str "chapter"))))) (Af (Bj (dMt (rMt K [⟨"list","list.append", Be⟩]) v8_ (n_ v5_))) Ag) Ag) Ag))) (Qg K t)
noncomputable def Qe:R_:=λK t=>Af (Aq 8 (As Ae)) (Qf K t)
noncomputable def Qd:R_:=λK t=>Af (Da (B9 K (dUn (Ik K) (Ad (Az K) (Ad (Az K) (r_ (Jk K true) (n_ v0_)) (r_ (Jk K true) (n_ v1_))) (r_ (Jk K true) (n_ v2_))))) (gdN 5) (Af (Dw (q_ (U9 K t) (p_ (dMt (rMt K [⟨"dict","dict.get", Fb⟩]) v0_ (o_ v5_ (dC .non))) (dMt (rMt K [⟨"dict","dict.get", Fb⟩]) v1_ (o_ v5_ (dC .non))) (dMt (rMt K [⟨"dict","dict.get", Fb⟩]) v2_ (o_ v5_ (dC .non))))) (gdT K 2 [gdN 6,gdN 7])) (Af (Bj (dMt (rMt K [⟨"list","list.extend", Gi⟩]) v4_ (n_ (By [none,some 5] (B9 K v7_) (gdN 0) De (Bp (o_ v1_ v0_)))))) (Af (dIf (Au (Ad (Lp true) v6_ (dC .non))) (Af (Dw v6_ (Dk K v3_ v5_)) Ag) Ag) Ag)))) (Qe K t)
noncomputable def Qc:R_:=λK t=>Af (Aq 4 (As Ae)) (Qd K t)
noncomputable def b16:R_:=λK t=>Af (Aq 3 Jv) (Qc K t)
noncomputable def b76:R_:=λK t=>Af (dIf (Au (Ad (Rq K true) v1_ (dUn (Gs K "records") v0_))) (Af Cl Ag) Ag) (Af (Ap (Ad (Ai K) (dUn (Gs K "records") v0_) v1_)) Ag)
noncomputable def b75:R_:=λK t=>Af (Ap (r_ (E7 K true) (n_ (dUn (Gs K "records") v0_)))) Ag
noncomputable def b60:R_:=λK t=>Af (Ap (Ad (Ai K) (Bw "state" 1 (Fw K t) v0_ (n_ v1_)) (m_ 1))) Ag
noncomputable def b65:R_:=λK t=>Af (Ap (Ad (Ai K) (Bw "state" 1 (Fw K t) v0_ (n_ v1_)) (m_ 2))) Ag
noncomputable def b61:R_:=λK t=>Af (Ap (Bp (o_ (Bw "rank_of" 1 (Gx K t) v0_ (n_ v1_)) v1_))) Ag
noncomputable def b58:R_:=λK t=>Af (Aq 1 Jv) (Af (Da (B9 K (ad4 K "place_key" (Ie K t) (dUn (Gs K "records") v0_) v0_)) (gdN 2) (Af (Bj (dMt (rMt K [⟨"list","list.append", Be⟩]) (dMt (rMt K [⟨"dict","dict.setdefault", Rt⟩]) v1_ (o_ (Bw "parent_of" 1 (C5 K t) v0_ (n_ v2_)) (As Ae))) (n_ v2_))) Ag)) (Af (Ap v1_) Ag))
noncomputable def bz4:R_:=λK t=>Af (Aq 2 (Bw "all_unders" 0 (Mo K t) v0_ Ae)) (Af (Aq 3 (As Ae)) (Af (Aq 4 (By [none] (ax7 K (dMt (rMt K [⟨"dict","dict.get", Fb⟩]) v2_ (o_ v1_ (As Ae)))) (gdN 0) De (Bp (o_ (m_ 1) v0_)))) (Af (Ix (Au (Ad (A0 K true) v4_ (As Ae))) (Af (Aq 5 (dMt (rMt K [⟨"list","list.pop", an4⟩]) v4_ Ae)) (Af (Bj (dMt (rMt K [⟨"list","list.append", Be⟩]) v3_ (n_ v5_))) (Af (Bj (dMt (rMt K [⟨"list","list.extend", Gi⟩]) v4_ (n_ (By [none,some 5] (ax7 K (dMt (rMt K [⟨"dict","dict.get", Fb⟩]) v2_ (o_ (Ad (Ai K) v5_ (m_ 1)) (As Ae)))) (gdN 0) De (Bp (o_ (Ad (Az K) (Ad (Ai K) v1_ (m_ 0)) (m_ 1)) v0_)))))) Ag)))) (Af (Ap v3_) Ag))))
noncomputable def b63:R_:=λK t=>Af (Ap (Ad (Ai K) (Bw "state" 1 (Fw K t) v0_ (n_ v1_)) (m_ 0))) Ag
noncomputable def b59:R_:=λK t=>Af (Ap (Ad (Ai K) (Bw "state" 1 (Fw K t) v0_ (n_ v1_)) (m_ 3))) Ag
noncomputable def b64:R_:=λK t=>Af (Ap (Bp (Aa v1_ (Aa v2_ (p_ (Bw "kind_of" 1 (Gw K t) v0_ (n_ v2_)) (Bw "rank_of" 1 (Gx K t) v0_ (n_ v2_)) (Bw "content_of" 1 (Gr K t) v0_ (n_ v2_))))))) Ag
noncomputable def b74:R_:=λK t=>Af (Ap (By [none,none,some 0] (B9 K (Bw "walk" 1 (az8 K t) v0_ (n_ (dC (.str ""))))) (gdT K 2 [gdN 0,gdN 1]) De (Bw "line_of" 2 (Ue K t) v2_ (o_ v0_ v1_)))) Ag
noncomputable def bz3:R_:=λK t=>Af (bd4 K "records" v0_ Jv) Ag
noncomputable def b56:R_:=λK t=>Af (Ap (dMt (rMt K [⟨"dict","dict.get", Fb⟩]) (dUn (Gs K "records") v0_) (n_ v1_))) Ag
noncomputable def b04:R_:=λK t=>Af (Dw (Bp (Aa v2_ (p_ v3_ v4_ v5_))) (Dk K (dUn (Gs K "records") v0_) v1_)) Ag
noncomputable def b12:R_:=λK t=>Af (dIf (Au (Ad (Lp true) v2_ (dC .non))) (Af (Bj (Bw "lay" 5 (Ud K t) v0_ (Aa v1_ (Aa (Ad (Ai K) v2_ (m_ 0)) (p_ (Ad (Ai K) v2_ (m_ 1)) (Ad (Ai K) v2_ (m_ 2)) (Ad (Ai K) v2_ (m_ 3))))))) Ag) Ag) Ag
noncomputable def b14:R_:=λK t=>Af (Ap (Nx K (Ad (A0 K true) v1_ v2_) (Nx K (Ad (A0 K true) v1_ v0_) (Ad (A0 K true) v2_ v0_)))) Ag
noncomputable def b25:R_:=λK t=>Af (dIf (D4 K (q_ (F5 K t) (p_ v0_ v1_ v2_))) (Af (Ap v0_) Ag) Ag) (Af (Ap (aw4 (Au (Ad (A0 K false) v1_ v0_)) v2_ v1_)) Ag)
noncomputable def b81:R_:=λK t=>Af (Ap v1_) Ag
noncomputable def b01:R_:=λK t=>Af (Aq 1 v0_) (Af (Da (B9 K (Bp (p_ (dC (.stk "\\" t.n_zbl true)) (dC (.stk "|" t.n_zbi true)) (dC (.stk "/" t.n_zbj true))))) (gdN 2) (Af (Aq 1 (dMt (rMt K [⟨"str","str.replace", Pz⟩]) v1_ (o_ v2_ (Ad (Az K) (dC (.stk "\\" t.n_zbl true)) v2_)))) Ag)) (Af (Ap v1_) Ag))
noncomputable def b13:R_:=λK t=>Af (Ap (dMt (rMt K [⟨"str","str.join", Ij K⟩]) (dC (.stk "|" t.n_zbi true)) (n_ (By [none] (B9 K v0_) (gdN 0) De (q_ (U1 K t) (n_ v0_)))))) Ag
noncomputable def b77:R_:=λK t=>Af (Ap (dMt (rMt K [⟨"str","str.join", Ij K⟩]) (dC (.stk "/" t.n_zbj true)) (n_ (By [none] (B9 K v1_) (gdN 0) De (q_ (Vb K t) (n_ v0_)))))) Ag
noncomputable def b67:R_:=λK t=>Af (Ap (dC (.str "chapter"))) Ag
noncomputable def b02:R_:=λK t=>Af (Ap (dC (.str "para"))) Ag
noncomputable def bz5:R_:=λK t=>Af (Ap (dC (.str "table"))) Ag
noncomputable def b72:R_:=λK t=>Af (dIf (O1 (D4 K (r_ (Rr K) (o_ v0_ (dC (.ty "str")))))) (Af (Ap (dC .non)) Ag) Ag) (Af (Da (B9 K (As (p_ (dFn (mkC t.c_zbk none 0) Ae) (dFn (mkC t.c_zbo none 0) Ae) (dFn (mkC t.c_zbn none 0) Ae)))) (gdN 1) (Af (dIf (Au (Ad (A0 K false) (Bw "word" 0 (Pg K t) v1_ Ae) v0_)) (Af (Ap v1_) Ag) Ag) Ag)) (Af (Ap (dC .non)) Ag))
noncomputable def b00:R_:=λK t=>Af (Ap (Bp (Aa (Ad (Ai K) v0_ (m_ 0)) (p_ (Ad (Ai K) v0_ (m_ 1)) (Ad (Ai K) v0_ (m_ 2)) (Bw "shown" 1 (Lg K t) (q_ (Ry K t) (n_ (Ad (Ai K) v0_ (m_ 0)))) (n_ (Ad (Ai K) v0_ (m_ 3)))))))) Ag
noncomputable def b71:R_:=λK t=>Af (dIf (D4 K (q_ (F5 K t) (p_ v0_ v1_ v2_))) (Af (Ap (Bp (o_ v0_ (As (n_ (dC (.str "content"))))))) Ag) Ag) (Af (Ap (Bp (o_ (q_ (Jm K t) (p_ v0_ v1_ v2_)) (As Ae)))) Ag)
noncomputable def b73:R_:=λK t=>Af (Ap (q_ (Rx K t) (p_ v1_ v2_ v3_))) Ag
noncomputable def b21:R_:=λK t=>Af (Ap (Bp (o_ (r_ (Dm K) (n_ v0_)) (r_ (Dm K) (n_ (Ad (Ai K) v0_ (m_ 0))))))) Ag
noncomputable def Jp:R_:=λK t=>Af (Ap (Bp (o_ (r_ (Ep K) (n_ v3_)) v4_))) Ag
noncomputable def Jo:R_:=λK t=>Af (Da (Gv (n_ (r_ (Dm K) (n_ v0_)))) (gdN 5) (Af (Aq 6 (As Ae)) (Af (Da (Gv (n_ (r_ (Dm K) (n_ (Ad (Ai K) v0_ v5_))))) (gdN 7) (Af (Aq 8 (Bp (p_ (Ad (Ai K) (Ad (Ai K) v0_ v5_) v7_) (Ad (Ai K) (Ad (Ai K) v1_ v5_) v7_) (Ad (Ai K) (Ad (Ai K) v2_ v5_) v7_)))) (Af (Bj (dMt (rMt K [⟨"list","list.append", Be⟩]) v6_ (n_ (q_ (Jm K t) (p_ (Ad (Ai K) v8_ (m_ 0)) (Ad (Ai K) v8_ (m_ 1)) (Ad (Ai K) v8_ (m_ 2))))))) (Af (dIf (D4 K (q_ (F5 K t) (p_ (Ad (Ai K) v8_ (m_ 0)) (Ad (Ai K) v8_ (m_ 1)) (Ad (Ai K) v8_ (m_ 2))))) (Af (Bj (dMt (rMt K [⟨"list","list.append", Be⟩]) v4_ (n_ (Wm bU [(dC (.str "cell ")),(dUn a36 (Ac 5)),(dC (.str " ")),(dUn a36 (Ac 7))])))) Ag) Ag) Ag)))) (Af (Bj (dMt (rMt K [⟨"list","list.append", Be⟩]) v3_ (n_ (r_ (Ep K) (n_ v6_))))) Ag)))) (Jp K t)
noncomputable def Jn:R_:=λK t=>Af (Aq 4 (As Ae)) (Jo K t)
noncomputable def b69:R_:=λK t=>Af (Aq 3 (As Ae)) (Jn K t)
noncomputable def b68:R_:=λK t=>Af (dIf (Gk (D4 K (q_ (F5 K t) (p_ v1_ v2_ v3_))) (Gk (Au (Ad (A0 K false) (q_ (Jl K t) (n_ v2_)) (q_ (Jl K t) (n_ v1_)))) (Au (Ad (A0 K false) (q_ (Jl K t) (n_ v3_)) (q_ (Jl K t) (n_ v1_)))))) (Af (Ap (q_ (aq1 K t) (p_ v1_ v2_ v3_))) Ag) Ag) (Af (Ap (q_ (Rx K t) (p_ v1_ v2_ v3_))) Ag)
noncomputable def b66:R_:=λK t=>Af (Aq 3 (q_ (Jm K t) (p_ (dSl K v0_ (Bb (m_ 1)) (Bb (m_ 3))) (dSl K v1_ (Bb (m_ 1)) (Bb (m_ 3))) (dSl K v2_ (Bb (m_ 1)) (Bb (m_ 3)))))) (Af (Aq 4 (aw4 (D4 K (q_ (F5 K t) (p_ (dSl K v0_ (Bb (m_ 1)) (Bb (m_ 3))) (dSl K v1_ (Bb (m_ 1)) (Bb (m_ 3))) (dSl K v2_ (Bb (m_ 1)) (Bb (m_ 3)))))) (As (n_ (dC (.str "place")))) (As Ae))) (Af (Aq 5 (Bw "joined" 3 (Jg K t) (q_ (Ry K t) (n_ (Ad (Ai K) v0_ (m_ 0)))) (p_ (Ad (Ai K) v0_ (m_ 3)) (Ad (Ai K) v1_ (m_ 3)) (Ad (Ai K) v2_ (m_ 3))))) (Af (Ap (Bp (o_ (Bp (Aa (Ad (Ai K) v0_ (m_ 0)) (p_ (Ad (Ai K) v3_ (m_ 0)) (Ad (Ai K) v3_ (m_ 1)) (Ad (Ai K) v5_ (m_ 0))))) (Ad (Az K) v4_ (Ad (Ai K) v5_ (m_ 1)))))) Ag)))
noncomputable def Ju:R_:=λK t=>Af (Ap (q_ (ap8 K t) (p_ v0_ v1_ v2_))) Ag
noncomputable def Jt:R_:=λK t=>Af (dIf (dOr (Au (Ad (A0 K true) (Ad (Ai K) v1_ (m_ 0)) (Ad (Ai K) v0_ (m_ 0)))) (Au (Ad (A0 K true) (Ad (Ai K) v2_ (m_ 0)) (Ad (Ai K) v0_ (m_ 0))))) (Af (Ap (Bp (o_ v0_ (As (n_ (dC (.str "kind"))))))) Ag) Ag) (Ju K t)
noncomputable def Js:R_:=λK t=>Af (dIf (Au (Ad (Lp false) v2_ (dC .non))) (Af (Ap (Bp (o_ v1_ (As (n_ (dC (.str "gone"))))))) Ag) Ag) (Jt K t)
noncomputable def Jr:R_:=λK t=>Af (dIf (Au (Ad (Lp false) v1_ (dC .non))) (Af (Ap (Bp (o_ v2_ (As (n_ (dC (.str "gone"))))))) Ag) Ag) (Js K t)
noncomputable def Jq:R_:=λK t=>Af (dIf (Au (Ad (Lp false) v0_ (dC .non))) (Af (Ap (Bp (o_ (ad3 K (U0 K t) (As (o_ v1_ v2_))) (As (n_ (dC (.str "both"))))))) Ag) Ag) (Jr K t)
noncomputable def b70:R_:=λK t=>Af (dIf (O1 (D4 K (q_ (F5 K t) (p_ v0_ v1_ v2_)))) (Af (Ap (Bp (o_ (q_ (Jm K t) (p_ v0_ v1_ v2_)) (As Ae)))) Ag) Ag) (Jq K t)
noncomputable def b03:R_:=λK t=>Af (Ap (Ad (Rq K false) v1_ (dUn (Gs K "records") v0_))) Ag
noncomputable def b80:R_:=λK t=>Af (Ap (dC (.bl false))) Ag
noncomputable def b62:R_:=λK t=>Af (Ap (dC (.bl true))) Ag
noncomputable def b22:R_:=λK t=>Af (Ap (aw5 K (Ad (A0 K false) v1_ (dC (.str ""))) (Nx K (Bw "has" 1 (bf9 K t) v0_ (n_ v1_)) (Bw "holds" 0 (Le K t) (q_ (Ry K t) (n_ (Bw "kind_of" 1 (Gw K t) v0_ (n_ v1_)))) Ae)))) Ag
noncomputable def bz7:R_:=λK t=>Af (Da (B9 K v1_) (gdN 2) (Af (Bj (Bw "lay" 5 (Ud K t) v0_ (Aa v2_ (Aa (Bw "kind_of" 1 (Gw K t) v0_ (n_ v2_)) (p_ (dC (.str "")) (Bw "rank_of" 1 (Gx K t) v0_ (n_ v2_)) (Bw "content_of" 1 (Gr K t) v0_ (n_ v2_))))))) Ag)) Ag
noncomputable def b24:R_:=λK t=>Af (Aq 2 (As (n_ v1_))) (Af (Aq 3 (Bw "parent_of" 1 (C5 K t) v0_ (n_ v1_))) (Af (Ix (Au (Ad (A0 K true) v3_ v1_)) (Af (Bj (dMt (rMt K [⟨"list","list.append", Be⟩]) v2_ (n_ v3_))) (Af (Aq 3 (Bw "parent_of" 1 (C5 K t) v0_ (n_ v3_))) Ag))) (Af (Ap v2_) Ag)))
noncomputable def b20:R_:=λK t=>Af (Aq 1 (As Ae)) (Af (Aq 2 Jv) (Af (Da (B9 K (Bw "names" 0 (Ew K t) v0_ Ae)) (gdN 3) (Af (Aq 4 v3_) (Af (Ix (Gk (Au (Ad (A0 K true) v4_ (dC (.str "")))) (Au (Ad (Rq K true) v4_ v2_))) (Af (Dw v3_ (Dk K v2_ v4_)) (Af (Aq 4 (Bw "parent_of" 1 (C5 K t) v0_ (n_ v4_))) Ag))) (Af (dIf (Gk (Au (Ad (A0 K true) v4_ (dC (.str "")))) (Au (Ad (A0 K false) (Ad (Ai K) v2_ v4_) v3_))) (Af (Bj (dMt (rMt K [⟨"list","list.append", Be⟩]) v1_ (n_ (q_ (Vh K t) (o_ v0_ v4_))))) Ag) Ag) Ag)))) (Af (Ap v1_) Ag)))
noncomputable def bz9:R_:=λK t=>Af (Aq 1 (By [none,some 0] (B9 K (Bw "names" 0 (Ew K t) v0_ Ae)) (gdN 0) (O1 (D4 K (q_ (Vg K t) (o_ v1_ (Bw "parent_of" 1 (C5 K t) v1_ (n_ v0_)))))) v0_)) (Af (Bj (q_ (P6 K t) (o_ v0_ v1_))) (Af (Aq 2 (By [none] (B9 K (q_ (Vf K t) (n_ v0_))) (gdN 0) De (r_ (an0 K) (n_ v0_)))) (Af (Bj (q_ (P6 K t) (o_ v0_ v2_))) (Af (Ap (Ad (Az K) v1_ v2_)) Ag))))
noncomputable def Me:R_:=λK t=>Af (Ap (Bp (o_ v3_ (r_ (E7 K true) (n_ v4_))))) Ag
noncomputable def Md:R_:=λK t=>Af (Bj (dMt (rMt K [⟨"list","list.extend", Gi⟩]) v4_ (n_ (By [none] (B9 K (q_ (Uz K t) (n_ v3_))) (gdN 0) De (Bp (o_ v0_ (dC (.str "loose")))))))) (Me K t)
noncomputable def Mc:R_:=λK t=>Af (Da (B9 K (dUn (Ik K) (Ad (Az K) (Ad (Az K) (Bw "names" 0 (Ew K t) v0_ Ae) (Bw "names" 0 (Ew K t) v1_ Ae)) (Bw "names" 0 (Ew K t) v2_ Ae)))) (gdN 5) (Af (Aq 6 (q_ (aq2 K t) (p_ (Bw "state_or_none" 1 (Dg K t) v0_ (n_ v5_)) (Bw "state_or_none" 1 (Dg K t) v1_ (n_ v5_)) (Bw "state_or_none" 1 (Dg K t) v2_ (n_ v5_))))) (Af (Bj (q_ (Va K t) (p_ v3_ v5_ (Ad (Ai K) v6_ (m_ 0))))) (Af (Bj (dMt (rMt K [⟨"list","list.extend", Gi⟩]) v4_ (n_ (By [none,some 5] (B9 K (Ad (Ai K) v6_ (m_ 1))) (gdN 0) De (Bp (o_ v1_ v0_)))))) Ag)))) (Md K t)
noncomputable def Mb:R_:=λK t=>Af (Aq 4 (As Ae)) (Mc K t)
noncomputable def bz8:R_:=λK t=>Af (Aq 3 (dFn (mkC t.c_zbm (some (i_zaa K t)) 0) Ae)) (Mb K t)
noncomputable def b17:R_:=λK t=>Af (Aq 2 (As Ae)) (Af (Ix (Au (Ad (A0 K true) v1_ (dC (.str "")))) (Af (Dw (Ad (Ai K) v0_ v1_) (gdT K 4 [gdN 3,gdN 4,gdN 5,gdN 6])) (Af (Bj (dMt (rMt K [⟨"list","list.insert", Pw⟩]) v2_ (o_ (m_ 0) (Bp (p_ v5_ v1_ v3_))))) (Af (Aq 1 v4_) Ag)))) (Af (Ap (r_ (Ep K) (n_ v2_))) Ag))
noncomputable def b06:R_:=λK t=>Af (Aq 1 (r_ (E7 K true) (n_ (K1 (By [none,some 0] (B9 K v0_) (gdN 0) De (Bp (o_ (q_ (Vd K t) (o_ v1_ v0_)) v0_))))))) (Af (Ap (By [none,none,some 0] (B9 K v1_) (gdT K 2 [gdN 0,gdN 1]) De (Bp (Aa (r_ (Dm K) (n_ v0_)) (Aa v1_ (p_ (Ad (Ai K) (Ad (Ai K) v2_ v1_) (m_ 0)) (Ad (Ai K) (Ad (Ai K) v2_ v1_) (m_ 2)) (Ad (Ai K) (Ad (Ai K) v2_ v1_) (m_ 3)))))))) Ag)
noncomputable def b09:R_:=λK t=>Af (Aq 1 (dFn (mkC t.c_zbm (some (i_zaa K t)) 0) Ae)) (Af (Da (bd9 v0_) (gdT K 2 [gdN 2,gdN 3]) (Af (Bj (Bw "lay" 5 (Ud K t) v1_ (Aa v2_ (Aa (Ad (Ai K) v3_ (m_ 0)) (p_ (Ad (Ai K) v3_ (m_ 1)) (Ad (Ai K) v3_ (m_ 2)) (Ad (Ai K) v3_ (m_ 3))))))) Ag)) (Af (Ap v1_) Ag))
noncomputable def Mx:R_:=λK t=>Af (Ap (dC (.bl true))) Ag
noncomputable def Mw:R_:=λK t=>Af (Da (iZp K (o_ v5_ (As (p_ v0_ v1_ v2_)))) (gdT K 2 [gdN 8,gdN 9]) (Af (dIf (Au (Ad (A0 K true) (Bw "lines" 0 (Rg K t) v8_ Ae) (q_ (P8 K t) (n_ v9_)))) (Af (Ap (dC (.bl false))) Ag) Ag) Ag)) (Mx K t)
noncomputable def Mv:R_:=λK t=>Af (Bj (dMt (rMt K [⟨"list","list.clear", Ur⟩]) (Ad (Ai K) v6_ (m_ 1)) Ae)) (Mw K t)
noncomputable def Mu:R_:=λK t=>Af (Da (B9 K v3_) (gdN 7) (Af (dIf (Au (Ad (A0 K true) (Bw "state" 1 (Fw K t) (Ad (Ai K) v6_ (m_ 0)) (n_ v7_)) (Ad (Ai K) v3_ v7_))) (Af (Ap (dC (.bl false))) Ag) Ag) Ag)) (Mv K t)
noncomputable def Mt:R_:=λK t=>Af (dIf (dOr (Au (Ad (A0 K true) (Bw "lines" 0 (Rg K t) (Ad (Ai K) v6_ (m_ 0)) Ae) (q_ (P8 K t) (n_ v3_)))) (Au (Ad (A0 K true) (Bw "names" 0 (Ew K t) (Ad (Ai K) v6_ (m_ 0)) Ae) (r_ (E7 K true) (n_ v3_))))) (Af (Ap (dC (.bl false))) Ag) Ag) (Mu K t)
noncomputable def Ms:R_:=λK t=>Af (dIf (dOr (O1 (D4 K (r_ (Rr K) (o_ v6_ (dC (.ty "tuple")))))) (dOr (O1 (D4 K (r_ (Rr K) (o_ (Ad (Ai K) v6_ (m_ 1)) (dC (.ty "list")))))) (dOr (Au (Ad (A0 K true) (Ad (Ai K) v6_ (m_ 1)) v4_)) (Au (Ad (A0 K true) (r_ (Dm K) (n_ v6_)) (m_ 2)))))) (Af (Ap (dC (.bl false))) Ag) Ag) (Mt K t)
noncomputable def Mr:R_:=λK t=>Af (Aq 6 (q_ (Uy K t) (p_ (Ad (Ai K) v5_ (m_ 0)) (Ad (Ai K) v5_ (m_ 1)) (Ad (Ai K) v5_ (m_ 2))))) (Ms K t)
noncomputable def b05:R_:=λK t=>Af (Aq 5 (As (p_ (q_ (Lx K t) (n_ v0_)) (q_ (Lx K t) (n_ v1_)) (q_ (Lx K t) (n_ v2_))))) (Mr K t)
noncomputable def a59:R_:=λK t=>Af (Ap (dC (.bl true))) Ag
noncomputable def a58:R_:=λK t=>Af (Da (Gv (p_ (m_ 2) (r_ a37 (o_ (m_ 8) (r_ (an0 K) (o_ (r_ (Dm K) (n_ v0_)) (m_ 62))))) (m_ 3))) (gdN 3) (Af (Aq 4 (Ad (Ai K) v2_ (Ad B0 (Ad Cp (q_ (Jz K t) (o_ v0_ (m_ 1))) v3_) (m_ 3)))) (Af (Aq 5 (q_ (Ly K t) (Aa (q_ (Jz K t) (o_ v0_ v3_)) (p_ v1_ Jv v4_)))) (Af (Aq 6 (q_ (Ly K t) (Aa (q_ (Jz K t) (o_ v0_ (Ad (Az K) v3_ (m_ 1)))) (p_ v1_ v5_ v4_)))) (Af (Aq 7 (q_ (Ly K t) (Aa (q_ (Jz K t) (o_ v0_ (Ad (Az K) v3_ (m_ 2)))) (p_ v1_ v5_ v4_)))) (Af (Dw (q_ (Vc K t) (p_ v5_ v6_ v7_)) (gdT K 2 [gdN 8,gdN 9])) (Af (dIf (dOr (O1 (D4 K (q_ (P7 K t) (Aa v5_ (Aa v6_ (p_ v7_ v8_ v9_)))))) (O1 (D4 K (q_ (P7 K t) (Aa v5_ (Aa v7_ (p_ v6_ v8_ v9_))))))) (Af (Ap (dC (.bl false))) Ag) Ag) (Af (Da (B9 K v8_) (gdN 10) (Af (dIf (Gk (Au (Ad (A0 K true) (Ad (Ai K) (Ad (Ai K) v8_ v10_) (m_ 1)) (dC (.str "")))) (Au (Ad (A0 K true) (Ad (Ai K) (Ad (Ai K) v8_ (Ad (Ai K) (Ad (Ai K) v8_ v10_) (m_ 1))) (m_ 0)) (dC (.str "chapter"))))) (Af (Ap (dC (.bl false))) Ag) Ag) Ag)) Ag)))))))) (a59 K t)
noncomputable def a57:R_:=λK t=>Af (Aq 2 (As (p_ (As (Aa (dC (.str "chapter")) (p_ (dC (.str "para")) (dC (.str "chapter")) (dC (.str "table"))))) (Ad (C8 K) (As (n_ (dC (.str "chapter")))) (m_ 4)) (As (Aa (dC (.str "table")) (p_ (dC (.str "chapter")) (dC (.str "table")) (dC (.str "para")))))))) (a58 K t)
noncomputable def b26:R_:=λK t=>Af (Aq 1 (q_ (U6 K t) (o_ (q_ (Jz K t) (o_ v0_ (m_ 0))) (Ad B0 (Ad Cp (q_ (Jz K t) (o_ v0_ (m_ 0))) (m_ 7)) (m_ 9))))) (a57 K t)
end K72
namespace K72
open PySem L2
mutual
def noL:Dt->Bool
 |.at_ _=>true
 |.lst _=>false
 |.tup l=>Gy l
def Gy:List Dt->Bool
 |[]=>true
 |x::xs=>noL x&&Gy xs
end
def Cd{z y:Str}{r:Rc}{S:Rs}(e:y=z):get ((y,r)::S) z=some r:=by unfold get;simp[dN,e]
def Br{z y:Str}{r:Rc}{S:Rs}(e:y≠z):get ((y,r)::S) z=get S z:=by unfold get;simp[dN,e]
theorem Ed(z:Str):∀S:Rs,(S.any λp=>decide (p.1=z))=has S z
 |[]=>rfl
 | (y,r)::S=>by
  unfold has
  rw[gB]
  by_cases e:y=z
  .rw[Cd e,decide_eq_true e];rfl
  .rw[Br e,decide_eq_false e,kQ];exact Ed z S
theorem mem_keys{z:Str}:∀{S:Rs},z∈keys S↔has S z=true
 |[]=>by simp[keys,has,get]
 | (y,r)::S=>by
  unfold has
  show z∈y::keys S↔_
  by_cases e:y=z
  .rw[Cd e];simp[e]
  .rw[Br e,aG,mem_keys]
   exact⟨λh=>h.resolve_left (bx e),.inr⟩
def Ax{S:Rs}{z:Str}(h:has S z=true):get S z=some (Ak S z):=by
 unfold has at h
 unfold Ak
 cases e:get S z with
 |none=>rw[e] at h;cases h
 |some r=>rfl
def Bs{S:Rs}{z:Str}{r:Rc}(h:get S z=some r):has S z=true:=by unfold has;rw[h];rfl
def Lr{S:Rs}{z:Str}{r:Rc}(h:get S z=some r):Ak S z=r:=by unfold Ak;rw[h];rfl
def aj1{S:Rs}{z:Str}(h:has S z=false):get S z=none:=by
 unfold has at h
 cases e:get S z with
 |none=>rfl
 |some r=>rw[e] at h;cases h
section
variable {K:ae}{t:Adr}{H H' H2:Hp}{p d:Addr}{S S':Rs}{kvs:List (Key×V)}{r:Rc}{x:V}
def But.of(S:Same H H'):But d H H':=λb o _ e=>S b o e
def But.trans(h:But d H H')(g:But d H' H2):But d H H2:=λb o n e=>g b o n (h b o n e)
theorem But.upd{o:HO}:But d H (upd H d o):=λb o n e=>by rw[Ah n];exact e
mutual
theorem Gn(T:TKeep K H H'):∀{d:Dt}{x:V},noL d=true->At K H d x->At K H' d x
 |.at_ v,x,_,h=>by unfold At at h ⊢;exact h
 |.lst l,x,n,_=>by unfold noL at n;cases n
 | .tup l,x,n,h=>by
  unfold noL at n
  unfold At at h ⊢
  obtain⟨a,xs,e,q,g⟩:=h
  exact⟨a,xs,e,T _ _ q,A8 T n g⟩
theorem A8(T:TKeep K H H'):∀{ds:List Dt}{xs:List V},Gy ds=true->AtL K H ds xs->AtL K H' ds xs
 |[],xs,_,h=>by unfold AtL at h ⊢;exact h
 | d::ds,xs,n,h=>by
  unfold Gy at n
  rw[aW] at n
  unfold AtL at h ⊢
  obtain⟨y,ys,e,h1,h2⟩:=h
  exact⟨y,ys,e,Gn T n.1 h1,A8 T n.2 h2⟩
end
theorem Bn{α:Type}{f:α->Dt}(h:∀a,noL (f a)=true):∀l:List α,Gy (l.map f)=true
 |[]=>by unfold jc Gy;rfl
 |a::l=>by rw[a8];unfold Gy;rw[h a,Bn h l];rfl
theorem aj0:∀c:Ct,noL (ctD c)=true
 |.txt z=>by unfold ctD Av noL;rfl
 |.tab T=>by unfold ctD Io noL;exact Bn (λr=>by unfold Ea noL;exact Bn (λz=>by unfold Av noL;rfl) r) T
theorem Iy:∀c:Ct,dep (ctD c)<=2
 |.txt z=>by unfold ctD;exact aF (D5 z) (by decide)
 |.tab T=>by unfold ctD Io dep;exact dB (Es (λr=>by unfold Ea dep;exact dB (Es (λz=>D5 z) r)) T)
def RcAt.keep(T:TKeep K H H')(h:RcAt K H r x):RcAt K H' r x:=by
 obtain⟨q,y,e,h1,h2⟩:=h
 exact⟨q,y,e,T _ _ h1,Gn T (aj0 _) h2⟩
def RcAt.at(h:RcAt K H r x):At K H (rcD r) x:=by
 obtain⟨q,y,rfl,h1,h2⟩:=h
 exact Cw h1 (Aj A4 (Aj A4 (Aj (Cq rfl) (Aj h2 Ar))))
theorem KvAt.keep(T:TKeep K H H'):∀{S:Rs}{kvs:List (Key×V)},KvAt K H S kvs->KvAt K H' S kvs
 |[],_,h=>h
 | (z,r)::S,kvs,h=>by
  obtain⟨q,rest,e,h1,h2⟩:=h
  exact⟨q,rest,e,h1.keep T,h2.keep T⟩
theorem KvAt.val:∀{S:Rs}{kvs:List (Key×V)},KvAt K H S kvs -> ∀z,match get S z with
  |none=>Bt kvs (.inr z)=none
  |some r=>∃x,Bt kvs (.inr z)=some x/\RcAt K H r x
 |[],kvs,h,z=>by rw[show kvs=[] from h];rfl
 | (y,r)::S,kvs,h,z=>by
  obtain⟨q,rest,rfl,h1,h2⟩:=h
  by_cases e:y=z
  .rw[Cd e,Ci (by rw[e])]
   exact⟨q,rfl,h1⟩
  .rw[Br e,Ch (λc=>e (f_ c))]
   exact h2.val z
def KvAt.some(h:KvAt K H S kvs){z:Str}(g:get S z=bH r):∃x,Bt kvs (.inr z)=bH x/\RcAt K H r x:=by
 have:=h.val z
 rw[g] at this
 exact this
theorem KvAt.isSome(h:KvAt K H S kvs)(z:Str):(Bt kvs (.inr z)).isSome=has S z:=by
 have:=h.val z
 unfold has
 split at this
 .rename_i e;rw[this,e];rfl
 .rename_i r e;obtain⟨q,e2,_⟩:=this;rw[e2,e];rfl
theorem KvAt.keys:∀{S:Rs}{kvs:List (Key×V)},KvAt K H S kvs->kvs.map (·.1)=(keys S).map fA
 |[],kvs,h=>by rw[show kvs=[] from h];rfl
 | (y,r)::S,kvs,h=>by
  obtain⟨q,rest,rfl,_,h2⟩:=h
  show _::_=_::_
  rw[h2.keys]
  rfl
def KvAt.len(h:KvAt K H S kvs):kvs.length=S.length:=by
 have:=congrArg eX h.keys
 unfold K72.keys at this
 simpa using this
theorem KvAt.app:∀{S S':Rs}{kvs kvs':List (Key×V)},KvAt K H S kvs->KvAt K H S' kvs'->KvAt K H (S++S') (kvs++kvs')
 |[],_,kvs,_,h,g=>by rw[show kvs=[] from h];exact g
 | (y,r)::S,_,kvs,_,h,g=>by
  obtain⟨q,rest,rfl,h1,h2⟩:=h
  exact⟨q,_,rfl,h1,h2.app g⟩
theorem KvAt.map{z:Str}{r:Rc}{v:V}(hp:RcAt K H r v):∀{S:Rs}{kvs:List (Key×V)},KvAt K H S kvs->KvAt K H (S.map λp=>if p.1=z then(p.1,r) else p) (kvs.map λkv=>if kv.1=.inr z then(kv.1,v) else kv)
 |[],kvs,h=>by rw[show kvs=[] from h];rfl
 | (y,s)::S,kvs,h=>by
  obtain⟨q,rest,rfl,h1,h2⟩:=h
  by_cases e:y=z
  .subst e
   rw[a8,a8,if_pos rfl,if_pos rfl]
   exact⟨v,_,rfl,hp,h2.map hp⟩
  .rw[a8,a8,if_neg e,if_neg (λc=>e (f_ c))]
   exact⟨q,_,rfl,h1,h2.map hp⟩
def KvAt.put(h:KvAt K H S kvs){z:Str}{v:V}(hp:RcAt K H r v):KvAt K H (Dy S z r) (E0 kvs (.inr z) v):=by
 unfold Dy E0
 rw[Ed,F8,h.isSome]
 by_cases e:has S z=true
 .rw[if_pos e,if_pos e];exact h.map hp
 .rw[if_neg e,if_neg e];exact h.app ⟨v,[],rfl,hp,rfl⟩
def But.tk(b:But d H H')(e:H d=bH (.dK kvs)):TKeep K H H':=λa xs q=>by
 rcases q with(q|⟨o,q⟩)|q
 .exact .inl (.inl (b _ _ (λz=>by rw[z,e] at q;cases q) q))
 .exact .inl (.inr ⟨o,b _ _ (λz=>by rw[z,e] at q;cases q) q⟩)
 .exact .inr q
def Rd.up{o:HO}(h:Rd H d o)(T:Same H H'):Rd H' d o:=by
 rcases h with h|⟨u,h⟩
 .exact .inl (T _ _ h)
 .exact .inr ⟨u,T _ _ h⟩
def RsAt.up(h:RsAt K H d S)(T:Same H H'):RsAt K H' d S:=by
 obtain⟨kvs,e,g⟩:=h
 exact⟨kvs,T _ _ e,g.keep (TKeep.of T)⟩
def RsAt.rd(h:RsAt K H d S):RdAt K H d S:=by
 obtain⟨kvs,e,g⟩:=h
 exact⟨kvs,.inl e,g⟩
theorem RdAt.up(h:RdAt K H d S)(T:Same H H'):RdAt K H' d S:=by
 obtain⟨kvs,e,g⟩:=h
 exact⟨kvs,Rd.up e T,g.keep (TKeep.of T)⟩
theorem PlAt.up(h:PlAt K t H p d S)(T:Same H H'):PlAt K t H' p d S:=by
 obtain⟨⟨dx,e⟩,g⟩:=h
 exact⟨⟨dx,T _ _ e⟩,g.up T⟩
theorem PwAt.up(h:PwAt K t H p d S)(T:Same H H'):PwAt K t H' p d S:=by
 obtain⟨⟨dx,e⟩,g⟩:=h
 exact⟨⟨dx,T _ _ e⟩,g.up T⟩
theorem PwAt.rd(h:PwAt K t H p d S):PlAt K t H p d S:=⟨h.1,h.2.rd⟩
def ae9(g:KvAt K H S kvs)(e:Rd H d (.dK kvs)){z:Str}(er:get S z=some r):∃x,Iq H d (.str z) (some x)/\RcAt K H r x:=by
 obtain⟨x,eq,hx⟩:=g.some er
 exact⟨x,.inl ⟨kvs,.inr z,e,rfl,eq.symm⟩,hx⟩
end
section
variable {P:a7}{w:bL}{K:ae}{mg:Str->Option aj}{base:Heap}{t:Adr}
def bg5(Z:Ao K t):OkD K D_zaa (A1 K t) bl t.f_zaa t.d_zaa (ao9 K t):=by
 refine A6 (bz3 K t) λvs H Q E h=>?_
 .obtain⟨a,dx,rfl,e,k⟩:=h;refine⟨rfl,?_⟩
  intro d hd
  have ne:a≠d:=λz=>by rw[z,hd] at e;cases e
  exact .inl ⟨t.c_zbm,dx,[],by rw[Ah ne];exact e,Z.pl,Z.plr,by decide,k d hd⟩
def bh3(Z:Ao K t):OkD K V4 (A1 K t) bl (t.m_zbm 2) (t.e_zbm 2) (U4 K t):=by
 refine A6 (b03 K t) λvs H Q E h=>?_
 .obtain⟨p,d,S,z,rfl,⟨⟨dx,e⟩,kvs,ed,g⟩,k⟩:=h;refine⟨rfl,?_⟩
  refine⟨_,_,_,.ref d,e,Z.pl,Z.plr,rfl,.inr ⟨_,.inl ⟨kvs,.inr z,ed,rfl,rfl⟩,?_⟩⟩
  show Q (.bl (Bt kvs (.inr z)).isSome) H
  rw[g.isSome]
  exact k
def bv6(Z:Ao K t):OkD K au9 (A1 K t) bl (t.m_zbm 10) (t.e_zbm 10) (aq5 K t):=by
 refine A6 (b76 K t) λvs H Q E h=>?_
 .obtain⟨p,d,S,z,rfl,⟨⟨dx,e⟩,kvs,ed,g⟩,hz,k⟩:=h;refine⟨rfl,?_⟩
  refine⟨_,_,_,.ref d,e,Z.pl,Z.plr,rfl,.inr ⟨_,.inl ⟨kvs,.inr z,ed,rfl,rfl⟩,?_⟩⟩
  show if(!(Bt kvs (.inr z)).isSome)=true then _ else _
  rw[g.isSome,hz]
  obtain⟨x,dg,hx⟩:=ae9 g ed (Ax hz)
  exact⟨_,_,_,.ref d,e,Z.pl,Z.plr,rfl,⟨_,dg,k x hx⟩⟩
def bu1(Z:Ao K t):OkD K at7 (A1 K t) bl (t.m_zbm 11) (t.e_zbm 11) (ao8 K t):=by
 refine A6 (b56 K t) λvs H Q E h=>?_
 .obtain⟨p,d,S,z,rfl,⟨⟨dx,e⟩,kvs,ed,g⟩,k⟩:=h;refine⟨rfl,?_⟩
  refine⟨_,_,_,.ref d,e,Z.pl,Z.plr,rfl,?_⟩
  have v:=g.val z
  refine⟨.inr (.inr (.inl ⟨rfl,?_⟩)),Bt kvs (.inr z),.inl ⟨kvs,.inr z,.inl ed,rfl,rfl⟩,k _ ?_⟩
  .exact .inl ⟨kvs,ed⟩
  .unfold OpAt
   split at v
   .rename_i e1;first|rw[e1,v] | rw[v]
    rfl
   .rename_i r e1
    obtain⟨x,e2,hx⟩:=v
    first|rw[e1,e2] | rw[e2]
    exact hx
def bu6(Z:Ao K t):OkD K au2 (A1 K t) bl (t.m_zbm 3) (t.e_zbm 3) (ap5 K t):=by
 refine A6 (b63 K t) λvs H Q E h=>?_
 .obtain⟨p,d,S,z,rfl,hP,hz,k⟩:=h;refine⟨rfl,?_⟩
  obtain⟨dx,e⟩:=hP.1
  exact⟨p,dx,_,⟨t.c_zbm,Y0 K t⟩,rfl,.head _,e,rfl,⟨ag _,ag _⟩,⟨p,d,S,z,rfl,hP,hz,(λx ⟨q,y,ex,h1,h2⟩=>ex▸⟨_,_,.inr h1,rfl,k y h2⟩)⟩⟩
def bu5(Z:Ao K t):OkD K au0 (A1 K t) bl (t.m_zbm 8) (t.e_zbm 8) (ap2 K t):=by
 refine A6 (b60 K t) λvs H Q E h=>?_
 .obtain⟨p,d,S,z,rfl,hP,hz,k⟩:=h;refine⟨rfl,?_⟩
  obtain⟨dx,e⟩:=hP.1
  exact⟨p,dx,_,⟨t.c_zbm,Y0 K t⟩,rfl,.head _,e,rfl,⟨ag _,ag _⟩,⟨p,d,S,z,rfl,hP,hz,(λx ⟨q,y,ex,h1,h2⟩=>ex▸⟨_,_,.inr h1,rfl,k y h2⟩)⟩⟩
def bu8(Z:Ao K t):OkD K au4 (A1 K t) bl (t.m_zbm 9) (t.e_zbm 9) (ap7 K t):=by
 refine A6 (b65 K t) λvs H Q E h=>?_
 .obtain⟨p,d,S,z,rfl,hP,hz,k⟩:=h;refine⟨rfl,?_⟩
  obtain⟨dx,e⟩:=hP.1
  exact⟨p,dx,_,⟨t.c_zbm,Y0 K t⟩,rfl,.head _,e,rfl,⟨ag _,ag _⟩,⟨p,d,S,z,rfl,hP,hz,(λx ⟨q,y,ex,h1,h2⟩=>ex▸⟨_,_,.inr h1,rfl,k y h2⟩)⟩⟩
def bu4(Z:Ao K t):OkD K at9 (A1 K t) bl (t.m_zbm 1) (t.e_zbm 1) (ap1 K t):=by
 refine A6 (b59 K t) λvs H Q E h=>?_
 .obtain⟨p,d,S,z,rfl,hP,hz,k⟩:=h;refine⟨rfl,?_⟩
  obtain⟨dx,e⟩:=hP.1
  exact⟨p,dx,_,⟨t.c_zbm,Y0 K t⟩,rfl,.head _,e,rfl,⟨ag _,ag _⟩,⟨p,d,S,z,rfl,hP,hz,(λx ⟨q,y,ex,h1,h2⟩=>ex▸⟨_,_,.inr h1,rfl,k y h2⟩)⟩⟩
def bv5(Z:Ao K t):OkD K au8 (A1 K t) bl (t.m_zbm 7) (t.e_zbm 7) (aq4 K t):=by
 refine A6 (b75 K t) λvs H Q E h=>?_
 .obtain⟨p,d,S,rfl,⟨⟨dx,e⟩,kvs,ed,g⟩,nd,few,k⟩:=h;refine⟨rfl,?_⟩
  have l:(keys S).length<=20:=by unfold keys;rw[af];exact few
  exact⟨_,_,_,.ref d,e,Z.pl,Z.plr,rfl,.inr ⟨rfl,.inl ⟨d,keys S,rfl,.inr ⟨kvs,ed,g.keys⟩,nd,by omega,k⟩⟩⟩
def bh4(Z:Ao K t):OkD K V5 (A1 K t) bl (t.m_zbm 4) (t.e_zbm 4) (U5 K t):=by
 refine A6 (b04 K t) λvs H Q E h=>?_
 .obtain⟨p,d,S,z,r,y,rfl,⟨⟨dx,e⟩,kvs,ed,g⟩,hl,hy,k⟩:=h;refine⟨rfl,?_⟩
  refine⟨(show 4<=sizeLine by decide),λq hq=>?_⟩
  have n1:p≠q:=λz=>by rw[z,hq] at e;cases e
  have n2:d≠q:=λz=>by rw[z,hq] at ed;cases ed
  refine⟨_,_,_,.ref d,(by rw[Ah n1];exact e),Z.pl,Z.plr,rfl,⟨_,DPut.k (k:=.inr z) (by rw[Ah n2];exact ed) (by rw[g.len];exact h7 hl (by decide)),?_⟩⟩
  have ed2:upd H q (.tup [.str r.kd,.str r.pr,.int r.rk,y]) d=some (.dK kvs):=by rw[Ah n2];exact ed
  have B:But d (upd H q (.tup [.str r.kd,.str r.pr,.int r.rk,y])) (upd (upd H q (.tup [.str r.kd,.str r.pr,.int r.rk,y])) d (.dK (E0 kvs (.inr z) (.ref q)))):=But.upd
  have S1:Same H (upd H q (.tup [.str r.kd,.str r.pr,.int r.rk,y])):=Same.upd hq
  exact k _ ((But.of S1).trans B) ⟨_,Ab,(KvAt.put (g.keep (TKeep.of S1)) ⟨q,y,rfl,SqT.of Ab,A3 S1 hy⟩).keep (B.tk ed2)⟩
def a80(Z:Ao K t):OkD K Yd (A1 K t) bl (t.m_zbm 13) (t.e_zbm 13) (ap3 K t):=by
 refine A6 (b61 K t) λvs H Q E h=>?_
 .obtain⟨p,d,S,z,rfl,hP,hz,k⟩:=h;refine⟨rfl,?_⟩
  obtain⟨dx,e⟩:=hP.1
  exact⟨p,dx,_,⟨t.c_zbm,ay0 K t⟩,rfl,.head _,e,rfl,⟨ag _,ag _⟩,⟨p,d,S,z,rfl,hP,hz,(λy _=>⟨(show 2<=sizeLine by decide),λq hq=>k q hq⟩)⟩⟩
end
section
variable {α:Type}{ch:α->List α}{h:α->Nat}
inductive Dn (ch:α->List α) (c:α):α->Prop where
 |here:Dn ch c c
 |dn {y z:α} (d:Dn ch c y) (m:z∈ch y):Dn ch c z
def Dn.le(S:Gm ch h){c z:α}(d:Dn ch c z):h z<=h c:=by
 induction d with
 |here=>exact ag _
 |dn _ m ih=>exact aF (d9 (S _ _ m)) ih
def Dn.head{c c' z:α}(m:c'∈ch c)(d:Dn ch c' z):Dn ch c z:=by
 induction d with
 |here=>exact .dn .here m
 |dn _ m2 ih=>exact .dn ih m2
def Dn.tree(u:∀y y' z,z∈ch y->z∈ch y'->y=y'){c c' z:α}(d:Dn ch c z):Dn ch c' z->Dn ch c c'\/Dn ch c' c:=by
 induction d with
 |here=>exact λd'=>.inr d'
 |dn d m ih=>
  intro d'
  cases d' with
  |here=>exact .inl (.dn d m)
  |dn d2 m2=>
   rw[u _ _ _ m2 m] at d2
   exact ih d2
def Dn.sib(S:Gm ch h)(u:∀y y' z,z∈ch y->z∈ch y'->y=y'){n c c':α}(m:c∈ch n)(m':c'∈ch n)(d:Dn ch c c'):c=c':=by
 cases d with
 |here=>rfl
 |dn d m2=>
  rw[u _ _ _ m2 m'] at d
  have:=d.le S
  have:=S _ _ m
  omega
theorem Po:∀{k:Nat}{d:Int}{n z:α},z∈(pre ch k d n).map (·.2) -> ∃c∈ch n,Dn ch c z
 |0,d,n,z,m=>by cases m
 | k+1,d,n,z,m=>by
  unfold pre at m
  rw[fX] at m
  obtain⟨c,hc,m⟩:=List.mem_flatMap.mp m
  rw[a8] at m
  rcases List.mem_cons.mp m with rfl|m
  .exact⟨_,hc,.here⟩
  .obtain⟨c2,hc2,d2⟩:=Po m
   exact⟨c,hc,.head hc2 d2⟩
theorem ak7(S:Gm ch h)(u:∀y y' z,z∈ch y->z∈ch y'->y=y')(nd:∀n,(ch n).Nodup):∀(k:Nat)(d:Int)(n:α),((pre ch k d n).map (·.2)).Nodup
 |0,d,n=>eE
 | k+1,d,n=>by
  unfold pre
  rw[fX]
  refine List.pairwise_flatMap.mpr ⟨λc hc=>?_,?_⟩
  .rw[a8]
   refine List.nodup_cons.mpr ⟨λm=>?_,ak7 S u nd k _ c⟩
   obtain⟨c2,hc2,d2⟩:=Po m
   have h1:h c<=h c2:=d2.le S
   have:=S _ _ hc2
   omega
  .refine gg ?_ (nd n)
   intro a b ha hb ne x hx y hy e
   subst e
   rw[a8] at hx hy
   have dx:∀c∈ch n,x∈c::(pre ch k (d+1) c).map (·.2)->Dn ch c x:=λc hc m=>by
    rcases List.mem_cons.mp m with e|m
    .rw[e];exact .here
    .obtain⟨c2,hc2,d2⟩:=Po m
     exact .head hc2 d2
   rcases(dx a ha hx).tree u (dx b hb hy) with d|d
   .exact ne (d.sib S u ha hb)
   .exact ne (d.sib S u hb ha).symm
end
def ax6{S:Rs}(nd:(keys S).Nodup){z:Str}{r:Rc}:get S z=some r↔(z,r)∈S:=by
 induction S with
 |nil=>exact⟨λh=>(by cases h),λh=>(by cases h)⟩
 |cons p S ih=>
  obtain⟨y,s⟩:=p
  have nd2:y∉keys S/\(keys S).Nodup:=List.nodup_cons.mp nd
  by_cases e:y=z
  .rw[Cd e]
   subst e
   constructor
   .intro h;cases h;exact aY
   .intro h
    rcases List.mem_cons.mp h with h|h
    .cases h;rfl
    .exact absurd (a9 (f:=(·.1)) h) nd2.1
  .rw[Br e,ih nd2.2,aG]
   exact⟨.inr,λh=>h.resolve_left λc=>e (by cases c;rfl)⟩
def ord_mem{S:Rs}{z:Str}:z∈Ih S↔has S z=true:=by
 unfold Ih
 rw[(Al _ _).mem_iff]
 exact mem_keys
def ch_mem{S:Rs}{p z:Str}:z∈chS S p↔has S z=true/\(Ak S z).pr=p:=by
 unfold chS
 rw[dO,ord_mem,decide_eq_true_iff]
section
variable {S R:Rs}{n:Str}
def bk8(T:Tr S):(Ih S).Nodup:=(Al _ _).nodup_iff.mpr T.nd
def a67(T:Tr S)(p:Str):(chS S p).Nodup:=(bk8 T).sublist eU
def bc9(y y' z:Str)(a:z∈chS S y)(b:z∈chS S y'):y=y':=(ch_mem.mp a).2.symm.trans (ch_mem.mp b).2
def Tr.sinks(T:Tr S):∃h:Str->Nat,Gm (chS S) h/\∀z,h z<12:=by
 obtain⟨h,h1,h2⟩:=T.up
 refine⟨h,λn c m=>?_,h1⟩
 obtain⟨a,b⟩:=ch_mem.mp m
 have:=h2 c _ (Ax a)
 rw[b] at this
 exact this
def Km{k:Nat}{d:Int}{z:Str}(m:z∈(pre (chS S) k d n).map (·.2)):has S z=true:=by
 obtain⟨c,hc,d⟩:=Po m
 cases d with
 |here=>exact(ch_mem.mp hc).1
 |dn _ m=>exact(ch_mem.mp m).1
def Xi(T:Tr S):((Ez S n).map (·.2)).Nodup:=by
 obtain⟨h,h1,_⟩:=T.sinks
 exact ak7 h1 bc9 (a67 T) _ _ _
def Do{x:List Str}:∀{l:List Str},l.Nodup->(∀z∈l,z∈x)->l.length<=x.length:=by
 intro l nd
 induction l generalizing x with
 |nil=>exact λ_=>bo _
 |cons a l ih=>
  intro h
  have nd2:=List.nodup_cons.mp nd
  have ha:=h a aY
  have:=ih nd2.2 (x:=x.erase a) λz hz=>(kh (show z≠a from λe=>nd2.1 (e▸hz))).mpr (h z (aK _ hz))
  rw[i3 ha] at this
  have:0<x.length:=List.length_pos_of_mem ha
  rw[aT]
  omega
def Am:(keys S).length=S.length:=by unfold keys;rw[af]
def Lm(T:Tr S):(Ez S n).length<=10:=by
 have:=Do (Xi (n:=n) T) λz hz=>mem_keys.mpr (Km hz)
 have:=T.few
 rw[Am,af] at *
 omega
def Tf(T:Tr S)(x:Str):(chS S x).length<=10:=by
 have h1:=Do (x:=keys S) (a67 T x) λz hz=>mem_keys.mpr (ch_mem.mp hz).1
 have:=T.few
 rw[Am] at h1
 omega
def Kg{z y:Str}{r:Rc}:∀{S:Rs},get (Dy S z r) y=if z=y then some r else get S y:=by
 intro S
 unfold Dy
 by_cases c:(S.any λp=>decide (p.1=z))=true
 .rw[if_pos c]
  have hz:K72.has S z=true:=by rw[<- Ed];exact c
  clear c
  induction S with
  |nil=>cases hz
  |cons p S ih=>
   obtain⟨x,s⟩:=p
   rw[a8]
   by_cases e:x=z
   .subst e
    rw[if_pos rfl]
    by_cases e2:x=y
    .rw[Cd e2,if_pos e2]
    .rw[Br e2,if_neg e2,Br e2]
     by_cases hz2:K72.has S x=true
     .rw[ih hz2,if_neg e2]
     .have:(S.map λp=>if p.1=x then(p.1,r) else p)=S:=by
       refine(c9 λp hp=>?_).trans (List.map_id' S)
       rw[if_neg (λ(e:p.1=x)=>hz2 (mem_keys.mp (e▸a9 (f:=(·.1)) hp)))]
      rw[this]
   .rw[if_neg e]
    by_cases e2:x=y
    .rw[Cd e2,Cd e2,if_neg (λc=>e (e2.trans c.symm))]
    .rw[Br e2,Br e2]
     refine ih ?_
     unfold K72.has at hz ⊢
     rwa[Br e] at hz
 .rw[if_neg c]
  have hz:K72.has S z=false:=by rw[<- Ed];exact Bool.eq_false_iff.mpr c
  clear c
  induction S with
  |nil=>
   by_cases e:z=y
   .rw[if_pos e];exact Cd e
   .rw[if_neg e];exact Br e
  |cons p S ih=>
   obtain⟨x,s⟩:=p
   rw[dS]
   have e:x≠z:=λc=>by
    unfold K72.has at hz
    rw[Cd c] at hz
    cases hz
   by_cases e2:x=y
   .rw[Cd e2,Cd e2,if_neg (λc=>e (e2.trans c.symm))]
   .rw[Br e2,Br e2]
    refine ih ?_
    unfold K72.has at hz ⊢
    rwa[Br e] at hz
def Q5{z:Str}{r:Rc}:keys (Dy S z r)=if K72.has S z=true then keys S else keys S++[z]:=by
 unfold Dy
 rw[Ed]
 split
 .unfold keys
  rw[cF]
  refine c9 λp hp=>?_
  show(if p.1=z then(p.1,r) else p).1=p.1
  split <;> rfl
 .unfold keys
  rw[aw]
  rfl
def bm8{z:Str}{r:Rc}(nd:(keys S).Nodup):(keys (Dy S z r)).Nodup:=by
 rw[Q5]
 split
 .exact nd
 .rename_i c
  refine List.nodup_append.mpr ⟨nd,by simp,λa ha b hb e=>?_⟩
  rw[List.mem_singleton.mp hb] at e
  exact c (mem_keys.mp (e▸ha))
end
def chz(S:Rs)(zs:List Str)(p:Str):List Str:=zs.filter λz=>decide ((Ak S z).pr=p)
def Ga(S:Rs)(zs:List Str)(z p:Str):chz S (zs++[z]) p=chz S zs p++(if(Ak S z).pr=p then [z] else []):=by
 unfold chz
 rw[dw]
 congr 1
 by_cases h:(Ak S z).pr=p <;> simp[h]
structure UnI (S:Rs) (N:Addr->Prop) (H:Hp) (u:Addr) (zs:List Str) (kvs:List (Key×V)):Prop where
 at_:H u=some (.dK kvs)
 no:∀p,Bt kvs (.inr p)=none->chz S zs p=[]
 yes:∀p v,Bt kvs (.inr p)=some v -> ∃l,v=.ref l/\H l=some (.lst ((chz S zs p).map V.str))/\N l
 inj:∀p p' v,Bt kvs (.inr p)=some v->Bt kvs (.inr p')=some v->p=p'
 len:kvs.length<=zs.length
section
variable {S:Rs}{N:Addr->Prop}{H:Hp}{u q l:Addr}{zs:List Str}{kvs:List (Key×V)}{z:Str}
def UnI.old(h:UnI S N H u zs kvs)(hq:H q=none)(e:Bt kvs (.inr (Ak S z).pr)=some (.ref l)) :
  H l=some (.lst ((chz S zs (Ak S z).pr).map V.str))/\UnI S N (upd (upd H q (.lst [])) l (.lst ((chz S zs (Ak S z).pr).map V.str++[.str z]))) u (zs++[z]) kvs:=by
 obtain⟨l',el,hl,h0⟩:=h.yes _ _ e
 cases el
 have lu:u≠l:=λc=>by rw[<- c,h.at_] at hl;cases hl
 have qu:u≠q:=λc=>by rw[<- c,h.at_] at hq;cases hq
 refine⟨hl,by rw[Ah lu,Ah qu];exact h.at_,λp hp=>?_,λp v hp=>?_,h.inj,by have:=h.len;rw[ak];omega⟩
 .rw[Ga,h.no p hp,if_neg (λc=>by rw[c,hp] at e;cases e)]
  rfl
 .obtain⟨l2,rfl,hl2,h2⟩:=h.yes p v hp
  refine⟨l2,rfl,?_,h2⟩
  by_cases c:(Ak S z).pr=p
  .subst c
   rw[hp] at e
   cases e
   rw[Ab,Ga,if_pos rfl,aw]
   rfl
  .have n1:l2≠l:=λc2=>by
    rw[c2] at hp
    exact c (h.inj _ _ _ e hp)
   have n2:l2≠q:=λc2=>by rw[c2,hq] at hl2;cases hl2
   rw[Ah n1,Ah n2,Ga,if_neg c,bG]
   exact hl2
def UnI.new(h:UnI S N H u zs kvs)(hq:H q=none)(h0q:N q)(e:Bt kvs (.inr (Ak S z).pr)=none) :
  UnI S N (upd (upd (upd H q (.lst [])) u (.dK (E0 kvs (.inr (Ak S z).pr) (.ref q)))) q (.lst ([]++[.str z]))) u (zs++[z]) (E0 kvs (.inr (Ak S z).pr) (.ref q)):=by
 have qu:u≠q:=λc=>by have:=h.at_;rw[c,hq] at this;cases this
 have vq:∀p v,Bt kvs (.inr p)=some v->v≠.ref q:=λp v hp c=>by
  obtain⟨l2,rfl,hl2,_⟩:=h.yes p v hp
  cases c
  rw[hq] at hl2
  cases hl2
 refine⟨by rw[Ah qu,Ab],λp hp=>?_,λp v hp=>?_,λp p' v hp hp'=>?_,?_⟩
 .rw[Mg] at hp
  split at hp
  .cases hp
  .rename_i c
   rw[Ga,h.no p hp,if_neg (λc2=>c (by rw[c2]))]
   rfl
 .rw[Mg] at hp
  split at hp
  .rename_i c
   have c:=f_ c
   subst c
   cases hp
   refine⟨q,rfl,?_,h0q⟩
   rw[Ab,Ga,h.no _ e,if_pos rfl]
   rfl
  .rename_i c
   obtain⟨l2,rfl,hl2,h2⟩:=h.yes p v hp
   have n2:l2≠q:=λc2=>by rw[c2,hq] at hl2;cases hl2
   have n3:l2≠u:=λc2=>by rw[c2,h.at_] at hl2;cases hl2
   refine⟨l2,rfl,?_,h2⟩
   rw[Ah n2,Ah n3,Ah n2,Ga,if_neg (λc2=>c (by rw[c2])),bG]
   exact hl2
 .rw[Mg] at hp hp'
  split at hp
  .rename_i c
   split at hp'
   .rename_i c'
    exact(f_ c).trans (f_ c').symm
   .exact absurd (bt hp).symm (vq p' v hp')
  .split at hp'
   .exact absurd (bt hp').symm (vq p v hp)
   .exact h.inj p p' v hp hp'
 .have:=Fu kvs (.inr (Ak S z).pr) (.ref q)
  have:=h.len
  rw[ak,bK]
  omega
end
section
variable {P:a7}{w:bL}{K:ae}{mg:Str->Option aj}{base:Heap}{t:Adr}
def bu3(Z:Ao K t):OkD K at8 (A1 K t) bl (t.m_zbm 0) (t.e_zbm 0) (ap0 K t):=by
 refine A6 (b58 K t) λvs H Q E h=>?_
 .obtain⟨p,d,S,rfl,hP,T,k⟩:=h;refine⟨rfl,?_⟩
  refine λu hu=>.inl ?_
  have S1:=Same.upd (o:=.dK []) hu
  have e1:upd H u (.dK []) u=some (.dK []):=Ab
  generalize upd H u (.dK [])=H1 at S1 e1 ⊢
  have hP1:=hP.up S1
  obtain⟨⟨dx,e⟩,kvs0,ed,g⟩:=id hP1
  have l8:(keys S).length<=10:=by rw[Am];exact T.few
  refine⟨_,_,_,.ref d,e,Z.pl,Z.plr,rfl,⟨d,p,dx,_,⟨t.c_zbm,bt0 K t⟩,keys S,rkf S,rfl,.inr ⟨kvs0,ed,g.keys⟩,T.nd,by omega,rfl,.head _,e,rfl,
   (λz hz H3 S3=>⟨p,d,S,z,rfl,hP1.up S3,mem_keys.mp hz,λq hq=>⟨q,rfl,Same.upd hq,Ab⟩⟩),λH3 D S3 hD eD=>.inl ⟨⟨_,SqL.of eD⟩,?_⟩⟩⟩
  have hD0:H D=none:=by
   cases c:H D with
   |none=>rfl
   |some o=>rw[S1 _ _ c] at hD;cases hD
  have uD:D≠u:=λc=>by rw[c,e1] at hD;cases hD
  have lo:(Ih S).length=(keys S).length:=(Al _ _).length_eq
  refine Bm (Bu ((Ih S).map V.str)) (λi σ H'=>(∃v,σ=[some (.ref p),some (.ref u),v])/\Same H H'/\H' D=some (.lst ((Ih S).map V.str))/\∃kvs,UnI S (λl=>H l=none/\l≠D) H' u ((Ih S).take i) kvs)
   ⟨⟨_,rfl⟩,S1.trans S3,eD,[],S3 _ _ e1,(λ_ _=>rfl),(λp v hp=>by cases hp),(λp p' v hp=>by cases hp),bo _⟩ (λi σ' H' _ h=>SqL.of h.2.2.1) ?_ ?_
  .rintro i x σ H4 hx ⟨⟨v,rfl⟩,S4,eD4,kvs,U⟩
   rw[au] at hx
   obtain⟨z,hz,rfl⟩:=Option.map_eq_some_iff.mp hx
   have hi:i<(Ih S).length:=(List.getElem?_eq_some_iff.mp hz).1
   have hh:=ord_mem.mp (aI hz)
   have hP4:=hP.up S4
   obtain⟨dx4,e4⟩:=hP4.1
   have tk:(Ih S).take (i+1)=(Ih S).take i++[z]:=by rw[bj,hz];rfl
   have kl:kvs.length<1000:=by have:=U.len;rw[aX] at this;omega
   refine⟨.inr (.inr (.inl ⟨rfl,.inl ⟨kvs,U.at_⟩⟩)),⟨p,dx4,_,⟨t.c_zbm,Yz K t⟩,rfl,.head _,e4,rfl,⟨ag _,ag _⟩,⟨p,d,S,z,rfl,hP4,hh,(λy _=>?_)⟩⟩⟩
   refine⟨(show 0<=sizeLine by decide),λq hq=>?_⟩
   have S5:=Same.upd (o:=.lst []) hq
   refine .inr ⟨u,.inr (Ak S z).pr,.ref q,kvs,rfl,rfl,S5 _ _ U.at_,h7 kl (by decide),?_⟩
   have hq0:H q=none:=by
    cases c:H q with
    |none=>rfl
    |some o=>rw[S4 _ _ c] at hq;cases hq
   have hq3:H q=none/\q≠D:=⟨hq0,λc=>by rw[c,eD4] at hq;cases hq⟩
   cases ev:Bt kvs (.inr (Ak S z).pr) with
   |some v=>
    obtain⟨l,rfl,hl,h0⟩:=U.yes _ _ ev
    obtain⟨hl,U2⟩:=U.old (z:=z) hq ev
    refine⟨.inl ⟨rfl,_,SqL.of (S5 _ _ hl)⟩,l,_,_,rfl,rfl,S5 _ _ hl,?_,⟨⟨_,rfl⟩,(S4.trans S5).set h0.1,?_,kvs,by rw[tk];exact U2⟩⟩
    .rw[af]
     have:(chz S ((Ih S).take i) (Ak S z).pr).length<=((Ih S).take i).length:=ca _ _
     rw[aX] at this
     exact aZ (show _<=10 by omega) (by decide)
    .rw[Ah (bx h0.2)]
     exact S5 _ _ eD4
   |none=>
    have U2:=U.new (z:=z) hq hq3 ev
    have hu0:H u=none:=hu
    have qu:q≠u:=λc=>by have:=U.at_;rw[<- c,hq] at this;cases this
    refine⟨.inl ⟨rfl,[],SqL.of ?_⟩,q,[],_,rfl,rfl,?_,by decide,⟨⟨_,rfl⟩,((S4.trans S5).set hu0).set hq0,?_,_,by rw[tk];exact U2⟩⟩
    .rw[Ah qu,Ab]
    .rw[Ah qu,Ab]
    .rw[Ah (bx hq3.2),Ah uD,Ah (bx hq3.2)]
     exact eD4
  .rintro σ H4 ⟨⟨v,rfl⟩,S4,eD4,kvs,U⟩
   rw[af,bp] at U
   refine .inl (k H4 u S4 ⟨kvs,U.at_,λp=>?_⟩)
   split
   .rename_i c;exact U.no p c
   .rename_i v' c
    obtain⟨l,e1,e2,_⟩:=U.yes p v' c
    exact⟨l,e1,e2⟩
end
section
variable {K:ae}{H H':Hp}
def bd1{J:It}{χ:List V}{ok:Hp->Prop}{te:DE}{σ:St}{H:Hp}{L:Addr}{R:Hp->Prop}{E:EK}(Y:El J χ ok)(Sg:St->Prop)(Pr:Nat->V->Hp->Prop)(hL:H L=none)(hok:∀H1,Same H H1->ok H1)(hn:χ.length<sizeLine)(hσ:Sg σ)(hS:∀ σ x,Sg σ->Sg (σ.set 0 (some x)))(mono:∀i v H1 H2,TKeep K H1 H2->Pr i v H1->Pr i v H2)(he:∀(i:Nat) x σ H1 Q1,χ[i]?=some x->Sg σ->Same H H1->(∀v H2,Same H1 H2->Pr i v H2->Q1 v H2)->te (σ.set 0 (some x)) H1 Q1 E)(hd:∀H' ys,Same H H'->H' L=some (.lst ys)->ys.length=χ.length->(∀(i:Nat)(v:V),ys[i]?=some v->Pr i v H')->R H'):Z4 J (gdN 0) De te L R σ (upd H L (.lst [])) E:=by
 refine Cb Y (λi σ' H'=>Sg σ'/\Same H H'/\∃ys,H' L=some (.lst ys)/\ys.length=i/\∀(j:Nat)(v:V),ys[j]?=some v->Pr j v H') ⟨hσ,Same.upd hL,[],Ab,rfl,λj v e=>by simp at e⟩ (λi σ' H' _ q=>hok H' q.2.1) ?_ ?_
 .rintro i x σ' H' hx ⟨q1,q2,ys,q3,q4,q5⟩
  have hi:i<χ.length:=(List.getElem?_eq_some_iff.mp hx).1
  refine he i x σ' H' _ hx q1 q2 λv H2 S2 hp=>⟨ys,S2 _ _ q3,by omega,hS _ _ q1,(q2.trans S2).set hL,ys++[v],Ab,by rw[ak,q4];rfl,λj u hu=>?_⟩
  have kp:TKeep K H2 (upd H2 L (.lst (ys++[v]))):=TKeep.lst (S2 _ _ q3)
  by_cases hj:j<ys.length
  .rw[bO hj] at hu
   exact mono _ _ _ _ kp (mono _ _ _ _ (TKeep.of S2) (q5 j u hu))
  .rw[bz (by omega)] at hu
   have hj0:j-ys.length=0:=by
    rcases Nat.eq_zero_or_pos (j-ys.length) with h|h
    .exact h
    .rw[fE (by simp;omega)] at hu;cases hu
   rw[hj0] at hu
   cases hu
   have:j=i:=by omega
   subst this
   exact mono _ _ _ _ kp hp
 .rintro σ' H' ⟨_,q2,ys,q3,q4,q5⟩
  exact hd H' ys q2 q3 q4 q5
theorem PrAt.keep(T:TKeep K H H'):∀{ws:List (Int×Str)}{ys:List V},PrAt K H ws ys->PrAt K H' ws ys
 |[],_,h=>h
 | w::ws,ys,h=>by
  obtain⟨q,rest,e,h1,h2⟩:=h
  exact⟨q,rest,e,T _ _ h1,h2.keep T⟩
theorem PrAt.app:∀{ws ws':List (Int×Str)}{ys ys':List V},PrAt K H ws ys->PrAt K H ws' ys'->PrAt K H (ws++ws') (ys++ys')
 |[],_,ys,_,h,g=>by rw[show ys=[] from h];exact g
 | w::ws,_,ys,_,h,g=>by
  obtain⟨q,rest,rfl,h1,h2⟩:=h
  exact⟨q,_,rfl,h1,h2.app g⟩
theorem PrAt.split:∀{ws:List (Int×Str)}{x:Int×Str}{ys:List V},PrAt K H (ws++[x]) ys -> ∃ys' q,ys=ys'++[.ref q]/\PrAt K H ws ys'/\SqT K H q [.int x.1,.str x.2]
 | [],x,ys,h=>by
  obtain⟨q,rest,rfl,h1,h2⟩:=h
  rw[show rest=[] from h2]
  exact⟨[],q,rfl,rfl,h1⟩
 | w::ws,x,ys,h=>by
  obtain⟨q,rest,rfl,h1,h2⟩:=h
  obtain⟨ys',q',rfl,h3,h4⟩:=PrAt.split h2
  exact⟨.ref q::ys',q',rfl,⟨q,ys',rfl,h1,h3⟩,h4⟩
theorem PrAt.length:∀{ws:List (Int×Str)}{ys:List V},PrAt K H ws ys->ys.length=ws.length
 |[],ys,h=>by rw[show ys=[] from h];rfl
 | w::ws,ys,h=>by
  obtain⟨q,rest,rfl,_,h2⟩:=h
  rw[aT,aT,h2.length]
theorem PrAt.tree:∀{ws:List (Int×Str)}{ys:List V},PrAt K H ws ys->AtL K H (ws.map λw=>.tup [.at_ (.int w.1),Av w.2]) ys
 |[],ys,h=>by rw[show ys=[] from h];exact Ar
 | w::ws,ys,h=>by
  obtain⟨q,rest,rfl,h1,h2⟩:=h
  exact Aj (Cw h1 (Aj (Cq rfl) (Aj A4 Ar))) h2.tree
theorem Wp:∀ws:List (Int×Str),Bz (ws.map λw=>Dt.tup [.at_ (.int w.1),Av w.2])<=1
 |[]=>by simp[Bz]
 | w::ws=>by
  rw[a8]
  unfold Bz
  refine Nat.max_le.mpr ⟨?_,Wp ws⟩
  unfold Av
  simp[dep,Bz]
def bw7{ws:List (Int×Str)}{ys:List V}{a b:Addr}{Q:VK}(h:PrAt K H ws ys)(ea:H a=some (.lst ys))(eb:H b=some (.lst []))(k:Q (.bl (!ws.isEmpty)) H):A0 K true (.ref a) (.ref b) H Q:=by
 refine .inr (.inl ⟨.lst (ws.map λw=>.tup [.at_ (.int w.1),Av w.2]),.lst [],Op (SqL.of ea) h.tree,Op (SqL.of eb) Ar,?_,?_⟩)
 .have:=Wp ws
  unfold dep
  omega
 .have e:deq (.lst (ws.map λw=>Dt.tup [.at_ (.int w.1),Av w.2])) (.lst [])=ws.isEmpty:=by
   cases ws <;> simp[deq,C0]
  rw[e]
  exact k
def UnAt.up{u:Addr}{S:Rs}(h:UnAt H u S)(T:Same H H'):UnAt H' u S:=by
 obtain⟨kvs,e,g⟩:=h
 refine⟨kvs,T _ _ e,λp=>?_⟩
 have:=g p
 split at this
 .exact this
 .obtain⟨l,e1,e2⟩:=this
  exact⟨l,e1,T _ _ e2⟩
def UnAt.get{u:Addr}{S:Rs}(h:UnAt H u S)(p:Str){q:Addr}(hq:H q=some (.lst [])):∃o l,Iq H u (.str p) o/\o.getD (.ref q)=.ref l/\H l=some (.lst ((chS S p).map V.str)):=by
 obtain⟨kvs,e,g⟩:=h
 have:=g p
 split at this
 .rename_i ev
  refine⟨none,q,.inl ⟨kvs,.inr p,.inl e,rfl,ev.symm⟩,rfl,?_⟩
  rw[this]
  exact hq
 .rename_i v ev
  obtain⟨l,rfl,hl⟩:=this
  exact⟨some (.ref l),l,.inl ⟨kvs,.inr p,.inl e,rfl,ev.symm⟩,rfl,hl⟩
def br2{a:Addr}(xs:List V):El (Qq K a xs.length) xs.reverse (λH=>SqL K H a xs):=by
 refine⟨λi H q h=>⟨by rw[cL] at h;exact h,xs,q,rfl⟩,λH q=>by show xs.length<=xs.reverse.length;rw[cL];exact ag _,λi H x H' q hi h=>?_⟩
 obtain⟨h1,h2⟩:=h
 rw[cL] at hi
 refine⟨h1,?_⟩
 rw[List.getElem?_reverse hi]
 exact h2 xs q
theorem a86{c:Int}:∀{zs:List Str}{ys:List V},ys.length=zs.length->(∀(i:Nat) v,ys[i]?=some v -> ∀z,zs[i]?=some z -> ∃q,v=.ref q/\SqT K H q [.int c,.str z])->PrAt K H (zs.map λz=>(c,z)) ys
 |[],[],_,_=>rfl
 |[],_::_,h,_=>by simp at h
 |_::_,[],h,_=>by simp at h
 | z::zs,y::ys,h,g=>by
  obtain⟨q,rfl,hq⟩:=g 0 y rfl z rfl
  exact⟨q,ys,rfl,hq,a86 (by simpa using h) λi v h1 z h2=>g (i+1) v h1 z h2⟩
def ac9{zs:List Str}{a L:Addr}{c:Int}{te:DE}{σ:St}{R:Hp->Prop}{E:EK}(Sg:St->Prop)(hL:H L=none)(ha:H a=some (.lst (zs.map V.str)))(hz:zs.length<=10)(hσ:Sg σ)(hS:∀ σ x,Sg σ->Sg (σ.set 0 (some x)))(he:∀(z:Str) σ H1 (Q1:VK),Sg σ->Same H H1->(∀q,H1 q=none->Q1 (.ref q) (upd H1 q (.tup [.int c,.str z])))->te (σ.set 0 (some (.str z))) H1 Q1 E)(hd:∀H' ys,Same H H'->H' L=some (.lst ys)->PrAt K H' (zs.reverse.map λz=>(c,z)) ys->R H'):Z4 (Qq K a (zs.map V.str).length) (gdN 0) De te L R σ (upd H L (.lst [])) E:=by
 refine bd1 (K:=K) (br2 (zs.map V.str)) Sg (λ(i:Nat) v H=>∀z,zs.reverse[i]?=some z -> ∃q,v=.ref q/\SqT K H q [.int c,.str z]) hL (λH1 S=>SqL.of (S _ _ ha)) ?_ hσ hS (λi v H1 H2 T h z hz=>by
  obtain⟨q,e,hq⟩:=h z hz
  exact⟨q,e,T _ _ hq⟩) ?_ ?_
 .rw[cL,af]
  exact aZ hz (by decide)
 .intro i x σ H1 Q1 hx hg S hk
  rw[<- jr,au] at hx
  obtain⟨z,ez,rfl⟩:=Option.map_eq_some_iff.mp hx
  exact he z σ H1 Q1 hg S λq hq=>hk _ _ (Same.upd hq) λz' ez'=>by
   rw[ez] at ez'
   cases ez'
   exact⟨q,rfl,SqT.of Ab⟩
 .intro H' ys S e hl hp
  refine hd H' ys S e (a86 ?_ hp)
  rw[hl,cL,af,cL]
end
section
variable {P:a7}{w:bL}{K:ae}{mg:Str->Option aj}{base:Heap}{t:Adr}
structure WkI (K:ae) (S:Rs) (n:Str) (H1:Hp) (f wt:Addr) (fs ws:List (Int×Str)) (yf yw:List V) (H:Hp):Prop where
 sm:Same H1 H
 hf:H f=some (.lst yf)
 pf:PrAt K H fs yf
 hw:H wt=some (.lst yw)
 pw:PrAt K H ws yw
 df:fs++due (chS S) 12 ws=Ez S n
def none_of{H H':Hp}{a:Addr}(S:Same H H')(h:H' a=none):H a=none:=S.free h
def aw9{S:Rs}(ws:List (Int×Str)):ws.length<=(due (chS S) 12 ws).length:=by
 unfold due
 rw[<- cL]
 generalize ws.reverse=us
 induction us with
 |nil=>exact bo _
 |cons u us ih=>
  rw[gW,ak,aT,aT]
  omega
def WkI.len{S:Rs}{n:Str}{H1 H:Hp}{f wt:Addr}{fs ws:List (Int×Str)}{yf yw:List V}(I:WkI K S n H1 f wt fs ws yf yw H)(T:Tr S):fs.length+ws.length<=10:=by
 have h1:=congrArg eX I.df
 rw[ak] at h1
 have:=aw9 (S:=S) ws
 have:=Lm (n:=n) T
 omega
def bg6(Z:Ao K t):OkD K V0 (A1 K t) bl (t.m_zbm 12) (t.e_zbm 12) (Uw K t):=by
 refine A6 (bz4 K t) λvs H Q E h=>?_
 .obtain⟨p,d,S,n,rfl,hP,T,k⟩:=h;refine⟨rfl,?_⟩
  obtain⟨dx,e⟩:=hP.1
  obtain⟨hh,sk,hk⟩:=T.sinks
  refine⟨p,dx,_,⟨t.c_zbm,bs9 K t⟩,rfl,.head _,e,rfl,⟨ag _,ag _⟩,⟨p,d,S,rfl,hP,T,λH1 u S1 hU=>?_⟩⟩
  refine⟨(show 0<=sizeLine by decide),λf hf=>?_⟩
  have S2:=Same.upd (o:=.lst []) hf
  have ef:upd H1 f (.lst []) f=some (.lst []):=Ab
  generalize upd H1 f (.lst [])=H2 at S2 ef ⊢
  obtain⟨kvs,eu,_⟩:=id (hU.up S2)
  refine⟨.inr (.inr (.inl ⟨rfl,.inl ⟨kvs,eu⟩⟩)),⟨(show 0<=sizeLine by decide),λq hq=>?_⟩⟩
  have S3:=Same.upd (o:=.lst []) hq
  have eq:upd H2 q (.lst []) q=some (.lst []):=Ab
  generalize upd H2 q (.lst [])=H3 at S3 eq ⊢
  obtain⟨o,l,h1,h2,h3⟩:=((hU.up S2).up S3).get n eq
  refine⟨o,h1,?_⟩
  rw[h2]
  refine⟨_,SqL.of h3,λL hL=>?_⟩
  have fL:f≠L:=λc=>by rw[<- c,S3 _ _ ef] at hL;cases hL
  have hL1:=none_of (S2.trans S3) hL
  refine ac9 (c:=1) (λσ=>σ.length=1) hL h3 (Tf T n) rfl (λσ x hσ=>by rw[List.length_set];exact hσ) ?_ ?_
  .intro z σ H4 Q1 hσ S4 hk
   obtain⟨v,rfl⟩:∃v,σ=[v]:=by
    match σ,hσ with
    |[v],_=>exact⟨v,rfl⟩
   exact⟨(show 2<=sizeLine by decide),λq hq=>hk q hq⟩
  .intro H4 ys S4 eL hp
   have I0:WkI K S n H1 f L [] ((chS S n).reverse.map λz=>((1:Int),z)) [] ys H4:=⟨(S2.trans S3).trans S4,S4 _ _ (S3 _ _ ef),rfl,eL,hp,Yu sk hk⟩
   refine⟨λm σ H'=>∃fs ws yf yw v,m=10-fs.length/\σ=[some (.ref p),some (.str n),some (.ref u),some (.ref f),some (.ref L),v]/\WkI K S n H1 f L fs ws yf yw H',⟨_,_,_,_,_,_,rfl,rfl,I0⟩,?_⟩
   clear I0 S4 eL hp hL S3 eq h1 h2 h3 S2 ef
   rintro m σ H5 ⟨fs,ws,yf,yw,v,rfl,rfl,I⟩
   have hl:=I.len T
   refine⟨(show 0<=sizeLine by decide),λq hq=>?_⟩
   have S6:=Same.upd (o:=.lst []) hq
   have eq:upd H5 q (.lst []) q=some (.lst []):=Ab
   generalize upd H5 q (.lst [])=H6 at S6 eq ⊢
   have I:WkI K S n H1 f L fs ws yf yw H6:=⟨I.sm.trans S6,S6 _ _ I.hf,I.pf.keep (TKeep.of S6),S6 _ _ I.hw,I.pw.keep (TKeep.of S6),I.df⟩
   refine bw7 I.pw I.hw eq ?_
   rcases List.eq_nil_or_concat ws with rfl|⟨ws',x,rfl⟩
   .have d0:=I.df
    rw[ax0,bG] at d0
    exact k H6 f yf (S1.trans I.sm) (d0▸I.pf) I.hf
   .rw[List.concat_eq_append] at I hl ⊢
    have ne:(!(ws'++[x]).isEmpty)=true:=by cases ws' <;> rfl
    rw[ne]
    obtain⟨yw',q',rfl,pw',hq'⟩:=I.pw.split
    have l1:=I.pf.length
    have l2:=pw'.length
    rw[ak,bK] at hl
    refine⟨λσ H'=>∃fs2 ws2 yf2 yw2 v2,fs2.length=fs.length+1/\σ=[some (.ref p),some (.str n),some (.ref u),some (.ref f),some (.ref L),v2]/\WkI K S n H1 f L fs2 ws2 yf2 yw2 H',?_,?_⟩
    .rintro σ' H' ⟨fs2,ws2,yf2,yw2,v2,e1,e2,e3⟩
     exact⟨10-fs2.length,by omega,fs2,ws2,yf2,yw2,v2,rfl,e2,e3⟩
    .refine⟨.inl ⟨rfl,_,SqL.of I.hw⟩,.inl ⟨L,_,_,rfl,rfl,I.hw,by rw[ak,bK,Nat.add_sub_cancel];exact List.getElem?_concat_length,?_⟩⟩
     rw[List.dropLast_concat]
     have k7:TKeep K H6 (upd H6 L (.lst yw')):=TKeep.lst I.hw
     have s7:Same H1 (upd H6 L (.lst yw')):=I.sm.set hL1
     have f7:upd H6 L (.lst yw') f=some (.lst yf):=by rw[Ah fL];exact I.hf
     have e7:upd H6 L (.lst yw') L=some (.lst yw'):=Ab
     generalize upd H6 L (.lst yw')=H7 at k7 s7 f7 e7 ⊢
     refine⟨.inl ⟨rfl,_,SqL.of f7⟩,f,_,_,rfl,rfl,f7,aZ (show yf.length<=10 by omega) (by decide),?_⟩
     have k8:TKeep K H7 (upd H7 f (.lst (yf++[.ref q']))):=TKeep.lst f7
     have s8:Same H1 (upd H7 f (.lst (yf++[.ref q']))):=s7.set hf
     have f8:upd H7 f (.lst (yf++[.ref q'])) f=some (.lst (yf++[.ref q'])):=Ab
     have e8:upd H7 f (.lst (yf++[.ref q'])) L=some (.lst yw'):=by rw[Ah (bx fL)];exact e7
     generalize upd H7 f (.lst (yf++[.ref q']))=H8 at k8 s8 f8 e8 ⊢
     have k8:=k7.trans k8
     obtain⟨kvs,eu,_⟩:=id (hU.up s8)
     have t8:=k8 _ _ hq'
     refine⟨.inl ⟨rfl,_,SqL.of e8⟩,⟨.inr (.inr (.inl ⟨rfl,.inl ⟨kvs,eu⟩⟩)),⟨_,_,.inr t8,rfl,⟨(show 0<=sizeLine by decide),λq2 hq2=>?_⟩⟩⟩⟩
     have S9:=Same.upd (o:=.lst []) hq2
     have e9:upd H8 q2 (.lst []) q2=some (.lst []):=Ab
     generalize upd H8 q2 (.lst [])=H9 at S9 e9 ⊢
     obtain⟨o2,l2',g1,g2,g3⟩:=((hU.up s8).up S9).get x.2 e9
     refine⟨o2,g1,?_⟩
     rw[g2]
     refine⟨_,SqL.of g3,λL2 hL2=>?_⟩
     refine ac9 (c:=x.1+1) (λσ=>∃v,σ=[v,some (.ref q')]) hL2 g3 (Tf T x.2) ⟨none,rfl⟩ (λσ y hσ=>by obtain⟨v,rfl⟩:=hσ;exact⟨_,rfl⟩) ?_ ?_
     .rintro z σ H10 Q1 ⟨v,rfl⟩ S10 hk
      exact⟨_,_,.inr ((S9.trans S10).seqT t8),rfl,(show 2<=sizeLine by decide),λq hq=>hk q hq⟩
     .intro H10 zs S10 eL2 hp
      have S10:=S9.trans S10
      have e10:=S10 _ _ e8
      have l3:=hp.length
      rw[af,cL] at l3
      have l4:=Tf T x.2
      refine⟨L,L2,_,_,rfl,rfl,e10,eL2,aF (show yw'.length+zs.length<=20 by omega) (by decide),?_⟩
      have k10:=(k8.trans (TKeep.of S10)).trans (TKeep.lst (zs:=yw'++zs) e10)
      refine⟨fs++[x],ws'++((chS S x.2).reverse.map λz=>(x.1+1,z)),_,_,_,by rw[ak,bK],rfl,(s8.trans S10).set hL1,by rw[Ah fL];exact S10 _ _ f8,(I.pf.keep k10).app ⟨q',[],rfl,k10 _ _ hq',rfl⟩,Ab,(pw'.keep k10).app (hp.keep (TKeep.lst e10)),?_⟩
      rw[<- I.df]
      exact ad9 sk hk
theorem PrAt.ix{H:Hp}:∀{ws:List (Int×Str)}{ys:List V},PrAt K H ws ys -> ∀{i:Nat}{x:V},ys[i]?=some x -> ∃p q,ws[i]?=some p/\x=.ref q/\SqT K H q [.int p.1,.str p.2]
 |[],ys,h,i,x,e=>by rw[show ys=[] from h] at e;cases e
 | w::ws,ys,h,i,x,e=>by
  obtain⟨q,rest,rfl,h1,h2⟩:=h
  cases i with
  |zero=>cases e;exact⟨w,q,rfl,rfl,h1⟩
  |succ i=>exact h2.ix e
end
theorem Gh:∀{l:List Str}{i:Nat}{z:Str},l.Nodup->l[i]?=some z->z∉l.take i
 |[],i,z,_,e,_=>by simp at e
 |a::l,0,z,_,_,h=>by cases h
 | a::l,i+1,z,nd,e,h=>by
  obtain⟨h1,h2⟩:=List.nodup_cons.mp nd
  rw[b_] at e
  rw[List.take_succ_cons] at h
  rcases List.mem_cons.mp h with rfl|h
  .exact h1 (aI e)
  .exact Gh h2 e h
def Ss{p:Addr}{o:Obj}(kvs:List (Key×V)):El (Itd p o kvs) (kvs.map λkv=>kV kv.1) (λH=>H p=some (.frz o (.dK kvs))):=by
 refine⟨λi H q h=>⟨q,by rw[af] at h;exact h⟩,λH q=>⟨q,by rw[af];exact ag _⟩,λi H x H' q _ h=>?_⟩
 obtain⟨h1,k,v,h2,h3⟩:=h
 refine⟨h1,?_⟩
 rw[au,h2,h3]
 rfl
section
variable {P:a7}{w:bL}{K:ae}{mg:Str->Option aj}{base:Heap}{t:Adr}
def KvAt.names{H:Hp}{S:Rs}{kvs:List (Key×V)}(g:KvAt K H S kvs):(kvs.map λkv=>kV kv.1)=(K72.keys S).map V.str:=by
 have:=congrArg (jc kV) g.keys
 rw[cF,cF] at this
 exact this
def Rl{H:Hp}{d:Addr}{S:Rs}{R:Obj->List (Key×V)->Hp->Prop}(h:RsAt K H d S)(k:∀o kvs H2,But d H H2->H d=some (.dK kvs)->H2 d=some (.frz o (.dK kvs))->KvAt K H2 S kvs->R o kvs H2):onD d H R:=by
 obtain⟨kvs,e,g⟩:=h
 exact .inl ⟨kvs,e,λo=>k o kvs _ But.upd e Ab (g.keep (But.tk (But.upd (o:=.frz o (.dK kvs))) e))⟩
def Ql{H:Hp}{d:Addr}{u:HO}{Hf H1:Hp}(ed:H d=some u)(b:But d H Hf)(S:Same Hf H1):Same H (upd H1 d u):=λc v h=>by
 by_cases e:c=d
 .subst e;rw[Ab,<- ed];exact h
 .rw[Ah e];exact S _ _ (b _ _ e h)
def Qm{H:Hp}{d:Addr}{o:Obj}{kvs:List (Key×V)}{u:HO}(e:H d=some (.frz o (.dK kvs))):TKeep K H (upd H d u):=λa xs q=>by
 rcases q with(q|⟨o,q⟩)|q
 .exact .inl (.inl (by rw[Ah (λz=>by rw[z,e] at q;cases q)];exact q))
 .exact .inl (.inr ⟨o,by rw[Ah (λz=>by rw[z,e] at q;cases q)];exact q⟩)
 .exact .inr q
def RdAt.get{H:Hp}{d:Addr}{R:Rs}{z:Str}(h:RdAt K H d R)(hz:has R z=true):∃q y,Iq H d (.str z) (some (.ref q))/\SqT K H q [.str (Ak R z).kd,.str (Ak R z).pr,.int (Ak R z).rk,y]/\At K H (ctD (Ak R z).ct) y:=by
 obtain⟨kvs,e,g⟩:=h
 obtain⟨x,dg,q,y,rfl,h1,h2⟩:=ae9 g e (Ax hz)
 exact⟨q,y,dg,h1,h2⟩
def bu7(Z:Ao K t):OkD K au3 (A1 K t) bl (t.m_zbm 5) (t.e_zbm 5) (ap6 K t):=by
 refine A6 (b64 K t) λvs H Q E h=>?_
 .obtain⟨p,d,S,w,rfl,hP,hw,k⟩:=h;refine⟨rfl,?_⟩
  obtain⟨dx,e⟩:=hP.1
  refine⟨p,dx,_,⟨t.c_zbm,ax9 K t⟩,rfl,.head _,e,rfl,⟨ag _,ag _⟩,⟨p,d,S,w.2,rfl,hP,hw,(λ_ _=>?_)⟩⟩
  refine⟨p,dx,_,⟨t.c_zbm,ay0 K t⟩,rfl,.head _,e,rfl,⟨ag _,ag _⟩,⟨p,d,S,w.2,rfl,hP,hw,(λ_ _=>?_)⟩⟩
  refine⟨p,dx,_,⟨t.c_zbm,be0 K t⟩,rfl,.head _,e,rfl,⟨ag _,ag _⟩,⟨p,d,S,w.2,rfl,hP,hw,(λy hy=>?_)⟩⟩
  exact⟨(show 5<=sizeLine by decide),λq hq=>k _ _ (Same.upd hq) (Cw (SqT.of Ab) (Aj (Cq rfl) (Aj A4 (Aj A4 (Aj (Cq rfl) (Aj (A3 (Same.upd hq) hy) Ar))))))⟩
def a78(S:Rs)(w:Int×Str):noL (lnD S w)=true:=by
 unfold lnD noL
 simp only[Gy,Av,Cg,noL,aj0,Bool.and_self]
def ag5(S:Rs)(ws:List (Int×Str)):Gy (ws.map (lnD S))=true:=Bn (a78 S) ws
def bv4(Z:Ao K t):OkD K au7 (A1 K t) bl (t.m_zbm 6) (t.e_zbm 6) (aq3 K t):=by
 refine A6 (b74 K t) λvs H Q E h=>?_
 .obtain⟨p,d,S,rfl,hP,T,k⟩:=h;refine⟨rfl,?_⟩
  obtain⟨dx,e⟩:=hP.1
  refine⟨p,dx,_,⟨t.c_zbm,a71 K t⟩,rfl,.head _,e,rfl,⟨ag _,ag _⟩,⟨p,d,S,"", rfl,hP,T,λH1 a ys S1 hp ea=>.inl ⟨⟨_,SqL.of ea⟩,λL hL=>?_⟩⟩⟩
  have lb:=Lm (n := "") T
  have ll:=hp.length
  have al:∀w∈Ez S "", has S w.2=true:=λw hw=>Km (a9 hw)
  generalize Ez S ""=ws at k lb ll hp al
  refine Cb (Bu ys) (λi σ H'=>(∃u v,σ=[u,v,some (.ref p)])/\Same H1 H'/\∃zs,H' L=some (.lst zs)/\AtL K H' ((ws.take i).map (lnD S)) zs) ⟨⟨_,_,rfl⟩,Same.upd hL,[],Ab,Ar⟩ (λi σ H' _ h=>SqL.of (h.2.1 _ _ ea)) ?_ ?_
  .rintro i x σ H2 hx ⟨⟨u,v,rfl⟩,S2,zs,eL,az⟩
   obtain⟨⟨c,z⟩,q,hi,rfl,hq⟩:=hp.ix hx
   have hi':i<ws.length:=(List.getElem?_eq_some_iff.mp hi).1
   have hP2:=hP.up (S1.trans S2)
   obtain⟨dx2,e2⟩:=hP2.1
   refine⟨_,.inl (S2.seqT hq),rfl,⟨p,dx2,_,⟨t.c_zbm,bt2 K t⟩,rfl,.head _,e2,rfl,⟨ag _,ag _⟩,⟨p,d,S,(c,z),rfl,hP2,al _ (aI hi),λH3 x S3 ax=>?_⟩⟩⟩
   have l3:=az.length
   rw[af,aX] at l3
   refine⟨zs,S3 _ _ eL,aZ (show _<=10 by omega) (by decide),⟨_,_,rfl⟩,(S2.trans S3).set hL,_,Ab,?_⟩
   have n1:Gy ((ws.take i).map (lnD S))=true:=ag5 S _
   have n2:noL (lnD S (c,z))=true:=a78 S _
   have tk:TKeep K H3 (upd H3 L (.lst (zs++[x]))):=TKeep.lst (S3 _ _ eL)
   rw[bj,hi,aw]
   exact E1 (A8 tk n1 (Aw S3 az)) (Aj (Gn tk n2 ax) Ar)
  .rintro σ H2 ⟨_,S2,zs,eL,az⟩
   rw[ll,bp] at az
   exact k H2 L zs (S1.trans S2) eL az
end
def E3(a b:Str):eqV (.str a) (.str b)=decide (a=b):=by
 show(a==b)=_
 by_cases e:a=b
 .rw[decide_eq_true e,e];exact beq_self_eq_true b
 .rw[decide_eq_false e];exact beq_eq_false_iff_ne.mpr e
def a41(r r':List Str):deq (Ea r) (Ea r')=decide (r=r'):=by
 unfold Ea
 show C0 _ _=_
 exact K2 D6 r r'
theorem Gu:∀c c':Ct,deq (ctD c) (ctD c')=decide (c=c')
 | .txt z,.txt z'=>by
  unfold ctD
  rw[D6]
  exact decide_eq_decide.mpr ⟨λh=>by rw[h],λh=>by cases h;rfl⟩
 | .tab T,.tab T'=>by
  unfold ctD Io
  show C0 _ _=_
  rw[K2 a41]
  exact decide_eq_decide.mpr ⟨λh=>by rw[h],λh=>by cases h;rfl⟩
 |.txt z,.tab T=>(decide_eq_false (p:=Ct.txt z=.tab T) (λh=>by cases h)).symm
 |.tab T,.txt z=>(decide_eq_false (p:=Ct.tab T=.txt z) (λh=>by cases h)).symm
def P0(r r':Rc):deq (rcD r) (rcD r')=decide (r=r'):=by
 have e3:eqV (.int r.rk) (.int r'.rk)=decide (r.rk=r'.rk):=rfl
 show(eqV (.str r.kd) (.str r'.kd)&&(eqV (.str r.pr) (.str r'.pr)&&(eqV (.int r.rk) (.int r'.rk)&&(deq (ctD r.ct) (ctD r'.ct)&&true))))=_
 rw[E3,E3,e3,Gu,gp,<- gq,<- gq,<- gq]
 refine decide_eq_decide.mpr ⟨fun⟨a,b,c,d⟩=>?_,λh=>by subst h;exact⟨rfl,rfl,rfl,rfl⟩⟩
 cases r
 cases r'
 cases a
 cases b
 cases c
 cases d
 rfl
theorem Lk:∀o u:Option Rc,deq (opD o) (opD u)=decide (o=u)
 |none,none=>rfl
 |none,some r=>(decide_eq_false (p:=none=some r) (λh=>by cases h)).symm
 |some r,none=>(decide_eq_false (p:=some r=none) (λh=>by cases h)).symm
 |some r,some r'=>(P0 r r').trans (decide_eq_decide.mpr ⟨λh=>by rw[h],λh=>by cases h;rfl⟩)
def Tl(r:Rc):dep (rcD r)<=3:=by
 unfold rcD dep
 refine dB ?_
 simp only[Bz,Av,Cg,dep,gZ,bo,true_and,and_true]
 exact Iy _
theorem O3:∀o:Option Rc,dep (opD o)<=3
 |none=>by unfold opD dep;exact bo _
 |some r=>Tl r
def Gb{α:Type} [DecidableEq α]{f:α->Dt}(h:∀a b,deq (f a) (f b)=decide (a=b))(b o u:α):Yq (f b) (f o) (f u)=cla b o u:=by unfold Yq cla;rw[h,h,h]
section
variable {P:a7}{w:bL}{K:ae}{mg:Str->Option aj}{base:Heap}{t:Adr}{H H':Hp}
def Dp{d d':Dt}{x y:V}{neg:Bool}{Q:VK}(hx:At K H d x)(hy:At K H d' y)(sx:scV x)(sy:scV y)(hd:dep d<=40)(k:Q (.bl (if neg then !deq d d' else deq d d')) H):A0 K neg x y H Q:=by
 have fl:∀{d:Dt}{v:V},Cf v=true->At K H d v->d=.at_ v:=λ{d v} f h=>by
  cases d with
  |at_ u=>unfold At at h;rw[h.1]
  |lst l=>unfold At at h;obtain⟨a,_,rfl,_⟩:=h;cases f
  |tup l=>unfold At at h;obtain⟨a,_,rfl,_⟩:=h;cases f
 rcases sx with rfl|⟨z,rfl⟩|⟨a,rfl⟩ <;> rcases sy with rfl|⟨z',rfl⟩|⟨b,rfl⟩
 .rw[fl rfl hx,fl rfl hy] at k;exact⟨rfl,by cases neg <;> exact k⟩
 .rw[fl rfl hx,fl rfl hy] at k;exact⟨rfl,by cases neg <;> exact k⟩
 .exact⟨d,d',hx,hy,hd,k⟩
 .rw[fl rfl hx,fl rfl hy] at k;exact⟨rfl,by cases neg <;> exact k⟩
 .rw[fl rfl hx,fl rfl hy] at k
  unfold deq at k
  rw[E3] at k
  exact k
 .exact⟨d,d',hx,hy,hd,k⟩
 .exact .inl ⟨d,d',hx,hy,hd,k⟩
 .exact .inl ⟨d,d',hx,hy,hd,k⟩
 .exact .inr (.inl ⟨d,d',hx,hy,hd,k⟩)
def RcAt.sc{r:Rc}{x:V}(h:RcAt K H r x):scV x:=by obtain⟨q,y,rfl,_⟩:=h;exact .inr (.inr ⟨q,rfl⟩)
theorem OpAt.at{o:Option Rc}{x:V}(h:OpAt K H o x):At K H (opD o) x:=by
 cases o with
 |none=>obtain rfl:x=.non:=h;exact Cq rfl
 |some r=>exact RcAt.at h
theorem OpAt.sc{o:Option Rc}{x:V}(h:OpAt K H o x):scV x:=by
 cases o with
 |none=>exact .inl h
 |some r=>exact RcAt.sc h
def OpAt.up{o:Option Rc}{x:V}(h:OpAt K H o x)(S:Same H H'):OpAt K H' o x:=by
 cases o with
 |none=>exact h
 |some r=>exact RcAt.keep (TKeep.of S) h
theorem Hs:∀{c:Ct}{x:V},At K H (ctD c) x->scV x
 |.txt z,x,h=>by unfold ctD Av At at h;exact .inr (.inl ⟨z,h.1⟩)
 |.tab T,x,h=>by unfold ctD Io At at h;obtain⟨a,_,rfl,_⟩:=h;exact .inr (.inr ⟨a,rfl⟩)
def aj7{b o u:Option Rc}{x y z:V}(h1:OpAt K H b x)(h2:OpAt K H o y)(h3:OpAt K H u z):Nl K H x y z (opD b) (opD o) (opD u):=
 ⟨⟨h1.at,h1.sc⟩,⟨h2.at,h2.sc⟩,⟨h3.at,h3.sc⟩,aF (O3 b) (by decide),aF (O3 o) (by decide),aF (O3 u) (by decide)⟩
def Tj{b o u:Ct}{x y z:V}(h1:At K H (ctD b) x)(h2:At K H (ctD o) y)(h3:At K H (ctD u) z):Nl K H x y z (ctD b) (ctD o) (ctD u):=
 ⟨⟨h1,Hs h1⟩,⟨h2,Hs h2⟩,⟨h3,Hs h3⟩,aF (Iy b) (by decide),aF (Iy o) (by decide),aF (Iy u) (by decide)⟩
def a82(Z:Ao K t):OkD K au5 (A1 K t) bl (t.m_zbk 3) (t.e_zbk 3) (ap9 K t):=by
 refine A6 (b67 K t) λvs H Q E h=>?_
 .obtain⟨s,rfl,k⟩:=h;refine⟨rfl,?_⟩
  exact k
def aj5(Z:Ao K t):OkD K V3 (A1 K t) bl (t.m_zbo 3) (t.e_zbo 3) (U3 K t):=by
 refine A6 (b02 K t) λvs H Q E h=>?_
 .obtain⟨s,rfl,k⟩:=h;refine⟨rfl,?_⟩
  exact k
def aj4(Z:Ao K t):OkD K V1 (A1 K t) bl (t.m_zbn 3) (t.e_zbn 3) (Ux K t):=by
 refine A6 (bz5 K t) λvs H Q E h=>?_
 .obtain⟨s,rfl,k⟩:=h;refine⟨rfl,?_⟩
  exact k
def a81(Z:Ao K t):OkD K au1 (A1 K t) bl (t.m_zbk 0) (t.e_zbk 0) (ap4 K t):=by
 refine A6 (b62 K t) λvs H Q E h=>?_
 .obtain⟨s,rfl,k⟩:=h;refine⟨rfl,?_⟩
  exact k
def W7{f:Addr}{d:bw}(Z:Ao K t):OkD K Sv (A1 K t) bl f d (Sc K t):=by
 refine A6 (b80 K t) λvs H Q E h=>?_
 .obtain⟨s,rfl,k⟩:=h;refine⟨rfl,?_⟩
  exact k
def W8{f:Addr}{d:bw}(Z:Ao K t):OkD K Sw (A1 K t) bl f d (Se K t):=by
 refine A6 (b81 K t) λvs H Q E h=>?_
 .obtain⟨s,z,rfl,k⟩:=h;refine⟨rfl,?_⟩
  exact k
def bi4(Z:Ao K t):OkD K ab0 (A1 K t) bl (t.f 14) (t.d 14) (F5 K t):=by
 refine A6 (b14 K t) λvs H Q E h=>?_
 .obtain⟨x,y,z,b,o,u,rfl,⟨⟨h1,s1⟩,⟨h2,s2⟩,⟨h3,s3⟩,d1,d2,d3⟩,k⟩:=h;refine⟨rfl,?_⟩
  refine Dp h2 h3 s2 s3 (by omega) ?_
  unfold Yq at k
  cases e1:deq o u with
  |true=>rw[e1] at k;exact k
  |false=>
   refine Dp h2 h1 s2 s1 (by omega) ?_
   cases e2:deq o b with
   |true=>rw[e1,e2] at k;exact k
   |false=>
    refine Dp h3 h1 s3 s1 (by omega) ?_
    rw[e1,e2] at k
    exact k
def bj5(Z:Ao K t):OkD K ac1 (A1 K t) bl (t.f 15) (t.d 15) (Jm K t):=by
 refine A6 (b25 K t) λvs H Q E h=>?_
 .obtain⟨x,y,z,b,o,u,rfl,T,k⟩:=h;refine⟨rfl,?_⟩
  refine⟨x,y,z,b,o,u,rfl,T,?_⟩
  obtain⟨⟨h1,s1⟩,⟨h2,s2⟩,⟨h3,s3⟩,d1,d2,d3⟩:=T
  refine Bf (λg=>?_) (λg=>?_)
  .rw[if_pos g] at k
   exact k
  .rw[if_neg g] at k
   refine Dp h2 h1 s2 s1 (by omega) ?_
   refine Bf (c:=deq o b=true) (λg=>?_) (λg=>?_)
   .rw[if_pos g] at k;exact k
   .rw[if_neg g] at k;exact k
end
theorem Wq:∀{ds:List Dt}{n:Nat},(∀d∈ds,dep d<=n)->Bz ds<=n
 |[],_,_=>by unfold Bz;exact bo _
 | d::ds,n,h=>by
  unfold Bz
  exact Nat.max_le.mpr ⟨h d aY,Wq λe he=>h e (aK _ he)⟩
def bd7(S:Rs)(w:Int×Str):dep (lnD S w)<=3:=by
 unfold lnD dep
 refine dB ?_
 simp only[Bz,Av,Cg,dep,gZ,bo,true_and,and_true]
 exact Iy _
section
variable {P:a7}{w:bL}{K:ae}{mg:Str->Option aj}{base:Heap}{t:Adr}{H H':Hp}{p d d2:Addr}{S S' S2:Rs}
def PlIn.but(h:PlIn t H p d2){kvs:List (Key×V)}(e:H d=some (.dK kvs))(b:But d H H'):PlIn t H' p d2:=by
 obtain⟨dx,h⟩:=h
 exact⟨dx,b _ _ (λc=>by rw[c,e] at h;cases h) h⟩
theorem PwAt.but(h:PwAt K t H p d S)(b:But d H H')(r:RsAt K H' d S'):PwAt K t H' p d S':=by
 obtain⟨kvs,e,_⟩:=h.2
 exact⟨h.1.but e b,r⟩
def RsAt.other(h:RsAt K H d S)(h2:RsAt K H d2 S2)(ne:d≠d2)(b:But d2 H H'):RsAt K H' d S:=by
 obtain⟨kvs,e,g⟩:=h
 obtain⟨kvs2,e2,_⟩:=h2
 exact⟨kvs,b _ _ ne e,g.keep (b.tk e2)⟩
theorem PwAt.other(h:PwAt K t H p d S)(h2:RsAt K H d2 S2)(ne:d≠d2)(b:But d2 H H'):PwAt K t H' p d S:=by
 obtain⟨kvs,e,_⟩:=id h2
 exact⟨h.1.but e b,h.2.other h2 ne b⟩
def RsAt.ne(h:RsAt K H d S)(e:H d2=none):d≠d2:=λc=>by
 obtain⟨kvs,e2,_⟩:=h
 rw[c,e] at e2
 cases e2
def ai6(t:Adr)(H:Hp)(a dx d:Addr):Hp:=upd (upd (upd (upd H dx (.own a)) a (.ins t.c_zbm dx [])) d (.dK [])) a (.ins t.c_zbm dx [("records", .ref d)])
def a79{a dx d0:Addr}(ha:H a=none)(hdx:H dx=none)(ne:dx≠a)(hd0:upd (upd H dx (.own a)) a (.ins t.c_zbm dx []) d0=none):H d0=none/\Same H (ai6 t H a dx d0)/\PwAt K t (ai6 t H a dx d0) a d0 []:=by
 have n1:d0≠a:=λc=>by rw[c,Ab] at hd0;cases hd0
 have n2:d0≠dx:=λc=>by rw[c,Ah ne,Ab] at hd0;cases hd0
 have hd1:H d0=none:=by rw[Ah n1,Ah n2] at hd0;exact hd0
 exact⟨hd1,(((Same.upd hdx).set ha).set hd1).set ha,⟨dx,Ab⟩,[],by unfold ai6;rw[Ah n1,Ab],rfl⟩
end
section
variable {P:a7}{w:bL}{K:ae}{mg:Str->Option aj}{base:Heap}{t:Adr}
def sto{H:Hp}{d:Addr}{S:Rs}{z:Str}{r:Rc}{x:V}{N:Hp->Prop}(hR:RsAt K H d S)(hl:S.length<100)(hx:RcAt K H r x)(k:∀H',But d H H'->RsAt K H' d (Dy S z r)->N H'):an9 (.ref d) (.str z) x H N:=by
 obtain⟨kvs,ed,g⟩:=hR
 have B:But d H (upd H d (.dK (E0 kvs (.inr z) x))):=But.upd
 exact⟨_,.inl ⟨kvs,.inr z,ed,rfl,by rw[g.len];exact h7 hl (by decide),rfl⟩,k _ B ⟨_,Ab,(g.put hx).keep (B.tk ed)⟩⟩
def But.same{H H1 H2:Hp}{d:Addr}(b:But d H1 H2)(S:Same H H1)(h:H d=none):Same H H2:=λc o e=>b c o (λz=>by rw[z,h] at e;cases e) (S c o e)
theorem PlAt.ins{H:Hp}{p d:Addr}{S:Rs}(h:PlAt K t H p d S):∃dx,H p=some (.ins t.c_zbm dx [("records", .ref d)]):=h.1
def Pi{H:Hp}{a dx C:Addr}(ha:H a=none)(hd:H dx=none):Same H (upd (upd H dx (.own a)) a (.ins C dx [])):=(Same.upd hd).set ha
def bv3(Z:Ao K t):OkD K bb3 (A1 K t) bl (t.f 18) (t.d 18) (Ry K t):=by
 refine A6 (b72 K t) λvs H Q E h=>?_
 .obtain⟨z,rfl,kz,k⟩:=h;refine⟨rfl,?_⟩
  refine⟨rfl,?_⟩
  refine⟨rfl,λa1 d1 ha1 hd1 n1=>?_⟩
  have S1:=Pi (C:=t.c_zbk) ha1 hd1
  have e1:upd (upd H d1 (.own a1)) a1 (.ins t.c_zbk d1 []) a1=some (.ins t.c_zbk d1 []):=Ab
  generalize upd (upd H d1 (.own a1)) a1 (.ins t.c_zbk d1 [])=H1 at S1 e1 ⊢
  refine⟨rfl,λa2 d2 ha2 hd2 n2=>?_⟩
  have S2:=Pi (C:=t.c_zbo) ha2 hd2
  have e2:upd (upd H1 d2 (.own a2)) a2 (.ins t.c_zbo d2 []) a2=some (.ins t.c_zbo d2 []):=Ab
  generalize upd (upd H1 d2 (.own a2)) a2 (.ins t.c_zbo d2 [])=H2 at S2 e2 ⊢
  refine⟨rfl,λa3 d3 ha3 hd3 n3=>?_⟩
  have S3:=Pi (C:=t.c_zbn) ha3 hd3
  have e3:upd (upd H2 d3 (.own a3)) a3 (.ins t.c_zbn d3 []) a3=some (.ins t.c_zbn d3 []):=Ab
  generalize upd (upd H2 d3 (.own a3)) a3 (.ins t.c_zbn d3 [])=H3 at S3 e3 ⊢
  refine⟨(show 3<=sizeLine by decide),λl hl=>.inl ⟨⟨_,SqL.of Ab⟩,?_⟩⟩
  have S4:=Same.upd (o:=.lst [.ref a1,.ref a2,.ref a3]) hl
  have e4:upd H3 l (.lst [.ref a1,.ref a2,.ref a3]) l=some (.lst [.ref a1,.ref a2,.ref a3]):=Ab
  generalize upd H3 l (.lst [.ref a1,.ref a2,.ref a3])=H4 at S4 e4 ⊢
  have f1:=S4 _ _ (S3 _ _ (S2 _ _ e1))
  have f2:=S4 _ _ (S3 _ _ e2)
  have f3:=S4 _ _ e3
  have S:=((S1.trans S2).trans S3).trans S4
  refine Bm (Bu [.ref a1,.ref a2,.ref a3]) (λi σ H'=>H'=H4/\(∃v,σ=[some (.str z),v])/\(0<i->z ≠ "chapter")/\(1<i->z ≠ "para")/\(2<i->z ≠ "table")) ⟨rfl,⟨_,rfl⟩,(λh=>absurd h (by decide)),(λh=>absurd h (by decide)),λh=>absurd h (by decide)⟩ (λi σ H' _ h=>h.1▸SqL.of e4) ?_ ?_
  .rintro i x σ H' hx ⟨rfl,⟨v,rfl⟩,g1,g2,g3⟩
   match i,hx with
   |0,hx=>
    cases hx
    refine⟨a1,d1,[],⟨t.c_zbk,bt3 K t⟩,rfl,.head _,f1,rfl,⟨ag 1,ag 1⟩,_,rfl,?_⟩
    refine Bf (c:=decide (("chapter" : Str)=z)=true) (λc=>?_) (λc=>?_)
    .obtain rfl:=of_decide_eq_true c
     exact k _ a1 d1 S f1
    .exact⟨rfl,⟨_,rfl⟩,(λ_ e=>c (decide_eq_true e.symm)),(λh=>absurd h (by decide)),λh=>absurd h (by decide)⟩
   |1,hx=>
    cases hx
    refine⟨a2,d2,[],⟨t.c_zbo,a73 K t⟩,rfl,.tail _ (.head _),f2,rfl,⟨ag 1,ag 1⟩,_,rfl,?_⟩
    refine Bf (c:=decide (("para" : Str)=z)=true) (λc=>?_) (λc=>?_)
    .obtain rfl:=of_decide_eq_true c
     exact k _ a2 d2 S f2
    .exact⟨rfl,⟨_,rfl⟩,(λ_=>g1 (by decide)),(λ_ e=>c (decide_eq_true e.symm)),λh=>absurd h (by decide)⟩
   |2,hx=>
    cases hx
    refine⟨a3,d3,[],⟨t.c_zbn,a72 K t⟩,rfl,.tail _ (.tail _ (.head _)),f3,rfl,⟨ag 1,ag 1⟩,_,rfl,?_⟩
    refine Bf (c:=decide (("table" : Str)=z)=true) (λc=>?_) (λc=>?_)
    .obtain rfl:=of_decide_eq_true c
     exact k _ a3 d3 S f3
    .exact⟨rfl,⟨_,rfl⟩,(λ_=>g1 (by decide)),(λ_=>g2 (by decide)),(λ_ e=>c (decide_eq_true e.symm))⟩
   |i+3,hx=>cases hx
  .rintro σ H' ⟨_,_,g1,g2,g3⟩
   rcases kz with e|e|e
   .exact absurd e (g1 (bb rfl))
   .exact absurd e (g2 (bb rfl))
   .exact absurd e (g3 (bb rfl))
def Wu{S:Rs}{z:Str}{r:Rc}(z0:z ≠ "")(e:get S z=some r):Bd S z=decide (r.kd="chapter"):=by
 unfold Bd
 rw[decide_eq_false z0,e,kQ]
 exact decide_eq_decide.mpr ⟨λh=>bt h,λh=>congrArg some h⟩
def bj2(Z:Ao K t):OkD K ab8 (A1 K t) bl (t.f 24) (t.d 24) (Vg K t):=by
 refine A6 (b22 K t) λvs H Q E h=>?_
 .obtain⟨p,d,S,z,rfl,hP,hG,k⟩:=h;refine⟨rfl,?_⟩
  obtain⟨dx,e⟩:=hP.ins
  refine Bf (c:=decide (z="")=true) (λc=>?_) (λc=>?_)
  .have:=k H (Same.refl _)
   rw[show Bd S z=true from by unfold Bd;rw[c];rfl] at this
   rw[c]
   exact this
  .have c:z ≠ "" := λg=>c (decide_eq_true g)
   refine⟨p,dx,_,⟨t.c_zbm,a74 K t⟩,rfl,.head _,e,rfl,⟨ag _,ag _⟩,⟨p,d,S,z,rfl,hP,?_⟩⟩
   cases hh:has S z with
   |false=>
    have:=k H (Same.refl _)
    rw[show Bd S z=false from by unfold Bd;rw[decide_eq_false c,aj1 hh];rfl] at this
    exact this
   |true=>
    refine⟨p,dx,_,⟨t.c_zbm,ax9 K t⟩,rfl,.head _,e,rfl,⟨ag _,ag _⟩,⟨p,d,S,z,rfl,hP,hh,λy _=>?_⟩⟩
    have gd:=hG z _ (Ax hh)
    refine⟨_,rfl,gd.1,λH' a dx' S' ea=>?_⟩
    have kk:=k H' S'
    rw[Wu c (Ax hh)] at kk
    rcases gd.1 with g|g|g <;> rw[g] at ea kk
    .exact⟨a,dx',[],⟨t.c_zbk,bt1 K t⟩,rfl,.head _,ea,rfl,⟨ag 1,ag 1⟩,_,rfl,kk⟩
    .exact⟨a,dx',[],⟨t.c_zbo,Hx K t⟩,rfl,.tail _ (.head _),ea,rfl,⟨ag 1,ag 1⟩,_,rfl,kk⟩
    .exact⟨a,dx',[],⟨t.c_zbn,Gq K t⟩,rfl,.tail _ (.tail _ (.head _)),ea,rfl,⟨ag 1,ag 1⟩,_,rfl,kk⟩
def bi2(Z:Ao K t):OkD K aa8 (A1 K t) bl (t.f 13) (t.d 13) (Va K t):=by
 refine A6 (b12 K t) λvs H Q E h=>?_
 .obtain⟨p,d,S,z,o,x,rfl,hP,hl,ho,k⟩:=h;refine⟨rfl,?_⟩
  cases o with
  |none=>
   obtain rfl:x=.non:=ho
   exact k H (λ_ _ _ e=>e) hP.2
  |some r=>
   obtain⟨q,y,rfl,h1,h2⟩:=id ho
   obtain⟨dx,e⟩:=id hP.1
   exact⟨p,dx,_,⟨t.c_zbm,Wv K t⟩,rfl,.head _,e,rfl,⟨ag _,ag _⟩,_,_,.inr h1,rfl,_,_,.inr h1,rfl,_,_,.inr h1,rfl,_,_,.inr h1,rfl,⟨p,d,S,z,r,y,rfl,hP,hl,h2,k⟩⟩
end
end K72
namespace K72
open PySem L2
def Fl{α:Type}{xs:List α}{i:Nat}{v:α}(h:xs[i]?=some v):atI xs (i:Int)=some v:=by
 have hl:i<xs.length:=(List.getElem?_eq_some_iff.mp h).1
 unfold atI ixN
 have h1:¬ ((i:Int)<0):=by omega
 have h2:(i:Int)<(xs.length:Int):=by omega
 simp[h1,h2]
 exact h
section
variable {P:a7}{w:bL}{K:ae}{mg:Str->Option aj}{base:Heap}{t:Adr}
def Dq{n i:Nat}{x:V}(h:(Uu 0 n)[i]?=some x):i<n/\x=.int (i:Int):=by
 have hi:i<n:=by
  have:=(List.getElem?_eq_some_iff.mp h).1
  rw[Bh] at this
  exact this
 rw[Rv hi] at h
 have:=bt h
 rw[Int.zero_add] at this
 exact⟨hi,this.symm⟩
def atM{α:Type}{xs:List α}(c:Int)(m:Int)(hm:(xs.length:Int)=m)(h:0<m):∃v,v∈xs/\atI xs (c%m)=some v:=by
 have h1:=dq c (show m≠0 by omega)
 have h2:=cP c h
 have hl:(c%m).toNat<xs.length:=by omega
 refine⟨xs[(c%m).toNat],cV hl,?_⟩
 unfold atI ixN
 have a1:¬ (c%m<0):=by omega
 have a2:c%m<(xs.length:Int):=by omega
 simp[a1,a2]
 rw[if_pos h1]
 exact am hl
def K3(c:Int){m:Nat}(h:0<m):∃j:Nat,c%(m:Int)=(j:Int)/\j<m:=by
 have h1:=dq c (show(m:Int)≠0 by omega)
 have h2:=cP c (show(0:Int)<(m:Int) by omega)
 exact⟨(c%(m:Int)).toNat,by omega,by omega⟩
def b31:ba7 10 9:=⟨by decide,by decide,by decide +kernel⟩
def bv7(Z:Ao K t):OkD K bb4 (A1 K t) bl (t.f 0) (t.d 0) (Jz K t):=by
 refine A6 (b78 K t) λvs H Q E h=>?_
 .obtain⟨a,ns,k,rfl,hS,q⟩:=h;refine⟨rfl,?_⟩
  refine .inl ⟨_,.inl hS,Bf (λhlt=>?_) (λ_=>⟨.inl ⟨by decide,by decide⟩,q _⟩)⟩
  have hlt:(k:Int)<((ns.map V.int).length:Int):=of_decide_eq_true hlt
  have hk:k<ns.length:=by rw[af] at hlt;omega
  refine⟨_,.int ns[k],.inl hS,?_,q _⟩
  exact Fl (by rw[au,am hk];rfl)
def bj3(Z:Ao K t):OkD K ab9 (A1 K t) bl (t.f 1) (t.d 1) (F7 K t):=by
 refine A6 (b23 K t) λvs H Q E h=>?_
 .obtain⟨c,k,rfl,hk,q⟩:=h;refine⟨rfl,?_⟩
  refine⟨by decide,.inl ⟨by decide,by decide⟩,.inr ⟨by decide,by decide⟩,by decide,?_⟩
  have qq:∀r:Int,0<=r->r=bu0 ((c%1000000007+7919*(k:Int))*48271%2147483647)->Q (.int r) H:=q
  clear q
  have w1:=dq ((c%1000000007+7919*(k:Int))*48271) (show(2147483647:Int)≠0 by decide)
  have w2:=cP ((c%1000000007+7919*(k:Int))*48271) (show(0:Int)<2147483647 by decide)
  generalize (c%1000000007+7919*(k:Int))*48271%2147483647=n at w1 w2 qq ⊢
  refine⟨.inl ⟨by omega,by omega⟩,by decide,?_⟩
  have qq:∀r:Int,0<=r->r=bt9 (n*n%2147483629)->Q (.int r) H:=qq
  have v1:=dq (n*n) (show(2147483629:Int)≠0 by decide)
  have v2:=cP (n*n) (show(0:Int)<2147483629 by decide)
  generalize n*n%2147483629=m at v1 v2 qq ⊢
  refine⟨.inl ⟨by omega,by omega⟩,by decide,⟨by decide,by decide⟩,qq _ ?_ rfl⟩
  have u1:=dq (m*(m+3)) (show(2147483587:Int)≠0 by decide)
  omega
def bi5(Z:Ao K t):OkD K ab1 (A1 K t) bl (t.f 3) (t.d 3) (F6 K t):=by
 refine A6 (b15 K t) λvs H Q E h=>?_
 .obtain⟨c,k,rfl,hk,q⟩:=h;refine⟨rfl,?_⟩
  refine⟨by decide,Bf (λ_=>?_) (λ_=>?_)⟩
  .refine⟨⟨by decide,by decide⟩,.inl ⟨by decide,by decide⟩,by omega,(show 2<=sizeLine by decide),λp hp=>.inl ⟨p,_,rfl,.inr (SqT.of Ab),rfl,rfl,?_⟩⟩
   have S1:=Same.upd (o:=.tup [.int 0,.int (-1)]) hp
   refine Bf (λ_=>?_) (λ_=>?_)
   .exact⟨⟨by decide,by decide⟩,.inl ⟨by decide,by decide⟩,by omega,q _ _ S1⟩
   .exact⟨⟨by decide,by decide⟩,_,k,rfl,hk,λr _ _=>q r _ S1⟩
  .exact⟨⟨by decide,by decide⟩,_,k,rfl,hk,λr _ _=>q r _ (Same.refl _)⟩
end
end K72
namespace K72
open PySem L2
def En(r:List Str):noL (Ea r)=true:=by unfold Ea noL;exact Bn (λz=>by unfold Av noL;rfl) r
def Qa{xs:List Str}{v:V}(h:v∈xs.map V.str):∃z∈xs,v=.str z:=by
 obtain⟨z,m,rfl⟩:=List.mem_map.mp h
 exact⟨z,m,rfl⟩
def ax4(i:Nat)(h:i<4):∃d:Int,atI [V.int 1,.int 3,.int 9,.int 27] (i:Int)=some (.int d)/\ba6 0 d:=by
 match i,h with
 |0,_=>exact⟨1,rfl,by decide,by decide⟩
 |1,_=>exact⟨3,rfl,by decide,by decide⟩
 |2,_=>exact⟨9,rfl,by decide,by decide⟩
 |3,_=>exact⟨27,rfl,by decide,by decide⟩
section
variable {P:a7}{w:bL}{K:ae}{mg:Str->Option aj}{base:Heap}{t:Adr}
def bv8(Z:Ao K t):OkD K bb5 (A1 K t) bl (t.f 4) (t.d 4) (Sa K t):=by
 refine A6 (b79 K t) λvs H Q E h=>?_
 .obtain⟨z,n,c,rfl,hn,k⟩:=h;refine⟨rfl,?_⟩
  refine Bf (c:=(!decide (z="table"))=true) (λnt=>?_) (λnt=>?_)
  .refine .inr ⟨by decide +kernel,by decide,by decide,by decide +kernel,by decide +kernel,(show 6<=sizeLine by decide),λp hp=>?_⟩
   obtain⟨v,hv,ev⟩:=atM (xs:=([("" : Str),"a","b"," |~", bp7 "a" (hX 60),"10"].map V.str)) c 6 rfl (by decide)
   obtain⟨y,_,rfl⟩:=Qa hv
   exact⟨by decide,_,_,.inl (SqL.of Ab),ev,k (.txt y) _ _ (Same.upd hp) (by simpa [Fy] using nt) A4⟩
  .refine⟨aF hn (by decide),⟨by decide,by decide⟩,by decide,?_⟩
   refine⟨(show 0<=sizeLine by decide),λlr hlr=>?_⟩
   have S1:=Same.upd (o:=.lst []) hlr
   have er:upd H lr (.lst []) lr=some (.lst []):=Ab
   generalize upd H lr (.lst [])=H1 at S1 er ⊢
   refine⟨by decide,?_⟩
   generalize ((n.length:Int)+if(if false=true then !decide (c/81%6=5) else decide (c/81%6=5))=true then 1 else 0)=sh
   obtain⟨m,em,hm⟩:=K3 sh (m:=2) (by decide)
   have em:sh%2=(m:Int):=em
   obtain⟨n2,en,hn2⟩:=K3 (sh/2) (m:=2) (by decide)
   have en:sh/2%2=(n2:Int):=en
   rw[em]
   refine⟨⟨by omega,by omega⟩,?_⟩
   rw[show(1+(m:Int)).toNat=m+1 by omega]
   refine Bm (Cj 0 (m+1)) (λi σ H'=>(∃v5 v6 v7,σ=[some (.str z),some (.str n),some (.int c),some (.int sh),some (.ref lr),v5,v6,v7])/\Same H H'/\∃ys rs,H' lr=some (.lst ys)/\rs.length=i/\(∀r∈rs,r.length=n2+1/\∀c∈r,c∈cellS)/\AtL K H' (rs.map Ea) ys)
    ⟨⟨_,_,_,rfl⟩,S1,[],[],er,rfl,(λr h=>by cases h),Ar⟩ (λ_ _ _ _ _=>be) ?_ ?_
   .rintro i x σ H2 hx ⟨⟨v5,v6,v7,rfl⟩,S2,ys,rs,er2,ly,lo,az⟩
    have ly2:=az.length
    rw[af] at ly2
    obtain⟨hi,rfl⟩:=Dq hx
    refine⟨(show 0<=sizeLine by decide),λlc hlc=>?_⟩
    have S3:=Same.upd (o:=.lst []) hlc
    have ec:upd H2 lc (.lst []) lc=some (.lst (([]:List Str).map V.str)):=Ab
    generalize upd H2 lc (.lst [])=H3 at S3 ec ⊢
    refine⟨⟨by decide,by decide⟩,by decide,?_⟩
    rw[en]
    refine⟨⟨by omega,by omega⟩,?_⟩
    rw[show(1+(n2:Int)).toNat=n2+1 by omega]
    refine Bm (Cj 0 (n2+1)) (λj σ H'=>(∃v7,σ=[some (.str z),some (.str n),some (.int c),some (.int sh),some (.ref lr),some (.int (i:Int)),some (.ref lc),v7])/\Same H2 H'/\∃cs:List Str,H' lc=some (.lst (cs.map V.str))/\cs.length=j/\∀c∈cs,c∈cellS)
     ⟨⟨_,rfl⟩,S3,[],ec,rfl,λc h=>by cases h⟩ (λ_ _ _ _ _=>be) ?_ ?_
    .rintro j x σ H4 hx ⟨⟨v7,rfl⟩,S4,cs,ec4,lcs,lo4⟩
     obtain⟨hj,rfl⟩:=Dq hx
     refine⟨.inl ⟨rfl,_,SqL.of ec4⟩,(show 3<=sizeLine by decide),λp3 hp3=>⟨(show 4<=sizeLine by decide),λp4 hp4=>⟨.inl ⟨by decide,by decide⟩,?_⟩⟩⟩
     have S5:=Same.upd (o:=.lst [.str "", .str "x", .str "y/|"]) hp3
     have e5:upd H4 p3 (.lst [.str "", .str "x", .str "y/|"]) p3=some (.lst [.str "", .str "x", .str "y/|"]):=Ab
     generalize upd H4 p3 (.lst [.str "", .str "x", .str "y/|"])=H5 at S5 e5 hp4 ⊢
     have S6:=Same.upd (o:=.lst [.int 1,.int 3,.int 9,.int 27]) hp4
     have e6:upd H5 p4 (.lst [.int 1,.int 3,.int 9,.int 27]) p4=some (.lst [.int 1,.int 3,.int 9,.int 27]):=Ab
     generalize upd H5 p4 (.lst [.int 1,.int 3,.int 9,.int 27])=H6 at S6 e6 ⊢
     obtain⟨dv,ed,cd⟩:=ax4 (2*i+j) (by omega)
     have ed:atI [V.int 1,.int 3,.int 9,.int 27] (2*(i:Int)+(j:Int))=some (.int dv):=by
      rw[<- ed]
      congr 1
     obtain⟨v,hv,ev⟩:=atM (xs:=([("" : Str),"x","y/|"].map V.str)) (c/dv) 3 rfl (by decide)
     obtain⟨y,my,rfl⟩:=Qa hv
     refine⟨_,_,.inl (SqL.of e6),ed,cd,by decide,_,_,.inl (SqL.of (S6 _ _ e5)),ev,?_⟩
     have S46:=S5.trans S6
     refine⟨lc,_,_,rfl,rfl,S46 _ _ ec4,?_,⟨_,rfl⟩,(S4.trans S46).set hlc,cs++[y],by rw[Ab,aw];rfl,by rw[ak,lcs];rfl,λc h=>(List.mem_append.mp h).elim (lo4 c) λh=>List.mem_singleton.mp h▸my⟩
     rw[af]
     exact aZ (show _<=10 by omega) (by decide)
    .rintro σ H4 ⟨⟨v7,rfl⟩,S4,cs,ec4,lcs,lo4⟩
     rw[Bh] at lcs
     have er4:=S4 _ _ er2
     refine .inl ⟨.inl ⟨rfl,_,SqL.of er4⟩,_,.inl ⟨SqL.of ec4,λq hq=>?_⟩⟩
     have S5:=S4.trans (Same.upd (o:=.tup (cs.map V.str)) hq)
     have eq:upd H4 q (.tup (cs.map V.str)) q=some (.tup (cs.map V.str)):=Ab
     generalize upd H4 q (.tup (cs.map V.str))=H5 at S5 eq ⊢
     have er5:=S5 _ _ er2
     have tk:TKeep K H5 (upd H5 lr (.lst (ys++[.ref q]))):=TKeep.lst er5
     refine⟨lr,ys,_,rfl,rfl,er5,aZ (show _<=10 by omega) (by decide),⟨_,_,_,rfl⟩,(S2.trans S5).set hlr,_,rs++[cs],Ab,by rw[ak,ly];rfl,λr h=>(List.mem_append.mp h).elim (lo r) λh=>List.mem_singleton.mp h▸⟨lcs,lo4⟩,?_⟩
     rw[aw]
     exact E1 (A8 tk (Bn En rs) (Aw S5 az)) (Aj (Gn tk (En cs) (Oq (SqT.of eq))) Ar)
   .rintro σ H2 ⟨⟨v5,v6,v7,rfl⟩,S2,ys,rs,er2,ly,lo,az⟩
    rw[Bh] at ly
    exact .inl ⟨_,.inl ⟨SqL.of er2,λq hq=>k (.tab rs) _ _ (S2.trans (Same.upd hq)) ⟨by simpa using nt,_,_,by omega,by omega,ly,lo⟩ (Cw (SqT.of Ab) (Aw (Same.upd hq) az))⟩⟩
end
def av8{α:Type}{xs:List α}(i:Int)(h:xs≠[]):∃v,v∈xs/\atI xs (i%(xs.length:Int))=some v:=by
 have hl:0<xs.length:=List.length_pos_iff.mpr h
 exact atM i _ rfl (by omega)
theorem Nz{α β:Type}(f:α->β):∀(l:List α)(j:Nat),(l.map f).eraseIdx j=(l.eraseIdx j).map f
 |[],j=>by cases j <;> rfl
 |a::l,0=>rfl
 | a::l,j+1=>by
  show f a::(l.map f).eraseIdx j=f a::(l.eraseIdx j).map f
  rw[Nz f l j]
section
variable {P:a7}{w:bL}{K:ae}{mg:Str->Option aj}{base:Heap}{t:Adr}
def bh8(Z:Ao K t):OkD K aa3 (A1 K t) bl (t.f 5) (t.d 5) (U7 K t):=by
 refine A6 (b08 K t) λvs H Q E h=>?_
 .obtain⟨c,l,zs,rfl,hl,hz,k⟩:=h;refine⟨rfl,?_⟩
  refine .inl ⟨_,.inl (SqL.of hl),λlf hlf=>⟨(show 0<=sizeLine by decide),λlo hlo=>?_⟩⟩
  have S1:=Same.upd (o:=.lst (zs.map V.str)) hlf
  have e1:upd H lf (.lst (zs.map V.str)) lf=some (.lst (zs.map V.str)):=Ab
  generalize upd H lf (.lst (zs.map V.str))=H1 at S1 e1 hlo ⊢
  have ho0:=S1.free hlo
  have S2:=S1.trans (Same.upd (o:=.lst []) hlo)
  have e2:upd H1 lo (.lst []) lo=some (.lst (([]:List Str).map V.str)):=Ab
  have e12:=Same.upd (o:=.lst []) hlo _ _ e1
  have ne:lf≠lo:=λc=>by rw[c,hlo] at e1;cases e1
  generalize upd H1 lo (.lst [])=H2 at S2 e2 e12 ⊢
  refine .inl ⟨_,.inl (SqL.of (S2 _ _ hl)),?_⟩
  rw[af]
  refine⟨⟨by omega,by omega⟩,?_⟩
  rw[bB]
  refine Bm (Cj 0 zs.length) (λi σ H'=>(∃v4,σ=[some (.int c),some (.ref l),some (.ref lf),some (.ref lo),v4])/\Same H H'/\∃ls os:List Str,H' lf=some (.lst (ls.map V.str))/\H' lo=some (.lst (os.map V.str))/\(os++ls).Perm zs/\os.length=i)
   ⟨⟨_,rfl⟩,S2,zs,[],e12,e2,.refl _,rfl⟩ (λ_ _ _ _ _=>be) ?_ ?_
  .rintro i x σ H3 hx ⟨⟨v4,rfl⟩,S3,ls,os,el,eo,pm,lo'⟩
   obtain⟨hi,rfl⟩:=Dq hx
   have ll:=pm.length_eq
   rw[ak] at ll
   have lpos:ls≠[]:=λc=>by rw[c,List.length_nil] at ll;omega
   refine⟨.inl ⟨rfl,_,SqL.of eo⟩,⟨.inl ⟨rfl,_,SqL.of el⟩,c,40+i,(by rw[cR];rfl),by omega,λr H4 S4=>.inl ⟨_,.inl (SqL.of (S4 _ _ el)),?_⟩⟩⟩
   rw[af]
   have hp:0<(ls.length:Int):=by have:=List.length_pos_iff.mpr lpos;omega
   refine⟨hp,?_⟩
   have r1:=dq r (show(ls.length:Int)≠0 by omega)
   have r2:=cP r hp
   obtain⟨j,ej⟩:=cQ r1
   have hj:j<ls.length:=by omega
   have el4:=S4 _ _ el
   have eo4:=S4 _ _ eo
   refine .inr ⟨lf,ls.map V.str,_,j,.str ls[j],rfl,rfl,el4,by omega,by omega,?_,by rw[au,am hj];rfl,?_⟩
   .rw[af,mf r1 r2,ej];rfl
   have S5:Same H (upd H4 lf (.lst ((ls.map V.str).eraseIdx j))):=(S3.trans S4).set hlf
   have el5:upd H4 lf (.lst ((ls.map V.str).eraseIdx j)) lf=some (.lst ((ls.eraseIdx j).map V.str)):=by rw[Ab,Nz]
   have eo5:upd H4 lf (.lst ((ls.map V.str).eraseIdx j)) lo=some (.lst (os.map V.str)):=by rw[Ah (bx ne)];exact eo4
   generalize upd H4 lf (.lst ((ls.map V.str).eraseIdx j))=H5 at S5 el5 eo5 ⊢
   refine⟨lo,_,_,rfl,rfl,eo5,?_,⟨_,rfl⟩,S5.set ho0,ls.eraseIdx j,os++[ls[j]],by rw[Ah ne];exact el5,by rw[Ab,aw];rfl,?_,by rw[ak,lo'];rfl⟩
   .rw[af,lo'];exact aH (show i<10 by omega) (by decide)
   .rw[ck]
    exact((Qb hj).append_left os).trans pm
  .rintro σ H3 ⟨⟨v4,rfl⟩,S3,ls,os,el,eo,pm,lo'⟩
   rw[Bh] at lo'
   have ll:=pm.length_eq
   rw[ak] at ll
   have:ls=[]:=cJ (by omega)
   rw[this,bG] at pm
   exact .inl (k H3 lo os S3 eo pm)
def bg7(Z:Ao K t):OkD K Z5 (A1 K t) bl (t.f 6) (t.d 6) (Lw K t):=by
 refine A6 (bz6 K t) λvs H Q E h=>?_
 .obtain⟨d,R,z,c,n,l,rfl,hR,few,nd,hz,hn,⟨ks,kl,kk,hl⟩,k⟩:=h;refine⟨rfl,?_⟩
  refine⟨.inl ⟨by decide,by decide⟩,c,4*n+1,(by rw[cR,gA];rfl),by omega,λnu H1 S1=>?_⟩
  obtain⟨v,hv,ev⟩:=atM (xs:=ks.map V.str) nu 4 (by rw[af,kl];rfl) (by decide)
  obtain⟨kd,mk,rfl⟩:=Qa hv
  refine⟨by decide,_,_,.inl (SqL.of (S1 _ _ hl)),ev,?_⟩
  refine⟨(show 1<=sizeLine by decide),λb1 hb1=>?_⟩
  have S2:=S1.trans (Same.upd (o:=.lst [.str ""]) hb1)
  have e2:upd H1 b1 (.lst [.str ""]) b1=some (.lst [.str ""]):=Ab
  generalize upd H1 b1 (.lst [.str ""])=H2 at S2 e2 ⊢
  obtain⟨kvs,ed0,g0⟩:=hR
  have ed:=S2 _ _ ed0
  have g:=g0.keep (TKeep.of S2)
  refine .inr (.inr (.inl (.inl ⟨kvs,ed,λo L hL=>?_⟩)))
  have bF:But d H2 (upd H2 d (.frz o (.dK kvs))):=But.upd
  have ef:upd H2 d (.frz o (.dK kvs)) d=some (.frz o (.dK kvs)):=Ab
  have nb:b1≠d:=λc=>by rw[c,ed] at e2;cases e2
  have e2f:=bF _ _ nb e2
  have gF:=g.keep (bF.tk ed)
  generalize upd H2 d (.frz o (.dK kvs))=Hf at bF ef e2f gF hL ⊢
  have kn:=gF.names
  refine Cb (Ss kvs) (λi σ' H'=>(∃v,σ'=[v,some (.ref d)])/\Same Hf H'/\∃ps:List Str,H' L=some (.lst (ps.map V.str))/\ps.length<=i/\∀y∈ps,∃q,get R y=some q/\q.kd="chapter") ⟨⟨_,rfl⟩,Same.upd hL,[],Ab,ag _,(λy hy=>by cases hy)⟩ (λi σ' H' _ h=>h.2.1 _ _ ef) ?_ ?_
  .rintro i x σ' H3 hx ⟨⟨v,rfl⟩,S3,ps,eL,lp,ap⟩
   rw[kn,au] at hx
   obtain⟨y,hy,rfl⟩:=Option.map_eq_some_iff.mp hx
   have hi:i<(keys R).length:=(List.getElem?_eq_some_iff.mp hy).1
   rw[Am] at hi
   have hh:=mem_keys.mp (aI hy)
   have hR3:RdAt K H3 d R:=⟨kvs,.inr ⟨o,S3 _ _ ef⟩,gF.keep (TKeep.of S3)⟩
   obtain⟨q,c2,dg,hq,_⟩:=hR3.get hh
   refine⟨_,dg,_,_,.inr hq,rfl,Bf (c:=decide ((Ak R y).kd="chapter")=true) (λg=>?_) (λg=>?_)⟩
   .refine⟨_,eL,by rw[af];exact aZ (show _<=10 by omega) (by decide),⟨_,rfl⟩,S3.set hL,ps++[y],by rw[Ab,aw];rfl,by rw[ak];exact dB lp,λy' hy'=>?_⟩
    rcases List.mem_append.mp hy' with h|h
    .exact ap y' h
    .rw[List.mem_singleton.mp h];exact⟨_,Ax hh,of_decide_eq_true g⟩
   .exact⟨⟨_,rfl⟩,S3,ps,eL,i4 lp,ap⟩
  .rintro σ' H3 ⟨_,S3,ps,eL,lp,ap⟩
   rw[af,gF.len] at lp
   refine .inl ⟨b1,L,_,_,rfl,rfl,S3 _ _ e2f,eL,?_,λM hM=>.inr ⟨d,o,kvs,S1 _ _ ed0,(S3.trans (Same.upd hM)) _ _ ef,?_⟩⟩
   .rw[af];exact aF (show 1+_<=9 by omega) (by decide)
   have S4:=S3.trans (Same.upd (o:=.lst ([.str ""]++ps.map V.str)) hM)
   have eM:upd H3 M (.lst ([.str ""]++ps.map V.str)) M=some (.lst ((("" : Str)::ps).map V.str)):=Ab
   generalize upd H3 M (.lst ([.str ""]++ps.map V.str))=H4 at S4 eM ⊢
   have nM:M≠d:=λc=>by rw[c,S4 _ _ ef] at eM;cases eM
   have eM:upd H4 d (.dK kvs) M=some (.lst ((("" : Str)::ps).map V.str)):=by rw[Ah nM];exact eM
   have S4:Same H (upd H4 d (.dK kvs)):=Ql ed0 ((But.of S2).trans bF) S4
   generalize upd H4 d (.dK kvs)=H4 at S4 eM ⊢
   obtain⟨v,hv,ev⟩:=av8 (xs:=(("" : Str)::ps).map V.str) (nu/4) (by simp)
   obtain⟨pr,hpr,rfl⟩:=List.mem_map.mp hv
   refine⟨⟨by decide,by decide⟩,.inl ⟨_,.inl (SqL.of eM),by rw[af,aT];omega,_,_,.inl (SqL.of eM),ev,?_⟩⟩
   refine⟨⟨by decide,by decide⟩,by decide,b31,(show 4<=sizeLine by decide),λb2 hb2=>⟨⟨by decide,by decide⟩,by decide,?_⟩⟩
   obtain⟨v2,hv2,ev2⟩:=atM (xs:=([(0:Int),1,nu/64%10,10^hX 9].map V.int)) (nu/16) 4 rfl (by decide)
   obtain⟨rk,_,rfl⟩:=List.mem_map.mp hv2
   refine⟨_,_,.inl (SqL.of Ab),ev2,?_⟩
   have S5:=S4.trans (Same.upd (o:=.lst ([(0:Int),1,nu/64%10,10^hX 9].map V.int)) hb2)
   refine⟨.inl ⟨by decide,by decide⟩,c,4*n+2,(by rw[cR,gA];rfl),by omega,λr H6 S6=>⟨kd,z,r,rfl,hz,λD H7 y S7 ct aD=>⟨(show 4<=sizeLine by decide),λb hb=>?_⟩⟩⟩
   have S8:=((S5.trans S6).trans S7).trans (Same.upd (o:=.tup [.str kd,.str pr,.int rk,y]) hb)
   have eb:upd H7 b (.tup [.str kd,.str pr,.int rk,y]) b=some (.tup [.str kd,.str pr,.int rk,y]):=Ab
   have aD:=A3 (Same.upd (o:=.tup [.str kd,.str pr,.int rk,y]) hb) aD
   generalize upd H7 b (.tup [.str kd,.str pr,.int rk,y])=H8 at S8 eb aD ⊢
   refine k _ _ ⟨kd,pr,rk,D⟩ S8 ⟨b,y,rfl,SqT.of eb,aD⟩ ⟨kk kd mk,ct⟩ ?_
   rcases List.mem_cons.mp hpr with h|h
   .exact .inl h
   .exact .inr (ap pr h)
end
def pos:List Str->Str->Nat
 |[],_=>0
 |k::ks,z=>if k=z then 0 else pos ks z+1
theorem Ii:∀{ks:List Str}{z:Str} (l:List Str),z∈ks->pos (ks++l) z=pos ks z/\pos ks z<ks.length
 |[],_,_,h=>by cases h
 | k::ks,z,l,h=>by
  rw[dS]
  unfold pos
  by_cases e:k=z
  .rw[if_pos e,if_pos e];exact⟨rfl,Nat.zero_lt_succ _⟩
  .rw[if_neg e,if_neg e]
   have ih:=Ii l ((List.mem_cons.mp h).resolve_left (bx e))
   exact⟨by rw[ih.1],Nat.succ_lt_succ ih.2⟩
theorem Xg:∀{ks:List Str}{z:Str},z∉ks->pos (ks++[z]) z=ks.length
 |[],z,_=>if_pos rfl
 | k::ks,z,h=>by
  rw[dS]
  unfold pos
  rw[if_neg (λ(e:k=z)=>h (e▸aY)),Xg (λm=>h (aK _ m))]
  rfl
def Pok(R:Rs)(p:Str):Prop:=p="" \/ ∃q,get R p=some q/\q.kd="chapter"
structure Sd (ys:List Str) (i:Nat) (R:Rs):Prop where
 nd:(keys R).Nodup
 sub:∀z∈keys R,z∈ys.take i
 hd:Held R
 up:∀z r,get R z=some r->r.pr="" \/ pos (keys R) r.pr<pos (keys R) z
 gd:Gds R
def Sd.start(ys:List Str):Sd ys 0 []:=⟨eE,(λz h=>by cases h),(λz r h=>by cases h),(λz r h=>by cases h),λz r h=>by cases h⟩
def Sd.skip{ys:List Str}{i:Nat}{R:Rs}{z:Str}(S:Sd ys i R)(hz:ys[i]?=some z):Sd ys (i+1) R:=
 ⟨S.nd,λy hy=>by rw[bj];exact List.mem_append.mpr (.inl (S.sub y hy)),S.hd,S.up,S.gd⟩
def Sd.put{ys:List Str}{i:Nat}{R:Rs}{z:Str}{r:Rc}(S:Sd ys i R)(nd:ys.Nodup)(hz:ys[i]?=some z)(hp:Pok R r.pr)(hg:Gd r):Sd ys (i+1) (Dy R z r):=by
 have nz:z∉keys R:=λh=>Gh nd hz (S.sub z h)
 have nh:¬ has R z=true:=λh=>nz (mem_keys.mpr h)
 have ek:keys (Dy R z r)=keys R++[z]:=by rw[Q5,if_neg nh]
 have old:∀{p:Str}{q:Rc},get R p=some q->get (Dy R z r) p=some q:=λ{p q} h=>by
  rw[Kg,if_neg (λ(e:z=p)=>nh (e▸Bs h))]
  exact h
 refine⟨bm8 S.nd,λy hy=>?_,λy q h=>?_,λy q h=>?_,λy q h=>?_⟩
 .rw[ek] at hy
  rw[bj,hz]
  rcases List.mem_append.mp hy with h|h
  .exact List.mem_append.mpr (.inl (S.sub y h))
  .exact List.mem_append.mpr (.inr (by simpa using h))
 .rw[Kg] at h
  split at h
  .cases h
   rcases hp with e|⟨q,e,k⟩
   .exact .inl e
   .exact .inr ⟨q,old e,k⟩
  .rcases S.hd y q h with e|⟨q,e,k⟩
   .exact .inl e
   .exact .inr ⟨q,old e,k⟩
 .rw[Kg] at h
  rw[ek]
  split at h
  .rename_i e
   cases h
   subst e
   rcases hp with e|⟨q,e,k⟩
   .exact .inl e
   .have m:=mem_keys.mpr (Bs e)
    have:=Ii [z] m
    rw[Xg nz,this.1]
    exact .inr this.2
  .rcases S.up y q h with e|e
   .exact .inl e
   .have m:=Ii [z] (mem_keys.mpr (Bs h))
    rcases S.hd y q h with e2|⟨q2,e2,_⟩
    .exact .inl e2
    .have m2:=Ii [z] (mem_keys.mpr (Bs e2))
     rw[m.1,m2.1]
     exact .inr e
 .rw[Kg] at h
  split at h
  .cases h;exact hg
  .exact S.gd y q h
def Sd.tr{ys:List Str}{i:Nat}{R:Rs}(S:Sd ys i R)(l8:ys.length<=8)(ne:("" : Str)∉ys):TrC R:=by
 have len:R.length<=8:=by
  have:=Do S.nd λz hz=>dD (S.sub z hz)
  rw[Am] at this
  omega
 refine⟨⟨S.nd,by omega,λh=>ne (dD (S.sub _ h)),λz=>if z="" then 11 else 10-pos (keys R) z,λz=>?_,λz r h=>?_⟩,S.hd,len⟩
 .dsimp only
  split <;> omega
 .have mz:=mem_keys.mpr (Bs h)
  have z0:z ≠ "" := λe=>ne (dD (S.sub _ (e▸mz)))
  have pz:=(Ii [] mz).2
  rw[Am] at pz
  dsimp only
  rw[if_neg z0]
  rcases S.up z r h with e|e
  .rw[if_pos e];omega
  .rcases S.hd z r h with e2|⟨q,e2,_⟩
   .rw[if_pos e2];omega
   .have m:=mem_keys.mpr (Bs e2)
    have p0:r.pr ≠ "" := λc=>ne (dD (S.sub _ (c▸m)))
    rw[if_neg p0]
    omega
section
variable {P:a7}{w:bL}{K:ae}{mg:Str->Option aj}{base:Heap}{t:Adr}
noncomputable def X7:R_:=λK t=>Af (dIf (Gk (D4 K v9_) (Au (Ad Ut v7_ (m_ 3)))) (Af (Dw v8_ (Dk K v4_ v5_)) Ag) (Af (dIf (Gk (D4 K v9_) (Au (Ad (A0 K false) v7_ (m_ 3)))) (Af (Dw (Bp (Aa (Ad (Ai K) v8_ (m_ 0)) (p_ (Ad (Ai K) v8_ (m_ 1)) (Ad (Az K) (Ad Cp (Ad (Ai K) v8_ (m_ 2)) (m_ 2)) (m_ 1)) (Ad (Ai K) v8_ (m_ 3))))) (Dk K v4_ v5_)) Ag) (Af (dIf (Gk (D4 K v9_) (Au (Ad (A0 K false) v7_ (m_ 4)))) (Af (Aq 10 (q_ (Sa K t) (p_ (Ad (Ai K) v8_ (m_ 0)) v5_ (q_ (F6 K t) (o_ v0_ (Ad (Az K) (Ad (C8 K) (m_ 4) v6_) (m_ 2))))))) (Af (Dw (Bp (Aa (Ad (Ai K) v8_ (m_ 0)) (p_ (Ad (Ai K) v8_ (m_ 1)) (Ad (Ai K) v8_ (m_ 2)) v10_))) (Dk K v4_ v5_)) Ag)) (Af (dIf (Au (Ad Ut v7_ (m_ 7))) (Af (Dw (q_ (Lw K t) (Aa v4_ (Aa v5_ (p_ v0_ v6_ v3_)))) (Dk K v4_ v5_)) Ag) Ag) Ag)) Ag)) Ag)) Ag
def by5(Z:Ao K t){H:Hp}{ln de lk u:Addr}{c wy:Int}{j:Nat}{z:Str}{x:V}{hb:Bool}{v10:Option V}{R:Rs}{D:Outs}(hx:hb=true -> ∃r,RcAt K H r x/\Pok R r.pr/\Gd r)(hR:RsAt K H u R)(few:R.length<=8)(nd:(keys R).Nodup)(hz:z.length<=12)(hj:j<=8)(hk:ac2 H lk)(k:∀H' v R',But u H H'->RsAt K H' u R'->(R'=R \/ ∃r,R'=Dy R z r/\Pok R r.pr/\Gd r)->D.nx [some (.int c),some (.ref ln),some (.ref de),some (.ref lk),some (.ref u),some (.str z),some (.int (j:Int)),some (.int wy),some x,some (.bl hb),v] H') :
  X7 K t D [some (.int c),some (.ref ln),some (.ref de),some (.ref lk),some (.ref u),some (.str z),some (.int (j:Int)),some (.int wy),some x,some (.bl hb),v10] H:=by
 have last:∀D2:Outs,(∀H' v R',But u H H'->RsAt K H' u R'->(R'=R \/ ∃r,R'=Dy R z r/\Pok R r.pr/\Gd r)->D2.nx [some (.int c),some (.ref ln),some (.ref de),some (.ref lk),some (.ref u),some (.str z),some (.int (j:Int)),some (.int wy),some x,some (.bl hb),v] H') ->
   (dIf (Au (Ad Ut (Ac 7) (dC (.int 7)))) (Af (Dw (dFn (spE (Lw K t) []) (Aa (Ac 4) (Aa (Ac 5) (Aa (Ac 0) (Aa (Ac 6) (Aa (Ac 3) Ae)))))) (Dk K (Ac 4) (Ac 5))) Ag) Ag) D2 [some (.int c),some (.ref ln),some (.ref de),some (.ref lk),some (.ref u),some (.str z),some (.int (j:Int)),some (.int wy),some x,some (.bl hb),v10] H:=by
  intro D2 k2
  refine Bf (λ_=>?_) (λ_=>k2 H _ R (λ_ _ _ e=>e) hR (.inl rfl))
  refine⟨u,R,z,c,j,lk,rfl,hR,few,nd,hz,hj,hk,λH1 x1 r S1 hr gd pok=>?_⟩
  exact sto (hR.up S1) (by omega) hr λH2 B2 R2=>k2 H2 _ _ ((But.of S1).trans B2) R2 (.inr ⟨r,rfl,pok,gd⟩)
 cases hb with
 |false=>exact last _ λH' v R' b r o=>k H' v R' b r o
 |true=>
  obtain⟨r,hr,pok,gd⟩:=hx rfl
  obtain⟨q,y,rfl,h1,h2⟩:=id hr
  refine Bf (λ_=>?_) (λ_=>Bf (λ_=>?_) (λ_=>Bf (λ_=>?_) (λ_=>?_)))
  .exact sto hR (by omega) hr λH2 B2 R2=>k H2 _ _ B2 R2 (.inr ⟨r,rfl,pok,gd⟩)
  .refine⟨_,_,.inr h1,rfl,_,_,.inr h1,rfl,_,_,.inr h1,rfl,⟨by decide,by decide⟩,_,_,.inr h1,rfl,(show 4<=sizeLine by decide),λb hb=>?_⟩
   have S1:=Same.upd (o:=.tup [.str r.kd,.str r.pr,.int (r.rk/2+1),y]) hb
   exact sto (r:=⟨r.kd,r.pr,r.rk/2+1,r.ct⟩) (hR.up S1) (by omega) ⟨b,y,rfl,SqT.of Ab,A3 S1 h2⟩ λH2 B2 R2=>k H2 _ _ ((But.of S1).trans B2) R2 (.inr ⟨_,rfl,pok,gd⟩)
  .refine⟨_,_,.inr h1,rfl,.inl ⟨by decide,by decide⟩,c,4*j+2,(by rw[cR,gA];rfl),by omega,λn H1 S1=>⟨r.kd,z,n,rfl,hz,λD' H2 y2 S2 ct aD=>?_⟩⟩
   have h12:=(S1.trans S2).seqT h1
   refine⟨_,_,.inr h12,rfl,_,_,.inr h12,rfl,_,_,.inr h12,rfl,(show 4<=sizeLine by decide),λb hb=>?_⟩
   have S3:=Same.upd (o:=.tup [.str r.kd,.str r.pr,.int r.rk,y2]) hb
   have S13:=(S1.trans S2).trans S3
   exact sto (r:=⟨r.kd,r.pr,r.rk,D'⟩) (hR.up S13) (by omega) ⟨b,y2,rfl,SqT.of Ab,A3 S3 aD⟩ λH2 B2 R2=>k H2 _ _ ((But.of S13).trans B2) R2 (.inr ⟨_,rfl,pok,gd.1,ct⟩)
  .exact last _ λH' v R' b r o=>k H' v R' b r o
end
theorem Q0:∀{zs:List Str}{z:Str},z∈zs -> ∃j:Nat,j<(zs.map V.str).length/\eqV ((zs.map V.str).getD j .non) (.str z)=true/\∀m,m<j->eqV ((zs.map V.str).getD m .non) (.str z)=false
 |[],_,h=>by cases h
 | k::zs,z,h=>by
  by_cases e:k=z
  .exact⟨0,Nat.zero_lt_succ _,by show(k==z)=true;rw[e];exact beq_self_eq_true z,λm hm=>absurd hm (iy m)⟩
  .obtain⟨j,a,b,c⟩:=Q0 ((List.mem_cons.mp h).resolve_left (bx e))
   refine⟨j+1,Nat.succ_lt_succ a,b,λm hm=>?_⟩
   cases m with
   |zero=>show(k==z)=false;exact beq_eq_false_iff_ne.mpr e
   |succ m=>exact c m (jz hm)
def Yv(zs:List Str):(zs.map V.str).all Cf=true:=by
 rw[dA]
 intro v hv
 obtain⟨z,_,rfl⟩:=List.mem_map.mp hv
 rfl
section
variable {P:a7}{w:bL}{K:ae}{mg:Str->Option aj}{base:Heap}{t:Adr}
def Wr{H:Hp}{d:Addr}{S:Rs}(h:RsAt K H d S)(z:Str):∃o,Vz H d (.str z) o/\o.isSome=has S z/\∀r,get S z=some r -> ∃x,o=some x/\RcAt K H r x:=by
 obtain⟨kvs,ed,g⟩:=h
 refine⟨Bt kvs (.inr z),⟨kvs,.inr z,.inl ed,rfl,rfl⟩,g.isSome z,λr er=>g.some er⟩
def RsAt.ty{H:Hp}{d:Addr}{S:Rs}(h:RsAt K H d S):tyV K "dict" (.ref d) H:=by
 obtain⟨kvs,ed,g⟩:=h
 exact .inr (.inr (.inl ⟨rfl,.inl ⟨kvs,ed⟩⟩))
def bi9(Z:Ao K t):OkD K ab5 (A1 K t) bl (t.f 7) (t.d 7) (Ly K t):=by
 refine A6 (b19 K t) λvs H Q E h=>?_
 .obtain⟨c,ln,de,lk,zs,E',rfl,hn,nd,l8,ne,h12,hE,gE,hk,k⟩:=h;refine⟨rfl,?_⟩
  refine λu hu=>.inl ?_
  have S0:=Same.upd (o:=.dK []) hu
  have R0:RsAt K (upd H u (.dK [])) u []:=⟨[],Ab,rfl⟩
  generalize upd H u (.dK [])=H0 at S0 R0 ⊢
  refine⟨c,ln,zs,rfl,S0 _ _ hn,l8,λH1 lo ys S1 eo pm=>.inl ⟨⟨_,SqL.of eo⟩,?_⟩⟩
  have S01:=S0.trans S1
  have R1:=R0.up S1
  have nlo:lo≠u:=λe=>by obtain⟨kvs,ed,_⟩:=R1;rw[e,ed] at eo;cases eo
  have yn:ys.Nodup:=pm.nodup_iff.mpr nd
  have y8:ys.length<=8:=by rw[pm.length_eq];exact l8
  have y0:("" : Str)∉ys:=λh=>ne (pm.mem_iff.mp h)
  refine Bm (Bu (ys.map V.str)) (λi σ H'=>(∃v5 v6 v7 v8 v9 v10,σ=[some (.int c),some (.ref ln),some (.ref de),some (.ref lk),some (.ref u),v5,v6,v7,v8,v9,v10])/\But u H1 H'/\∃R,RsAt K H' u R/\Sd ys i R)
   ⟨⟨_,_,_,_,_,_,rfl⟩,(λ_ _ _ e=>e),[],R1,Sd.start ys⟩ (λi σ H' _ h=>SqL.of (h.2.1 _ _ nlo eo)) ?_ ?_
  .rintro i x σ H2 hx ⟨⟨v5,v6,v7,v8,v9,v10,rfl⟩,B2,R,hR,sd⟩
   rw[au] at hx
   obtain⟨z,hz,rfl⟩:=Option.map_eq_some_iff.mp hx
   have mz:z∈zs:=pm.mem_iff.mp (aI hz)
   have S2:Same H H2:=B2.same S01 hu
   obtain⟨j,hj,j1,j2⟩:=Q0 mz
   have hj8:j<8:=by rw[af] at hj;omega
   refine⟨.inl ⟨rfl,_,SqL.of (S2 _ _ hn)⟩,ln,_,_,rfl,rfl,S2 _ _ hn,rfl,Yv zs,j,hj,j1,j2,?_⟩
   refine⟨.inl ⟨by decide,by decide⟩,c,4*j+3,(by rw[cR,gA];rfl),by omega,λr H3 S3=>⟨by decide,?_⟩⟩
   have hE3:=hE.up (S2.trans S3)
   refine⟨hE3.ty,(show 4<=sizeLine by decide),λb hb=>?_⟩
   have S4:=S3.trans (Same.upd (o:=.tup [.str "", .str "none", .int 0,.str ""]) hb)
   generalize upd H3 b (.tup [.str "", .str "none", .int 0,.str ""])=H4 at S4 ⊢
   have hE4:=hE.up (S2.trans S4)
   have hR4:=hR.up S4
   have few:R.length<=8:=(sd.tr y8 y0).f8
   obtain⟨o,dg,os,og⟩:=Wr hE4 z
   refine⟨o,.inl dg,?_⟩
   have fin:∀(D:Outs)(v10:Option V),(∀hb H6 v R',But u H2 H6->RsAt K H6 u R'->Sd ys (i+1) R'->D.nx [some (.int c),some (.ref ln),some (.ref de),some (.ref lk),some (.ref u),some (.str z),some (.int (j:Int)),some (.int (r%8)),some (o.getD (.ref b)),some (.bl hb),v] H6) -> ∀(hb:Bool)(H5:Hp),Same H4 H5->(hb=true -> ∃r,RcAt K H5 r (o.getD (.ref b))/\Pok R r.pr/\Gd r)->X7 K t D [some (.int c),some (.ref ln),some (.ref de),some (.ref lk),some (.ref u),some (.str z),some (.int (j:Int)),some (.int (r%8)),some (o.getD (.ref b)),some (.bl hb),v10] H5:=?_
   .have fin:=λD a=>fin D v10 a
    refine .inr ⟨o,.inl dg,?_⟩
    show if o.isSome=true then _ else _
    rw[os]
    by_cases g:has E' z=true
    case neg=>rw[Bool.eq_false_iff.mpr g];exact fin _ (by exact λhb H6 v R' B r s=>⟨⟨_,_,_,_,_,_,rfl⟩,B2.trans B,R',r,s⟩) false H4 (λ_ _ e=>e) (λh=>by cases h)
    rw[g]
    obtain⟨x,ox,hx⟩:=og _ (Ax g)
    rw[ox] at fin ⊢
    obtain⟨q,y,rfl,q1,q2⟩:=id hx
    refine⟨_,_,.inr q1,rfl,?_⟩
    show if decide ((Ak E' z).pr="")=true then _ else _
    by_cases g0:(Ak E' z).pr=""
    .have g1:=decide_eq_true g0
     have this:=g0
     rw[g1]
     exact fin _ (by exact λhb H6 v R' B r s=>⟨⟨_,_,_,_,_,_,rfl⟩,B2.trans B,R',r,s⟩) true H4 (λ_ _ e=>e) (λ_=>⟨_,hx,.inl this,gE _ _ (Ax g)⟩)
    .rw[decide_eq_false g0]
     refine⟨hR4.ty,_,_,.inr q1,rfl,(show 2<=sizeLine by decide),λb2 hb2=>?_⟩
     have S5:=Same.upd (o:=.tup [.str "", .str ""]) hb2
     have e5:upd H4 b2 (.tup [.str "", .str ""]) b2=some (.tup [.str "", .str ""]):=Ab
     generalize upd H4 b2 (.tup [.str "", .str ""])=H5 at S5 e5 ⊢
     obtain⟨o2,dg2,os2,og2⟩:=Wr (hR4.up S5) (Ak E' z).pr
     refine⟨o2,.inl dg2,?_⟩
     cases o2 with
     |none=>exact⟨_,.str "", .inr (SqT.of e5),rfl,fin _ (by exact λhb H6 v R' B r s=>⟨⟨_,_,_,_,_,_,rfl⟩,B2.trans B,R',r,s⟩) (decide (("" : Str)="chapter")) H5 S5 (λh=>absurd (of_decide_eq_true h) (by decide))⟩
     |some x2=>
      have g2:has R (Ak E' z).pr=true:=os2.symm
      obtain⟨x3,e3,hx3⟩:=og2 _ (Ax g2)
      cases e3
      obtain⟨q',y',rfl,q1',_⟩:=hx3
      exact⟨_,.str (Ak R (Ak E' z).pr).kd,.inr q1',rfl,fin _ (by exact λhb H6 v R' B r s=>⟨⟨_,_,_,_,_,_,rfl⟩,B2.trans B,R',r,s⟩) (decide ((Ak R (Ak E' z).pr).kd="chapter")) H5 S5 (λh=>⟨_,hx.keep (TKeep.of S5),.inr ⟨_,Ax g2,of_decide_eq_true h⟩,gE _ _ (Ax g)⟩)⟩
   .intro D v10 hD hb H5 S5 hx
    have hR5:=hR4.up S5
    have S25:Same H2 H5:=S4.trans S5
    obtain⟨ks,kl,kk,hl⟩:=hk
    refine by5 Z hx hR5 few sd.nd (h12 z mz) (by omega) ⟨ks,kl,kk,(S2.trans S25) _ _ hl⟩ (λH6 v R' B6 hR6 way=>hD hb H6 v R' ((But.of S25).trans B6) hR6 ?_)
    rcases way with rfl|⟨r,rfl,pok,gd⟩
    .exact sd.skip hz
    .exact sd.put yn hz pok gd
  .rintro σ H2 ⟨⟨v5,v6,v7,v8,v9,v10,rfl⟩,B2,R,hR,sd⟩
   exact .inl (k H2 u R (B2.same S01 hu) hu hR ⟨sd.tr y8 y0,sd.gd,λz hz=>pm.mem_iff.mp (dD (sd.sub z hz))⟩)
end
def alpha:Str := "abcdefghijklmnopqrstuvwxyz0123456789."
def someN:List Str:=["chapter","para","table","top","1","10","2","a.",".","a","b","z9"]
def Gz(c:Nat):Str:=⟨#[c]⟩
def ofL(l:List Nat):Str:=⟨l.toArray⟩
def al(i:Int):Nat:=alpha.cps.toList.getD (i%37).toNat 0
theorem join_ones(l:List Nat):k4 (eA "") (l.map Gz)=ofL l:=by
 show Builtin.Str.glued (eA "") _=_
 rw[StrLaws.glued_eq_join,show eA ""=(⟨#[]⟩:Str) from by decide +kernel]
 exact PyProof.Rows.join_ones l
def Si(cs:List Nat):((cs.map Gz).map (·.length)).sum=cs.length:=by
 induction cs with
 |nil=>rfl
 |cons c cs ih=>
  rw[a8,a8,List.sum_cons,ih,aT]
  show 1+cs.length=cs.length+1
  omega
def W5(l:List Nat):(ofL l).length=l.length:=by unfold ofL;simp[Str.length]
def a02{l m:List Nat}(h:ofL l=ofL m):l=m:=by
 have:=congrArg (λz:Str=>z.cps.toList) h
 simpa [ofL] using this
def Oz{α:Type}(f:α->V)(l:List α)(n i:Nat):((l.map f).take n).drop i=((l.take n).drop i).map f:=by rw[<- List.map_take,<- List.map_drop]
def Qu:alpha.length<=sizeLine:=by decide +kernel
def a66(i:Int):atI alpha.cps.toList (i%37)=some (al i):=by
 have h1:=dq i (show(37:Int)≠0 by decide)
 have h2:=cP i (show(0:Int)<37 by decide)
 unfold al
 generalize i%37=j at h1 h2 ⊢
 obtain⟨m,rfl⟩:=cQ h1
 have hm:m<alpha.cps.toList.length:=by rw[show alpha.cps.toList.length=37 by decide +kernel];omega
 refine Fl (i:=m) ?_
 rw[am hm,aS,bB,am hm]
 rfl
def bc4:∀i,i<37 -> ∀j,j<37->alpha.cps.toList.getD i 0=alpha.cps.toList.getD j 0->i=j:=by decide +kernel
def ao4:∀i,i<12 -> ∀j,j<12->someN.getD i ""=someN.getD j "" -> i=j:=by decide +kernel
def ao5:∀i,i<12->1<=(someN.getD i "").length/\(someN.getD i "").length<=12:=by decide +kernel
structure Nm (nm:Nat->Str):Prop where
 inj:∀a b,a<b->b<8->nm a≠nm b
 len:∀a,a<8->1<=(nm a).length/\(nm a).length<=12
theorem Nm.nd{nm:Nat->Str}(N:Nm nm):∀{m:Nat},m<=8->((bi m).map nm).Nodup
 |0,_=>eE
 | m+1,h=>by
  rw[br,aw]
  refine List.nodup_append.mpr ⟨N.nd (by omega),by simp,λa ha b hb e=>?_⟩
  obtain⟨i,hi,rfl⟩:=List.mem_map.mp ha
  rw[gG,aC] at hb
  exact N.inj i m (List.mem_range.mp hi) (by omega) (e.trans hb)
def Nm.ok{nm:Nat->Str}(N:Nm nm){m:Nat}(h:m<=8):((bi m).map nm).length<=8/\("" : Str)∉(bi m).map nm/\∀z∈(bi m).map nm,z.length<=12:=by
 refine⟨by rw[af,bX];exact h,λhm=>?_,λz hz=>?_⟩
 .obtain⟨i,hi,e⟩:=List.mem_map.mp hm
  have:=(N.len i (by have:=List.mem_range.mp hi;omega)).1
  rw[e] at this
  exact absurd this (by decide +kernel)
 .obtain⟨i,hi,rfl⟩:=List.mem_map.mp hz
  exact(N.len i (by have:=List.mem_range.mp hi;omega)).2
def nm0(cs:List Nat)(n:Int)(k:Nat):Str:=ofL (cs.take (1+(n+5*(k:Int))%12).toNat)
def nm1(n:Int)(k:Nat):Str:=someN.getD ((n+(k:Int))%12).toNat ""
def nm2(cs:List Nat)(a b:Nat)(x:Int)(k:Nat):Str:=ofL ((cs.take a++[al (x+5*(k:Int))])++(cs.take b).drop (a+1))
def bg1{cs:List Nat}(h:cs.length=12)(n:Int):Nm (nm0 cs n):=by
 have l:∀k,(nm0 cs n k).length=(1+(n+5*(k:Int))%12).toNat:=λk=>by
  unfold nm0
  rw[W5,aX,h]
  omega
 refine⟨λa b ab hb e=>?_,λa ha=>by rw[l];omega⟩
 have:=congrArg Str.length e
 rw[l,l] at this
 omega
def bg2(n:Int):Nm (nm1 n):=by
 refine⟨λa b ab hb e=>?_,λa ha=>ao5 _ (by omega)⟩
 have:=ao4 _ (by omega) _ (by omega) e
 omega
def bg3{cs:List Nat}(h:cs.length=12){a b:Nat}(ha:a<12)(hb:a<b)(hb2:b<=12)(x:Int):Nm (nm2 cs a b x):=by
 refine⟨λi j ij hj e=>?_,λk hk=>?_⟩
 .unfold nm2 at e
  have e:=a02 e
  have e:=List.append_cancel_right e
  have e:=List.append_cancel_left e
  have e:al (x+5*(i:Int))=al (x+5*(j:Int)):=by injection e
  have:=bc4 _ (by omega) _ (by omega) e
  omega
 .unfold nm2
  rw[W5,ak,ak,aX,dW,aX,h,bK]
  omega
section
variable {P:a7}{w:bL}{K:ae}{mg:Str->Option aj}{base:Heap}{t:Adr}
def bh7(Z:Ao K t):OkD K aa2 (A1 K t) bl (t.f 2) (t.d 2) (U6 K t):=by
 refine A6 (b07 K t) λvs H Q E h=>?_
 .obtain⟨c,m,rfl,hm,k⟩:=h;refine⟨rfl,?_⟩
  have big:100<=sizeLine:=by decide
  refine⟨(show 12<=sizeLine by decide),λl hl=>?_⟩
  have S1:=Same.upd (o:=.lst (someN.map V.str)) hl
  have el:upd H l (.lst (someN.map V.str)) l=some (.lst (someN.map V.str)):=Ab
  refine⟨c,40,rfl,by decide,λn0 hn0 _=>⟨⟨by decide,by decide⟩,⟨⟨by decide,by decide⟩,λD hD=>?_⟩⟩⟩
  refine Cb (Cj 0 12) (λj σ' H'=>(∃v,σ'=[v,some (.int c),some (.str alpha)])/\Same (upd H l (.lst (someN.map V.str))) H'/\∃cs:List Nat,cs.length=j/\H' D=some (.lst (cs.map λc=>V.str (Gz c)))) ⟨⟨_,rfl⟩,Same.upd hD,[],rfl,Ab⟩ (λ_ _ _ _ _=>be) ?_ ?_
  .rintro j x σ' H5 hxj ⟨⟨v,rfl⟩,S5,cs,lc,e3⟩
   obtain⟨hj,rfl⟩:=Dq hxj
   refine⟨c,41+j,(by rw[cR];rfl),by omega,λr _ _=>⟨by decide,Qu,_,a66 r,?_⟩⟩
   refine⟨_,e3,?_,⟨_,rfl⟩,S5.set hD,cs++[al r],by rw[ak,lc];rfl,?_⟩
   .rw[af,lc];omega
   .rw[Ab,aw];rfl
  .rintro σ' H5 ⟨_,S5,cs,lc,e3⟩
   rw[Bh] at lc
   have S15:=S1.trans S5
   have el5:=S5 _ _ el
   refine⟨c,40,rfl,by decide,λn1 _ _=>⟨by decide,Bf (λ_=>?_) (λ_=>?_)⟩⟩
   .refine⟨⟨by omega,by omega⟩,λL hL=>?_⟩
    rw[bB]
    refine Cb (Cj 0 m) (λi σ' H'=>(∃v,σ'=[v,some (.ref D),some (.int (n0/3))])/\Same H5 H'/\H' L=some (.lst (((bi i).map (nm0 cs (n0/3))).map V.str))) ⟨⟨_,rfl⟩,Same.upd hL,Ab⟩ (λ_ _ _ _ _=>be) ?_ ?_
    .rintro i x σ' H6 hx ⟨⟨v,rfl⟩,S6,eL⟩
     obtain⟨hi,rfl⟩:=Dq hx
     refine⟨rfl,.inl ⟨by decide,by decide⟩,by decide,.inl ⟨_,0,(1+(n0/3+5*(i:Int))%12).toNat,SqL.of (S6 _ _ e3),.inl ⟨rfl,rfl⟩,(by rw[kJ (by omega)]),λp hp=>?_⟩⟩
     rw[Oz,List.drop_zero,show(cs.take (1+(n0/3+5*(i:Int))%12).toNat).map (λc=>V.str (Gz c))=((cs.take (1+(n0/3+5*(i:Int))%12).toNat).map Gz).map V.str from by rw[cF];rfl]
     refine⟨"", p,_,.inl rfl,rfl,.inl (SqL.of Ab),?_,?_⟩
     .rw[Si,aX,af,aX,lc,show("" : Str).length=0 by decide +kernel];omega
     rw[join_ones]
     refine⟨_,(Same.upd hp) _ _ eL,?_,⟨_,rfl⟩,(S6.trans (Same.upd hp)).set hL,?_⟩
     .rw[af,af,bX];omega
     .rw[Ab,br,aw,aw];rfl
    .rintro σ' H6 ⟨_,S6,eL⟩
     rw[Bh] at eL
     have N:=bg1 lc (n0/3)
     exact(k _ _ _ (S15.trans S6) eL (N.nd hm) (N.ok hm).1 (N.ok hm).2.1 (N.ok hm).2.2)
   .refine⟨c,40,rfl,by decide,λn2 _ _=>⟨by decide,Bf (λ_=>?_) (λ_=>?_)⟩⟩
    .refine⟨⟨by omega,by omega⟩,λL hL=>?_⟩
     rw[bB]
     refine Cb (Cj 0 m) (λi σ' H'=>(∃v,σ'=[v,some (.int (n0/3)),some (.ref l)])/\Same H5 H'/\H' L=some (.lst (((bi i).map (nm1 (n0/3))).map V.str))) ⟨⟨_,rfl⟩,Same.upd hL,Ab⟩ (λ_ _ _ _ _=>be) ?_ ?_
     .rintro i x σ' H6 hx ⟨⟨v,rfl⟩,S6,eL⟩
      obtain⟨hi,rfl⟩:=Dq hx
      have ev:atI (someN.map V.str) ((n0/3+(i:Int))%12)=some (.str (nm1 (n0/3) i)):=by
       unfold nm1
       have h1:=dq (n0/3+(i:Int)) (show(12:Int)≠0 by decide)
       have h2:=cP (n0/3+(i:Int)) (show(0:Int)<12 by decide)
       generalize (n0/3+(i:Int))%12=j at h1 h2 ⊢
       obtain⟨q,rfl⟩:=cQ h1
       have hq:q<someN.length:=by show q<12;omega
       refine Fl (i:=q) ?_
       rw[au,am hq,aS,bB,am hq]
       rfl
      refine⟨by decide,_,_,.inl (SqL.of (S6 _ _ el5)),ev,?_⟩
      refine⟨_,eL,?_,⟨_,rfl⟩,S6.set hL,?_⟩
      .rw[af,af,bX];omega
      .rw[Ab,br,aw,aw];rfl
     .rintro σ' H6 ⟨_,S6,eL⟩
      rw[Bh] at eL
      have N:=bg2 (n0/3)
      exact(k _ _ _ (S15.trans S6) eL (N.nd hm) (N.ok hm).1 (N.ok hm).2.1 (N.ok hm).2.2)
    .refine⟨by decide,⟨by decide,by decide⟩,by omega,?_⟩
     have a0:0<=n0/3%12/\n0/3%12<12:=by omega
     have p1:=dq (n0/3/12) (show 12-n0/3%12≠0 by omega)
     have p2:=cP (n0/3/12) (show 0<12-n0/3%12 by omega)
     generalize n0/3%12=A at a0 p1 p2 ⊢
     generalize n0/3/12%(12-A)=B at p1 p2 ⊢
     obtain⟨a,rfl⟩:=cQ a0.1
     obtain⟨b0,rfl⟩:=cQ p1
     have ha:a<12:=by omega
     have hb1:a<a+1+b0:=by omega
     have hb2:a+1+b0<=12:=by omega
     have eb:(a:Int)+1+(b0:Int)=((a+1+b0:Nat):Int):=by omega
     generalize hb:a+1+b0=b at hb1 hb2 eb
     refine⟨(show 0<=sizeLine by decide),λf hf=>⟨⟨by omega,by omega⟩,?_⟩⟩
     rw[bB]
     refine Bm (Cj 0 m) (λi σ' H'=>(∃v6 v10,σ'=[some (.int c),some (.int (m:Int)),some (.str alpha),some (.ref l),some (.int (n0/3)),some (.ref D),v6,some (.int (a:Int)),some (.int ((a:Int)+1+(b0:Int))),some (.ref f),v10])/\Same H5 H'/\H' f=some (.lst (((bi i).map (nm2 cs a b (Ld c (41+a)))).map V.str))) ⟨⟨_,_,rfl⟩,Same.upd hf,Ab⟩ (λ_ _ _ _ _=>be) ?_ ?_
     .rintro i x σ' H6 hx ⟨⟨v6,v10,rfl⟩,S6,eL⟩
      obtain⟨hi,rfl⟩:=Dq hx
      refine⟨c,41+a,(by rw[cR];rfl),by omega,λr _ er=>⟨.inl ⟨by decide,by decide⟩,by decide,Qu,_,a66 (r+5*(i:Int)),?_⟩⟩
      subst er
      refine⟨.inl ⟨rfl,_,SqL.of eL⟩,rfl,.inl ⟨_,0,a,SqL.of (S6 _ _ e3),.inl ⟨rfl,rfl⟩,rfl,λp hp=>?_⟩⟩
      rw[Oz,List.drop_zero]
      have T1:=Same.upd (o:=.lst ((cs.take a).map λc=>V.str (Gz c))) hp
      have f1:upd H6 p (.lst ((cs.take a).map λc=>V.str (Gz c))) p=some (.lst ((cs.take a).map λc=>V.str (Gz c))):=Ab
      generalize upd H6 p (.lst ((cs.take a).map λc=>V.str (Gz c)))=H7 at T1 f1 ⊢
      refine⟨(show 1<=sizeLine by decide),λq hq=>.inl ⟨p,q,_,_,rfl,rfl,(Same.upd hq) _ _ f1,Ab,?_,λp2 hp2=>?_⟩⟩
      .rw[af,aX];show _+1<=_;omega
      have T2:=T1.trans ((Same.upd (o:=.lst [.str ⟨#[al (Ld c (41+a)+5*(i:Int))]⟩]) hq).trans (Same.upd (o:=.lst ((cs.take a).map (λc=>V.str (Gz c))++[.str ⟨#[al (Ld c (41+a)+5*(i:Int))]⟩])) hp2))
      have f2:upd (upd H7 q (.lst [.str ⟨#[al (Ld c (41+a)+5*(i:Int))]⟩])) p2 (.lst ((cs.take a).map (λc=>V.str (Gz c))++[.str ⟨#[al (Ld c (41+a)+5*(i:Int))]⟩])) p2=some (.lst ((cs.take a++[al (Ld c (41+a)+5*(i:Int))]).map λc=>V.str (Gz c))):=by rw[Ab,aw];rfl
      generalize upd (upd H7 q (.lst [.str ⟨#[al (Ld c (41+a)+5*(i:Int))]⟩])) p2 (.lst ((cs.take a).map (λc=>V.str (Gz c))++[.str ⟨#[al (Ld c (41+a)+5*(i:Int))]⟩]))=H8 at T2 f2 ⊢
      refine .inl ⟨_,a+1,b,SqL.of (T2 _ _ (S6 _ _ e3)),.inr rfl,congrArg some eb,λp3 hp3=>?_⟩
      rw[Oz]
      refine .inl ⟨p2,p3,_,_,rfl,rfl,(Same.upd hp3) _ _ f2,Ab,?_,λp4 hp4=>?_⟩
      .rw[af,af,ak,aX,dW,aX,bK];omega
      refine⟨"", p4,((cs.take a++[al (Ld c (41+a)+5*(i:Int))])++(cs.take b).drop (a+1)).map Gz,.inl rfl,rfl,?_,?_,?_⟩
      .refine .inl (SqL.of ?_)
       rw[Ab,<- aw,cF];rfl
      .rw[Si,af,show("" : Str).length=0 by decide +kernel,ak,ak,aX,dW,aX,bK];omega
      rw[join_ones]
      have T3:=T2.trans (Same.upd (o:=.lst (((cs.take b).drop (a+1)).map λc=>V.str (Gz c))) hp3)
      refine⟨f,_,_,rfl,rfl,(Same.upd hp4) _ _ (T3 _ _ eL),?_,⟨_,_,rfl⟩,(S6.trans (T3.trans (Same.upd hp4))).set hf,?_⟩
      .rw[af,af,bX];omega
      .rw[Ab,br,aw,aw];rfl
     .rintro σ' H6 ⟨⟨v6,v10,rfl⟩,S6,eL⟩
      rw[Bh] at eL
      have N:=bg3 lc ha hb1 hb2 (Ld c (41+a))
      exact .inl (k _ _ _ (S15.trans S6) eL (N.nd hm) (N.ok hm).1 (N.ok hm).2.1 (N.ok hm).2.2)
end
theorem Kt(R:Rs):∀n,wyN n R ""=[]
 |0=>rfl
 |n+1=>if_pos rfl
theorem aj2(R:Rs):∀zs:List Str,Gy (zs.map (stD R))=true
 |[]=>rfl
 | z::zs=>by
  show(noL (stD R z)&&Gy (zs.map (stD R)))=true
  rw[aj2 R zs,gp]
  rfl
section
variable {P:a7}{w:bL}{K:ae}{mg:Str->Option aj}{base:Heap}{t:Adr}
def bi7(Z:Ao K t):OkD K ab3 (A1 K t) bl (t.f 30) (t.d 30) (Vd K t):=by
 refine A6 (b17 K t) λvs H Q E h=>?_
 .obtain⟨d,R,z,rfl,hR,T,hz,k⟩:=h;refine⟨rfl,?_⟩
  refine⟨(show 0<=sizeLine by decide),λl hl=>?_⟩
  obtain⟨ht,h12,hup⟩:=T.tr.up
  refine⟨λn σ H'=>∃y zs ys,(∃v3 v4 v5 v6,σ=[some (.ref d),some (.str y),some (.ref l),v3,v4,v5,v6])/\Same H H'/\H' l=some (.lst ys)/\AtL K H' (zs.map (stD R)) ys/\wyS R z=wyN n R y++zs/\zs.length+n<=12/\(y="" \/ has R y=true)/\12-ht y<=n,
   ⟨12,z,[],[],⟨_,_,_,_,rfl⟩,Same.upd hl,Ab,Ar,(bG _).symm,by decide,.inr hz,by omega⟩,?_⟩
  rintro n σ H1 ⟨y,zs,ys,⟨v3,v4,v5,v6,rfl⟩,S1,el,hys,ew,lz,hy,hn⟩
  show if(!decide (y=""))=true then _ else _
  by_cases y0:y=""
  .rw[decide_eq_true y0]
   refine⟨ys,.inl ⟨SqL.of el,λa ha=>k _ a (S1.trans (Same.upd ha)) ?_⟩⟩
   rw[y0,Kt,List.nil_append] at ew
   unfold F0 Uo
   rw[ew]
   exact Cw (SqT.of Ab) (Aw (Same.upd ha) hys)
  .rw[decide_eq_false y0]
   have hy:=hy.resolve_left y0
   have hn1:=h12 y
   cases n with
   |zero=>omega
   |succ n=>
   obtain⟨q,c2,dg,hq,_⟩:=(hR.up S1).get hy
   have er:wyN (n+1) R y=wyN n R (Ak R y).pr++[y]:=if_neg y0
   have up:=hup y _ (Ax hy)
   refine⟨λσ H'=>∃v3 v4 v5 v6 ys,σ=[some (.ref d),some (.str (Ak R y).pr),some (.ref l),v3,v4,v5,v6]/\Same H H'/\H' l=some (.lst ys)/\AtL K H' ((y::zs).map (stD R)) ys,?_,?_⟩
   .rintro σ' H' ⟨v3,v4,v5,v6,ys',rfl,S',el',ay⟩
    refine⟨n,bS n,_,y::zs,ys',⟨_,_,_,_,rfl⟩,S',el',ay,?_,by rw[aT];omega,?_,by omega⟩
    .rw[ew,er,ck];rfl
    .rcases T.hd y _ (Ax hy) with e|⟨q,e,_⟩
     .exact .inl e
     .exact .inr (Bs e)
   .refine⟨_,dg,_,.inl hq,rfl,.inl ⟨rfl,_,SqL.of el⟩,(show 3<=sizeLine by decide),λb hb=>?_⟩
    have Sb:=Same.upd (o:=.tup [.int (Ak R y).rk,.str y,.str (Ak R y).kd]) hb
    have eb:upd H1 b (.tup [.int (Ak R y).rk,.str y,.str (Ak R y).kd]) b=some (.tup [.int (Ak R y).rk,.str y,.str (Ak R y).kd]):=Ab
    generalize upd H1 b (.tup [.int (Ak R y).rk,.str y,.str (Ak R y).kd])=H2 at Sb eb ⊢
    have el2:=Sb _ _ el
    have TK:TKeep K H2 (upd H2 l (.lst (.ref b::ys))):=TKeep.lst el2
    have ly:=hys.length
    rw[af] at ly
    refine⟨l,ys,.ref b,0,rfl,rfl,el2,bo _,aZ (show ys.length<=12 by omega) (by decide),_,_,_,_,.ref b::ys,rfl,(S1.trans Sb).set hl,Ab,?_⟩
    exact Aj (Cw (TK _ _ (SqT.of eb)) (Aj (Cq rfl) (Aj A4 (Aj A4 Ar)))) (A8 TK (aj2 R zs) (Aw Sb hys))
end
def ltW(f:Str->Int):List Str->List Str->Bool
 |[],[]=>false
 |[],_::_=>true
 |_::_,[]=>false
 |a::as,b::bs=>if a=b then ltW f as bs else ltK f a b
section
variable {f:Str->Int}{R:Rs}
def W3{a b:Str}(h:a≠b):ltK f a b = !ltK f b a:=
 (Kj (kf:=f) (zs:=[a,b]) (by simp[h])).tot a (by simp) b (by simp) h
def Lc(a:Str):ltK f a a=false:=by
 unfold ltK
 rw[if_pos rfl]
 unfold ltS
 exact decide_eq_false (hJ _)
def bf3{a b c:Str}(h1:ltK f a b=true)(h2:ltK f b c=true):a≠c/\ltK f a c=true:=by
 have ab:a≠b:=λe=>by rw[e,Lc] at h1;cases h1
 have bc:b≠c:=λe=>by rw[e,Lc] at h2;cases h2
 have ac:a≠c:=λe=>by rw[W3 ab,e,h2] at h1;cases h1
 exact⟨ac,(Kj (kf:=f) (zs:=[a,b,c]) (by simp[ab,bc,ac])).tr a (by simp) b (by simp) c (by simp) h1 h2⟩
theorem W4:∀{l m:List Str},l≠m->ltW f l m = !ltW f m l
 |[],[],h=>absurd rfl h
 |[],_::_,_=>rfl
 |_::_,[],_=>rfl
 | a::as,b::bs,h=>by
  unfold ltW
  by_cases e:a=b
  .subst e
   rw[if_pos rfl,if_pos rfl]
   exact W4 λc=>h (by rw[c])
  .rw[if_neg e,if_neg (bx e)]
   exact W3 e
theorem ag9:∀{l m n:List Str},ltW f l m=true->ltW f m n=true->ltW f l n=true
 | [],_,[],h1,h2=>by
  rename_i m
  cases m <;> unfold ltW at h2 <;> first|exact h2|cases h2
 |[],_,_::_,_,_=>rfl
 |_::_,[],_,h1,_=>by unfold ltW at h1;cases h1
 |_::_,_::_,[],_,h2=>by unfold ltW at h2;cases h2
 | a::as,b::bs,c::cs,h1,h2=>by
  unfold ltW at h1 h2 ⊢
  by_cases e:a=b
  .subst e
   rw[if_pos rfl] at h1
   by_cases e2:a=c
   .rw[if_pos e2] at h2 ⊢
    exact ag9 h1 h2
   .rw[if_neg e2] at h2 ⊢
    exact h2
  .rw[if_neg e] at h1
   by_cases e2:b=c
   .subst e2
    rw[if_neg e]
    exact h1
   .rw[if_neg e2] at h2
    have:=bf3 h1 h2
    rw[if_neg this.1]
    exact this.2
theorem Pd{l m:List Str}:∀p:List Str,ltW f (p++l) (p++m)=ltW f l m
 |[]=>rfl
 | a::p=>by
  rw[dS,dS]
  show(if a=a then _ else _)=_
  rw[if_pos rfl,Pd p]
theorem Sq{ht:Str->Nat}(h12:∀z,ht z<12)(up:∀z r,get R z=some r->ht z<ht r.pr)(hd:Held R):∀{k:Nat}{y:Str},(y="" \/ has R y=true)->12-ht y<=k->wyN (k+1) R y=wyN k R y
 | 0,y,h,hk=>by
  have:=h12 y
  omega
 | k+1,y,h,hk=>by
  by_cases e:y=""
  .rw[e,Kt,Kt]
  .have hy:=h.resolve_left e
   show(if y="" then _ else wyN (k+1) R (Ak R y).pr++[y])=if y="" then _ else wyN k R (Ak R y).pr++[y]
   rw[if_neg e,if_neg e]
   have u:=up y _ (Ax hy)
   rw[Sq h12 up hd (k:=k) ((hd y _ (Ax hy)).imp id fun⟨_,g,_⟩=>Bs g) (by omega)]
def Sr(T:TrC R){n c:Str}(h:c∈chS R n):wyS R c=wyS R n++[c]:=by
 obtain⟨hc,hp⟩:=ch_mem.mp h
 obtain⟨ht,h12,up⟩:=T.tr.up
 have c0:c ≠ "" := λe=>T.tr.ne (e▸mem_keys.mpr hc)
 have u:=up c _ (Ax hc)
 rw[hp] at u
 unfold wyS
 show(if c="" then _ else wyN 11 R (Ak R c).pr++[c])=_
 rw[if_neg c0,hp]
 have hn:n="" \/ has R n=true:=by
  have:=T.hd c _ (Ax hc)
  rw[hp] at this
  exact this.imp id fun⟨_,g,_⟩=>Bs g
 rw[Sq h12 up T.hd (k:=11) hn (by omega)]
def at4(T:TrC R){a b:Str}(ha:has R a=true)(hb:has R b=true)(e:wyS R a=wyS R b):a=b:=by
 have ea:=Sr T (ch_mem.mpr ⟨ha,rfl⟩)
 have eb:=Sr T (ch_mem.mpr ⟨hb,rfl⟩)
 rw[ea,eb] at e
 have:=congrArg List.getLast? e
 rw[kg,kg] at this
 exact bt this
theorem Kn(T:TrC R):∀{k:Nat}{d:Int}{n:Str}{w:Int×Str},w∈pre (chS R) k d n -> ∃c∈chS R n,∃r,wyS R w.2=wyS R n++c::r/\w.1=d+(r.length:Int)
 |0,d,n,w,m=>by cases m
 | k+1,d,n,w,m=>by
  unfold pre at m
  obtain⟨c,hc,m⟩:=List.mem_flatMap.mp m
  have ec:=Sr T hc
  rcases List.mem_cons.mp m with rfl|m
  .exact⟨c,hc,[],ec,(Int.add_zero d).symm⟩
  .obtain⟨c2,hc2,r,e,ed⟩:=Kn T m
   refine⟨c,hc,c2::r,by rw[e,ec,ck];rfl,?_⟩
   rw[ed,aT,cR]
   show d+1+(r.length:Int)=d+((r.length:Int)+1)
   omega
def aw1(T:TrC R)(n:Str):(chS R n).Pairwise λa b=>ltK (rkf R) a b=true:=by
 unfold chS Ih
 exact(Bq (Kj T.tr.nd)).sublist eU
theorem Rn(T:TrC R):∀(k:Nat)(d:Int)(n:Str),((pre (chS R) k d n).map (·.2)).Pairwise λa b=>ltW (rkf R) (wyS R a) (wyS R b)=true
 |0,d,n=>iZ
 | k+1,d,n=>by
  unfold pre
  rw[fX]
  refine List.pairwise_flatMap.mpr ⟨λc hc=>?_,?_⟩
  .rw[a8]
   refine List.pairwise_cons.mpr ⟨λz hz=>?_,Rn T k _ c⟩
   obtain⟨w,hw,rfl⟩:=List.mem_map.mp hz
   obtain⟨c2,_,r,e,_⟩:=Kn T hw
   rw[e]
   have:=Pd (f:=rkf R) (l:=[]) (m:=c2::r) (wyS R c)
   rw[bG] at this
   exact this
  .refine gg ?_ (aw1 T n)
   intro a b ha hb ab x hx y hy
   have way:∀{c x:Str},c∈chS R n->x∈((d,c)::pre (chS R) k (d+1) c).map (·.2) -> ∃r,wyS R x=wyS R n++c::r:=λ{c x} hc m=>by
    rw[a8] at m
    rcases List.mem_cons.mp m with e|m
    .exact⟨[],by rw[e];exact Sr T hc⟩
    .obtain⟨w,hw,rfl⟩:=List.mem_map.mp m
     obtain⟨c2,_,r,e,_⟩:=Kn T hw
     exact⟨c2::r,by rw[e,Sr T hc,ck];rfl⟩
   obtain⟨r,ex⟩:=way ha hx
   obtain⟨r',ey⟩:=way hb hy
   rw[ex,ey,Pd]
   unfold ltW
   rw[if_neg (λe=>by rw[e,Lc] at ab;cases ab)]
   exact ab
def Od{ch:Str->List Str}{k:Nat}{d:Int}{n c:Str}(h:c∈ch n):c∈(pre ch (k+1) d n).map (·.2):=by
 unfold pre
 rw[fX]
 exact List.mem_flatMap.mpr ⟨c,h,aY⟩
theorem Oc{ch:Str->List Str}{h:Str->Nat}(S:Gm ch h):∀{k:Nat}{d:Int}{n p c:Str},h n<k->p∈(pre ch k d n).map (·.2)->c∈ch p->c∈(pre ch k d n).map (·.2)
 |0,d,n,p,c,hk,m,hc=>by cases m
 | k+1,d,n,p,c,hk,m,hc=>by
  unfold pre at m ⊢
  rw[fX] at m ⊢
  obtain⟨c0,h0,m⟩:=List.mem_flatMap.mp m
  have:=S _ _ h0
  refine List.mem_flatMap.mpr ⟨c0,h0,?_⟩
  rw[a8] at m ⊢
  refine aK _ ?_
  rcases List.mem_cons.mp m with e|m
  .rw[e] at hc
   cases k with
   |zero=>omega
   |succ k=>exact Od hc
  .exact Oc S (by omega) m hc
theorem Xj(T:TrC R){h:Str->Nat}(h12:∀z,h z<12)(up:∀z r,get R z=some r->h z<h r.pr):∀(m:Nat) {z:Str},12-h z<=m->has R z=true->z∈(Ez R "").map (·.2)
 | 0,z,hm,hz=>by
  have:=h12 z
  omega
 | m+1,z,hm,hz=>by
  have S:Gm (chS R) h:=λn c hc=>by
   have:=up c _ (Ax (ch_mem.mp hc).1)
   rw[(ch_mem.mp hc).2] at this
   exact this
  have mz:z∈chS R (Ak R z).pr:=ch_mem.mpr ⟨hz,rfl⟩
  have u:=up z _ (Ax hz)
  rcases T.hd z _ (Ax hz) with e|⟨q,e,_⟩
  .rw[e] at mz
   exact Od mz
  .exact Oc S (h12 "") (Xj T h12 up m (by omega) (Bs e)) mz
def ak8(T:TrC R):((Ez R "").map (·.2)).Perm (keys R):=by
 obtain⟨h,h12,up⟩:=T.tr.up
 refine(fP (Xi T.tr) T.tr.nd).mpr λz=>⟨λm=>mem_keys.mpr (Km m),λm=>Xj T h12 up 12 (by omega) (mem_keys.mp m)⟩
def Vx(T:TrC R):OrdL (λa b=>ltW (rkf R) (wyS R a) (wyS R b)) (keys R) where
 nd:=T.tr.nd
 tot:=λa ha b hb ne=>W4 λe=>ne (at4 T (mem_keys.mp ha) (mem_keys.mp hb) e)
 tr:=λa _ b _ c _ h1 h2=>ag9 h1 h2
def Y6(T:TrC R):An (λa b=>ltW (rkf R) (wyS R a) (wyS R b)) (keys R)=(Ez R "").map (·.2):=
 D0 ((Vx T).of (λa ha=>(Al _ _).mem_iff.mp ha) (((Al _ _).nodup_iff).mpr T.tr.nd)) ((Al _ _).trans (ak8 T).symm) (Bq (Vx T)) (Rn T 12 1 "")
def T6(T:TrC R){w:Int×Str}(h:w∈Ez R ""):w.1=((wyS R w.2).length:Int):=by
 obtain⟨c,_,r,e,d⟩:=Kn T h
 rw[e,d,show wyS R ""=[] from Kt R 12]
 show 1+(r.length:Int)=((r.length+1:Nat):Int)
 omega
def a96(a b:Str):deq (stD R a) (stD R b)=decide (a=b):=by
 unfold stD Cg Av
 unfold deq
 unfold C0
 unfold C0
 unfold C0
 unfold C0
 unfold deq
 rw[E3,E3]
 by_cases e:a=b
 .subst e
  show((_==_)&&_)=_
  simp
 .rw[decide_eq_false e]
  simp
def by6{a b:Str}(h:a≠b):dlt (stD R a) (stD R b)=ltK (rkf R) a b:=by
 unfold stD Cg Av
 unfold dlt
 unfold Bc
 unfold ltK rkf
 by_cases e:(Ak R a).rk=(Ak R b).rk
 .rw[if_pos e,if_pos (by unfold deq;show(_==_)=true;rw[e];simp)]
  unfold Bc
  rw[if_neg (by unfold deq;rw[E3,decide_eq_false h];simp)]
  unfold dlt
  rfl
 .rw[if_neg e,if_neg (by unfold deq;show ¬ (_==_)=true;simpa using e)]
  unfold dlt
  rfl
def bq1(a b:Str):D1 (stD R a) (stD R b)=true:=by
 unfold stD Cg Av
 rfl
theorem X4:∀l m:List Str,Qx (l.map (stD R)) (m.map (stD R))=true
 |[],m=>by unfold Qx;rfl
 |_::_,[]=>by unfold Qx;rfl
 | a::l,b::m=>by
  show(D1 (stD R a) (stD R b)&&Qx (l.map (stD R)) (m.map (stD R)))=true
  rw[bq1,X4 l m]
  rfl
theorem Vk:∀l m:List Str,C0 (l.map (stD R)) (m.map (stD R))=decide (l=m)
 |[],[]=>by unfold C0;rfl
 |[],_::_=>by unfold C0;rfl
 |_::_,[]=>by unfold C0;rfl
 | a::l,b::m=>by
  show(deq (stD R a) (stD R b)&&C0 (l.map (stD R)) (m.map (stD R)))=_
  rw[a96,Vk l m]
  by_cases e:a=b <;> by_cases e2:l=m <;> simp[e,e2]
theorem aq8:∀l m:List Str,Bc (l.map (stD R)) (m.map (stD R))=ltW (rkf R) l m
 |[],[]=>rfl
 |[],_::_=>rfl
 |_::_,[]=>rfl
 | a::l,b::m=>by
  show(if deq (stD R a) (stD R b)=true then Bc (l.map (stD R)) (m.map (stD R)) else dlt (stD R a) (stD R b))=if a=b then ltW (rkf R) l m else ltK (rkf R) a b
  rw[a96,aq8 l m]
  by_cases e:a=b
  .rw[if_pos e,if_pos (decide_eq_true e)]
  .rw[if_neg e,if_neg (by rw[decide_eq_false e];simp),by6 e]
def a19(a b:Str):D1 (F0 R a) (F0 R b)=true:=by
 unfold F0 Uo
 exact X4 _ _
def bm6(T:TrC R){a b:Str}(ha:has R a=true)(hb:has R b=true)(h:a≠b):deq (F0 R a) (F0 R b)=false:=by
 unfold F0 Uo
 exact(Vk _ _).trans (decide_eq_false λe=>h (at4 T ha hb e))
def bm7(a b:Str):dlt (F0 R a) (F0 R b)=ltW (rkf R) (wyS R a) (wyS R b):=by
 unfold F0 Uo
 exact aq8 _ _
def a20(a:Str):dep (F0 R a)<=20:=by
 unfold F0 dep Uo
 have:∀l:List Str,Bz (l.map (stD R))<=1:=λl=>Wq λd hd=>by
  obtain⟨z,_,rfl⟩:=List.mem_map.mp hd
  exact ag 1
 have:=this (wyS R a)
 omega
theorem Q3{α β:Type}(g:α->β)(lt:β->β->Bool)(z:α):∀ys:List α,(O6 (λa b=>lt (g a) (g b)) z ys).map g=O6 lt (g z) (ys.map g)
 |[]=>rfl
 | y::ys=>by
  rw[a8]
  unfold O6
  split
  .rw[a8,a8]
  .rw[a8,Q3 g lt z ys]
theorem Il{α β:Type}(g:α->β)(lt:β->β->Bool):∀zs:List α,(An (λa b=>lt (g a) (g b)) zs).map g=An lt (zs.map g)
 |[]=>rfl
 | z::zs=>by
  rw[a8]
  unfold An
  rw[Q3,Il g lt zs]
theorem Uf{α β:Type}(g:α->β):∀{zs:List α},(zs.map g).Nodup->zs.Nodup/\∀a∈zs,∀b∈zs,g a=g b->a=b
 |[],_=>⟨eE,λa ha=>by cases ha⟩
 | z::zs,h=>by
  rw[a8] at h
  have ⟨h1,h2⟩:=List.nodup_cons.mp h
  have ⟨i1,i2⟩:=Uf g h2
  refine⟨List.nodup_cons.mpr ⟨λm=>h1 (a9 m),i1⟩,λa ha b hb e=>?_⟩
  rcases List.mem_cons.mp ha with ea|ma <;> rcases List.mem_cons.mp hb with eb|mb
  .rw[ea,eb]
  .refine absurd ?_ h1
   rw[<- ea,e]
   exact a9 mb
  .refine absurd ?_ h1
   rw[<- eb,<- e]
   exact a9 ma
  .exact i2 a ma b mb e
def Xd{α β:Type}(g:α->β){lt:β->β->Bool}{zs:List α}(o:OrdL lt (zs.map g)):OrdL (λa b=>lt (g a) (g b)) zs:=by
 have ⟨nd,inj⟩:=Uf g o.nd
 exact⟨λa ha b hb ne=>o.tot _ (a9 ha) _ (a9 hb) λe=>ne (inj a ha b hb e),λa ha b hb c hc=>o.tr _ (a9 ha) _ (a9 hb) _ (a9 hc),nd⟩
theorem Q9:∀l:List Str,ltW f l l=false
 |[]=>rfl
 |a::l=>by unfold ltW;rw[if_pos rfl,Q9 l]
def pnL(R:Rs)(z:Str):List Dt:=[F0 R z,Av z]
def bw9(T:TrC R){a b:Str}(ha:has R a=true)(hb:has R b=true):Bc (pnL R a) (pnL R b)=ltW (rkf R) (wyS R a) (wyS R b):=by
 unfold pnL Bc
 by_cases e:a=b
 .subst e
  rw[Q9,if_pos (by unfold F0 Uo;exact(Vk _ _).trans (decide_eq_true rfl))]
  unfold Bc
  rw[if_pos (by rw[D6];exact decide_eq_true rfl)]
  unfold Bc
  rfl
 .rw[if_neg (by rw[bm6 T ha hb e];exact aR),bm7]
def bl9(a b:Str):Er (pnL R a) (pnL R b)=true:=by
 unfold pnL Er
 split
 .unfold Er
  split
  .unfold Er;rfl
  .unfold Av D1;rfl
 .exact a19 a b
def Pe{α β:Type}{g:α->β}{lt:β->β->Bool}{lt':α->α->Bool}(inj:∀a b,g a=g b->a=b){zs:List α}(e:∀a∈zs,∀b∈zs,lt (g a) (g b)=lt' a b)(o:OrdL lt' zs):OrdL lt (zs.map g):=by
 refine⟨λa ha b hb ne=>?_,λa ha b hb c hc h1 h2=>?_,(List.pairwise_map (f:=g)).mpr (List.Pairwise.imp (λh z=>h (inj _ _ z)) o.nd)⟩
 .obtain⟨a,ma,rfl⟩:=List.mem_map.mp ha
  obtain⟨b,mb,rfl⟩:=List.mem_map.mp hb
  rw[e a ma b mb,e b mb a ma]
  exact o.tot a ma b mb λz=>ne (by rw[z])
 .obtain⟨a,ma,rfl⟩:=List.mem_map.mp ha
  obtain⟨b,mb,rfl⟩:=List.mem_map.mp hb
  obtain⟨c,mc,rfl⟩:=List.mem_map.mp hc
  rw[e a ma b mb] at h1
  rw[e b mb c mc] at h2
  rw[e a ma c mc]
  exact o.tr a ma b mb c mc h1 h2
def bq0{α β:Type}{g:α->β}{lt:β->β->Bool}{lt':α->α->Bool}(inj:∀a b,g a=g b->a=b){zs ws:List α}(e:∀a∈zs,∀b∈zs,lt (g a) (g b)=lt' a b)(o:OrdL lt' zs)(p:ws.Perm zs)(q:ws.Pairwise λa b=>lt' a b=true):An lt (zs.map g)=ws.map g:=by
 have o2:=Pe inj e o
 refine D0 (o2.of (λa ha=>(Al _ _).mem_iff.mp ha) ((Al _ _).nodup_iff.mpr o2.nd)) ((Al _ _).trans (p.map g).symm) (Bq o2) ((List.pairwise_map (f:=g)).mpr (gg (λ{a b} ha hb h=>?_) q))
 rw[e a (p.mem_iff.mp ha) b (p.mem_iff.mp hb)]
 exact h
end
def Uh(R:Rs)(z:Str):noL (F0 R z)=true:=aj2 R _
section
variable {P:a7}{w:bL}{K:ae}{mg:Str->Option aj}{base:Heap}{t:Adr}
def PdAt(K:ae)(H:Hp)(R:Rs)(ds:List (Str×Addr)):Prop:=∀d∈ds,∃a,H d.2=some (.tup [.ref a,.str d.1])/\At K H (F0 R d.1) (.ref a)
def PdAt.up{H H':Hp}{R:Rs}{ds:List (Str×Addr)}(h:PdAt K H R ds)(S:Same H H'):PdAt K H' R ds:=λd hd=>by
 obtain⟨a,e,q⟩:=h d hd
 exact⟨a,S _ _ e,A3 S q⟩
def PdAt.set{H:Hp}{l:Addr}{xs ys:List V}{R:Rs}{ds:List (Str×Addr)}(h:PdAt K H R ds)(e:H l=some (.lst xs)):PdAt K (upd H l (.lst ys)) R ds:=λd hd=>by
 obtain⟨a,e2,q⟩:=h d hd
 refine⟨a,?_,Gn (TKeep.lst e) (Uh R _) q⟩
 rw[Ah (λc=>by rw[c,e] at e2;cases e2)]
 exact e2
def bh6(Z:Ao K t):OkD K aa1 (A1 K t) bl (t.f 31) (t.d 31) (P8 K t):=by
 refine A6 (b06 K t) λvs H Q E h=>?_
 .obtain⟨d,R,rfl,hR,T,k⟩:=h;refine⟨rfl,?_⟩
  refine .inr (.inr (.inl (Rl hR λo kvs H1 B1 ed0 ed g=>λL hL=>?_)))
  have kn:=g.names
  refine Cb (Ss kvs) (λi σ' H'=>(∃v,σ'=[v,some (.ref d)])/\Same H1 H'/\∃ds,H' L=some (.lst (ds.map λd=>V.ref d.2))/\ds.map (·.1)=(keys R).take i/\PdAt K H' R ds) ⟨⟨_,rfl⟩,Same.upd hL,[],Ab,List.take_zero.symm,λd hd=>by cases hd⟩ (λi σ' H' _ h=>h.2.1 _ _ ed) ?_ ?_
  .rintro i x σ' H3 hx ⟨⟨v,rfl⟩,S3,ds,eL,kd,pd⟩
   rw[kn,au] at hx
   obtain⟨y,hy,rfl⟩:=Option.map_eq_some_iff.mp hx
   have hi:i<(keys R).length:=(List.getElem?_eq_some_iff.mp hy).1
   have ll:=congrArg eX kd
   rw[af,aX] at ll
   rw[Am] at hi
   have f8:=T.f8
   have hh:=mem_keys.mp (aI hy)
   refine⟨d,R,y,rfl,⟨kvs,.inr ⟨o,S3 _ _ ed⟩,g.keep (TKeep.of S3)⟩,T,hh,λH4 a S4 aa=>⟨(show 2<=sizeLine by decide),λb hb=>?_⟩⟩
   have S5:=S4.trans (Same.upd (o:=.tup [.ref a,.str y]) hb)
   have eb:upd H4 b (.tup [.ref a,.str y]) b=some (.tup [.ref a,.str y]):=Ab
   have aa5:=A3 (Same.upd (o:=.tup [.ref a,.str y]) hb) aa
   generalize upd H4 b (.tup [.ref a,.str y])=H5 at S5 eb aa5 ⊢
   have eL5:=S5 _ _ eL
   refine⟨_,eL5,by rw[af];exact aZ (show ds.length<=8 by omega) (by decide),⟨_,rfl⟩,(S3.trans S5).set hL,ds++[(y,b)],by rw[Ab,aw];rfl,?_,?_⟩
   .rw[aw,kd,bj,hy];rfl
   .intro e he
    rcases List.mem_append.mp he with h|h
    .exact (pd.up S5).set eL5 e h
    .rw[List.mem_singleton.mp h]
     refine⟨a,?_,Gn (TKeep.lst eL5) (Uh R y) aa5⟩
     exact(Ah (λ(c:b=L)=>by rw[c,eL5] at eb;cases eb)).trans eb
  .rintro σ' H3 ⟨_,S3,ds,eL,kd,pd⟩
   rw[af,g.len,<- Am,bp] at kd
   have ll:=congrArg eX kd
   rw[af,Am] at ll
   have f8:=T.f8
   have ed3:=S3 _ _ ed
   refine .inr ⟨d,o,kvs,ed0,ed3,?_⟩
   have nL:L≠d:=λc=>by rw[c,ed3] at eL;cases eL
   have eL:upd H3 d (.dK kvs) L=some (.lst (ds.map λd=>V.ref d.2)):=by rw[Ah nL];exact eL
   have pd:PdAt K (upd H3 d (.dK kvs)) R ds:=λe he=>by
    obtain⟨a,e1,e2⟩:=pd e he
    refine⟨a,?_,Gn (Qm ed3) (Uh R _) e2⟩
    rw[Ah (λc=>by rw[c,ed3] at e1;cases e1)]
    exact e1
   have S3:Same H (upd H3 d (.dK kvs)):=Ql ed0 B1 S3
   generalize upd H3 d (.dK kvs)=H3 at S3 eL pd ⊢
   have hs:∀e∈ds,has R e.1=true:=λe he=>mem_keys.mp (kd▸a9 he)
   have oe:OrdL (λ(a b:Str×Addr)=>ltW (rkf R) (wyS R a.1) (wyS R b.1)) ds:=Xd (λ(d:Str×Addr)=>d.1) (kd▸Vx T)
   have inj:∀a b:Str×Addr,(pnL R a.1,a.2)=(pnL R b.1,b.2)->a=b:=λa b h=>by
    obtain⟨a1,a2⟩:=a
    obtain⟨b1,b2⟩:=b
    unfold pnL Av at h
    simp only[Prod.mk.injEq,List.cons.injEq,Dt.at_.injEq,V.str.injEq] at h
    rw[h.1.2.1,h.2]
   have el:∀a∈ds,∀b∈ds,ltT (pnL R a.1,a.2) (pnL R b.1,b.2)=ltW (rkf R) (wyS R a.1) (wyS R b.1):=λa ha b hb=>bw9 T (hs a ha) (hs b hb)
   have sq:((ds.map λd=>(pnL R d.1,d.2)).map λd=>V.ref d.2)=ds.map λd=>V.ref d.2:=by rw[cF];rfl
   refine .inr ⟨rfl,.inr ⟨L,ds.map λd=>(pnL R d.1,d.2),false,rfl,by rw[sq];exact SqL.of eL,λe he=>?_,by rw[af];omega,λa ha b hb=>?_,Pe inj el oe,λD hD=>?_⟩⟩
   .obtain⟨e,me,rfl⟩:=List.mem_map.mp he
    obtain⟨a,e1,e2⟩:=pd e me
    refine⟨⟨_,_,rfl,⟨_,rfl⟩⟩,Cw (SqT.of e1) (Aj e2 (Aj A4 Ar)),?_⟩
    unfold pnL Bz Bz Bz
    have:=a20 (R:=R) e.1
    have:=D5 e.1
    exact Nat.max_le.mpr ⟨by omega,Nat.max_le.mpr ⟨by omega,bo _⟩⟩
   .obtain⟨a,_,rfl⟩:=List.mem_map.mp ha
    obtain⟨b,_,rfl⟩:=List.mem_map.mp hb
    exact bl9 _ _
   have es0:((An (λ(a b:Str×Addr)=>ltW (rkf R) (wyS R a.1) (wyS R b.1)) ds).map (·.1))=(Ez R "").map (·.2):=by
    rw[Il (λ(d:Str×Addr)=>d.1) (λa b=>ltW (rkf R) (wyS R a) (wyS R b)) ds,kd,Y6 T]
   have pm:=Al (λ(a b:Str×Addr)=>ltW (rkf R) (wyS R a.1) (wyS R b.1)) ds
   rw[bq0 inj el oe pm (Bq oe),cF]
   generalize An (λ(a b:Str×Addr)=>ltW (rkf R) (wyS R a.1) (wyS R b.1)) ds=es' at es0 pm
   have S4:=Same.upd (o:=.lst (es'.map λd=>V.ref d.2)) hD
   have eD:upd H3 D (.lst (es'.map λd=>V.ref d.2)) D=some (.lst (es'.map λd=>V.ref d.2)):=Ab
   have pe:PdAt K (upd H3 D (.lst (es'.map λd=>V.ref d.2))) R es':=PdAt.up (λe he=>pd e (pm.mem_iff.mp he)) S4
   have es:=es0
   refine(show ∀H4,Same H3 H4->H4 D=some (.lst (es'.map λd=>V.ref d.2))->PdAt K H4 R es'->_ from ?_) _ S4 eD pe
   clear S4 eD pe
   intro H4 S4 eD pe
   have S14:=S3.trans S4
   have hR4:=(hR.up S14).rd
   have hp:∀w∈Ez R "", has R w.2=true:=λw hw=>Km (a9 hw)
   have lp:=Lm T.tr (n := "")
   refine .inl ⟨⟨_,SqL.of eD⟩,λM hM=>?_⟩
   refine Cb (Bu (es'.map λd=>V.ref d.2)) (λi σ' H'=>(∃v v2,σ'=[v,v2,some (.ref d)])/\Same H4 H'/\∃ys,H' M=some (.lst ys)/\AtL K H' (((Ez R "").take i).map (lnD R)) ys) ⟨⟨_,_,rfl⟩,Same.upd hM,[],Ab,Ar⟩ (λi σ' H' _ h=>SqL.of (h.2.1 _ _ eD)) ?_ ?_
   .rintro i x σ' H5 hx ⟨⟨v,v2,rfl⟩,S5,ys,eM,aM⟩
    rw[au] at hx
    obtain⟨e,he,rfl⟩:=Option.map_eq_some_iff.mp hx
    have hw:((Ez R "").map (·.2))[i]?=some e.1:=by rw[<- es,au,he];rfl
    rw[au] at hw
    obtain⟨w,hw,ew⟩:=Option.map_eq_some_iff.mp hw
    have mw:=aI hw
    have hi:i<(Ez R "").length:=(List.getElem?_eq_some_iff.mp hw).1
    obtain⟨a,e1,e2⟩:=(pe.up S5) e (aI he)
    obtain⟨q,xs,qa,sq,al⟩:=Ho (show At K H5 (.tup ((wyS R e.1).map (stD R))) (.ref a) from e2)
    cases qa
    have lx:=al.length
    rw[af] at lx
    have hh:=hp w mw
    rw[ew] at hh
    obtain⟨q,y,dg,hq,hy⟩:=(hR4.up S5).get hh
    refine⟨_,.inl (SqT.of e1),rfl,?_⟩
    refine .inl ⟨_,.inr sq,_,dg,_,_,.inr hq,rfl,_,dg,_,_,.inr hq,rfl,_,dg,_,_,.inr hq,rfl,(show 5<=sizeLine by decide),λb hb=>?_⟩
    have S6:=Same.upd (o:=.tup [.int (xs.length:Int),.str e.1,.str (Ak R e.1).kd,.int (Ak R e.1).rk,y]) hb
    have eb:upd H5 b (.tup [.int (xs.length:Int),.str e.1,.str (Ak R e.1).kd,.int (Ak R e.1).rk,y]) b=some (.tup [.int (xs.length:Int),.str e.1,.str (Ak R e.1).kd,.int (Ak R e.1).rk,y]):=Ab
    generalize upd H5 b (.tup [.int (xs.length:Int),.str e.1,.str (Ak R e.1).kd,.int (Ak R e.1).rk,y])=H6 at S6 eb ⊢
    have eM6:=S6 _ _ eM
    have lM:=aM.length
    rw[af,aX] at lM
    have TK:TKeep K H6 (upd H6 M (.lst (ys++[.ref b]))):=TKeep.lst eM6
    have ln:At K H6 (lnD R w) (.ref b):=by
     unfold lnD
     rw[T6 T mw,ew,<- lx]
     exact Cw (SqT.of eb) (Aj (Cq rfl) (Aj A4 (Aj A4 (Aj (Cq rfl) (Aj (A3 S6 hy) Ar)))))
    refine⟨_,eM6,aZ (show ys.length<=10 by omega) (by decide),⟨_,_,rfl⟩,(S5.trans S6).set hM,ys++[.ref b],Ab,?_⟩
    have a1:AtL K H6 (((Ez R "").take (i+1)).map (lnD R)) (ys++[.ref b]):=by
     rw[bj,hw,aw]
     exact E1 (Aw S6 aM) (Aj ln Ar)
    exact A8 TK (ag5 R _) a1
   .rintro σ' H5 ⟨_,S5,ys,eM,aM⟩
    have le:(es'.map λd=>V.ref d.2).length=(Ez R "").length:=by
     have:=congrArg eX es
     rw[af,af] at this
     rw[af]
     exact this
    rw[le,bp] at aM
    exact k H5 M ys (S14.trans S5) eM aM
end
def Y5(R:Rs)(i:Nat):keys (R.take i)=(keys R).take i:=by unfold keys;rw[List.map_take]
def al4{R:Rs}(nd:(keys R).Nodup){i:Nat}{z:Str}{r:Rc}(h:R[i]?=some (z,r)):Dy (R.take i) z r=R.take (i+1):=by
 have hz:(keys R)[i]?=some z:=by unfold keys;rw[au,h];rfl
 have nh:has (R.take i) z=false:=by
  rw[dI]
  intro g
  have:=mem_keys.mpr g
  rw[Y5] at this
  exact Gh nd hz this
 unfold Dy
 rw[Ed,nh,if_neg (by simp),bj,h]
 rfl
def at6{p:Addr}{o:Obj}(kvs:List (Key×V)):Om (bb7 p o kvs) (kvs.map λq=>(kV q.1,q.2)) (λH=>H p=some (.frz o (.dK kvs))):=by
 refine⟨λi H q h=>⟨q,by simpa using h⟩,λH q=>⟨q,by simp⟩,λi H v H' q _ h=>?_⟩
 obtain⟨T,k,x,hT,h1,h2,h4⟩:=h
 exact⟨T,kV k,x,hT,h1,by rw[au,h2];rfl,h4⟩
section
variable {P:a7}{w:bL}{K:ae}{mg:Str->Option aj}{base:Heap}{t:Adr}
theorem KvAt.nth{H:Hp}:∀{S:Rs}{kvs:List (Key×V)}{i:Nat}{q:Key×V},KvAt K H S kvs->kvs[i]?=bH q -> ∃z r,S[i]?=bH (z,r)/\q.1=.inr z/\RcAt K H r q.2
 | [],kvs,i,q,h,e=>by
  unfold KvAt at h
  rw[h] at e
  simp at e
 | (z,r)::S,kvs,i,q,h,e=>by
  unfold KvAt at h
  obtain⟨x,rest,rfl,h1,h2⟩:=h
  cases i with
  |zero=>
   cases e
   exact⟨z,r,rfl,rfl,h1⟩
  |succ i=>
   rw[b_] at e ⊢
   exact h2.nth e
def bh9(Z:Ao K t):OkD K aa4 (A1 K t) bl (t.f 32) (t.d 32) (Lx K t):=by
 refine A6 (b09 K t) λvs H Q E h=>?_
 .obtain⟨d0,R,rfl,hR,T,k⟩:=h;refine⟨rfl,?_⟩
  intro p dxp hp0 hdxp nep
  refine⟨p,dxp,rfl,Ab,λd hd0=>⟨rfl,?_⟩⟩
  obtain⟨hd,S1,hP1⟩:=a79 (K:=K) (t:=t) hp0 hdxp nep hd0
  unfold ai6 at S1 hP1
  generalize upd (upd (upd (upd H dxp (.own p)) p (.ins t.c_zbm dxp [])) d (.dK [])) p (.ins t.c_zbm dxp [("records", .ref d)])=H1 at S1 hP1 ⊢
  have hR1:=hR.up S1
  have ne:d≠d0:=bx (hR.ne hd)
  refine Rl hR1 λo kvs H2 B2 e0 ed g=>?_
  have hP2:=hP1.other hR1 ne B2
  obtain⟨kv2,ed2,_⟩:=id hP2.2
  refine Ws (at6 kvs) (λi σ H'=>(∃v2 v3,σ=[some (.ref d0),some (.ref p),v2,v3])/\But d H2 H'/\PwAt K t H' p d (R.take i)) ⟨⟨_,_,rfl⟩,(λ_ _ _ e=>e),hP2⟩ (λi σ H' _ h=>h.2.1 _ _ (bx ne) ed) ?_ ?_
  .rintro i x y T2 σ H3 hx hT2 ⟨⟨v2,v3,rfl⟩,B3,hP3⟩
   rw[au] at hx
   obtain⟨q,hq,e⟩:=Option.map_eq_some_iff.mp hx
   cases e
   obtain⟨z,r,hz,ez,hr⟩:=g.nth hq
   rw[ez]
   have S4:=Same.upd (o:=.tup [kV (.inr z),q.2]) hT2
   have e4:upd H3 T2 (.tup [kV (.inr z),q.2]) T2=some (.tup [.str z,q.2]):=Ab
   have hr4:=hr.keep ((B3.tk (K:=K) ed2).trans (TKeep.of S4))
   have hP4:=hP3.up S4
   generalize upd H3 T2 (.tup [kV (.inr z),q.2])=H4 at S4 e4 hr4 hP4 ⊢
   obtain⟨qa,y,eq,h1,h2⟩:=hr4
   refine⟨_,.inl (SqT.of e4),rfl,?_⟩
   rw[eq]
   have l8:(R.take i).length<100:=by rw[aX];have:=T.f8;omega
   obtain⟨dx4,e5⟩:=id hP4.1
   refine⟨p,dx4,_,⟨t.c_zbm,Wv K t⟩,rfl,.head _,e5,rfl,⟨ag _,ag _⟩,_,_,.inr h1,rfl,_,_,.inr h1,rfl,_,_,.inr h1,rfl,_,_,.inr h1,rfl,⟨p,d,R.take i,z,r,y,rfl,hP4,l8,h2,λH5 B5 hR5=>⟨⟨_,_,rfl⟩,B3.trans ((But.of S4).trans B5),?_⟩⟩⟩
   have hP5:=hP4.but B5 hR5
   rw[al4 T.tr.nd hz] at hP5
   exact hP5
  .rintro σ H3 ⟨⟨v2,v3,rfl⟩,B3,hP3⟩
   rw[af,g.len,bp] at hP3
   have ed3:=B3 _ _ (bx ne) ed
   refine .inr ⟨d0,o,kvs,e0,ed3,?_⟩
   refine k _ p d (λc v h=>?_) ?_ hd
   .by_cases e:c=d0
    .subst e;rw[Ab,<- e0];exact S1 _ _ h
    .rw[Ah e];exact B3 _ _ (λz=>by rw[z,hd] at h;cases h) (B2 _ _ e (S1 _ _ h))
   .obtain⟨⟨dx,e1⟩,kv3,e2,g3⟩:=hP3
    exact⟨⟨dx,by rw[Ah (λz=>by rw[z,ed3] at e1;cases e1)];exact e1⟩,kv3,by rw[Ah ne];exact e2,g3.keep (Qm ed3)⟩
end
def a39(c:Str):Nat->Str
 |0=>c
 |1=>g9 c "\\" ("\\" ++ "\\")
 |2=>g9 (g9 c "\\" ("\\" ++ "\\")) "|" ("\\" ++ "|")
 |_=>g9 (g9 (g9 c "\\" ("\\" ++ "\\")) "|" ("\\" ++ "|")) "/" ("\\" ++ "/")
def bp8:∀c∈cellS,a39 c 3=shC c/\∀i∈[0,1,2],(a39 c i).length+((a39 c i).length+1)*2<=16777216:=by decide +kernel
def Xt:∀c∈cellS,(shC c).length<=5:=by decide +kernel
theorem L4{n:Nat}:∀{l:List Nat},(∀x∈l,x<=n)->l.sum<=n*l.length
 |[],_=>ag _
 | x::l,h=>by
  have:=L4 λy hy=>h y (aK x hy)
  have h1:=h x aY
  rw[List.sum_cons,aT,Nat.mul_succ]
  omega
def Xv:∀a∈cellS,(shR [a]).length<=12/\∀b∈cellS,(shR [a,b]).length<=12:=by decide +kernel
section
variable {P:a7}{w:bL}{K:ae}{mg:Str->Option aj}{base:Heap}{t:Adr}{H H':Hp}
def bh2(Z:Ao K t):OkD K Z9 (A1 K t) bl (t.f 16) (t.d 16) (U1 K t):=by
 refine A6 (b01 K t) λvs H Q E h=>?_
 .obtain⟨c,rfl,hc,k⟩:=h;refine⟨rfl,?_⟩
  obtain⟨r3,rl⟩:=bp8 c hc
  refine⟨(show 3<=sizeLine by decide),λp hp=>.inr (.inl ⟨⟨_,SqT.of Ab⟩,?_⟩)⟩
  refine Bm (Mh [.stk "\\" t.n_zbl true,.stk "|" t.n_zbi true,.stk "/" t.n_zbj true]) (λi σ H'=>(∃v,σ=[some (.str c),some (.str (a39 c i)),v])/\H'=upd H p (.tup [.stk "\\" t.n_zbl true,.stk "|" t.n_zbi true,.stk "/" t.n_zbj true])) ⟨⟨_,rfl⟩,rfl⟩ (λi σ H' _ h=>by rw[h.2];exact SqT.of Ab) ?_ ?_
  .rintro i x σ H2 hx ⟨⟨v,rfl⟩,rfl⟩
   match i,hx with
   |0,hx=>
    cases hx
    exact⟨rfl,⟨by decide +kernel,by decide +kernel,by decide +kernel,⟨_,Z.ts.1⟩,Z.ts.2,bS _,by decide +kernel,rl 0 (by simp),⟨_,rfl⟩,rfl⟩⟩
   |1,hx=>
    cases hx
    exact⟨rfl,⟨by decide +kernel,by decide +kernel,by decide +kernel,⟨_,Z.tc.1⟩,Z.tc.2,bS _,by decide +kernel,rl 1 (by simp),⟨_,rfl⟩,rfl⟩⟩
   |2,hx=>
    cases hx
    exact⟨rfl,⟨by decide +kernel,by decide +kernel,by decide +kernel,⟨_,Z.tr.1⟩,Z.tr.2,bS _,by decide +kernel,rl 2 (by simp),⟨_,rfl⟩,rfl⟩⟩
   |i+3,hx=>cases hx
  .rintro σ H2 ⟨⟨v,rfl⟩,rfl⟩
   refine .inl ?_
   have:=k _ (Same.upd (o:=.tup [.stk "\\" t.n_zbl true,.stk "|" t.n_zbi true,.stk "/" t.n_zbj true]) hp)
   rw[<- r3] at this
   exact this
def bi3(Z:Ao K t):OkD K aa9 (A1 K t) bl (t.f 17) (t.d 17) (Vb K t):=by
 refine A6 (b13 K t) λvs H Q E h=>?_
 .obtain⟨x,r,rfl,hx,l2,hc,k⟩:=h;refine⟨rfl,?_⟩
  obtain⟨a,rfl,ha⟩:=Kw hx
  refine⟨rfl,.inr (.inl ⟨⟨_,ha⟩,λL hL=>?_⟩)⟩
  refine Cb (Mh (r.map V.str)) (λi σ' H'=>(∃v,σ'=[v])/\Same H H'/\H' L=some (sL ((r.take i).map shC))) ⟨⟨_,rfl⟩,Same.upd hL,Ab⟩ (λ_ _ _ _ h=>h.2.1.seqT ha) ?_ ?_
  .rintro i x σ' H1 hx ⟨⟨v,rfl⟩,S1,eL⟩
   rw[au] at hx
   obtain⟨c,hc',rfl⟩:=Option.map_eq_some_iff.mp hx
   refine⟨c,rfl,hc c (aI hc'),λH2 S2=>⟨_,S2 _ _ eL,?_,⟨_,rfl⟩,(S1.trans S2).set hL,?_⟩⟩
   .rw[af,af,aX];exact aZ (show _<=2 by omega) (by decide)
   .rw[Ab,bj,hc'];simp
  .rintro σ' H1 ⟨_,S1,eL⟩
   rw[af,bp] at eL
   refine⟨"|", L,r.map shC,.inr ⟨_,_,rfl⟩,rfl,.inl (SqL.of eL),?_,k _ S1⟩
   have:=L4 (n:=5) (l:=((r.map shC).map (·.length))) λx hx=>by
    obtain⟨y,hy,rfl⟩:=List.mem_map.mp hx
    obtain⟨c,hcr,rfl⟩:=List.mem_map.mp hy
    exact Xt c (hc c hcr)
   rw[af,af] at this
   rw[af,show("|" : Str).length=1 by decide +kernel]
   omega
theorem P3:∀{T:List (List Str)}{xs:List V}{i:Nat}{v:V},AtL K H (T.map Ea) xs->xs[i]?=some v -> ∃r,T[i]?=some r/\At K H (Ea r) v
 | [],xs,i,v,h,e=>by
  have h:AtL K H [] xs:=h
  unfold AtL at h
  rw[h] at e
  simp at e
 | r::T,xs,i,v,h,e=>by
  have h:AtL K H (Ea r::T.map Ea) xs:=h
  unfold AtL at h
  obtain⟨y,ys,rfl,h1,h2⟩:=h
  cases i with
  |zero=>cases e;exact⟨r,rfl,h1⟩
  |succ i=>rw[b_] at e ⊢;exact P3 h2 e
theorem E2:∀{ds:List Dt}{xs:List V},AtL K H ds xs->xs.length=ds.length
 |[],xs,h=>by unfold AtL at h;rw[h];rfl
 |d::ds,xs,h=>by unfold AtL at h;obtain⟨y,ys,rfl,_,h2⟩:=h;rw[aT,aT,E2 h2]
def OkTab.le2{T:List (List Str)}{n m:Nat}(h:OkTab T n m):T.length<=2/\∀r∈T,r.length<=2:=by
 have:=h.len
 have h1:=h.n1
 have h2:=h.m1
 exact⟨by omega,λr hr=>by have:=(h.row r hr).1;omega⟩
def Xu{r:List Str}(h:r.length<=2)(hc:∀c∈r,c∈cellS):(shR r).length<=12:=by
 match r,h,hc with
 |[],_,_=>decide +kernel
 |[a],_,hc=>exact(Xv a (hc a aY)).1
 |[a,b],_,hc=>exact(Xv a (hc a aY)).2 b (hc b (aK _ aY))
 |_::_::_::r,h,_=>simp at h
def a84(Z:Ao K t):OkD K av0 (A1 K t) bl (t.m_zbn 2) (t.e_zbn 2) (aq6 K t):=by
 refine A6 (b77 K t) λvs H Q E h=>?_
 .obtain⟨s,x,T,n,m,rfl,hx,hT,k⟩:=h;refine⟨rfl,?_⟩
  obtain⟨a,xs,rfl,ha,hr⟩:=Ho hx
  have l2:=hT.le2
  have lx:=E2 hr
  rw[af] at lx
  refine⟨rfl,.inr (.inl ⟨⟨_,ha⟩,λL hL=>?_⟩)⟩
  refine Cb (Mh xs) (λi σ' H'=>(∃v,σ'=[v])/\Same H H'/\H' L=some (sL ((T.take i).map shR))) ⟨⟨_,rfl⟩,Same.upd hL,Ab⟩ (λ_ _ _ _ h=>h.2.1.seqT ha) ?_ ?_
  .rintro i x σ' H1 hx ⟨⟨v,rfl⟩,S1,eL⟩
   obtain⟨r,er,ar⟩:=P3 hr hx
   have hm:=aI er
   refine⟨x,r,rfl,A3 S1 ar,l2.2 r hm,(hT.row r hm).2,λH2 S2=>⟨_,S2 _ _ eL,?_,⟨_,rfl⟩,(S1.trans S2).set hL,?_⟩⟩
   .rw[af,af,aX];exact aZ (show _<=2 by omega) (by decide)
   .rw[Ab,bj,er];simp
  .rintro σ' H1 ⟨_,S1,eL⟩
   rw[lx,bp] at eL
   refine⟨"/", L,T.map shR,.inr ⟨_,_,rfl⟩,rfl,.inl (SqL.of eL),?_,k _ S1⟩
   have:=L4 (n:=12) (l:=((T.map shR).map (·.length))) λx hx=>by
    obtain⟨y,hy,rfl⟩:=List.mem_map.mp hx
    obtain⟨r,hr,rfl⟩:=List.mem_map.mp hy
    exact Xu (l2.2 r hr) (hT.row r hr).2
   rw[af,af] at this
   rw[af,show("/" : Str).length=1 by decide +kernel]
   omega
def bh1(Z:Ao K t):OkD K V2 (A1 K t) bl (t.f 34) (t.d 34) (U0 K t):=by
 refine A6 (b00 K t) λvs H Q E h=>?_
 .obtain⟨x,r,rfl,hx,hg,k⟩:=h;refine⟨rfl,?_⟩
  obtain⟨q,y,rfl,hq,hy⟩:=id hx
  refine⟨_,_,.inr hq,rfl,_,_,.inr hq,rfl,_,_,.inr hq,rfl,_,_,.inr hq,rfl,⟨r.kd,rfl,hg.1,λH1 a dx S1 ea=>?_⟩⟩
  have hq1:=S1.seqT hq
  have fin:∀H2,Same H1 H2->(∀p,H2 p=none->Q (.ref p) (upd H2 p (.tup [.str r.kd,.str r.pr,.int r.rk,.str (shF r.ct)]))):=λH2 S2 p hp=>
   k _ _ ((S1.trans S2).trans (Same.upd hp)) (Cw (SqT.of Ab) (Aj A4 (Aj A4 (Aj (Cq rfl) (Aj A4 Ar)))))
  have hy1:=A3 S1 hy
  obtain⟨hk,ho⟩:=hg
  cases ec:r.ct with
  |txt z=>
   rw[ec] at ho hy1
   unfold ctD Av At at hy1
   obtain rfl:=hy1.1
   rcases hk with g|g|g
   .rw[g] at ea
    exact⟨a,dx,[],⟨t.c_zbk,Fa K t⟩,rfl,.head _,ea,rfl,⟨ag 2,ag 2⟩,_,_,.inr hq1,rfl,_,_,rfl,(show 4<=sizeLine by decide),by have:=fin H1 (Same.refl _);rw[ec] at this;exact this⟩
   .rw[g] at ea
    exact⟨a,dx,[],⟨t.c_zbo,Hy K t⟩,rfl,.tail _ (.head _),ea,rfl,⟨ag 2,ag 2⟩,_,_,.inr hq1,rfl,_,_,rfl,(show 4<=sizeLine by decide),by have:=fin H1 (Same.refl _);rw[ec] at this;exact this⟩
   .exact absurd g ho
  |tab T=>
   rw[ec] at ho hy1
   obtain⟨g,n,m,hT⟩:=ho
   rw[g] at ea
   exact⟨a,dx,[],⟨t.c_zbn,bt5 K t⟩,rfl,.tail _ (.tail _ (.head _)),ea,rfl,⟨ag 2,ag 2⟩,_,_,.inr hq1,rfl,_,_,_,_,_,rfl,hy1,hT,λH2 S2=>⟨(show 4<=sizeLine by decide),by have:=fin H2 S2;rw[ec] at this;exact this⟩⟩
end
def plD(p:Str×Int):Dt:=.tup [Av p.1,Cg p.2]
def Ll(a b:Str×Int):deq (plD a) (plD b)=decide (a=b):=by
 have e2:eqV (.int a.2) (.int b.2)=decide (a.2=b.2):=rfl
 show(eqV (.str a.1) (.str b.1)&&(eqV (.int a.2) (.int b.2)&&true))=_
 rw[E3,e2,gp,<- gq]
 exact decide_eq_decide.mpr ⟨λh=>lU h.1 h.2,λh=>by rw[h];exact⟨rfl,rfl⟩⟩
def a13{α:Type} [DecidableEq α]{f:α->Dt}{P:α->V->Prop}(hf:∀a b,deq (f a) (f b)=decide (a=b)){b o u:α}{x y z:V}(h1:P b x)(h2:P o y)(h3:P u z):P (stl b o u) (if Yq (f b) (f o) (f u)=true then x else if deq (f o) (f b)=true then z else y):=by
 unfold stl
 rw[Gb hf,hf]
 by_cases c:cla b o u=true
 .rw[if_pos c,if_pos c];exact h1
 .rw[if_neg c,if_neg c]
  by_cases e:o=b
  .rw[if_pos e,if_pos (decide_eq_true e)];exact h3
  .rw[if_neg e,if_neg (λh=>e (of_decide_eq_true h))];exact h2
def Xw(a b c d:Nat):deq (.tup [Cg a,Cg b]) (.tup [Cg c,Cg d])=decide (a=c/\b=d):=by
 show(decide ((a:Int)=(c:Int))&&(decide ((b:Int)=(d:Int))&&true))=_
 rw[gp,<- gq]
 exact decide_eq_decide.mpr (by omega)
def Go(B O U:List (List Str)):ctJ (.tab B) (.tab O) (.tab U)=if cla (Ct.tab B) (.tab O) (.tab U)=true/\(O.length=B.length/\A9 O=A9 B)/\(U.length=B.length/\A9 U=A9 B) then(.tab (Je B O U),Jf B O U) else whJ (.tab B) (.tab O) (.tab U):=rfl
def bc8:∀i:Nat,i<2 -> ∀j:Nat,j<2->(bU ++ "cell ").length<=sizeLine/\(bU ++ "cell " ++ (fg (i:Int):Str)).length<=sizeLine/\(bU ++ "cell " ++ (fg (i:Int):Str) ++ " ").length<=sizeLine/\(bU ++ "cell " ++ (fg (i:Int):Str) ++ " " ++ (fg (j:Int):Str)).length<=sizeLine/\bU ++ "cell " ++ (fg (i:Int):Str) ++ " " ++ (fg (j:Int):Str)=Kx i j:=by decide +kernel
def Pb:∀i:Nat,i<2->((i:Nat):Int).natAbs.log2<1920:=by decide +kernel
section
variable {P:a7}{w:bL}{K:ae}{mg:Str->Option aj}{base:Heap}{t:Adr}{H H':Hp}
def ad2{v:V}{c:Ct}{ws:List Str}{l q:Addr}(hl:H l=none)(hq:upd H l (sL ws) q=none)(hv:At K H (ctD c) v):Same H (upd (upd H l (sL ws)) q (.tup [v,.ref l]))/\Yc K (upd (upd H l (sL ws)) q (.tup [v,.ref l])) q (c,ws):=by
 have S1:=Same.upd (o:=sL ws) hl
 have S2:=Same.upd (o:=.tup [v,.ref l]) hq
 exact⟨S1.trans S2,v,l,SqT.of Ab,S2 _ _ Ab,A3 (S1.trans S2) hv⟩
def X9{a b c:Str}:Nl K H (.str a) (.str b) (.str c) (Av a) (Av b) (Av c):=
 ⟨⟨A4,.inr (.inl ⟨_,rfl⟩)⟩,⟨A4,.inr (.inl ⟨_,rfl⟩)⟩,⟨A4,.inr (.inl ⟨_,rfl⟩)⟩,aF (D5 _) (by decide),aF (D5 _) (by decide),aF (D5 _) (by decide)⟩
def bv2(Z:Ao K t):OkD K bb2 (A1 K t) bl (t.f 19) (t.d 19) (Rx K t):=by
 refine A6 (b71 K t) λvs H Q E h=>?_
 .obtain⟨x,y,z,b,o,u,rfl,h1,h2,h3,k⟩:=h;refine⟨rfl,?_⟩
  refine⟨x,y,z,_,_,_,rfl,Tj h1 h2 h3,?_⟩
  rw[Gb Gu]
  refine Bf (c:=cla b o u=true) (λc=>?_) (λc=>?_)
  .refine⟨(show 1<=sizeLine by decide),λl hl=>⟨(show 2<=sizeLine by decide),λq hq=>?_⟩⟩
   obtain⟨S,cw⟩:=ad2 (K:=K) (ws:=["content"]) (c:=b) hl hq h1
   refine k _ q S ?_
   unfold whJ stl
   rw[if_pos c,if_pos c]
   exact cw
  .refine⟨x,y,z,_,_,_,rfl,Tj h1 h2 h3,(show 0<=sizeLine by decide),λl hl=>⟨(show 2<=sizeLine by decide),λq hq=>?_⟩⟩
   obtain⟨S,cw⟩:=ad2 (K:=K) (ws:=[]) hl hq (a13 (P:=λc v=>At K H (ctD c) v) Gu h1 h2 h3)
   refine k _ q S ?_
   unfold whJ
   rw[if_neg c]
   exact cw
def W6{f:Addr}{d:bw}(Z:Ao K t):OkD K Su (A1 K t) bl f d (Rz K t):=by
 refine A6 (b73 K t) λvs H Q E h=>?_
 .obtain⟨s,x,y,z,b,o,u,rfl,h1,h2,h3,k⟩:=h;refine⟨rfl,?_⟩
  exact⟨x,y,z,b,o,u,rfl,h1,h2,h3,k⟩
def F2{T:List (List Str)}{n m i:Nat}(hT:OkTab T n m)(hi:i<n):∃r,T[i]?=some r/\T.getD i []=r/\r.length=m:=by
 have hl:i<T.length:=by rw[hT.len];exact hi
 exact⟨T[i],am hl,by rw[aS,am hl];rfl,(hT.row _ (cV hl)).1⟩
def D9{T:List (List Str)}{n m i:Nat}{x:V}(hx:At K H (Io T) x)(hT:OkTab T n m)(hi:i<n):∃a xs b,x=.ref a/\SqT K H a xs/\xs.length=n/\atI xs (i:Int)=some (.ref b)/\SqT K H b ((T.getD i []).map V.str):=by
 obtain⟨a,xs,rfl,ha,hr⟩:=Ho hx
 obtain⟨r,er,e2,_⟩:=F2 hT hi
 have lx:=E2 hr
 rw[af,hT.len] at lx
 obtain⟨y,hy,ay⟩:=Wb hr (i:=i) (d:=Ea r) (by rw[au,er];rfl)
 obtain⟨b,rfl,hb⟩:=Kw ay
 exact⟨a,xs,b,rfl,ha,lx,Fl hy,by rw[e2];exact hb⟩
def F9{T:List (List Str)}{n m i j:Nat}(hT:OkTab T n m)(hi:i<n)(hj:j<m):atI ((T.getD i []).map V.str) (j:Int)=some (.str (atT T i j)):=by
 obtain⟨r,er,e2,lr⟩:=F2 hT hi
 refine Fl ?_
 unfold atT
 rw[e2,au,am (by omega),aS,am (by omega)]
 rfl
def Bl{T:List (List Str)}{n m:Nat}(hT:OkTab T n m):A9 T=m:=by
 have h1:=hT.n1
 obtain⟨r,_,e2,lr⟩:=F2 hT (i:=0) (by omega)
 unfold A9
 rw[e2,lr]
def bj1(Z:Ao K t):OkD K ab7 (A1 K t) bl (t.f 20) (t.d 20) (Jl K t):=by
 refine A6 (b21 K t) λvs H Q E h=>?_
 .obtain⟨x,T,n,m,rfl,hx,hT,k⟩:=h;refine⟨rfl,?_⟩
  have h1:=hT.n1
  obtain⟨a,xs,b,rfl,ha,lx,hb,hs⟩:=D9 hx hT (i:=0) (by omega)
  refine .inl ⟨xs,.inr ha,_,_,.inr ha,hb,.inl ⟨_,.inr hs,(show 2<=sizeLine by decide),λq hq=>?_⟩⟩
  have:=k q hq
  rw[hT.len] at this
  rw[lx,af]
  exact this
def Ca(B O U:List (List Str))(i m:Nat):List Str:=(bi m).map λj=>stl (atT B i j) (atT O i j) (atT U i j)
def E8(B O U:List (List Str))(i m:Nat):List Str:=(bi m).flatMap λj=>if cla (atT B i j) (atT O i j) (atT U i j)=true then [Kx i j] else []
def Rw{B O U:List (List Str)}{i m:Nat}:(Ca B O U i m).length=m:=by unfold Ca;simp
theorem Ip{B O U:List (List Str)}{i:Nat}:∀{m:Nat},(E8 B O U i m).length<=m
 |0=>ag _
 | m+1=>by
  have:=Ip (B:=B) (O:=O) (U:=U) (i:=i) (m:=m)
  unfold E8 at this ⊢
  rw[br,bR,ak,b6]
  refine Nat.add_le_add this ?_
  split
  .exact ag 1
  .exact bo 1
def Ej(B O U:List (List Str))(i m:Nat):List Str:=(bi i).flatMap λk=>E8 B O U k m
theorem Gj{B O U:List (List Str)}{m:Nat}:∀{i:Nat},(Ej B O U i m).length<=i*m
 |0=>bo _
 | i+1=>by
  have h1:=Gj (B:=B) (O:=O) (U:=U) (m:=m) (i:=i)
  have h2:=Ip (B:=B) (O:=O) (U:=U) (i:=i) (m:=m)
  unfold Ej at h1 ⊢
  rw[br,bR,ak,b6,Nat.succ_mul]
  omega
def bv0(Z:Ao K t):OkD K bb0 (A1 K t) bl (t.f 21) (t.d 21) (aq1 K t):=by
 refine A6 (b69 K t) λvs H Q E h=>?_
 .obtain⟨x,y,z,B,O,U,n,m,rfl,h1,h2,h3,o1,o2,o3,k⟩:=h;refine⟨rfl,?_⟩
  have n1:=o1.n1
  have m1:=o1.m1
  refine⟨(show 0<=sizeLine by decide),λlr hlr=>⟨(show 0<=sizeLine by decide),λlw hlw=>?_⟩⟩
  have S0:=Same.upd (o:=.lst []) hlr
  have er0:upd (upd H lr (.lst [])) lw (.lst []) lr=some (.lst []):=Same.upd hlw _ _ Ab
  have ew0:upd (upd H lr (.lst [])) lw (.lst []) lw=some (sL []):=Ab
  have S1:=S0.trans (Same.upd (o:=.lst []) hlw)
  have nw:H lw=none:=S0.free hlw
  have nrw:lw≠lr:=λc=>by rw[c,Ab] at hlw;cases hlw
  generalize upd (upd H lr (.lst [])) lw (.lst [])=H1 at er0 ew0 S1 ⊢
  obtain⟨a,xs,b0,rfl,ha,lx,_,_⟩:=D9 h1 o1 (i:=0) (by omega)
  refine .inl ⟨xs,.inr (S1.seqT ha),⟨⟨by omega,by omega⟩,?_⟩⟩
  rw[lx,bB]
  refine Bm (Cj 0 n) (λi σ H'=>(∃v5 v6 v7 v8,σ=[some (.ref a),some y,some z,some (.ref lr),some (.ref lw),v5,v6,v7,v8])/\Same H H'/\(∃rs,H' lr=some (.lst rs)/\AtL K H' (((bi i).map λi=>Ca B O U i m).map Ea) rs)/\H' lw=some (sL (Ej B O U i m)))
   ⟨⟨_,_,_,_,rfl⟩,S1,⟨[],er0,Ar⟩,ew0⟩ (λ_ _ _ _ _=>be) ?_ ?_
  .rintro i x σ H2 hx ⟨⟨v5,v6,v7,v8,rfl⟩,S2,⟨rs,er,ar⟩,ew⟩
   obtain⟨hi,rfl⟩:=Dq hx
   have lrs:=E2 ar
   rw[af,af,bX] at lrs
   obtain⟨a',xs1,b1,e,ha1,lx1,hb1,hs1⟩:=D9 h1 o1 hi
   cases e
   obtain⟨a2,xs2,b2,rfl,ha2,lx2,hb2,hs2⟩:=D9 h2 o2 hi
   obtain⟨a3,xs3,b3,rfl,ha3,lx3,hb3,hs3⟩:=D9 h3 o3 hi
   refine⟨(show 0<=sizeLine by decide),λlc hlc=>?_⟩
   have S3:=Same.upd (o:=.lst []) hlc
   have ec3:upd H2 lc (.lst []) lc=some (sL []):=Ab
   have cr:lc≠lr:=λc=>by rw[c,er] at hlc;cases hlc
   have cw:lc≠lw:=λc=>by rw[c,ew] at hlc;cases hlc
   have er3:=S3 _ _ er
   have ew3:=S3 _ _ ew
   have nc:H lc=none:=S2.free hlc
   have S23:=S2.trans S3
   generalize upd H2 lc (.lst [])=H3 at S3 ec3 er3 ew3 S23 ⊢
   have ar3:=Aw S3 ar
   obtain⟨r1,q1,q2,q3⟩:=F2 o1 hi
   refine⟨_,_,.inr (S23.seqT ha1),hb1,.inl ⟨_,.inr (S23.seqT hs1),⟨⟨by omega,by rw[af,q2,q3];omega⟩,?_⟩⟩⟩
   rw[af,q2,q3,bB]
   refine Bm (Cj 0 m) (λj σ H'=>(∃v7 v8,σ=[some (.ref a),some (.ref a2),some (.ref a3),some (.ref lr),some (.ref lw),some (.int (i:Int)),some (.ref lc),v7,v8])/\Same H H'/\(H' lr=some (.lst rs)/\AtL K H' (((bi i).map λi=>Ca B O U i m).map Ea) rs)/\H' lw=some (sL (Ej B O U i m++E8 B O U i j))/\H' lc=some (sL (Ca B O U i j)))
    ⟨⟨_,_,rfl⟩,S23,⟨er3,ar3⟩,(by rw[ew3];unfold E8;simp),by rw[ec3];rfl⟩ (λ_ _ _ _ _=>be) ?_ ?_
   .rintro j x σ H4 hx ⟨⟨v7,v8,rfl⟩,S4,⟨er4,ar4⟩,ew4,ec4⟩
    obtain⟨hj,rfl⟩:=Dq hx
    have i2:i<2:=by omega
    have j2:j<2:=by omega
    refine⟨_,_,.inr (S4.seqT ha1),hb1,_,_,.inr (S4.seqT hs1),F9 o1 hi hj,_,_,.inr (S4.seqT ha2),hb2,_,_,.inr (S4.seqT hs2),F9 o2 hi hj,_,_,.inr (S4.seqT ha3),hb3,_,_,.inr (S4.seqT hs3),F9 o3 hi hj,(show 3<=sizeLine by decide),λq hq=>?_⟩
    generalize eb:atT B i j=cb
    generalize eo:atT O i j=co
    generalize eu:atT U i j=cu
    have S5:=Same.upd (o:=.tup [.str cb,.str co,.str cu]) hq
    have e5:upd H4 q (.tup [.str cb,.str co,.str cu]) q=some (.tup [.str cb,.str co,.str cu]):=Ab
    have S45:=S4.trans S5
    have er5:=S5 _ _ er4
    have ew5:=S5 _ _ ew4
    have ec5:=S5 _ _ ec4
    have ar5:=Aw S5 ar4
    generalize upd H4 q (.tup [.str cb,.str co,.str cu])=H5 at S5 e5 S45 er5 ew5 ec5 ar5 ⊢
    have t5:SqT K H5 q [.str cb,.str co,.str cu]:=SqT.of e5
    refine⟨.inl ⟨rfl,_,SqL.of ec5⟩,_,_,.inr t5,rfl,_,_,.inr t5,rfl,_,_,.inr t5,rfl,_,_,_,_,_,_,rfl,X9,?_⟩
    have pk:=a13 (P:=λc v=>v=V.str c) (b:=cb) (o:=co) (u:=cu) D6 rfl rfl rfl
    rw[pk]
    have l5:=Rw (B:=B) (O:=O) (U:=U) (i:=i) (m:=j)
    refine⟨lc,_,_,rfl,rfl,ec5,by rw[af,l5];exact aH (show j<2 by omega) (by decide),?_⟩
    have ec6:upd H5 lc (.lst ((Ca B O U i j).map V.str++[.str (stl cb co cu)])) lc=some (sL (Ca B O U i (j+1))):=by
     rw[Ab]
     unfold Ca
     rw[br,aw,gG,eb,eo,eu]
     simp[sL]
    have er6:upd H5 lc (.lst ((Ca B O U i j).map V.str++[.str (stl cb co cu)])) lr=some (.lst rs):=by rw[Ah (bx cr)];exact er5
    have ew6:upd H5 lc (.lst ((Ca B O U i j).map V.str++[.str (stl cb co cu)])) lw=some (sL (Ej B O U i m++E8 B O U i j)):=by rw[Ah (bx cw)];exact ew5
    have tk6:TKeep K H5 (upd H5 lc (.lst ((Ca B O U i j).map V.str++[.str (stl cb co cu)]))):=TKeep.lst ec5
    have S6:=S45.set (o:=.lst ((Ca B O U i j).map V.str++[.str (stl cb co cu)])) nc
    generalize upd H5 lc (.lst ((Ca B O U i j).map V.str++[.str (stl cb co cu)]))=H6 at ec6 er6 ew6 tk6 S6 ⊢
    have t6:=tk6 _ _ t5
    have ar6:=A8 tk6 (Bn En _) ar5
    refine⟨_,_,.inr t6,rfl,_,_,.inr t6,rfl,_,_,.inr t6,rfl,_,_,_,_,_,_,rfl,X9,?_⟩
    rw[Gb D6]
    refine Bf (c:=cla cb co cu=true) (λc=>?_) (λc=>?_)
    .obtain⟨c1,c2,c3,c4,c5⟩:=bc8 i i2 j j2
     refine⟨.inl ⟨rfl,_,SqL.of ew6⟩,c1,Pb i i2,c2,c3,Pb j j2,c4,c4,?_⟩
     rw[c5]
     have l6:=Gj (B:=B) (O:=O) (U:=U) (i:=i) (m:=m)
     have l7:=Ip (B:=B) (O:=O) (U:=U) (i:=i) (m:=j)
     have l8:i*m<=2*2:=kB (by omega) (by omega)
     refine⟨lw,_,_,rfl,rfl,ew6,by rw[af,ak];exact aZ (show _<=6 by omega) (by decide),⟨_,_,rfl⟩,S6.set nw,⟨?_,A8 (TKeep.lst ew6) (Bn En _) ar6⟩,?_,?_⟩
     .rw[Ah (bx nrw)];exact er6
     .rw[Ab]
      unfold E8
      rw[br,bR,b6,eb,eo,eu,if_pos c]
      simp[sL]
     .rw[Ah cw];exact ec6
    .refine⟨⟨_,_,rfl⟩,S6,⟨er6,ar6⟩,?_,ec6⟩
     rw[ew6]
     unfold E8
     rw[br,bR,b6,eb,eo,eu,if_neg c,bG]
   .rintro σ H4 ⟨⟨v7,v8,rfl⟩,S4,⟨er4,ar4⟩,ew4,ec4⟩
    rw[Bh] at ew4 ec4
    refine .inl ⟨.inl ⟨rfl,_,SqL.of er4⟩,_,.inl ⟨SqL.of ec4,λq hq=>?_⟩⟩
    have S5:=Same.upd (o:=.tup ((Ca B O U i m).map V.str)) hq
    have e5:upd H4 q (.tup ((Ca B O U i m).map V.str)) q=some (.tup ((Ca B O U i m).map V.str)):=Ab
    generalize upd H4 q (.tup ((Ca B O U i m).map V.str))=H5 at S5 e5 ⊢
    have er5:=S5 _ _ er4
    have tk:TKeep K H5 (upd H5 lr (.lst (rs++[.ref q]))):=TKeep.lst er5
    refine⟨lr,_,_,rfl,rfl,er5,by rw[lrs];exact aH (show i<2 by omega) (by decide),⟨_,_,_,_,rfl⟩,(S4.trans S5).set hlr,⟨_,Ab,?_⟩,?_⟩
    .rw[br,aw,aw]
     exact E1 (A8 tk (Bn En _) (Aw S5 ar4)) (Aj (Oq (tk _ _ (SqT.of e5))) Ar)
    .rw[Ah nrw,S5 _ _ ew4]
     unfold Ej
     rw[br,bR,b6]
  .rintro σ H2 ⟨⟨v5,v6,v7,v8,rfl⟩,S2,⟨rs,er,ar⟩,ew⟩
   rw[Bh] at ar ew
   refine .inl ⟨_,.inl ⟨SqL.of er,λq hq=>⟨(show 2<=sizeLine by decide),λp hp=>?_⟩⟩⟩
   have S3:=Same.upd (o:=.tup rs) hq
   have S4:=Same.upd (o:=.tup [.ref q,.ref lw]) hp
   refine k _ p ((S2.trans S3).trans S4) ⟨_,lw,SqT.of Ab,?_,?_⟩
   .rw[S4 _ _ (S3 _ _ ew)]
    unfold Ej Jf E8
    rw[o1.len,Bl o1]
   .refine A3 S4 (Cw (SqT.of Ab) (Aw S3 ?_))
    show AtL K H2 ((Je B O U).map Ea) rs
    unfold Je
    rw[o1.len,Bl o1]
    exact ar
def a83(Z:Ao K t):OkD K au6 (A1 K t) bl (t.m_zbn 1) (t.e_zbn 1) (aq0 K t):=by
 refine A6 (b68 K t) λvs H Q E h=>?_
 .obtain⟨s,x,y,z,B,O,U,rfl,h1,h2,h3,⟨⟨n1,m1,o1⟩,⟨n2,m2,o2⟩,⟨n3,m3,o3⟩⟩,k⟩:=h;refine⟨rfl,?_⟩
  have ho:∀H',Same H H'->(¬ (cla (Ct.tab B) (.tab O) (.tab U)=true/\(O.length=B.length/\A9 O=A9 B)/\(U.length=B.length/\A9 U=A9 B)))->Rx K t [x,y,z] H' Q (λ_ _ _=>False):=λH1 S1 c=>
   ⟨x,y,z,.tab B,.tab O,.tab U,rfl,A3 S1 h1,A3 S1 h2,A3 S1 h3,λH2 q S2 cw=>k _ q (S1.trans S2) (by rw[Go,if_neg c];exact cw)⟩
  refine⟨x,y,z,_,_,_,rfl,Tj (b:=.tab B) (o:=.tab O) (u:=.tab U) h1 h2 h3,?_⟩
  rw[Gb Gu]
  refine Bf (c:=cla (Ct.tab B) (.tab O) (.tab U)=true) (λc=>?_) (λc=>?_)
  .refine⟨y,O,_,_,rfl,h2,o2,λq1 hq1=>?_⟩
   have S1:=Same.upd (o:=.tup [.int (O.length:Nat),.int (A9 O:Nat)]) hq1
   have e1:upd H q1 (.tup [.int (O.length:Nat),.int (A9 O:Nat)]) q1=some (.tup [.int (O.length:Nat),.int (A9 O:Nat)]):=Ab
   generalize upd H q1 (.tup [.int (O.length:Nat),.int (A9 O:Nat)])=H1 at S1 e1 ⊢
   refine⟨x,B,_,_,rfl,A3 S1 h1,o1,λq2 hq2=>?_⟩
   have S2:=Same.upd (o:=.tup [.int (B.length:Nat),.int (A9 B:Nat)]) hq2
   have e2:upd H1 q2 (.tup [.int (B.length:Nat),.int (A9 B:Nat)]) q2=some (.tup [.int (B.length:Nat),.int (A9 B:Nat)]):=Ab
   have S12:=S1.trans S2
   have e1:=S2 _ _ e1
   generalize upd H1 q2 (.tup [.int (B.length:Nat),.int (A9 B:Nat)])=H2 at S2 e2 S12 e1 ⊢
   have a1:∀{H:Hp}{q:Addr}{a b:Nat},H q=some (.tup [.int a,.int b])->At K H (.tup [Cg a,Cg b]) (.ref q):=λe=>Cw (SqT.of e) (Aj (Cq rfl) (Aj (Cq rfl) Ar))
   refine Dp (a1 e1) (a1 e2) (.inr (.inr ⟨_,rfl⟩)) (.inr (.inr ⟨_,rfl⟩)) (show 1<=40 by decide) ?_
   rw[Xw]
   refine Bf (c:=decide (O.length=B.length/\A9 O=A9 B)=true) (λc2=>?_) (λc2=>?_)
   .refine⟨z,U,_,_,rfl,A3 S12 h3,o3,λq3 hq3=>?_⟩
    have S3:=Same.upd (o:=.tup [.int (U.length:Nat),.int (A9 U:Nat)]) hq3
    have e3:upd H2 q3 (.tup [.int (U.length:Nat),.int (A9 U:Nat)]) q3=some (.tup [.int (U.length:Nat),.int (A9 U:Nat)]):=Ab
    have S13:=S12.trans S3
    generalize upd H2 q3 (.tup [.int (U.length:Nat),.int (A9 U:Nat)])=H3 at S3 e3 S13 ⊢
    refine⟨x,B,_,_,rfl,A3 S13 h1,o1,λq4 hq4=>?_⟩
    have S4:=Same.upd (o:=.tup [.int (B.length:Nat),.int (A9 B:Nat)]) hq4
    have e4:upd H3 q4 (.tup [.int (B.length:Nat),.int (A9 B:Nat)]) q4=some (.tup [.int (B.length:Nat),.int (A9 B:Nat)]):=Ab
    have S14:=S13.trans S4
    have e3:=S4 _ _ e3
    generalize upd H3 q4 (.tup [.int (B.length:Nat),.int (A9 B:Nat)])=H4 at S4 e4 S14 e3 ⊢
    refine Dp (a1 e3) (a1 e4) (.inr (.inr ⟨_,rfl⟩)) (.inr (.inr ⟨_,rfl⟩)) (show 1<=40 by decide) ?_
    rw[Xw]
    refine Bf (c:=decide (U.length=B.length/\A9 U=A9 B)=true) (λc3=>?_) (λc3=>?_)
    .have c2:=of_decide_eq_true c2
     have c3:=of_decide_eq_true c3
     have f2:n2=n1/\m2=m1:=by rw[<- o2.len,<- o1.len,<- Bl o2,<- Bl o1];exact c2
     have f3:n3=n1/\m3=m1:=by rw[<- o3.len,<- o1.len,<- Bl o3,<- Bl o1];exact c3
     obtain⟨rfl,rfl⟩:=f2
     obtain⟨rfl,rfl⟩:=f3
     exact⟨x,y,z,B,O,U,_,_,rfl,A3 S14 h1,A3 S14 h2,A3 S14 h3,o1,o2,o3,λH5 q S5 cw=>k _ q (S14.trans S5) (by rw[Go,if_pos ⟨c,c2,c3⟩];exact cw)⟩
    .exact ho _ S14 λg=>c3 (decide_eq_true g.2.2)
   .exact ho _ S12 λg=>c2 (decide_eq_true g.2.1)
  .exact ho _ (Same.refl _) λg=>c g.1
end
def ay6(a b:Rc):D1 (.tup (Bg a)) (.tup (Bg b))=true:=by unfold Bg Av Cg;rfl
def ah4{B O U:List (List Str)}{n m:Nat}(h:OkTab B n m):(Jf B O U).length<=4:=by
 have:=Gj (B:=B) (O:=O) (U:=U) (i:=n) (m:=m)
 have l8:n*m<=2*2:=kB (by have:=h.n1;omega) (by have:=h.m1;omega)
 unfold Jf
 rw[h.len,Bl h]
 unfold Ej E8 at this
 omega
def Kr{b o u:Ct}:(whJ b o u).2.length<=4:=by
 unfold whJ
 show(if _ then _ else _:List Str).length<=4
 split <;> simp
def Wk{kd:Str}{b o u:Ct}(h:Fy kd b):(ctJ b o u).2.length<=4:=by
 cases b with
 |txt z=>exact Kr
 |tab B=>
  cases o with
  |txt z=>exact Kr
  |tab O=>
   cases u with
   |txt z=>exact Kr
   |tab U=>
    obtain⟨_,n,m,hT⟩:=h
    rw[Go]
    split
    .exact ah4 hT
    .exact Kr
section
variable {P:a7}{w:bL}{K:ae}{mg:Str->Option aj}{base:Heap}{t:Adr}{H H':Hp}
def Hn{q:Addr}{p:Str×Int}(h:H q=some (.tup [.str p.1,.int p.2])):At K H (plD p) (.ref q):=Cw (SqT.of h) (Aj A4 (Aj (Cq rfl) Ar))
def ak4{q1 q2 q3:Addr}{p1 p2 p3:Str×Int}(h1:H q1=some (.tup [.str p1.1,.int p1.2]))(h2:H q2=some (.tup [.str p2.1,.int p2.2]))(h3:H q3=some (.tup [.str p3.1,.int p3.2])):Nl K H (.ref q1) (.ref q2) (.ref q3) (plD p1) (plD p2) (plD p3):=
 ⟨⟨Hn h1,.inr (.inr ⟨_,rfl⟩)⟩,⟨Hn h2,.inr (.inr ⟨_,rfl⟩)⟩,⟨Hn h3,.inr (.inr ⟨_,rfl⟩)⟩,(show 1<=20 by decide),(show 1<=20 by decide),(show 1<=20 by decide)⟩
def af2{c:Bool}{z:Str}{σ:St}{Q:VK}{E:EK}(k:∀l H',Same H H'->H' l=some (sL (if c=true then [z] else []))->Q (.ref l) H'):if c=true then As (Aa (dC (.str z)) Ae) σ H Q E else As Ae σ H Q E:=by
 cases c with
 |true=>exact⟨(show 1<=sizeLine by decide),λl hl=>k l _ (Same.upd hl) Ab⟩
 |false=>exact⟨(show 0<=sizeLine by decide),λl hl=>k l _ (Same.upd hl) Ab⟩
def bu9(Z:Ao K t):OkD K ba9 (A1 K t) bl (t.f 22) (t.d 22) (ap8 K t):=by
 refine A6 (b66 K t) λvs H Q E h=>?_
 .obtain⟨x,y,z,b,o,u,rfl,h1,h2,h3,g1,g2,g3,k2,k3,k⟩:=h;refine⟨rfl,?_⟩
  obtain⟨q1,y1,rfl,s1,c1⟩:=h1
  obtain⟨q2,y2,rfl,s2,c2⟩:=h2
  obtain⟨q3,y3,rfl,s3,c3⟩:=h3
  refine .inr ⟨_,_,_,_,s1,rfl,rfl,λp1 hp1=>?_⟩
  have T1:=Same.upd (o:=.tup [.str b.pr,.int b.rk]) hp1
  refine .inr ⟨_,_,_,_,T1.seqT s2,rfl,rfl,λp2 hp2=>?_⟩
  have T2:=Same.upd (o:=.tup [.str o.pr,.int o.rk]) hp2
  refine .inr ⟨_,_,_,_,(T1.trans T2).seqT s3,rfl,rfl,λp3 hp3=>?_⟩
  have T3:=Same.upd (o:=.tup [.str u.pr,.int u.rk]) hp3
  have e3:upd (upd (upd H p1 (.tup [.str b.pr,.int b.rk])) p2 (.tup [.str o.pr,.int o.rk])) p3 (.tup [.str u.pr,.int u.rk]) p3=some (.tup [.str u.pr,.int u.rk]):=Ab
  have e2:=T3 p2 _ Ab
  have e1:=T3 p1 _ (T2 p1 _ Ab)
  have S1:=(T1.trans T2).trans T3
  clear T1 T2 T3
  generalize upd (upd (upd H p1 (.tup [.str b.pr,.int b.rk])) p2 (.tup [.str o.pr,.int o.rk])) p3 (.tup [.str u.pr,.int u.rk])=H1 at e1 e2 e3 S1 ⊢
  refine⟨_,_,_,_,_,_,rfl,ak4 (p1:=plO b) (p2:=plO o) (p3:=plO u) e1 e2 e3,?_⟩
  obtain⟨pp,ep,hpp⟩:=a13 (P:=λc v=>∃q,v=V.ref q/\SqT K H1 q [.str c.1,.int c.2]) (b:=plO b) (o:=plO o) (u:=plO u) Ll ⟨p1,rfl,SqT.of e1⟩ ⟨p2,rfl,SqT.of e2⟩ ⟨p3,rfl,SqT.of e3⟩
  rw[ep]
  clear ep
  clear e1 e2 e3
  refine .inr ⟨_,_,_,_,S1.seqT s1,rfl,rfl,λp1 hp1=>?_⟩
  have T1:=Same.upd (o:=.tup [.str b.pr,.int b.rk]) hp1
  refine .inr ⟨_,_,_,_,(S1.trans T1).seqT s2,rfl,rfl,λp2 hp2=>?_⟩
  have T2:=Same.upd (o:=.tup [.str o.pr,.int o.rk]) hp2
  refine .inr ⟨_,_,_,_,((S1.trans T1).trans T2).seqT s3,rfl,rfl,λp3 hp3=>?_⟩
  have T3:=Same.upd (o:=.tup [.str u.pr,.int u.rk]) hp3
  have e3:upd (upd (upd H1 p1 (.tup [.str b.pr,.int b.rk])) p2 (.tup [.str o.pr,.int o.rk])) p3 (.tup [.str u.pr,.int u.rk]) p3=some (.tup [.str u.pr,.int u.rk]):=Ab
  have e2:=T3 p2 _ Ab
  have e1:=T3 p1 _ (T2 p1 _ Ab)
  have S2:=(T1.trans T2).trans T3
  clear T1 T2 T3
  generalize upd (upd (upd H1 p1 (.tup [.str b.pr,.int b.rk])) p2 (.tup [.str o.pr,.int o.rk])) p3 (.tup [.str u.pr,.int u.rk])=H2 at e1 e2 e3 S2 ⊢
  refine⟨_,_,_,_,_,_,rfl,ak4 (p1:=plO b) (p2:=plO o) (p3:=plO u) e1 e2 e3,?_⟩
  rw[Gb Ll]
  have S12:=S1.trans S2
  refine af2 (c:=cla (plO b) (plO o) (plO u)) λw0 H3 S3 ew=>?_
  have S13:=S12.trans S3
  have nl:(if cla (plO b) (plO o) (plO u)=true then [("place" : Str)] else []).length<=1:=by split <;> simp
  have hpp3:=(S2.trans S3).seqT hpp
  refine⟨_,_,.inr (S13.seqT s1),rfl,⟨b.kd,rfl,g1.1,λH4 a dx S4 ea=>?_⟩⟩
  have S14:=S13.trans S4
  have ew4:=S4 _ _ ew
  have hpp4:=S4.seqT hpp3
  have fin:∀H5 q,Same H4 H5->Yc K H5 q (ctJ b.ct o.ct u.ct)->Ap (Bp (Aa (Bp (Aa (Ad (Ai K) (Ac 0) (dC (.int 0))) (Aa (Ad (Ai K) (Ac 3) (dC (.int 0))) (Aa (Ad (Ai K) (Ac 3) (dC (.int 1))) (Aa (Ad (Ai K) (Ac 5) (dC (.int 0))) Ae))))) (Aa (Ad (Az K) (Ac 4) (Ad (Ai K) (Ac 5) (dC (.int 1)))) Ae))) (K4 Q λ_ _=>False) [some (.ref q1),some (.ref q2),some (.ref q3),some (.ref pp),some (.ref w0),some (.ref q)] H5:=by
   intro H5 q S5 ⟨v,l,hs,el,av⟩
   refine⟨_,_,.inr ((S14.trans S5).seqT s1),rfl,_,_,.inr (S5.seqT hpp4),rfl,_,_,.inr (S5.seqT hpp4),rfl,_,_,.inr hs,rfl,(show 4<=sizeLine by decide),λr hr=>?_⟩
   have S6:=Same.upd (o:=.tup [.str b.kd,.str (stl (plO b) (plO o) (plO u)).1,.int (stl (plO b) (plO o) (plO u)).2,v]) hr
   have e6:upd H5 r (.tup [.str b.kd,.str (stl (plO b) (plO o) (plO u)).1,.int (stl (plO b) (plO o) (plO u)).2,v]) r=some (.tup [.str b.kd,.str (stl (plO b) (plO o) (plO u)).1,.int (stl (plO b) (plO o) (plO u)).2,v]):=Ab
   generalize upd H5 r (.tup [.str b.kd,.str (stl (plO b) (plO o) (plO u)).1,.int (stl (plO b) (plO o) (plO u)).2,v])=H6 at S6 e6 ⊢
   have lw:=Wk (o:=o.ct) (u:=u.ct) g1.2
   refine⟨_,_,.inr (S6.seqT hs),rfl,.inl ⟨w0,l,_,_,rfl,rfl,S6 _ _ (S5 _ _ ew4),S6 _ _ el,?_,λw1 hw1=>⟨(show 2<=sizeLine by decide),λf hf=>?_⟩⟩⟩
   .rw[af,af];exact aF (show _<=5 by omega) (by decide)
   rw[<- aw] at hf ⊢
   have S7:=Same.upd (o:=sL ((if cla (plO b) (plO o) (plO u)=true then [("place" : Str)] else [])++(ctJ b.ct o.ct u.ct).2)) hw1
   have S8:=Same.upd (o:=.tup [.ref r,.ref w1]) hf
   refine k _ f (.ref r) w1 ((((S14.trans S5).trans S6).trans S7).trans S8) (SqT.of Ab) ⟨S8 _ _ Ab,r,v,rfl,SqT.of (S8 _ _ (S7 _ _ e6)),A3 ((S6.trans S7).trans S8) av⟩
  have t1:=S14.seqT s1
  have t2:=S14.seqT s2
  have t3:=S14.seqT s3
  have a1:=A3 S14 c1
  have a2:=A3 S14 c2
  have a3:=A3 S14 c3
  obtain⟨hk,ho⟩:=g1
  have ho2:=g2.2
  have ho3:=g3.2
  rw[k2] at ho2
  rw[k3] at ho3
  generalize ec1:b.ct=d1 at ho a1 fin
  generalize ec2:o.ct=d2 at ho2 a2 fin
  generalize ec3:u.ct=d3 at ho3 a3 fin
  cases d1 with
  |txt z=>
   rcases hk with g|g|g
   .rw[g] at ea
    exact⟨a,dx,[],⟨t.c_zbk,Et K t⟩,rfl,.head _,ea,rfl,⟨ag 4,ag 4⟩,_,_,.inr t1,rfl,_,_,.inr t2,rfl,_,_,.inr t3,rfl,_,_,_,_,_,_,_,rfl,a1,a2,a3,fin⟩
   .rw[g] at ea
    exact⟨a,dx,[],⟨t.c_zbo,Gp K t⟩,rfl,.tail _ (.head _),ea,rfl,⟨ag 4,ag 4⟩,_,_,.inr t1,rfl,_,_,.inr t2,rfl,_,_,.inr t3,rfl,_,_,_,_,_,_,_,rfl,a1,a2,a3,fin⟩
   .exact absurd g ho
  |tab B=>
   obtain⟨g,n,m,o1⟩:=ho
   rw[g] at ea ho2 ho3
   cases d2 with
   |txt z=>exact absurd rfl ho2
   |tab O=>
    cases d3 with
    |txt z=>exact absurd rfl ho3
    |tab U=>
     exact⟨a,dx,[],⟨t.c_zbn,bt4 K t⟩,rfl,.tail _ (.tail _ (.head _)),ea,rfl,⟨ag 4,ag 4⟩,_,_,.inr t1,rfl,_,_,.inr t2,rfl,_,_,.inr t3,rfl,_,_,_,_,_,_,_,rfl,a1,a2,a3,⟨⟨n,m,o1⟩,ho2.2,ho3.2⟩,fin⟩
def Vl{v:V}{c:Option Rc}{ws:List Str}{l q:Addr}(hl:H l=none)(hq:upd H l (sL ws) q=none)(hv:OpAt K H c v):Same H (upd (upd H l (sL ws)) q (.tup [v,.ref l]))/\SqT K (upd (upd H l (sL ws)) q (.tup [v,.ref l])) q [v,.ref l]/\ac4 K (upd (upd H l (sL ws)) q (.tup [v,.ref l])) v l (c,ws):=by
 have S1:=Same.upd (o:=sL ws) hl
 have S2:=Same.upd (o:=.tup [v,.ref l]) hq
 exact⟨S1.trans S2,SqT.of Ab,S2 _ _ Ab,hv.up (S1.trans S2)⟩
def ay7(r:Rc):dep (.tup (Bg r))<=20:=by unfold Bg Av Cg;exact(show 1<=20 by decide)
def bv1(Z:Ao K t):OkD K bb1 (A1 K t) bl (t.f 23) (t.d 23) (aq2 K t):=by
 refine A6 (b70 K t) λvs H Q E h=>?_
 .obtain⟨x,y,z,b,o,u,rfl,h1,h2,h3,g1,g2,g3,k⟩:=h;refine⟨rfl,?_⟩
  have one:∀{c:Option Rc}{ws:List Str}{v:V}{H1:Hp}{l q:Addr},Same H H1->jnO b o u=(c,ws)->OpAt K H1 c v->H1 l=none->upd H1 l (sL ws) q=none->Q (.ref q) (upd (upd H1 l (sL ws)) q (.tup [v,.ref l])):=λS e hv hl hq=>by
   obtain⟨S2,hs,sw⟩:=Vl (K:=K) hl hq hv
   exact k _ _ _ _ (S.trans S2) hs (e▸sw)
  refine⟨x,y,z,_,_,_,rfl,aj7 h1 h2 h3,?_⟩
  rw[Gb Lk]
  refine Bf (c:=(!cla b o u)=true) (λc=>?_) (λc=>?_)
  .refine⟨x,y,z,_,_,_,rfl,aj7 h1 h2 h3,(show 0<=sizeLine by decide),λl hl=>⟨(show 2<=sizeLine by decide),λq hq=>?_⟩⟩
   refine one (ws:=[]) (Same.refl _) ?_ (a13 (P:=λc v=>OpAt K H c v) Lk h1 h2 h3) hl hq
   unfold jnO
   rw[if_neg (λe=>by rw[e] at c;cases c)]
  .have c:cla b o u=true:=by cases e:cla b o u with
    |true=>rfl
    |false=>rw[e] at c;exact absurd rfl c
   cases b with
   |none=>
    obtain rfl:x=.non:=h1
    cases o with
    |none=>exact absurd c (by unfold cla;simp)
    |some o=>
     cases u with
     |none=>exact absurd c (by unfold cla;simp)
     |some u=>
      obtain⟨q2,y2,rfl,s2,c2⟩:=id h2
      obtain⟨q3,y3,rfl,s3,c3⟩:=id h3
      refine⟨(show 2<=sizeLine by decide),λp hp=>⟨p,rfl,_,_,.tup (Bg o),.tup (Bg u),SqL.of Ab,?_⟩⟩
      have S1:=Same.upd (o:=.lst [.ref q2,.ref q3]) hp
      generalize upd H p (.lst [.ref q2,.ref q3])=H1 at S1 ⊢
      refine⟨_,o,rfl,RcAt.keep (TKeep.of S1) h2,g2 _ rfl,λH2 w1 S2 a1=>⟨S2,a1,_,u,rfl,RcAt.keep (TKeep.of (S1.trans S2)) h3,g3 _ rfl,λH3 w2 S3 a2=>⟨S3,a2,ay6 _ _,ay7 _,(show 1<=sizeLine by decide),λl hl=>⟨(show 2<=sizeLine by decide),λq hq=>?_⟩⟩⟩⟩
      refine one (ws:=["both"]) (c:=some (if Bc (Bg u) (Bg o)=true then u else o)) ((S1.trans S2).trans S3) ?_ ?_ hl hq
      .unfold jnO
       rw[if_pos c]
      .show RcAt K H3 _ (if Bc (Bg u) (Bg o)=true then V.ref q3 else V.ref q2)
       split
       .exact RcAt.keep (TKeep.of ((S1.trans S2).trans S3)) h3
       .exact RcAt.keep (TKeep.of ((S1.trans S2).trans S3)) h2
   |some b=>
    obtain⟨q1,y1,rfl,s1,c1⟩:=id h1
    cases o with
    |none=>
     obtain rfl:y=.non:=h2
     refine⟨(show 1<=sizeLine by decide),λl hl=>⟨(show 2<=sizeLine by decide),λq hq=>?_⟩⟩
     refine one (ws:=["gone"]) (Same.refl _) ?_ h3 hl hq
     unfold jnO
     rw[if_pos c]
    |some o=>
     obtain⟨q2,y2,rfl,s2,c2⟩:=id h2
     cases u with
     |none=>
      obtain rfl:z=.non:=h3
      refine⟨(show 1<=sizeLine by decide),λl hl=>⟨(show 2<=sizeLine by decide),λq hq=>?_⟩⟩
      refine one (ws:=["gone"]) (Same.refl _) ?_ h2 hl hq
      unfold jnO
      rw[if_pos c]
     |some u=>
      obtain⟨q3,y3,rfl,s3,c3⟩:=id h3
      have kind:(o.kd≠b.kd\/u.kd≠b.kd)->(1<=sizeLine/\∀l,H l=none->2<=sizeLine/\∀q,upd H l (sL [("kind" : Str)]) q=none->Q (.ref q) (upd (upd H l (sL [("kind" : Str)])) q (.tup [.ref q1,.ref l]))):=λg=>⟨(show 1<=sizeLine by decide),λl hl=>⟨(show 2<=sizeLine by decide),λq hq=>one (Same.refl _) (by unfold jnO;rw[if_pos c];exact if_pos g) h1 hl hq⟩⟩
      refine⟨_,_,.inr s2,rfl,_,_,.inr s1,rfl,?_⟩
      refine Bf (c:=(!decide (o.kd=b.kd))=true) (λe=>?_) (λe=>?_)
      .exact kind (.inl (by simpa using e))
      .refine⟨_,_,.inr s3,rfl,_,_,.inr s1,rfl,?_⟩
       refine Bf (c:=(!decide (u.kd=b.kd))=true) (λe2=>?_) (λe2=>?_)
       .exact kind (.inr (by simpa using e2))
       .have e:o.kd=b.kd:=by simpa using e
        have e2:u.kd=b.kd:=by simpa using e2
        refine⟨_,_,_,b,o,u,rfl,h1,h2,h3,g1 _ rfl,g2 _ rfl,g3 _ rfl,e,e2,?_⟩
        rw[show jnO (some b) (some o) (some u)=(some (rcJ b o u).1,(rcJ b o u).2) from by unfold jnO;rw[if_pos c];exact if_neg (λg=>g.elim (λz=>z e) λz=>z e2)] at k
        exact k
end
theorem E4{L:List Str}{z:Str}:∀{S:Rs},get (Bi S L) z=(get S z).map λr=>if z∈L then {r with pr := "" } else r
 |[]=>rfl
 | (y,r)::S=>by
  have ih:=E4 (L:=L) (z:=z) (S:=S)
  unfold Bi at ih ⊢
  rw[a8]
  by_cases e:y=z
  .subst e
   rw[Cd rfl]
   by_cases m:y∈L
   .rw[if_pos m,Cd rfl];show _=some (if y∈L then _ else _);rw[if_pos m]
   .rw[if_neg m,Cd rfl];show _=some (if y∈L then _ else _);rw[if_neg m]
  .rw[Br e,<- ih]
   by_cases m:y∈L
   .rw[if_pos m];exact Br e
   .rw[if_neg m];exact Br e
def Ft{S:Rs}{L:List Str}:keys (Bi S L)=keys S:=by
 unfold keys Bi
 rw[cF]
 refine c9 λp _=>?_
 show(if p.1∈L then _ else _:Str×Rc).1=p.1
 split <;> rfl
def Ib{S:Rs}{L:List Str}:(Bi S L).length=S.length:=by unfold Bi;rw[af]
def Ee{S:Rs}{L:List Str}{z:Str}:has (Bi S L) z=has S z:=by
 unfold has
 rw[E4,Option.isSome_map]
def Qn(S:Rs):Bi S []=S:=by
 unfold Bi
 exact(c9 λp _=>if_neg (λh=>by cases h)).trans (List.map_id S)
def Vq{S:Rs}{L L':List Str}(h:∀z,z∈L↔z∈L'):Bi S L=Bi S L':=by
 unfold Bi
 refine c9 λp _=>?_
 by_cases m:p.1∈L
 .rw[if_pos m,if_pos ((h _).mp m)]
 .rw[if_neg m,if_neg (λg=>m ((h _).mpr g))]
def rcT(r:Rc):Rc:={r with pr := "" }
def Pp{S:Rs}{L:List Str}{z:Str}(nd:(keys S).Nodup)(hz:has S z=true):Dy (Bi S L) z (rcT (Ak (Bi S L) z))=Bi S (L++[z]):=by
 unfold Dy
 rw[Ed,Ee,if_pos hz]
 have er:rcT (Ak (Bi S L) z)=rcT (Ak S z):=by
  rw[Lr (r:=if z∈L then rcT (Ak S z) else Ak S z) (by rw[E4,Ax hz];rfl)]
  split <;> rfl
 rw[er]
 unfold Bi
 rw[cF]
 refine c9 λp hp=>?_
 have hg:get S p.1=some p.2:=(ax6 nd).mpr hp
 by_cases e:p.1=z
 .subst e
  have e2:Ak S p.1=p.2:=Lr hg
  rw[if_pos (aN L aY),e2]
  by_cases m:p.1∈L
  .show (if(if p.1∈L then(p.1,rcT p.2) else p).1=p.1 then((if p.1∈L then(p.1,rcT p.2) else p).1,rcT p.2) else(if p.1∈L then(p.1,rcT p.2) else p))=(p.1,rcT p.2)
   rw[if_pos m,if_pos rfl]
  .show (if(if p.1∈L then(p.1,rcT p.2) else p).1=p.1 then((if p.1∈L then(p.1,rcT p.2) else p).1,rcT p.2) else(if p.1∈L then(p.1,rcT p.2) else p))=(p.1,rcT p.2)
   rw[if_neg m,if_pos rfl]
 .show (if(if p.1∈L then(p.1,rcT p.2) else p).1=z then _ else(if p.1∈L then(p.1,rcT p.2) else p))=if p.1∈L++[z] then(p.1,rcT p.2) else p
  by_cases m:p.1∈L
  .rw[if_pos m,if_pos (bh _ m),if_neg e]
  .rw[if_neg m,if_neg (λg=>(List.mem_append.mp g).elim m λg=>e (List.mem_singleton.mp g)),if_neg e]
theorem Bx(S:Rs)(b:Nat):∀(a:Nat)(z:Str),itN S (a+b) z=itN S b (itN S a z)
 |0,z=>by rw[iM];rfl
 |a+1,z=>by rw[Nat.add_right_comm];exact Bx S b a _
def Co(S:Rs)(k:Nat)(z:Str):itN S (k+1) z=(Ak S (itN S k z)).pr:=Bx S 1 k z
theorem Hz{S:Rs}(ne:("" : Str)∉keys S):∀k,itN S k ""=""
 |0=>rfl
 | k+1=>by
  have:get S ""=none:=aj1 (by rw[dI];exact λh=>ne (mem_keys.mpr h))
  show itN S k (Ak S "").pr=""
  unfold Ak
  rw[this]
  exact Hz ne k
def OnC(S:Rs)(z:Str):Prop:=∃k,itN S (k+1) z=z
def Orb(S:Rs)(y x:Str):Prop:=∃k,itN S k y=x
theorem O7{S:Rs}{p:Nat}{z:Str}(h:itN S p z=z):∀j,itN S (p*j) z=z
 |0=>rfl
 |j+1=>by rw[Nat.mul_succ,Bx,O7 h j,h]
def Ww{S:Rs}{p k:Nat}{z:Str}(h:itN S p z=z):itN S k z=itN S (k%p) z:=by
 conv=>lhs;rw[<- Nat.div_add_mod k p,Bx,O7 h]
def OnC.back{S:Rs}{y x:Str}(h:OnC S y)(o:Orb S y x):Orb S x y:=by
 obtain⟨p,h⟩:=h
 obtain⟨k,rfl⟩:=o
 refine⟨(p+1)*(k+1)-k,?_⟩
 rw[<- Bx,show k+((p+1)*(k+1)-k)=(p+1)*(k+1) from fZ (aF (cS k) (Nat.le_mul_of_pos_left _ (lP p))),O7 h]
def OnC.orb{S:Rs}{y x:Str}(h:OnC S y)(o:Orb S y x):OnC S x:=by
 obtain⟨p,h⟩:=h
 obtain⟨k,rfl⟩:=o
 exact⟨p,by rw[<- Bx,Nat.add_comm,Bx,h]⟩
def Orb.tr{S:Rs}{x y z:Str}(a:Orb S x y)(b:Orb S y z):Orb S x z:=by
 obtain⟨k,rfl⟩:=a
 obtain⟨j,rfl⟩:=b
 exact⟨k+j,Bx S j k x⟩
def Clo(S:Rs):Prop:=∀y r,get S y=some r->r.pr="" \/ has S r.pr=true
theorem Clo.it{S:Rs}(c:Clo S)(ne:("" : Str)∉keys S){z:Str}(hz:has S z=true):∀k,itN S k z="" \/ has S (itN S k z)=true
 |0=>.inr hz
 | k+1=>by
  rw[Co]
  rcases c.it ne hz k with h|h
  .have:=Hz ne 1
   rw[h]
   exact .inl this
  .exact c _ _ (Ax h)
theorem OnC.has{S:Rs}(c:Clo S)(ne:("" : Str)∉keys S){z:Str}(hz:has S z=true)(h:OnC S z)(k:Nat):K72.has S (itN S k z)=true:=by
 rcases c.it ne hz k with e|e
 .obtain⟨j,hj⟩:=OnC.back h ⟨k,rfl⟩
  rw[e,Hz ne] at hj
  rw[<- hj] at hz
  exact absurd (mem_keys.mpr hz) ne
 .exact e
def bt8{P:Nat->Prop}(h:∃n,P n):∃n,P n/\∀m,m<n -> ¬ P m:=by
 obtain⟨n,hn⟩:=h
 induction n using Nat.strongRecOn with
 |ind n ih=>
  by_cases g:∃m,m<n/\P m
  .obtain⟨m,h1,h2⟩:=g
   exact ih m h1 h2
  .exact⟨n,hn,λm h1 h2=>g ⟨m,h1,h2⟩⟩
theorem Ig{f:Nat->Str}:∀{n:Nat},(∀i j,i<j->j<n->f i≠f j)->((bi n).map f).Nodup
 |0,_=>eE
 | n+1,h=>by
  rw[br,aw]
  refine List.nodup_append.mpr ⟨Ig λi j ij hj=>h i j ij (by omega),by simp,λa ha b hb e=>?_⟩
  obtain⟨i,hi,rfl⟩:=List.mem_map.mp ha
  rw[gG,aC] at hb
  exact h i n (List.mem_range.mp hi) (bS n) (e.trans hb)
def OnC.few{S:Rs}(c:Clo S)(ne:("" : Str)∉keys S){z:Str}(hz:K72.has S z=true)(h:OnC S z):∃p,p<S.length/\itN S (p+1) z=z/\∀x,Orb S z x -> ∃k,k<=p/\itN S k z=x:=by
 obtain⟨p,hp,mn⟩:=bt8 h
 refine⟨p,?_,hp,λx ⟨k,hk⟩=>⟨k%(p+1),Nat.lt_succ_iff.mp (lA _ (lP p)),by rw[<- Ww hp];exact hk⟩⟩
 have nd:((bi (p+1)).map λk=>itN S k z).Nodup:=Ig λi j ij hj e=>by
  refine mn (p-j+i) (by omega) ?_
  rw[show p-j+i+1=i+(p+1-j) by omega,Bx,e,<- Bx,show j+(p+1-j)=p+1 by omega]
  exact hp
 have:=Do (x:=keys S) nd λx hx=>by
  obtain⟨k,_,rfl⟩:=List.mem_map.mp hx
  exact mem_keys.mpr (OnC.has c ne hz h k)
 rw[af,bX,Am] at this
 omega
def W9{S:Rs}(c:Clo S)(ne:("" : Str)∉keys S){z:Str}(hz:has S z=true):onB S z=true↔OnC S z:=by
 unfold onB
 rw[dR]
 constructor
 .rintro⟨k,_,h⟩
  exact⟨k,of_decide_eq_true h⟩
 .intro h
  obtain⟨p,h1,h2,_⟩:=h.few c ne hz
  exact⟨p,List.mem_range.mpr h1,decide_eq_true h2⟩
def Fs{S:Rs}(c:Clo S)(ne:("" : Str)∉keys S){z:Str}(hz:has S z=true):Cy S z=true↔OnC S z/\∀x,Orb S z x->ltS x z=false:=by
 unfold Cy
 rw[aW,W9 c ne hz,dA]
 refine and_congr_right λh=>?_
 obtain⟨p,h1,h2,h3⟩:=h.few c ne hz
 constructor
 .intro g x hx
  obtain⟨k,hk,rfl⟩:=h3 x hx
  have:=g k (List.mem_range.mpr (by omega))
  cases e:ltS (itN S k z) z with
  |true=>rw[e] at this;cases this
  |false=>rfl
 .intro g k _
  rw[g _ ⟨k,rfl⟩]
  rfl
def fir_mem{S:Rs}{z:Str}:z∈J8 S↔has S z=true/\Cy S z=true:=by
 unfold J8
 rw[dO,mem_keys]
structure RI (S:Rs) (B:List Str) (rs:List (List Str)):Prop where
 cl:∀z∈B,(Ak S z).pr="" \/ (Ak S z).pr∈B
 ring:∀r∈rs,∃y,OnC S y/\∀x,x∈r↔Orb S y x
 sub:∀r∈rs,∀x∈r,x∈B
 dj:rs.Pairwise λr r'=>∀x∈r,x∉r'
 all:∀z∈B,OnC S z -> ∃r∈rs,z∈r
structure Pth (S:Rs) (B:List Str) (s:Str) (m:Nat):Prop where
 old:∀j,j<m->has S (itN S j s)=true/\itN S j s∉B
 inj:∀i j,i<j->j<m->itN S i s≠itN S j s
abbrev Ds(S:Rs)(s:Str)(m:Nat):List Str:=(bi m).map λk=>itN S k s
section
variable {S:Rs}{B:List Str}{rs:List (List Str)}{s:Str}{m i:Nat}
def RI.start:RI S [] []:=⟨(λz h=>by cases h),(λz h=>by cases h),(λz h=>by cases h),.nil,λz h=>by cases h⟩
theorem RI.orb(R:RI S B rs)(ne:("" : Str)∉keys S){c:Str}(h:c="" \/ c∈B):∀k,itN S k c="" \/ itN S k c∈B
 |0=>h
 | k+1=>by
  rw[Co]
  rcases R.orb ne h k with e|e
  .rw[e];exact .inl (Hz ne 1)
  .exact R.cl _ e
def RI.clo(R:RI S B rs)(h:itN S m s="" \/ itN S m s∈B++Ds S s m):∀z∈B++Ds S s m,(Ak S z).pr="" \/ (Ak S z).pr∈B++Ds S s m:=λz hz=>by
 rcases List.mem_append.mp hz with g|g
 .exact (R.cl z g).imp id (bh _)
 .obtain⟨j,hj,rfl⟩:=List.mem_map.mp g
  rw[<- Co]
  by_cases e:j+1<m
  .exact .inr (aN _ (a9 (List.mem_range.mpr e)))
  .have:=List.mem_range.mp hj
   rw[show j+1=m by omega]
   exact h
def RI.stop(R:RI S B rs)(ne:("" : Str)∉keys S)(Pt:Pth S B s m)(h:itN S m s="" \/ itN S m s∈B):RI S (B++Ds S s m) rs:=by
 refine⟨R.clo (h.imp id (bh _)),R.ring,(λr hr x hx=>bh _ (R.sub r hr x hx)),R.dj,λz hz hc=>?_⟩
 rcases List.mem_append.mp hz with g|g
 .exact R.all z g hc
 .obtain⟨j,hj,rfl⟩:=List.mem_map.mp g
  have hj:=List.mem_range.mp hj
  obtain⟨k,hk⟩:=OnC.back hc (x:=itN S m s) ⟨m-j,by rw[<- Bx,fZ (d9 hj)]⟩
  have hk:itN S k (itN S m s)=itN S j s:=hk
  obtain⟨o1,o2⟩:=Pt.old j hj
  rcases R.orb ne h k with e|e
  .rw[hk] at e
   rw[e] at o1
   exact absurd (mem_keys.mpr o1) ne
  .rw[hk] at e
   exact absurd e o2
def RI.new(R:RI S B rs)(Pt:Pth S B s m)(hi:i<m)(h:itN S m s=itN S i s):RI S (B++Ds S s m) (rs++[Ds S (itN S m s) (m-i)]):=by
 have im:∀k,itN S k (itN S m s)=itN S (i+k) s:=λk=>by rw[h,<- Bx]
 have hp:itN S (m-i) (itN S m s)=itN S m s:=by rw[im,fZ (d9 hi)]
 have hc:OnC S (itN S m s):=⟨m-i-1,by rw[show m-i-1+1=m-i by omega];exact hp⟩
 have mem:∀x,x∈Ds S (itN S m s) (m-i)↔Orb S (itN S m s) x:=λx=>by
  constructor
  .intro g
   obtain⟨k,_,rfl⟩:=List.mem_map.mp g
   exact⟨k,rfl⟩
  .rintro⟨k,rfl⟩
   rw[Ww hp]
   exact a9 (List.mem_range.mpr (lA _ (by omega)))
 have nw:∀x,x∈Ds S (itN S m s) (m-i) -> ∃j,j<m/\x=itN S j s:=λx g=>by
  obtain⟨k,hk,rfl⟩:=List.mem_map.mp g
  have:=List.mem_range.mp hk
  exact⟨i+k,by omega,im k⟩
 refine⟨R.clo (.inr (aN _ (by rw[h];exact a9 (List.mem_range.mpr hi)))),λr hr=>?_,λr hr x hx=>?_,?_,λz hz hcz=>?_⟩
 .rcases List.mem_append.mp hr with g|g
  .exact R.ring r g
  .rw[List.mem_singleton.mp g];exact⟨_,hc,mem⟩
 .rcases List.mem_append.mp hr with g|g
  .exact bh _ (R.sub r g x hx)
  .rw[List.mem_singleton.mp g] at hx
   obtain⟨j,hj,rfl⟩:=nw x hx
   exact aN _ (a9 (List.mem_range.mpr hj))
 .refine List.pairwise_append.mpr ⟨R.dj,jd _ _,λr hr r' hr' x hx hx'=>?_⟩
  rw[List.mem_singleton.mp hr'] at hx'
  obtain⟨j,hj,rfl⟩:=nw x hx'
  exact(Pt.old j hj).2 (R.sub r hr _ hx)
 .rcases List.mem_append.mp hz with g|g
  .obtain⟨r,h1,h2⟩:=R.all z g hcz
   exact⟨r,bh _ h1,h2⟩
  .obtain⟨j,hj,rfl⟩:=List.mem_map.mp g
   have hj:=List.mem_range.mp hj
   exact⟨_,aN _ aY,(mem _).mpr (OnC.back hcz ⟨m-j,by rw[<- Bx,fZ (d9 hj)]⟩)⟩
def ag6{a b:Str}(h1:ltS a b=false)(h2:ltS b a=false):a=b:=by
 by_cases e:a=b
 .exact e
 .have:=(Cv (zs:=[a,b]) (by simp[e])).tot a (by simp) b (by simp) e
  rw[h1,h2] at this
  cases this
def RI.ok(R:RI S B rs)(c:Clo S)(ne:("" : Str)∉keys S)(nd:(keys S).Nodup)(full:∀z∈keys S,z∈B)(sb:∀z∈B,z∈keys S):bs0 S rs:=by
 refine⟨λr hr e=>?_,λfs lf hf=>?_⟩
 .obtain⟨y,_,h⟩:=R.ring r hr
  have:=(h y).mpr ⟨0,rfl⟩
  rw[e] at this
  cases this
 have at_:∀{j:Nat}{f:Str},fs[j]?=some f -> ∃r,rs[j]?=some r/\f∈r/\∀y∈r,ltS y f=false:=λ{j f} hj=>by
  have hl:j<rs.length:=by rw[<- lf];exact(List.getElem?_eq_some_iff.mp hj).1
  exact⟨rs[j],am hl,hf j f _ hj (am hl)⟩
 have dj:∀{i j:Nat}{r r':List Str}{x:Str},rs[i]?=some r->rs[j]?=some r'->x∈r->x∈r'->i=j:=λ{i j r r' x} hi hj hx hx'=>by
  obtain⟨li,ei⟩:=List.getElem?_eq_some_iff.mp hi
  obtain⟨lj,ej⟩:=List.getElem?_eq_some_iff.mp hj
  have pw:=List.pairwise_iff_getElem.mp R.dj
  rcases Nat.lt_trichotomy i j with h|h|h
  .exact absurd (by rw[ej];exact hx') (pw i j li lj h x (by rw[ei];exact hx))
  .exact h
  .exact absurd (by rw[ei];exact hx) (pw j i lj li h x (by rw[ej];exact hx'))
 have orb:∀{r:List Str}{f x:Str},r∈rs->f∈r->(x∈r↔Orb S f x)/\OnC S f:=λ{r f x} hr hf=>by
  obtain⟨y,hy,h⟩:=R.ring r hr
  have hfy:=(h f).mp hf
  exact⟨⟨λhx=>(hy.back hfy).tr ((h x).mp hx),λhx=>(h x).mpr (hfy.tr hx)⟩,hy.orb hfy⟩
 refine(fP ?_ (nd.sublist eU)).mpr λz=>?_
 .rw[List.nodup_iff_pairwise_ne,dm]
  intro i j hi hj ij e
  obtain⟨r,hr,h1,_⟩:=at_ (am hi)
  obtain⟨r',hr',h1',_⟩:=at_ (am hj)
  have:=dj hr hr' h1 (e▸h1')
  omega
 .show z∈fs↔z∈J8 S
  rw[fir_mem]
  constructor
  .intro hz
   obtain⟨j,hj⟩:=kc hz
   obtain⟨r,hr,h1,h2⟩:=at_ hj
   have hm:=aI hr
   have hk:=mem_keys.mp (sb z (R.sub r hm z h1))
   exact⟨hk,(Fs c ne hk).mpr ⟨(orb (x:=z) hm h1).2,λx hx=>h2 x ((orb hm h1).1.mpr hx)⟩⟩
  .rintro⟨hk,hf1⟩
   obtain⟨oc,mn⟩:=(Fs c ne hk).mp hf1
   obtain⟨r,hr,hz⟩:=R.all z (full z (mem_keys.mpr hk)) oc
   obtain⟨j,hj⟩:=kc hr
   have hl:j<fs.length:=by rw[lf];exact(List.getElem?_eq_some_iff.mp hj).1
   obtain⟨h1,h2⟩:=hf j _ r (am hl) hj
   have:=ag6 (h2 z hz) (mn _ ((orb hr hz).1.mp h1))
   rw[this]
   exact cV hl
end
def bgK(B:List (Str×Str)):List (Key×V):=B.map λp=>(.inr p.1,.str p.2)
def Wd{B:List (Str×Str)}{z:Str}(h:z∉B.map (·.1)):Bt (bgK B) (.inr z)=none:=by
 unfold Bt bgK
 rw[List.find?_eq_none.mpr λx hx e=>?_]
 .rfl
 .obtain⟨q,hq,rfl⟩:=List.mem_map.mp hx
  exact h (List.mem_map.mpr ⟨q,hq,f_ (of_decide_eq_true e)⟩)
theorem We:∀{B:List (Str×Str)}{z s:Str},(B.map (·.1)).Nodup->(z,s)∈B->Bt (bgK B) (.inr z)=some (.str s)
 | q::B,z,s,nd,h=>by
  rw[a8,bC] at nd
  rcases List.mem_cons.mp h with rfl|h
  .exact Ci rfl
  .refine (Ch λe=>nd.1 ?_).trans (We nd.2 h)
   rw[f_ e]
   exact List.mem_map.mpr ⟨_,h,rfl⟩
def bc5{B:List (Str×Str)}{z s:Str}(h:z∉B.map (·.1)):E0 (bgK B) (.inr z) (.str s)=bgK (B++[(z,s)]):=by
 rw[al2 _ (Wd h)]
 unfold bgK
 rw[aw]
 rfl
abbrev Fx(S:Rs)(s:Str)(m:Nat):List (Str×Str):=(bi m).map λj=>(itN S j s,s)
def az9(S:Rs)(s:Str)(m:Nat):(Fx S s m).map (·.1)=Ds S s m:=by unfold Fx Ds;rw[cF];rfl
def Pth.nd{S:Rs}{B:List Str}{s:Str}{m:Nat}(h:Pth S B s m):(Ds S s m).Nodup:=Ig h.inj
def Pth.le{S:Rs}{B:List Str}{s:Str}{m:Nat}(h:Pth S B s m)(f8:S.length<=8):m<=8:=by
 have:=Do (x:=keys S) h.nd λx hx=>by
  obtain⟨k,hk,rfl⟩:=List.mem_map.mp hx
  exact mem_keys.mpr (h.old k (List.mem_range.mp hk)).1
 rw[af,bX,Am] at this
 omega
def Pth.step{S:Rs}{B:List Str}{s:Str}{m:Nat}(h:Pth S B s m)(h1:has S (itN S m s)=true)(h2:itN S m s∉B++Ds S s m):Pth S B s (m+1):=by
 refine⟨λj hj=>?_,λi j ij hj=>?_⟩
 .by_cases e:j=m
  .subst e;exact⟨h1,λg=>h2 (bh _ g)⟩
  .exact h.old j (by omega)
 .by_cases e:j=m
  .subst e
   intro g
   exact h2 (aN _ (by rw[<- g];exact a9 (List.mem_range.mpr ij)))
  .exact h.inj i j ij (by omega)
def Held.clo{S:Rs}(h:Held S):Clo S:=λy r e=>(h y r e).imp id fun⟨q,hq,_⟩=>Bs hq
section
variable {P:a7}{w:bL}{K:ae}{mg:Str->Option aj}{base:Heap}{t:Adr}{H H':Hp}
def ag4{a l:Addr}{as:List Addr}{r:List Str}(h1:H a=some (sL r))(h2:H l=some (.lst (as.map V.ref)))(hr:r≠[]):a≠l:=λe=>by
 rw[e,h2] at h1
 cases r with
 |nil=>exact hr rfl
 |cons x r=>
  cases as with
  |nil=>cases h1
  |cons y as=>cases h1
def bg8(Z:Ao K t):OkD K Z6 (A1 K t) bl (t.f 25) (t.d 25) (P6 K t):=by
 refine A6 (bz7 K t) λvs H Q E h=>?_
 .obtain⟨p,d,l,S,zs,rfl,hP,el,hz,nd,lS,k⟩:=h;refine⟨rfl,?_⟩
  refine .inl ⟨⟨_,SqL.of el⟩,?_⟩
  obtain⟨kvs,ed,_⟩:=id hP.2
  have ld:l≠d:=λe=>by rw[e,ed] at el;cases el
  refine Bm (Bu (zs.map V.str)) (λi σ H'=>(∃v,σ=[some (.ref p),some (.ref l),v])/\But d H H'/\PwAt K t H' p d (Bi S (zs.take i))) ⟨⟨_,rfl⟩,(λ_ _ _ e=>e),by rw[hV,Qn];exact hP⟩ (λi σ H' _ h=>SqL.of (h.2.1 _ _ ld el)) ?_ ?_
  .rintro i x σ H2 hx ⟨⟨v,rfl⟩,B2,hP2⟩
   rw[au] at hx
   obtain⟨z,hz',rfl⟩:=Option.map_eq_some_iff.mp hx
   have hh:=hz z (aI hz')
   have ht:has (Bi S (zs.take i)) z=true:=by rw[Ee];exact hh
   have hr:=hP2.rd
   obtain⟨dx,e⟩:=id hP2.1
   refine⟨p,dx,_,⟨t.c_zbm,Wv K t⟩,rfl,.head _,e,rfl,⟨ag _,ag _⟩,⟨p,dx,_,⟨t.c_zbm,ax9 K t⟩,rfl,.head _,e,rfl,⟨ag _,ag _⟩,⟨p,d,_,z,rfl,hr,ht,λ_ _=>⟨p,dx,_,⟨t.c_zbm,ay0 K t⟩,rfl,.head _,e,rfl,⟨ag _,ag _⟩,⟨p,d,_,z,rfl,hr,ht,λ_ _=>⟨p,dx,_,⟨t.c_zbm,be0 K t⟩,rfl,.head _,e,rfl,⟨ag _,ag _⟩,⟨p,d,_,z,rfl,hr,ht,λy hy=>?_⟩⟩⟩⟩⟩⟩⟩
   refine⟨p,d,_,z,rcT (Ak (Bi S (zs.take i)) z),y,rfl,hP2,by rw[Ib];omega,hy,λH3 B3 R3=>⟨⟨_,rfl⟩,B2.trans B3,?_⟩⟩
   rw[Pp nd hh] at R3
   rw[bj,hz']
   exact hP2.but B3 R3
  .rintro σ H2 ⟨⟨v,rfl⟩,B2,hP2⟩
   rw[af,bp] at hP2
   exact .inl (k _ B2 hP2.2)
def bj4(Z:Ao K t):OkD K ac0 (A1 K t) bl (t.f 26) (t.d 26) (Vh K t):=by
 refine A6 (b24 K t) λvs H Q E h=>?_
 .obtain⟨p,d,S,z,n,rfl,hP,hn,hh,hc,mn,k⟩:=h;refine⟨rfl,?_⟩
  refine⟨(show 1<=sizeLine by decide),λl hl=>?_⟩
  have S1:=Same.upd (o:=.lst [.str z]) hl
  have e1:upd H l (.lst [.str z]) l=some (sL (Ds S z 1)):=Ab
  generalize upd H l (.lst [.str z])=H1 at S1 e1 ⊢
  obtain⟨dx,e⟩:=(hP.up S1).ins
  refine⟨p,dx,_,⟨t.c_zbm,Yz K t⟩,rfl,.head _,e,rfl,⟨ag _,ag _⟩,⟨p,d,S,z,rfl,hP.up S1,hh 0 (bo _),λ_ _=>?_⟩⟩
  refine⟨λmm σ H'=>∃j,mm=n-j/\j<=n/\σ=[some (.ref p),some (.str z),some (.ref l),some (.str (itN S (j+1) z))]/\Same H H'/\H' l=some (sL (Ds S z (j+1))),⟨n,0,rfl,bo _,rfl,S1,e1⟩,?_⟩
  rintro mm σ H2 ⟨j,rfl,hj,rfl,S2,e2⟩
  show if(!decide (itN S (j+1) z=z))=true then _ else _
  by_cases ej:j=n
  .subst ej
   rw[hc,decide_eq_true rfl]
   exact k _ l S2 e2
  .rw[decide_eq_false (mn j (by omega))]
   refine⟨_,λσ' H' h=>h,.inl ⟨rfl,_,SqL.of e2⟩,l,_,_,rfl,rfl,e2,?_,?_⟩
   .rw[af,af,bX];exact aZ (show _<=10 by omega) (by decide)
   have S3:=S2.set (o:=.lst ((Ds S z (j+1)).map V.str++[.str (itN S (j+1) z)])) hl
   have e3:upd H2 l (.lst ((Ds S z (j+1)).map V.str++[.str (itN S (j+1) z)])) l=some (sL (Ds S z (j+1+1))):=by
    rw[Ab]
    unfold Ds
    rw[br (n:=j+1),aw,sL,aw]
    rfl
   generalize upd H2 l (.lst ((Ds S z (j+1)).map V.str++[.str (itN S (j+1) z)]))=H3 at S3 e3 ⊢
   obtain⟨dx,e⟩:=(hP.up S3).ins
   refine⟨p,dx,_,⟨t.c_zbm,Yz K t⟩,rfl,.head _,e,rfl,⟨ag _,ag _⟩,⟨p,d,S,_,rfl,hP.up S3,hh (j+1) (by omega),λ_ _=>?_⟩⟩
   exact⟨n-(j+1),by omega,j+1,rfl,by omega,by rw[Co S (j+1)];rfl,S3,e3⟩
structure RgI (S:Rs) (ks:List Str) (i:Nat) (B:List (Str×Str)) (rs:List (List Str)):Prop where
 ri:RI S (B.map (·.1)) rs
 nd:(B.map (·.1)).Nodup
 ok:∀q∈B,has S q.1=true/\q.2∈ks.take i
 all:∀z∈ks.take i,z∈B.map (·.1)
 few:rs.length<=i
def bj0(Z:Ao K t):OkD K ab6 (A1 K t) bl (t.f 27) (t.d 27) (Vf K t):=by
 refine A6 (b20 K t) λvs H Q E h=>?_
 .obtain⟨p,d,S,rfl,hP,hL,hH,k⟩:=h;refine⟨rfl,?_⟩
  have clo:=hH.clo
  have f8:=hL.f8
  refine⟨(show 0<=sizeLine by decide),λlr hlr=>λlb hlb=>.inl ?_⟩
  have S1:=Same.upd (o:=.lst []) hlr
  have er:upd (upd H lr (.lst [])) lb (.dK []) lr=some (.lst (([]:List Addr).map V.ref)):=Same.upd hlb _ _ Ab
  have eb:upd (upd H lr (.lst [])) lb (.dK []) lb=some (.dK (bgK [])):=Ab
  have S2:=S1.trans (Same.upd (o:=.dK []) hlb)
  have nb:H lb=none:=S1.free hlb
  have nrb:lb≠lr:=λe=>by rw[e,Ab] at hlb;cases hlb
  generalize upd (upd H lr (.lst [])) lb (.dK [])=H2 at er eb S2 ⊢
  obtain⟨dx,e⟩:=(hP.up S2).ins
  refine⟨p,dx,_,⟨t.c_zbm,Tu K t⟩,rfl,.head _,e,rfl,⟨ag _,ag _⟩,⟨p,d,S,rfl,hP.up S2,hL.nd,by omega,λD hD=>?_⟩⟩
  have pk:=Al ltS (keys S)
  have kn:(An ltS (keys S)).Nodup:=pk.nodup_iff.mpr hL.nd
  have kl:(An ltS (keys S)).length<=8:=by rw[pk.length_eq,Am];exact f8
  have km:∀z,z∈An ltS (keys S)↔has S z=true:=λz=>by rw[pk.mem_iff,mem_keys]
  generalize An ltS (keys S)=ks at kn kl km ⊢
  have S3:=Same.upd (o:=sL ks) hD
  have eD:upd H2 D (sL ks) D=some (sL ks):=Ab
  have nD:H D=none:=S2.free hD
  have Dr:D≠lr:=λc=>by rw[c,er] at hD;cases hD
  have Db:D≠lb:=λc=>by rw[c,eb] at hD;cases hD
  have er:=S3 _ _ er
  have eb:=S3 _ _ eb
  have S23:=S2.trans S3
  generalize upd H2 D (sL ks)=H3 at S3 eD er eb S23 ⊢
  refine .inl ⟨⟨_,SqL.of eD⟩,?_⟩
  refine Bm (Bu (ks.map V.str)) (λi σ H'=>(∃v3 v4,σ=[some (.ref p),some (.ref lr),some (.ref lb),v3,v4])/\Same H H'/\H' D=some (sL ks)/\∃B rs,H' lb=some (.dK (bgK B))/\ac3 H' lr rs/\RgI S ks i B rs)
   ⟨⟨_,_,rfl⟩,S23,eD,[],[],eb,⟨[],er,rfl,λi a r h=>by simp at h⟩,⟨RI.start,eE,(λq h=>by cases h),(λz h=>by cases h),ag _⟩⟩ (λi σ H' _ h=>SqL.of h.2.2.1) ?_ ?_
  .rintro i x σ H4 hx ⟨⟨v3,v4,rfl⟩,S4,eD4,B,rs,eb4,ll4,R⟩
   rw[au] at hx
   obtain⟨s,hs,rfl⟩:=Option.map_eq_some_iff.mp hx
   have hsS:=(km s).mp (aI hs)
   have snew:=Gh kn hs
   have tk1:ks.take (i+1)=ks.take i++[s]:=by rw[bj,hs];rfl
   refine⟨λmm σ H'=>∃m,mm=9-m/\σ=[some (.ref p),some (.ref lr),some (.ref lb),some (.str s),some (.str (itN S m s))]/\Same H H'/\H' D=some (sL ks)/\H' lb=some (.dK (bgK (B++Fx S s m)))/\ac3 H' lr rs/\Pth S (B.map (·.1)) s m,⟨9,0,rfl,rfl,S4,eD4,by rw[eb4,show B++Fx S s 0=B from bG B],ll4,⟨λj hj=>absurd hj (iy _),λi j _ hj=>absurd hj (iy _)⟩⟩,?_⟩
   rintro mm σ H5 ⟨m,rfl,rfl,S5,eD5,eb5,ll5,Pt⟩
   have hm8:=Pt.le f8
   have fst:(B++Fx S s m).map (·.1)=B.map (·.1)++Ds S s m:=by rw[aw,az9]
   have nd5:((B++Fx S s m).map (·.1)).Nodup:=by
    rw[fst]
    refine List.nodup_append.mpr ⟨R.nd,Pt.nd,λa ha b hb e=>?_⟩
    obtain⟨j,hj,rfl⟩:=List.mem_map.mp hb
    exact(Pt.old j (List.mem_range.mp hj)).2 (e▸ha)
   have ok5:∀q∈B++Fx S s m,has S q.1=true/\q.2∈ks.take (i+1):=λq hq=>by
    rw[tk1]
    rcases List.mem_append.mp hq with g|g
    .exact⟨(R.ok q g).1,bh _ (R.ok q g).2⟩
    .obtain⟨j,hj,rfl⟩:=List.mem_map.mp g
     exact⟨(Pt.old j (List.mem_range.mp hj)).1,aN _ aY⟩
   have all5:(itN S m s="" \/ itN S m s∈(B++Fx S s m).map (·.1)) -> ∀z∈ks.take (i+1),z∈(B++Fx S s m).map (·.1):=λg z hz=>by
    rw[tk1] at hz
    rw[fst] at g ⊢
    rcases List.mem_append.mp hz with h|h
    .exact bh _ (R.all z h)
    .rw[List.mem_singleton.mp h]
     cases m with
     |zero=>
      rcases g with g|g
      .have g:s="" := g
       rw[g] at hsS
       exact absurd (mem_keys.mpr hsS) hL.ne
      .exact g
     |succ m=>exact aN _ (List.mem_map.mpr ⟨0,List.mem_range.mpr (lP m),rfl⟩)
   have few5:rs.length<=i+1:=i4 R.few
   show if(!decide (itN S m s=""))=true then _ else _
   by_cases e0:itN S m s=""
   .rw[decide_eq_true e0]
    show if(!decide (itN S m s=""))=true then _ else _
    rw[decide_eq_true e0]
    exact⟨⟨_,_,rfl⟩,S5,eD5,_,rs,eb5,ll5,⟨by rw[fst];exact R.ri.stop hL.ne Pt (.inl e0),nd5,ok5,all5 (.inl e0),few5⟩⟩
   .rw[decide_eq_false e0]
    have hn:has S (itN S m s)=true:=(clo.it hL.ne hsS m).resolve_left e0
    by_cases hin:itN S m s∈(B++Fx S s m).map (·.1)
    .obtain⟨⟨y,s'⟩,hq,ey⟩:=List.mem_map.mp hin
     have ey:y=itN S m s:=ey
     subst ey
     have hv:=We nd5 hq
     refine .inr ⟨some (.str s'),.inl ⟨_,.inr (itN S m s),.inl eb5,rfl,hv.symm⟩,?_⟩
     show if(!decide (itN S m s=""))=true then _ else _
     rw[decide_eq_false e0]
     refine⟨.str s',.inl ⟨_,.inr (itN S m s),.inl eb5,rfl,hv.symm⟩,?_⟩
     show if decide (s'=s)=true then _ else _
     rcases List.mem_append.mp hq with g|g
     .have ns:s'≠s:=λc=>snew (c▸(R.ok _ g).2)
      rw[decide_eq_false ns]
      exact⟨⟨_,_,rfl⟩,S5,eD5,_,rs,eb5,ll5,⟨by rw[fst];exact R.ri.stop hL.ne Pt (.inr (List.mem_map.mpr ⟨_,g,rfl⟩)),nd5,ok5,all5 (.inr hin),few5⟩⟩
     .obtain⟨i0,hi0,eq⟩:=List.mem_map.mp g
      have hi0:=List.mem_range.mp hi0
      have eq1:itN S i0 s=itN S m s:=congrArg kX eq
      have eq2:s=s':=congrArg mB eq
      rw[decide_eq_true eq2.symm]
      obtain⟨as,ea,le,la⟩:=id ll5
      have im:∀k,itN S k (itN S m s)=itN S (i0+k) s:=λk=>by rw[<- eq1,<- Bx]
      refine⟨.inl ⟨rfl,_,SqL.of ea⟩,p,d,S,itN S m s,m-i0-1,rfl,hP.up S5,by omega,λk hk=>?_,?_,λk hk=>?_,λH6 l S6 el=>?_⟩
      .rw[im];exact(Pt.old _ (by omega)).1
      .rw[im,show i0+(m-i0-1+1)=m by omega]
      .rw[im,<- eq1]
       exact bx (Pt.inj _ _ (by omega) (by omega))
      rw[show m-i0-1+1=m-i0 by omega] at el
      have ne0:Ds S (itN S m s) (m-i0)≠[]:=λc=>by
       have:=congrArg eX c
       rw[af,bX] at this
       have:m-i0=0:=this
       omega
      have nl:=ag4 el (S6 _ _ ea) ne0
      have R2:RI S (B.map (·.1)++Ds S s m) (rs++[Ds S (itN S m s) (m-i0)]):=R.ri.new Pt hi0 eq1.symm
      have la2:as.length<=8:=by rw[le];have:=R.few;have:=(List.getElem?_eq_some_iff.mp hs).1;omega
      refine⟨lr,_,_,rfl,rfl,S6 _ _ ea,by rw[af];exact aZ la2 (by decide),⟨_,_,rfl⟩,(S5.trans S6).set hlr,?_,_,rs++[Ds S (itN S m s) (m-i0)],?_,⟨as++[l],by rw[Ab,aw];rfl,by rw[ak,ak,le];rfl,λj a r ha hr=>?_⟩,⟨by rw[fst];exact R2,nd5,ok5,all5 (.inr hin),by rw[ak];exact dB R.few⟩⟩
      .rw[Ah Dr];exact S6 _ _ eD5
      .rw[Ah nrb];exact S6 _ _ eb5
      .have hrne:r≠[]:=λc=>by
        obtain⟨y,_,hy⟩:=R2.ring r (aI hr)
        have:=(hy y).mpr ⟨0,rfl⟩
        rw[c] at this
        cases this
       have ha6:H6 a=some (sL r):=by
        by_cases jl:j<as.length
        .rw[bO jl] at ha
         rw[bO (by omega)] at hr
         exact S6 _ _ (la j a r ha hr)
        .have hj:j=as.length:=by
          have:=(List.getElem?_eq_some_iff.mp ha).1
          rw[ak,bK] at this
          omega
         subst hj
         rw[bz (ag _),h8] at ha
         rw[le,bz (ag _),h8] at hr
         cases ha
         cases hr
         exact el
       rw[Ah (ag4 ha6 (S6 _ _ ea) hrne)]
       exact ha6
    .refine .inr ⟨none,.inl ⟨_,.inr (itN S m s),.inl eb5,rfl,(Wd hin).symm⟩,?_⟩
     refine⟨_,λσ' H' h=>h,_,.inl ⟨_,.inr (itN S m s),eb5,rfl,?_,rfl⟩,?_⟩
     .have l1:=Do (x:=keys S) nd5 λx hx=>by
       obtain⟨q,hq,rfl⟩:=List.mem_map.mp hx
       exact mem_keys.mpr (ok5 q hq).1
      rw[af,Am] at l1
      unfold bgK
      rw[af]
      exact aZ (show _<=8 by omega) (by decide)
     rw[bc5 hin]
     have e6:upd H5 lb (.dK (bgK (B++Fx S s m++[(itN S m s,s)]))) lb=some (.dK (bgK (B++Fx S s (m+1)))):=by
      rw[Ab]
      unfold Fx
      rw[br,aw,ck]
      rfl
     have S6:=S5.set (o:=.dK (bgK (B++Fx S s m++[(itN S m s,s)]))) nb
     have eD6:upd H5 lb (.dK (bgK (B++Fx S s m++[(itN S m s,s)]))) D=some (sL ks):=by rw[Ah Db];exact eD5
     have ll6:ac3 (upd H5 lb (.dK (bgK (B++Fx S s m++[(itN S m s,s)])))) lr rs:=by
      obtain⟨as,ea,le,la⟩:=ll5
      refine⟨as,by rw[Ah (bx nrb)];exact ea,le,λj a r ha hr=>?_⟩
      have:=la j a r ha hr
      rw[Ah (λc=>by rw[c,eb5] at this;cases this)]
      exact this
     generalize upd H5 lb (.dK (bgK (B++Fx S s m++[(itN S m s,s)])))=H6 at e6 S6 eD6 ll6 ⊢
     obtain⟨dx,e⟩:=(hP.up S6).ins
     refine⟨p,dx,_,⟨t.c_zbm,Yz K t⟩,rfl,.head _,e,rfl,⟨ag _,ag _⟩,⟨p,d,S,_,rfl,hP.up S6,hn,λ_ _=>?_⟩⟩
     exact⟨9-(m+1),by omega,m+1,rfl,by rw[Co S m];rfl,S6,eD6,e6,ll6,Pt.step hn (by rw[<- fst];exact hin)⟩
  .rintro σ H4 ⟨⟨v3,v4,rfl⟩,S4,eD4,B,rs,eb4,ll4,R⟩
   rw[af] at R
   have al:=R.all
   rw[bp] at al
   exact .inl (k H4 lr rs S4 ll4 (R.ri.ok clo hL.ne hL.nd (λz hz=>al z ((km z).mpr (mem_keys.mp hz))) λz hz=>by
    obtain⟨q,hq,rfl⟩:=List.mem_map.mp hz
    exact mem_keys.mpr (R.ok q hq).1) (aF R.few kl))
end
def loo_mem{S:Rs}{z:Str}:z∈C3 S↔has S z=true/\Bd S (Ak S z).pr=false:=by
 unfold C3
 rw[dO,mem_keys]
 refine and_congr_right λ_=>?_
 cases Bd S (Ak S z).pr <;> simp
def Dx{S:Rs}{L:List Str}{z:Str}{r:Rc}(h:get (Bi S L) z=some r):∃r0,get S z=some r0/\r=if z∈L then rcT r0 else r0:=by
 rw[E4] at h
 obtain⟨r0,h1,h2⟩:=Option.map_eq_some_iff.mp h
 exact⟨r0,h1,h2.symm⟩
def ao0(r0:Rc){L:List Str}{z:Str}:(if z∈L then rcT r0 else r0).kd=r0.kd/\(if z∈L then rcT r0 else r0).ct=r0.ct/\(if z∈L then rcT r0 else r0).rk=r0.rk:=by split <;> exact⟨rfl,rfl,rfl⟩
def Lo.top{S:Rs}(h:Lo S)(L:List Str):Lo (Bi S L):=by
 refine⟨by rw[Ft];exact h.nd,by rw[Ib];exact h.f8,by rw[Ft];exact h.ne,λz r e=>?_⟩
 obtain⟨r0,h1,rfl⟩:=Dx e
 have:=h.gd z r0 h1
 obtain⟨k1,k2,_⟩:=ao0 r0 (L:=L) (z:=z)
 unfold Gd
 rw[k1,k2]
 exact this
def heldB_iff{S:Rs}{p:Str}:Bd S p=true↔p="" \/ ∃q,get S p=some q/\q.kd="chapter" := by
 unfold Bd
 rw[eF,decide_eq_true_iff,decide_eq_true_iff,aP]
def N2{S:Rs}{L:List Str}{p:Str}:Bd (Bi S L) p=Bd S p:=by
 unfold Bd
 rw[E4]
 cases get S p with
 |none=>rfl
 |some r=>
  show(_||decide (some (if p∈L then rcT r else r).kd=some ("chapter" : Str)))=_
  rw[(ao0 r (L:=L) (z:=p)).1]
  rfl
def Hw(S:Rs):Held (up1 S):=λz r e=>by
 unfold up1 at e ⊢
 obtain⟨r0,h1,rfl⟩:=Dx e
 by_cases m:z∈C3 S
 .rw[if_pos m];exact .inl rfl
 .rw[if_neg m]
  have:Bd S r0.pr=true:=by
   cases g:Bd S r0.pr with
   |true=>rfl
   |false=>exact absurd (loo_mem.mpr ⟨Bs h1,by rw[Lr h1];exact g⟩) m
  rw[<- N2 (L:=C3 S)] at this
  exact heldB_iff.mp this
section
variable {P:a7}{w:bL}{K:ae}{mg:Str->Option aj}{base:Heap}{t:Adr}{H H':Hp}
def bh0(Z:Ao K t):OkD K Z8 (A1 K t) bl (t.f 28) (t.d 28) (Uz K t):=by
 refine A6 (bz9 K t) λvs H Q E h=>?_
 .obtain⟨p,d,S,rfl,hP,hL,_,k⟩:=h;refine⟨rfl,?_⟩
  have f8:=hL.f8
  obtain⟨dx,e⟩:=hP.rd.ins
  refine⟨p,dx,_,⟨t.c_zbm,Tu K t⟩,rfl,.head _,e,rfl,⟨ag _,ag _⟩,⟨p,d,S,rfl,hP.rd,hL.nd,by omega,λD hD=>?_⟩⟩
  have pk:=Al ltS (keys S)
  have kl:(An ltS (keys S)).length<=8:=by rw[pk.length_eq,Am];exact f8
  have km:∀z,z∈An ltS (keys S)->has S z=true:=λz hz=>mem_keys.mp (pk.mem_iff.mp hz)
  have pf:=pk.filter λz=>!Bd S (Ak S z).pr
  generalize An ltS (keys S)=ks at kl km pf ⊢
  have S1:=Same.upd (o:=sL ks) hD
  have eD:upd H D (sL ks) D=some (sL ks):=Ab
  generalize upd H D (sL ks)=H1 at S1 eD ⊢
  refine .inl ⟨⟨_,SqL.of eD⟩,λl hl=>?_⟩
  have nl:H l=none:=S1.free hl
  refine Cb (Bu (ks.map V.str)) (λi σ H'=>(∃v,σ=[v,some (.ref p)])/\Same H1 H'/\H' l=some (sL ((ks.take i).filter λz=>!Bd S (Ak S z).pr))) ⟨⟨_,rfl⟩,Same.upd hl,Ab⟩ (λi σ H' _ h=>SqL.of (h.2.1 _ _ eD)) ?_ ?_
  .rintro i x σ H2 hx ⟨⟨v,rfl⟩,S2,el⟩
   rw[au] at hx
   obtain⟨z,hz,rfl⟩:=Option.map_eq_some_iff.mp hx
   have hi:=(List.getElem?_eq_some_iff.mp hz).1
   have hP2:=hP.rd.up (S1.trans S2)
   obtain⟨dx,e⟩:=hP2.ins
   refine⟨p,dx,_,⟨t.c_zbm,Yz K t⟩,rfl,.head _,e,rfl,⟨ag _,ag _⟩,⟨p,d,S,z,rfl,hP2,km z (aI hz),λ_ _=>⟨p,d,S,(Ak S z).pr,rfl,hP2,hL.gd,λH3 S3=>?_⟩⟩⟩
   have tk1:ks.take (i+1)=ks.take i++[z]:=by rw[bj,hz];rfl
   refine Bf (c:=(!Bd S (Ak S z).pr)=true) (λc=>⟨_,S3 _ _ el,?_,⟨_,rfl⟩,(S2.trans S3).set hl,?_⟩) (λc=>⟨⟨_,rfl⟩,S2.trans S3,?_⟩)
   .rw[af]
    exact aZ (aF (ca _ _) (show _<=8 by rw[aX];omega)) (by decide)
   .rw[Ab,tk1,dw,fj,if_pos c,sL,aw]
    rfl
   .rw[S3 _ _ el,tk1,dw,fj,if_neg c,gC,bG]
  .rintro σ H2 ⟨_,S2,el⟩
   rw[af,bp] at el
   generalize hF:(ks.filter λz=>!Bd S (Ak S z).pr)=F at el pf
   have pf:F.Perm (C3 S):=pf
   have hP2:=hP.up (S1.trans S2)
   have e1:Bi S F=up1 S:=Vq λz=>pf.mem_iff
   refine⟨p,d,l,S,F,rfl,hP2,el,λz hz=>(loo_mem.mp (pf.mem_iff.mp hz)).1,hL.nd,by omega,λH3 B3 R3=>?_⟩
   rw[e1] at R3
   have hP3:=hP2.but B3 R3
   have L1:Lo (up1 S):=hL.top _
   obtain⟨kvs2,ed2,_⟩:=id hP2.2
   have el3:=B3 _ _ (λc=>by rw[c,ed2] at el;cases el) el
   have B03:But d H H3:=(But.of (S1.trans S2)).trans B3
   refine⟨p,d,up1 S,rfl,hP3.rd,L1,Hw S,λH4 lr rs S4 ⟨as,ea,le,la⟩ hR r8=>.inl ⟨⟨_,SqL.of ea⟩,λl2 hl2=>?_⟩⟩
   refine Cb (Bu (as.map V.ref)) (λi σ H'=>(∃v,σ=[v])/\Same H4 H'/\∃fs:List Str,fs.length=i/\H' l2=some (sL fs)/\∀(j:Nat) f r,fs[j]?=some f->rs[j]?=some r->f∈r/\∀y∈r,ltS y f=false) ⟨⟨_,rfl⟩,Same.upd hl2,[],rfl,Ab,λj f r h=>by simp at h⟩ (λi σ H' _ h=>SqL.of (h.2.1 _ _ ea)) ?_ ?_
   .rintro i x σ H5 hx ⟨⟨v,rfl⟩,S5,fs,lf,e5,hf⟩
    rw[au] at hx
    obtain⟨a,ha,rfl⟩:=Option.map_eq_some_iff.mp hx
    have hi:=(List.getElem?_eq_some_iff.mp ha).1
    have hr:rs[i]?=some (rs[i]'(by omega)):=am _
    have har:=S5 _ _ (la i a _ ha hr)
    refine⟨_,SqL.of har,hR.1 _ (aI hr),λz hz hm=>⟨_,e5,?_,⟨_,rfl⟩,S5.set hl2,fs++[z],by rw[ak,lf];rfl,by rw[Ab,sL,aw];rfl,λj f r hj hj2=>?_⟩⟩
    .rw[af];exact aZ (show _<=8 by omega) (by decide)
    .by_cases jl:j<fs.length
     .rw[bO jl] at hj
      exact hf j f r hj hj2
     .have hj3:j=i:=by
       have:=(List.getElem?_eq_some_iff.mp hj).1
       rw[ak,bK] at this
       omega
      subst hj3
      rw[<- lf,bz (ag _),h8] at hj
      cases hj
      rw[hr] at hj2
      cases hj2
      exact⟨hz,hm⟩
   .rintro σ H5 ⟨_,S5,fs,lf,e5,hf⟩
    rw[af,le] at lf
    have pm:=hR.2 fs lf hf
    have hP5:=hP3.up (S4.trans S5)
    have el5:=S5 _ _ (S4 _ _ el3)
    refine⟨p,d,l2,up1 S,fs,rfl,hP5,e5,λz hz=>(fir_mem.mp (pm.mem_iff.mp hz)).1,L1.nd,by have:=L1.f8;omega,λH6 B6 R6=>?_⟩
    rw[show Bi (up1 S) fs=up2 S from Vq λz=>pm.mem_iff] at R6
    obtain⟨kvs5,ed5,_⟩:=id hP5.2
    have el6:=B6 _ _ (λc=>by rw[c,ed5] at el5;cases el5) el5
    have e6:=B6 _ _ (λc=>by rw[c,ed5] at e5;cases e5) e5
    have lF:F.length<=8:=by rw[<- hF];exact aF (ca _ _) kl
    refine .inl ⟨l,l2,_,_,rfl,rfl,el6,e6,?_,λl3 hl3=>?_⟩
    .rw[af,af];exact aF (show _<=16 by omega) (by decide)
    rw[<- aw]
    have S7:=Same.upd (o:=sL (F++fs)) hl3
    exact k _ l3 _ ((B03.trans ((But.of (S4.trans S5)).trans B6)).trans (But.of S7)) (R6.up S7) Ab (pf.append pm)
end
def Lz{α:Type}{lt:α->α->Bool}{xs ys:List α}(o:OrdL lt xs)(p:xs.Perm ys):An lt xs=An lt ys:=by
 have oy:OrdL lt ys:=o.of (λa h=>p.mem_iff.mpr h) (p.nodup_iff.mp o.nd)
 have px:=Al lt xs
 exact D0 (o.of (λa h=>px.mem_iff.mp h) (px.nodup_iff.mpr o.nd)) ((px.trans p).trans (Al lt ys).symm) (Bq o) (Bq oy)
def Pf{z:Str}(xs:List Str):z∈Dl xs↔z∈xs:=by
 have:∀(ys acc:List Str),z∈ys.foldl (λσ k=>if σ.any (λj=>decide (j=k)) then σ else σ++[k]) acc↔z∈acc\/z∈ys:=by
  intro ys
  induction ys with
  |nil=>intro acc;simp
  |cons y ys ih=>
   intro acc
   rw[List.foldl_cons,ih,aG]
   split
   .rename_i c
    obtain⟨j,hj,e⟩:=List.any_eq_true.mp c
    have e:=of_decide_eq_true e
    subst e
    constructor
    .exact λh=>h.imp id .inr
    .rintro (h|rfl|h)
     .exact .inl h
     .exact .inl hj
     .exact .inr h
   .rw[a_,aC,or_assoc]
 exact(this xs []).trans (by simp)
def X2{xs ys:List Str}(h:∀z,z∈xs↔z∈ys):An ltS (Dl xs)=An ltS (Dl ys):=
 Lz (Cv (E6 xs)) ((fP (E6 xs) (E6 ys)).mpr λz=>by rw[Pf,Pf,h])
def nms_mem{E O U:Rs}{z:Str}:z∈nms E O U↔has E z=true\/has O z=true\/has U z=true:=by
 unfold nms
 rw[(Al _ _).mem_iff,Pf,a_,a_,mem_keys,mem_keys,mem_keys,or_assoc]
def Lh(E O U:Rs):(nms E O U).Nodup:=(Al _ _).nodup_iff.mpr (E6 _)
def ai7(E O U:Rs):(nms E O U).Pairwise λa b=>ltS a b=true:=Bq (Cv (E6 _))
def a01(E O U:Rs):nms E O U=nms E U O:=X2 λz=>by simp only[a_];rw[or_assoc,or_assoc,or_comm (a:=z∈keys O)]
def a00(E O U:Rs):An ltS (Dl (An ltS (keys E)++An ltS (keys O)++An ltS (keys U)))=nms E O U:=X2 λz=>by simp only[a_,(Al _ _).mem_iff]
def Kk{E O U:Rs}{zs:List Str}(e:Sid zs E)(o:Sid zs O)(u:Sid zs U)(l:zs.length<=8):(nms E O U).length<=8:=aF (Do (Lh E O U) λz hz=>by
 rcases nms_mem.mp hz with h|h|h
 .exact e.sub z (mem_keys.mpr h)
 .exact o.sub z (mem_keys.mpr h)
 .exact u.sub z (mem_keys.mpr h)) l
def Vi{α:Type} [DecidableEq α]{P:α->Prop}{b o u:α}(h1:P b)(h2:P o)(h3:P u):P (stl b o u):=by
 unfold stl
 split
 .exact h1
 .split
  .exact h3
  .exact h2
def Sz{T:List (List Str)}{n m i j:Nat}(h:OkTab T n m)(hi:i<n)(hj:j<m):atT T i j∈cellS:=by
 obtain⟨r,er,e2,lr⟩:=F2 h hi
 unfold atT
 rw[e2,aS,am (by omega)]
 exact(h.row r (aI er)).2 _ (cV _)
def az4{B O U:List (List Str)}{n m:Nat}(h1:OkTab B n m)(h2:OkTab O n m)(h3:OkTab U n m):OkTab (Je B O U) n m:=by
 unfold Je
 rw[h1.len,Bl h1]
 refine⟨h1.n1,h1.m1,by simp,λr hr=>?_⟩
 obtain⟨i,hi,rfl⟩:=List.mem_map.mp hr
 have hi:=List.mem_range.mp hi
 refine⟨by simp,λc hc=>?_⟩
 obtain⟨j,hj,rfl⟩:=List.mem_map.mp hc
 have hj:=List.mem_range.mp hj
 exact Vi (P:=λc=>c∈cellS) (Sz h1 hi hj) (Sz h2 hi hj) (Sz h3 hi hj)
def bd3{kd:Str}{b o u:Ct}(h1:Fy kd b)(h2:Fy kd o)(h3:Fy kd u):Fy kd (ctJ b o u).1:=by
 have wh:Fy kd (whJ b o u).1:=Vi (P:=Fy kd) h1 h2 h3
 cases b with
 |txt z=>exact wh
 |tab B=>
  cases o with
  |txt z=>exact wh
  |tab O=>
   cases u with
   |txt z=>exact wh
   |tab U=>
    rw[Go]
    by_cases c:cla (Ct.tab B) (.tab O) (.tab U)=true/\(O.length=B.length/\A9 O=A9 B)/\(U.length=B.length/\A9 U=A9 B)
    .rw[if_pos c]
     obtain⟨g,n1,m1,o1⟩:=h1
     obtain⟨_,n2,m2,o2⟩:=h2
     obtain⟨_,n3,m3,o3⟩:=h3
     have f2:n2=n1/\m2=m1:=by rw[<- o2.len,<- o1.len,<- Bl o2,<- Bl o1];exact c.2.1
     have f3:n3=n1/\m3=m1:=by rw[<- o3.len,<- o1.len,<- Bl o3,<- Bl o1];exact c.2.2
     obtain⟨rfl,rfl⟩:=f2
     obtain⟨rfl,rfl⟩:=f3
     exact⟨g,_,_,az4 o1 o2 o3⟩
    .rw[if_neg c]
     exact wh
def bp6{b o u:Rc}(h1:Gd b)(h2:Gd o)(h3:Gd u)(e2:o.kd=b.kd)(e3:u.kd=b.kd):Gd (rcJ b o u).1:=⟨h1.1,bd3 h1.2 (e2▸h2.2) (e3▸h3.2)⟩
def N4{P:Option Rc×List Str->Prop}{b o u:Option Rc}(h0:P (stl b o u,[]))(h1:∀o' u',b=none->o=some o'->u=some u'->P (some (if Bc (Bg u') (Bg o')=true then u' else o'),["both"]))(h2:P (u,["gone"]))(h3:P (o,["gone"]))(h4:P (b,["kind"]))(h5:∀b' o' u',b=some b'->o=some o'->u=some u'->o'.kd=b'.kd->u'.kd=b'.kd->P (some (rcJ b' o' u').1,(rcJ b' o' u').2)):P (jnO b o u):=by
 unfold jnO
 by_cases c:cla b o u=true
 .rw[if_pos c]
  cases b with
  |none=>
   cases o with
   |none=>exact h2
   |some o=>
    cases u with
    |none=>exact h3
    |some u=>exact h1 o u rfl rfl rfl
  |some b=>
   cases o with
   |none=>exact h2
   |some o=>
    cases u with
    |none=>exact h3
    |some u=>
     show P (if o.kd≠b.kd\/u.kd≠b.kd then(some b,["kind"]) else(some (rcJ b o u).1,(rcJ b o u).2))
     by_cases k:o.kd≠b.kd\/u.kd≠b.kd
     .rw[if_pos k];exact h4
     .rw[if_neg k]
      exact h5 b o u rfl rfl rfl (Decidable.not_not.mp λz=>k (.inl z)) (Decidable.not_not.mp λz=>k (.inr z))
 .rw[if_neg c];exact h0
def be4{b o u:Option Rc}(h1:OpG b)(h2:OpG o)(h3:OpG u):OpG (jnO b o u).1:=by
 refine N4 (P:=λc=>OpG c.1) (Vi (P:=OpG) h1 h2 h3) (λo' u' _ eo eu=>?_) h3 h2 h1 (λb' o' u' eb eo eu e2 e3=>?_)
 .intro r e
  cases e
  split
  .exact h3 _ eu
  .exact h2 _ eo
 .intro r e
  cases e
  exact bp6 (h1 _ eb) (h2 _ eo) (h3 _ eu) e2 e3
def okW(ws:List Str):Bool:=decide (ws.length<=5)&&decide ws.Nodup && !ws.contains "loose"
def ac7(p:Bool):∀a b c d:Bool,okW ((if p=true then [("place" : Str)] else [])++((if a=true then [Kx 0 0] else [])++(if b=true then [Kx 0 1] else [])++((if c=true then [Kx 1 0] else [])++if d=true then [Kx 1 1] else [])))=true:=by
 cases p <;> decide +kernel
def a62:∀p c:Bool,okW ((if p=true then [("place" : Str)] else [])++(if c=true then [("content" : Str)] else []))=true:=by decide +kernel
def az5{B O U:List (List Str)}{n m:Nat}(h:OkTab B n m)(p:Bool):okW ((if p=true then [("place" : Str)] else [])++Jf B O U)=true:=by
 have n1:=h.n1
 have m1:=h.m1
 unfold Jf
 rw[h.len,Bl h]
 generalize hc:(λi j=>cla (atT B i j) (atT O i j) (atT U i j))=c
 have hc:∀i j,cla (atT B i j) (atT O i j) (atT U i j)=c i j:=λi j=>by rw[<- hc]
 simp only[hc]
 have cz:=ac7 p
 rcases n1 with rfl|rfl <;> rcases m1 with rfl|rfl
 .have:=cz (c 0 0) false false false
  simpa [br] using this
 .have:=cz (c 0 0) (c 0 1) false false
  simpa [br] using this
 .have:=cz (c 0 0) false (c 1 0) false
  simpa [br] using this
 .have:=cz (c 0 0) (c 0 1) (c 1 0) (c 1 1)
  simpa [br] using this
def bs4{kd:Str}{b o u:Ct}(h1:Fy kd b)(p:Bool):okW ((if p=true then [("place" : Str)] else [])++(ctJ b o u).2)=true:=by
 have wh:okW ((if p=true then [("place" : Str)] else [])++(whJ b o u).2)=true:=a62 p (cla b o u)
 cases b with
 |txt z=>exact wh
 |tab B=>
  cases o with
  |txt z=>exact wh
  |tab O=>
   cases u with
   |txt z=>exact wh
   |tab U=>
    rw[Go]
    by_cases c:cla (Ct.tab B) (.tab O) (.tab U)=true/\(O.length=B.length/\A9 O=A9 B)/\(U.length=B.length/\A9 U=A9 B)
    .rw[if_pos c]
     obtain⟨_,n,m,hT⟩:=h1
     exact az5 hT p
    .rw[if_neg c]
     exact wh
def af4{b o u:Option Rc}(h1:OpG b):okW (jnO b o u).2=true:=
 N4 (P:=λc=>okW c.2=true) (show okW []=true by decide +kernel) (λ_ _ _ _ _=>show okW ["both"]=true by decide +kernel) (show okW ["gone"]=true by decide +kernel) (show okW ["gone"]=true by decide +kernel) (show okW ["kind"]=true by decide +kernel) λb' o' u' eb _ _ _ _=>bs4 (h1 _ eb).2 _
def aj3{ws:List Str}(h:okW ws=true):ws.length<=5/\ws.Nodup/\("loose" : Str)∉ws:=by
 unfold okW at h
 rw[aW,aW,decide_eq_true_iff,decide_eq_true_iff] at h
 exact⟨h.1.1,h.1.2,λg=>by rw[List.contains_iff_mem.mpr g] at h;cases h.2⟩
theorem Wt{E O U:Rs}{z:Str}:∀{zs:List Str},get (Bv E O U zs) z=if z∈zs then(jnZ E O U z).1 else none
 |[]=>rfl
 | y::zs=>by
  have ih:=Wt (E:=E) (O:=O) (U:=U) (z:=z) (zs:=zs)
  unfold Bv at ih ⊢
  rw[c7]
  cases e:(jnZ E O U y).1 with
  |none=>
   rw[Option.map_none]
   show get _ z=_
   rw[ih]
   by_cases g:y=z
   .subst g
    rw[e]
    simp
   .have:z∈y::zs↔z∈zs:=by rw[aG];exact⟨λh=>h.resolve_left (bx g),.inr⟩
    by_cases m:z∈zs
    .rw[if_pos m,if_pos (this.mpr m)]
    .rw[if_neg m,if_neg (λh=>m (this.mp h))]
  |some r=>
   rw[fF]
   show get ((y,r)::_) z=_
   by_cases g:y=z
   .subst g
    rw[Cd rfl,if_pos aY,e]
   .rw[Br g,ih]
    have:z∈y::zs↔z∈zs:=by rw[aG];exact⟨λh=>h.resolve_left (bx g),.inr⟩
    by_cases m:z∈zs
    .rw[if_pos m,if_pos (this.mpr m)]
    .rw[if_neg m,if_neg (λh=>m (this.mp h))]
theorem Ev{E O U:Rs}:∀zs:List Str,(keys (Bv E O U zs)).Sublist zs
 |[]=>.slnil
 | y::zs=>by
  have ih:=Ev (E:=E) (O:=O) (U:=U) zs
  unfold Bv at ih ⊢
  rw[c7]
  cases(jnZ E O U y).1 with
  |none=>exact .cons _ ih
  |some r=>exact .cons_cons _ ih
def Sid.op{zs:List Str}{S:Rs}(h:Sid zs S)(z:Str):OpG (get S z):=λr e=>h.gd z r e
def O9{E O U:Rs}{zs:List Str}(e:Sid zs E)(o:Sid zs O)(u:Sid zs U)(l:zs.length<=8):Lo (Bv E O U (nms E O U)):=by
 have sb:=Ev (E:=E) (O:=O) (U:=U) (nms E O U)
 refine⟨(Lh E O U).sublist sb,?_,λh=>?_,λz r hg=>?_⟩
 .rw[<- Am]
  exact aF sb.length_le (Kk e o u l)
 .rcases nms_mem.mp (sb.subset h) with h|h|h
  .exact e.tr.tr.ne (mem_keys.mpr h)
  .exact o.tr.tr.ne (mem_keys.mpr h)
  .exact u.tr.tr.ne (mem_keys.mpr h)
 .rw[Wt] at hg
  split at hg
  .exact be4 (e.op z) (o.op z) (u.op z) r hg
  .cases hg
def af8(E O U:Rs):(keys (Bv E O U (nms E O U))).Pairwise λa b=>ltS a b=true:=(ai7 E O U).sublist (Ev _)
def Ic{a b:Str}(h:a≠b):ltS a b = !ltS b a:=(Cv (zs:=[a,b]) (by simp[h])).tot a (by simp) b (by simp) h
def ag8{a b c:Str}(h1:ltS a b=true)(h2:ltS b c=true):ltS a c=true:=decide_eq_true (ig (of_decide_eq_true h1) (of_decide_eq_true h2))
def Fq(a b:Str)(xs ys:List Dt):Bc (Av a::xs) (Av b::ys)=if a=b then Bc xs ys else ltS a b:=by
 have e0:Bc (Av a::xs) (Av b::ys)=if deq (Av a) (Av b)=true then Bc xs ys else dlt (Av a) (Av b):=by rw[Bc]
 rw[e0,D6]
 by_cases e:a=b
 .rw[if_pos e,if_pos (decide_eq_true e)]
 .rw[if_neg e,if_neg (λh=>e (of_decide_eq_true h))]
  rfl
def ad7(a b:Int)(xs ys:List Dt):Bc (Cg a::xs) (Cg b::ys)=if a=b then Bc xs ys else decide (a<b):=by
 have e0:Bc (Cg a::xs) (Cg b::ys)=if deq (Cg a) (Cg b)=true then Bc xs ys else dlt (Cg a) (Cg b):=by rw[Bc]
 have e1:deq (Cg a) (Cg b)=decide (a=b):=rfl
 rw[e0,e1]
 by_cases e:a=b
 .rw[if_pos e,if_pos (decide_eq_true e)]
 .rw[if_neg e,if_neg (λh=>e (of_decide_eq_true h))]
  rfl
def Ua(a b:Str×Str):ltP a b=if a.1=b.1 then(if a.2=b.2 then false else ltS a.2 b.2) else ltS a.1 b.1:=by
 unfold ltP prL
 rw[Fq,Fq]
 rfl
def Pc{ws:List (Str×Str)}(nd:ws.Nodup):OrdL ltP ws:=by
 refine⟨λa _ b _ ne=>?_,λa _ b _ c _ h1 h2=>?_,nd⟩
 .rw[Ua,Ua]
  by_cases e:a.1=b.1
  .have e2:a.2≠b.2:=λz=>ne (lU e z)
   rw[if_pos e,if_pos e.symm,if_neg e2,if_neg (bx e2),Ic e2]
  .rw[if_neg e,if_neg (bx e),Ic e]
 .rw[Ua] at h1 h2 ⊢
  by_cases e1:a.1=b.1 <;> by_cases e2:b.1=c.1
  .rw[if_pos e1] at h1
   rw[if_pos e2] at h2
   rw[if_pos (e1.trans e2)]
   by_cases f1:a.2=b.2
   .rw[if_pos f1] at h1;cases h1
   .by_cases f2:b.2=c.2
    .rw[if_pos f2] at h2;cases h2
    .rw[if_neg f1] at h1
     rw[if_neg f2] at h2
     have:=ag8 h1 h2
     rw[if_neg (λz=>by rw[z,D8] at this;cases this)]
     exact this
  .rw[if_neg e2] at h2
   rw[<- e1] at h2
   rw[if_neg (λz=>e2 (e1.symm.trans z))]
   exact h2
  .rw[if_neg e1] at h1
   rw[e2] at h1
   rw[if_neg (λz=>e1 (z.trans e2.symm))]
   exact h1
  .rw[if_neg e1] at h1
   rw[if_neg e2] at h2
   have:=ag8 h1 h2
   rw[if_neg (λz=>by rw[z,D8] at this;cases this)]
   exact this
def Lu{S:Rs}{L:List Str}{z:Str}(h:z∉L):Ak (Bi S L) z=Ak S z:=by
 unfold Ak
 rw[E4]
 cases get S z with
 |none=>rfl
 |some r=>
  show(if z∈L then _ else r:Rc)=r
  rw[if_neg h]
def Ls{S:Rs}{L:List Str}{z:Str}(h:z∈L):(Ak (Bi S L) z).pr="" := by
 unfold Ak
 rw[E4]
 cases get S z with
 |none=>rfl
 |some r=>
  show(if z∈L then rcT r else r:Rc).pr=""
  rw[if_pos h]
  rfl
section
variable {S:Rs}{L:List Str}{y z:Str}
def Clo.top(c:Clo S):Clo (Bi S L):=λy r e=>by
 obtain⟨r0,h1,rfl⟩:=Dx e
 rw[Ee]
 by_cases m:y∈L
 .rw[if_pos m];exact .inl rfl
 .rw[if_neg m];exact c y r0 h1
theorem af3(h:∀k,itN S k y∉L):∀k,itN (Bi S L) k y=itN S k y
 |0=>rfl
 |k+1=>by rw[Co,Co,af3 h k,Lu (h k)]
def Xa(c:Clo S)(ne:("" : Str)∉keys S)(hy:has S y=true)(oc:OnC (Bi S L) y):∀k,itN (Bi S L) k y∉L/\itN (Bi S L) k y=itN S k y:=by
 have ne':("" : Str)∉keys (Bi S L):=by rw[Ft];exact ne
 have no:∀k,itN (Bi S L) k y∉L:=λk m=>by
  have:=OnC.has (c.top (L:=L)) ne' (by rw[Ee];exact hy) oc (k+1)
  rw[Co,Ls m] at this
  exact ne' (mem_keys.mpr this)
 refine λk=>⟨no k,?_⟩
 induction k with
 |zero=>rfl
 |succ k ih=>rw[Co,Co,Lu (no k),ih]
theorem ah3:∀{l:List Str},l≠[] -> ∃f∈l,∀y∈l,ltS y f=false
 |[],h=>absurd rfl h
 |[x],_=>⟨x,aY,λy hy=>by rw[List.mem_singleton.mp hy];exact D8 x⟩
 | x::x2::l,_=>by
  obtain⟨f,hf,h⟩:=ah3 (l:=x2::l) (by simp)
  cases e:ltS x f with
  |true=>
   refine⟨x,aY,λy hy=>?_⟩
   rcases List.mem_cons.mp hy with rfl|hy
   .exact D8 _
   .exact ag7 e (h y hy)
  |false=>
   refine⟨f,aK _ hf,λy hy=>?_⟩
   rcases List.mem_cons.mp hy with rfl|hy
   .exact e
   .exact h y hy
def ae5(c:Clo S)(ne:("" : Str)∉keys S)(hy:has S y=true)(oc:OnC S y):∃k,Cy S (itN S k y)=true/\has S (itN S k y)=true/\∀j,ltS (itN S j y) (itN S k y)=false:=by
 obtain⟨p,_,_,h3⟩:=oc.few c ne hy
 obtain⟨f,hf,mn⟩:=ah3 (l:=Ds S y (p+1)) (λe=>by
  have:=congrArg eX e
  rw[af,bX] at this
  cases this)
 obtain⟨k,hk,rfl⟩:=List.mem_map.mp hf
 have hh:=OnC.has c ne hy oc k
 have le:∀x,Orb S y x->ltS x (itN S k y)=false:=λx hx=>by
  obtain⟨j,hj,rfl⟩:=h3 x hx
  exact mn _ (a9 (List.mem_range.mpr (by omega)))
 exact⟨k,(Fs c ne hh).mpr ⟨oc.orb ⟨k,rfl⟩,λx hx=>le x (Orb.tr ⟨k,rfl⟩ hx)⟩,hh,λj=>le _ ⟨j,rfl⟩⟩
def noC(c:Clo S)(ne:("" : Str)∉keys S)(hy:has S y=true):¬ OnC (Bi S (J8 S)) y:=λoc=>by
 have t:=Xa c ne hy oc
 have ocS:OnC S y:=by
  obtain⟨k,hk⟩:=oc
  exact⟨k,by rw[<- (t (k+1)).2];exact hk⟩
 obtain⟨k,h1,h2,_⟩:=ae5 c ne hy ocS
 have:=(t k).1
 rw[(t k).2] at this
 exact this (fir_mem.mpr ⟨h2,h1⟩)
def ae6(c:Clo S)(ne:("" : Str)∉keys S){ks:List Str}(pw:ks.Pairwise λa b=>ltS a b=true)(km:∀z,z∈ks↔has S z=true){i:Nat}(hz:ks[i]?=some z):onB (Bi S ((ks.take i).filter (Cy S))) z=Cy S z:=by
 have hS:=(km z).mp (aI hz)
 have ne':∀L,("" : Str)∉keys (Bi S L):=λL=>by rw[Ft];exact ne
 obtain⟨hi,ez⟩:=List.getElem?_eq_some_iff.mp hz
 have tk:∀x,x∈ks.take i->ltS x z=true:=λx hx=>by
  obtain⟨j,hj,rfl⟩:=eW hx
  rw[aX] at hj
  have:=List.pairwise_iff_getElem.mp pw j i (by omega) hi (by omega)
  rw[List.getElem_take,<- ez]
  exact this
 have tk2:∀x,has S x=true->ltS x z=true->x∈ks.take i:=λx hx hl=>by
  obtain⟨j,hj,rfl⟩:=eW ((km x).mpr hx)
  rcases Nat.lt_trichotomy j i with h|h|h
  .exact List.mem_take_iff_getElem.mpr ⟨j,by omega,rfl⟩
  .subst h
   rw[ez,D8] at hl
   cases hl
  .have:=List.pairwise_iff_getElem.mp pw i j hi hj h
   rw[ez] at this
   rw[az2 this] at hl
   cases hl
 refine Bool.eq_iff_iff.mpr ?_
 rw[W9 c.top (ne' _) (by rw[Ee];exact hS),Fs c ne hS]
 constructor
 .intro oc
  have t:=Xa c ne hS oc
  have ocS:OnC S z:=by
   obtain⟨k,hk⟩:=oc
   exact⟨k,by rw[<- (t (k+1)).2];exact hk⟩
  obtain⟨k,h1,h2,h3⟩:=ae5 c ne hS ocS
  have nk:=(t k).1
  rw[(t k).2] at nk
  have e:itN S k z=z:=by
   refine ag6 ?_ (h3 0)
   cases g:ltS (itN S k z) z with
   |false=>rfl
   |true=>exact absurd (List.mem_filter.mpr ⟨tk2 _ h2 g,h1⟩) nk
  rw[e] at h3
  exact⟨ocS,λx ⟨j,hj⟩=>hj▸h3 j⟩
 .rintro⟨⟨k,hk⟩,mn⟩
  refine⟨k,?_⟩
  rw[af3 λj m=>?_]
  .exact hk
  .have:=tk _ (List.mem_filter.mp m).1
   rw[mn _ ⟨j,rfl⟩] at this
   cases this
end
def dpN(T:Rs):Nat->Str->Nat
 |0,_=>0
 |n+1,z=>if z="" then 0 else dpN T n (Ak T z).pr+1
theorem ad8(T:Rs):∀n z,dpN T n z<=n
 |0,_=>ag _
 | n+1,z=>by
  unfold dpN
  split
  .exact bo _
  .exact dB (ad8 T n _)
theorem Tm{T:Rs}:∀{n k:Nat}{z:Str},itN T k z="" -> k<=n->dpN T (n+1) z=dpN T n z
 | 0,k,z,h,hk=>by
  obtain rfl:k=0:=Nat.le_zero.mp hk
  have h:z="" := h
  unfold dpN
  rw[if_pos h]
 | n+1,k,z,h,hk=>by
  rw[dpN]
  conv=>rhs;rw[dpN]
  by_cases e:z=""
  .rw[if_pos e,if_pos e]
  .rw[if_neg e,if_neg e]
   cases k with
   |zero=>exact absurd h e
   |succ k=>rw[Tm (n:=n) (k:=k) h (by omega)]
def Held.top{S:Rs}(h:Held S)(L:List Str):Held (Bi S L):=λz r e=>by
 obtain⟨r0,h1,rfl⟩:=Dx e
 by_cases m:z∈L
 .rw[if_pos m];exact .inl rfl
 .rw[if_neg m]
  have:=heldB_iff.mpr (h z r0 h1)
  rw[<- N2 (L:=L)] at this
  exact heldB_iff.mp this
def br0{S:Rs}(l:Lo S):TrC (up2 S):=by
 have l1:Lo (up1 S):=l.top _
 have h1:=Hw S
 have c1:=h1.clo
 have l2:Lo (up2 S):=l1.top _
 have h2:Held (up2 S):=h1.top _
 have c2:=h2.clo
 have f8:=l2.f8
 have reach:∀z,has (up2 S) z=true -> ∃k,k<=8/\itN (up2 S) k z="" := λz hz=>by
  refine c_ λno=>?_
  have hh:∀k,k<=8->has (up2 S) (itN (up2 S) k z)=true:=λk hk=>(c2.it l2.ne hz k).resolve_left λe=>no ⟨k,hk,e⟩
  refine c_ (p:=∃i j,i<j/\j<9/\itN (up2 S) i z=itN (up2 S) j z) (λg=>?_) |> fun⟨i,j,ij,hj,e⟩=>?_
  .have:=Do (x:=keys (up2 S)) (Ig (f:=λk=>itN (up2 S) k z) (n:=9) λi j ij hj e=>g ⟨i,j,ij,hj,e⟩) λx hx=>by
    obtain⟨k,hk,rfl⟩:=List.mem_map.mp hx
    exact mem_keys.mpr (hh k (by have:=List.mem_range.mp hk;omega))
   rw[af,bX,Am] at this
   omega
  .have hy:=hh i (by omega)
   have hy1:has (up1 S) (itN (up2 S) i z)=true:=by unfold up2 at hy ⊢;rw[Ee] at hy;exact hy
   refine noC c1 l1.ne hy1 ⟨j-i-1,?_⟩
   show itN (up2 S) (j-i-1+1) (itN (up2 S) i z)=itN (up2 S) i z
   rw[<- Bx,show i+(j-i-1+1)=j by omega,<- e]
 refine⟨⟨l2.nd,by omega,l2.ne,λz=>11-dpN (up2 S) 10 z,λz=>aZ (Nat.sub_le _ _) (by decide),λz r e=>?_⟩,h2,f8⟩
 have hz:z ≠ "" := λg=>l2.ne (mem_keys.mpr (g▸Bs e))
 have e1:dpN (up2 S) 10 z=dpN (up2 S) 9 r.pr+1:=by rw[dpN,if_neg hz,Lr e]
 have e2:dpN (up2 S) 10 r.pr=dpN (up2 S) 9 r.pr:=by
  rcases c2 z r e with g|g
  .exact Tm (k:=0) g (by omega)
  .obtain⟨k,hk,hk2⟩:=reach _ g
   exact Tm hk2 (by omega)
 have:=ad8 (up2 S) 9 r.pr
 show 11-dpN (up2 S) 10 z<11-dpN (up2 S) 10 r.pr
 omega
def T8{S:Rs}(l:Lo S):(C3 S++J8 (up1 S)).Nodup:=by
 have l1:Lo (up1 S):=l.top _
 have c1:=(Hw S).clo
 refine List.nodup_append.mpr ⟨l.nd.sublist eU,l1.nd.sublist eU,λa ha b hb e=>?_⟩
 subst e
 obtain⟨hb,hf⟩:=fir_mem.mp hb
 obtain⟨oc,_⟩:=(Fs c1 l1.ne hb).mp hf
 have:=OnC.has c1 l1.ne hb oc 1
 rw[show itN (up1 S) 1 a=(Ak (up1 S) a).pr from rfl,show(Ak (up1 S) a).pr="" from Ls ha] at this
 exact l1.ne (mem_keys.mpr this)
theorem Ph{α β:Type}{g:α->β}(inj:∀a b,g a=g b->a=b):∀{l:List α},l.Nodup->(l.map g).Nodup
 |[],_=>eE
 | a::l,h=>by
  obtain⟨h1,h2⟩:=List.nodup_cons.mp h
  refine List.nodup_cons.mpr ⟨λm=>?_,Ph inj h2⟩
  obtain⟨b,hb,e⟩:=List.mem_map.mp m
  exact h1 (inj _ _ e▸hb)
def X8{E O U:Rs}{zs:List Str}(e:Sid zs E)(o:Sid zs O)(u:Sid zs U)(l:zs.length<=8):(C2 E O U (nms E O U)++Q8 (Bv E O U (nms E O U))).Nodup/\(C2 E O U (nms E O U)++Q8 (Bv E O U (nms E O U))).length<=56:=by
 have lo:=O9 e o u l
 have wd:∀z,(jnZ E O U z).2.length<=5/\(jnZ E O U z).2.Nodup/\("loose" : Str)∉(jnZ E O U z).2:=λz=>aj3 (af4 (e.op z))
 constructor
 .refine List.nodup_append.mpr ⟨?_,Ph (λa b g=>congrArg kX g) (T8 lo),λa ha b hb g=>?_⟩
  .unfold C2
   refine List.pairwise_flatMap.mpr ⟨λz _=>Ph (λa b g=>congrArg mB g) (wd z).2.1,List.Pairwise.imp (λh x hx y hy g=>?_) (Lh E O U)⟩
   obtain⟨_,_,rfl⟩:=List.mem_map.mp hx
   obtain⟨_,_,rfl⟩:=List.mem_map.mp hy
   exact h (congrArg kX g)
  .subst g
   unfold C2 at ha
   obtain⟨z,_,hz⟩:=List.mem_flatMap.mp ha
   obtain⟨w,hw,rfl⟩:=List.mem_map.mp hz
   obtain⟨x,_,g⟩:=List.mem_map.mp hb
   have g:("loose" : Str)=w:=congrArg mB g
   exact(wd z).2.2 (g▸hw)
 .have h1:∀l:List Str,(C2 E O U l).length<=5*l.length:=λl=>by
   induction l with
   |nil=>exact ag _
   |cons z l ih=>
    unfold C2 at ih ⊢
    rw[gW,ak,af,aT]
    have:=(wd z).1
    omega
  have h2:=h1 (nms E O U)
  have h3:=Kk e o u l
  have h4:(C3 (Bv E O U (nms E O U))).length<=8:=aF (ca _ _) (by rw[Am];exact lo.f8)
  have h5:(J8 (up1 (Bv E O U (nms E O U)))).length<=8:=aF (ca _ _) (by rw[Am];exact(lo.top _).f8)
  rw[ak]
  unfold Q8
  rw[af,ak]
  omega
def bm0(a b:Str×Str):Er (prL a) (prL b)=true:=by
 unfold prL Er
 split
 .unfold Er
  split
  .unfold Er;rfl
  .unfold Av D1;rfl
 .unfold Av D1;rfl
def bm1{a b:Str×Str}(h:prL a=prL b):a=b:=by
 unfold prL Av at h
 injection h with h1 h2
 injection h2 with h2 _
 injection h1 with h1
 injection h2 with h2
 injection h1 with h1
 injection h2 with h2
 exact lU h1 h2
def Ef(ws:List (Str×Str)):Gy (ws.map λw=>.tup (prL w))=true:=Bn (λw=>by unfold prL Av noL;rfl) ws
def al3{S:Rs}{z:Str}{r:Rc}(h:has S z=false):Dy S z r=S++[(z,r)]:=by
 unfold Dy
 rw[Ed,h]
 rfl
def Q6{E O U:Rs}{zs:List Str}{z:Str}(h:z∉zs):Bv E O U (zs++[z])=(match (jnZ E O U z).1 with|none=>Bv E O U zs|some r=>Dy (Bv E O U zs) z r):=by
 have nh:has (Bv E O U zs) z=false:=by
  rw[dI]
  exact λg=>h ((Ev zs).subset (mem_keys.mpr g))
 have e:Bv E O U (zs++[z])=Bv E O U zs++Bv E O U [z]:=by unfold Bv;rw[List.filterMap_append]
 rw[e]
 cases g:(jnZ E O U z).1 with
 |none=>
  show Bv E O U zs++Bv E O U [z]=Bv E O U zs
  unfold Bv
  rw[c7,g]
  exact bG _
 |some r=>
  show Bv E O U zs++Bv E O U [z]=Dy (Bv E O U zs) z r
  rw[al3 nh]
  congr 1
  unfold Bv
  rw[c7,g]
  rfl
def N7{E O U:Rs}{zs:List Str}{z:Str}:C2 E O U (zs++[z])=C2 E O U zs++(jnZ E O U z).2.map λw=>(z,w):=by
 unfold C2
 rw[bR,b6]
section
variable {P:a7}{w:bL}{K:ae}{mg:Str->Option aj}{base:Heap}{t:Adr}{H H':Hp}
theorem Xh:∀{ws:List (Str×Str)}{ys:List V},PpAt K H ws ys -> ∃ds:List ((Str×Str)×Addr),ds.map (·.1)=ws/\ys=ds.map (λd=>V.ref d.2)/\∀d∈ds,At K H (.tup (prL d.1)) (.ref d.2)
 | [],ys,h=>by
  unfold PpAt at h
  have h:AtL K H [] ys:=h
  unfold AtL at h
  exact⟨[],rfl,h,λd hd=>by cases hd⟩
 | w::ws,ys,h=>by
  have h:AtL K H (.tup (prL w)::ws.map λw=>.tup (prL w)) ys:=h
  unfold AtL at h
  obtain⟨y,ys,rfl,h1,h2⟩:=h
  obtain⟨ds,e1,e2,e3⟩:=Xh (ws:=ws) h2
  obtain⟨a,xs,rfl,_,_⟩:=Ho h1
  refine⟨(w,a)::ds,by rw[a8,e1],by rw[e2];rfl,λd hd=>?_⟩
  rcases List.mem_cons.mp hd with rfl|hd
  .exact h1
  .exact e3 d hd
theorem a85:∀{ds:List ((Str×Str)×Addr)},(∀d∈ds,At K H (.tup (prL d.1)) (.ref d.2))->PpAt K H (ds.map (·.1)) (ds.map λd=>V.ref d.2)
 |[],_=>Ar
 |d::ds,h=>Aj (h d aY) (a85 λe he=>h e (aK _ he))
def Xy{lc:Addr}{ys:List V}{ws:List (Str×Str)}{Q:VK}(e:H lc=some (.lst ys))(h:PpAt K H ws ys)(nd:ws.Nodup)(l:ws.length<64)(k:∀D zs,H D=none->PpAt K (upd H D (.lst zs)) (An ltP ws) zs->Q (.ref D) (upd H D (.lst zs))):E7 K true [.ref lc] H Q:=by
 obtain⟨ds,rfl,rfl,h3⟩:=Xh h
 let g:(Str×Str)×Addr->List Dt×Addr:=λd=>(prL d.1,d.2)
 have inj:∀a b,g a=g b->a=b:=λa b z=>lU (bm1 (Prod.mk.inj (show(prL a.1,a.2)=(prL b.1,b.2) from z)).1) (Prod.mk.inj (show(prL a.1,a.2)=(prL b.1,b.2) from z)).2
 have o:OrdL (λa b:(Str×Str)×Addr=>ltP a.1 b.1) ds:=Xd (λd:(Str×Str)×Addr=>d.1) (Pc nd)
 have og:OrdL ltT (ds.map g):=Pe inj (λa _ b _=>rfl) o
 rw[af] at l
 refine .inr ⟨rfl,.inr ⟨lc,ds.map g,true,rfl,SqL.of (by rw[cF];exact e),λd hd=>?_,by rw[af];exact l,λa ha b hb=>?_,og,λD hD=>?_⟩⟩
 .obtain⟨d,hd2,rfl⟩:=List.mem_map.mp hd
  exact⟨⟨_,_,rfl,_,rfl⟩,h3 d hd2,(show 0<=20 by decide)⟩
 .obtain⟨a,_,rfl⟩:=List.mem_map.mp ha
  obtain⟨b,_,rfl⟩:=List.mem_map.mp hb
  exact bm0 _ _
 .have e1:=Il g ltT ds
  have e2:=Il (λd:(Str×Str)×Addr=>d.1) ltP ds
  rw[<- e1,cF]
  refine k D _ hD ?_
  rw[<- e2]
  refine Aw (Same.upd hD) (a85 λd hd=>h3 d ((Al _ _).mem_iff.mp hd))
def PpAt.len{ws:List (Str×Str)}{ys:List V}(h:PpAt K H ws ys):ys.length=ws.length:=by
 have:=E2 h
 rw[af] at this
 exact this
def PpAt.app{ws ws':List (Str×Str)}{ys ys':List V}(h:PpAt K H ws ys)(h':PpAt K H ws' ys'):PpAt K H (ws++ws') (ys++ys'):=by
 unfold PpAt
 rw[aw]
 exact E1 h h'
def Ow{zs:List Str}{a L:Addr}{te:DE}{σ:St}{R:Hp->Prop}{E:EK}(f:Str->Str×Str)(Sg:St->Prop)(hL:H L=none)(ha:H a=some (sL zs))(hl:zs.length<=60)(hσ:Sg σ)(hS:∀ σ x,Sg σ->Sg (σ.set 0 (some x)))(he:∀ σ z H1 Q,Sg σ->σ[0]?=some (some (.str z))->(∀p,H1 p=none->Q (.ref p) (upd H1 p (.tup [.str (f z).1,.str (f z).2])))->te σ H1 Q E)(h0:∀ σ x,Sg σ->(σ.set 0 (some x))[0]?=some (some x))(k:∀H' ys,Same H H'->H' L=some (.lst ys)->PpAt K H' (zs.map f) ys->R H'):Z4 (Itl K a) (gdN 0) De te L R σ (upd H L (.lst [])) E:=by
 refine Cb (Bu (zs.map V.str)) (λi σ' H'=>Sg σ'/\Same H H'/\∃ys,H' L=some (.lst ys)/\PpAt K H' ((zs.take i).map f) ys) ⟨hσ,Same.upd hL,[],Ab,Ar⟩ (λi σ' H' _ h=>SqL.of (h.2.1 _ _ ha)) ?_ ?_
 .rintro i x σ' H1 hx ⟨hs,S1,ys,eL,pp⟩
  rw[au] at hx
  obtain⟨z,hz,rfl⟩:=Option.map_eq_some_iff.mp hx
  have ll:=pp.len
  rw[af,aX] at ll
  refine he _ z H1 _ (hS _ _ hs) (h0 _ _ hs) λp hp=>?_
  have S2:=Same.upd (o:=.tup [.str (f z).1,.str (f z).2]) hp
  have e2:upd H1 p (.tup [.str (f z).1,.str (f z).2]) p=some (.tup [.str (f z).1,.str (f z).2]):=Ab
  generalize upd H1 p (.tup [.str (f z).1,.str (f z).2])=H2 at S2 e2 ⊢
  have eL2:=S2 _ _ eL
  have tk:TKeep K H2 (upd H2 L (.lst (ys++[.ref p]))):=TKeep.lst eL2
  refine⟨ys,eL2,aZ (show _<=60 by omega) (by decide),hS _ _ hs,(S1.trans S2).set hL,_,Ab,?_⟩
  rw[bj,hz,aw]
  exact PpAt.app (A8 tk (Ef _) (Aw S2 pp)) (Aj (Cw (tk _ _ (SqT.of e2)) (Aj A4 (Aj A4 Ar))) Ar)
 .rintro σ' H1 ⟨_,S1,ys,eL,pp⟩
  rw[af,bp] at pp
  exact k H1 ys S1 eL pp
def Sid.ln{zs:List Str}{S:Rs}(h:Sid zs S):(An ltS (keys S)).length<=8:=by rw[(Al _ _).length_eq,Am];exact h.tr.f8
def bg9(Z:Ao K t):OkD K Z7 (A1 K t) bl (t.f 29) (t.d 29) (Uy K t):=by
 refine A6 (bz8 K t) λvs H Q E h=>?_
 .obtain⟨p1,d1,p2,d2,p3,d3,E,O,U,zs,rfl,hE,hO,hU,sE,sO,sU,_,l8,k⟩:=h;refine⟨rfl,?_⟩
  intro p dxp hp0 hdxp nep
  refine⟨p,dxp,rfl,Ab,λd hd0=>⟨rfl,?_⟩⟩
  obtain⟨hd,S1,hP1⟩:=a79 (K:=K) (t:=t) hp0 hdxp nep hd0
  unfold ai6 at S1 hP1
  generalize upd (upd (upd (upd H dxp (.own p)) p (.ins t.c_zbm dxp [])) d (.dK [])) p (.ins t.c_zbm dxp [("records", .ref d)])=H1 at S1 hP1 ⊢
  refine⟨(show 0<=sizeLine by decide),λlc hlc=>?_⟩
  have nlc:H lc=none:=S1.free hlc
  have S2:=S1.trans (Same.upd (o:=.lst []) hlc)
  have hP2:=hP1.up (Same.upd (o:=.lst []) hlc)
  have ec:upd H1 lc (.lst []) lc=some (.lst []):=Ab
  generalize upd H1 lc (.lst [])=H2 at S2 hP2 ec ⊢
  obtain⟨dx1,f1⟩:=(hE.up S2).rd.ins
  refine⟨p1,dx1,_,⟨t.c_zbm,Tu K t⟩,rfl,.head _,f1,rfl,⟨ag _,ag _⟩,⟨p1,d1,E,rfl,(hE.up S2).rd,sE.tr.tr.nd,by have:=sE.tr.f8;omega,λn1 hn1=>?_⟩⟩
  have T1:=Same.upd (o:=sL (An ltS (keys E))) hn1
  have g1:upd H2 n1 (sL (An ltS (keys E))) n1=some (sL (An ltS (keys E))):=Ab
  generalize upd H2 n1 (sL (An ltS (keys E)))=H3 at T1 g1 ⊢
  obtain⟨dx2,f2⟩:=(hO.up (S2.trans T1)).rd.ins
  refine⟨p2,dx2,_,⟨t.c_zbm,Tu K t⟩,rfl,.head _,f2,rfl,⟨ag _,ag _⟩,⟨p2,d2,O,rfl,(hO.up (S2.trans T1)).rd,sO.tr.tr.nd,by have:=sO.tr.f8;omega,λn2 hn2=>?_⟩⟩
  have T2:=Same.upd (o:=sL (An ltS (keys O))) hn2
  have g2:upd H3 n2 (sL (An ltS (keys O))) n2=some (sL (An ltS (keys O))):=Ab
  generalize upd H3 n2 (sL (An ltS (keys O)))=H4 at T2 g2 ⊢
  have m1:=sE.ln
  have m2:=sO.ln
  have m3:=sU.ln
  refine .inl ⟨n1,n2,_,_,rfl,rfl,T2 _ _ g1,g2,by rw[af,af];exact aF (show _<=16 by omega) (by decide),λn3 hn3=>?_⟩
  rw[<- aw]
  have T3:=Same.upd (o:=sL (An ltS (keys E)++An ltS (keys O))) hn3
  have g3:upd H4 n3 (sL (An ltS (keys E)++An ltS (keys O))) n3=some (sL (An ltS (keys E)++An ltS (keys O))):=Ab
  generalize upd H4 n3 (sL (An ltS (keys E)++An ltS (keys O)))=H5 at T3 g3 ⊢
  have S5:=((S2.trans T1).trans T2).trans T3
  obtain⟨dx3,f3⟩:=(hU.up S5).rd.ins
  refine⟨p3,dx3,_,⟨t.c_zbm,Tu K t⟩,rfl,.head _,f3,rfl,⟨ag _,ag _⟩,⟨p3,d3,U,rfl,(hU.up S5).rd,sU.tr.tr.nd,by have:=sU.tr.f8;omega,λn4 hn4=>?_⟩⟩
  have T4:=Same.upd (o:=sL (An ltS (keys U))) hn4
  have g4:upd H5 n4 (sL (An ltS (keys U))) n4=some (sL (An ltS (keys U))):=Ab
  generalize upd H5 n4 (sL (An ltS (keys U)))=H6 at T4 g4 ⊢
  refine .inl ⟨n3,n4,_,_,rfl,rfl,T4 _ _ g3,g4,by rw[af,af,ak];exact aF (show _<=24 by omega) (by decide),λn5 hn5=>?_⟩
  rw[<- aw]
  have T5:=Same.upd (o:=sL (An ltS (keys E)++An ltS (keys O)++An ltS (keys U))) hn5
  have g5:upd H6 n5 (sL (An ltS (keys E)++An ltS (keys O)++An ltS (keys U))) n5=some (sL (An ltS (keys E)++An ltS (keys O)++An ltS (keys U))):=Ab
  generalize upd H6 n5 (sL (An ltS (keys E)++An ltS (keys O)++An ltS (keys U)))=H7 at T5 g5 ⊢
  refine⟨_,SqL.of g5,by rw[ak,ak];omega,λD hD=>?_⟩
  rw[a00]
  have T27:=(((T1.trans T2).trans T3).trans T4).trans T5
  have nl:=Kk sE sO sU l8
  have nn:=Lh E O U
  have lo:=O9 sE sO sU l8
  have pw:=af8 E O U
  obtain⟨tn,tl⟩:=X8 sE sO sU l8
  generalize hS:Bv E O U (nms E O U)=S0 at lo pw tn tl
  generalize hW:C2 E O U (nms E O U)=W0 at tn tl
  have fS:Ja E O U=up2 S0:=by unfold Ja;rw[hS]
  have fW:K5 E O U=An ltP (W0++Q8 S0):=by unfold K5;rw[hS,hW]
  rw[fS,fW] at k
  clear fS fW
  generalize hN:nms E O U=ns at nl nn hS hW
  have S8:=(S2.trans T27).trans (Same.upd (o:=sL ns) hD)
  have hP8:=hP2.up (T27.trans (Same.upd (o:=sL ns) hD))
  have ec8:=(T27.trans (Same.upd (o:=sL ns) hD)) _ _ ec
  have eD8:upd H7 D (sL ns) D=some (sL ns):=Ab
  have Dc:D≠lc:=λc=>by rw[c,T27 _ _ ec] at hD;cases hD
  have Dd:D≠d:=λc=>by obtain⟨kv,e,_⟩:=hP2.2;rw[c,T27 _ _ e] at hD;cases hD
  have dc:lc≠d:=λc=>by obtain⟨kv,e,_⟩:=hP2.2;rw[c,e] at ec;cases ec
  generalize upd H7 D (sL ns)=H8 at S8 hP8 ec8 eD8 ⊢
  refine .inl ⟨⟨_,SqL.of eD8⟩,?_⟩
  refine Bm (Bu (ns.map V.str)) (λi σ H'=>(∃v5 v6,σ=[some (.ref p1),some (.ref p2),some (.ref p3),some (.ref p),some (.ref lc),v5,v6])/\Same H H'/\H' D=some (sL ns)/\PwAt K t H' p d (Bv E O U (ns.take i))/\∃ys,H' lc=some (.lst ys)/\PpAt K H' (C2 E O U (ns.take i)) ys)
   ⟨⟨_,_,rfl⟩,S8,eD8,hP8,[],ec8,Ar⟩ (λi σ H' _ h=>SqL.of h.2.2.1) ?_ ?_
  .rintro i x σ G1 hx ⟨⟨v5,v6,rfl⟩,R1,eD1,hPi,ys,ec1,pp1⟩
   rw[au] at hx
   obtain⟨z,hz,rfl⟩:=Option.map_eq_some_iff.mp hx
   have znew:=Gh nn hz
   have tk1:ns.take (i+1)=ns.take i++[z]:=by rw[bj,hz];rfl
   have hi:=(List.getElem?_eq_some_iff.mp hz).1
   have aE:=hE.up R1
   have aO:=hO.up R1
   have aU:=hU.up R1
   obtain⟨x1,f1⟩:=aE.rd.ins
   obtain⟨x2,f2⟩:=aO.rd.ins
   obtain⟨x3,f3⟩:=aU.rd.ins
   refine⟨p1,x1,_,⟨t.c_zbm,ax8 K t⟩,rfl,.head _,f1,rfl,⟨ag _,ag _⟩,⟨p1,d1,E,z,rfl,aE,λxe oe=>⟨p2,x2,_,⟨t.c_zbm,ax8 K t⟩,rfl,.head _,f2,rfl,⟨ag _,ag _⟩,⟨p2,d2,O,z,rfl,aO,λxo oo=>⟨p3,x3,_,⟨t.c_zbm,ax8 K t⟩,rfl,.head _,f3,rfl,⟨ag _,ag _⟩,⟨p3,d3,U,z,rfl,aU,λxu ou=>?_⟩⟩⟩⟩⟩⟩
   refine⟨xe,xo,xu,_,_,_,rfl,oe,oo,ou,sE.op z,sO.op z,sU.op z,λG2 q v l R2 hq ⟨el,ov⟩=>?_⟩
   have hPj:=hPi.up R2
   have ll:(Bv E O U (ns.take i)).length<=8:=by
    rw[<- Am]
    have:=(Ev (E:=E) (O:=O) (U:=U) (ns.take i)).length_le
    rw[aX] at this
    omega
   refine⟨_,_,.inr hq,rfl,p,d,_,z,_,v,rfl,hPj,by omega,ov,λG3 B3 rs3=>?_⟩
   have e3:=Q6 (E:=E) (O:=O) (U:=U) (zs:=ns.take i) znew
   rw[<- tk1] at e3
   unfold jnZ at e3
   have rs3:RsAt K G3 d (Bv E O U (ns.take (i+1))):=by rw[e3];exact rs3
   obtain⟨kv,ed2,_⟩:=id hPj.2
   have tkd:TKeep K G2 G3:=B3.tk ed2
   have R3:Same H G3:=B3.same (R1.trans R2) hd
   have hq3:=tkd _ _ hq
   have el3:=B3 _ _ (λc=>by rw[c,ed2] at el;cases el) el
   have ec3:=B3 _ _ dc (R2 _ _ ec1)
   have pp3:PpAt K G3 (C2 E O U (ns.take i)) ys:=A8 tkd (Ef _) (Aw R2 pp1)
   have eD3:=B3 _ _ Dd (R2 _ _ eD1)
   have hP3:=hPj.but B3 rs3
   have wl:=(aj3 (af4 (b:=get E z) (o:=get O z) (u:=get U z) (sE.op z))).1
   refine⟨.inl ⟨rfl,_,SqL.of ec3⟩,_,_,.inr hq3,rfl,.inl ⟨⟨_,SqL.of el3⟩,λL hL=>?_⟩⟩
   refine Ow (K:=K) (λw=>(z,w)) (λσ=>∃v,σ=[v,some (.str z)]) hL el3 (by omega) ⟨_,rfl⟩ (λσ x ⟨v,e⟩=>⟨some x,by rw[e];rfl⟩) (λσ w G Q' hs h0 kk=>?_) (λσ x ⟨v,e⟩=>by rw[e];rfl) λG4 ys4 R4 eL4 pp4=>?_
   .obtain⟨v,rfl⟩:=hs
    cases h0
    exact⟨(show 2<=sizeLine by decide),kk⟩
   .have ec4:=R4 _ _ ec3
    have l1:=pp3.len
    have l2:=pp4.len
    have l3:(C2 E O U (ns.take i)).length<=60:=by
     have w0:W0.length<=56:=by rw[ak] at tl;omega
     rw[<- hW] at w0
     have:C2 E O U ns=C2 E O U (ns.take i)++C2 E O U (ns.drop i):=by unfold C2;rw[<- bR,jK]
     rw[this,ak] at w0
     omega
    rw[af] at l2
    refine⟨lc,L,_,_,rfl,rfl,ec4,eL4,aF (show _<=70 by omega) (by decide),⟨_,_,rfl⟩,(R3.trans R4).set nlc,?_,?_,_,Ab,?_⟩
    .rw[Ah Dc];exact R4 _ _ eD3
    .obtain⟨⟨dx,e⟩,kv4,e4,kv⟩:=hP3.up R4
     refine⟨⟨dx,?_⟩,kv4,?_,kv.keep (TKeep.lst ec4)⟩
     .rw[Ah (λc=>by rw[c,ec4] at e;cases e)];exact e
     .rw[Ah (bx dc)];exact e4
    .rw[tk1,N7]
     exact PpAt.app (A8 (TKeep.lst ec4) (Ef _) (Aw R4 pp3)) (A8 (TKeep.lst ec4) (Ef _) pp4)
  .rintro σ G1 ⟨⟨v5,v6,rfl⟩,R1,eD1,hPi,ys,ec1,pp1⟩
   rw[af,bp,hS] at hPi
   rw[af,bp,hW] at pp1
   refine .inl ⟨.inl ⟨rfl,_,SqL.of ec1⟩,p,d,S0,rfl,hPi,lo,pw,λG2 l qs B2 rs2 el pm=>.inl ⟨⟨_,SqL.of el⟩,λL hL=>?_⟩⟩
   obtain⟨kv,ed1,_⟩:=id hPi.2
   have R2:Same H G2:=B2.same R1 hd
   have ec2:=B2 _ _ dc ec1
   have pp2:PpAt K G2 W0 ys:=A8 (B2.tk ed1) (Ef _) pp1
   have hP2:=hPi.but B2 rs2
   have ql:qs.length<=16:=by
    rw[pm.length_eq,ak]
    have h4:(C3 S0).length<=8:=aF (ca _ _) (by rw[Am];exact lo.f8)
    have h5:(J8 (up1 S0)).length<=8:=aF (ca _ _) (by rw[Am];exact(lo.top _).f8)
    omega
   refine Ow (K:=K) (λw=>(w,("loose" : Str))) (λσ=>∃v,σ=[v]) hL el (by omega) ⟨_,rfl⟩ (λσ x ⟨v,e⟩=>⟨some x,by rw[e];rfl⟩) (λσ w G Q' hs h0 kk=>?_) (λσ x ⟨v,e⟩=>by rw[e];rfl) λG3 ys3 R3 eL3 pp3=>?_
   .obtain⟨v,rfl⟩:=hs
    cases h0
    exact⟨(show 2<=sizeLine by decide),kk⟩
   .have ec3:=R3 _ _ ec2
    have l1:=pp2.len
    have l2:=pp3.len
    rw[af] at l2
    have w0:W0.length<=56:=by rw[ak] at tl;omega
    refine⟨lc,L,_,_,rfl,rfl,ec3,eL3,aF (show _<=80 by omega) (by decide),?_⟩
    have tk:TKeep K G3 (upd G3 lc (.lst (ys++ys3))):=TKeep.lst ec3
    have pp4:=PpAt.app (A8 tk (Ef _) (Aw R3 pp2)) (A8 tk (Ef _) pp3)
    have e4:upd G3 lc (.lst (ys++ys3)) lc=some (.lst (ys++ys3)):=Ab
    have R4:=(R2.trans R3).set (o:=.lst (ys++ys3)) nlc
    have hP4:PwAt K t (upd G3 lc (.lst (ys++ys3))) p d (up2 S0):=by
     obtain⟨⟨dx,e⟩,kv4,e4,kv⟩:=hP2.up R3
     refine⟨⟨dx,?_⟩,kv4,?_,kv.keep (TKeep.lst ec3)⟩
     .rw[Ah (λc=>by rw[c,ec3] at e;cases e)];exact e
     .rw[Ah (bx dc)];exact e4
    generalize upd G3 lc (.lst (ys++ys3))=G4 at pp4 e4 R4 hP4 ⊢
    have pp4:PpAt K G4 (W0++qs.map λw=>(w,("loose" : Str))) (ys++ys3):=pp4
    have pmW:(W0++Q8 S0).Perm (W0++qs.map λw=>(w,("loose" : Str))):=(fu W0).append (pm.symm.map _)
    refine Xy e4 pp4 (pmW.nodup_iff.mp tn) (by rw[<- pmW.length_eq];omega) λD2 zs2 hD2 ppz=>⟨(show 2<=sizeLine by decide),λq hq=>?_⟩
    rw[<- Lz (Pc tn) pmW] at ppz
    have S9:=Same.upd (o:=.lst zs2) hD2
    have S10:=Same.upd (o:=.tup [.ref p,.ref D2]) hq
    exact k _ q p D2 d zs2 ((R4.trans S9).trans S10) (R4.free hD2) (SqT.of Ab) (S10 _ _ Ab) (Aw S10 ppz) (hP4.up (S9.trans S10))
end
def C9{α:Type} [DecidableEq α]{b o u:α}(h:o=u\/o=b\/u=b):cla b o u=false:=by
 unfold cla
 rcases h with h|h|h <;> simp[h]
def Hr{α:Type} [DecidableEq α]{b o u:α}(h1:o≠u)(h2:o≠b)(h3:u≠b):cla b o u=true:=by
 unfold cla
 simp[h1,h2,h3]
def Im{α:Type} [DecidableEq α]{b o u:α}(h:o=u\/u=b):stl b o u=o:=by
 unfold stl
 rw[C9 (h.elim .inl λg=>.inr (.inr g)),if_neg (by simp)]
 by_cases e:o=b
 .rw[if_pos e]
  rcases h with h|h
  .exact h.symm
  .rw[h,e]
 .rw[if_neg e]
def Of{α:Type} [DecidableEq α]{b o u:α}(h:o=b):stl b o u=u:=by
 unfold stl
 rw[C9 (.inr (.inl h)),if_neg (by simp),if_pos h]
def Sh{α:Type} [DecidableEq α]{b o u:α}(h:cla b o u=true):stl b o u=b:=by
 unfold stl
 rw[if_pos h]
def Ti{b o u:Ct}(h:cla b o u=false):ctJ b o u=(stl b o u,[]):=by
 have w:whJ b o u=(stl b o u,[]):=by unfold whJ;rw[h];rfl
 cases b with
 |txt z=>exact w
 |tab B=>
  cases o with
  |txt z=>exact w
  |tab O=>
   cases u with
   |txt z=>exact w
   |tab U=>rw[Go,if_neg (λg=>by rw[h] at g;cases g.1)];exact w
def Yb{b o u:Ct}(h:cla b o u=true):whJ b o u=(b,[("content" : Str)]):=by unfold whJ;rw[Sh h,if_pos h]
def aw0:∀i:Nat,i<2 -> ∀j:Nat,j<2->("cell " : Str).length+(fg (i:Int):Str).length<=sizeLine/\("cell " ++ (fg (i:Int):Str):Str).length+(" " : Str).length<=sizeLine/\("cell " ++ (fg (i:Int):Str) ++ " " : Str).length+(fg (j:Int):Str).length<=sizeLine:=by decide +kernel
section
variable {P:a7}{w:bL}{K:ae}{mg:Str->Option aj}{base:Heap}{t:Adr}{H H':Hp}
def bf4{v:V}{c:Ct}{ws:List Str}{l q:Addr}(hl:H l=none)(hq:upd H l (sL ws) q=none)(hv:At K H (ctD c) v):Same H (upd (upd H l (sL ws)) q (.lst [v,.ref l]))/\br8 K (upd (upd H l (sL ws)) q (.lst [v,.ref l])) q (c,ws):=by
 have S1:=Same.upd (o:=sL ws) hl
 have S2:=Same.upd (o:=.lst [v,.ref l]) hq
 exact⟨S1.trans S2,v,l,Ab,S2 _ _ Ab,A3 (S1.trans S2) hv⟩
def bu2(Z:Ao K t):OkD K ba8 (A1 K t) bl (t.f 8) (t.d 8) (X1 K t):=by
 refine A6 (b57 K t) λvs H Q E h=>?_
 .obtain⟨kd,x,y,z,b,o,u,rfl,h1,h2,h3,k1,k2,k3,k⟩:=h;refine⟨rfl,?_⟩
  have one:∀{c:Ct}{ws:List Str}{v:V}{l q:Addr},ctJ b o u=(c,ws)->At K H (ctD c) v->H l=none->upd H l (sL ws) q=none->Q (.ref q) (upd (upd H l (sL ws)) q (.lst [v,.ref l])):=λe hv hl hq=>by
   obtain⟨S2,lw⟩:=bf4 (K:=K) hl hq hv
   exact k _ _ S2 (e▸lw)
  have nil:∀{c:Ct}{v:V},ctJ b o u=(c,[])->At K H (ctD c) v->0<=sizeLine/\∀l,H l=none->2<=sizeLine/\∀q,upd H l (sL []) q=none->Q (.ref q) (upd (upd H l (sL [])) q (.lst [v,.ref l])):=λe hv=>⟨bo _,λl hl=>⟨(show 2<=sizeLine by decide),λq hq=>one (ws:=[]) e hv hl hq⟩⟩
  have con:ctJ b o u=(b,[("content" : Str)])->1<=sizeLine/\∀l,H l=none->2<=sizeLine/\∀q,upd H l (sL ["content"]) q=none->Q (.ref q) (upd (upd H l (sL ["content"])) q (.lst [x,.ref l])):=λe=>⟨(show 1<=sizeLine by decide),λl hl=>⟨(show 2<=sizeLine by decide),λq hq=>one (ws:=["content"]) e h1 hl hq⟩⟩
  have dp:=λc:Ct=>aF (Iy c) (show 2<=40 by decide)
  refine Dp h2 h3 (Hs h2) (Hs h3) (dp _) ?_
  rw[Gu]
  refine Bf (c:=decide (o=u)=true) (λc=>?_) (λc1=>?_)
  .have c:=of_decide_eq_true c
   exact nil (by rw[Ti (C9 (.inl c)),Im (.inl c)]) h2
  refine Dp h3 h1 (Hs h3) (Hs h1) (dp _) ?_
  rw[Gu]
  refine Bf (c:=decide (u=b)=true) (λc=>?_) (λc2=>?_)
  .have c:=of_decide_eq_true c
   exact nil (by rw[Ti (C9 (.inr (.inr c))),Im (.inr c)]) h2
  refine Dp h2 h1 (Hs h2) (Hs h1) (dp _) ?_
  rw[Gu]
  refine Bf (c:=decide (o=b)=true) (λc=>?_) (λc3=>?_)
  .have c:=of_decide_eq_true c
   exact nil (by rw[Ti (C9 (.inr (.inl c))),Of c]) h3
  have cl:cla b o u=true:=Hr (λe=>c1 (decide_eq_true e)) (λe=>c3 (decide_eq_true e)) (λe=>c2 (decide_eq_true e))
  clear c1 c2 c3 nil
  cases b with
  |txt s=>
   refine Bf (c:=(!decide (kd="table"))=true) (λc=>?_) (λc=>?_)
   .exact con (Yb cl)
   .exact absurd (by simpa using c) k1
  |tab B=>
   obtain⟨rfl,n,m,o1⟩:=k1
   cases o with
   |txt s=>exact absurd rfl k2
   |tab O=>
    obtain⟨_,n2,m2,o2⟩:=k2
    cases u with
    |txt s=>exact absurd rfl k3
    |tab U=>
     obtain⟨_,n3,m3,o3⟩:=k3
     have wh:¬ ((O.length=B.length/\A9 O=A9 B)/\(U.length=B.length/\A9 U=A9 B))->ctJ (.tab B) (.tab O) (.tab U)=(Ct.tab B,[("content" : Str)]):=λg=>by rw[Go,if_neg (λz=>g z.2)];exact Yb cl
     have n1':=o1.n1
     have n2':=o2.n1
     have n3':=o3.n1
     have m1':=o1.m1
     obtain⟨a1,xs1,b1,rfl,ha1,lx1,hb1,hs1⟩:=D9 h1 o1 (i:=0) (by omega)
     obtain⟨a2,xs2,b2,rfl,ha2,lx2,hb2,hs2⟩:=D9 h2 o2 (i:=0) (by omega)
     obtain⟨a3,xs3,b3,rfl,ha3,lx3,hb3,hs3⟩:=D9 h3 o3 (i:=0) (by omega)
     have q1:((B.getD 0 []).map V.str).length=m:=by obtain⟨r,_,e2,lr⟩:=F2 o1 (i:=0) (by omega);rw[af,e2,lr]
     have q2:((O.getD 0 []).map V.str).length=m2:=by obtain⟨r,_,e2,lr⟩:=F2 o2 (i:=0) (by omega);rw[af,e2,lr]
     have q3:((U.getD 0 []).map V.str).length=m3:=by obtain⟨r,_,e2,lr⟩:=F2 o3 (i:=0) (by omega);rw[af,e2,lr]
     rw[show(O.length=B.length/\A9 O=A9 B)↔(n2=n/\m2=m) from by rw[o2.len,o1.len,Bl o2,Bl o1],show(U.length=B.length/\A9 U=A9 B)↔(n3=n/\m3=m) from by rw[o3.len,o1.len,Bl o3,Bl o1]] at wh
     refine .inl ⟨xs2,.inr ha2,.inl ⟨xs1,.inr ha1,?_⟩⟩
     refine Bf (c:=(!decide ((xs2.length:Int)=(xs1.length:Int)))=true) (λc=>con (wh λg=>?_)) (λc=>?_)
     .rw[lx1,lx2] at c
      have:¬ ((n2:Int)=n):=by simpa using c
      omega
     have e2:n2=n:=by
      rw[lx1,lx2] at c
      have:(n2:Int)=n:=by simpa using c
      omega
     refine .inl ⟨xs3,.inr ha3,.inl ⟨xs1,.inr ha1,?_⟩⟩
     refine Bf (c:=(!decide ((xs3.length:Int)=(xs1.length:Int)))=true) (λc=>con (wh λg=>?_)) (λc=>?_)
     .rw[lx1,lx3] at c
      have:¬ ((n3:Int)=n):=by simpa using c
      omega
     have e3:n3=n:=by
      rw[lx1,lx3] at c
      have:(n3:Int)=n:=by simpa using c
      omega
     refine⟨_,_,.inr ha2,hb2,.inl ⟨_,.inr hs2,_,_,.inr ha1,hb1,.inl ⟨_,.inr hs1,?_⟩⟩⟩
     rw[q1,q2]
     refine Bf (c:=(!decide ((m2:Int)=(m:Int)))=true) (λc=>con (wh λg=>?_)) (λc=>?_)
     .have:¬ ((m2:Int)=m):=by simpa using c
      omega
     have f2:m2=m:=by
      have:(m2:Int)=m:=by simpa using c
      omega
     refine⟨_,_,.inr ha3,hb3,.inl ⟨_,.inr hs3,_,_,.inr ha1,hb1,.inl ⟨_,.inr hs1,?_⟩⟩⟩
     rw[q1,q3]
     refine Bf (c:=(!decide ((m3:Int)=(m:Int)))=true) (λc=>con (wh λg=>?_)) (λc=>?_)
     .have:¬ ((m3:Int)=m):=by simpa using c
      omega
     have f3:m3=m:=by
      have:(m3:Int)=m:=by simpa using c
      omega
     subst e2 e3 f2 f3
     have cj:ctJ (.tab B) (.tab O) (.tab U)=(.tab (Je B O U),Jf B O U):=by
      rw[Go,if_pos ⟨cl,⟨by rw[o2.len,o1.len],by rw[Bl o2,Bl o1]⟩,by rw[o3.len,o1.len],by rw[Bl o3,Bl o1]⟩]
     rw[cj] at k
     clear wh con one
     refine⟨(show 0<=sizeLine by decide),λlr hlr=>⟨(show 0<=sizeLine by decide),λlw hlw=>?_⟩⟩
     have S0:=Same.upd (o:=.lst []) hlr
     have er0:upd (upd H lr (.lst [])) lw (.lst []) lr=some (.lst []):=Same.upd hlw _ _ Ab
     have ew0:upd (upd H lr (.lst [])) lw (.lst []) lw=some (sL []):=Ab
     have S1:=S0.trans (Same.upd (o:=.lst []) hlw)
     have nw:H lw=none:=S0.free hlw
     have nrw:lw≠lr:=λc=>by rw[c,Ab] at hlw;cases hlw
     generalize upd (upd H lr (.lst [])) lw (.lst [])=H1 at er0 ew0 S1 ⊢
     refine .inl ⟨xs1,.inr (S1.seqT ha1),⟨⟨by omega,by omega⟩,?_⟩⟩
     rw[lx1,bB]
     refine Bm (Cj 0 n3) (λi σ H'=>(∃v6 v7 v8 v9 v10 v11,σ=[some (.str "table"),some (.ref a1),some (.ref a2),some (.ref a3),some (.ref lr),some (.ref lw),v6,v7,v8,v9,v10,v11])/\Same H H'/\(∃rs,H' lr=some (.lst rs)/\AtL K H' (((bi i).map λi=>Ca B O U i m3).map Ea) rs)/\H' lw=some (sL (Ej B O U i m3)))
      ⟨⟨_,_,_,_,_,_,rfl⟩,S1,⟨[],er0,Ar⟩,ew0⟩ (λ_ _ _ _ _=>be) ?_ ?_
     .rintro i x σ H2 hx ⟨⟨v6,v7,v8,v9,v10,v11,rfl⟩,S2,⟨rs,er,ar⟩,ew⟩
      obtain⟨hi,rfl⟩:=Dq hx
      have lrs:=E2 ar
      rw[af,af,bX] at lrs
      obtain⟨a',ys1,b1',e,ia1,iy1,ib1,is1⟩:=D9 h1 o1 hi
      cases e
      obtain⟨a',ys2,b2',e,ia2,iy2,ib2,is2⟩:=D9 h2 o2 hi
      cases e
      obtain⟨a',ys3,b3',e,ia3,iy3,ib3,is3⟩:=D9 h3 o3 hi
      cases e
      refine⟨(show 0<=sizeLine by decide),λlc hlc=>?_⟩
      have S3:=Same.upd (o:=.lst []) hlc
      have ec3:upd H2 lc (.lst []) lc=some (sL []):=Ab
      have cr:lc≠lr:=λc=>by rw[c,er] at hlc;cases hlc
      have cw:lc≠lw:=λc=>by rw[c,ew] at hlc;cases hlc
      have er3:=S3 _ _ er
      have ew3:=S3 _ _ ew
      have nc:H lc=none:=S2.free hlc
      have S23:=S2.trans S3
      generalize upd H2 lc (.lst [])=H3 at S3 ec3 er3 ew3 S23 ⊢
      have ar3:=Aw S3 ar
      refine⟨_,_,.inr (S23.seqT ha1),hb1,.inl ⟨_,.inr (S23.seqT hs1),⟨⟨by omega,by omega⟩,?_⟩⟩⟩
      rw[q1,bB]
      refine Bm (Cj 0 m3) (λj σ H'=>(∃v8 v9 v10 v11,σ=[some (.str "table"),some (.ref a1),some (.ref a2),some (.ref a3),some (.ref lr),some (.ref lw),some (.int (i:Int)),some (.ref lc),v8,v9,v10,v11])/\Same H H'/\(H' lr=some (.lst rs)/\AtL K H' (((bi i).map λi=>Ca B O U i m3).map Ea) rs)/\H' lw=some (sL (Ej B O U i m3++E8 B O U i j))/\H' lc=some (sL (Ca B O U i j)))
       ⟨⟨_,_,_,_,rfl⟩,S23,⟨er3,ar3⟩,(by rw[ew3];unfold E8;simp),by rw[ec3];rfl⟩ (λ_ _ _ _ _=>be) ?_ ?_
      .rintro j x σ H4 hx ⟨⟨v8,v9,v10,v11,rfl⟩,S4,⟨er4,ar4⟩,ew4,ec4⟩
       obtain⟨hj,rfl⟩:=Dq hx
       have i2:i<2:=by omega
       have j2:j<2:=by omega
       have z1:=F9 o1 hi hj
       have z2:=F9 o2 hi hj
       have z3:=F9 o3 hi hj
       generalize eb:atT B i j=cb at z1
       generalize eo:atT O i j=co at z2
       generalize eu:atT U i j=cu at z3
       refine⟨(show 3<=sizeLine by decide),λp hp=>.inl ⟨⟨_,SqL.of Ab⟩,λL hL=>?_⟩⟩
       have S5:=Same.upd (o:=.lst [.ref a1,.ref a2,.ref a3]) hp
       have e5:upd H4 p (.lst [.ref a1,.ref a2,.ref a3]) p=some (.lst [.ref a1,.ref a2,.ref a3]):=Ab
       generalize upd H4 p (.lst [.ref a1,.ref a2,.ref a3])=H5 at S5 e5 hL ⊢
       refine Cb (Bu [.ref a1,.ref a2,.ref a3]) (λk σ' H'=>(∃v,σ'=[v,some (.int (i:Int)),some (.int (j:Int))])/\Same H5 H'/\H' L=some (sL ([cb,co,cu].take k))) ⟨⟨_,rfl⟩,Same.upd hL,Ab⟩ (λ_ _ _ _ h=>SqL.of (h.2.1 _ _ e5)) ?_ ?_
       .rintro kk x σ' H6 hx ⟨⟨v,rfl⟩,S6,eL⟩
        have S46:=(S4.trans S5).trans S6
        match kk,hx,eL with
        |0,hx,eL=>
         cases hx
         exact⟨_,_,.inr (S46.seqT ia1),ib1,_,_,.inr (S46.seqT is1),z1,_,eL,(show 0<sizeLine by decide),⟨_,rfl⟩,S6.set hL,Ab⟩
        |1,hx,eL=>
         cases hx
         exact⟨_,_,.inr (S46.seqT ia2),ib2,_,_,.inr (S46.seqT is2),z2,_,eL,(show 1<sizeLine by decide),⟨_,rfl⟩,S6.set hL,Ab⟩
        |2,hx,eL=>
         cases hx
         exact⟨_,_,.inr (S46.seqT ia3),ib3,_,_,.inr (S46.seqT is3),z3,_,eL,(show 2<sizeLine by decide),⟨_,rfl⟩,S6.set hL,Ab⟩
        |kk+3,hx,_=>cases hx
       rintro σ' H6 ⟨_,S6,eL⟩
       have eL:H6 L=some (.lst [.str cb,.str co,.str cu]):=eL
       have S56:=S5.trans S6
       have S46:=S4.trans S56
       have er5:=S56 _ _ er4
       have ew5:=S56 _ _ ew4
       have ec5:=S56 _ _ ec4
       have ar5:=Aw S56 ar4
       clear S5 S6 e5 hL S56
       have l5:=Rw (B:=B) (O:=O) (U:=U) (i:=i) (m:=j)
       have lj:((Ca B O U i j).map V.str).length<sizeLine:=by rw[af,l5];exact aH (show j<2 by omega) (by decide)
       have ec6:∀{c:Str},c=stl cb co cu->upd H6 lc (.lst ((Ca B O U i j).map V.str++[.str c])) lc=some (sL (Ca B O U i (j+1))):=λ{c} e=>by
        rw[Ab,e]
        unfold Ca
        rw[br,aw,gG,eb,eo,eu]
        simp[sL]
       have w0:cla cb co cu=false->E8 B O U i (j+1)=E8 B O U i j:=λc=>by
        unfold E8
        rw[br,bR,b6,eb,eo,eu,c]
        exact bG _
       have tk6:∀{c:Str},TKeep K H6 (upd H6 lc (.lst ((Ca B O U i j).map V.str++[.str c]))):=TKeep.lst ec5
       refine⟨_,.inr (SqL.of eL),rfl,?_⟩
       refine Bf (c:=decide (co=cb)=true) (λc=>?_) (λc=>?_)
       .have c:=of_decide_eq_true c
        refine⟨.inl ⟨rfl,_,SqL.of ec5⟩,lc,_,_,rfl,rfl,ec5,lj,⟨_,_,_,_,rfl⟩,S46.set nc,⟨?_,A8 tk6 (Bn En _) ar5⟩,?_,ec6 (Of c).symm⟩
        .rw[Ah (bx cr)];exact er5
        .rw[Ah (bx cw),w0 (C9 (.inr (.inl c)))];exact ew5
       .have c1:co≠cb:=λe=>c (decide_eq_true e)
        have mid:(cu=cb\/cu=co)->Same H (upd H6 lc (.lst ((Ca B O U i j).map V.str++[.str co])))/\(upd H6 lc (.lst ((Ca B O U i j).map V.str++[.str co])) lr=some (.lst rs)/\AtL K (upd H6 lc (.lst ((Ca B O U i j).map V.str++[.str co]))) (((bi i).map λi=>Ca B O U i m3).map Ea) rs)/\upd H6 lc (.lst ((Ca B O U i j).map V.str++[.str co])) lw=some (sL (Ej B O U i m3++E8 B O U i (j+1)))/\upd H6 lc (.lst ((Ca B O U i j).map V.str++[.str co])) lc=some (sL (Ca B O U i (j+1))):=λg=>by
         have g2:co=cu\/cu=cb:=g.elim .inr λe=>.inl e.symm
         refine⟨S46.set nc,⟨?_,A8 tk6 (Bn En _) ar5⟩,?_,ec6 (Im g2).symm⟩
         .rw[Ah (bx cr)];exact er5
         .rw[Ah (bx cw),w0 (C9 (g2.elim .inl λe=>.inr (.inr e)))];exact ew5
        refine Bf (c:=decide (cu=cb)=true) (λc=>⟨.inl ⟨rfl,_,SqL.of ec5⟩,lc,_,_,rfl,rfl,ec5,lj,⟨_,_,_,_,rfl⟩,mid (.inl (of_decide_eq_true c))⟩) (λc2=>?_)
        refine Bf (c:=decide (cu=co)=true) (λc=>⟨.inl ⟨rfl,_,SqL.of ec5⟩,lc,_,_,rfl,rfl,ec5,lj,⟨_,_,_,_,rfl⟩,mid (.inr (of_decide_eq_true c))⟩) (λc3=>?_)
        have cy:cla cb co cu=true:=Hr (λe=>c3 (decide_eq_true e.symm)) c1 (λe=>c2 (decide_eq_true e))
        refine⟨.inl ⟨rfl,_,SqL.of ec5⟩,lc,_,_,rfl,rfl,ec5,lj,?_⟩
        have ew6:upd H6 lc (.lst ((Ca B O U i j).map V.str++[.str cb])) lw=some (sL (Ej B O U i m3++E8 B O U i j)):=by rw[Ah (bx cw)];exact ew5
        have er6:upd H6 lc (.lst ((Ca B O U i j).map V.str++[.str cb])) lr=some (.lst rs):=by rw[Ah (bx cr)];exact er5
        have ec6:=ec6 (Sh cy).symm
        have S6:=S46.set (o:=.lst ((Ca B O U i j).map V.str++[.str cb])) nc
        have ar6:=A8 (tk6 (c:=cb)) (Bn En _) ar5
        generalize upd H6 lc (.lst ((Ca B O U i j).map V.str++[.str cb]))=H7 at ew6 er6 ec6 S6 ar6 ⊢
        obtain⟨d1,d2,d3⟩:=aw0 i i2 j j2
        have l6:=Gj (B:=B) (O:=O) (U:=U) (i:=i) (m:=m3)
        have l7:=Ip (B:=B) (O:=O) (U:=U) (i:=i) (m:=j)
        have l8:i*m3<=2*2:=kB (by omega) (by omega)
        refine⟨.inl ⟨rfl,_,SqL.of ew6⟩,Pb i i2,d1,d2,Pb j j2,d3,lw,_,_,rfl,rfl,ew6,by rw[af,ak];exact aZ (show _<=6 by omega) (by decide),⟨_,_,_,_,rfl⟩,S6.set nw,⟨?_,A8 (TKeep.lst ew6) (Bn En _) ar6⟩,?_,?_⟩
        .rw[Ah (bx nrw)];exact er6
        .rw[Ab]
         unfold E8
         rw[br,bR,b6,eb,eo,eu,if_pos cy,sL]
         rw[aw,aw,aw,ck]
         rfl
        .rw[Ah cw];exact ec6
      .rintro σ H4 ⟨⟨v8,v9,v10,v11,rfl⟩,S4,⟨er4,ar4⟩,ew4,ec4⟩
       rw[Bh] at ew4 ec4
       refine .inl ⟨.inl ⟨rfl,_,SqL.of er4⟩,_,.inl ⟨SqL.of ec4,λq hq=>?_⟩⟩
       have S5:=Same.upd (o:=.tup ((Ca B O U i m3).map V.str)) hq
       have e5:upd H4 q (.tup ((Ca B O U i m3).map V.str)) q=some (.tup ((Ca B O U i m3).map V.str)):=Ab
       generalize upd H4 q (.tup ((Ca B O U i m3).map V.str))=H5 at S5 e5 ⊢
       have er5:=S5 _ _ er4
       have tk:TKeep K H5 (upd H5 lr (.lst (rs++[.ref q]))):=TKeep.lst er5
       refine⟨lr,_,_,rfl,rfl,er5,by rw[lrs];exact aH (show i<2 by omega) (by decide),⟨_,_,_,_,_,_,rfl⟩,(S4.trans S5).set hlr,⟨_,Ab,?_⟩,?_⟩
       .rw[br,aw,aw]
        exact E1 (A8 tk (Bn En _) (Aw S5 ar4)) (Aj (Oq (tk _ _ (SqT.of e5))) Ar)
       .rw[Ah nrw,S5 _ _ ew4]
        unfold Ej
        rw[br,bR,b6]
     .rintro σ H2 ⟨⟨v6,v7,v8,v9,v10,v11,rfl⟩,S2,⟨rs,er,ar⟩,ew⟩
      rw[Bh] at ar ew
      refine .inl ⟨_,.inl ⟨SqL.of er,λq hq=>⟨(show 2<=sizeLine by decide),λp hp=>?_⟩⟩⟩
      have S3:=Same.upd (o:=.tup rs) hq
      have S4:=Same.upd (o:=.lst [.ref q,.ref lw]) hp
      refine k _ p ((S2.trans S3).trans S4) ⟨_,lw,Ab,?_,?_⟩
      .rw[S4 _ _ (S3 _ _ ew)]
       unfold Ej Jf E8
       rw[o1.len,Bl o1]
      .refine A3 S4 (Cw (SqT.of Ab) (Aw S3 ?_))
       show AtL K H2 ((Je B O U).map Ea) rs
       unfold Je
       rw[o1.len,Bl o1]
       exact ar
end
def rows1:List (List Str):=cellS.map λa=>[a]
def rows2:List (List Str):=cellS.flatMap λa=>cellS.map λb=>[a,b]
def allT:List (List (List Str)):=rows1.map (λr=>[r])++rows2.map (λr=>[r])++(rows1.flatMap λr=>rows1.map λr'=>[r,r'])++(rows2.flatMap λr=>rows2.map λr'=>[r,r'])
def P1{r:List Str}(l:r.length=1)(h:∀c∈r,c∈cellS):r∈rows1:=by
 match r,l with
 |[a],_=>exact a9 (h a aY)
def P2{r:List Str}(l:r.length=2)(h:∀c∈r,c∈cellS):r∈rows2:=by
 match r,l with
 |[a,b],_=>exact List.mem_flatMap.mpr ⟨a,h a aY,a9 (h b (aK _ aY))⟩
def ar9{T:List (List Str)}{n m:Nat}(h:OkTab T n m):T∈allT:=by
 have row:=h.row
 have len:=h.len
 unfold allT
 rcases h.n1 with rfl|rfl <;> rcases h.m1 with rfl|rfl
 .match T,len with
  |[r],_=>exact bh _ (bh _ (bh _ (a9 (P1 (row r (by simp)).1 (row r (by simp)).2))))
 .match T,len with
  |[r],_=>exact bh _ (bh _ (aN _ (a9 (P2 (row r (by simp)).1 (row r (by simp)).2))))
 .match T,len with
  |[r,r'],_=>exact bh _ (aN _ (List.mem_flatMap.mpr ⟨r,P1 (row r (by simp)).1 (row r (by simp)).2,a9 (P1 (row r' (by simp)).1 (row r' (by simp)).2)⟩))
 .match T,len with
  |[r,r'],_=>exact aN _ (List.mem_flatMap.mpr ⟨r,P2 (row r (by simp)).1 (row r (by simp)).2,a9 (P2 (row r' (by simp)).1 (row r' (by simp)).2)⟩)
def by4:(allT.map λT=>shF (.tab T)).Nodup:=by decide +kernel
def a46{kd:Str}{c c':Ct}(h:Fy kd c)(h':Fy kd c')(e:shF c=shF c'):c=c':=by
 cases c with
 |txt z=>
  cases c' with
  |txt z'=>exact congrArg Ct.txt e
  |tab T'=>exact absurd h'.1 h
 |tab T=>
  cases c' with
  |txt z'=>exact absurd h.1 h'
  |tab T'=>
   obtain⟨_,n,m,hT⟩:=h
   obtain⟨_,n',m',hT'⟩:=h'
   exact congrArg Ct.tab ((Uf _ by4).2 T (ar9 hT) T' (ar9 hT') e)
def ae3(c:Nat):Bool:=!(gx "\\|/" ⟨#[c]⟩ 0 ("\\|/" : Str).length 1).isEmpty
def ax1(c:Nat):Str:=(if ae3 c=true then("\\" : Str) else bU)++⟨#[c]⟩
def bd8:∀c∈cellS,k4 (eA "") (c.cps.toList.map ax1)=shC c/\((c.cps.toList.map ax1).map (·.length)).sum+(c.cps.toList.map ax1).length*(eA "").length<=16777216/\c.cps.toList.length<=3:=by decide +kernel
def ax2(c:Nat):(if ae3 c=true then("\\" : Str) else bU).length+(⟨#[c]⟩:Str).length<=sizeLine:=by
 have:(⟨#[c]⟩:Str).length=1:=rfl
 rw[this]
 split
 .decide +kernel
 .decide +kernel
section
variable {P:a7}{w:bL}{K:ae}{mg:Str->Option aj}{base:Heap}{t:Adr}{H H':Hp}
def bi0(Z:Ao K t):OkD K aa6 (A1 K t) bl (t.f 9) (t.d 9) (U8 K t):=by
 refine A6 (b10 K t) λvs H Q E h=>?_
 .obtain⟨x,kd,c,rfl,hx,hc,k⟩:=h;refine⟨rfl,?_⟩
  cases c with
  |txt z=>
   have hx:At K H (Av z) x:=hx
   unfold Av At at hx
   obtain rfl:=hx.1
   exact⟨rfl,k H (Same.refl _)⟩
  |tab T=>
   obtain⟨_,n,m,hT⟩:=hc
   obtain⟨a,xs,rfl,ha,hr⟩:=Ho hx
   have l2:=hT.le2
   have lx:=E2 hr
   rw[af] at lx
   refine⟨_,false,TyX.sqT rfl ha rfl,rfl,?_⟩
   refine .inr (.inl ⟨⟨_,ha⟩,λL hL=>?_⟩)
   refine Cb (Mh xs) (λi σ' H'=>(∃v,σ'=[v])/\Same H H'/\ac3 H' L ((T.take i).map λr=>r.map shC)) ⟨⟨_,rfl⟩,Same.upd hL,[],Ab,rfl,λi a r h=>by simp at h⟩ (λ_ _ _ _ h=>h.2.1.seqT ha) ?_ ?_
   .rintro i x σ' H1 hx ⟨⟨v,rfl⟩,S1,as,eL,le,la⟩
    obtain⟨r,er,ar⟩:=P3 hr hx
    have hm:=aI er
    obtain⟨b,rfl,hb⟩:=Kw (A3 S1 ar)
    obtain⟨rl,rc⟩:=hT.row r hm
    have r2:=l2.2 r hm
    refine .inr (.inl ⟨⟨_,hb⟩,λM hM=>?_⟩)
    refine Cb (Mh (r.map V.str)) (λj σ' H'=>(∃v,σ'=[v])/\Same H1 H'/\H' M=some (sL ((r.take j).map shC))) ⟨⟨_,rfl⟩,Same.upd hM,Ab⟩ (λ_ _ _ _ h=>h.2.1.seqT hb) ?_ ?_
    .rintro j x σ' H2 hx ⟨⟨v,rfl⟩,S2,eM⟩
     rw[au] at hx
     obtain⟨c,hc',rfl⟩:=Option.map_eq_some_iff.mp hx
     obtain⟨g1,g2,g3⟩:=bd8 c (rc c (aI hc'))
     refine⟨rfl,λN hN=>?_⟩
     refine Cb (br3 c) (λi σ' H'=>(∃v,σ'=[v])/\Same H2 H'/\H' N=some (sL ((c.cps.toList.take i).map ax1))) ⟨⟨_,rfl⟩,Same.upd hN,Ab⟩ (λ_ _ _ _ _=>be) ?_ ?_
     .rintro i x σ' H3 hx ⟨⟨v,rfl⟩,S3,eN⟩
      unfold F3 at hx
      rw[au] at hx
      obtain⟨ch,hch,rfl⟩:=Option.map_eq_some_iff.mp hx
      refine⟨rfl,.inl ⟨(if ae3 ch=true then("\\" : Str) else bU),?_,ax2 ch,_,eN,?_,⟨_,rfl⟩,S3.set hN,?_⟩⟩
      .show ((if ae3 ch=true then(1:Int) else 0)=0/\_\/(if ae3 ch=true then(1:Int) else 0)=1/\_)
       split
       .exact .inr ⟨rfl,rfl⟩
       .exact .inl ⟨rfl,rfl⟩
      .rw[af,af,aX];exact aZ (show _<=3 by omega) (by decide)
      .rw[Ab,bj,hch,sL,aw,aw]
       rfl
     .rintro σ' H3 ⟨_,S3,eN⟩
      rw[show(F3 c).length=c.cps.toList.length from by unfold F3;rw[af],bp] at eN
      refine⟨"", N,_,.inl rfl,rfl,.inl (SqL.of eN),g2,?_⟩
      rw[g1]
      refine⟨_,S3 _ _ eM,?_,⟨_,rfl⟩,(S2.trans S3).set hM,?_⟩
      .rw[af,af,aX];exact aZ (show _<=2 by omega) (by decide)
      .rw[Ab,bj,hc',sL,aw,aw]
       rfl
    .rintro σ' H2 ⟨_,S2,eM⟩
     rw[af,bp] at eM
     have eL2:=S2 _ _ eL
     have m1:=hT.m1
     have rn:r.map shC≠[]:=λc=>by have:=congrArg eX c;rw[af,rl] at this;have:m=0:=this;omega
     have ll:as.length<=2:=by rw[le,af,aX];omega
     have ill:i=as.length:=by rw[le,af,aX];have:=(List.getElem?_eq_some_iff.mp er).1;omega
     refine⟨_,eL2,by rw[af];exact aZ ll (by decide),⟨_,rfl⟩,(S1.trans S2).set hL,as++[M],by rw[Ab,aw];rfl,?_,λj a rr ha hrr=>?_⟩
     .rw[ak,bj,er,aw,ak,le]
      rfl
     .have hk:H2 a=some (sL rr)/\rr≠[]:=by
       rw[bj,er,aw] at hrr
       by_cases jl:j<as.length
       .rw[bO jl] at ha
        rw[bO (by omega)] at hrr
        refine⟨S2 _ _ (la j a rr ha hrr),?_⟩
        obtain⟨r0,hr0,rfl⟩:=List.mem_map.mp (aI hrr)
        have:=(hT.row r0 (dD hr0)).1
        exact λc=>by have c:=congrArg eX c;rw[af,this] at c;have:m=0:=c;omega
       .have hj:j=as.length:=by
         have:=(List.getElem?_eq_some_iff.mp ha).1
         rw[ak,bK] at this
         omega
        subst hj
        rw[bz (ag _),h8] at ha
        rw[le,bz (ag _),h8] at hrr
        cases ha
        cases hrr
        exact⟨eM,rn⟩
      rw[Ah (ag4 hk.1 eL2 hk.2)]
      exact hk.1
   .rintro σ' H1 ⟨_,S1,as,eL,le,la⟩
    rw[lx,bp] at le la
    rw[af] at le
    refine⟨rfl,.inl ⟨⟨_,SqL.of eL⟩,λN hN=>?_⟩⟩
    refine Cb (Bu (as.map V.ref)) (λi σ' H'=>(∃v,σ'=[v])/\Same H1 H'/\H' N=some (sL ((T.take i).map shR))) ⟨⟨_,rfl⟩,Same.upd hN,Ab⟩ (λ_ _ _ _ h=>SqL.of (h.2.1 _ _ eL)) ?_ ?_
    .rintro i x σ' H2 hx ⟨⟨v,rfl⟩,S2,eN⟩
     rw[au] at hx
     obtain⟨b,hb,rfl⟩:=Option.map_eq_some_iff.mp hx
     have hi:=(List.getElem?_eq_some_iff.mp hb).1
     have er:T[i]?=some (T[i]'(by omega)):=am _
     generalize T[i]'(by omega)=r at er
     have hm:=aI er
     have hbr:=S2 _ _ (la i b (r.map shC) hb (by rw[au,er];rfl))
     have rc:=(hT.row r hm).2
     have r2:=l2.2 r hm
     refine⟨rfl,"|", b,r.map shC,.inl rfl,rfl,.inl (SqL.of hbr),?_,_,eN,?_,⟨_,rfl⟩,S2.set hN,?_⟩
     .have:=L4 (n:=5) (l:=((r.map shC).map (·.length))) λx hx=>by
       obtain⟨y,hy,rfl⟩:=List.mem_map.mp hx
       obtain⟨c,hcr,rfl⟩:=List.mem_map.mp hy
       exact Xt c (rc c hcr)
      rw[af,af] at this
      rw[af,show("|" : Str).length=1 by decide +kernel]
      omega
     .rw[af,af,aX];exact aZ (show _<=2 by omega) (by decide)
     .rw[Ab,bj,er,sL,aw,aw]
      rfl
    .rintro σ' H2 ⟨_,S2,eN⟩
     rw[af,le,bp] at eN
     refine⟨"/", N,T.map shR,.inl rfl,rfl,.inl (SqL.of eN),?_,k _ (S1.trans S2)⟩
     have:=L4 (n:=12) (l:=((T.map shR).map (·.length))) λx hx=>by
      obtain⟨y,hy,rfl⟩:=List.mem_map.mp hx
      obtain⟨r,hr,rfl⟩:=List.mem_map.mp hy
      exact Xu (l2.2 r hr) (hT.row r hr).2
     rw[af,af] at this
     rw[af,show("/" : Str).length=1 by decide +kernel]
     omega
def bi8(Z:Ao K t):OkD K ab4 (A1 K t) bl (t.f 11) (t.d 11) (Ve K t):=by
 refine A6 (b18 K t) λvs H Q E h=>?_
 .obtain⟨d,R,z,rfl,hR,hz,ne,l8,clo,k⟩:=h;refine⟨rfl,?_⟩
  have clo:Clo R:=clo
  obtain⟨q,y,dg,hs,_⟩:=RdAt.get hR.rd hz
  obtain⟨kvs,ed,kv⟩:=id hR
  have z0:z ≠ "" := λe=>ne (mem_keys.mpr (e▸hz))
  refine⟨_,dg,_,_,.inr hs,rfl,.inr ⟨kvs,.inl ed,⟨⟨by omega,by rw[kv.len];omega⟩,?_⟩⟩⟩
  rw[kv.len,bB]
  have no:(∀k,itN R (k+1) z≠z)->onB R z=false:=λh=>by
   rw[dI]
   intro g
   obtain⟨k,_,e⟩:=List.any_eq_true.mp g
   exact h k (of_decide_eq_true e)
  refine Bm (Cj 0 R.length) (λi σ H'=>H'=H/\(∃v,σ=[some (.ref d),some (.str z),some (.str (itN R (i+1) z)),v])/\∀k,k<i->itN R (k+1) z≠z) ⟨rfl,⟨_,rfl⟩,λk hk=>absurd hk (iy _)⟩ (λ_ _ _ _ _=>be) ?_ ?_
  .rintro i x σ H2 hx ⟨rfl,⟨v,rfl⟩,old⟩
   obtain⟨hi,rfl⟩:=Dq hx
   refine Bf (c:=decide (itN R (i+1) z="")=true) (λc=>?_) (λc=>?_)
   .have c:=of_decide_eq_true c
    have e:onB R z=false:=no λk hk=>by
     by_cases g:k<i
     .exact old k g hk
     .rw[show k+1=(i+1)+(k-i) by omega,Bx,c,Hz ne] at hk
      exact z0 hk.symm
    rw[e] at k
    show Q (.bl (decide (itN R (i+1) z=z))) H2
    rw[c,decide_eq_false (bx z0)]
    exact k
   .have c0:itN R (i+1) z ≠ "" := λe=>c (decide_eq_true e)
    refine Bf (c:=decide (itN R (i+1) z=z)=true) (λc=>?_) (λc=>?_)
    .have e:onB R z=true:=List.any_eq_true.mpr ⟨i,List.mem_range.mpr hi,c⟩
     rw[e] at k
     show Q (.bl (decide (itN R (i+1) z=z))) H2
     rw[c]
     exact k
    .have hh:=(clo.it ne hz (i+1)).resolve_left c0
     obtain⟨q,y,dg,hs,_⟩:=RdAt.get hR.rd hh
     refine⟨_,dg,_,_,.inr hs,rfl,rfl,⟨_,by rw[Co R (i+1)];rfl⟩,λk hk=>?_⟩
     by_cases g:k=i
     .subst g;exact λe=>c (decide_eq_true e)
     .exact old k (by omega)
  .rintro σ H2 ⟨rfl,_,old⟩
   rw[Bh] at old
   have e:onB R z=false:=by
    rw[dI]
    intro g
    obtain⟨k,hk,e⟩:=List.any_eq_true.mp g
    exact old k (List.mem_range.mp hk) (of_decide_eq_true e)
   rw[e] at k
   exact .inl k
end
end K72
namespace K72
open PySem L2
def Ia(a b:Rc)(xs ys:List Dt):Bc (Bg a++xs) (Bg b++ys)=if a.kd=b.kd then if a.pr=b.pr then if a.rk=b.rk then if shF a.ct=shF b.ct then Bc xs ys else ltS (shF a.ct) (shF b.ct) else decide (a.rk<b.rk) else ltS a.pr b.pr else ltS a.kd b.kd:=by
 unfold Bg
 show Bc (Av a.kd::Av a.pr::Cg a.rk::Av (shF a.ct)::xs) (Av b.kd::Av b.pr::Cg b.rk::Av (shF b.ct)::ys)=_
 rw[Fq,Fq,ad7,Fq]
def Ty{a b:Rc}(ha:Gd a)(hb:Gd b)(ne:a≠b):¬ (a.kd=b.kd/\a.pr=b.pr/\a.rk=b.rk/\shF a.ct=shF b.ct):=fun⟨h1,h2,h3,h4⟩=>ne (by
 have:=a46 ha.2 (h1▸hb.2) h4
 cases a
 cases b
 cases h1
 cases h2
 cases h3
 cases this
 rfl)
def O8{a b:Rc}(ha:Gd a)(hb:Gd b)(ne:a≠b)(xs ys:List Dt):Bc (Bg a++xs) (Bg b++ys) = !Bc (Bg b++ys) (Bg a++xs):=by
 have kn:=Ty ha hb ne
 rw[Ia,Ia]
 by_cases h1:a.kd=b.kd
 .rw[if_pos h1,if_pos h1.symm]
  by_cases h2:a.pr=b.pr
  .rw[if_pos h2,if_pos h2.symm]
   by_cases h3:a.rk=b.rk
   .rw[if_pos h3,if_pos h3.symm]
    have h4:shF a.ct≠shF b.ct:=λh4=>kn ⟨h1,h2,h3,h4⟩
    rw[if_neg h4,if_neg (bx h4),Ic h4]
   .rw[if_neg h3,if_neg (bx h3)]
    rw[<- decide_not]
    exact decide_eq_decide.mpr (by omega)
  .rw[if_neg h2,if_neg (bx h2),Ic h2]
 .rw[if_neg h1,if_neg (bx h1),Ic h1]
def af6{a b:Rc}(ha:Gd a)(hb:Gd b)(ne:a≠b)(xs ys:List Dt):Bc (Bg a++xs) (Bg b++ys)=Bc (Bg a) (Bg b):=by
 have kn:=Ty ha hb ne
 have e:=Ia a b [] []
 rw[bG,bG] at e
 rw[Ia,e]
 by_cases h1:a.kd=b.kd
 .rw[if_pos h1,if_pos h1]
  by_cases h2:a.pr=b.pr
  .rw[if_pos h2,if_pos h2]
   by_cases h3:a.rk=b.rk
   .rw[if_pos h3,if_pos h3,if_neg (λh4=>kn ⟨h1,h2,h3,h4⟩),if_neg (λh4=>kn ⟨h1,h2,h3,h4⟩)]
   .rw[if_neg h3,if_neg h3]
  .rw[if_neg h2,if_neg h2]
 .rw[if_neg h1,if_neg h1]
def Kz(a b:Str){xs ys:List Dt}(h:a=b->Er xs ys=true):Er (Av a::xs) (Av b::ys)=true:=by
 rw[Er,D6]
 by_cases e:a=b
 .rw[if_pos (decide_eq_true e)];exact h e
 .rw[if_neg (λg=>e (of_decide_eq_true g))];rfl
def ac8(a b:Int){xs ys:List Dt}(h:a=b->Er xs ys=true):Er (Cg a::xs) (Cg b::ys)=true:=by
 rw[Er,show deq (Cg a) (Cg b)=decide (a=b) from rfl]
 by_cases e:a=b
 .rw[if_pos (decide_eq_true e)];exact h e
 .rw[if_neg (λg=>e (of_decide_eq_true g))];rfl
def k5(r:Rc):List Dt:=Bg r++[rcD r]
def be5{a b:Rc}(ha:Gd a)(hb:Gd b):Er (k5 a) (k5 b)=true:=by
 unfold k5 Bg
 refine Kz _ _ λh1=>Kz _ _ λh2=>ac8 _ _ λh3=>Kz _ _ λh4=>?_
 have e:a=b:=Decidable.not_not.mp λne=>Ty ha hb ne ⟨h1,h2,h3,h4⟩
 show(if deq (rcD a) (rcD b)=true then Er [] [] else D1 (rcD a) (rcD b))=true
 rw[P0,if_pos (decide_eq_true e)]
 rfl
section
variable {α:Type} [DecidableEq α] {b o u:α}
def Gc(b o u:α):cla b o u=cla b u o:=by
 unfold cla
 rw[show decide (o=u)=decide (u=o) from decide_eq_decide.mpr ⟨Eq.symm,Eq.symm⟩,Bool.and_assoc,Bool.and_assoc,Bool.and_comm (!decide (o=b))]
def aw2(h:¬ cla b o u=true):o=u\/o=b\/u=b:=c_ λg=>h (Hr (λe=>g (.inl e)) (λe=>g (.inr (.inl e))) λe=>g (.inr (.inr e)))
def Kq(b o u:α):stl b o u=stl b u o:=by
 by_cases c:cla b o u=true
 .rw[Sh c,Sh (by rw[Gc];exact c)]
 .rcases aw2 c with h|h|h
  .rw[h]
  .rw[Of h,Im (.inr h)]
  .rw[Im (.inr h),Of h]
end
def Ks(b o u:Ct):whJ b o u=whJ b u o:=by unfold whJ;rw[Kq,Gc]
def aw3(b o u:Ct):ctJ b o u=ctJ b u o:=by
 cases b with
 |txt z=>exact Ks _ _ _
 |tab B=>
  cases o with
  |txt z=>cases u <;> exact Ks _ _ _
  |tab O=>
   cases u with
   |txt z=>exact Ks _ _ _
   |tab U=>
    have e1:Je B O U=Je B U O:=by
     unfold Je
     congr 1
     funext i
     congr 1
     funext j
     exact Kq _ _ _
    have e2:Jf B O U=Jf B U O:=by
     unfold Jf
     congr 1
     funext i
     congr 1
     funext j
     rw[Gc]
    rw[Go,Go,e1,e2,Ks,Gc]
    by_cases c:cla (Ct.tab B) (.tab U) (.tab O)=true/\(O.length=B.length/\A9 O=A9 B)/\(U.length=B.length/\A9 U=A9 B)
    .rw[if_pos c,if_pos ⟨c.1,c.2.2,c.2.1⟩]
    .rw[if_neg c,if_neg (λg=>c ⟨g.1,g.2.2,g.2.1⟩)]
def a38(b o u:Rc):rcJ b o u=rcJ b u o:=by unfold rcJ;rw[Kq (plO b),Gc (plO b),aw3]
def ay5{b o u:Option Rc}(g2:OpG o)(g3:OpG u):jnO b o u=jnO b u o:=by
 unfold jnO
 rw[Gc,Kq]
 by_cases c:cla b u o=true
 .rw[if_pos c,if_pos c]
  have ne:o≠u:=λe=>by rw[e] at c;unfold cla at c;simp at c
  cases b with
  |none=>
   cases o with
   |none=>cases u <;> rfl
   |some o=>
    cases u with
    |none=>rfl
    |some u=>
     have ne:o≠u:=λe=>ne (by rw[e])
     have kt:=O8 (g2 _ rfl) (g3 _ rfl) ne [] []
     rw[bG,bG] at kt
     show(some (if Bc (Bg u) (Bg o)=true then u else o),_)=(some (if Bc (Bg o) (Bg u)=true then o else u),_)
     rw[kt]
     cases Bc (Bg u) (Bg o) <;> rfl
  |some b=>
   cases o with
   |none=>cases u <;> rfl
   |some o=>
    cases u with
    |none=>rfl
    |some u=>
     show(if o.kd≠b.kd\/u.kd≠b.kd then _ else(some (rcJ b o u).1,(rcJ b o u).2))=(if u.kd≠b.kd\/o.kd≠b.kd then _ else(some (rcJ b u o).1,(rcJ b u o).2))
     rw[a38 b o u]
     by_cases k:o.kd≠b.kd\/u.kd≠b.kd
     .rw[if_pos k,if_pos k.symm]
     .rw[if_neg k,if_neg (λz=>k z.symm)]
 .rw[if_neg c,if_neg c]
def Wx{E O U:Rs}{zs:List Str}(o:Sid zs O)(u:Sid zs U)(z:Str):jnZ E O U z=jnZ E U O z:=ay5 (o.op z) (u.op z)
def ay9{E O U:Rs}{zs:List Str}(o:Sid zs O)(u:Sid zs U):Bv E O U (nms E O U)=Bv E U O (nms E U O)/\C2 E O U (nms E O U)=C2 E U O (nms E U O):=by
 rw[a01 E O U]
 unfold Bv C2
 constructor
 .congr 1
  funext z
  rw[Wx o u]
 .congr 1
  funext z
  rw[Wx o u]
def ax3{E O U:Rs}{zs:List Str}(o:Sid zs O)(u:Sid zs U):Ja E O U=Ja E U O/\K5 E O U=K5 E U O:=by
 obtain⟨h1,h2⟩:=ay9 (E:=E) o u
 unfold Ja K5
 rw[h1,h2]
 exact⟨rfl,rfl⟩
section
variable {P:a7}{w:bL}{K:ae}{mg:Str->Option aj}{base:Heap}{t:Adr}{H H':Hp}
def az1{v:V}{c:Option Rc}{ws:List Str}{l q:Addr}(hl:H l=none)(hq:upd H l (sL ws) q=none)(hv:OpAt K H c v):Same H (upd (upd H l (sL ws)) q (.lst [v,.ref l]))/\ac4 K (upd (upd H l (sL ws)) q (.lst [v,.ref l])) v l (c,ws):=by
 have S1:=Same.upd (o:=sL ws) hl
 have S2:=Same.upd (o:=.lst [v,.ref l]) hq
 exact⟨S1.trans S2,S2 _ _ Ab,hv.up (S1.trans S2)⟩
def af5{b o u:Option Rc}(h:cla b o u=false):jnO b o u=(stl b o u,[]):=by unfold jnO;rw[if_neg (by rw[h];simp)]
def bi1(Z:Ao K t):OkD K aa7 (A1 K t) bl (t.f 10) (t.d 10) (U9 K t):=by
 refine A6 (b11 K t) λvs H Q E h=>?_
 .obtain⟨x,y,z,b,o,u,rfl,h1,h2,h3,g1,g2,g3,k⟩:=h;refine⟨rfl,?_⟩
  have one:∀{c:Option Rc}{ws:List Str}{v:V}{H1:Hp}{l q:Addr},Same H H1->jnO b o u=(c,ws)->OpAt K H1 c v->H1 l=none->upd H1 l (sL ws) q=none->Q (.ref q) (upd (upd H1 l (sL ws)) q (.lst [v,.ref l])):=λS e hv hl hq=>by
   obtain⟨S2,sw⟩:=az1 (K:=K) hl hq hv
   exact k _ _ _ _ (S.trans S2) Ab (e▸sw)
  have nil:∀{c:Option Rc}{v:V},jnO b o u=(c,[])->OpAt K H c v->0<=sizeLine/\∀l,H l=none->2<=sizeLine/\∀q,upd H l (sL []) q=none->Q (.ref q) (upd (upd H l (sL [])) q (.lst [v,.ref l])):=λe hv=>⟨bo _,λl hl=>⟨(show 2<=sizeLine by decide),λq hq=>one (ws:=[]) (Same.refl _) e hv hl hq⟩⟩
  have dp:=λc:Option Rc=>aF (O3 c) (show 3<=40 by decide)
  refine Dp h2.at h3.at h2.sc h3.sc (dp _) ?_
  rw[Lk]
  refine Bf (c:=decide (o=u)=true) (λc=>?_) (λc1=>?_)
  .have c:=of_decide_eq_true c
   exact nil (by rw[af5 (C9 (.inl c)),Im (.inl c)]) h2
  refine Dp h3.at h1.at h3.sc h1.sc (dp _) ?_
  rw[Lk]
  refine Bf (c:=decide (u=b)=true) (λc=>?_) (λc2=>?_)
  .have c:=of_decide_eq_true c
   exact nil (by rw[af5 (C9 (.inr (.inr c))),Im (.inr c)]) h2
  refine Dp h2.at h1.at h2.sc h1.sc (dp _) ?_
  rw[Lk]
  refine Bf (c:=decide (o=b)=true) (λc=>?_) (λc3=>?_)
  .have c:=of_decide_eq_true c
   exact nil (by rw[af5 (C9 (.inr (.inl c))),Of c]) h3
  have n1:o≠u:=λe=>c1 (decide_eq_true e)
  have n2:u≠b:=λe=>c2 (decide_eq_true e)
  have n3:o≠b:=λe=>c3 (decide_eq_true e)
  have c:cla b o u=true:=Hr n1 n3 n2
  clear c1 c2 c3 nil
  cases b with
  |none=>
   obtain rfl:x=.non:=h1
   cases o with
   |none=>exact absurd rfl n3
   |some o=>
    cases u with
    |none=>exact absurd rfl n2
    |some u=>
     have ne:o≠u:=λe=>n1 (by rw[e])
     have go:=g2 _ rfl
     have gu:=g3 _ rfl
     obtain⟨q2,y2,rfl,s2,a2⟩:=id h2
     obtain⟨q3,y3,rfl,s3,a3⟩:=id h3
     refine⟨(show 2<=sizeLine by decide),λp hp=>.inl ⟨⟨_,SqL.of Ab⟩,λL hL=>?_⟩⟩
     have S1:=Same.upd (o:=.lst [.ref q2,.ref q3]) hp
     have e1:upd H p (.lst [.ref q2,.ref q3]) p=some (.lst [.ref q2,.ref q3]):=Ab
     generalize upd H p (.lst [.ref q2,.ref q3])=H1 at S1 e1 hL ⊢
     have mk:∀{r:Rc}{q:Addr}{y:V}{H2 H3:Hp}{a:Addr},SqT K H2 q [.str r.kd,.str r.pr,.int r.rk,y]->At K H2 (ctD r.ct) y->Same H2 H3->H3 a=none->Same H2 (upd H3 a (.tup [.str r.kd,.str r.pr,.int r.rk,.str (shF r.ct),.ref q]))/\At K (upd H3 a (.tup [.str r.kd,.str r.pr,.int r.rk,.str (shF r.ct),.ref q])) (.tup (k5 r)) (.ref a)/\SqT K (upd H3 a (.tup [.str r.kd,.str r.pr,.int r.rk,.str (shF r.ct),.ref q])) a [.str r.kd,.str r.pr,.int r.rk,.str (shF r.ct),.ref q]:=λ{r q y H2 H3 a} hs ha S3 hA=>by
      have S4:=Same.upd (o:=.tup [.str r.kd,.str r.pr,.int r.rk,.str (shF r.ct),.ref q]) hA
      have rc:RcAt K H2 r (.ref q):=⟨q,y,rfl,hs,ha⟩
      exact⟨S3.trans S4,Cw (SqT.of Ab) (Aj A4 (Aj A4 (Aj (Cq rfl) (Aj A4 (Aj (A3 (S3.trans S4) rc.at) Ar))))),SqT.of Ab⟩
     refine Cb (Bu [.ref q2,.ref q3]) (λi σ' H'=>(∃v,σ'=[v])/\Same H1 H'/\∃xs,H' L=some (.lst xs)/\xs.length=i/\(0<i -> ∃a,xs[0]?=some (.ref a)/\At K H' (.tup (k5 o)) (.ref a)/\SqT K H' a [.str o.kd,.str o.pr,.int o.rk,.str (shF o.ct),.ref q2])/\(1<i -> ∃a,xs[1]?=some (.ref a)/\At K H' (.tup (k5 u)) (.ref a)/\SqT K H' a [.str u.kd,.str u.pr,.int u.rk,.str (shF u.ct),.ref q3]))
      ⟨⟨_,rfl⟩,Same.upd hL,[],Ab,rfl,(λh=>absurd h (d_ _)),λh=>absurd h (by decide)⟩ (λ_ _ _ _ h=>SqL.of (h.2.1 _ _ e1)) ?_ ?_
     .rintro i x σ' H2 hx ⟨⟨v,rfl⟩,S2,xs,eL,lx,f0,f1⟩
      have S12:=S1.trans S2
      have no5:∀r:Rc,noL (.tup (k5 r))=true:=λr=>by
       show Gy (k5 r)=true
       unfold k5 Bg Av Cg
       show(true&&(true&&(true&&(true&&(noL (rcD r)&&true)))))=true
       rw[show noL (rcD r)=true from by unfold rcD noL;simp only[Gy,Av,Cg,noL,aj0,Bool.and_self]]
       rfl
      match i,hx,lx,f0 with
      |0,hx,lx,f0=>
       cases hx
       have hs:=S12.seqT s2
       refine⟨_,_,.inr hs,rfl,_,_,.inr hs,rfl,_,_,.inr hs,rfl,_,_,.inr hs,rfl,_,_,_,rfl,A3 S12 a2,go.2,λH3 S3=>⟨(show 5<=sizeLine by decide),λa hA=>?_⟩⟩
       obtain⟨S3,at5,sq5⟩:=mk hs (A3 S12 a2) S3 hA
       generalize upd H3 a (.tup [.str o.kd,.str o.pr,.int o.rk,.str (shF o.ct),.ref q2])=H3 at S3 at5 sq5 ⊢
       have eL3:=S3 _ _ eL
       have tk:TKeep K H3 (upd H3 L (.lst (xs++[.ref a]))):=TKeep.lst eL3
       exact⟨xs,eL3,by rw[lx];decide,⟨_,rfl⟩,(S2.trans S3).set hL,_,Ab,by rw[ak,lx];rfl,(λ_=>⟨a,by rw[cJ lx];rfl,Gn tk (no5 o) at5,tk _ _ sq5⟩),λh=>absurd h (by decide)⟩
      |1,hx,lx,f0=>
       cases hx
       obtain⟨a0,e0,at0,sq0⟩:=f0 (by decide)
       have hs:=S12.seqT s3
       refine⟨_,_,.inr hs,rfl,_,_,.inr hs,rfl,_,_,.inr hs,rfl,_,_,.inr hs,rfl,_,_,_,rfl,A3 S12 a3,gu.2,λH3 S3=>⟨(show 5<=sizeLine by decide),λa hA=>?_⟩⟩
       obtain⟨S3,at5,sq5⟩:=mk hs (A3 S12 a3) S3 hA
       generalize upd H3 a (.tup [.str u.kd,.str u.pr,.int u.rk,.str (shF u.ct),.ref q3])=H3 at S3 at5 sq5 ⊢
       have eL3:=S3 _ _ eL
       have tk:TKeep K H3 (upd H3 L (.lst (xs++[.ref a]))):=TKeep.lst eL3
       refine⟨xs,eL3,by rw[lx];decide,⟨_,rfl⟩,(S2.trans S3).set hL,_,Ab,by rw[ak,lx];rfl,(λ_=>⟨a0,?_,Gn tk (no5 o) (A3 S3 at0),tk _ _ (S3.seqT sq0)⟩),λ_=>⟨a,?_,Gn tk (no5 u) at5,tk _ _ sq5⟩⟩
       .rw[bO (by omega)];exact e0
       .rw[bz (by omega),lx];rfl
      |i+2,hx,_,_=>cases hx
     rintro σ' H2 ⟨_,S2,xs,eL,lx,f0,f1⟩
     have lx:xs.length=2:=lx
     obtain⟨a0,e0,at0,sq0⟩:=f0 (by rw[show([V.ref q2,V.ref q3]:List V).length=2 from rfl];decide)
     obtain⟨a1,e1',at1,sq1⟩:=f1 (by rw[show([V.ref q2,V.ref q3]:List V).length=2 from rfl];decide)
     obtain rfl:xs=[.ref a0,.ref a1]:=by
      match xs,lx with
      |[x0,x1],_=>cases e0;cases e1';rfl
     have S12:=S1.trans S2
     have dk:∀r:Rc,Bz (k5 r)<=20:=λr=>by
      unfold k5 Bg
      show max 0 (max 0 (max 0 (max 0 (max (dep (rcD r)) 0))))<=20
      have:=Tl r
      omega
     have nd:([(k5 o,a0),(k5 u,a1)]:List (List Dt×Addr)).Nodup:=by
      refine List.nodup_cons.mpr ⟨λm=>?_,by simp⟩
      have e:k5 o=k5 u:=congrArg kX (List.mem_singleton.mp m)
      have kt:=O8 go gu ne [rcD o] [rcD u]
      have kt:Bc (k5 o) (k5 u) = !Bc (k5 u) (k5 o):=kt
      rw[e] at kt
      cases hh:Bc (k5 u) (k5 u) <;> rw[hh] at kt <;> cases kt
     have kt:ltT (k5 o,a0) (k5 u,a1) = !ltT (k5 u,a1) (k5 o,a0):=O8 go gu ne [rcD o] [rcD u]
     have kt2:ltT (k5 u,a1) (k5 o,a0)=Bc (Bg u) (Bg o):=af6 gu go (bx ne) [rcD u] [rcD o]
     have self:∀(r:Rc)(a:Addr),Gd r->ltT (k5 r,a) (k5 r,a)=false:=λr a _=>by
      show Bc (Bg r++[rcD r]) (Bg r++[rcD r])=false
      rw[Ia,if_pos rfl,if_pos rfl,if_pos rfl,if_pos rfl]
      show(if deq (rcD r) (rcD r)=true then Bc [] [] else _)=false
      rw[P0,if_pos (decide_eq_true rfl)]
      rfl
     refine .inl (.inr ⟨rfl,.inr ⟨L,[(k5 o,a0),(k5 u,a1)],true,rfl,SqL.of eL,λd hd=>?_,(show 2<64 by decide),λa ha b hb=>?_,⟨λa ha b hb nab=>?_,λa ha b hb c' hc' h1' h2'=>?_,nd⟩,λD hD=>?_⟩⟩)
     .rcases List.mem_cons.mp hd with rfl|hd
      .exact⟨⟨_,_,rfl,_,rfl⟩,at0,dk o⟩
      .rw[List.mem_singleton.mp hd];exact⟨⟨_,_,rfl,_,rfl⟩,at1,dk u⟩
     .have:∀d∈([(k5 o,a0),(k5 u,a1)]:List (List Dt×Addr)),∃r,Gd r/\d.1=k5 r:=λd hd=>by
       rcases List.mem_cons.mp hd with rfl|hd
       .exact⟨o,go,rfl⟩
       .rw[List.mem_singleton.mp hd];exact⟨u,gu,rfl⟩
      obtain⟨r,gr,er⟩:=this a ha
      obtain⟨r',gr',er'⟩:=this b hb
      rw[er,er']
      exact be5 gr gr'
     .rcases List.mem_cons.mp ha with rfl|ha <;> rcases List.mem_cons.mp hb with rfl|hb
      .exact absurd rfl nab
      .rw[List.mem_singleton.mp hb];exact kt
      .rw[List.mem_singleton.mp ha,kt];exact(Bool.not_not _).symm
      .rw[List.mem_singleton.mp ha,List.mem_singleton.mp hb] at nab;exact absurd rfl nab
     .have two:∀d∈([(k5 o,a0),(k5 u,a1)]:List (List Dt×Addr)),d=(k5 o,a0)\/d=(k5 u,a1):=λd hd=>(List.mem_cons.mp hd).imp id List.mem_singleton.mp
      have so:=self o a0 go
      have su:=self u a1 gu
      rcases two a ha with rfl|rfl <;> rcases two b hb with rfl|rfl <;> rcases two c' hc' with rfl|rfl
      .exact h1'
      .exact h2'
      .rw[kt,h2'] at h1';cases h1'
      .exact h1'
      .exact h1'
      .rw[kt,h1'] at h2';cases h2'
      .exact h2'
      .exact h1'
     .have es:An ltT [(k5 o,a0),(k5 u,a1)]=if Bc (Bg u) (Bg o)=true then [(k5 u,a1),(k5 o,a0)] else [(k5 o,a0),(k5 u,a1)]:=by
       show(if ltT (k5 o,a0) (k5 u,a1)=true then _ else _)=_
       rw[kt,kt2]
       cases Bc (Bg u) (Bg o) <;> rfl
      rw[es]
      have S3:=Same.upd (o:=.lst ((if Bc (Bg u) (Bg o)=true then [(k5 u,a1),(k5 o,a0)] else [(k5 o,a0),(k5 u,a1)]).map λd=>V.ref d.2)) hD
      have ej:jnO none (some o) (some u)=(some (if Bc (Bg u) (Bg o)=true then u else o),[("both" : Str)]):=by unfold jnO;rw[if_pos c]
      have S13:=S12.trans S3
      have h2':OpAt K _ (some o) (.ref q2):=OpAt.up h2 S13
      have h3':OpAt K _ (some u) (.ref q3):=OpAt.up h3 S13
      cases hb:Bc (Bg u) (Bg o) with
      |true=>
       rw[hb] at S3 ej h2' h3' S13
       exact⟨_,_,.inl (SqL.of Ab),rfl,_,_,.inr (S3.seqT sq1),rfl,(show 1<=sizeLine by decide),λl hl=>⟨(show 2<=sizeLine by decide),λq hq=>one (ws:=["both"]) S13 ej h3' hl hq⟩⟩
      |false=>
       rw[hb] at S3 ej h2' h3' S13
       exact⟨_,_,.inl (SqL.of Ab),rfl,_,_,.inr (S3.seqT sq0),rfl,(show 1<=sizeLine by decide),λl hl=>⟨(show 2<=sizeLine by decide),λq hq=>one (ws:=["both"]) S13 ej h2' hl hq⟩⟩
  |some b=>
   obtain⟨q1,y1,rfl,s1,a1⟩:=id h1
   have gone:∀{v1 v2:V}{n:Int}{v:V}{cc:Option Rc},atI [v1,v2] n=some v->OpAt K H cc v->jnO (some b) o u=(cc,[("gone" : Str)])->2<=sizeLine/\∀p,H p=none -> ∃xs w,SqX K (upd H p (.lst [v1,v2])) p n xs/\atI xs n=some w/\1<=sizeLine/\∀l,upd H p (.lst [v1,v2]) l=none->2<=sizeLine/\∀q,upd (upd H p (.lst [v1,v2])) l (sL ["gone"]) q=none->Q (.ref q) (upd (upd (upd H p (.lst [v1,v2])) l (sL ["gone"])) q (.lst [w,.ref l])):=λe hv ej=>
    ⟨(show 2<=sizeLine by decide),λp hp=>⟨_,_,.inl (SqL.of Ab),e,(show 1<=sizeLine by decide),λl hl=>⟨(show 2<=sizeLine by decide),λq hq=>one (ws:=["gone"]) (Same.upd hp) ej (hv.up (Same.upd hp)) hl hq⟩⟩⟩
   cases o with
   |none=>
    obtain rfl:y=.non:=h2
    cases u with
    |none=>exact absurd rfl n1
    |some u=>
     obtain⟨q3,y3,rfl,s3,a3⟩:=id h3
     exact gone (n:=0) (v1:=.ref q3) (v2:=.non) rfl h3 (by unfold jnO;rw[if_pos c])
   |some o=>
    obtain⟨q2,y2,rfl,s2,a2⟩:=id h2
    cases u with
    |none=>
     obtain rfl:z=.non:=h3
     exact gone (n:=1) (v1:=.non) (v2:=.ref q2) rfl h2 (by unfold jnO;rw[if_pos c])
    |some u=>
     obtain⟨q3,y3,rfl,s3,a3⟩:=id h3
     have kind:(o.kd≠b.kd\/u.kd≠b.kd)->(1<=sizeLine/\∀l,H l=none->2<=sizeLine/\∀q,upd H l (sL [("kind" : Str)]) q=none->Q (.ref q) (upd (upd H l (sL [("kind" : Str)])) q (.lst [.ref q1,.ref l]))):=λg=>⟨(show 1<=sizeLine by decide),λl hl=>⟨(show 2<=sizeLine by decide),λq hq=>one (Same.refl _) (by unfold jnO;rw[if_pos c];exact if_pos g) h1 hl hq⟩⟩
     refine⟨_,_,.inr s2,rfl,_,_,.inr s1,rfl,?_⟩
     refine Bf (c:=(!decide (o.kd=b.kd))=true) (λe=>?_) (λe=>?_)
     .exact kind (.inl (by simpa using e))
     refine⟨_,_,.inr s3,rfl,_,_,.inr s1,rfl,?_⟩
     refine Bf (c:=(!decide (u.kd=b.kd))=true) (λe2=>?_) (λe2=>?_)
     .exact kind (.inr (by simpa using e2))
     have e:o.kd=b.kd:=by simpa using e
     have e2:u.kd=b.kd:=by simpa using e2
     rw[show jnO (some b) (some o) (some u)=(some (rcJ b o u).1,(rcJ b o u).2) from by unfold jnO;rw[if_pos c];exact if_neg (λg=>g.elim (λz=>z e) λz=>z e2)] at k
     clear kind gone one
     have tail:∀(pp w0:Addr)(v3:Option V)(H3:Hp),Same H H3->SqT K H3 pp [.str (stl (plO b) (plO o) (plO u)).1,.int (stl (plO b) (plO o) (plO u)).2]->H3 w0=some (sL (if cla (plO b) (plO o) (plO u)=true then [("place" : Str)] else []))->(Af (Dw (dFn (spE (X1 K t) []) (Aa (Ad (Ai K) (Ac 0) (dC (.int 0))) (Aa (Ad (Ai K) (Ac 0) (dC (.int 3))) (Aa (Ad (Ai K) (Ac 1) (dC (.int 3))) (Aa (Ad (Ai K) (Ac 2) (dC (.int 3))) Ae))))) (gdT K 2 [(gdN 6),(gdN 7)])) (Af (Ap (As (Aa (Bp (Aa (Ad (Ai K) (Ac 0) (dC (.int 0))) (Aa (Ad (Ai K) (Ac 4) (dC (.int 0))) (Aa (Ad (Ai K) (Ac 4) (dC (.int 1))) (Aa (Ac 6) Ae))))) (Aa (Ad (Az K) (Ac 5) (Ac 7)) Ae)))) Ag)) (K4 Q λ_ _=>False) [some (.ref q1),some (.ref q2),some (.ref q3),v3,some (.ref pp),some (.ref w0),none,none] H3:=by
      intro pp w0 v3 H3 S3 hp ew
      have g1':=g1 _ rfl
      have g2':=g2 _ rfl
      have g3':=g3 _ rfl
      have nl:(if cla (plO b) (plO o) (plO u)=true then [("place" : Str)] else []).length<=1:=by split <;> simp
      refine⟨_,_,.inr (S3.seqT s1),rfl,_,_,.inr (S3.seqT s1),rfl,_,_,.inr (S3.seqT s2),rfl,_,_,.inr (S3.seqT s3),rfl,b.kd,_,_,_,_,_,_,rfl,A3 S3 a1,A3 S3 a2,A3 S3 a3,g1'.2,e▸g2'.2,e2▸g3'.2,λH4 q S4 ⟨v,l,hq,el,av⟩=>?_⟩
      refine⟨_,.inr (SqL.of hq),rfl,?_⟩
      have S34:=S3.trans S4
      refine⟨_,_,.inr (S34.seqT s1),rfl,_,_,.inr (S4.seqT hp),rfl,_,_,.inr (S4.seqT hp),rfl,(show 4<=sizeLine by decide),λr hr=>?_⟩
      have S6:=Same.upd (o:=.tup [.str b.kd,.str (stl (plO b) (plO o) (plO u)).1,.int (stl (plO b) (plO o) (plO u)).2,v]) hr
      have e6:upd H4 r (.tup [.str b.kd,.str (stl (plO b) (plO o) (plO u)).1,.int (stl (plO b) (plO o) (plO u)).2,v]) r=some (.tup [.str b.kd,.str (stl (plO b) (plO o) (plO u)).1,.int (stl (plO b) (plO o) (plO u)).2,v]):=Ab
      generalize upd H4 r (.tup [.str b.kd,.str (stl (plO b) (plO o) (plO u)).1,.int (stl (plO b) (plO o) (plO u)).2,v])=H6 at S6 e6 ⊢
      have lw:=Wk (o:=o.ct) (u:=u.ct) g1'.2
      refine .inl ⟨w0,l,_,_,rfl,rfl,S6 _ _ (S4 _ _ ew),S6 _ _ el,?_,λw1 hw1=>⟨(show 2<=sizeLine by decide),λf hf=>?_⟩⟩
      .rw[af,af];exact aF (show _<=5 by omega) (by decide)
      rw[<- aw] at hf ⊢
      have S7:=Same.upd (o:=sL ((if cla (plO b) (plO o) (plO u)=true then [("place" : Str)] else [])++(ctJ b.ct o.ct u.ct).2)) hw1
      have S8:=Same.upd (o:=.lst [.ref r,.ref w1]) hf
      exact k _ f (.ref r) w1 (((S34.trans S6).trans S7).trans S8) Ab ⟨S8 _ _ Ab,r,v,rfl,SqT.of (S8 _ _ (S7 _ _ e6)),A3 ((S6.trans S7).trans S8) av⟩
     refine .inr ⟨_,_,_,_,s2,rfl,rfl,λpp hpp=>⟨(show 0<=sizeLine by decide),λw0 hw0=>?_⟩⟩
     have T1:=Same.upd (o:=.tup [.str o.pr,.int o.rk]) hpp
     have T2:=Same.upd (o:=.lst []) hw0
     have ep:upd (upd H pp (.tup [.str o.pr,.int o.rk])) w0 (.lst []) pp=some (.tup [.str o.pr,.int o.rk]):=T2 _ _ Ab
     have ew:upd (upd H pp (.tup [.str o.pr,.int o.rk])) w0 (.lst []) w0=some (sL []):=Ab
     have S1:=T1.trans T2
     generalize upd (upd H pp (.tup [.str o.pr,.int o.rk])) w0 (.lst [])=H1 at ep ew S1 ⊢
     clear T1 T2
     refine .inr ⟨_,_,_,_,S1.seqT s2,rfl,rfl,λt1 ht1=>?_⟩
     have T1:=Same.upd (o:=.tup [.str o.pr,.int o.rk]) ht1
     refine .inr ⟨_,_,_,_,(S1.trans T1).seqT s1,rfl,rfl,λt2 ht2=>?_⟩
     have T2:=Same.upd (o:=.tup [.str b.pr,.int b.rk]) ht2
     have f1:=T2 t1 _ Ab
     have f2:upd (upd H1 t1 (.tup [.str o.pr,.int o.rk])) t2 (.tup [.str b.pr,.int b.rk]) t2=some (.tup [.str b.pr,.int b.rk]):=Ab
     have S2:=S1.trans (T1.trans T2)
     have ep2:=(T1.trans T2) _ _ ep
     have ew2:=(T1.trans T2) _ _ ew
     generalize upd (upd H1 t1 (.tup [.str o.pr,.int o.rk])) t2 (.tup [.str b.pr,.int b.rk])=H2 at f1 f2 S2 ep2 ew2 ⊢
     clear T1 T2
     refine Dp (Hn (p:=plO o) f1) (Hn (p:=plO b) f2) (.inr (.inr ⟨_,rfl⟩)) (.inr (.inr ⟨_,rfl⟩)) (show 1<=40 by decide) ?_
     rw[Ll]
     refine Bf (c:=decide (plO o=plO b)=true) (λc1=>?_) (λc1=>?_)
     .have c1:=of_decide_eq_true c1
      refine .inr ⟨_,_,_,_,S2.seqT s3,rfl,rfl,λt3 ht3=>?_⟩
      have T3:=Same.upd (o:=.tup [.str u.pr,.int u.rk]) ht3
      refine tail t3 w0 none _ (S2.trans T3) ?_ ?_
      .rw[Of c1];exact SqT.of Ab
      .rw[C9 (.inr (.inl c1))];exact T3 _ _ ew2
     have c1:plO o≠plO b:=λz=>c1 (decide_eq_true z)
     refine .inr ⟨_,_,_,_,S2.seqT s2,rfl,rfl,λt3 ht3=>?_⟩
     have T1:=Same.upd (o:=.tup [.str o.pr,.int o.rk]) ht3
     refine .inr ⟨_,_,_,_,(S2.trans T1).seqT s3,rfl,rfl,λt4 ht4=>?_⟩
     have T2:=Same.upd (o:=.tup [.str u.pr,.int u.rk]) ht4
     have f3:=T2 t3 _ Ab
     have f4:upd (upd H2 t3 (.tup [.str o.pr,.int o.rk])) t4 (.tup [.str u.pr,.int u.rk]) t4=some (.tup [.str u.pr,.int u.rk]):=Ab
     have S3:=S2.trans (T1.trans T2)
     have ep3:=(T1.trans T2) _ _ ep2
     have ew3:=(T1.trans T2) _ _ ew2
     generalize upd (upd H2 t3 (.tup [.str o.pr,.int o.rk])) t4 (.tup [.str u.pr,.int u.rk])=H3 at f3 f4 S3 ep3 ew3 ⊢
     clear T1 T2
     refine Dp (Hn (p:=plO o) f3) (Hn (p:=plO u) f4) (.inr (.inr ⟨_,rfl⟩)) (.inr (.inr ⟨_,rfl⟩)) (show 1<=40 by decide) ?_
     rw[Ll]
     refine Bf (c:=(!decide (plO o=plO u))=true) (λc2=>?_) (λc2=>?_)
     .have c2:plO o≠plO u:=λz=>by rw[decide_eq_true z] at c2;cases c2
      refine .inr ⟨_,_,_,_,S3.seqT s3,rfl,rfl,λt5 ht5=>?_⟩
      have T1:=Same.upd (o:=.tup [.str u.pr,.int u.rk]) ht5
      refine .inr ⟨_,_,_,_,(S3.trans T1).seqT s1,rfl,rfl,λt6 ht6=>?_⟩
      have T2:=Same.upd (o:=.tup [.str b.pr,.int b.rk]) ht6
      have f5:=T2 t5 _ Ab
      have f6:upd (upd H3 t5 (.tup [.str u.pr,.int u.rk])) t6 (.tup [.str b.pr,.int b.rk]) t6=some (.tup [.str b.pr,.int b.rk]):=Ab
      have S4:=S3.trans (T1.trans T2)
      have ep4:=(T1.trans T2) _ _ ep3
      have ew4:=(T1.trans T2) _ _ ew3
      generalize upd (upd H3 t5 (.tup [.str u.pr,.int u.rk])) t6 (.tup [.str b.pr,.int b.rk])=H4 at f5 f6 S4 ep4 ew4 ⊢
      clear T1 T2
      refine Dp (Hn (p:=plO u) f5) (Hn (p:=plO b) f6) (.inr (.inr ⟨_,rfl⟩)) (.inr (.inr ⟨_,rfl⟩)) (show 1<=40 by decide) ?_
      rw[Ll]
      refine Bf (c:=(!decide (plO u=plO b))=true) (λc3=>?_) (λc3=>?_)
      .have c3:plO u≠plO b:=λz=>by rw[decide_eq_true z] at c3;cases c3
       have cy:=Hr c2 c1 c3
       refine .inr ⟨_,_,_,_,S4.seqT s1,rfl,rfl,λt7 ht7=>⟨(show 1<=sizeLine by decide),λw1 hw1=>?_⟩⟩
       have T1:=Same.upd (o:=.tup [.str b.pr,.int b.rk]) ht7
       have T2:=Same.upd (o:=.lst [.str "place"]) hw1
       refine tail t7 w1 none _ (S4.trans (T1.trans T2)) ?_ ?_
       .rw[Sh cy];exact SqT.of (T2 _ _ Ab)
       .rw[cy];exact Ab
      .have c3:plO u=plO b:=by simpa using c3
       refine tail pp w0 none _ S4 ?_ ?_
       .rw[Im (.inr c3)];exact SqT.of ep4
       .rw[C9 (.inr (.inr c3))];exact ew4
     .have c2:plO o=plO u:=by simpa using c2
      refine tail pp w0 none _ S3 ?_ ?_
      .rw[Im (.inl c2)];exact SqT.of ep3
      .rw[C9 (.inl c2)];exact ew3
end
end K72
namespace K72
open PySem L2
section
variable {P:a7}{w:bL}{K:ae}{mg:Str->Option aj}{base:Heap}{t:Adr}{H H':Hp}
def ao2{d:Addr}{S:Rs}(h:RdAt K H d S)(z:Str):∃o,Iq H d (.str z) o/\(get S z=none->o=none)/\∀r,get S z=some r -> ∃x,o=some x/\RcAt K H r x:=by
 obtain⟨kvs,e,g⟩:=h
 refine⟨Bt kvs (.inr z),.inl ⟨kvs,.inr z,e,rfl,rfl⟩,λn=>?_,λr hr=>?_⟩
 .have:=g.isSome z
  rw[show has S z=false from by unfold has;rw[n];rfl] at this
  cases hv:Bt kvs (.inr z) with
  |none=>rfl
  |some v=>rw[hv] at this;cases this
 .obtain⟨x,h1,h2⟩:=g.some hr
  exact⟨x,h1,h2⟩
def Ul{d:Addr}{S:Rs}(h:RsAt K H d S)(z:Str):∃o,Iq H d (.str z) o/\OpAt K H (get S z) (o.getD .non):=by
 obtain⟨o,dg,h1,h2⟩:=ao2 h.rd z
 refine⟨o,dg,?_⟩
 cases e:get S z with
 |none=>rw[h1 e];rfl
 |some r=>
  obtain⟨x,ex,rx⟩:=h2 r e
  rw[ex]
  exact rx
def RsAt.set{d l:Addr}{S:Rs}{xs ys:List V}(h:RsAt K H d S)(e:H l=some (.lst xs)):RsAt K (upd H l (.lst ys)) d S:=by
 obtain⟨kvs,ed,g⟩:=h
 exact⟨kvs,by rw[Ah (λc=>by rw[c,e] at ed;cases ed)];exact ed,g.keep (TKeep.lst e)⟩
def bi6(Z:Ao K t):OkD K ab2 (A1 K t) bl (t.f 12) (t.d 12) (Vc K t):=by
 refine A6 (b16 K t) λvs H Q E h=>?_
 .obtain⟨d1,d2,d3,E,O,U,zs,rfl,hE,hO,hU,sE,sO,sU,_,l8,k⟩:=h;refine⟨rfl,?_⟩
  intro d hd
  refine .inl ⟨(show 0<=sizeLine by decide),λlc hlc=>?_⟩
  have nlc:H lc=none:=(Same.upd hd).free hlc
  have S2:=(Same.upd (o:=.dK []) hd).trans (Same.upd (o:=.lst []) hlc)
  have hR2:RsAt K (upd (upd H d (.dK [])) lc (.lst [])) d []:=⟨[],Same.upd hlc _ _ Ab,rfl⟩
  have ec:upd (upd H d (.dK [])) lc (.lst []) lc=some (.lst []):=Ab
  have dc:lc≠d:=λc=>by rw[c,Ab] at hlc;cases hlc
  generalize upd (upd H d (.dK [])) lc (.lst [])=H2 at S2 hR2 ec ⊢
  have li:∀{S:Rs}{dd:Addr}{G:Hp}{R:VK},RsAt K G dd S->(∀l,G l=none->R (.ref l) (upd G l (sL (keys S))))->Jk K true [.ref dd] G R:=λ{S dd G R} h kk=>by
   obtain⟨kvs,e,g⟩:=h
   refine .inr ⟨rfl,dd,kvs,rfl,.inl e,λl hl=>?_⟩
   rw[g.names]
   exact kk l hl
  refine li (hE.up S2) λn1 hn1=>?_
  have T1:=Same.upd (o:=sL (keys E)) hn1
  have g1:upd H2 n1 (sL (keys E)) n1=some (sL (keys E)):=Ab
  generalize upd H2 n1 (sL (keys E))=H3 at T1 g1 ⊢
  refine li (hO.up (S2.trans T1)) λn2 hn2=>?_
  have T2:=Same.upd (o:=sL (keys O)) hn2
  have g2:upd H3 n2 (sL (keys O)) n2=some (sL (keys O)):=Ab
  generalize upd H3 n2 (sL (keys O))=H4 at T2 g2 ⊢
  have m1:(keys E).length<=8:=by rw[Am];exact sE.tr.f8
  have m2:(keys O).length<=8:=by rw[Am];exact sO.tr.f8
  have m3:(keys U).length<=8:=by rw[Am];exact sU.tr.f8
  refine .inl ⟨n1,n2,_,_,rfl,rfl,T2 _ _ g1,g2,by rw[af,af];exact aF (show _<=16 by omega) (by decide),λn3 hn3=>?_⟩
  rw[<- aw]
  have T3:=Same.upd (o:=sL (keys E++keys O)) hn3
  have g3:upd H4 n3 (sL (keys E++keys O)) n3=some (sL (keys E++keys O)):=Ab
  generalize upd H4 n3 (sL (keys E++keys O))=H5 at T3 g3 ⊢
  refine li (hU.up (((S2.trans T1).trans T2).trans T3)) λn4 hn4=>?_
  have T4:=Same.upd (o:=sL (keys U)) hn4
  have g4:upd H5 n4 (sL (keys U)) n4=some (sL (keys U)):=Ab
  generalize upd H5 n4 (sL (keys U))=H6 at T4 g4 ⊢
  refine .inl ⟨n3,n4,_,_,rfl,rfl,T4 _ _ g3,g4,by rw[af,af,ak];exact aF (show _<=24 by omega) (by decide),λn5 hn5=>?_⟩
  rw[<- aw]
  have T5:=Same.upd (o:=sL (keys E++keys O++keys U)) hn5
  have g5:upd H6 n5 (sL (keys E++keys O++keys U)) n5=some (sL (keys E++keys O++keys U)):=Ab
  generalize upd H6 n5 (sL (keys E++keys O++keys U))=H7 at T5 g5 ⊢
  refine⟨_,SqL.of g5,by rw[ak,ak];omega,λD hD=>?_⟩
  rw[show An ltS (Dl (keys E++keys O++keys U))=nms E O U from rfl]
  have T27:=(((T1.trans T2).trans T3).trans T4).trans T5
  have nl:=Kk sE sO sU l8
  have nn:=Lh E O U
  have lo:=O9 sE sO sU l8
  obtain⟨tn,tl⟩:=X8 sE sO sU l8
  generalize hS:Bv E O U (nms E O U)=S0 at lo tn tl
  generalize hW:C2 E O U (nms E O U)=W0 at tn tl
  have fS:Ja E O U=up2 S0:=by unfold Ja;rw[hS]
  have fW:K5 E O U=An ltP (W0++Q8 S0):=by unfold K5;rw[hS,hW]
  rw[fS,fW] at k
  clear fS fW
  generalize hN:nms E O U=ns at nl nn hS hW
  have S8:=(S2.trans T27).trans (Same.upd (o:=sL ns) hD)
  have hR8:=hR2.up (T27.trans (Same.upd (o:=sL ns) hD))
  have ec8:=(T27.trans (Same.upd (o:=sL ns) hD)) _ _ ec
  have eD8:upd H7 D (sL ns) D=some (sL ns):=Ab
  have Dc:D≠lc:=λc=>by rw[c,T27 _ _ ec] at hD;cases hD
  have Dd:D≠d:=λc=>by obtain⟨kv,e,_⟩:=hR2;rw[c,T27 _ _ e] at hD;cases hD
  generalize upd H7 D (sL ns)=H8 at S8 hR8 ec8 eD8 ⊢
  refine .inl ⟨⟨_,SqL.of eD8⟩,?_⟩
  refine Bm (Bu (ns.map V.str)) (λi σ H'=>(∃v5 v6 v7,σ=[some (.ref d1),some (.ref d2),some (.ref d3),some (.ref d),some (.ref lc),v5,v6,v7,none,none])/\Same H H'/\H' D=some (sL ns)/\RsAt K H' d (Bv E O U (ns.take i))/\∃ys,H' lc=some (.lst ys)/\PpAt K H' (C2 E O U (ns.take i)) ys)
   ⟨⟨_,_,_,rfl⟩,S8,eD8,hR8,[],ec8,Ar⟩ (λi σ H' _ h=>SqL.of h.2.2.1) ?_ ?_
  .rintro i x σ G1 hx ⟨⟨v5,v6,v7,rfl⟩,R1,eD1,hRi,ys,ec1,pp1⟩
   rw[au] at hx
   obtain⟨z,hz,rfl⟩:=Option.map_eq_some_iff.mp hx
   have znew:=Gh nn hz
   have tk1:ns.take (i+1)=ns.take i++[z]:=by rw[bj,hz];rfl
   have hi:=(List.getElem?_eq_some_iff.mp hz).1
   have aE:=hE.up R1
   have aO:=hO.up R1
   have aU:=hU.up R1
   obtain⟨oe,dge,pe⟩:=Ul aE z
   obtain⟨oo,dgo,po⟩:=Ul aO z
   obtain⟨ou,dgu,pu⟩:=Ul aU z
   refine⟨aE.ty,oe,dge,aO.ty,oo,dgo,aU.ty,ou,dgu,_,_,_,_,_,_,rfl,pe,po,pu,sE.op z,sO.op z,sU.op z,λG2 q v l R2 hq ⟨el,ov⟩=>?_⟩
   refine⟨_,.inr (SqL.of hq),rfl,?_⟩
   have hRj:=hRi.up R2
   have ec2:=R2 _ _ ec1
   have pp2:PpAt K G2 (C2 E O U (ns.take i)) ys:=Aw R2 pp1
   have wl:=(aj3 (af4 (b:=get E z) (o:=get O z) (u:=get U z) (sE.op z))).1
   refine⟨.inl ⟨rfl,_,SqL.of ec2⟩,.inl ⟨⟨_,SqL.of el⟩,λL hL=>?_⟩⟩
   refine Ow (K:=K) (λw=>(z,w)) (λσ=>∃v,σ=[v,some (.str z)]) hL el (by omega) ⟨_,rfl⟩ (λσ x ⟨v,e⟩=>⟨some x,by rw[e];rfl⟩) (λσ w G Q' hs h0 kk=>?_) (λσ x ⟨v,e⟩=>by rw[e];rfl) λG4 ys4 R4 eL4 pp4=>?_
   .obtain⟨v,rfl⟩:=hs
    cases h0
    exact⟨(show 2<=sizeLine by decide),kk⟩
   have ec4:=R4 _ _ ec2
   have l1:=pp2.len
   have l2:=pp4.len
   have l3:(C2 E O U (ns.take i)).length<=60:=by
    have w0:W0.length<=56:=by rw[ak] at tl;omega
    rw[<- hW] at w0
    have:C2 E O U ns=C2 E O U (ns.take i)++C2 E O U (ns.drop i):=by unfold C2;rw[<- bR,jK]
    rw[this,ak] at w0
    omega
   rw[af] at l2
   refine⟨lc,L,_,_,rfl,rfl,ec4,eL4,aF (show _<=70 by omega) (by decide),?_⟩
   have R5:=((R1.trans R2).trans R4).set (o:=.lst (ys++ys4)) nlc
   have eD5:upd G4 lc (.lst (ys++ys4)) D=some (sL ns):=by rw[Ah Dc];exact R4 _ _ (R2 _ _ eD1)
   have hR5:RsAt K (upd G4 lc (.lst (ys++ys4))) d (Bv E O U (ns.take i)):=(hRj.up R4).set ec4
   have tk:TKeep K G4 (upd G4 lc (.lst (ys++ys4))):=TKeep.lst ec4
   have pp5:PpAt K (upd G4 lc (.lst (ys++ys4))) (C2 E O U (ns.take (i+1))) (ys++ys4):=by
    rw[tk1,N7]
    exact PpAt.app (A8 tk (Ef _) (Aw R4 pp2)) (A8 tk (Ef _) pp4)
   have ec5:upd G4 lc (.lst (ys++ys4)) lc=some (.lst (ys++ys4)):=Ab
   have ov5:OpAt K (upd G4 lc (.lst (ys++ys4))) (jnO (get E z) (get O z) (get U z)).1 v:=by
    cases e:(jnO (get E z) (get O z) (get U z)).1 with
    |none=>rw[e] at ov;exact ov
    |some r=>rw[e] at ov;exact RcAt.keep ((TKeep.of R4).trans tk) ov
   generalize upd G4 lc (.lst (ys++ys4))=G5 at R5 eD5 hR5 pp5 ec5 ov5 ⊢
   have e3:=Q6 (E:=E) (O:=O) (U:=U) (zs:=ns.take i) znew
   rw[<- tk1] at e3
   unfold jnZ at e3
   cases ej:(jnO (get E z) (get O z) (get U z)).1 with
   |none=>
    rw[ej] at ov5 e3
    obtain rfl:v=.non:=ov5
    have e3:Bv E O U (ns.take (i+1))=Bv E O U (ns.take i):=e3
    exact⟨⟨_,_,_,rfl⟩,R5,eD5,by rw[e3];exact hR5,_,ec5,pp5⟩
   |some r=>
    rw[ej] at ov5 e3
    have ov5:RcAt K G5 r v:=ov5
    have e3:Bv E O U (ns.take (i+1))=Dy (Bv E O U (ns.take i)) z r:=e3
    obtain⟨qv,yv,rfl,_⟩:=id ov5
    have ll:(Bv E O U (ns.take i)).length<=8:=by
     rw[<- Am]
     have:=(Ev (E:=E) (O:=O) (U:=U) (ns.take i)).length_le
     rw[aX] at this
     omega
    obtain⟨kv5,ed5,_⟩:=id hR5
    exact sto hR5 (by omega) ov5 λG6 B6 hR6=>⟨⟨_,_,_,rfl⟩,B6.same R5 hd,B6 _ _ Dd eD5,by rw[e3];exact hR6,_,B6 _ _ dc ec5,A8 (B6.tk ed5) (Ef _) pp5⟩
  .rintro σ G1 ⟨⟨v5,v6,v7,rfl⟩,R1,eD1,hRi,ys,ec1,pp1⟩
   rw[af,bp,hS] at hRi
   rw[af,bp,hW] at pp1
   clear eD1 eD8
   refine .inl ⟨(show 0<=sizeLine by decide),λlo8 hlo=>?_⟩
   have n8:H lo8=none:=R1.free hlo
   have R2:=R1.trans (Same.upd (o:=.lst []) hlo)
   have hR2:=hRi.up (Same.upd (o:=.lst []) hlo)
   have ec2:=Same.upd (o:=.lst []) hlo _ _ ec1
   have pp2:PpAt K (upd G1 lo8 (.lst [])) W0 ys:=Aw (Same.upd hlo) pp1
   have e8:upd G1 lo8 (.lst []) lo8=some (sL []):=Ab
   have c8:lo8≠lc:=λc=>by rw[c,ec1] at hlo;cases hlo
   have d8:lo8≠d:=λc=>by obtain⟨kv,e,_⟩:=hRi;rw[c,e] at hlo;cases hlo
   generalize upd G1 lo8 (.lst [])=G2 at R2 hR2 ec2 pp2 e8 ⊢
   refine .inr (.inr (.inl (Rl hR2 λo kvs G3 B3 e0 ed g=>?_)))
   have kn:=g.names
   have f8:=lo.f8
   have e83:=B3 _ _ d8 e8
   refine Bm (Ss kvs) (λi σ H'=>(∃v5 v6 v7 v9,σ=[some (.ref d1),some (.ref d2),some (.ref d3),some (.ref d),some (.ref lc),v5,v6,v7,some (.ref lo8),v9])/\(∀b o,b≠lo8->G3 b=some o->H' b=some o)/\H' lo8=some (sL (((keys S0).take i).filter λz=>!Bd S0 (Ak S0 z).pr)))
    ⟨⟨_,_,_,_,rfl⟩,(λ_ _ _ e=>e),e83⟩ (λi σ H' _ h=>h.2.1 _ _ (bx d8) ed) ?_ ?_
   .rintro i x σ G4 hx ⟨⟨v5,v6,v7,v9,rfl⟩,B4,e84⟩
    rw[kn,au] at hx
    obtain⟨z,hz,rfl⟩:=Option.map_eq_some_iff.mp hx
    have tk1:(keys S0).take (i+1)=(keys S0).take i++[z]:=by rw[bj,hz];rfl
    have hh:=mem_keys.mp (aI hz)
    have tk4:TKeep K G3 G4:=λa xs q=>by
     rcases q with(q|⟨o,q⟩)|q
     .exact .inl (.inl (B4 _ _ (λc=>by rw[c,e83] at q;cases q) q))
     .exact .inl (.inr ⟨o,B4 _ _ (λc=>by rw[c,e83] at q;cases q) q⟩)
     .exact .inr q
    have ed4:=B4 _ _ (bx d8) ed
    have rd4:RdAt K G4 d S0:=⟨kvs,.inr ⟨o,ed4⟩,g.keep tk4⟩
    obtain⟨qz,yz,dgz,hsz,_⟩:=rd4.get hh
    refine⟨_,dgz,_,_,.inr hsz,rfl,?_⟩
    have fl:((keys S0).take i).length<=8:=by rw[aX,Am];omega
    have skip:Bd S0 (Ak S0 z).pr=true -> ∀{G5:Hp},Same G4 G5->(∀b o,b≠lo8->G3 b=some o->G5 b=some o)/\G5 lo8=some (sL (((keys S0).take (i+1)).filter λz=>!Bd S0 (Ak S0 z).pr)):=λhb {G5} S5=>by
     refine⟨λb o nb e=>S5 _ _ (B4 b o nb e),?_⟩
     rw[S5 _ _ e84,tk1,dw,fj,hb]
     simp
    have add:Bd S0 (Ak S0 z).pr=false -> ∀{G5:Hp},Same G4 G5->(((keys S0).take i).filter (λz=>!Bd S0 (Ak S0 z).pr)).map V.str=(((keys S0).take i).filter (λz=>!Bd S0 (Ak S0 z).pr)).map V.str->(∀b o,b≠lo8->G3 b=some o->upd G5 lo8 (.lst ((((keys S0).take i).filter λz=>!Bd S0 (Ak S0 z).pr).map V.str++[.str z])) b=some o)/\upd G5 lo8 (.lst ((((keys S0).take i).filter λz=>!Bd S0 (Ak S0 z).pr).map V.str++[.str z])) lo8=some (sL (((keys S0).take (i+1)).filter λz=>!Bd S0 (Ak S0 z).pr)):=λhb {G5} S5 _=>by
     refine⟨λb o nb e=>by rw[Ah nb];exact S5 _ _ (B4 b o nb e),?_⟩
     rw[Ab,tk1,dw,fj,hb,sL,aw]
     rfl
    have lf:((((keys S0).take i).filter λz=>!Bd S0 (Ak S0 z).pr).map V.str).length<sizeLine:=by
     rw[af]
     exact aZ (aF (ca _ _) fl) (by decide)
    refine Bf (c:=(!decide ((Ak S0 z).pr=""))=true) (λc=>?_) (λc=>?_)
    .have c:(Ak S0 z).pr ≠ "" := by simpa using c
     refine⟨.inr (.inr (.inr ⟨rfl,o,kvs,ed4⟩)),(show 2<=sizeLine by decide),λq hq=>?_⟩
     have S5:=Same.upd (o:=.tup [.str "", .str ""]) hq
     have eq5:upd G4 q (.tup [.str "", .str ""]) q=some (.tup [.str "", .str ""]):=Ab
     generalize upd G4 q (.tup [.str "", .str ""])=G5 at S5 eq5 ⊢
     obtain⟨og,dgg,gn,gs⟩:=ao2 (rd4.up S5) (Ak S0 z).pr
     refine⟨og,dgg,?_⟩
     cases eg:get S0 (Ak S0 z).pr with
     |none=>
      rw[gn eg]
      have hb:Bd S0 (Ak S0 z).pr=false:=by unfold Bd;rw[eg,decide_eq_false c];rfl
      have e85:=S5 _ _ e84
      exact⟨_,_,.inr (SqT.of eq5),rfl,.inl ⟨rfl,_,SqL.of e85⟩,lo8,_,_,rfl,rfl,e85,lf,⟨_,_,_,_,rfl⟩,add hb S5 rfl⟩
     |some r=>
      obtain⟨x,rfl,qx,yx,rfl,hx,_⟩:=gs r eg
      refine⟨_,_,.inr hx,rfl,?_⟩
      have hb:=Wu c eg
      refine Bf (c:=(!decide (r.kd="chapter"))=true) (λc2=>?_) (λc2=>?_)
      .have c2:¬ r.kd="chapter" := by simpa using c2
       rw[decide_eq_false c2] at hb
       have e85:=S5 _ _ e84
       exact⟨.inl ⟨rfl,_,SqL.of e85⟩,lo8,_,_,rfl,rfl,e85,lf,⟨_,_,_,_,rfl⟩,add hb S5 rfl⟩
      .have c2:r.kd="chapter" := by simpa using c2
       rw[decide_eq_true c2] at hb
       exact⟨⟨_,_,_,_,rfl⟩,skip hb S5⟩
    .have c:(Ak S0 z).pr="" := by simpa using c
     exact⟨⟨_,_,_,_,rfl⟩,skip (by unfold Bd;rw[decide_eq_true c];rfl) (Same.refl _)⟩
   .rintro σ G4 ⟨⟨v5,v6,v7,v9,rfl⟩,B4,e84⟩
    have ed4:=B4 _ _ (bx d8) ed
    have tk4:TKeep K G3 G4:=λa xs q=>by
     rcases q with(q|⟨o,q⟩)|q
     .exact .inl (.inl (B4 _ _ (λc=>by rw[c,e83] at q;cases q) q))
     .exact .inl (.inr ⟨o,B4 _ _ (λc=>by rw[c,e83] at q;cases q) q⟩)
     .exact .inr q
    refine .inr ⟨d,o,kvs,e0,ed4,?_⟩
    have R5:Same H (upd G4 d (.dK kvs)):=λb u h=>by
     have nb:b≠d:=λc=>by rw[c,hd] at h;cases h
     rw[Ah nb]
     exact B4 _ _ (λc=>by rw[c,n8] at h;cases h) (B3 _ _ nb (R2 _ _ h))
    have tk5:TKeep K G4 (upd G4 d (.dK kvs)):=Qm ed4
    have hR5:RsAt K (upd G4 d (.dK kvs)) d S0:=⟨kvs,Ab,g.keep (tk4.trans tk5)⟩
    have e85:upd G4 d (.dK kvs) lo8=some (sL (C3 S0)):=by
     rw[Ah d8,e84,af,g.len,<- Am,bp]
     rfl
    have ec5:upd G4 d (.dK kvs) lc=some (.lst ys):=by rw[Ah dc];exact B4 _ _ (bx c8) (B3 _ _ dc ec2)
    have pp5:PpAt K (upd G4 d (.dK kvs)) W0 ys:=A8 (((B3.tk e0).trans tk4).trans tk5) (Ef _) pp2
    generalize upd G4 d (.dK kvs)=G5 at R5 hR5 e85 ec5 pp5 ⊢
    clear tk4 tk5 e84 ed4 B4 e83 ed g kn B3 e0 pp2 ec2 e8 hR2 R2 pp1 ec1 hRi R1
    have rcT_at:∀{G:Hp}{r:Rc}{q qq:Addr}{y:V},At K G (ctD r.ct) y->G qq=none->RcAt K (upd G qq (.tup [.str r.kd,.str "", .int r.rk,y])) (rcT r) (.ref qq):=λ{G r q qq y} ha hq=>⟨qq,y,rfl,SqT.of Ab,A3 (Same.upd hq) ha⟩
    refine .inl ⟨⟨_,SqL.of e85⟩,?_⟩
    refine Bm (Bu ((C3 S0).map V.str)) (λi σ H'=>(∃v5 v6 v7 v9,σ=[some (.ref d1),some (.ref d2),some (.ref d3),some (.ref d),some (.ref lc),v5,v6,v7,some (.ref lo8),v9])/\But d G5 H'/\RsAt K H' d (Bi S0 ((C3 S0).take i)))
     ⟨⟨_,_,_,_,rfl⟩,(λ_ _ _ e=>e),by rw[hV,Qn];exact hR5⟩ (λi σ H' _ h=>SqL.of (h.2.1 _ _ d8 e85)) ?_ ?_
    .rintro i x σ G6 hx ⟨⟨v5,v6,v7,v9,rfl⟩,B6,hR6⟩
     rw[au] at hx
     obtain⟨z,hz,rfl⟩:=Option.map_eq_some_iff.mp hx
     have hh:=(loo_mem.mp (aI hz)).1
     have ht:has (Bi S0 ((C3 S0).take i)) z=true:=by rw[Ee];exact hh
     obtain⟨qz,yz,dgz,hsz,az⟩:=RdAt.get hR6.rd ht
     refine⟨_,dgz,_,_,.inr hsz,rfl,_,dgz,_,_,.inr hsz,rfl,_,dgz,_,_,.inr hsz,rfl,(show 4<=sizeLine by decide),λq hq=>?_⟩
     refine sto (hR6.up (Same.upd hq)) (by rw[Ib];omega) (rcT_at (q:=q) az hq) λG8 B8 R8=>⟨⟨_,_,_,_,rfl⟩,B6.trans ((But.of (Same.upd hq)).trans B8),?_⟩
     rw[Pp lo.nd hh] at R8
     rw[bj,hz]
     exact R8
    .rintro σ G6 ⟨⟨v5,v6,v7,v9,rfl⟩,B6,hR6⟩
     rw[af,bp] at hR6
     have hR6:RsAt K G6 d (up1 S0):=hR6
     obtain⟨kv5,ed5,_⟩:=id hR5
     have R6:Same H G6:=B6.same R5 hd
     have e86:=B6 _ _ d8 e85
     have ec6:=B6 _ _ dc ec5
     have pp6:PpAt K G6 W0 ys:=A8 (B6.tk ed5) (Ef _) pp5
     have l1:Lo (up1 S0):=lo.top _
     have c1:=(Hw S0).clo
     have f81:=l1.f8
     obtain⟨kv6,ed6,g6⟩:=id hR6
     refine .inl (.inr ⟨rfl,.inl ⟨d,keys (up1 S0),rfl,.inr ⟨kv6,.inl ed6,g6.keys⟩,l1.nd,by rw[Am];omega,λD2 hD2=>.inl ⟨⟨_,SqL.of Ab⟩,?_⟩⟩⟩)
     have pk:=Al ltS (keys (up1 S0))
     have kp:=Bq (Cv l1.nd)
     have kl:(An ltS (keys (up1 S0))).length<=8:=by rw[pk.length_eq,Am];exact f81
     have km:∀z,z∈An ltS (keys (up1 S0))↔has (up1 S0) z=true:=λz=>by rw[pk.mem_iff,mem_keys]
     have pf:((An ltS (keys (up1 S0))).filter (Cy (up1 S0))).Perm (J8 (up1 S0)):=pk.filter _
     generalize An ltS (keys (up1 S0))=ks at kp kl km pf hD2 ⊢
     have T7:=Same.upd (o:=sL ks) hD2
     have eD7:upd G6 D2 (sL ks) D2=some (sL ks):=Ab
     have R7:=R6.trans T7
     have hR7:=hR6.up T7
     have e87:=T7 _ _ e86
     have ec7:=T7 _ _ ec6
     have pp7:PpAt K (upd G6 D2 (sL ks)) W0 ys:=Aw T7 pp6
     have D2d:D2≠d:=λc=>by rw[c,ed6] at hD2;cases hD2
     have D28:D2≠lo8:=λc=>by rw[c,e86] at hD2;cases hD2
     generalize upd G6 D2 (sL ks)=G7 at T7 eD7 R7 hR7 e87 ec7 pp7 ⊢
     refine Bm (Bu (ks.map V.str)) (λi σ H'=>(∃v5 v6 v7 v9,σ=[some (.ref d1),some (.ref d2),some (.ref d3),some (.ref d),some (.ref lc),v5,v6,v7,some (.ref lo8),v9])/\Same H H'/\H' D2=some (sL ks)/\RsAt K H' d (Bi (up1 S0) ((ks.take i).filter (Cy (up1 S0))))/\H' lo8=some (sL (C3 S0++(ks.take i).filter (Cy (up1 S0))))/\H' lc=some (.lst ys)/\PpAt K H' W0 ys)
      ⟨⟨_,_,_,_,rfl⟩,R7,eD7,by rw[hV,gC,Qn];exact hR7,by rw[hV,gC,bG];exact e87,ec7,pp7⟩ (λi σ H' _ h=>SqL.of h.2.2.1) ?_ ?_
     .rintro i x σ G8 hx ⟨⟨v5,v6,v7,v9,rfl⟩,R8,eD8,hR8,e88,ec8,pp8⟩
      rw[au] at hx
      obtain⟨z,hz,rfl⟩:=Option.map_eq_some_iff.mp hx
      have hh:=(km z).mp (aI hz)
      have ht:has (Bi (up1 S0) ((ks.take i).filter (Cy (up1 S0)))) z=true:=by rw[Ee];exact hh
      have tk1:ks.take (i+1)=ks.take i++[z]:=by rw[bj,hz];rfl
      refine⟨d,_,z,rfl,hR8,ht,by rw[Ft];exact l1.ne,by rw[Ib];exact f81,c1.top,?_⟩
      rw[ae6 c1 l1.ne kp km hz]
      have ll:(C3 S0++(ks.take i).filter (Cy (up1 S0))).length<=16:=by
       rw[ak]
       have h4:(C3 S0).length<=8:=aF (ca _ _) (by rw[Am];exact f8)
       have h5:((ks.take i).filter (Cy (up1 S0))).length<=8:=aF (ca _ _) (by rw[aX];omega)
       omega
      refine Bf (c:=Cy (up1 S0) z=true) (λc=>?_) (λc=>?_)
      .have ft:(ks.take (i+1)).filter (Cy (up1 S0))=(ks.take i).filter (Cy (up1 S0))++[z]:=by
        rw[tk1,dw,fj,if_pos c,gC]
       refine⟨.inl ⟨rfl,_,SqL.of e88⟩,lo8,_,_,rfl,rfl,e88,by rw[af];exact aZ ll (by decide),?_⟩
       have R9:=R8.set (o:=.lst ((C3 S0++(ks.take i).filter (Cy (up1 S0))).map V.str++[.str z])) n8
       have e89:upd G8 lo8 (.lst ((C3 S0++(ks.take i).filter (Cy (up1 S0))).map V.str++[.str z])) lo8=some (sL (C3 S0++(ks.take (i+1)).filter (Cy (up1 S0)))):=by
        rw[Ab,ft,<- ck,sL,aw (l₂:=[z])]
        rfl
       have hR9:RsAt K (upd G8 lo8 (.lst ((C3 S0++(ks.take i).filter (Cy (up1 S0))).map V.str++[.str z]))) d (Bi (up1 S0) ((ks.take i).filter (Cy (up1 S0)))):=hR8.set e88
       have eD9:upd G8 lo8 (.lst ((C3 S0++(ks.take i).filter (Cy (up1 S0))).map V.str++[.str z])) D2=some (sL ks):=by rw[Ah D28];exact eD8
       have ec9:upd G8 lo8 (.lst ((C3 S0++(ks.take i).filter (Cy (up1 S0))).map V.str++[.str z])) lc=some (.lst ys):=by rw[Ah (bx c8)];exact ec8
       have pp9:PpAt K (upd G8 lo8 (.lst ((C3 S0++(ks.take i).filter (Cy (up1 S0))).map V.str++[.str z]))) W0 ys:=A8 (TKeep.lst e88) (Ef _) pp8
       generalize upd G8 lo8 (.lst ((C3 S0++(ks.take i).filter (Cy (up1 S0))).map V.str++[.str z]))=G9 at R9 e89 hR9 eD9 ec9 pp9 ⊢
       obtain⟨qz,yz,dgz,hsz,az⟩:=RdAt.get hR9.rd ht
       refine⟨_,dgz,_,_,.inr hsz,rfl,_,dgz,_,_,.inr hsz,rfl,_,dgz,_,_,.inr hsz,rfl,(show 4<=sizeLine by decide),λq hq=>?_⟩
       have T:=Same.upd (o:=.tup [.str (Ak (Bi (up1 S0) ((ks.take i).filter (Cy (up1 S0)))) z).kd,.str "", .int (Ak (Bi (up1 S0) ((ks.take i).filter (Cy (up1 S0)))) z).rk,yz]) hq
       obtain⟨kvx,edx,_⟩:=id (hR9.up T)
       refine sto (hR9.up T) (by rw[Ib];omega) (rcT_at (q:=q) az hq) λG10 B10 R10=>⟨⟨_,_,_,_,rfl⟩,B10.same (R9.trans T) hd,B10 _ _ D2d (T _ _ eD9),?_,B10 _ _ d8 (T _ _ e89),B10 _ _ dc (T _ _ ec9),A8 (B10.tk edx) (Ef _) (Aw T pp9)⟩
       rw[Pp l1.nd hh,<- ft] at R10
       exact R10
      .have ft:(ks.take (i+1)).filter (Cy (up1 S0))=(ks.take i).filter (Cy (up1 S0)):=by
        rw[tk1,dw,fj,if_neg c,gC,bG]
       exact⟨⟨_,_,_,_,rfl⟩,R8,eD8,by rw[ft];exact hR8,by rw[ft];exact e88,ec8,pp8⟩
     .rintro σ G8 ⟨⟨v5,v6,v7,v9,rfl⟩,R8,eD8,hR8,e88,ec8,pp8⟩
      rw[af,bp] at hR8 e88
      rw[show Bi (up1 S0) (ks.filter (Cy (up1 S0)))=up2 S0 from Vq λz=>pf.mem_iff] at hR8
      generalize ks.filter (Cy (up1 S0))=Lf at pf e88
      have pmW:(W0++Q8 S0).Perm (W0++(C3 S0++Lf).map λw=>(w,("loose" : Str))):=(fu W0).append (((fu (C3 S0)).append pf.symm).map _)
      have w0:W0.length<=56/\(C3 S0++Lf).length<=56:=by
       have:=pmW.length_eq
       rw[ak,ak,af] at this
       rw[ak] at tl
       omega
      refine .inl (.inl ⟨⟨_,SqL.of e88⟩,λL hL=>?_⟩)
      refine Ow (K:=K) (λw=>(w,("loose" : Str))) (λσ=>∃v,σ=[v]) hL e88 (by omega) ⟨_,rfl⟩ (λσ x ⟨v,e⟩=>⟨some x,by rw[e];rfl⟩) (λσ w G Q' hs h0 kk=>?_) (λσ x ⟨v,e⟩=>by rw[e];rfl) λG9 ys9 R9 eL9 pp9=>?_
      .obtain⟨v,rfl⟩:=hs
       cases h0
       exact⟨(show 2<=sizeLine by decide),kk⟩
      have l1:=pp8.len
      have l2:=pp9.len
      rw[af] at l2
      refine .inl ⟨lc,L,_,_,rfl,rfl,R9 _ _ ec8,eL9,aF (show _<=120 by omega) (by decide),λp hp=>.inl ?_⟩
      have S10:=Same.upd (o:=.lst (ys++ys9)) hp
      have pp10:PpAt K (upd G9 p (.lst (ys++ys9))) (W0++(C3 S0++Lf).map λw=>(w,("loose" : Str))) (ys++ys9):=PpAt.app (Aw (R9.trans S10) pp8) (Aw S10 pp9)
      have e10:upd G9 p (.lst (ys++ys9)) p=some (.lst (ys++ys9)):=Ab
      have R10:=(R8.trans R9).trans S10
      have hR10:=hR8.up (R9.trans S10)
      generalize upd G9 p (.lst (ys++ys9))=G10 at S10 pp10 e10 R10 hR10 ⊢
      refine Xy e10 pp10 (pmW.nodup_iff.mp tn) (by rw[<- pmW.length_eq];omega) λD3 zs3 hD3 ppz=>⟨(show 2<=sizeLine by decide),λq hq=>?_⟩
      rw[<- Lz (Pc tn) pmW] at ppz
      have S11:=Same.upd (o:=.lst zs3) hD3
      have S12:=Same.upd (o:=.lst [.ref d,.ref D3]) hq
      exact k _ q d D3 zs3 ((R10.trans S11).trans S12) Ab (hR10.up (S11.trans S12)) (S12 _ _ Ab) (Aw S12 ppz)
end
def ae4{E O U:Rs}{zs:List Str}(e:Sid zs E)(o:Sid zs O)(u:Sid zs U)(l:zs.length<=8):TrC (Ja E O U):=br0 (O9 e o u l)
section
variable {P:a7}{w:bL}{K:ae}{mg:Str->Option aj}{base:Heap}{t:Adr}{H H':Hp}
theorem RdAt.frz{d dd:Addr}{S:Rs}{o:Obj}{kvs:List (Key×V)}(h:RdAt K H d S)(e0:H dd=some (.dK kvs))(B:But dd H H')(ed:H' dd=some (.frz o (.dK kvs))):RdAt K H' d S:=by
 obtain⟨kv,e,g⟩:=h
 have g':=g.keep (B.tk e0)
 by_cases c:d=dd
 .subst c
  rcases e with e|⟨u,e⟩
  .rw[e0] at e
   cases e
   exact⟨_,.inr ⟨o,ed⟩,g'⟩
  .rw[e0] at e
   cases e
 .rcases e with e|⟨u,e⟩
  .exact⟨kv,.inl (B _ _ c e),g'⟩
  .exact⟨kv,.inr ⟨u,B _ _ c e⟩,g'⟩
def W1{ds:List Dt}{a b:Addr}{xs ys:List V}{neg:Bool}{Q:VK}(ha:H a=some (.lst xs))(hb:H b=some (.lst ys))(h1:AtL K H ds xs)(h2:AtL K H ds ys)(hd:Bz ds<=20)(k:Q (.bl (!neg)) H):A0 K neg (.ref a) (.ref b) H Q:=by
 have d1:=Op (SqL.of ha) h1
 refine Dp d1 (Op (SqL.of hb) h2) (.inr (.inr ⟨_,rfl⟩)) (.inr (.inr ⟨_,rfl⟩)) ?_ ?_
 .unfold dep
  omega
 .rw[Ht d1]
  cases neg <;> exact k
def Wo(S:Rs):Bz ((Ez S "").map (lnD S))<=20:=aF (Es (bd7 S) _) (by decide)
def bh5(Z:Ao K t):OkD K aa0 (A1 K t) bl (t.f 33) (t.d 33) (P7 K t):=by
 refine A6 (b05 K t) λvs H Q E h=>?_
 .obtain⟨d1,d2,d3,dd,l,E,O,U,zs,ys,rfl,hE,hO,hU,hD,sE,sO,sU,nd,l8,el,pp,k⟩:=h;refine⟨rfl,?_⟩
  have T:=ae4 sE sO sU l8
  refine⟨d1,E,rfl,hE,sE.tr,λH1 p1 x1 S1 q1 _=>⟨d2,O,rfl,hO.up S1,sO.tr,λH2 p2 x2 S2 q2 _=>⟨d3,U,rfl,hU.up (S1.trans S2),sU.tr,λH3 p3 x3 S3 q3 _=>⟨(show 3<=sizeLine by decide),λth hth=>?_⟩⟩⟩⟩
  have S4:=Same.upd (o:=.lst [.ref p1,.ref p2,.ref p3]) hth
  have e4:upd H3 th (.lst [.ref p1,.ref p2,.ref p3]) th=some (.lst [.ref p1,.ref p2,.ref p3]):=Ab
  have q1:=(q1.up (S2.trans S3)).up S4
  have q2:=(q2.up S3).up S4
  have q3:=q3.up S4
  have S04:=((S1.trans S2).trans S3).trans S4
  generalize upd H3 th (.lst [.ref p1,.ref p2,.ref p3])=H4 at S4 e4 q1 q2 q3 S04 ⊢
  clear S1 S2 S3 S4
  refine⟨_,_,.inl (SqL.of e4),rfl,_,_,.inl (SqL.of e4),rfl,_,_,.inl (SqL.of e4),rfl,?_⟩
  refine⟨p1,x1,p2,x2,p3,x3,E,O,U,zs,rfl,q1,q2,q3,sE,sO,sU,nd,l8,λH5 q p l2 d ys2 S5 nl hq el2 pp2 hP=>?_⟩
  have S05:=S04.trans S5
  have nl0:H l2=none:=S04.free nl
  have tl:th≠l2:=λc=>by rw[c,nl] at e4;cases e4
  have eth:=S5 _ _ e4
  have q1:=q1.up S5
  have q2:=q2.up S5
  have q3:=q3.up S5
  clear S5 e4
  have hD5:=hD.up S05
  have hE5:=hE.up S05
  have hO5:=hO.up S05
  have hU5:=hU.up S05
  generalize Ja E O U=F at T hD5 hP
  refine⟨_,true,TyX.sqT rfl hq rfl,rfl,?_⟩
  refine⟨_,_,.inr hq,rfl,_,true,TyX.sqL rfl (SqL.of el2) rfl,rfl,?_⟩
  refine⟨_,_,.inr hq,rfl,?_⟩
  refine W1 el2 (S05 _ _ el) pp2 (Aw S05 pp) (aF (Es (f:=λw:Str×Str=>Dt.tup (prL w)) (n:=1) (λw=>ag 1) _) (by decide)) ?_
  refine .inl ⟨_,.inr hq,?_⟩
  obtain⟨dxp,ip⟩:=id hP.1
  refine⟨_,_,.inr hq,rfl,⟨p,dxp,_,⟨t.c_zbm,be1 K t⟩,rfl,.head _,ip,rfl,⟨ag _,ag _⟩,⟨p,d,F,rfl,hP.rd,T.tr,λH6 la ysa S6 ea aa=>⟨dd,F,rfl,hD5.up S6,T,λH7 lb ysb S7 eb ab=>?_⟩⟩⟩⟩
  refine W1 (S7 _ _ ea) eb (Aw S7 aa) ab (Wo F) ?_
  have S57:=S6.trans S7
  have S07:=S05.trans S57
  have hq7:=S57.seqT hq
  have hP7:=hP.up S57
  have hD7:=hD5.up S57
  have el7:=S57 _ _ el2
  have eth7:=S57 _ _ eth
  have q1:=q1.up S57
  have q2:=q2.up S57
  have q3:=q3.up S57
  have hE7:=hE5.up S57
  have hO7:=hO5.up S57
  have hU7:=hU5.up S57
  clear S6 S7 S57 hE5 hO5 hU5 hD5 eth el2 hq hP ea aa eb ab ip
  obtain⟨dxp,ip⟩:=id hP7.1
  refine⟨_,_,.inr hq7,rfl,⟨p,dxp,_,⟨t.c_zbm,Tu K t⟩,rfl,.head _,ip,rfl,⟨ag _,ag _⟩,⟨p,d,F,rfl,hP7.rd,T.tr.nd,by have:=T.f8;omega,λna hna=>?_⟩⟩⟩
  have S8:=Same.upd (o:=sL (An ltS (keys F))) hna
  have e8:upd H7 na (sL (An ltS (keys F))) na=some (sL (An ltS (keys F))):=Ab
  generalize upd H7 na (sL (An ltS (keys F)))=H8 at S8 e8 ⊢
  obtain⟨kv8,ed8,g8⟩:=id (hD7.up S8)
  refine .inr ⟨rfl,.inl ⟨dd,keys F,rfl,.inr ⟨kv8,.inl ed8,g8.keys⟩,T.tr.nd,by rw[Am];have:=T.f8;omega,λD2 hD2=>?_⟩⟩
  have S9:=Same.upd (o:=sL (An ltS (keys F))) hD2
  refine W1 (S9 _ _ e8) Ab Hm Hm (aF (Es (λz=>D5 z) _) (by decide)) ?_
  have S79:=S8.trans S9
  generalize upd H8 D2 (sL (An ltS (keys F)))=H9 at S9 S79 ⊢
  have S09:=S07.trans S79
  have hq9:=S79.seqT hq7
  have hP9:=hP7.up S79
  have hD9:=hD7.up S79
  have el9:=S79 _ _ el7
  have eth9:=S79 _ _ eth7
  have q1:=q1.up S79
  have q2:=q2.up S79
  have q3:=q3.up S79
  have hE9:=hE7.up S79
  have hO9:=hO7.up S79
  have hU9:=hU7.up S79
  clear S8 S9 S79 hE7 hO7 hU7 hD7 eth7 el7 hq7 hP7 ip e8 kv8 ed8 g8
  refine .inr (.inr (.inl (Rl hD9 λo kvs H10 B10 e0 ed g=>?_)))
  have kn:=g.names
  have hq10:=(B10.tk (K:=K) e0) _ _ hq9
  have hP10:PlAt K t H10 p d F:=⟨hP9.1.but e0 B10,hP9.rd.2.frz e0 B10 ed⟩
  refine Bm (Ss kvs) (λi σ H'=>H'=H10/\∃v7,σ=[some (.ref d1),some (.ref d2),some (.ref d3),some (.ref dd),some (.ref l),some (.ref th),some (.ref q),v7,none,none]) ⟨rfl,_,rfl⟩ (λi σ H' _ h=>h.1▸ed) ?_ ?_
  .rintro i x σ G1 hx ⟨rfl,v7,rfl⟩
   rw[kn,au] at hx
   obtain⟨z,hz,rfl⟩:=Option.map_eq_some_iff.mp hx
   have hh:=mem_keys.mp (aI hz)
   obtain⟨dxp,ip⟩:=id hP10.1
   refine⟨_,_,.inr hq10,rfl,⟨p,dxp,_,⟨t.c_zbm,Y0 K t⟩,rfl,.head _,ip,rfl,⟨ag _,ag _⟩,⟨p,d,F,z,rfl,hP10,hh,λx rx=>?_⟩⟩⟩
   have rd:RdAt K G1 dd F:=⟨kvs,.inr ⟨o,ed⟩,g⟩
   obtain⟨qz,yz,dgz,hsz,az⟩:=rd.get hh
   have ry:RcAt K G1 (Ak F z) (.ref qz):=⟨qz,yz,rfl,hsz,az⟩
   refine⟨_,dgz,Dp rx.at ry.at rx.sc ry.sc (aF (Tl _) (by decide)) ?_⟩
   rw[P0,decide_eq_true rfl]
   exact⟨rfl,_,rfl⟩
  .rintro σ G1 ⟨rfl,v7,rfl⟩
   refine .inr ⟨dd,o,kvs,e0,ed,?_⟩
   have S11:Same H9 (upd G1 dd (.dK kvs)):=Ql e0 B10 (Same.refl _)
   generalize upd G1 dd (.dK kvs)=H11 at S11 ⊢
   clear hP10 hq10 kn g ed B10 e0
   have el11:=S11 _ _ el9
   refine⟨_,_,.inr (S11.seqT hq9),rfl,.inl ⟨rfl,_,SqL.of el11⟩,l2,_,rfl,rfl,el11,?_⟩
   have S12:Same H (upd H11 l2 (.lst [])):=(S09.trans S11).set nl0
   have tk:TKeep K H11 (upd H11 l2 (.lst [])):=TKeep.lst el11
   have pw:∀{p d:Addr}{S:Rs},PwAt K t H9 p d S->PwAt K t (upd H11 l2 (.lst [])) p d S:=λ{p d S} h=>by
    obtain⟨⟨dx,e⟩,r⟩:=h.up S11
    exact⟨⟨dx,by rw[Ah (λc=>by rw[c,el11] at e;cases e)];exact e⟩,r.set el11⟩
   have q1:=pw q1
   have q2:=pw q2
   have q3:=pw q3
   have hE12:=(hE9.up S11).set (ys:=[]) el11
   have hO12:=(hO9.up S11).set (ys:=[]) el11
   have hU12:=(hU9.up S11).set (ys:=[]) el11
   have eth12:upd H11 l2 (.lst []) th=some (.lst [.ref p1,.ref p2,.ref p3]):=by
    rw[Ah tl]
    exact S11 _ _ eth9
   generalize upd H11 l2 (.lst [])=H12 at S12 tk pw q1 q2 q3 hE12 hO12 hU12 eth12 ⊢
   refine⟨(show 3<=sizeLine by decide),λlz hlz=>?_⟩
   have S13:=Same.upd (o:=.lst [.ref d1,.ref d2,.ref d3]) hlz
   have e13:upd H12 lz (.lst [.ref d1,.ref d2,.ref d3]) lz=some (.lst [.ref d1,.ref d2,.ref d3]):=Ab
   have eth13:=S13 _ _ eth12
   refine⟨⟨_,SqL.of eth13⟩,⟨_,SqL.of e13⟩,?_⟩
   have S013:=S12.trans S13
   have q1:=q1.up S13
   have q2:=q2.up S13
   have q3:=q3.up S13
   have hE13:=hE12.up S13
   have hO13:=hO12.up S13
   have hU13:=hU12.up S13
   generalize upd H12 lz (.lst [.ref d1,.ref d2,.ref d3])=H13 at S13 e13 eth13 S013 q1 q2 q3 hE13 hO13 hU13 ⊢
   refine Ws (br4 [.ref p1,.ref p2,.ref p3] [.ref d1,.ref d2,.ref d3]) (λi σ H'=>(∃v7 v8 v9,σ=[some (.ref d1),some (.ref d2),some (.ref d3),some (.ref dd),some (.ref l),some (.ref th),some (.ref q),v7,v8,v9])/\Same H13 H') ⟨⟨_,_,_,rfl⟩,Same.refl _⟩ (λi σ H' _ h=>⟨SqL.of (h.2 _ _ eth13),SqL.of (h.2 _ _ e13)⟩) ?_ ?_
   .rintro i x y Tz σ G2 hx hTz ⟨⟨v7,v8,v9,rfl⟩,R2⟩
    have ST:=Same.upd (o:=.tup [x,y]) hTz
    have eT:upd G2 Tz (.tup [x,y]) Tz=some (.tup [x,y]):=Ab
    have R3:=R2.trans ST
    generalize upd G2 Tz (.tup [x,y])=G3 at ST eT R3 ⊢
    obtain⟨pp,dp,ddp,S,rfl,rfl,hp,hd,hT⟩:∃pp dp ddp S,x=.ref pp/\y=.ref ddp/\PwAt K t H13 pp dp S/\RsAt K H13 ddp S/\TrC S:=by
     match i,hx with
     |0,hx=>cases hx;exact⟨_,_,_,_,rfl,rfl,q1,hE13,sE.tr⟩
     |1,hx=>cases hx;exact⟨_,_,_,_,rfl,rfl,q2,hO13,sO.tr⟩
     |2,hx=>cases hx;exact⟨_,_,_,_,rfl,rfl,q3,hU13,sU.tr⟩
     |i+3,hx=>cases hx
    refine⟨_,.inl (SqT.of eT),rfl,?_⟩
    have hp:=hp.up R3
    have hd:=hd.up R3
    obtain⟨dxp,ip⟩:=id hp.1
    refine⟨pp,dxp,_,⟨t.c_zbm,be1 K t⟩,rfl,.head _,ip,rfl,⟨ag _,ag _⟩,⟨pp,dp,S,rfl,hp.rd,hT.tr,λH6 la ysa S6 ea aa=>⟨ddp,S,rfl,hd.up S6,hT,λH7 lb ysb S7 eb ab=>?_⟩⟩⟩
    refine W1 (S7 _ _ ea) eb (Aw S7 aa) ab (Wo S) ?_
    exact⟨⟨_,_,_,rfl⟩,(R3.trans S6).trans S7⟩
   .rintro σ G2 ⟨_,R2⟩
    exact .inl (k _ (S013.trans R2))
end
def ao3{j:Int}(h1:8<=j)(h2:j<=62):fY 2 j 3=true:=by
 have:∀n:Nat,n<63->fY 2 (n:Int) 3=true:=by decide +kernel
 obtain⟨n,rfl⟩:=cQ (show 0<=j by omega)
 exact this n (by omega)
def a47{j:Int}(h2:j<=62):(bV 2 j 3).toNat<=20:=by
 unfold bV
 rw[if_pos (by decide)]
 split <;> omega
section
variable {P:a7}{w:bL}{K:ae}{mg:Str->Option aj}{base:Heap}{t:Adr}{H H':Hp}
def bj6(Z:Ao K t):OkD K D_zbh (A1 K t) bl (t.f 35) (t.d 35) (P9 K t):=by
 refine A6 (b26 K t) λvs H Q E h=>?_
 .obtain⟨a,ns,rfl,ha,l63,k⟩:=h;refine⟨rfl,?_⟩
  refine⟨a,ns,0,rfl,ha,λc0=>⟨a,ns,0,rfl,ha,λc1=>⟨⟨by decide,by decide⟩,by decide,?_⟩⟩⟩
  obtain⟨m,em,hm⟩:=K3 (c1/7) (m:=9) (by decide)
  have em:c1/7%9=(m:Int):=em
  rw[em]
  refine⟨c0,m,rfl,by omega,λH1 ln zs S1 eln zn z8 z0 z12=>?_⟩
  refine⟨(show 4<=sizeLine by decide),λk1 hk1=>?_⟩
  have T1:=Same.upd (o:=(.lst [.str "chapter", .str "para", .str "chapter", .str "table"])) hk1
  have f1:upd H1 k1 (.lst [.str "chapter", .str "para", .str "chapter", .str "table"]) k1=some (sL ["chapter","para","chapter","table"]):=Ab
  generalize upd H1 k1 (.lst [.str "chapter", .str "para", .str "chapter", .str "table"])=Ha at T1 f1 ⊢
  refine⟨(show 1<=sizeLine by decide),λc hc=>⟨c,4,_,rfl,rfl,Ab,by decide,by decide,(show 1*4<=sizeLine by decide),λk2 hk2=>?_⟩⟩
  have T2:=Same.upd (o:=.lst [.str "chapter"]) hc
  generalize upd Ha c (.lst [.str "chapter"])=Hb at T2 hk2 ⊢
  have T3:=Same.upd (o:=(.lst (b7 (hX 4) [V.str "chapter"]).flatten)) hk2
  have f2:upd Hb k2 (.lst (b7 (hX 4) [V.str "chapter"]).flatten) k2=some (sL ["chapter","chapter","chapter","chapter"]):=Ab
  generalize upd Hb k2 (.lst (b7 (hX 4) [V.str "chapter"]).flatten)=Hc at T3 f2 ⊢
  refine⟨(show 4<=sizeLine by decide),λk3 hk3=>?_⟩
  have T4:=Same.upd (o:=(.lst [.str "table", .str "chapter", .str "table", .str "para"])) hk3
  have f3:upd Hc k3 (.lst [.str "table", .str "chapter", .str "table", .str "para"]) k3=some (sL ["table","chapter","table","para"]):=Ab
  generalize upd Hc k3 (.lst [.str "table", .str "chapter", .str "table", .str "para"])=Hd at T4 f3 ⊢
  refine⟨(show 3<=sizeLine by decide),λlk hlk=>?_⟩
  have T5:=Same.upd (o:=.lst [.ref k1,.ref k2,.ref k3]) hlk
  have elk:upd Hd lk (.lst [.ref k1,.ref k2,.ref k3]) lk=some (.lst [.ref k1,.ref k2,.ref k3]):=Ab
  generalize upd Hd lk (.lst [.ref k1,.ref k2,.ref k3])=H2 at T5 elk ⊢
  have f1:=T5 _ _ (T4 _ _ (T3 _ _ (T2 _ _ f1)))
  have f2:=T5 _ _ (T4 _ _ f2)
  have f3:=T5 _ _ f3
  have S2:=(((S1.trans T1).trans T2).trans T3).trans (T4.trans T5)
  have eln2:=(((T1.trans T2).trans T3).trans (T4.trans T5)) _ _ eln
  refine .inl ⟨_,.inl (S2.seqL ha),?_⟩
  clear T1 T2 T3 T4 T5
  have kd:∀v∈[V.ref k1,.ref k2,.ref k3],∃kk,v=.ref kk/\ac2 H2 kk:=λv hv=>by
   have kw:∀z∈([("chapter" : Str),"para","table"]),kdS z:=λz hz=>by
    rcases List.mem_cons.mp hz with h|hz
    .exact .inl h
    .rcases List.mem_cons.mp hz with h|hz
     .exact .inr (.inl h)
     .exact .inr (.inr (List.mem_singleton.mp hz))
   rcases List.mem_cons.mp hv with rfl|hv
   .exact⟨k1,rfl,_,rfl,λz hz=>kw z (by simp only[aG,cD,or_false] at hz ⊢;rcases hz with h|h|h|h <;> simp[h]),f1⟩
   .rcases List.mem_cons.mp hv with rfl|hv
    .exact⟨k2,rfl,_,rfl,λz hz=>kw z (by simp only[aG,cD,or_false] at hz ⊢;rcases hz with h|h|h|h <;> simp[h]),f2⟩
    .rw[List.mem_singleton.mp hv]
     exact⟨k3,rfl,_,rfl,λz hz=>kw z (by simp only[aG,cD,or_false] at hz ⊢;rcases hz with h|h|h|h <;> simp[h]),f3⟩
  rw[af]
  have jb:8<=(if(if(62:Int)<(ns.length:Int) then(62:Int) else(ns.length:Int)) > 8 then(if(62:Int)<(ns.length:Int) then(62:Int) else(ns.length:Int)) else 8)/\(if(if(62:Int)<(ns.length:Int) then(62:Int) else(ns.length:Int)) > 8 then(if(62:Int)<(ns.length:Int) then(62:Int) else(ns.length:Int)) else 8)<=62:=by
   split <;> split <;> omega
  refine⟨⟨ao3 jb.1 jb.2,by decide,by decide⟩,?_⟩
  have nb:=a47 jb.2
  generalize (bV 2 _ 3).toNat=n at nb ⊢
  refine Bm (a63 2 3 n) (λi σ H'=>(∃v3 v4 v5 v6 v7 v8 v9 v10,σ=[some (.ref a),some (.ref ln),some (.ref lk),v3,v4,v5,v6,v7,v8,v9,v10])/\Same H2 H') ⟨⟨_,_,_,_,_,_,_,_,rfl⟩,Same.refl _⟩ (λ_ _ _ _ _=>be) ?_ ?_
  .rintro i x σ G0 hx ⟨⟨v3,v4,v5,v6,v7,v8,v9,v10,rfl⟩,R0⟩
   obtain⟨kk,hk0,hk1',rfl⟩:∃kk:Nat,0<kk/\kk<100/\x=.int (kk:Int):=by
    unfold Zn at hx
    rw[au] at hx
    obtain⟨j,hj,rfl⟩:=Option.map_eq_some_iff.mp hx
    have:=List.mem_range.mp (aI hj)
    exact⟨2+j*3,by omega,by omega,congrArg V.int (by omega)⟩
   have ha0:=(S2.trans R0).seqL ha
   refine⟨a,ns,1,rfl,ha0,λc2=>⟨⟨by omega,by omega⟩,by decide,?_⟩⟩
   obtain⟨v,hv,ev⟩:=atM (xs:=[V.ref k1,.ref k2,.ref k3]) (c2/(kk:Int)) 3 rfl (by decide)
   obtain⟨ka,rfl,hka⟩:=kd v hv
   refine⟨_,_,.inl (SqL.of (R0 _ _ elk)),ev,?_⟩
   have kdup:∀{G:Hp},Same H2 G->ac2 G ka:=λS=>by
    obtain⟨l,h1,h2,h3⟩:=hka
    exact⟨l,h1,h2,S _ _ h3⟩
   refine⟨a,ns,kk,rfl,ha0,λc3=>λde hde=>.inl ?_⟩
   have T1:=Same.upd (o:=.dK []) hde
   have R1:=R0.trans T1
   refine⟨c3,ln,de,ka,zs,[],rfl,R1 _ _ eln2,zn,z8,z0,z12,⟨[],Ab,rfl⟩,(λz r e=>by cases e),kdup R1,λG1 d5 E S3 _ hE sE=>?_⟩
   have R2:=R1.trans S3
   generalize upd G0 de (.dK [])=G0' at T1 R1 S3
   clear T1 R1 S3
   refine⟨a,ns,kk+1,(by rw[cR];rfl),(S2.trans R2).seqL ha,λc4=>?_⟩
   refine⟨c4,ln,d5,ka,zs,E,rfl,R2 _ _ eln2,zn,z8,z0,z12,hE,sE.gd,kdup R2,λG2 d6 O S4 _ hO sO=>?_⟩
   have R3:=R2.trans S4
   have hE:=hE.up S4
   refine⟨a,ns,kk+2,(by rw[cR];rfl),(S2.trans R3).seqL ha,λc5=>?_⟩
   refine⟨c5,ln,d5,ka,zs,E,rfl,R3 _ _ eln2,zn,z8,z0,z12,hE,sE.gd,kdup R3,λG3 d7 U S5 _ hU sU=>?_⟩
   have R4:=R3.trans S5
   have hE:=hE.up S5
   have hO:=hO.up S5
   refine⟨d5,d6,d7,E,O,U,zs,rfl,hE,hO,hU,sE,sO,sU,zn,z8,λG4 q dd l ys S6 hq hD el pp=>⟨_,.inr (SqL.of hq),rfl,?_⟩⟩
   have R5:=R4.trans S6
   have hE:=hE.up S6
   have hO:=hO.up S6
   have hU:=hU.up S6
   refine⟨d5,d6,d7,dd,l,E,O,U,zs,ys,rfl,hE,hO,hU,hD,sE,sO,sU,zn,z8,el,pp,λG5 S7=>?_⟩
   have R6:=R5.trans S7
   have hE:=hE.up S7
   have hO:=hO.up S7
   have hU:=hU.up S7
   have hD:=hD.up S7
   have pp:PpAt K G5 (K5 E O U) ys:=Aw S7 pp
   have el:=S7 _ _ el
   obtain⟨fs1,fs2⟩:=ax3 (E:=E) sO sU
   refine⟨d5,d7,d6,dd,l,E,U,O,zs,ys,rfl,hE,hU,hO,fs1▸hD,sE,sU,sO,zn,z8,el,fs2▸pp,λG6 S8=>?_⟩
   have R7:=R6.trans S8
   have hD:=hD.up S8
   have T:=ae4 sE sO sU z8
   generalize Ja E O U=F at hD T
   refine .inr (.inr (.inl (Rl hD λo kvs G7 B7 e0 ed g=>?_)))
   have kn:=g.names
   refine Bm (Ss kvs) (λi σ H'=>H'=G7/\∃v4 v10,σ=[some (.ref a),some (.ref ln),some (.ref lk),some (.int (kk:Int)),v4,some (.ref d5),some (.ref d6),some (.ref d7),some (.ref dd),some (.ref l),v10]) ⟨rfl,_,_,rfl⟩ (λi σ H' _ h=>h.1▸ed) ?_ ?_
   .rintro i x σ G8 hx ⟨rfl,v4,v10,rfl⟩
    rw[kn,au] at hx
    obtain⟨z,hz,rfl⟩:=Option.map_eq_some_iff.mp hx
    have hh:=mem_keys.mp (aI hz)
    have rd:RdAt K G8 dd F:=⟨kvs,.inr ⟨o,ed⟩,g⟩
    obtain⟨qz,yz,dgz,hsz,_⟩:=rd.get hh
    refine⟨_,dgz,_,_,.inr hsz,rfl,?_⟩
    refine Bf (c:=(!decide ((Ak F z).pr=""))=true) (λc=>?_) (λc=>⟨rfl,_,_,rfl⟩)
    have c:(Ak F z).pr ≠ "" := by simpa using c
    obtain⟨r,er,kr⟩:=(T.hd z _ (Ax hh)).resolve_left c
    obtain⟨qy,yy,dgy,hsy,_⟩:=rd.get (Bs er)
    rw[Lr er] at hsy
    refine⟨_,dgz,_,_,.inr hsz,rfl,_,dgy,_,_,.inr hsy,rfl,?_⟩
    rw[kr]
    exact⟨rfl,_,_,rfl⟩
   .rintro σ G8 ⟨rfl,v4,v10,rfl⟩
    exact .inr ⟨dd,o,kvs,e0,ed,⟨_,_,_,_,_,_,_,_,rfl⟩,R7.trans (Ql e0 B7 (Same.refl _))⟩
  .rintro σ G0 _
   exact .inl (k _)
end
end K72
namespace K72
open PySem L2
@[elab_as_elim] theorem ag2 {P:List aj->Prop} (h:∀a b c d e,P [a,b,c,d,e]):∀us,us.length=5->P us
 |[a,b,c,d,e],_=>h a b c d e
def bq7:List Df:=[bb4,ab9,aa2,ab1,bb5,aa3,Z5,ab5,ba8,aa6,aa7,ab4,ab2,aa8,ab0,ac1,Z9,aa9,bb3,bb2,ab7,bb0,ba9,bb1,ab8,Z6,ac0,ab6,Z8,Z7,ab3,aa1,aa4,aa0,V2,D_zbh]
def ah6:List Df:=[at8,at9,V4,au2,V5,au3,au7,au8,au0,au4,au9,at7,V0,Yd]
def ah5:List Df:=[au1,Su,Sw,au5]
def ah8:List Df:=[Sv,Su,Sw,V3]
def ah7:List Df:=[Sv,au6,av0,V1]
structure a64 (K:ae) (mg:Str->Option aj) (t:Adr):Prop where
 g:AllG K mg t.f t.d 0 bq7
 o_zbm:av5 K "Plain" t.c_zbm t.f_zaa
 m_zbm:AllM K t.c_zbm t.m_zbm t.e_zbm 0 ah6
 o_zbk:Qr K "Chapter" t.c_zbk
 m_zbk:AllM K t.c_zbk t.m_zbk t.e_zbk 0 ah5
 o_zbo:Qr K "Para" t.c_zbo
 m_zbo:AllM K t.c_zbo t.m_zbo t.e_zbo 0 ah8
 o_zbn:Qr K "Table" t.c_zbn
 m_zbn:AllM K t.c_zbn t.m_zbn t.e_zbn 0 ah7
 i_zaa:av1 K D_zaa t.f_zaa t.d_zaa [] []
 c:AllC mg t.u 0 (cons t.n_zbl t.n_zbi t.n_zbj)
 z:∀x∈bl,mg x=none
 Z:Ao K t
def bf2{P:a7}{w:bL}{K:ae}{mg:Str->Option aj}{h base:Heap}{t:Adr}(X:K.In h)(G:h.Ns bq mg)(A:a64 K mg t):FnOk P w K mg base CX0 13 (t.f 35) (t.d 35) D_zbh.ps (P9 K t):=by
  have Z:=A.Z
  have g:∀(j:Nat) {D:Df},bq7[j]?=some D->DOk K mg D.q D.st (t.f (0+j)) (t.d (0+j)) D.ps:=λj _ e=>(A.g.get j e).1
  have O:Z0 P w K mg base (A1 K t) bl t.f t.d 0 (fns K t):=⟨(bv7 Z).g (g 0 rfl),(bj3 Z).g (g 1 rfl),(bh7 Z).g (g 2 rfl),(bi5 Z).g (g 3 rfl),(bv8 Z).g (g 4 rfl),(bh8 Z).g (g 5 rfl),(bg7 Z).g (g 6 rfl),(bi9 Z).g (g 7 rfl),(bu2 Z).g (g 8 rfl),(bi0 Z).g (g 9 rfl),(bi1 Z).g (g 10 rfl),(bi8 Z).g (g 11 rfl),(bi6 Z).g (g 12 rfl),(bi2 Z).g (g 13 rfl),(bi4 Z).g (g 14 rfl),(bj5 Z).g (g 15 rfl),(bh2 Z).g (g 16 rfl),(bi3 Z).g (g 17 rfl),(bv3 Z).g (g 18 rfl),(bv2 Z).g (g 19 rfl),(bj1 Z).g (g 20 rfl),(bv0 Z).g (g 21 rfl),(bu9 Z).g (g 22 rfl),(bv1 Z).g (g 23 rfl),(bj2 Z).g (g 24 rfl),(bg8 Z).g (g 25 rfl),(bj4 Z).g (g 26 rfl),(bj0 Z).g (g 27 rfl),(bh0 Z).g (g 28 rfl),(bg9 Z).g (g 29 rfl),(bi7 Z).g (g 30 rfl),(bh6 Z).g (g 31 rfl),(bh9 Z).g (g 32 rfl),(bh5 Z).g (g 33 rfl),be⟩
  have E:AllE P w K mg base (A1 K t) bl (A1 K t):=AllE.app ⟨(λT=>⟨⟨(g 34 rfl).m,(g 34 rfl).F.kp,(bh1 Z).g (g 34 rfl) rfl (λm h=>T m (dL h)),cS _,bg4 rfl (g 34 rfl).b,.nil⟩,ag _⟩),(bd0 X G A.o_zbm A.i_zaa (bg5 Z)),(λ_=>Ov X G A.o_zbk),(λ_=>Ov X G A.o_zbo),(λ_=>Ov X G A.o_zbn),(λT mi hm=>by
    simp only[Le,aG,cD,or_false] at hm
    rcases hm with rfl|rfl|rfl
    . exact C4 A.o_zbk.cl (A.m_zbk.get 0 rfl) (a81 Z) (bb rfl) T
    . exact C4 A.o_zbo.cl (A.m_zbo.get 0 rfl) (W7 Z) (bb rfl) T
    . exact C4 A.o_zbn.cl (A.m_zbn.get 0 rfl) (W7 Z) (bb rfl) T
   ),(λT mi hm=>by
    simp only[Jg,aG,cD,or_false] at hm
    rcases hm with rfl|rfl|rfl
    . exact C4 A.o_zbk.cl (A.m_zbk.get 1 rfl) (W6 Z) (bb rfl) T
    . exact C4 A.o_zbo.cl (A.m_zbo.get 1 rfl) (W6 Z) (bb rfl) T
    . exact C4 A.o_zbn.cl (A.m_zbn.get 1 rfl) (a83 Z) (bb rfl) T
   ),(λT mi hm=>by
    simp only[Lg,aG,cD,or_false] at hm
    rcases hm with rfl|rfl|rfl
    . exact C4 A.o_zbk.cl (A.m_zbk.get 2 rfl) (W8 Z) (bb rfl) T
    . exact C4 A.o_zbo.cl (A.m_zbo.get 2 rfl) (W8 Z) (bb rfl) T
    . exact C4 A.o_zbn.cl (A.m_zbn.get 2 rfl) (a84 Z) (bb rfl) T
   ),(λT mi hm=>by
    simp only[Pg,aG,cD,or_false] at hm
    rcases hm with rfl|rfl|rfl
    . exact C4 A.o_zbk.cl (A.m_zbk.get 3 rfl) (a82 Z) (bb rfl) T
    . exact C4 A.o_zbo.cl (A.m_zbo.get 3 rfl) (aj5 Z) (bb rfl) T
    . exact C4 A.o_zbn.cl (A.m_zbn.get 3 rfl) (aj4 Z) (bb rfl) T
   ),(λT mi hm=>by
    rcases List.mem_singleton.mp hm with rfl
    exact⟨C4 A.o_zbm.cl (A.m_zbm.get 13 rfl) (a80 Z) (bb rfl) T,Z.ks_place_key,Z.kt_place_key,by decide +kernel,bb rfl⟩
   ),be⟩ (AllE.app (Qt A.c) (AllE.app (Fj A.o_zbm.cl A.m_zbm ⟨bu3 Z,bu4 Z,bh3 Z,bu6 Z,bh4 Z,bu7 Z,bv4 Z,bv5 Z,bu5 Z,bu8 Z,bv6 Z,bu1 Z,bg6 Z,a80 Z,be⟩) (AllE.app (Fj A.o_zbk.cl A.m_zbk ⟨a81 Z,W6 Z,W8 Z,a82 Z,be⟩) (AllE.app (Fj A.o_zbo.cl A.m_zbo ⟨W7 Z,W6 Z,W8 Z,aj5 Z,be⟩) (AllE.app (Fj A.o_zbn.cl A.m_zbn ⟨W7 Z,a83 Z,a84 Z,aj4 Z,be⟩) (V8 (AllG.pre (b:=[V2,D_zbh]) A.g) O))))))
  exact bj6 Z _ _ _ _ _ (g 35 rfl).F λm _=>a60 A.z E m
def all_mk{l:PySem.W.OpenLaw}{w:bL}{K:ae}{h:Heap}{mg:Str->Option aj}{fa c_zbm c_zbk c_zbo c_zbn f_zaa f_pk:Addr}{n_zbl n_zbi n_zbj:Nat}(X:K.In h)(G:h.Ns bq mg)(hfa:mg "law"=some (.ref fa))(o_zbm:av5 K "Plain" c_zbm f_zaa)(o_zbk:Qr K "Chapter" c_zbk)(o_zbo:Qr K "Para" c_zbo)(o_zbn:Qr K "Table" c_zbn)(i_zaa:∃d,av1 K D_zaa f_zaa d [] [])(na_zbm:bA K (.ref c_zbm) "records"=some none)(a_pk:bA K (.ref c_zbm) "place_key"=some (some (.ref f_pk)))(s_pk:eJ K (.ref f_pk) "__get__"=some (some (.builtin "function.__get__")))(t_pk:fH K (.ref f_pk)=some false)(q_zbl:cg K bq "STROKE"=some (some (.str "\\" n_zbl)))(q_zbi:cg K bq "CELL_SIGN"=some (some (.str "|" n_zbi)))(q_zbj:cg K bq "ROW_SIGN"=some (some (.str "/" n_zbj)))(p_zbl:0<n_zbl)(p_zbi:0<n_zbi)(p_zbj:0<n_zbj)(qT:ba4 K bq7)(qM_zbm:Ni K c_zbm ah6)(qM_zbk:Ni K c_zbk ah5)(qM_zbo:Ni K c_zbo ah8)(qM_zbn:Ni K c_zbn ah7)(qC:Z2 K (cons n_zbl n_zbi n_zbj))(qZ:ba5 K bl)
  : ∃(t:Adr)(fd:bw),(∀(s:aq)(v:aj),kI s fd ⟨[v],[]⟩ [("_law_script", v)])/\∀base:Heap,K.In base->base.Ns bq mg->FnOk l.prog w K mg base CX0 13 fa fd ["_law_script"] (P9 K t):=by
 obtain⟨_,_,d₀,_⟩:=qT.1
 obtain⟨f,d,g⟩:=V9 d₀ X G 0 qT (by(repeat' first|exact be|refine⟨⟨rfl,λ_ _ _ _ _ _ us hl=>?_⟩,?_⟩|fail) <;> first|exact be|exact len1 (λ_=>rfl) us hl|exact af9 (λ_ _=>rfl) us hl|exact ag0 (λ_ _ _=>rfl) us hl|exact ag1 (λ_ _ _ _=>rfl) us hl|exact ag2 (λ_ _ _ _ _=>rfl) us hl|exact ag3 (λ_ _ _ _ _ _=>rfl) us hl)
 obtain⟨m_zbm,e_zbm,g_zbm⟩:=Hj d₀ 0 qM_zbm (by(repeat' first|exact be|refine⟨λ_ _ _ _ _ _ us hl=>?_,?_⟩|fail) <;> first|exact be|exact len1 (λ_=>rfl) us hl|exact af9 (λ_ _=>rfl) us hl|exact ag0 (λ_ _ _=>rfl) us hl|exact ag1 (λ_ _ _ _=>rfl) us hl|exact ag2 (λ_ _ _ _ _=>rfl) us hl|exact ag3 (λ_ _ _ _ _ _=>rfl) us hl)
 obtain⟨m_zbk,e_zbk,g_zbk⟩:=Hj d₀ 0 qM_zbk (by(repeat' first|exact be|refine⟨λ_ _ _ _ _ _ us hl=>?_,?_⟩|fail) <;> first|exact be|exact len1 (λ_=>rfl) us hl|exact af9 (λ_ _=>rfl) us hl|exact ag0 (λ_ _ _=>rfl) us hl|exact ag1 (λ_ _ _ _=>rfl) us hl|exact ag2 (λ_ _ _ _ _=>rfl) us hl|exact ag3 (λ_ _ _ _ _ _=>rfl) us hl)
 obtain⟨m_zbo,e_zbo,g_zbo⟩:=Hj d₀ 0 qM_zbo (by(repeat' first|exact be|refine⟨λ_ _ _ _ _ _ us hl=>?_,?_⟩|fail) <;> first|exact be|exact len1 (λ_=>rfl) us hl|exact af9 (λ_ _=>rfl) us hl|exact ag0 (λ_ _ _=>rfl) us hl|exact ag1 (λ_ _ _ _=>rfl) us hl|exact ag2 (λ_ _ _ _ _=>rfl) us hl|exact ag3 (λ_ _ _ _ _ _=>rfl) us hl)
 obtain⟨m_zbn,e_zbn,g_zbn⟩:=Hj d₀ 0 qM_zbn (by(repeat' first|exact be|refine⟨λ_ _ _ _ _ _ us hl=>?_,?_⟩|fail) <;> first|exact be|exact len1 (λ_=>rfl) us hl|exact af9 (λ_ _=>rfl) us hl|exact ag0 (λ_ _ _=>rfl) us hl|exact ag1 (λ_ _ _ _=>rfl) us hl|exact ag2 (λ_ _ _ _ _=>rfl) us hl|exact ag3 (λ_ _ _ _ _ _=>rfl) us hl)
 obtain⟨u,gc⟩:=V7 X G 0 qC
 obtain⟨d_zaa,i_zaa⟩:=i_zaa
 have AO:a64 K mg ⟨f,d,u,n_zbl,n_zbi,n_zbj,f_zaa,d_zaa,c_zbm,m_zbm,e_zbm,c_zbk,m_zbk,e_zbk,c_zbo,m_zbo,e_zbo,c_zbn,m_zbn,e_zbn⟩:=⟨g,o_zbm,g_zbm,o_zbk,g_zbk,o_zbo,g_zbo,o_zbn,g_zbn,i_zaa,gc,Wa X G qZ,⟨o_zbm.cl,na_zbm,(by
  have m:some (some (dE (m_zbm (0+13))))=some (some (.ref f_pk)):=(g_zbm.get 13 (D:=Yd) rfl).2.at_.symm.trans a_pk
  injection m with m
  injection m with m
  show eJ K (.ref (m_zbm (0+13))) "__get__"=_
  rw[m]
  exact s_pk),(by
  have m:some (some (dE (m_zbm (0+13))))=some (some (.ref f_pk)):=(g_zbm.get 13 (D:=Yd) rfl).2.at_.symm.trans a_pk
  injection m with m
  injection m with m
  show fH K (.ref (m_zbm (0+13)))=_
  rw[m]
  exact t_pk),⟨q_zbl,p_zbl⟩,⟨q_zbi,p_zbi⟩,⟨q_zbj,p_zbj⟩⟩⟩
 have gl:=g.get 35 (D:=D_zbh) rfl
 have e:fa=f (0+35):=by
  have m:=gl.1.m
  rw[hfa] at m
  injection m with m
  injection m
 subst e
 exact⟨_,_,λs v=>gl.2 s [v] rfl,λbase _ _=>bf2 X G AO⟩
def sp0(K:ae):Sp:=λvs H Q _=>∃(a:Addr)(ns:List Int),vs=[.ref a]/\SqL K H a (ns.map V.int)/\ns.length<=63/\∀H',Q (.bl true) H'
def mkF{P:a7}{w:bL}{K:ae}{mg:Str->Option aj}{fa:Addr}(F:∃(t:Adr)(fd:bw),(∀(s:aq)(v:aj),kI s fd ⟨[v],[]⟩ [("_law_script", v)])/\∀base:Heap,K.In base->base.Ns bq mg->FnOk P w K mg base CX0 13 fa fd ["_law_script"] (P9 K t)) :
  ∃fd:bw,(∀(s:aq)(u:aj),kI s fd ⟨[u],[]⟩ [("_law_script", u)])/\∀base:Heap,K.In base->base.Ns bq mg->FnOk P w K mg base CX0 13 fa fd ["_law_script"] (sp0 K):=
 let⟨t,fd,h1,h2⟩:=F;⟨fd,h1,λbase x y=>(h2 base x y).imp λvs H Q E z=>z⟩
end K72
end
open PySem.W.X PySem.W.ZRun in
set_option maxRecDepth 100000 in
theorem PySem.Challenge.cw_manyleaf_k72_whole_plain_books_laid_toge_holds : PySem.Challenge.rw_manyleaf_k72_whole_plain_books_laid_toge.Holds := by
 w_on;o_law;z_head;(case hw=>w_witness2)
 k_fill
 intro w s₀ s₁ mg mb G y fa o pm cd doc dV kV ho hd hcd hD hmg hg args vals as L hpre hlay hrd hwl hlo
 z_open y L KX ZH ZN ZT
 refine Att.walk_z (l:=PySem.Challenge.rw_manyleaf_k72_whole_plain_books_laid_toge) (n:=63) (k:=13) (x := "_law_script") (CX:=L2.CX0) (sp:=K72.sp0) rfl (by decide) rfl ⟨rfl,by decide,by decide⟩ G KX hD hmg hg L hpre hwl ZT ?tk ?F ?hsp ?hCX
 case hsp=>exact λH a ns hl _ hS=>⟨a,ns,rfl,hS,hl,λ_=>rfl⟩
 case hCX=>exact λ_ _ _ _ z=>z
 case tk=>
  refine' Att.tok_mk ?l ?e
  (case l=>k_is)
  (case e=>kernel_rfl)
 case F=>
  refine K72.mkF ?_
  refine' K72.all_mk (l:=PySem.Challenge.rw_manyleaf_k72_whole_plain_books_laid_toge) KX G.T.g hmg ?o_zbm ?o_zbk ?o_zbo ?o_zbn ?i_zaa ?na_zbm ?a_pk ?s_pk ?t_pk ?q_zbl ?q_zbi ?q_zbj ?p_zbl ?p_zbi ?p_zbj ?qT ?qM_zbm ?qM_zbk ?qM_zbo ?qM_zbn ?qC ?qZ
  case o_zbm=>refine' L2.own_mk ?_ ?_ ?_ ?_ ?_ ?_ ?_ ?_ <;> try k_is
  case o_zbk|o_zbo|o_zbn=>refine' L2.ownz_mk ?_ ?_ ?_ ?_ ?_ ?_ ?_ ?_ <;> try k_is
  case i_zaa=>refine' L2.ini0 (λ_ _ _ _ _ _ us hl=>L2.len1 (λ_=>rfl) us hl) ?_ ?_ ?_ ?_ <;> try k_is
  case na_zbm|a_pk|s_pk|t_pk|q_zbl|q_zbi|q_zbj=>k_is
  case p_zbl|p_zbi|p_zbj=>decide
  case qT=>(repeat' first|exact True.intro|refine' ⟨⟨_,L2.top_mk ?_ ?_ ?_ ?_⟩,?_⟩|fail) <;> try k_is
  case qM_zbm|qM_zbk|qM_zbo|qM_zbn=>(repeat' first|exact True.intro|refine' ⟨⟨_,?_,L2.met_mk ?_ ?_ ?_ ?_⟩,?_⟩|fail) <;> try k_is
  case qC=>(repeat' first|exact True.intro|refine' ⟨L2.con_mk ?_ ?_,?_⟩|fail) <;> first|k_is|exact⟨_,rfl⟩|exact⟨_,rfl,rfl⟩|exact rfl|skip
  case qZ=>(repeat' first|exact True.intro|refine' ⟨?_,?_⟩|fail) <;> try k_is
#print axioms PySem.Challenge.cw_manyleaf_k72_whole_plain_books_laid_toge_holds
