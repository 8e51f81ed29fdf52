import PyProof.Rows.All
import Wide.All
import OpenK.AllK
import Wide.FinOn
import PyProof.ToksMono
import Lean
import PyProof.EqAt
import PyProof.EqKinds
import PyProof.TupleCall
import PyProof.NeKinds
import PyProof.ZipIter
import PyProof.StrWalks
import PyProof.ConsumeWalk
import PyProof.ExcArgs
import PyProof.ExcBaseAll.ValueError
import KE.KIsAll
import PyProof.EnumFor
import PyProof.EnumMake
import PyProof.EnumStmt
import PyProof.Rows.EnumRows
import PyProof.DictWalks
import PyProof.Draws
import PyProof.Rows.SetFrom
import PyProof.DictItems
import KE.KDictList
import PyProof.TupleIter
import PyProof.RulesRaise
import PyProof.RulesTry
import PyProof.MeetsIn
import KE.KEqDict
import PyProof.StrOps2
import PyProof.StrCalls6
import PyProof.ListMulRoad
import PyProof.FactsAll.tuple
import KE.KDictOf
import KE.KSortTup
import KE.KSortKey
import PyProof.Rows.Range3
import PyProof.Rows.ChunkLeaf
import KE.KRevIter
import PyProof.StationsW
import PyProof.PassesOwn
import PyProof.NsDelKeeps
import KE.KLam
import KE.KNestM
import PySem.Challenge.RW_manyleaf_k32_places_and_contents
set_option Elab.async false
set_option linter.all false
set_option compiler.extract_closed false
set_option bootstrap.genMatcherCode false
set_option maxRecDepth 100000
set_option maxHeartbeats 0
section
open PySem PySem.W PyProof.Rows
namespace PySem.W.Fast
def tw10092149823504431661:=()
def tw10234483009043992472:=()
def tw10334463075210206690:=()
def tw10389949833052077375:=()
def tw10477860208793101166:=()
def tw10529450049210380935:=()
def tw11010349768180976119:=()
def tw11134383411186206983:=()
def tw11380344534501460553:=()
def tw11490410150654044944:=()
def tw1156610267726948083:=()
def tw11694438395731154235:=()
def tw11803593703829850762:=()
def tw11850203908669472852:=()
def tw1194587088465262537:=()
def tw1218435687961084887:=()
def tw12378689839272029991:=()
def tw1242623267047646647:=()
def tw12442549820056287541:=()
def tw1251942350444113403:=()
def tw1254105105500165624:=()
def tw12796241004395266866:=()
def tw13160483811965822327:=()
def tw1350937340876026146:=()
def tw1356597827488871709:=()
def tw14000141511262910338:=()
def tw14030774498000545566:=()
def tw14031369221596082039:=()
def tw14288142049263734538:=()
def tw14321954675702074557:=()
def tw14462777582030267881:=()
def tw14693682995341644221:=()
def tw1471079165942013097:=()
def tw14892729470418630565:=()
def tw15085485636117628501:=()
def tw15105912953251552316:=()
def tw15198924804361298261:=()
def tw15210055734162899192:=()
def tw15236431468460103406:=()
def tw15388149686596755303:=()
def tw1550428156789693452:=()
def tw15545396441812790738:=()
def tw15651620717649209399:=()
def tw15674497037272361436:=()
def tw15767799729131562658:=()
def tw16376832299566106954:=()
def tw16428616681586066414:=()
def tw16666876022290015670:=()
def tw16728192705602349437:=()
def tw16796572936278555191:=()
def tw16854545533458431465:=()
def tw17247804546149835368:=()
def tw17275661420462287469:=()
def tw17461782946806504640:=()
def tw17571193961064381271:=()
def tw17679099255792028208:=()
def tw17719281748541828576:=()
def tw17971619559996082259:=()
def tw18073032518307708080:=()
def tw18085770370467813924:=()
def tw18180318026403365630:=()
def tw18346597341438551670:=()
def tw1850453958462411927:=()
def tw2092860372243896896:=()
def tw2360142037854526992:=()
def tw2433887504347159268:=()
def tw2455847703505105558:=()
def tw2529055559107537460:=()
def tw2734462055874169826:=()
def tw292019627546386251:=()
def tw2920338654226136045:=()
def tw29437220163156829:=()
def tw3169967794592308749:=()
def tw3398179022932110879:=()
def tw3443048965388781739:=()
def tw3544083234232442529:=()
def tw3553658846991126149:=()
def tw3724788895367888892:=()
def tw3864755104122356970:=()
def tw4264785346320598670:=()
def tw4675124836221504397:=()
def tw4727326234979136161:=()
def tw4867904883479471534:=()
def tw5145942328725303137:=()
def tw5162236956927569680:=()
def tw5255736275618260692:=()
def tw5538654529406435194:=()
def tw5695170817349827136:=()
def tw5762625073996137814:=()
def tw5778868058867535138:=()
def tw5834832268045235819:=()
def tw5912346847299839392:=()
def tw6412103695683712871:=()
def tw6464829389719486277:=()
def tw6555074575480721553:=()
def tw7094915339702569422:=()
def tw7320352555068712121:=()
def tw7583593585381128401:=()
def tw7811526231529784791:=()
def tw8359521810351137187:=()
def tw8524611972991491104:=()
def tw853964605397628655:=()
def tw8563468340998197129:=()
def tw8570368231527044513:=()
def tw8683935799769556507:=()
def tw8841665942012557279:=()
def tw892096512953843457:=()
def tw8988856185381373810:=()
def tw90452612369248685:=()
def tw9117483698575869170:=()
def tw9472388572039790273:=()
def tw9540203753466646768:=()
def tw9573221083735546053:=()
def tw971166634271769390:=()
def tw9769210374159056064:=()
def tw9827384786343130748:=()
def tw4327409191378836459:=()
def tw12280562487447600575:=()
def tw2579255752861873446:=()
def tw4400255265318719922:=()
def tw8422233120327348444:=()
def tw17634136560222990250:=()
def tw4446518648173942309:=()
def tw16422861709578707918:=()
def tw17154017586552748804:=()
def tw2899782298276223107:=()
def tw4468264355518742227:=()
def tw2269906375535250388:=()
def tw11087315450158389679:=()
def tw17504605349740356011:=()
def tw816538965557870079:=()
def tw9939924453526684373:=()
def tw6236919301945910505:=()
def tw6394653275828728676:=()
def tw8120723113015015222:=()
def tw5686550349618326913:=()
def tw3983265019003541149:=()
def tw16880751428751073060:=()
def tw10312505950199745101:=()
def tw4617354771899481842:=()
def tw14487748483431011074:=()
def tw2804833310653606250:=()
def tw10444625017752881301:=()
def tw8600897716992179061:=()
def tw3205214595801341527:=()
def tw5562673106900205440:=()
def tw8030101079605092272:=()
def tw3389835372175446991:=()
def tw3794404993888036372:=()
def tw8393072922809614148:=()
def tw14910761385926903856:=()
def tw18144246088462191680:=()
def tw227279779012200214:=()
def tw10358805837396581681:=()
def tw1764271087111042054:=()
def tw3875603960796307381:=()
def tw17128634061716474210:=()
def tw15247716351719901467:=()
def tw3995691499599843147:=()
def tw6937926713800116126:=()
def tw2274831684995392669:=()
def tw12314938718190143442:=()
def tw1031518557542359392:=()
def tw11296149820096248381:=()
def tw14895334564543458337:=()
def tw7918609685039939449:=()
def tw10668170436785148751:=()
def tw5225018690191186643:=()
def tw14647716376935425681:=()
def tw5698601935004298472:=()
def tw10399658952128282982:=()
def tw16863301801917572248:=()
def tw1014948341267062112:=()
def tw8337432141283329523:=()
def tw2935105836905422409:=()
def tw1574576922794808946:=()
def tw10390769949269814123:=()
def tw11492339699504084789:=()
def tw2253073708422301931:=()
def tw11540744757256073:=()
def tw1083437051911983740:=()
def tw3357905452474295216:=()
def tw2523730945263791700:=()
def tw18156314031851704886:=()
def tw13931539856140168960:=()
def tw12140971259483672504:=()
def tw8239863193057634562:=()
def tw12542588356179085781:=()
def tw4796828568132085045:=()
def tw12089065742217571882:=()
def tw6629506700029724328:=()
def tw5361057531075511678:=()
def tw897331565116877911:=()
def tw9036991035964582884:=()
def tw8029341509326411850:=()
def tw10380846549122651802:=()
def tw16422725067475557895:=()
def tw2354191659953560768:=()
def tw14228108165555986537:=()
def tw17546703017766370106:=()
def tw10161012927720175906:=()
def tw960908389725360776:=()
def tw21286975903806932:=()
def tw8638356071026192059:=()
def tw1406108721558504141:=()
def tw15537516699530067060:=()
def tw9800082029353205712:=()
def tw132034998853140382:=()
def tw75130349899293649:=()
def tw13302281187642855103:=()
def tw10146892055760729195:=()
def tw4335810065162530572:=()
def tw10724598631865805828:=()
def tw18261190240938327897:=()
def tw7631285623597925548:=()
def tw5823967704460537941:=()
def tw9748564263956515061:=()
def tw824353436167579996:=()
def tw334412458183682851:=()
def tw1049087739020151236:=()
def tw1585489004654297330:=()
def tw7856173603915082235:=()
def tw13353131520579020328:=()
def tw6614073050471367096:=()
def tw12265560240360707906:=()
def tw4584694705416284883:=()
def tw17630946658719311475:=()
def tw1368131690425329300:=()
def tw7119046601106022517:=()
def tw4356700066328415424:=()
def tw9500099840102410734:=()
def tw8287695431593048661:=()
def tw16095394536304199412:=()
def tw18056789463982649602:=()
def tw10541997643917616367:=()
def tw14422589047675376837:=()
def tw15946624213275219625:=()
def tw1554474963530742237:=()
def tw16175094924709238254:=()
def tw11994517084765310213:=()
def tw13970698504840063311:=()
def tw6243028095494274850:=()
def tw2942543519478908385:=()
def tw8820339138153050979:=()
def tw15827738231589200850:=()
def tw9620678375466954607:=()
def tw16212308861805561116:=()
def tw10161845484158684155:=()
def tw10994709156241799796:=()
def tw11539507506047471142:=()
def tw17170153050198708662:=()
def tw2743645363077732413:=()
def tw5454646785372405280:=()
def tw493233020225862107:=()
def tw10434980291544781097:=()
def tw13439073675000294693:=()
def tw18361083745607588013:=()
def tw3472338045950935344:=()
def tw16193492024714167420:=()
def tw14043309463594066180:=()
def tw2444561324679485220:=()
def tw14224860435759488272:=()
def tw3232214850674039929:=()
def tw2635921320373262866:=()
def tw3863219082965762323:=()
def tw12586586628354086439:=()
def tw15347146463827762419:=()
def tw12490957926105609076:=()
def tw8888268036119804280:=()
def tw3865122987242886010:=()
def tw14983973223477546165:=()
def tw6541045298399609749:=()
def tw5587877486872255819:=()
def tw16360899681031118531:=()
def tw10024053040567922522:=()
def tw9396323285529774034:=()
def tw17280806320991872109:=()
def tw5654289399314652725:=()
def tw7430849319125241410:=()
def tw978952993158070460:=()
def tw15074659479220322044:=()
def tw18341554743133847349:=()
def tw11929469850933649037:=()
def tw2473663030329281595:=()
def tw9797433015619095610:=()
def tw16614033693476538665:=()
def tw8839943173853821463:=()
def tw3778255823659003587:=()
def tw325690706166535720:=()
def tw5053618425990331784:=()
def tw2947458039307977113:=()
def tw13654428763289283797:=()
def tw1026876383840569026:=()
def tw1112974324373428310:=()
def tw17234709456894277698:=()
def tw9742405514634627107:=()
def tw7678923523189149380:=()
def tw8057134207357663729:=()
def tw17501643121427616200:=()
def tw4202326550604133669:=()
def tw7717198760785983481:=()
def tw13557197703463363200:=()
def tw7371294253018005604:=()
def tw16780569027728789209:=()
def tw10773120515876188144:=()
def tw7085199934931433401:=()
def tw13231753817204737805:=()
def tw4263923499265564251:=()
def tw15363546798619487542:=()
def tw483807398624494532:=()
def tw5910860908184857197:=()
def tw5892165177798157111:=()
def tw12366750930990785684:=()
def tw17191650206248799237:=()
def tw18345269733519898135:=()
def tw4060049588411666704:=()
def tw6366710113108832429:=()
def tw6753189239855819061:=()
def tw8904279459732734931:=()
def tw4595285939126680866:=()
def tw11031599840592855412:=()
def tw13158373744284028975:=()
def tw9415746447145434453:=()
def tw14001724603309569703:=()
def tw12704638848511017203:=()
def tw2702130868245980287:=()
def tw12096169685032479596:=()
def tw1666634408585218174:=()
def tw18085702340460986593:=()
def tw10943985623670866158:=()
def tw11493018462163432907:=()
def tw5580268740227199504:=()
def tw1704232654946134615:=()
def tw126010174189214938:=()
def tw7246729851550070993:=()
def tw9990408027286630275:=()
def tw12385927386947889941:=()
def tw17751884814991351030:=()
def tw3335873525497397386:=()
def tw4516988593057862718:=()
def tw1066029941568459259:=()
def tw11773402315285358382:=()
def tw822968973924373092:=()
def tw10184892185287767410:=()
def tw4491652327806763636:=()
def tw16108991138728085252:=()
def tw6253859983341525353:=()
def tw9269779662910138875:=()
def tw18276968176722142423:=()
def tw15513999754072752272:=()
def tw13272757894097658957:=()
def tw3835420556260399728:=()
def tw12685028397630945339:=()
def tw15809146118570411741:=()
def tw18333528133093980708:=()
def tw13289756685932396854:=()
def tw9845633048522709789:=()
def tw14511677302777409183:=()
def tw5928744762300602517:=()
def tw14883367146251187016:=()
def tw8950947083055177059:=()
def tw1872596620189758038:=()
def tw9242244597689982411:=()
def tw8136688966228438430:=()
def tw15449654895677519717:=()
def tw17255964794088414287:=()
def tw6829811882569599622:=()
def tw12763702494080230653:=()
def tw17927483239145556597:=()
def tw13186108283496336077:=()
def tw14987287537485181182:=()
def tw6091873861309326139:=()
def tw16884256044768230897:=()
def tw15639407056045416987:=()
def tw1534497478752820113:=()
def tw3472077047799125326:=()
def tw7159900566921119403:=()
def tw11516173924019356157:=()
def tw6995344743758764895:=()
def tw15695392857253619162:=()
def tw8316852663573874229:=()
def tw2051674370190030497:=()
def tw1698695841298346586:=()
def tw1354785084310066549:=()
def tw6652778827759751546:=()
def tw11384548371994053589:=()
def tw1472330451026697223:=()
def tw12356880619689168119:=()
def tw2838997608915674709:=()
def tw5060573429935136832:=()
def tw5971566567829043064:=()
def tw4087994020120568090:=()
def tw664081160331969823:=()
def tw15579263421012837879:=()
def tw15824305800948136442:=()
def tw15942575266247881896:=()
def tw8453884421200238449:=()
def tw2305752089479300302:=()
def tw11918791580248323290:=()
def tw14999043573273683902:=()
def tw751226522819548517:=()
def tw16073290583861271645:=()
def tw7508841825256552457:=()
def tw2522370897056551200:=()
def tw2909046153196423815:=()
def tw3565146439593315658:=()
def tw17246909522770341171:=()
def tw4206049594542413656:=()
def tw3516334341414094459:=()
def tw4396086678562454468:=()
def tw15852348376806751403:=()
def tw3168727892026789106:=()
def tw2503595862884123491:=()
def tw13695652810413689823:=()
def tw12061169814004378453:=()
def tw6186268165856152065:=()
def tw953077904209028292:=()
def tw4118749639104365013:=()
def tw4456187448371889651:=()
def tw15862817711150561575:=()
def tw14030909581130745524:=()
def tw10810344266446049313:=()
def tw15420874296955318375:=()
def tw10572957376439926650:=()
def tw11648032421397636414:=()
def tw3649267790752310236:=()
def tw1132096162037952874:=()
def tw6009354503996047693:=()
def tw7675699794883569917:=()
def tw17946254735046532355:=()
def tw8027283291072014930:=()
def tw8255089104582470311:=()
def tw16667200608245616068:=()
def tw13108016392575743707:=()
def tw3633490221952375502:=()
def tw3784122971903778462:=()
def tw17626115565215617547:=()
def tw2855379661593562746:=()
def tw6250253598747091532:=()
def tw10578165181322477500:=()
def tw2606454309167004344:=()
def tw16923664838925541216:=()
def tw3433928246141018059:=()
def tw1127885367140416659:=()
def tw9377460552951882185:=()
def tw3201995509728758811:=()
def tw11843809949019814393:=()
def tw15960988485983956383:=()
def tw16967843506933668654:=()
def tw4671067307162064381:=()
def tw2103173104284196928:=()
def tw12175350817094384110:=()
def tw6178671360996402029:=()
def tw6780237911119212852:=()
def tw17581139837222434534:=()
def tw4401862280251738118:=()
def tw3104890444052451168:=()
def tw17729979039957699604:=()
def tw13632407997715574320:=()
def tw7249054521114046604:=()
def tw6528050098650478864:=()
def tw399481241484645481:=()
def tw15615032714942008833:=()
def tw8699055822663572375:=()
def tw18080872645802604728:=()
def tw16068000082997074036:=()
def tw5415575417346083276:=()
def tw7821145646140663896:=()
def tw3142866509223893328:=()
def tw15604652217377534482:=()
def tw1233112144628966391:=()
def tw2373897454792449539:=()
def tw12903044443450583459:=()
def tw14727179014819827897:=()
def tw1215490001865383808:=()
def tw14978160850941325151:=()
def tw10046240919397324514:=()
def tw14152833608057369787:=()
def tw17784873536877188032:=()
def tw14194294444265406797:=()
def tw14309853107100456637:=()
def tw1689705169261589920:=()
def tw11774213262858386185:=()
def tw18120609902970059788:=()
def tw5070044711064567170:=()
def tw4666146085684077744:=()
def tw2996913383776877959:=()
def tw7415829067505876001:=()
def tw7701903968755919225:=()
def tw414576716069529251:=()
def tw15251312742497781628:=()
def tw9684935747749108300:=()
def tw4750199378502422350:=()
def tw4620570455137738467:=()
def tw13719819601971068695:=()
def tw350518039954015094:=()
def tw7920426417314384781:=()
def tw6523772319301360254:=()
def tw15823674702599011304:=()
def tw5379555439477532575:=()
def tw17539066054008258568:=()
def tw7108014165604159096:=()
def tw279014759430484976:=()
def tw7676217659068482180:=()
def tw8026694427426045736:=()
def tw2956299695533787677:=()
def tw16608861172989753787:=()
def tw16674519195304746985:=()
def tw16190815944256252434:=()
def tw17896159662593369724:=()
def tw13603350969874757783:=()
def tw16968715138484336747:=()
def tw9358034998125869127:=()
def tw17739597060275821242:=()
def tw7853697108914594798:=()
def tw2376107588090405267:=()
def tw4226742931552531419:=()
def tw12892309004342745257:=()
def tw16865157450368969677:=()
def tw15057649116425480942:=()
def tw17394343384371495842:=()
def tw2981030711734054883:=()
def tw15285541997730274723:=()
def tw12805063233599360205:=()
def tw16786873664429427616:=()
def tw9632375436706542080:=()
def tw11917270549953527994:=()
def tw1728552125477297874:=()
def tw11558216272835422735:=()
def tw5812709084974003123:=()
def tw3415569614953165658:=()
def tw8097993345378852250:=()
def tw7030016049917590078:=()
def tw15293675617230846978:=()
def tw15514679359151536298:=()
def tw7654606630705625488:=()
def tw4712816491203389026:=()
def tw4746240530708462881:=()
def tw13155707387318939116:=()
def tw14952709514130656947:=()
def tw3673356979283705983:=()
def tw15954672034548148690:=()
def tw4903982502853289829:=()
def tw18285016383258295335:=()
def tw6870414035132276954:=()
def tw6374515291429506890:=()
def tw4789113410036638381:=()
def tw318281260673781664:=()
def tw3818253022005880261:=()
def tw9251182670857297259:=()
def tw17713707825443164988:=()
def tw7836042336020517276:=()
def tw3010665221738848179:=()
def tw13168243112854813046:=()
def tw12558755404940851392:=()
def tw8421957530528726118:=()
def tw14445768461052238145:=()
def tw6794135181937333771:=()
def tw1831036161146355043:=()
def tw9726253059962505655:=()
def tw5623392714088818104:=()
def tw10019772782757310427:=()
def tw15267368729217510453:=()
def tw16935070898170419373:=()
def tw16249647803828085837:=()
def tw5105718081907425191:=()
def tw10425445008637608915:=()
def tw13997719570770096763:=()
def tw4873497678753716707:=()
def tw12728990701724554356:=()
def tw5699558843585376358:=()
def tw13305606996140939100:=()
def tw3787855660464469831:=()
def tw7701488958412204186:=()
def tw1125028579459283606:=()
def tw2411761281623011337:=()
def tw17368393046592813121:=()
def tw6169702115402672936:=()
def tw605277134878773807:=()
def tw13230020425407355048:=()
def tw4363426117934007165:=()
def tw10428882298485900052:=()
def tw8553525756470889258:=()
def tw15366630629518565675:=()
def tw3696601951575779826:=()
def tw3456685105846394193:=()
def tw15083401625698721810:=()
def tw3199236183793044130:=()
def tw13392262694560972597:=()
def tw18094717281811871939:=()
def tw749083130269353891:=()
def tw5601760376797022984:=()
def tw13183232146805582458:=()
def tw15813575675560801338:=()
def tw16411100929855850707:=()
def tw175881349635362491:=()
def tw13886528499122916190:=()
def tw6198018890700259445:=()
def tw17795562561823319049:=()
def tw13147644541909900078:=()
def tw17044100065864419829:=()
def tw11447533431051323021:=()
def tw5686001590550701653:=()
def tw16564354150041293794:=()
def tw8875024461635844207:=()
def tw2871118951185307237:=()
def tw8081768933520299773:=()
def tw16659801636713983950:=()
def tw14082234012056903717:=()
def tw16502235672297766675:=()
def tw1109702314068656783:=()
def tw15090419610928819868:=()
def tw15132050277232604649:=()
def tw12170641877553177119:=()
def tw12447567598154649014:=()
def tw7879799688720113252:=()
def tw7859329862446055777:=()
def tw9340985086680629604:=()
def tw8481406045109567891:=()
def tw9007837824876594467:=()
def tw7803680142437229691:=()
def tw18122527758361760321:=()
def tw12205934364282829451:=()
def tw7142261501947841956:=()
def tw14953084225762196494:=()
def tw9381394864607202446:=()
def tw11832976466456131276:=()
def tw1695579981935388298:=()
def tw6553549761792415393:=()
def tw6686058936722052967:=()
def tw8183216987621519584:=()
def tw10189810811610452872:=()
def tw14933079215436832926:=()
def tw5961779143163946211:=()
def tw3403432777943783726:=()
def tw2078521315171703811:=()
def tw1948033468656479998:=()
def tw3447917068512185876:=()
def tw9766000313301631075:=()
def tw11131583884978872678:=()
def tw9881264097789139712:=()
def tw13864949832330360518:=()
def tw6968643095802612781:=()
def tw17244698023338181710:=()
def tw17332602887626237224:=()
def tw3546989450936945547:=()
def tw16095597044452583371:=()
def tw17669006577771128574:=()
def tw5429902477962644268:=()
def tw11858626729558940055:=()
def tw8840486677802281517:=()
def tw5718491841216103870:=()
def tw16049413951903825823:=()
def tw10219881381527887276:=()
def tw7967362914254609247:=()
def tw17264103668253752345:=()
def tw15581002147521469551:=()
def tw8343190178820782759:=()
def tw13096178207583997066:=()
def tw3074831575917237106:=()
def tw10367001842065019578:=()
def tw8138530946449364174:=()
def tw9166460073468568386:=()
def tw8356433937745000181:=()
def tw5418769224307478229:=()
def tw15917568058319014064:=()
def tw1312381887448236206:=()
def tw7231171968060570142:=()
def tw11122569229180839782:=()
def tw12459292160157397168:=()
def tw1755054706484350592:=()
def tw4607096577050999067:=()
def tw2058012031150242697:=()
def tw7836623994170356089:=()
def tw10238366952890243928:=()
def tw15203327670659589448:=()
def tw3413459577105268061:=()
def tw10798575491822417884:=()
def tw7478973707727976838:=()
def tw14296990598807177611:=()
def tw10426703058620082412:=()
def tw6745822194957312821:=()
def tw15719070326816341449:=()
def tw11407153432617882596:=()
def tw4330665641160250373:=()
def tw4712516930147484137:=()
def tw7059365940745203078:=()
def tw7043757976506251491:=()
def tw4487890049216300253:=()
def tw16234029033242472536:=()
def tw8910567639908591047:=()
def tw2613518275546608445:=()
def tw5089915321528462351:=()
def tw4482196681844121939:=()
def tw7103909184841406135:=()
def tw11123806617709064199:=()
def tw5520570981232771299:=()
def tw7813338509415742153:=()
def tw8058833695547420415:=()
def tw3609579110759295813:=()
def tw10220905375662665118:=()
def tw10159563252066022924:=()
def tw8503242786949323683:=()
def tw17736954796846909879:=()
def tw6544463343106288453:=()
def tw2397580416700113760:=()
def tw15072769585420232108:=()
def tw6999890772542631977:=()
def tw12368513907189554726:=()
def tw12818184964369270271:=()
def tw4972440858266837112:=()
def tw1292826030403345122:=()
def tw17284335206755692290:=()
def tw15571471762432295921:=()
def tw16556942159711741103:=()
def tw9460987985880149026:=()
def tw13485002326864202260:=()
def tw11194192326417582070:=()
def tw14363192576159433251:=()
def tw11375683303646229245:=()
def tw11158826763223119301:=()
def tw16652332645519088396:=()
def tw7187642335104190944:=()
def tw290396207444023761:=()
def tw13181526273650821518:=()
def tw1058433092876532442:=()
def tw13486643584938534970:=()
def tw16051762176282621569:=()
def tw728960065349755506:=()
def tw14259515077088771822:=()
def tw11382703221495850195:=()
def tw3604031796520756862:=()
def tw8099764684173955565:=()
def tw13913323385387810970:=()
def tw9736940746204116641:=()
def tw12647535259692306352:=()
def tw12214203823009355221:=()
def tw9674818403067396980:=()
def tw11636105770414309353:=()
def tw21011440827710459:=()
def tw12604043809973369572:=()
def tw14711774092876462417:=()
def tw3339343373286359275:=()
def tw8255632472536158291:=()
def tw925989392098774384:=()
def tw2250951766564055062:=()
def tw7844099116057548281:=()
def tw16420141138385009465:=()
def tw8594911242143778268:=()
def tw12048173093299237384:=()
def tw10460030790315729829:=()
def tw8473445076268051955:=()
def tw6745797649174686750:=()
def tw8178838961304033396:=()
def tw4468480054803014292:=()
def tw1567296895401027261:=()
def tw9354833322624463030:=()
def tw16375138647603524784:=()
def tw2903009266837355991:=()
def tw16680282653223723937:=()
def tw12524427371897317824:=()
def tw15501555933979982232:=()
def tw14557865698414901536:=()
def tw7885158261169256752:=()
def tw12367110904433386001:=()
def tw7754879280288633906:=()
def tw1668727823909028489:=()
def tw2530770159600122813:=()
def tw5178066942136223007:=()
def tw13123993288751861414:=()
def tw12363500760328409218:=()
def tw3089387737377470389:=()
def tw593922163224615509:=()
def tw1335776028709616551:=()
def tw2469052415023595039:=()
def tw6660729597096428092:=()
def tw8955481436757477014:=()
def tw6960179582823396280:=()
def tw11208034692650106470:=()
def tw1236726319400436757:=()
def tw11943512150163311263:=()
def tw17872602101841783724:=()
def tw4692360500470429960:=()
def tw6624663682132664150:=()
def tw5767624289431578219:=()
def tw11178497874568742597:=()
def tw6766796714046422159:=()
def tw2434907708215432583:=()
def tw11185461457763483617:=()
def tw14637084489585685131:=()
def tw9420623640465596738:=()
def tw1778925855156909242:=()
def tw1094822605365456812:=()
def tw3295657559359715549:=()
def tw17066031498318191938:=()
def tw3322150677237836799:=()
def tw9482016618440409776:=()
def tw11936001183370896854:=()
def tw12827807181448205392:=()
def tw15106225509797811908:=()
def tw8782442330637578003:=()
def tw3209883280714570691:=()
def tw13283006590167283671:=()
def tw9317024002326803715:=()
def tw1214361564059180060:=()
def tw15176783236630509684:=()
def tw16684284729770216591:=()
def tw1262233718359792575:=()
def tw11934766575073417941:=()
def tw3740986958238013014:=()
def tw12918304996853249485:=()
def tw10030589358085940191:=()
def tw14389664355297315921:=()
def tw15308674419207826134:=()
def tw14638498125448755281:=()
def tw16474490769250647809:=()
def tw13871090854276273523:=()
def tw2403335129522081362:=()
def tw7172837750352790077:=()
def tw9807054252152096180:=()
def tw16880510922860188382:=()
def tw8378643473962058936:=()
def tw3624571507361307512:=()
def tw8317283541630786092:=()
def tw6037566597946980499:=()
def tw15698392094681126085:=()
def tw5736754814208398201:=()
def tw13939393511126602081:=()
def tw16761629577274802732:=()
def tw6294741242938347084:=()
def tw2973068413906577067:=()
def tw14675090433386902972:=()
def tw2707560072608778286:=()
def tw5558499984592991112:=()
def tw10449206056603458903:=()
def tw501902293026718737:=()
end PySem.W.Fast
open_top head_k32 for PySem.Challenge.rw_manyleaf_k32_places_and_contents
end
section
open Array renaming getElem?_eq_getElem->aW,length_toList->dw,getElem?_eq_some_iff->dE,getElem?_setIfInBounds_self_of_lt->fu,getElem?_toList->g_,forIn_toList->iO,map->iZ,getElem?_eq_none->jF
open Bool renaming false_ne_true->au,and_eq_true->aH,false_eq_true->bM,eq_iff_iff->bO,or_eq_true->cM,beq_eq_decide_eq->fv,or_true->f_,and_true->gr,not_eq_true'->gR,and_false->g8,false_or->ji,true_and->jj,false_and->kg,not_true->kL
open Classical renaming propDecidable->bQ
open False renaming elim->cb
open ForInStep renaming yield->fA
open Int renaming toNat_natCast->aY,emod_lt_of_pos->cC,emod_nonneg->cZ,mul_le_mul_of_nonneg_left->ib,one_mul->ix,fdiv_eq_ediv_of_nonneg->iK,emod_add_mul_ediv->jN,natCast_mul->jO,toNat->lS
open LawfulBEq renaming eq_of_beq->cf
open List renaming length_map->ae,getElem?_eq_getElem->aj,mem_of_getElem?->ak,getElem?_map->al,mem_map->am,size_toArray->aq,map_append->ar,map_map->aw,mem_cons_of_mem->ax,range->ay,getD_eq_getElem?_getD->az,take_length->aA,length_take->aC,mem_append->aE,mem_cons_self->aJ,mem_append_right->aL,length_cons->aN,mem_cons->aO,take_add_one->aR,map_cons->aS,length_append->aU,getElem?_eq_some_iff->aX,mem_iff_getElem?->a_,length_range->bi,all_eq_true->bn,map_congr_left->bu,length_reverse->bx,mem_filter->bz,getElem?_append_right->bA,mem_map_of_mem->bF,toArray->bH,getElem?_cons_succ->bI,getElem?_append_left->bK,all_cons->bR,append_nil->bS,mem_append_left->bX,foldl_cons->bZ,mem_singleton->b9,mem_range->cw,mem_reverse->cx,contains_cons->cD,length_filter_le->cI,length_eq_zero_iff->cO,nodup_cons->cP,not_mem_nil->cS,length_singleton->c7,filter_append->c8,getElem_map->c_,getElem_mem->df,length->dj,take_sublist_take_left->dy,any_eq_true->dG,getElem_inj->dH,map_reverse->dI,Pairwise->dL,pairwise_iff_getElem->dQ,mem_iff_getElem->dU,mem_of_mem_take->dW,nodup_append->d6,take_sublist->d7,map_nil->eG,filter_cons_of_neg->eK,filter_cons_of_pos->eN,filter_eq_self->eO,getElem?_cons_zero->eQ,getElem?_replicate->eU,lookup->eV,cons_append->e_,mem_filterMap->fm,getElem?_eq_none->fB,range_succ->fC,append_assoc->fI,foldl_append->fJ,getElem?_range->f7,any_cons->gx,getElem?_set_self->gL,take_of_length_le->gM,filter_congr->gT,getElem?_inj->gU,replicate->g9,Sublist->hG,all_map->hJ,eq_nil_iff_forall_not_mem->hO,getElem?_set_ne->ii,filterMap_cons->iy,find?_cons->iz,length_set->iA,of_mem_zip->iB,reverse_append->iC,nodup_nil->iQ,any_eq_false->i3,ext_getElem?->i4,flatMap_cons->i5,getElem_take->i6,map->jn,map_take->jo,length_drop->jw,lookup_cons->jx,mem_flatMap->jy,filter_map->jP,length_nil->jQ,reverse_reverse->j8,length_pos_iff->kC,map_eq_nil_iff->kD,getElem_range->kN,sum_cons->kO,any_map->lE,not_lt->lV,range'->lW
open List.Pairwise renaming map->fH,nil->i0
open List.Sublist renaming refl->dZ
open Nat renaming le_refl->ag,le_of_ble_eq_true->aM,lt_of_lt_of_le->aP,ne_of_lt->aT,le_trans->a9,lt_of_le_of_lt->bb,le_add_right->bq,zero_le->bC,testBit_two_pow->ce,lt_succ_self->cy,succ_le_succ->cz,zero_add->cT,le_succ->dm,lt_succ_of_lt->du,le_of_lt->dM,testBit_or->fc,testBit_and->fE,lt_irrefl->fK,eq_of_testBit_eq->fS,zero_testBit->fY,sub_self->gh,le_succ_of_le->gW,ne_of_gt->hU,pow_le_pow_right->ij,add_assoc->io,lt_pow_two_of_testBit->iR,lt_of_succ_lt_succ->jH,testBit_xor->jR,add_comm->lF,min_self->lG
open Ne renaming symm->cA
open Option renaming some->aZ,map_some->cF,toList_some->cQ,isSome_iff_exists->d8,bind_some->fb,map_eq_some_iff->ff
open Option.some renaming inj->aG,injEq->gX
open Or renaming inl->gy,inr->mI
open PyProof.Rows renaming seqObj->bv,callWith_type1->b5,slot_tuple_getitem->d9,get?_update_seq->d_,listUpdate_at->eZ,boot_list->gN,callWith_builtin1->hZ,seqEpoch_at->iG,tail_of_ItemOn->iW,IntsAre->jm,boot_tuple->jp,subscriptTail_builtinR->jI,AllBare->jK,boot_int->jT,entry_list_sort->jW,listItems_at->jX,size_push'->j7,envOfC->kj,slot_list_sort->kl,subscriptTail->k9,entry_sorted->lK,plain_sorted->lL,failedOf->lO,oneType'->lP,SortSt->lX,kind_sorted->l_,arrOf->ml,general'->mx,sortedS->mD,IsTup->mH
open PyProof.Rows.F renaming plain_set_update_loop->gw,entry_set_update_loop->jk
open PyProof.Rows.SortSt renaming mk'->ir
open PySem renaming wpAny_bind->af,wpAny_pure->ai,Shared->av,Builtin->aI,wpAny->aK,Program->ba,wpAny_holding->bj,FuncData->bo,Spec->bw,wpAny_with_toks->bB,sizeLine_eq->bG,World->bL,wpAny_Call_Name_kw->bN,Around->bP,mem_of_lookup->bU,wpAny_mono->bW,wpAny_call_entry->bY,wpAny_typeNameOfWhole_keyiter->cg,wpAny_newObj_type->cn,wpAny_callSpecial?_slot->cB,compareOp->cG,NameKind->cH,wpAny_loadPart_at->cK,wpAny_typeNameOf_keyiter->cL,wpAny_dictEpoch->cR,bootBuiltins->cW,starEach->cX,assignEach->c9,sysModules->dv,wpAny_isSubtype_exc->dB,binaryOp->dD,wpAny_field->dS,rawInt->eh,wpAny_dictEntries->ez,wpAny_truthy_bool->eC,Within->eI,codeAny_mono->eJ,wpAny_standAt->e8,foldedSetIterable->fM,wpAny_attempt->fN,wpAny_newList->fO,wpAny_pyIter_dict->fP,codeAny_call_builtin->fT,wpAny_setField->fX,wpAny_forIn_list->f6,wpAny_call->gn,wpAny_rule->gp,DictEntry->gv,codeAny->gH,codeAny_builtin->gI,wpAny_passesOwn->gJ,excClassObj->g6,wpAny_pyIter_enum->g7,PassesOwn->hX,bindArgs->iq,letOwnedTupleGo->iF,wpAny_letOwnedTupleGo_enum->iM,wpAny_newFunctionEnv_cells->iN,firstArgMember->iT,placesWithHash->iU,relabel->iV,wpAny_fieldsOf->iX,wpAny_loadPart->iY,backTo->jb,builtinsNs->jc,swapsWith->je,typeLookup->jf,wpAny_pyIter_list->jg,wpAny_sequenceKey->jh,attributeBase->jt,behindInMarks->ju,noFill_tuple_add->jA,pastItsLine_dict->jB,pyNext->jC,wpAny_isInstance->jD,wpAny_lookBehind->jE,wpAny_pyNext_dict_item->jJ,setFlight->jY,wpAny_execs_nil->jZ,wpAny_isOneOf_keyiter->j0,wpAny_loadPart'->j1,wpAny_notOrdered_dict->j2,wpAny_specialOf->j3,closureFor->j4,isInstance->j5,intBits_le_iff->j_,wpAny_pyIter_keyiter->kc,wpAny_pyIter_revIter->ke,wpAny_newTuple->kq,bindSpecial->kJ,keywordEach->kK,GenState->kM,noteFrame->k7,seq_tuple_add->k8,swapsWithSole->k_,wpAny_missed_other->lg,BindsTo->lh,call_meets->ll,getAttr->lq,getItem->lx,notedBy->ly,valueAt->lA,assign->lI,concat_meets->lJ,seqIndex_neg->lM,wpAny_nsSet1->lN,setField->lQ,IsPart->lT,Keyword->lU,callerA->lZ,cellsFrom->l3,eqIsQuiet->l7,onTheHeap->ma,pyIter->mf,seqIndex_of->mh,setAttr->mj,wpAny_throw->mk,backToKw->mn,compEnvC->mo,dictGet->mq,frameOf->mw,holding->my,setItem->mC,standAt->mE,unaryOp->mF,CmpOp->mG,Paired->mJ,Result->mL,Walks->mM
open PySem.Around renaming under_plainId->ig,under->lB
open PySem.Builtin renaming bitNot->ck,bitAnd->cu,bitOr->cN
open PySem.Builtin.Dict renaming showsAll->jL,missed->kr
open PySem.Builtin.Dict_items renaming ownsTuple->fh
open PySem.Builtin.Int renaming intBits->iu
open PySem.Builtin.List renaming listFitsIndex->dF,listTooLong->gd
open PySem.Builtin.Slice renaming slicePlaces->dO,sliceAdjust->fU,sliceApplied->iH
open PySem.Builtin.SmallTypes renaming nextOf->cE
open PySem.Builtin.Tuple renaming tupleHashOf->cj,tupleExact->dY,tupleItemsOf->iI
open PySem.Calls renaming spliced_cons->fj,spliced_nil->fG,Name_function_global->iJ,call_function_entry->iP,callWith_builtin->jG
open PySem.Code renaming quiet_builtin->gu,isFrame->lC
open PySem.EntryCells renaming newEntry->iw
open PySem.F renaming slot_dict_keyiterator_next->bV,slot_dict_get->dN,args_dict_keyiterator_next_1->eE,plainAttrs_list->eY,entry_dict_keyiterator_next->e9,entry_dict_get->fg,called_set->fw,excBase_ValueError->fQ,args_tuple_add_2->gj,entry_tuple_add->gC,slot_tuple_add->gO,slot_tuple_hash->gS,slot_list_insert->i7,args_dict_get_2->jq,args_dict_get_3->jr,slot_enumerate_next->jM
open PySem.Heap renaming get?_push_of_some->ah,get?_push_size->aB,lt_size->aF,SameBut->bJ,get?_update_self->b_,get?_update_other->cq,size_push->dP,size_update->jv,get?_update_ne->ku,ExtBut->lR
open PySem.Heap.SameBut renaming update->bE
open PySem.NameKind renaming free->eW
open PySem.Obj renaming mapSeq->be,mapFields->eX,isFreed_of_dict->f8,isFreed_of_fields->hV,data_mapDictKeys->im,data_mapDict->jz,data_mapFields->kQ
open PySem.Paired renaming length->kU
open PySem.PassesOwn renaming never->jS
open PySem.Sem renaming wp_bind'->lH
open PySem.SeqAt renaming EqAt->bD,RcNeAt->fF,RcAt->gZ
open PySem.SeqAt.EqAt renaming int_str->kY,str_int->kZ
open PySem.SeqAt.RcAt renaming tuples->ja
open PySem.SeqAt.RcNeAt renaming lists_lengths->iL
open PySem.Str renaming ofString->cV,empty->h_
open PySem.Value renaming ref->aV,none->cm,builtin->cY,type->gm,isStrOf->ip,str->iE,isStrOf_shape->kI,int->k6,bool->lj,isInt->lY
open PySem.W renaming Frag->ac,findIn->bg,keepIn->bh,nsIn->bT,kia_one->b7,fnOf->cr,emptyDict->cJ,isFn->cU,codeIn->dq,instObj->dz,makesIn->dA,codeHdIn->dJ,kitOne->dR,looks_findIn->dX,mg_of->fL,InstAt->fV,tabObj->fW,plainGet->fZ,callWith_K0->f9,callWith_K->gE,mroIn->gG,cellsFrom_some->gQ,hasDictIn->gY,handedIn->ic,plainGet_of->iD,lookIn->iS,kitx_list->i8,methodObj->i9,plainOver->i_,kasC_bind->jd,OpenLaw->jU,takerIn->jV,kas_item->j6,handedOut_of->j9,kla_fn->kh,codeHd_of_K->kE,findObj_own->kG,looks_mroIn->kH,kitx_tuple->kW,looks_find->kX,clsIn->l6,kasC_pure->l9,kas_sort->mz,kas_st->mN
open Sum renaming inr->ie,inl->js
open True renaming intro->aQ
namespace L2
open PySem PySem.Spec PyProof.Rows
noncomputable abbrev Key:=Sum Int Str
noncomputable def N7:Key->Value->Bool
 |.inl k,v=>lY k v
 |.inr x,v=>ip x v
noncomputable def bq9(w:bL):Key->Int
 |.inl k=>hashInt k
 |.inr x=>hashStr w x
theorem Au:∀ {k:Key} {v:Value},N7 k v=true->(∃i t,k=js i/\v=k6 i t)\/(∃x t,k=ie x/\v=iE x t)
 | .inl i,v,h=>by
  obtain⟨t,e⟩:=Value.isInt_shape (k:=i) (v:=v) h
  exact .inl ⟨i,t,rfl,e⟩
 | .inr x,v,h=>by
  obtain⟨t,e⟩:=kI (x:=x) (v:=v) h
  exact .inr ⟨x,t,rfl,e⟩
theorem Ym(i:Int)(t:Tok):N7 (.inl i) (.int i t)=true:=by simp[N7,lY]
theorem Yn(x:Str)(t:Tok):N7 (.inr x) (.str x t)=true:=by simp[N7,ip]
theorem ba6(a b:Int):decide ((js a:Key)=js b)=(a==b):=by
 by_cases e:a=b
 .subst e;simp
 .have h:¬ (js a:Key)=js b:=λq=>e (Sum.inl.inj q)
  rw[decide_eq_false h]
  exact (beq_eq_false_iff_ne.mpr e).symm
theorem ba9(a b:Str):decide ((ie a:Key)=ie b)=decide (a=b):=by
 by_cases e:a=b
 .subst e;simp
 .have h:¬ (ie a:Key)=ie b:=λq=>e (Sum.inr.inj q)
  rw[decide_eq_false h,decide_eq_false e]
theorem ba7(a:Int)(b:Str):decide ((js a:Key)=ie b)=false:=decide_eq_false (λq=>nomatch q)
theorem ba8(a:Str)(b:Int):decide ((ie a:Key)=js b)=false:=decide_eq_false (λq=>nomatch q)
noncomputable def Bg(prog:ba)(w:bL):PySem.KeyKind prog w Key where
 is:=N7
 hash:=bq9 w
 inj:=λv a b ha hb=>by
  rcases Au ha with ⟨i,t,rfl,rfl⟩|⟨x,t,rfl,rfl⟩
  .rcases Au hb with ⟨j,u,rfl,e⟩|⟨y,u,rfl,e⟩
   .injection e with e1 _;rw[e1]
   .exact nomatch e
  .rcases Au hb with ⟨j,u,rfl,e⟩|⟨y,u,rfl,e⟩
   .exact nomatch e
   .injection e with e1 _;rw[e1]
 byValue:=λk v h=>by
  rcases Au h with ⟨i,t,rfl,rfl⟩|⟨x,t,rfl,rfl⟩ <;> rfl
 pyHash:=λhv h=>by
  rcases Au hv with ⟨i,t,rfl,rfl⟩|⟨x,t,rfl,rfl⟩
  .exact wpAny_pyHash_int h
  .exact wpAny_pyHash_str h
 eqBool:=λhu hv h=>by
  rcases Au hu with ⟨i,t,rfl,rfl⟩|⟨x,t,rfl,rfl⟩
  .rcases Au hv with ⟨j,u,rfl,rfl⟩|⟨y,u,rfl,rfl⟩
   .rw[ba6] at h;exact wpAny_eqBool_int h
   .rw[ba7] at h;exact kY i t y u _ _ _ _ h
  .rcases Au hv with ⟨j,u,rfl,rfl⟩|⟨y,u,rfl,rfl⟩
   .rw[ba8] at h;exact kZ x t j u _ _ _ _ h
   .rw[ba9] at h;exact wpAny_eqBool_str h
 «strs»:=λk x t v h=>by
  rcases Au h with ⟨i,u,rfl,e⟩|⟨y,u,rfl,e⟩
  .exact nomatch e
  .injection e with e1 _
   subst e1
   cases v <;> rfl
theorem Ry(prog:ba)(w:bL)(i:Int)(t:Tok):(Bg prog w).is (.inl i) (.int i t)=true:=Ym i t
theorem Rz(prog:ba)(w:bL)(x:Str)(t:Tok):(Bg prog w).is (.inr x) (.str x t)=true:=Yn x t
inductive V where
 |non|bl (b:Bool)|int (i:Int)|str (x:Str)|byt (b:Array UInt8)|stk (x:Str) (n:Nat) (ex:Bool)|ref (a:Addr)|ty (n:String)
 deriving DecidableEq
noncomputable def RelV:V->Value->Prop
 |.non,u=>u=cm
 |.bl b,u=>u=lj b
 |.int i,u=>∃t,u=k6 i t
 |.str x,u=>∃t,u=iE x t
 |.byt b,u=>∃t,u=Value.bytes b t
 |.stk x n ex,u=>∃t,u=iE x t/\(if ex=true then t=n else n<=t)
 |.ref a,u=>u=aV a
 |.ty n,u=>u=gm n
noncomputable def V.pl:V->Bool
 |.stk _ _ _=>false
 |_=>true
noncomputable abbrev Vals:List V->List Value->Prop:=mJ RelV
theorem Vals.length {xs:List V}{us:List Value}(r:Vals xs us):xs.length=us.length:=kU r
theorem Vals.get:∀ {xs:List V} {us:List Value} {i:Nat} {x:V},Vals xs us->xs[i]?=some x -> ∃u,us[i]?=some u/\RelV x u
 |_,_,_,_,.nil,e=>by simp at e
 |_,_,0,_,.cons r _,e=>by simp at e;subst e;exact⟨_,rfl,r⟩
 | _,_,i+1,x,.cons _ t,e=>by
  obtain⟨u,h1,h2⟩:=Vals.get (i:=i) (x:=x) t (by simpa using e)
  exact⟨u,by simpa using h1,h2⟩
theorem Vals.set(r:RelV x u):∀ {xs:List V} {us:List Value} (i:Nat),Vals xs us->Vals (xs.set i x) (us.set i u)
 |_,_,_,.nil=>.nil
 |_,_,0,.cons _ t=>.cons r t
 |_,_,i+1,.cons q t=>.cons q (Vals.set r i t)
theorem Vals.append:∀ {xs ys:List V} {us ws:List Value},Vals xs us->Vals ys ws->Vals (xs++ys) (us++ws)
 |_,_,_,_,.nil,s=>s
 |_,_,_,_,.cons r t,s=>.cons r (Vals.append t s)
theorem Vals.take:∀ {xs:List V} {us:List Value} (n:Nat),Vals xs us->Vals (xs.take n) (us.take n)
 |_,_,0,_=>.nil
 |_,_,_+1,.nil=>.nil
 |_,_,n+1,.cons r t=>.cons r (Vals.take n t)
theorem Vals.drop:∀ {xs:List V} {us:List Value} (n:Nat),Vals xs us->Vals (xs.drop n) (us.drop n)
 |_,_,0,r=>r
 |_,_,_+1,.nil=>.nil
 |_,_,n+1,.cons _ t=>Vals.drop n t
noncomputable def RelO:Option V->Option Value->Prop
 |some v,some u=>RelV v u
 |none,none=>True
 |_,_=>False
noncomputable def KV {κ:Type}:List (κ×V)->List (κ×Value)->Prop:=mJ λ(p:κ×V) (q:κ×Value)=>p.1=q.1/\RelV p.2 q.2
noncomputable def kV:Key->V
 |.inl i=>.int i
 |.inr x=>.str x
noncomputable def B1:V->Bool
 |.non=>true
 |.bl _=>true
 |.int _=>true
 |.str _=>true
 |_=>false
noncomputable def eqV:V->V->Bool
 |.non,.non=>true
 |.bl a,.bl b=>a==b
 |.bl a,.int b=>(if a then 1 else 0)==b
 |.int a,.bl b=>a==(if b then 1 else 0)
 |.int a,.int b=>a==b
 |.str a,.str b=>a==b
 |_,_=>false
theorem Pi {A:bP}{s:av}{y x:V}{u v:Value}(ry:RelV y u)(rx:RelV x v)(fy:B1 y=true)(fx:B1 x=true):bD A s u v (eqV y x):=by
 cases y with
 |non=>
  cases ry
  cases x with
  |non=>cases rx;exact SeqAt.EqAt.same _
  |bl b=>cases rx;exact SeqAt.EqAt.none_bool b
  |int b=>obtain⟨t,rfl⟩:=rx;exact SeqAt.EqAt.none_int b t
  |str b=>obtain⟨t,rfl⟩:=rx;exact SeqAt.EqAt.none_str b t
  |_=>exact absurd (show false=true from fx) au
 |bl a=>
  cases ry
  cases x with
  |non=>cases rx;exact SeqAt.EqAt.bool_none a
  |bl b=>cases rx;exact SeqAt.EqAt.bool_bool a b
  |int b=>obtain⟨t,rfl⟩:=rx;exact SeqAt.EqAt.bool_int a b t
  |str b=>obtain⟨t,rfl⟩:=rx;exact SeqAt.EqAt.bool_str a b t
  |_=>exact absurd (show false=true from fx) au
 |int a=>
  obtain⟨t',rfl⟩:=ry
  cases x with
  |non=>cases rx;exact SeqAt.EqAt.int_none a t'
  |bl b=>cases rx;exact SeqAt.EqAt.int_bool a t' b
  |int b=>obtain⟨t,rfl⟩:=rx;exact SeqAt.EqAt.int_int a t' b t
  |str b=>obtain⟨t,rfl⟩:=rx;exact kY a t' b t
  |_=>exact absurd (show false=true from fx) au
 |str a=>
  obtain⟨t',rfl⟩:=ry
  cases x with
  |non=>cases rx;exact SeqAt.EqAt.str_none a t'
  |bl b=>cases rx;exact SeqAt.EqAt.str_bool a t' b
  |int b=>obtain⟨t,rfl⟩:=rx;exact kZ a t' b t
  |str b=>obtain⟨t,rfl⟩:=rx;exact SeqAt.EqAt.str_str a t' b t
  |_=>exact absurd (show false=true from fx) au
 |_=>exact absurd (show false=true from fy) au
inductive TK where
 |at_ (k:Key)
 |tup (l:List TK)
noncomputable instance:DecidableEq TK:=λ_ _=>bQ _
mutual
noncomputable def TkIs(P:ba)(w:bL)(h:Heap):TK->Value->Prop
 |.at_ k,v=>(Bg P w).is k v=true
 |.tup l,v=>∃a ψ,v=.ref a/\mH h a ψ/\TksAre P w h l ψ.toList
noncomputable def TksAre(P:ba)(w:bL)(h:Heap):List TK->List Value->Prop
 |[],vs=>vs=[]
 |k::ks,vs=>∃v r,vs=v::r/\TkIs P w h k v/\TksAre P w h ks r
end
mutual
noncomputable def Bi(w:bL):TK->Int
 |.at_ k=>bq9 w k
 |.tup l=>reduceHash (cj (Bd w l))
noncomputable def Bd(w:bL):List TK->List Int
 |[]=>[]
 |k::ks=>Bi w k::Bd w ks
end
mutual
noncomputable def C4:TK->Nat
 |.at_ _=>1
 |.tup l=>Bu l+1
noncomputable def Bu:List TK->Nat
 |[]=>0
 |k::ks=>C4 k+Bu ks
end
mutual
noncomputable def Aq:TK->Nat
 |.at_ _=>0
 |.tup l=>B8 l+1
noncomputable def B8:List TK->Nat
 |[]=>0
 |k::ks=>Nat.max (Aq k) (B8 ks)
end
theorem Ev:∀ {l:List TK} {k:TK},k∈l->Aq k<=B8 l
 |[],_,h=>by cases h
 | x::l,k,h=>by
  unfold B8
  rcases List.mem_cons.mp h with rfl|h
  .exact Nat.le_max_left _ _
  .exact a9 (Ev h) (Nat.le_max_right _ _)
theorem Hq(w:bL):∀(a b:List TK),Bd w (a++b)=Bd w a++Bd w b
 |[],_=>by unfold Bd;rfl
 | x::a,b=>by
  show Bi w x::Bd w (a++b)=Bi w x::(Bd w a++Bd w b)
  rw[Hq w a b]
theorem Hn:∀(a b:List TK),Bu (a++b)=Bu a+Bu b
 |[],_=>by show Bu _=0+_;rw[cT];rfl
 | x::a,b=>by
  show C4 x+Bu (a++b)=C4 x+Bu a+Bu b
  rw[Hn a b,io]
section
variable {P:ba} {w:bL}
theorem On(k:TK):∀ {A:bP} {E:Value->av->Prop} {s:av} {v:Value} {Q:Int->av->Prop},A.units+Aq k<cLine->TkIs P w s.heap k v->Q (Bi w k) { s with toks:=s.toks+C4 k }->aK (model P w) A (pyHash v) Q E s:=by
 refine TK.rec (motive_1:=λk=>∀ {A:bP} {E:Value->av->Prop} {s:av} {v:Value} {Q:Int->av->Prop},A.units+Aq k<cLine->TkIs P w s.heap k v->Q (Bi w k) { s with toks:=s.toks+C4 k }->aK (model P w) A (pyHash v) Q E s)
  (motive_2:=λl=>∀k∈l,∀ {A:bP} {E:Value->av->Prop} {s:av} {v:Value} {Q:Int->av->Prop},A.units+Aq k<cLine->TkIs P w s.heap k v->Q (Bi w k) { s with toks:=s.toks+C4 k }->aK (model P w) A (pyHash v) Q E s)
  ?_ ?_ ?_ ?_ k
 .intro k A E s v Q _ hk h
  unfold TkIs at hk
  exact (Bg P w).pyHash hk h
 .intro l ih A E s v Q hu hk h
  unfold TkIs at hk
  obtain⟨a,ψ,rfl,ht,hi⟩:=hk
  have hT:=ht.typeIs
  obtain⟨o,ho,hc,n,hd⟩:=id ht
  have hu:A.units+(B8 l+1)<cLine:=hu
  unfold pyHash
  first|unfold pyHashByItsType|skip
  first|refine af (wpAny_cRoomFor_or (.inr (by omega)) ?_)|skip
  refine af (j3 hT F.slot_tuple_hash.lookup ?_)
  show aK _ _ (if (some (cY "tuple.__hash__")==some cm)=true then _ else _) Q E s
  rw[if_neg (by rw[beq_builtin_none];exact au)]
  refine af (j3 hT F.slot_tuple_hash.lookup ?_)
  show aK _ _ (callSpecialIfBoundUnlessNone? (.ref a) "__hash__" _ >>= _) Q E s
  refine af (wpAny_callSpecialIfBoundUnlessNone?_slot hT gS (bY gS hT F.entry_tuple_hash ?_ (F.args_tuple_hash_1 _)))
  show aK _ _ (iI (.ref a) >>= _) _ _ s
  refine af (wpAny_tupleItemsOf ho hd ?_)
  refine af ?_
  rw[<- iO]
  refine f6 _
   (λrest (b:Array Int) s'=>∃done left,l=done++left/\TksAre P w s.heap left rest/\b.toList=Bd w done/\s'={ s with toks:=s.toks+Bu done })
   _ ?_ ?_ _ _ ⟨[],l,rfl,hi,rfl,rfl⟩
  .rintro x rest b s' ⟨done,left,rfl,hl,hb,rfl⟩
   cases left with
   |nil=>unfold TksAre at hl;cases hl
   |cons k ks=>
    unfold TksAre at hl
    obtain⟨v,r,e,h1,hl'⟩:=hl
    cases e
    have hm:k∈done++k::ks:=aL _ aJ
    have dk:=Ev hm
    have dr:Bu (done++[k])=Bu done+C4 k:=by rw[Hn];show _+(C4 k+0)=_;omega
    have hh:Bd w (done++[k])=Bd w done++[Bi w k]:=by rw[Hq];rfl
    refine af (ih k hm (by first|omega|(show A.units+1+Aq k<cLine;omega)) h1 ?_)
    first
     |exact ai ⟨done++[k],ks,by simp,hl',by rw[hh];simp[hb],by rw[dr];simp[io]⟩
     |exact af (ai (ai ⟨done++[k],ks,by simp,hl',by rw[hh];simp[hb],by rw[dr];simp[io]⟩))
  .rintro b s' ⟨done,left,rfl,hl,hb,rfl⟩
   cases left with
   |cons k ks=>unfold TksAre at hl;obtain⟨v,r,e,_⟩:=hl;cases e
   |nil=>
    rw[bS] at h
    show aK _ _ (retInt (cj b.toList)) _ _ _
    rw[hb]
    refine wpAny_ret_mkInt ?_
    show aK _ _ (if (decide (-(2:Int) ^ 63<=cj (Bd w done))&&decide (cj (Bd w done)<2 ^ 63))=true then _ else _) Q E _
    have h:Q (reduceHash (cj (Bd w done))) { s with toks:=s.toks+(Bu done+1) }:=h
    unfold reduceHash at h
    by_cases hr:(decide (-(2:Int) ^ 63<=cj (Bd w done))&&decide (cj (Bd w done)<2 ^ 63))=true
    .rw[if_pos hr]
     rw[if_pos hr] at h
     exact ai (by simpa [io] using h)
    .rw[if_neg hr]
     rw[if_neg hr] at h
     exact af (gp (ai (by simpa [io] using h)))
 .exact λk h=>by cases h
 .intro k l h1 h2 x hx
  rcases List.mem_cons.mp hx with rfl|hx
  .exact h1
  .exact h2 x hx
theorem TkIs.inj {h:Heap}(x:TK):∀ {y:TK} {v:Value},TkIs P w h x v->TkIs P w h y v->x=y:=by
 refine TK.rec (motive_1:=λx=>∀ {y:TK} {v:Value},TkIs P w h x v->TkIs P w h y v->x=y) (motive_2:=λl=>∀ {l':List TK} {vs:List Value},TksAre P w h l vs->TksAre P w h l' vs->l=l') ?_ ?_ ?_ ?_ x
 .intro k y v h1 h2
  unfold TkIs at h1
  cases y with
  |at_ k'=>unfold TkIs at h2;rw[(Bg P w).inj v k k' h1 h2]
  |tup l=>
   unfold TkIs at h2
   obtain⟨a,χ,rfl,_⟩:=h2
   rcases Au h1 with ⟨i,t,_,e⟩|⟨z,t,_,e⟩ <;> cases e
 .intro l ih y v h1 h2
  unfold TkIs at h1
  obtain⟨a,χ,rfl,t1,i1⟩:=h1
  cases y with
  |at_ k'=>
   unfold TkIs at h2
   rcases Au h2 with ⟨i,t,_,e⟩|⟨z,t,_,e⟩ <;> cases e
  |tup l'=>
   unfold TkIs at h2
   obtain⟨b,its',e,t2,i2⟩:=h2
   cases e
   obtain⟨o,ho,_,n,hd⟩:=t1
   obtain⟨o',ho',_,n',hd'⟩:=t2
   rw[ho] at ho'
   cases ho'
   rw[hd] at hd'
   cases hd'
   rw[ih i1 i2]
 .intro l' vs h1 h2
  unfold TksAre at h1
  subst h1
  cases l' with
  |nil=>rfl
  |cons k r=>unfold TksAre at h2;obtain⟨v,r',e,_⟩:=h2;cases e
 .intro k l ih1 ih2 l' vs h1 h2
  unfold TksAre at h1
  obtain⟨v,r,rfl,q1,q2⟩:=h1
  cases l' with
  |nil=>unfold TksAre at h2;cases h2
  |cons k' l'=>
   unfold TksAre at h2
   obtain⟨v',r',e,q3,q4⟩:=h2
   cases e
   rw[ih1 q1 q3,ih2 q2 q4]
theorem TksAre.len {h:Heap}:∀ {l:List TK} {vs:List Value},TksAre P w h l vs->vs.length=l.length
 |[],vs,q=>by unfold TksAre at q;rw[q];rfl
 | k::l,vs,q=>by
  unfold TksAre at q
  obtain⟨v,r,rfl,_,q2⟩:=q
  rw[aN,aN,TksAre.len q2]
theorem TksAre.get {h:Heap}:∀ {l:List TK} {vs:List Value} {j:Nat} {v:Value},TksAre P w h l vs->vs[j]?=some v -> ∃k,l[j]?=some k/\TkIs P w h k v
 |[],vs,j,v,q,e=>by unfold TksAre at q;rw[q] at e;simp at e
 | k::l,vs,j,v,q,e=>by
  unfold TksAre at q
  obtain⟨v',r,rfl,q1,q2⟩:=q
  cases j with
  |zero=>
   have:v'=v:=by simpa using e
   exact⟨k,rfl,this▸q1⟩
  |succ j=>
   obtain⟨k',e1,e2⟩:=TksAre.get q2 (show r[j]?=some v by simpa using e)
   exact⟨k',by simpa using e1,e2⟩
theorem Pq {k:Key}{v:Value}(h:(Bg P w).is k v=true):RelV (kV k) v:=by
 rcases Au h with ⟨i,t,rfl,rfl⟩|⟨x,t,rfl,rfl⟩ <;> exact⟨t,rfl⟩
theorem Pp(k:Key):B1 (kV k)=true:=by cases k <;> rfl
theorem ac1(k k':Key):decide (TK.at_ k=TK.at_ k')=eqV (kV k) (kV k'):=by
 have e:(TK.at_ k=TK.at_ k') ↔ k=k':=⟨λh=>by injection h,λh=>by rw[h]⟩
 rw[bO,decide_eq_true_iff,e]
 cases k with
 |inl i=>
  cases k' with
  |inl j=>show _ ↔ (i==j)=true;rw[beq_iff_eq];exact⟨λh=>by injection h,λh=>by rw[h]⟩
  |inr y=>exact⟨λh=>(nomatch h),λh=>absurd (show false=true from h) au⟩
 |inr x=>
  cases k' with
  |inl j=>exact⟨λh=>(nomatch h),λh=>absurd (show false=true from h) au⟩
  |inr y=>show _ ↔ (x==y)=true;rw[beq_iff_eq];exact⟨λh=>by injection h,λh=>by rw[h]⟩
theorem ag1 {l l':List TK}(z:TK)(h:l.length=l'.length):decide (l=l')=(ay l.length).all λj=>decide (l.getD j z=l'.getD j z):=by
 rw[bO,decide_eq_true_iff,bn]
 refine⟨λe j _=>by rw[e];exact decide_eq_true rfl,λq=>List.ext_getElem h λi h1 h2=>?_⟩
 have:=of_decide_eq_true (q i (List.mem_range.mpr h1))
 rwa[az,az,aj h1,aj h2] at this
theorem aq3(x:TK):∀ {y:TK} {A:bP} {s:av} {u v:Value},A.units+Aq x<cLine->TkIs P w s.heap x u->TkIs P w s.heap y v->bD A s u v (decide (x=y)):=by
 refine TK.rec (motive_1:=λx=>∀ {y:TK} {A:bP} {s:av} {u v:Value},A.units+Aq x<cLine->TkIs P w s.heap x u->TkIs P w s.heap y v->bD A s u v (decide (x=y)))
  (motive_2:=λl=>∀x∈l,∀ {y:TK} {A:bP} {s:av} {u v:Value},A.units+Aq x<cLine->TkIs P w s.heap x u->TkIs P w s.heap y v->bD A s u v (decide (x=y))) ?_ ?_ ?_ ?_ x
 .intro k y A s u v hu h1 h2
  unfold TkIs at h1
  have hu:A.units+0<cLine:=hu
  cases y with
  |at_ k'=>unfold TkIs at h2;rw[ac1];exact Pi (Pq h1) (Pq h2) (Pp k) (Pp k')
  |tup l=>
   unfold TkIs at h2
   obtain⟨a,χ,rfl,t,_⟩:=h2
   rw[decide_eq_false (λz=>by cases z)]
   rcases Au h1 with ⟨i,t',rfl,rfl⟩|⟨x,t',rfl,rfl⟩
   .exact .int_tuple i t' t (by omega)
   .exact .str_tuple x t' t (by omega)
 .intro l ih y A s u v hu h1 h2
  have hd:A.units+(B8 l+1)<cLine:=hu
  have h0:=h1
  unfold TkIs at h1
  obtain⟨a,χ,rfl,t1,i1⟩:=h1
  cases y with
  |at_ k'=>
   unfold TkIs at h2
   rw[decide_eq_false (λz=>by cases z)]
   rcases Au h2 with ⟨i,t',rfl,rfl⟩|⟨x,t',rfl,rfl⟩
   .exact .tuple_int i t' t1 (by omega)
   .exact .tuple_str x t' t1 (by omega)
  |tup l'=>
   have h3:=h2
   unfold TkIs at h2
   obtain⟨b,its',rfl,t2,i2⟩:=h2
   by_cases e:a=b
   .subst e
    rw[decide_eq_true (TkIs.inj _ h0 h3)]
    exact .same _
   refine .of_refs e ?_
   have e1:=i1.len
   have e2:=i2.len
   have T:=ja (A:=A) (s:=s) (e:=λj=>decide (l.getD j (.tup [])=l'.getD j (.tup []))) t1 t2 (by omega) λj q1 q2=>by
    obtain⟨k1,g1,r1⟩:=i1.get (j:=j) (v:=χ[j]) (by simp[q1])
    obtain⟨k2,g2,r2⟩:=i2.get (j:=j) (v:=its'[j]) (by simp[q2])
    have hm:=ak g1
    have:=Ev hm
    rw[az,az,g1,g2]
    exact ih k1 hm (by show A.units+1+Aq k1<cLine;omega) r1 r2
   have dt:decide (TK.tup l=TK.tup l')=decide (l=l'):=by
    rw[bO,decide_eq_true_iff,decide_eq_true_iff]
    exact⟨λh=>by injection h,λh=>by rw[h]⟩
   rw[dt]
   have s1:χ.size=l.length:=by rw[<- e1];simp
   have s2:its'.size=l'.length:=by rw[<- e2];simp
   rw[s1,s2] at T
   by_cases hl:l.length=l'.length
   .rw[ag1 (.tup []) hl]
    rw[hl,lG,beq_self_eq_true,gr] at T
    rw[hl]
    exact T
   .rw[decide_eq_false λz=>hl (by rw[z])]
    rw[beq_eq_false_iff_ne.mpr hl,g8] at T
    exact T
 .exact λk h=>by cases h
 .intro k l h1 h2 x hx
  rcases List.mem_cons.mp hx with rfl|hx
  .exact h1
  .exact h2 x hx
theorem Tg(x:TK):∀ {n:Nat} {A:bP} {E:Value->av->Prop} {s:av} {v:Value} {Q:Bool->av->Prop},Aq x<=n->TkIs P w s.heap x v->Q true s->aK (model P w) A (l7 n v) Q E s:=by
 refine TK.rec (motive_1:=λx=>∀ {n:Nat} {A:bP} {E:Value->av->Prop} {s:av} {v:Value} {Q:Bool->av->Prop},Aq x<=n->TkIs P w s.heap x v->Q true s->aK (model P w) A (l7 n v) Q E s)
  (motive_2:=λl=>∀x∈l,∀ {n:Nat} {A:bP} {E:Value->av->Prop} {s:av} {v:Value} {Q:Bool->av->Prop},Aq x<=n->TkIs P w s.heap x v->Q true s->aK (model P w) A (l7 n v) Q E s) ?_ ?_ ?_ ?_ x
 .intro k n A E s v Q _ hk h
  unfold TkIs at hk
  rw[eqIsQuiet_byValue _ ((Bg P w).byValue _ _ hk)]
  exact ai h
 .intro l ih n A E s v Q hn hk h
  have hn:B8 l+1<=n:=hn
  obtain⟨m,rfl⟩:∃m,n=m+1:=⟨n - 1,by omega⟩
  unfold TkIs at hk
  obtain⟨a,ψ,rfl,ht,hi⟩:=hk
  have hT:=ht.typeIs
  obtain⟨o,ho,hc,n',hd⟩:=id ht
  unfold l7
  refine af (j3 hT F.slot_tuple_eq.lookup ?_)
  show aK _ _ (j5 (.ref a) (.type "tuple") >>= _) _ _ s
  refine af (jD hT isSubtype_tuple_tuple ?_)
  simp only[kL,bM,if_false]
  refine af (wpAny_seqItems ho hd ?_)
  refine af ?_
  show aK _ _ (forIn ψ _ _) _ _ s
  rw[<- iO]
  refine f6 _ (λrest r s'=>r.1=none/\s'=s/\∀v∈rest,∃k∈l,TkIs P w s.heap k v) _ ?_ ?_ _ _ ⟨rfl,rfl,λv hv=>?_⟩
  .rintro v rest r s' ⟨hr,rfl,hall⟩
   obtain⟨k,hk,q⟩:=hall v aJ
   have:=Ev hk
   refine af (ih k hk (by omega) q ?_)
   simp only[kL,bM,if_false]
   exact ai ⟨rfl,rfl,λu hu'=>hall u (ax _ hu')⟩
  .rintro⟨r1,r2⟩ s' ⟨hr,rfl,_⟩
   simp only at hr
   subst hr
   exact ai h
  .obtain⟨j,hj⟩:=List.mem_iff_getElem?.mp hv
   obtain⟨k,e,q⟩:=hi.get hj
   exact⟨k,ak e,q⟩
 .exact λk h=>by cases h
 .intro k l h1 h2 x hx
  rcases List.mem_cons.mp hx with rfl|hx
  .exact h1
  .exact h2 x hx
end
inductive HO where
 |lst (xs:List V)
 |tup (xs:List V)
 |dK (kvs:List (Key×V))|dT (kvs:List (TK×V))
 |set (S:Int->Bool) (n:Nat)
 |ins (C dx:Addr) (fs:List (Str×V))
 |own (x:Addr)
 |xd (fs:List (Str×V))
 |met (f x:Addr)
 |rng (lo hi:Int)
 |frz (o:Obj) (u:HO)
 |tbl (ps:Array Value)
 |ext (φ:Heap->Prop)
noncomputable abbrev Hp:=Addr->Option HO
noncomputable def upd(H:Hp)(a:Addr)(o:HO):Hp:=λb=>if b=a then some o else H b
theorem Ab {H:Hp}{a:Addr}{o:HO}:upd H a o a=some o:=by unfold upd;rw[if_pos rfl]
theorem Ad {H:Hp}{a b:Addr}{o:HO}(h:b≠a):upd H a o b=H b:=by unfold upd;rw[if_neg h]
theorem br2 {H:Hp}{a b:Addr}{o u:HO}(h:H a=some o)(h':H b=some u)(d:o≠u):a≠b:=by
 intro e;subst e;rw[h] at h';exact d (aG h')
theorem Ai {H:Hp}{a b:Addr}{o:HO}(h:H a=some o)(h':H b=none):a≠b:=by
 intro e;subst e;rw[h] at h';cases h'
mutual
noncomputable def TkAt(H:Hp):TK->V->Prop
 |.at_ k,v=>v=kV k
 |.tup l,v=>∃a xs,v=.ref a/\H a=some (.tup xs)/\Ao H l xs
noncomputable def Ao(H:Hp):List TK->List V->Prop
 |[],vs=>vs=[]
 |k::ks,vs=>∃v r,vs=v::r/\TkAt H k v/\Ao H ks r
end
theorem TkAt.up(h:∀b ys,H b=some (.tup ys)->H' b=some (.tup ys))(x:TK):∀ {v:V},TkAt H x v->TkAt H' x v:=by
 refine TK.rec (motive_1:=λx=>∀ {v:V},TkAt H x v->TkAt H' x v) (motive_2:=λl=>∀ {vs:List V},Ao H l vs->Ao H' l vs) ?_ ?_ ?_ ?_ x
 .intro k v q;unfold TkAt at q ⊢;exact q
 .intro l ih v q
  unfold TkAt at q ⊢
  obtain⟨a,xs,e,t,i⟩:=q
  exact⟨a,xs,e,h _ _ t,ih i⟩
 .intro vs q;unfold Ao at q ⊢;exact q
 .intro x l h1 h2 vs q
  unfold Ao at q ⊢
  obtain⟨v,r,e,q1,q2⟩:=q
  exact⟨v,r,e,h1 q1,h2 q2⟩
noncomputable def KT(w:bL)(H:Hp)(kvs:List (TK×V))(es:Array gv):Prop:=es.size=kvs.length/\(kvs.map (·.1)).Nodup/\∀(j:Nat)(e:gv),es[j]?=some e -> ∃k v u,kvs[j]?=some (k,v)/\Aq k<=8/\TkAt H k u/\RelV u e.key/\e.hash=Bi w k/\RelV v e.val
theorem KT.keeps(r:KT w H kvs es)(ht:∀b ys,H b=some (.tup ys)->H' b=some (.tup ys)):KT w H' kvs es:=
 ⟨r.1,r.2.1,λj e h=>let ⟨k,v,u,a,b,c,d⟩:=r.2.2 j e h;⟨k,v,u,a,b,c.up ht _,d⟩⟩
section
variable (P:ba) (w:bL)
noncomputable def ObjOk(H:Hp)(h:Heap)(a:Addr):HO->Prop
 |.lst xs=>xs.length<=sizeLine/\∃(χ:List Value)(n:Nat),Vals xs χ/\h.get? a=some { cls:=.type "list", data:=.seq χ.toArray n }
 |.tup xs=>xs.length<=sizeLine/\∃χ:List Value,Vals xs χ/\mH h a χ.toArray
 |.dK kvs=>kvs.length<=sizeLine/\(a==dv)=false/\∃vs,KV kvs vs/\h.DictOf (Bg P w) a vs
 |.dT kvs=>kvs.length<=sizeLine/\(a==dv)=false/\∃o es ep,h.get? a=some o/\o.ExactDict/\o.data=.dict es ep/\KT w H kvs es
 |.set S n=>h.SetOf (intKind P w) a S n
 | .ins C dx fs=>H dx=some (.own a)/\fs.length<=1000/\dx≠a/\h.get? a=some (dz C dx) /\
   ∃mA,h.Ns1 dx mA/\(∀f,RelO (fs.lookup f) (mA f))/\eI mA (fs.map (·.1))
 |.own _=>∃o,h.get? a=some o
 |.xd fs=>∃mA,h.Ns1 a mA/\∀f,RelO (fs.lookup f) (mA f)
 |.rng lo hi=>∃t u v,h.get? a=some { cls:=.type "range", data:=.fields #[.int lo t,.int hi u,.int 1 v] }
 |.frz o u=>h.get? a=some o/\ObjOk H h a u
 |.tbl ps=>h.get? a=some { cls:=.none,data:=.fields ps }
 |.met f x=>h.get? a=some (i9 (.ref f) (.ref x))
 |.ext φ=>φ h/\(∃o,h.get? a=some o)/\∀h1 h2:Heap,φ h1->(∀o,h1.get? a=some o->h2.get? a=some o)->φ h2
noncomputable def HOk(H:Hp)(h:Heap):Prop:=∀a o,H a=some o->ObjOk P w H h a o
end
section
variable {P:ba} {w:bL} {H H':Hp} {h h':Heap} {a:Addr} {o:HO}
theorem ObjOk.lt(x:ObjOk P w H h a o):a<h.objs.size:=by
 cases o with
 |lst xs=>obtain⟨_,_,_,_,e⟩:=x;exact aF e
 |tup xs=>obtain⟨_,_,_,p⟩:=x;exact p.lt
 |dK kvs=>obtain⟨_,_,_,_,o,_,_,e,_⟩:=x;exact aF e
 |dT kvs=>obtain⟨_,_,o,_,_,e,_⟩:=x;exact aF e
 |set S n=>obtain⟨o,_,_,_,e,_⟩:=x;exact aF e
 |ins C dx fs=>obtain⟨_,_,_,e,_⟩:=x;exact aF e
 |own y=>obtain⟨_,e⟩:=x;exact aF e
 |xd fs=>obtain⟨_,⟨_,_,_,e,_⟩,_⟩:=x;exact aF e
 |rng lo hi=>obtain⟨_,_,_,e⟩:=x;exact aF e
 |frz ob u=>obtain⟨e,_⟩:=x;exact aF e
 |tbl ps=>exact aF (show h.get? a=some _ from x)
 |met f y=>exact aF (show h.get? a=some _ from x)
 |ext φ=>obtain⟨_,⟨_,e⟩,_⟩:=x;exact aF e
theorem ObjOk.stay(x:ObjOk P w H h a o)(k:∀b u,(b=a\/H b=some (.own a))->h.get? b=some u->h'.get? b=some u)(ho:∀b,H b=some (.own a)->H' b=some (.own a))(ht:∀b xs,H b=some (.tup xs)->H' b=some (.tup xs)):ObjOk P w H' h' a o:=by
 induction o with
 |lst xs=>obtain⟨z,χ,n,r,e⟩:=x;exact⟨z,χ,n,r,k _ _ (.inl rfl) e⟩
 |tup xs=>obtain⟨z,χ,r,ob,e,c⟩:=x;exact⟨z,χ,r,ob,k _ _ (.inl rfl) e,c⟩
 |dK kvs=>obtain⟨z,y,vs,r,ob,es,ep,e,c⟩:=x;exact⟨z,y,vs,r,ob,es,ep,k _ _ (.inl rfl) e,c⟩
 |dT kvs=>obtain⟨z,y,ob,es,ep,e,c,d,r⟩:=x;exact⟨z,y,ob,es,ep,k _ _ (.inl rfl) e,c,d,r.keeps ht⟩
 |set S n=>obtain⟨ob,es,ep,t,e,c⟩:=x;exact⟨ob,es,ep,t,k _ _ (.inl rfl) e,c⟩
 |ins C dx fs=>
  obtain⟨d,z,ne,e,mA,⟨od,es,ep,e2,c⟩,r⟩:=x
  exact⟨ho _ d,z,ne,k _ _ (.inl rfl) e,mA,⟨od,es,ep,k _ _ (.inr d) e2,c⟩,r⟩
 |own y=>obtain⟨ob,e⟩:=x;exact⟨ob,k _ _ (.inl rfl) e⟩
 |xd fs=>obtain⟨mA,⟨od,es,ep,e,c⟩,r⟩:=x;exact⟨mA,⟨od,es,ep,k _ _ (.inl rfl) e,c⟩,r⟩
 |rng lo hi=>obtain⟨t,u,v,e⟩:=x;exact⟨t,u,v,k _ _ (.inl rfl) e⟩
 |frz ob u ih=>obtain⟨e,q⟩:=x;exact⟨k _ _ (.inl rfl) e,ih q⟩
 |tbl ps=>
  have e:h.get? a=some { cls:=.none,data:=.fields ps }:=x
  show h'.get? a=some { cls:=.none,data:=.fields ps }
  exact k a _ (.inl rfl) e
 |met f y=>
  have e:h.get? a=some (i9 (.ref f) (.ref y)):=x
  show h'.get? a=some (i9 (.ref f) (.ref y))
  exact k a _ (.inl rfl) e
 |ext φ=>obtain⟨p,⟨o,e⟩,st⟩:=x;exact⟨st _ _ p λo q=>k _ _ (.inl rfl) q,⟨o,k _ _ (.inl rfl) e⟩,st⟩
theorem HOk.lt(x:HOk P w H h)(e:H a=some o):a<h.objs.size:=(x a o e).lt
theorem HOk.fresh(x:HOk P w H h)(e:h.objs.size<=a):H a=none:=by
 cases q:H a with
 |none=>rfl
 |some u=>exact absurd (aP (x.lt q) e) (fK _)
theorem HOk.kept(x:HOk P w H h)(k:∀b u,h.get? b=some u->h'.get? b=some u):HOk P w H h':=λa o e=>
 (x a o e).stay (λb u _ q=>k b u q) (λ_ q=>q) λ_ _ q=>q
theorem HOk.laid(x:HOk P w H h)(k:∀b u,h.get? b=some u->h'.get? b=some u)(hp:h.objs.size<=a)(new:ObjOk P w (upd H a o) h' a o):HOk P w (upd H a o) h':=λb u e=>by
 have hn:=x.fresh hp
 by_cases hb:b=a
 .subst hb;rw[Ab] at e;cases e;exact new
 .rw[Ad hb] at e
  exact (x b u e).stay (λc v _ q=>k c v q) (λc q=>by rw[Ad (Ai q hn)];exact q) λc xs q=>by rw[Ad (Ai q hn)];exact q
end
noncomputable def Rd(H:Hp)(a:Addr)(u:HO):Prop:=H a=some u \/ ∃o,H a=some (.frz o u)
theorem Rd.ok(r:Rd H a u)(x:HOk P w H h):ObjOk P w H h a u:=by
 rcases r with r|⟨o,r⟩
 .exact x a u r
 .obtain⟨_,q⟩:=x a _ r
  exact q
noncomputable def Mut:Option HO->Prop
 |some (.lst _)=>True
 |some (.dK _)=>True
 |some (.dT _)=>True
 |some (.set _ _)=>True
 |some (.ins _ _ _)=>True
 |some (.ext _)=>True
 |_=>False
section
variable {P:ba} {w:bL} {H:Hp} {h h':Heap} {x e:Addr} {o':HO}
theorem HOk.write(ok:HOk P w H h)(mu:Mut (H x))(he:e=x\/H e=some (.own x))(k:∀b u,b≠e->h.get? b=some u->h'.get? b=some u)(heo:∃u,h'.get? e=some u)(new:ObjOk P w (upd H x o') h' x o'):HOk P w (upd H x o') h':=λb u q=>by
 have nown:∀c y,H c=some (.own y)->c≠x:=λc y r z=>by subst z;rw[r] at mu;exact mu
 have ntup:∀c xs,H c=some (.tup xs)->c≠x:=λc xs r z=>by subst z;rw[r] at mu;exact mu
 by_cases hb:b=x
 .subst hb;rw[Ab] at q;cases q;exact new
 .rw[Ad hb] at q
  by_cases hbe:b=e
  .have q':H b=some (.own x):=by
    rcases he with z|z
    .exact absurd (hbe.trans z) hb
    .rw[hbe];exact z
   rw[q] at q';cases q'
   obtain⟨v,hv⟩:=heo
   exact⟨v,by rw[hbe];exact hv⟩
  .refine (ok b u q).stay (λc v hc r=>k c v ?_ r) (λc r=>by rw[Ad (nown c b r)];exact r) λc xs r=>by rw[Ad (ntup c xs r)];exact r
   rcases hc with rfl|hc
   .exact hbe
   .rintro rfl
    rcases he with z|z
    .exact nown c b hc z
    .rw[hc] at z;cases z;exact hb rfl
end
structure Un (fs ex:List Addr) (H H':Hp) (h h':Heap):Prop where
 keep:∀b o,h.get? b=some o->H b=none->b∉fs->b∉ex->h'.get? b=some o
 slot:∀b o,h.get? b=some o->H b=none->b∈fs->b∉ex -> ∃sl,h'.get? b=some { o with slots:=sl }
 free:∀b o,h.get? b=some o->H b=none->b∉ex->H' b=none
 there:∀b o,h.get? b=some o->b∉ex -> ∃o',h'.get? b=some o'
 tups:∀b xs,H b=some (.tup xs)->H' b=some (.tup xs)
 frzs:∀b o u,H b=some (.frz o u)->H' b=some (.frz o u)
 tbls:∀b ps,H b=some (.tbl ps) -> ∃more,H' b=some (.tbl (ps++more))
section
variable {fs fs' ex ex':List Addr} {H H1 H2:Hp} {h h1 h2 h':Heap} {a x e:Addr} {o:HO}
theorem Un.any(u:Un fs ex H H1 h h1)(q:h.get? b=some ob)(n:H b=none)(hx:b∉ex):∃sl,h1.get? b=some { ob with slots:=sl }:=by
 by_cases hb:b∈fs
 .exact u.slot b ob q n hb hx
 .exact⟨ob.slots,u.keep b ob q n hb hx⟩
theorem Un.kept(k:∀b u,h.get? b=some u->h'.get? b=some u):Un fs ex H H h h':=
 ⟨λb ob q _ _ _=>k b ob q,λb ob q _ _ _=>⟨ob.slots,k b ob q⟩,λ_ _ _ n _=>n,λb ob q _=>⟨ob,k b ob q⟩,λ_ _ q=>q,λ_ _ _ q=>q,λ_ ps q=>⟨#[],by rw[q];simp⟩⟩
theorem Un.refl:Un fs ex H H h h:=Un.kept λ_ _ q=>q
theorem Un.laid(k:∀b u,h.get? b=some u->h'.get? b=some u)(hp:h.objs.size<=a)(hn:H a=none):Un fs ex H (upd H a o) h h' where
 keep:=λb u q _ _ _=>k b u q
 slot:=λb u q _ _ _=>⟨u.slots,k b u q⟩
 free:=λb u q n _=>by rw[Ad (aT (aP (aF q) hp))];exact n
 there:=λb u q _=>⟨u,k b u q⟩
 tups:=λb xs q=>by rw[Ad (Ai q hn)];exact q
 frzs:=λb u xs q=>by rw[Ad (Ai q hn)];exact q
 tbls:=λb ps q=>⟨#[],by rw[Ad (Ai q hn),q];simp⟩
theorem Un.write(mu:Mut (H x))(he:e=x\/H e=some (.own x))(k:∀b u,b≠e->h.get? b=some u->h'.get? b=some u)(heo:∃u,h'.get? e=some u):Un fs ex H (upd H x o) h h':=by
 have hx:∀b,H b=none->b≠x:=λb n z=>by subst z;rw[n] at mu;exact mu
 have hb:∀b,H b=none->b≠e:=λb n z=>by
  subst z
  rcases he with r|r
  .exact hx b n r
  .rw[n] at r;cases r
 have hm:∀b u,H b=some u -> ¬ Mut (some u)->b≠x:=λb u q nm z=>by subst z;rw[q] at mu;exact nm mu
 refine⟨λb u q n _ _=>k b u (hb b n) q,λb u q n _ _=>⟨u.slots,k b u (hb b n) q⟩,λb u q n _=>by rw[Ad (hx b n)];exact n,λb u q _=>?_,
  λb xs q=>by rw[Ad (hm b _ q λz=>z)];exact q,λb u xs q=>by rw[Ad (hm b _ q λz=>z)];exact q,λb ps q=>⟨#[],by rw[Ad (hm b _ q λz=>z),q];simp⟩⟩
 by_cases hbe:b=e
 .subst hbe;exact heo
 .exact⟨u,k b u hbe q⟩
end
noncomputable def trk(h:Heap)(H:Hp):List Addr:=(ay h.objs.size).filter λa=>(H a).isSome
noncomputable def Pm(h:Heap)(H:Hp):Heap:=PySem.W.hideAll h (trk h H)
theorem Yi(h:Heap)(H:Hp):(Pm h H).objs.size=h.objs.size:=PySem.W.hideAll_size _ _
theorem af3(e:h.get? b=some o)(n:H b=none):(Pm h H).get? b=some o:=
 PySem.W.hideAll_get _ e λhm=>by
  have q:(H b).isSome=true:=(List.mem_filter.mp hm).2
  rw[n] at q;simp at q
theorem aw8(e:(Pm h H).get? b=some o):h.get? b=some o/\H b=none:=by
 have e':h.get? b=some o:=PySem.W.of_hideAll (trk h H) e
 refine⟨e',?_⟩
 cases q:H b with
 |none=>rfl
 |some x=>
  have hm:b∈trk h H:=List.mem_filter.mpr ⟨List.mem_range.mpr (aF e'),by simp[q]⟩
  have z:(Pm h H).get? b=none:=PySem.W.hideAll_none (trk h H) hm
  rw[z] at e;cases e
structure Mod (K:ac) (mg:Str->Option Value) (base:Heap):Prop where
 kin:K.In base
 glob:base.Ns mainGlobals mg
 blt:∃mb,base.Ns jc mb/\∀x:Str,x ≠ "__name__" -> mb x=cW x
 nolimit:base.NoLimit
structure Cx where
 prog:ba
 w:bL
 K:ac
 mg:Str->Option Value
 base:Heap
 A:bP
 N:List Str
 s₀:av
 H₀:Hp
 env:Env
 outer:List Env
 stack:List Env
 ex:List Addr
 fn:Str->Bool
 calm:Bool
 pn:List (Addr×Obj)
 xe:Value->av->Prop
noncomputable def frs(l:List Env):List Addr:=l.filterMap (·.frame)
noncomputable abbrev Cx.fs(X:Cx):List Addr:=frs X.outer
noncomputable def Vis(sc:Scope)(x:Str):Prop:=sc.names.lookup x=some .local\/sc.names.lookup x=some .cell\/sc.names.lookup x=some .free
noncomputable def Loc(sc:Scope)(x:Str):Prop:=sc.names.lookup x=some .local\/sc.names.lookup x=some .cell
noncomputable def b13(env:Env)(h:Heap)(m:Str->Option Value)(x:Str)(u:Value):Prop:=
 (env.kindOf x=some .local/\m x=some u)\/((env.kindOf x=some .cell\/env.kindOf x=some .free)/\∃c,env.cells.lookup x=some c/\h.IsCell c (some u))
noncomputable def Wn(_:ac)(_:Nat):Prop:=True
structure Cx.Ok (X:Cx):Prop where
 mod:Mod X.K X.mg X.base
 kind:X.env.scope.kind=.function
 glob:X.env.globals=mainGlobals
 blt:X.env.builtins=jc
 above:X.s₀.heap.objs.size<=X.env.locals
 inj:∀x y c,X.env.cells.lookup x=some c->X.env.cells.lookup y=some c->x=y
 has:∀x,(X.env.kindOf x=some .cell\/X.env.kindOf x=some .free) -> ∃c,X.env.cells.lookup x=some c
 cab:∀x c,X.fn x=true->X.env.cells.lookup x=some c->X.s₀.heap.objs.size<=c
 hd:X.calm=true->X.A.handled=none
 frames:X.A.frames=some X.stack
 stk:X.stack=X.outer\/(X.stack=X.env::X.outer/\X.env.frame=some X.env.locals)
 exf:∀b∈X.ex,b≠X.env.locals/\∀x c,X.env.cells.lookup x=some c->c≠b
 bs:∀b o,X.base.get? b=some o->X.s₀.heap.get? b=some o/\X.H₀ b=none
 bsz:X.base.objs.size<=X.s₀.heap.objs.size
 noex:∀b o,X.base.get? b=some o->b∉X.ex
 exfs:∀b∈X.ex,b∉X.fs
 funs:X.s₀.heap.FunFrames X.base X.outer
 frf:∀b∈X.fs,X.H₀ b=none
 tk:Wn X.K X.s₀.toks
structure Inv (X:Cx) (ξ:List (Addr×Obj)) (U:List (Option V)) (H:Hp) (s:av):Prop where
 ok:X.Ok
 os:s.os=X.s₀.os/\X.s₀.toks<=s.toks
 bare:jK s.gens
 base:Un X.fs X.ex X.H₀ H X.s₀.heap s.heap
 loc:∃m,s.heap.Ns X.env.locals m/\∀(i:Nat)(x:Str)(v:V),X.N[i]?=some x->U[i]?=some (some v)->Vis X.env.scope x -> ∃u,RelV v u/\b13 X.env s.heap m x u
 cell:∀x c,X.env.cells.lookup x=some c -> ∃v,s.heap.IsCell c v
 free:H X.env.locals=none
 freeC:∀x c,X.env.cells.lookup x=some c->H c=none
 pin:∀p∈X.pn++ξ,s.heap.get? p.1=some p.2/\H p.1=none/\p.1≠X.env.locals/\p.1∉X.fs/\∀v,p.2.data≠.cell v
 hok:HOk X.prog X.w H s.heap
 len:U.length=X.N.length
section
variable {X:Cx} {ξ:List (Addr×Obj)} {U:List (Option V)} {H H':Hp} {s:av} {h':Heap}
theorem Cx.Ok.nofr(ok:X.Ok)(e:X.base.get? b=some o):b∉X.fs:=λhb=>by
 have:=(ok.funs.mem hb).1
 rw[e] at this;cases this
theorem Inv.bs(I:Inv X ξ U H s):∀b o,X.base.get? b=some o->s.heap.get? b=some o/\H b=none:=λb o e=>
 ⟨I.base.keep b o (I.ok.bs b o e).1 (I.ok.bs b o e).2 (I.ok.nofr e) (I.ok.noex b o e),I.base.free b o (I.ok.bs b o e).1 (I.ok.bs b o e).2 (I.ok.noex b o e)⟩
theorem Inv.bk(I:Inv X ξ U H s):∀b o,X.base.get? b=some o->s.heap.get? b=some o:=λb o e=>(I.bs b o e).1
theorem Inv.mod(I:Inv X ξ U H s):Mod X.K X.mg X.base:=I.ok.mod
theorem Inv.kIn(I:Inv X ξ U H s):X.K.In s.heap:=I.ok.mod.kin.keeps I.bk
theorem Inv.lt(I:Inv X ξ U H s):X.env.locals<s.heap.objs.size:=let ⟨_,hn,_⟩:=I.loc;hn.lt
theorem Inv.sz(I:Inv X ξ U H s):X.s₀.heap.objs.size<=s.heap.objs.size:=a9 I.ok.above (dM I.lt)
theorem Inv.nofs(I:Inv X ξ U H s)(h:s.heap.objs.size<=a):a∉X.fs:=λhb=>by
 obtain⟨_,o,ho,_⟩:=I.ok.funs.mem hb
 exact absurd (aP (aF ho) (a9 I.sz h)) (fK _)
theorem Inv.cne(I:Inv X ξ U H s):∀x c,X.env.cells.lookup x=some c->c≠X.env.locals:=λx c e z=>by
 obtain⟨v,o,ho,hd⟩:=I.cell x c e
 obtain⟨m,⟨o',es,ep,ho',hd',_⟩,_⟩:=I.loc
 rw[z,ho'] at ho;cases ho;rw[hd'] at hd;cases hd
theorem Inv.funs(I:Inv X ξ U H s):s.heap.FunFrames X.base X.outer:=by
 have all:∀(l:List Env),(∀b∈frs l,b∈X.fs)->X.s₀.heap.FunFrames X.base l->s.heap.FunFrames X.base l:=by
  intro l
  induction l with
  |nil=>intro _ _;trivial
  |cons env r ih=>
   intro hs hl
   obtain⟨hk,⟨L,o,hf,hn,ho,hd⟩,hr⟩:=hl
   have hL:L∈X.fs:=hs L (by unfold frs;rw[iy,hf];exact aJ)
   obtain⟨sl,e⟩:=I.base.slot L o ho (I.ok.frf L hL) hL λz=>I.ok.exfs L z hL
   exact⟨hk,⟨L,_,hf,hn,e,hd⟩,ih (λb hb=>hs b (by unfold frs;rw[iy,hf];exact ax _ hb)) hr⟩
 exact all X.outer (λ_ hb=>hb) I.ok.funs
theorem Inv.stack(I:Inv X ξ U H s):s.heap.FunFrames X.base X.stack:=by
 rcases I.ok.stk with e|⟨e,hf⟩
 .rw[e];exact I.funs
 .rw[e]
  obtain⟨m,hn,_⟩:=I.loc
  refine .cons (by rw[I.ok.kind];decide) hf hn ?_ I.funs
  exact Heap.get?_none_of_le (a9 I.ok.bsz I.ok.above)
theorem Inv.stkSub(I:Inv X ξ U H s):∀b∈frs X.stack,b∈X.env.locals::X.fs:=λb hb=>by
 rcases I.ok.stk with e|⟨e,hf⟩
 .rw[e] at hb;exact ax _ hb
 .rw[e] at hb
  unfold frs at hb
  rw[iy,hf] at hb
  exact hb
theorem Inv.stkFree(I:Inv X ξ U H s):∀b∈frs X.stack,H b=none:=λb hb=>by
 rcases List.mem_cons.mp (I.stkSub b hb) with e|hb
 .rw[e];exact I.free
 .obtain⟨_,o,ho,_⟩:=I.ok.funs.mem hb
  exact I.base.free b o ho (I.ok.frf b hb) λz=>I.ok.exfs b z hb
theorem Inv.step {g':Array kM}{t':Nat}{d':Drawn}{ch:List Addr}(I:Inv X ξ U H s)(hch:∀b∈ch,(b∈X.ex\/X.s₀.heap.objs.size<=b)/\b≠X.env.locals/\(∀x c,X.env.cells.lookup x=some c->c≠b)/\∀p∈X.pn++ξ,p.1≠b)(keep:∀b o,b≠X.env.locals->b∉X.fs->b∉ch->s.heap.get? b=some o->H b=none->h'.get? b=some o)(slot:∀b o,b≠X.env.locals->b∈X.fs->b∉ch->s.heap.get? b=some o->H b=none -> ∃sl,h'.get? b=some { o with slots:=sl })(free:∀b o,b∉ch->s.heap.get? b=some o->H b=none->H' b=none)(there:∀b o,b∉ch->s.heap.get? b=some o -> ∃o',h'.get? b=some o')(tups:∀b xs,H b=some (.tup xs)->H' b=some (.tup xs))(frzs:∀b o u,H b=some (.frz o u)->H' b=some (.frz o u))(tbls:∀b ps,H b=some (.tbl ps) -> ∃more,H' b=some (.tbl (ps++more)))(ns:∀m,s.heap.Ns X.env.locals m->h'.Ns X.env.locals m)(hok:HOk X.prog X.w H' h')(hg:jK g')(ht:s.toks<=t':=by first|exact ag _|exact bq _ _|assumption|omega|(dsimp only;omega)) :
  Inv X ξ U H' { s with heap:=h',gens:=g',drawn:=d',toks:=t' }:=by
 have neL:∀b o,X.s₀.heap.get? b=some o->b≠X.env.locals:=λb o e=>aT (aP (aF e) I.ok.above)
 have neC:∀b o,X.s₀.heap.get? b=some o->b∉X.ex->b∉ch:=λb o e hx hb=>by
  rcases (hch b hb).1 with z|z
  .exact hx z
  .exact absurd (aP (aF e) z) (fK _)
 have cellK:∀x c,X.env.cells.lookup x=some c -> ∀v,s.heap.IsCell c v->h'.IsCell c v:=λx c e v ⟨o,ho,hd⟩=>by
  have nch:c∉ch:=λz=>(hch c z).2.2.1 x c e rfl
  by_cases hc:c∈X.fs
  .obtain⟨sl,q⟩:=slot c o (I.cne x c e) hc nch ho (I.freeC x c e)
   exact⟨_,q,hd⟩
  .exact⟨o,keep c o (I.cne x c e) hc nch ho (I.freeC x c e),hd⟩
 refine⟨I.ok,⟨I.os.1,a9 I.os.2 ht⟩,hg,⟨λb o e n hb hx=>?_,λb o e n hb hx=>?_,λb o e n hx=>?_,λb o e hx=>?_,λb xs e=>tups b xs (I.base.tups b xs e),λb o xs e=>frzs b o xs (I.base.frzs b o xs e),λb ps e=>?_⟩,?_,λx c e=>?_,?_,λx c e=>?_,λp hp=>?_,hok,I.len⟩
 .exact keep b o (neL b o e) hb (neC b o e hx) (I.base.keep b o e n hb hx) (I.base.free b o e n hx)
 .obtain⟨sl,e1⟩:=I.base.slot b o e n hb hx
  obtain⟨sl',e2⟩:=slot b _ (neL b o e) hb (neC b o e hx) e1 (I.base.free b o e n hx)
  exact⟨sl',e2⟩
 .obtain⟨o',e1⟩:=I.base.there b o e hx
  exact free b o' (neC b o e hx) e1 (I.base.free b o e n hx)
 .obtain⟨o',e1⟩:=I.base.there b o e hx
  exact there b o' (neC b o e hx) e1
 .obtain⟨m1,e1⟩:=I.base.tbls b ps e
  obtain⟨m2,e2⟩:=tbls b _ e1
  exact⟨m1++m2,by rw[e2,Array.append_assoc]⟩
 .obtain⟨m,hn,hl⟩:=I.loc
  refine⟨m,ns m hn,λi x v e1 e2 e3=>?_⟩
  obtain⟨u,r,l⟩:=hl i x v e1 e2 e3
  refine⟨u,r,?_⟩
  rcases l with l|⟨k,c,e,z⟩
  .exact .inl l
  .exact .inr ⟨k,c,e,cellK x c e _ z⟩
 .obtain⟨v,z⟩:=I.cell x c e
  exact⟨v,cellK x c e v z⟩
 .obtain⟨m,⟨o,_,_,ho,_⟩,_⟩:=I.loc
  exact free _ o (λz=>(hch _ z).2.1 rfl) ho I.free
 .obtain⟨v,o,ho,hd⟩:=I.cell x c e
  exact free c o (λz=>(hch c z).2.2.1 x c e rfl) ho (I.freeC x c e)
 .obtain⟨e,n,ne,nf,d⟩:=I.pin p hp
  have nch:p.1∉ch:=λz=>(hch p.1 z).2.2.2 p hp rfl
  exact⟨keep p.1 p.2 ne nf nch e n,free p.1 p.2 nch e n,ne,nf,d⟩
theorem Inv.un(I:Inv X ξ U H s)(u:Un X.fs [] H H' s.heap h')(hok:HOk X.prog X.w H' h')(ht:s.toks<=t':=by first|exact ag _|exact bq _ _|assumption|omega|(dsimp only;omega)):Inv X ξ U H' { s with heap:=h',toks:=t' }:=by
 obtain⟨m,⟨o,es,ep,ho,r⟩,_⟩:=id I.loc
 obtain⟨sl,hL⟩:=u.any ho I.free (by simp)
 exact I.step (g':=s.gens) (d':=s.drawn) (ch:=[]) (λ_ z=>nomatch z) (λb o _ hb _ e n=>u.keep b o e n hb (by simp)) (λb o _ hb _ e n=>u.slot b o e n hb (by simp)) (λb o _ e n=>u.free b o e n (by simp)) (λb o _ e=>u.there b o e (by simp)) u.tups u.frzs u.tbls (λm' hm=>by
  obtain⟨o',es',ep',ho',r'⟩:=hm
  rw[ho] at ho';cases ho'
  exact⟨_,es',ep',hL,r'⟩) hok I.bare
theorem Inv.call(I:Inv X ξ U H s)(u:Un (frs X.stack) ch H H' s.heap h')(hok:HOk X.prog X.w H' h')(hg:jK g')(hch:∀b∈ch,(b∈X.ex\/X.s₀.heap.objs.size<=b)/\b≠X.env.locals/\(∀x c,X.env.cells.lookup x=some c->c≠b)/\∀p∈X.pn++ξ,p.1≠b)(ht:s.toks<=t':=by first|exact ag _|exact bq _ _|assumption|omega|(dsimp only;omega)) :
  Inv X ξ U H' { s with heap:=h',gens:=g',drawn:=d',toks:=t' }:=by
 obtain⟨m,⟨o,es,ep,ho,r⟩,_⟩:=id I.loc
 obtain⟨sl,hL⟩:=u.any ho I.free λz=>(hch _ z).2.1 rfl
 exact I.step (ch:=ch) hch (λb o hL hb hc e n=>u.keep b o e n (λz=>(List.mem_cons.mp (I.stkSub b z)).elim hL hb) hc) (λb o _ _ hc e n=>u.any e n hc) (λb o hc e n=>u.free b o e n hc) (λb o hc e=>u.there b o e hc) u.tups u.frzs u.tbls (λm' hm=>by
  obtain⟨o',es',ep',ho',r'⟩:=hm
  rw[ho] at ho';cases ho'
  exact⟨_,es',ep',hL,r'⟩) hok hg
theorem Inv.turned {t':Nat}{it:Addr}(I:Inv X ξ U H s)(k:∀b o,b≠it->s.heap.get? b=some o->h'.get? b=some o)(hn:H it=none)(hL:it≠X.env.locals)(h1:it∈X.ex\/X.s₀.heap.objs.size<=it)(h2:∀x c,X.env.cells.lookup x=some c->c≠it)(h3:∀p∈X.pn++ξ,p.1≠it)(ht:s.toks<=t':=by first|exact ag _|exact bq _ _|assumption|omega|(dsimp only;omega)):Inv X ξ U H { s with heap:=h',toks:=t' }:=by
 have nit:∀b u,H b=some u->b≠it:=λb u e z=>by rw[z,hn] at e;cases e
 refine I.step (g':=s.gens) (d':=s.drawn) (ch:=[it]) (λb hb=>?_) (λb o _ _ hc e _=>k b o (λz=>hc (by simp[z])) e) (λb o _ _ hc e _=>⟨o.slots,k b o (λz=>hc (by simp[z])) e⟩) (λ_ _ _ _ n=>n)
  (λb o hc e=>⟨o,k b o (λz=>hc (by simp[z])) e⟩) (λ_ _ e=>e) (λ_ _ _ e=>e) (λb ps e=>⟨#[],by rw[e];simp⟩) (λm hm=>?_) (λb u e=>?_) I.bare
 .have e:b=it:=by simpa using hb
  subst e
  exact⟨h1,hL,h2,h3⟩
 .obtain⟨o,es,ep,ho,r⟩:=hm
  exact⟨o,es,ep,k _ o (cA hL) ho,r⟩
 .refine (I.hok b u e).stay (λc v hc q=>k c v ?_ q) (λ_ q=>q) λ_ _ q=>q
  rcases hc with z|z
  .rw[z];exact nit b u e
  .exact nit c _ z
theorem Inv.tok(I:Inv X ξ U H s)(t:Nat)(ht:s.toks<=t:=by first|exact ag _|exact bq _ _|assumption|omega|(dsimp only;omega)):Inv X ξ U H { s with toks:=t }:=I.un (h':=s.heap) (t':=t) Un.refl I.hok ht
theorem Inv.kept(I:Inv X ξ U H s)(k:∀b u,s.heap.get? b=some u->h'.get? b=some u)(ht:s.toks<=t':=by first|exact ag _|exact bq _ _|assumption|omega|(dsimp only;omega)):Inv X ξ U H { s with heap:=h',toks:=t' }:=I.un (Un.kept k) (I.hok.kept k) ht
theorem Inv.laid(I:Inv X ξ U H s)(k:∀b u,s.heap.get? b=some u->h'.get? b=some u)(hp:s.heap.objs.size<=a)(new:ObjOk X.prog X.w (upd H a o) h' a o)(ht:s.toks<=t':=by first|exact ag _|exact bq _ _|assumption|omega|(dsimp only;omega)) :
  Inv X ξ U (upd H a o) { s with heap:=h',toks:=t' }:=I.un (Un.laid k hp (I.hok.fresh hp)) (I.hok.laid k hp new) ht
theorem Inv.write(I:Inv X ξ U H s)(mu:Mut (H x))(he:e=x\/H e=some (.own x))(k:∀b u,b≠e->s.heap.get? b=some u->h'.get? b=some u)(heo:∃u,h'.get? e=some u)(new:ObjOk X.prog X.w (upd H x o) h' x o)(ht:s.toks<=t':=by first|exact ag _|exact bq _ _|assumption|omega|(dsimp only;omega)):Inv X ξ U (upd H x o) { s with heap:=h',toks:=t' }:=I.un (Un.write mu he k heo) (I.hok.write mu he k heo new) ht
theorem Inv.pins_of(I:Inv X ξ U H s)(h:∀p∈pins',s.heap.get? p.1=some p.2/\H p.1=none/\p.1≠X.env.locals/\p.1∉X.fs/\∀v,p.2.data≠.cell v):Inv X pins' U H s:=
 ⟨I.ok,I.os,I.bare,I.base,I.loc,I.cell,I.free,I.freeC,λp hp=>(List.mem_append.mp hp).elim (λz=>I.pin p (bX _ z)) (h p),I.hok,I.len⟩
theorem Lq {N:List Str}(hN:N.Nodup){i j:Nat}{x:Str}(a:N[i]?=some x)(b:N[j]?=some x):i=j:=by
 obtain⟨h1,e1⟩:=List.getElem?_eq_some_iff.mp a
 obtain⟨h2,e2⟩:=List.getElem?_eq_some_iff.mp b
 exact (dH hN).mp (e1.trans e2.symm)
theorem Zj(I:Inv X ξ U H s)(hN:X.N.Nodup)(hi:X.N[i]?=some x)(hx:Loc X.env.scope x)(r:RelV v u)(h:∀s',Inv X ξ (U.set i (some v)) H s'->(∃a,bJ a s.heap s'.heap/\(a=X.env.locals\/X.env.cells.lookup x=some a))->Q () s')(hf:X.fn x=true\/X.env.scope.names.lookup x=some .local:=by first|exact .inl rfl|exact .inr rfl|assumption):aK M A (storeName X.env x u) Q E s:=by
 obtain⟨m,hn,hl⟩:=id I.loc
 have hcls:(X.env.scope.kind==.class||(X.env.scope.kind==.module&&X.env.locals != X.env.globals))=false:=by rw[I.ok.kind];rfl
 have hiU:i<U.length:=by rw[I.len];exact (List.getElem?_eq_some_iff.mp hi).1
 have cne:=I.cne
 have tracked:∀ {a:Addr} {h':Heap},(∃o,s.heap.get? a=some o/\H a=none)->bJ a s.heap h'->HOk X.prog X.w H h':=λ{a h'} ha hs b ob e=>by
  obtain⟨_,_,hfree⟩:=ha
  refine (I.hok b ob e).stay (λc w' hc q=>(hs.2 c ?_).trans q) (λ_ q=>q) λ_ _ q=>q
  rintro rfl
  rcases hc with rfl|hc
  .rw[hfree] at e;cases e
  .rw[hfree] at hc;cases hc
 rcases hx with hk|hk
 .refine wpAny_storeName_local hk hn (λh' hn' hs=>?_) hcls
  obtain⟨oL,_,_,hoL,_⟩:=id hn
  refine h _ ⟨I.ok,⟨I.os.1,a9 I.os.2 (by first|exact ag _|exact bq _ _)⟩,I.bare,⟨λb o e n hb hx=>?_,λb o e n hb hx=>?_,I.base.free,λb o e hx=>?_,I.base.tups,I.base.frzs,I.base.tbls⟩,⟨_,hn',λj y v' e1 e2 e3=>?_⟩,λy c e=>?_,I.free,I.freeC,λp hp=>?_,tracked ⟨oL,hoL,I.free⟩ hs,by simpa using I.len⟩ ⟨_,hs,.inl rfl⟩
  .exact (hs.2 b (aT (aP (aF e) I.ok.above))).trans (I.base.keep b o e n hb hx)
  .obtain⟨sl,e1⟩:=I.base.slot b o e n hb hx
   exact⟨sl,(hs.2 b (aT (aP (aF e) I.ok.above))).trans e1⟩
  .obtain⟨o',e1⟩:=I.base.there b o e hx
   exact⟨o',(hs.2 b (aT (aP (aF e) I.ok.above))).trans e1⟩
  .by_cases hj:j=i
   .subst hj
    rw[hi] at e1;cases e1
    rw[gL hiU] at e2
    cases e2
    exact⟨u,r,.inl ⟨hk,by simp⟩⟩
   .rw[ii (cA hj)] at e2
    obtain⟨u',r',q⟩:=hl j y v' e1 e2 e3
    refine⟨u',r',?_⟩
    rcases q with ⟨k,e⟩|⟨k,c,e,z⟩
    .refine .inl ⟨k,?_⟩
     have:y≠x:=λe=>hj (Lq hN e1 (e▸hi))
     simp[this,e]
    .exact .inr ⟨k,c,e,z.sameBut hs (cne y c e)⟩
  .obtain⟨w',z⟩:=I.cell y c e
   exact⟨w',z.sameBut hs (cne y c e)⟩
  .obtain⟨e,n,ne,nf,d⟩:=I.pin p hp
   exact⟨(hs.2 p.1 ne).trans e,n,ne,nf,d⟩
 .have hfn:X.fn x=true:=by
   rcases hf with z|z
   .exact z
   .rw[z] at hk;cases hk
  obtain⟨c,hc⟩:=I.ok.has x (.inl hk)
  obtain⟨w',z⟩:=I.cell x c hc
  refine wpAny_storeName_cell I.ok.kind hk hc z (λh' hc' hs=>?_)
  obtain⟨oc,hoc,hocd⟩:=id z
  refine h { s with heap:=h' } ⟨I.ok,I.os,I.bare,⟨λb o e n hb hx=>?_,λb o e n hb hx=>?_,I.base.free,λb o e hx=>?_,I.base.tups,I.base.frzs,I.base.tbls⟩,⟨m,hn.sameBut hs (cA (cne x c hc)),λj y v' e1 e2 e3=>?_⟩,λy c' e=>?_,I.free,I.freeC,λp hp=>?_,tracked ⟨oc,hoc,I.freeC x c hc⟩ hs,by simpa using I.len⟩ ⟨c,hs,.inr hc⟩
  .exact (hs.2 b (aT (aP (aF e) (I.ok.cab x c hfn hc)))).trans (I.base.keep b o e n hb hx)
  .obtain⟨sl,e1⟩:=I.base.slot b o e n hb hx
   exact⟨sl,(hs.2 b (aT (aP (aF e) (I.ok.cab x c hfn hc)))).trans e1⟩
  .obtain⟨o',e1⟩:=I.base.there b o e hx
   exact⟨o',(hs.2 b (aT (aP (aF e) (I.ok.cab x c hfn hc)))).trans e1⟩
  .by_cases hj:j=i
   .subst hj
    rw[hi] at e1;cases e1
    rw[gL hiU] at e2
    cases e2
    exact⟨u,r,.inr ⟨.inl hk,c,hc,hc'⟩⟩
   .rw[ii (cA hj)] at e2
    obtain⟨u',r',q⟩:=hl j y v' e1 e2 e3
    refine⟨u',r',?_⟩
    rcases q with q|⟨k,c',e,z'⟩
    .exact .inl q
    .refine .inr ⟨k,c',e,z'.sameBut hs ?_⟩
     rintro rfl
     exact hj (Lq hN e1 (I.ok.inj _ _ _ e hc▸hi))
  .by_cases hcc:c'=c
   .subst hcc;exact⟨_,hc'⟩
   .obtain⟨w2,z2⟩:=I.cell y c' e
    exact⟨w2,z2.sameBut hs hcc⟩
  .obtain⟨e,n,ne,nf,d⟩:=I.pin p hp
   refine⟨(hs.2 p.1 ?_).trans e,n,ne,nf,d⟩
   intro q
   rw[q,hoc] at e
   have q':oc=p.2:=aG e
   exact d w' (by rw[<- q'];exact hocd)
theorem Hi(I:Inv X ξ U H s)(hN:X.N.Nodup)(hi:X.N[i]?=some x)(hx:Loc X.env.scope x)(r:RelV v u)(h:∀s',Inv X ξ (U.set i (some v)) H s'->Q () s')(hf:X.fn x=true\/X.env.scope.names.lookup x=some .local:=by first|exact .inl rfl|exact .inr rfl|assumption):aK M A (storeName X.env x u) Q E s:=
 Zj I hN hi hx r (λs' I' _=>h s' I') hf
theorem Inv.call'(I:Inv X ξ U H s)(ho:s'.os=s.os/\s.toks<=s'.toks)(u:Un (frs X.stack) ch H H' s.heap s'.heap)(hok:HOk X.prog X.w H' s'.heap)(hg:jK s'.gens)(hch:∀b∈ch,(b∈X.ex\/X.s₀.heap.objs.size<=b)/\b≠X.env.locals/\(∀x c,X.env.cells.lookup x=some c->c≠b)/\∀p∈X.pn++ξ,p.1≠b):Inv X ξ U H' s':=by
 obtain⟨h',g',d',t',o'⟩:=s'
 have e:o'=s.os:=ho.1
 subst e
 exact I.call (g':=g') (t':=t') (d':=d') u hok hg hch ho.2
end
noncomputable abbrev XK:=Value->Option Addr->Hp->Prop
noncomputable abbrev St:=List (Option V)
noncomputable abbrev VK:=V->Hp->Prop
noncomputable abbrev TE:=St->Hp->VK->Prop
noncomputable abbrev TT:=St->Hp->(Bool->Hp->Prop)->Prop
noncomputable abbrev TA:=St->Hp->(List V->Hp->Prop)->Prop
structure ab2 where
 nx:St->Hp->Prop
 rt:VK
 bk:St->Hp->Prop:=λ_ _=>False
 ct:St->Hp->Prop:=λ_ _=>False
noncomputable abbrev TS:=ab2->St->Hp->Prop
noncomputable def EP(X:Cx)(ξ:List (Addr×Obj))(U:St)(Q:VK)(u:Value)(s':av):Prop:=∃v H',Inv X ξ U H' s'/\RelV v u/\Q v H'
noncomputable def TP(X:Cx)(ξ:List (Addr×Obj))(U:St)(Q:Bool->Hp->Prop)(b:Bool)(s':av):Prop:=∃H',Inv X ξ U H' s'/\Q b H'
noncomputable def AP(X:Cx)(ξ:List (Addr×Obj))(U:St)(Q:List V->Hp->Prop)(us:List Value)(s':av):Prop:=∃vs H',Inv X ξ U H' s'/\Vals vs us/\Q vs H'
noncomputable def SP(X:Cx)(ξ:List (Addr×Obj))(D:ab2)(f:Flow)(s':av):Prop:=
 match f with
 |.next=>∃U' H',Inv X ξ U' H' s'/\D.nx U' H'
 |.brk=>∃U' H',Inv X ξ U' H' s'/\D.bk U' H'
 |.cont=>∃U' H',Inv X ξ U' H' s'/\D.ct U' H'
 |.ret u=>∃v U' H',Inv X ξ U' H' s'/\RelV v u/\D.rt v H'
noncomputable def PE(X:Cx)(e:Expr)(t:TE):Prop:=
 ∀(ξ:List (Addr×Obj))(s:av)(U:St)(H:Hp)(Q:VK),Inv X ξ U H s->t U H Q->aK (model X.prog X.w) X.A (eval e X.env) (EP X ξ U Q) X.xe s
noncomputable def PT(X:Cx)(e:Expr)(t:TT):Prop:=
 ∀(ξ:List (Addr×Obj))(s:av)(U:St)(H:Hp)(Q:Bool->Hp->Prop),Inv X ξ U H s->t U H Q->aK (model X.prog X.w) X.A (isTrue e X.env (eval e X.env)) (TP X ξ U Q) X.xe s
noncomputable def PW(X:Cx)(e:Expr)(t:TT):Prop:=
 ∀(whole:Sem Value)(ξ:List (Addr×Obj))(s:av)(U:St)(H:Hp)(Q:Bool->Hp->Prop),Inv X ξ U H s->t U H Q->aK (model X.prog X.w) X.A (isTrue e X.env whole) (TP X ξ U Q) X.xe s
theorem PW.pt(h:PW X e t):PT X e t:=h _
noncomputable def PA(X:Cx)(es:List Expr)(t:TA):Prop:=
 ∀(pos:Pos)(ξ:List (Addr×Obj))(s:av)(U:St)(H:Hp)(Q:List V->Hp->Prop),Inv X ξ U H s->t U H Q->aK (model X.prog X.w) X.A (spliced (jb pos (cX es X.env))) (AP X ξ U Q) X.xe s
noncomputable def PS(X:Cx)(st:Stmt)(t:TS):Prop:=
 ∀(ξ:List (Addr×Obj))(s:av)(U:St)(H:Hp)(D:ab2),Inv X ξ U H s->t D U H->aK (model X.prog X.w) X.A (exec st X.env) (SP X ξ D) X.xe s
noncomputable def PSs(X:Cx)(st:List Stmt)(t:TS):Prop:=
 ∀(ξ:List (Addr×Obj))(s:av)(U:St)(H:Hp)(D:ab2),Inv X ξ U H s->t D U H->aK (model X.prog X.w) X.A (execs st X.env) (SP X ξ D) X.xe s
theorem thn {α:Type}{t:Sem α}{Q Q':α->av->Prop}{M:Model}{A:bP}{E:Value->av->Prop}{s:av}(h:aK M A t Q E s)(hQ:∀a s,Q a s->Q' a s):aK M A t Q' E s:=bW h hQ λ_ _ x=>x
section
variable {X:Cx}
noncomputable def b43(i:Nat):TE:=λU H Q=>∃v,U[i]?=some (some v)/\Q v H
noncomputable def tC(v:V):TE:=λ_ H Q=>Q v H
theorem bh7(hN:X.N[i]?=some x)(hv:Vis X.env.scope x)(hd:(x==("__debug__" : Str))=false:=by decide)(hcd:(x==("__classdict__" : Str))=false:=by decide):PE X (.Name x pos) (b43 i):=by
 intro ξ s U H Q I h
 obtain⟨v,e,h⟩:=h
 obtain⟨m,hn,hl⟩:=I.loc
 obtain⟨u,r,l⟩:=hl i x v hN e hv
 have fin:EP X ξ U Q u s:=⟨v,H,I,r,h⟩
 rcases l with ⟨hk,hm⟩|⟨hk,c,hc,hcell⟩
 .exact wpAny_Name (wpAny_loadName_local I.ok.kind hk hn hm fin) hd
 .rcases hk with hk|hk
  .exact wpAny_Name (wpAny_loadName_cell I.ok.kind hk hc hcell fin) hd
  .exact wpAny_Name (wpAny_loadName_free I.ok.kind hk hc hcell fin hcd) hd
theorem bh1 {i j pos}:PE X (.Constant (.int i) j pos) (tC (.int i)):=λ_ _ _ H _ I h=>wpAny_Constant_int ⟨.int i,H,I.tok _,⟨_,rfl⟩,h⟩
theorem bu6 {b j pos}:PE X (.Constant (.bool b) j pos) (tC (.bl b)):=λ_ _ _ H _ I h=>Constant_bool ⟨.bl b,H,I,rfl,h⟩
theorem bh3 {j pos}:PE X (.Constant .none j pos) (tC .non):=λ_ _ _ H _ I h=>Constant_none ⟨.non,H,I,rfl,h⟩
theorem bh5 {x j pos}:PE X (.Constant (.str x) j pos) (tC (.str x)):=λ_ _ _ H _ I h=>Calls.Constant_str ⟨.str x,H,I.tok _,⟨_,rfl⟩,h⟩
noncomputable def Gl(X:Cx)(x:Str):Prop:=X.env.kindOf x=some .globalImplicit
theorem Dr(I:Inv X ξ U H s)(hg:Gl X x)(hm:X.mg x=some u)(h:Q u s)(hd:(x==("__debug__" : Str))=false:=by decide):aK (model X.prog X.w) X.A (eval (.Name x pos) X.env) Q E s:=
 iJ I.ok.kind hg (Calls.loadGlobal_global (by rw[I.ok.glob];exact I.mod.glob.keeps I.bk) hm h) hd
theorem Dk(I:Inv X ξ U H s)(hg:Gl X x)(hm:X.mg x=none)(hv:cW x=some u)(h:Q u s)(hn:x ≠ "__name__" := by decide)(hd:(x==("__debug__" : Str))=false:=by decide):aK (model X.prog X.w) X.A (eval (.Name x pos) X.env) Q E s:=by
 obtain⟨mb,h1,h2⟩:=I.mod.blt
 exact iJ I.ok.kind hg (Calls.loadGlobal_builtin (by rw[I.ok.glob];exact I.mod.glob.keeps I.bk) hm (by rw[I.ok.blt];exact h1.keeps I.bk) ((h2 x hn).trans hv) h) hd
theorem P1(hg:Gl X x)(hm:X.mg x=some u)(r:RelV v u)(hd:(x==("__debug__" : Str))=false:=by decide):PE X (.Name x pos) (tC v):=
 λ_ _ _ H _ I h=>Dr I hg hm ⟨v,H,I,r,h⟩ hd
theorem ax8(hg:Gl X x)(hm:X.mg x=none)(hv:cW x=some u)(r:RelV v u)(hn:x ≠ "__name__" := by decide)(hd:(x==("__debug__" : Str))=false:=by decide):PE X (.Name x pos) (tC v):=
 λ_ _ _ H _ I h=>Dk I hg hm hv ⟨v,H,I,r,h⟩ hn hd
variable {a b:Expr} {ta tb:TE} {pos:Pos}
variable {tA tB':TT} {rest:List Expr}
noncomputable def b34(t u:TT):TT:=λU H Q=>t U H λc H1=>if c=true then u U H1 Q else Q false H1
noncomputable def tOr(t u:TT):TT:=λU H Q=>t U H λc H1=>if c=true then Q true H1 else u U H1 Q
noncomputable def b39(t:TT):TT:=λU H Q=>t U H λc H1=>Q (!c) H1
theorem ay9(ha:PT X a tA):PW X (.BoolOp .And [a] pos) tA:=by
 intro wh ξ s U H Q I h
 refine isTrue_and (thn (ha ξ s U H Q I h) λc s1 e=>?_)
 cases c with
 |true=>exact isTrue_and_nil e
 |false=>exact e
theorem bi6(ha:PT X a tA):PW X (.BoolOp .Or [a] pos) tA:=by
 intro wh ξ s U H Q I h
 refine isTrue_or (thn (ha ξ s U H Q I h) λc s1 e=>?_)
 cases c with
 |false=>exact isTrue_or_nil e
 |true=>exact e
theorem bi5(ha:PT X a tA)(hb:PW X (.BoolOp .And (b::rest) pos) tB'):PW X (.BoolOp .And (a::b::rest) pos) (b34 tA tB'):=by
 intro wh ξ s U H Q I h
 refine isTrue_and (thn (ha ξ s U H _ I h) λc s1 ⟨H1,I1,q1⟩=>?_)
 cases c with
 |true=>exact hb wh ξ s1 U H1 Q I1 q1
 |false=>exact⟨H1,I1,q1⟩
theorem bv2(ha:PT X a tA)(hb:PW X (.BoolOp .Or (b::rest) pos) tB'):PW X (.BoolOp .Or (a::b::rest) pos) (tOr tA tB'):=by
 intro wh ξ s U H Q I h
 refine isTrue_or (thn (ha ξ s U H _ I h) λc s1 ⟨H1,I1,q1⟩=>?_)
 cases c with
 |true=>exact⟨H1,I1,q1⟩
 |false=>exact hb wh ξ s1 U H1 Q I1 q1
theorem bi3(ha:PT X a tA):PT X (.UnaryOp .Not a pos) (b39 tA):=by
 intro ξ s U H Q I h
 exact isTrue_not (ha ξ s U H (λc H1=>Q (!c) H1) I h)
theorem bh4 {op}(h:PE X a t):PE X (.BoolOp op [a] pos) t:=λξ s U H Q I hw=>BoolOp_one (h ξ s U H Q I hw)
noncomputable def tIf(t:TT)(ta tb:TE):TE:=λU H Q=>t U H λc H1=>if c=true then ta U H1 Q else tb U H1 Q
theorem aj0 {c:Expr}(hc:PT X c tA)(ha:PE X a ta)(hb:PE X b tb):PE X (.IfExp c a b pos) (tIf tA ta tb):=by
 intro ξ s U H Q I h
 refine wpAny_IfExp (thn (hc ξ s U H _ I h) λd s1 ⟨H1,I1,q1⟩=>?_)
 cases d with
 |true=>exact ha ξ s1 U H1 Q I1 q1
 |false=>exact hb ξ s1 U H1 Q I1 q1
end
noncomputable def SqL(K:ac)(H:Hp)(a:Addr)(xs:List V):Prop:=
 Rd H a (.lst xs) \/
  ∃(o:Obj)(χ:Array Value)(n:Nat),K.lookup a=some o/\o.cls=.type "list" /\ o.dict=none/\o.data=.seq χ n/\χ.size<=sizeLine/\xs.all V.pl=true/\Vals xs χ.toList
noncomputable def SqT(K:ac)(H:Hp)(a:Addr)(xs:List V):Prop:=
 Rd H a (.tup xs) \/
  ∃(o:Obj)(χ:Array Value)(n:Nat),K.lookup a=some o/\o.cls=.type "tuple" /\ o.data=.seq χ n/\χ.size<=sizeLine/\xs.all V.pl=true/\Vals xs χ.toList
noncomputable def b16:Value->Option V
 |.none=>some .non
 |.bool b=>some (.bl b)
 |.int i _=>some (.int i)
 |.str x _=>some (.str x)
 |.bytes b _=>some (.byt b)
 |.ref a=>some (.ref a)
 |.type n=>some (.ty n)
 |_=>none
theorem RelV.abs(r:RelV x u)(p:x.pl=true):b16 u=some x:=by
 cases x with
 |non=>cases r;rfl
 |bl _=>cases r;rfl
 |int _=>obtain⟨t,rfl⟩:=r;rfl
 |str _=>obtain⟨t,rfl⟩:=r;rfl
 |byt _=>obtain⟨t,rfl⟩:=r;rfl
 |stk _ _ _=>cases p
 |ref _=>cases r;rfl
 |ty _=>cases r;rfl
theorem RelV.inj {x y:V}{u:Value}(r:RelV x u)(q:RelV y u)(p:x.pl=true)(p':y.pl=true):x=y:=aG ((r.abs p).symm.trans (q.abs p'))
theorem Vals.inj:∀ {xs ys:List V} {us:List Value},Vals xs us->Vals ys us->xs.all V.pl=true->ys.all V.pl=true->xs=ys
 |_,_,_,.nil,.nil,_,_=>rfl
 | _,_,_,.cons r t,.cons r' t',p,q=>by
  simp only[bR,aH] at p q
  rw[r.inj r' p.1 q.1,Vals.inj t t' p.2 q.2]
section
variable {X:Cx} {ξ:List (Addr×Obj)} {U:St} {H:Hp} {s:av} {a:Addr} {xs ys:List V}
theorem SqL.of {K:ac}(h:H a=some (.lst xs)):SqL K H a xs:=.inl (.inl h)
theorem SqT.of {K:ac}(h:H a=some (.tup xs)):SqT K H a xs:=.inl (.inl h)
theorem Inv.list(I:Inv X ξ U H s)(h:SqL X.K H a xs):∃χ:List Value,Vals xs χ/\PlainL s.heap a χ.toArray/\xs.length<=sizeLine:=by
 rcases h with h|⟨o,χ,n,hk,hc,hd,hs,hz,_,r⟩
 .obtain⟨z,χ,n,r,e⟩:=h.ok I.hok
  exact⟨χ,r,⟨_,n,e,rfl,rfl,rfl⟩,z⟩
 .refine⟨χ.toList,r,⟨o,n,I.kIn a o hk,hc,hd,by simpa using hs⟩,?_⟩
  have e:=r.length
  simp only[dw] at e
  omega
theorem Inv.tuple(I:Inv X ξ U H s)(h:SqT X.K H a xs):∃χ:List Value,Vals xs χ/\mH s.heap a χ.toArray/\xs.length<=sizeLine:=by
 rcases h with h|⟨o,χ,n,hk,hc,hs,hz,_,r⟩
 .obtain⟨z,χ,r,p⟩:=h.ok I.hok
  exact⟨χ,r,p,z⟩
 .refine⟨χ.toList,r,⟨o,I.kIn a o hk,hc,n,by simpa using hs⟩,?_⟩
  have e:=r.length
  simp only[dw] at e
  omega
theorem Inv.notK(I:Inv X ξ U H s)(h:Rd H a o)(e:X.K.lookup a=some ob):False:=by
 have n:=(I.bs a ob (I.mod.kin a ob e)).2
 rcases h with h|⟨u,h⟩
 .rw[n] at h;cases h
 .rw[n] at h;cases h
theorem Inv.list_inj(I:Inv X ξ U H s)(h:SqL X.K H a xs)(h':SqL X.K H a ys):xs=ys:=by
 rcases h with h|⟨o,χ,n,hk,hc,hd,hs,hz,p,r⟩
 .rcases h' with h'|⟨o',its',n',hk',hc',hd',hs',hz',p',r'⟩
  .rcases h with h|⟨u,h⟩ <;> rcases h' with h'|⟨u',h'⟩ <;> (rw[h] at h';first|(cases h';rfl)|cases h')
  .exact (I.notK h hk').elim
 .rcases h' with h'|⟨o',its',n',hk',hc',hd',hs',hz',p',r'⟩
  .exact (I.notK h' hk).elim
  .rw[hk] at hk';cases hk'
   rw[hs] at hs';cases hs'
   exact r.inj r' p p'
theorem Inv.tuple_inj(I:Inv X ξ U H s)(h:SqT X.K H a xs)(h':SqT X.K H a ys):xs=ys:=by
 rcases h with h|⟨o,χ,n,hk,hc,hs,hz,p,r⟩
 .rcases h' with h'|⟨o',its',n',hk',hc',hs',hz',p',r'⟩
  .rcases h with h|⟨u,h⟩ <;> rcases h' with h'|⟨u',h'⟩ <;> (rw[h] at h';first|(cases h';rfl)|cases h')
  .exact (I.notK h hk').elim
 .rcases h' with h'|⟨o',its',n',hk',hc',hs',hz',p',r'⟩
  .exact (I.notK h' hk).elim
  .rw[hk] at hk';cases hk'
   rw[hs] at hs';cases hs'
   exact r.inj r' p p'
end
noncomputable abbrev Cx.wish(X:Cx)(E:Value->av->Prop):Cx:={ X with xe:=E }
noncomputable abbrev Cx.nox(X:Cx):Cx:=X.wish λ_ _=>False
theorem Cx.Ok.wish {X:Cx}(ok:X.Ok)(E:Value->av->Prop):(X.wish E).Ok:=
 ⟨ok.mod,ok.kind,ok.glob,ok.blt,ok.above,ok.inj,ok.has,ok.cab,ok.hd,ok.frames,ok.stk,ok.exf,ok.bs,ok.bsz,ok.noex,ok.exfs,ok.funs,ok.frf,ok.tk⟩
theorem Cx.Ok.unwish {X:Cx}{E:Value->av->Prop}(ok:(X.wish E).Ok):X.Ok:=
 ⟨ok.mod,ok.kind,ok.glob,ok.blt,ok.above,ok.inj,ok.has,ok.cab,ok.hd,ok.frames,ok.stk,ok.exf,ok.bs,ok.bsz,ok.noex,ok.exfs,ok.funs,ok.frf,ok.tk⟩
section
variable {X:Cx} {ξ:List (Addr×Obj)} {U:St} {H:Hp} {s:av} {E:Value->av->Prop}
theorem Inv.wish(I:Inv X ξ U H s)(E:Value->av->Prop):Inv (X.wish E) ξ U H s:=⟨I.ok.wish E,I.os,I.bare,I.base,I.loc,I.cell,I.free,I.freeC,I.pin,I.hok,I.len⟩
theorem Inv.unwish(I:Inv (X.wish E) ξ U H s):Inv X ξ U H s:=⟨I.ok.unwish,I.os,I.bare,I.base,I.loc,I.cell,I.free,I.freeC,I.pin,I.hok,I.len⟩
theorem SP.unwish(h:SP (X.wish E) ξ D f s'):SP X ξ D f s':=by
 cases f with
 |next=>obtain⟨U',H',I,q⟩:=h;exact⟨U',H',I.unwish,q⟩
 |brk=>obtain⟨U',H',I,q⟩:=h;exact⟨U',H',I.unwish,q⟩
 |cont=>obtain⟨U',H',I,q⟩:=h;exact⟨U',H',I.unwish,q⟩
 |ret u=>obtain⟨v,U',H',I,r,q⟩:=h;exact⟨v,U',H',I.unwish,r,q⟩
theorem PE.nox(h:PE X.nox e t):PE X e t:=λξ s U H Q I hw=>
 bW (h ξ s U H Q (I.wish _) hw) (λ_ _ ⟨v,H',I',r,q⟩=>⟨v,H',I'.unwish,r,q⟩) λ_ _ z=>cb z
theorem PSs.nox {st:List Stmt}{t:TS}(h:PSs X.nox st t):PSs X st t:=λξ s U H D I hw=>
 bW (h ξ s U H D (I.wish _) hw) (λ_ _ q=>q.unwish) λ_ _ z=>cb z
end
section
variable {X:Cx} {st:Stmt} {rest:List Stmt} {t u:TS} {e:Expr} {te:TE} {pos:Pos}
noncomputable def a52:TS:=λD U H=>D.nx U H
noncomputable def b41(t u:TS):TS:=λD U H=>t { D with nx:=u D } U H
theorem ay6:PSs X [] a52:=λ_ _ U H _ I h=>jZ ⟨U,H,I,h⟩
theorem ak0(h1:PS X st t)(h2:PSs X rest u):PSs X (st::rest) (b41 t u):=by
 intro ξ s U H D I h
 refine wpAny_execs_cons (thn (h1 ξ s U H { D with nx:=u D } I h) λf s1 q=>?_)
 cases f with
 |next=>
  obtain⟨U',H',I',q⟩:=q
  exact h2 ξ s1 U' H' D I' q
 |ret v=>exact q
 |brk=>exact q
 |cont=>exact q
noncomputable def bm5:TS:=λD U H=>D.bk U H
noncomputable def bw7:TS:=λD U H=>D.ct U H
theorem ay4:PS X (.Pass pos) a52:=λ_ _ U H _ I h=>wpAny_Pass ⟨U,H,I,h⟩
theorem aj8:PS X (.Break pos) bm5:=λ_ _ U H _ I h=>wpAny_Break ⟨U,H,I,h⟩
theorem Sh:PS X (.Continue pos) bw7:=λ_ _ U H _ I h=>wpAny_Continue ⟨U,H,I,h⟩
theorem Inv.quiet {ξ:List (Addr×Obj)}{U:St}{H:Hp}{s:av}(I:Inv X ξ U H s):interactive X.env=false:=by simp[interactive,I.ok.kind]
noncomputable def bw8(te:TE):TS:=λD U H=>te U H λ_ H1=>D.nx U H1
theorem ay3(he:PE X e te)(hs:je e none pos.line X.env=pure false:=by rfl):PS X (.Expr e pos) (bw8 te):=by
 intro ξ s U H D I h
 exact wpAny_Expr_any (thn (he ξ s U H _ I h) λv s1 ⟨x,H1,I1,r1,q1⟩=>⟨U,H1,I1,q1⟩) I.quiet hs
noncomputable def b40(te:TE):TS:=λD U H=>te U H D.rt
theorem bi1(he:PE X e te):PS X (.Return (some e) pos) (b40 te):=by
 intro ξ s U H D I h
 exact wpAny_Return_some (thn (he ξ s U H _ I h) λv s1 ⟨x,H1,I1,r1,q1⟩=>⟨x,U,H1,I1,r1,q1⟩)
noncomputable def bw9:TS:=λD _ H=>D.rt .non H
theorem ay5:PS X (.Return none pos) bw9:=λ_ _ U H _ I h=>wpAny_Return_none ⟨.non,U,H,I,rfl,h⟩
noncomputable def b36(c:TT)(t u:TS):TS:=λD U H=>c U H λb H1=>if b=true then t D U H1 else u D U H1
theorem bv1 {c:Expr}{a b:List Stmt}{tc:TT}(hc:PT X c tc)(ha:PSs X a t)(hb:PSs X b u):PS X (.If c a b pos) (b36 tc t u):=by
 intro ξ s U H D I h
 refine wpAny_If (thn (hc ξ s U H _ I h) λd s1 ⟨H1,I1,q1⟩=>?_)
 cases d with
 |true=>exact ha ξ s1 U H1 D I1 q1
 |false=>exact hb ξ s1 U H1 D I1 q1
end
noncomputable abbrev TG:=V->St->Hp->(St->Hp->Prop)->Prop
noncomputable abbrev TGs:=List V->St->Hp->(St->Hp->Prop)->Prop
noncomputable def PG(X:Cx)(target:Expr)(t:TG):Prop:=
 ∀(ξ:List (Addr×Obj))(s:av)(U:St)(H:Hp)(v:V)(u:Value)(Q:St->Hp->Prop),Inv X ξ U H s->RelV v u->t v U H Q ->
  aK (model X.prog X.w) X.A (lI target X.env u) (λ_ s'=>∃U' H',Inv X ξ U' H' s'/\Q U' H') X.xe s
noncomputable def PGs(X:Cx)(ts:List Expr)(t:TGs):Prop:=
 ∀(ξ:List (Addr×Obj))(s:av)(U:St)(H:Hp)(vs:List V)(us:List Value)(Q:St->Hp->Prop),Inv X ξ U H s->Vals vs us->t vs U H Q ->
  aK (model X.prog X.w) X.A (assignInOrder ((c9 ts X.env).map (·.2)) us) (λ_ s'=>∃U' H',Inv X ξ U' H' s'/\Q U' H') X.xe s
noncomputable abbrev bo3:=V->V->V->Hp->(Hp->Prop)->Prop
noncomputable def a75(X:Cx)(t:bo3):Prop:=
 ∀(ξ:List (Addr×Obj))(s:av)(U:St)(H:Hp)(o i v:V)(ov iv u:Value)(Q:Hp->Prop),Inv X ξ U H s->RelV o ov->RelV i iv->RelV v u->t o i v H Q ->
  aK (model X.prog X.w) X.A (mC ov iv u) (λ_ s'=>∃H',Inv X ξ U H' s'/\Q H') X.xe s
section
variable {X:Cx} {pos:Pos}
noncomputable def ae8(i:Nat):TG:=λv U H Q=>Q (U.set i (some v)) H
theorem ay0(hN:X.N.Nodup)(hi:X.N[i]?=some x)(hx:Loc X.env.scope x)(hf:X.fn x=true\/X.env.scope.names.lookup x=some .local:=by first|exact .inl rfl|exact .inr rfl|assumption):PG X (.Name x pos) (ae8 i):=by
 intro ξ s U H v u Q I r h
 exact wpAny_assign_Name (Hi I hN hi hx r (λs' I'=>⟨_,H,I',h⟩) hf)
noncomputable def b20:TGs:=λvs U H Q=>vs=[]/\Q U H
noncomputable def bp8(t:TG)(u:TGs):TGs:=λvs U H Q=>∃v r,vs=v::r/\t v U H λU' H'=>u r U' H' Q
theorem ay1:PGs X [] b20:=by
 intro ξ s U H vs us Q I r h
 obtain⟨e,h⟩:=h
 subst e
 cases r
 exact assignInOrder_nil ⟨U,H,I,h⟩
theorem aj1 {e:Expr}{es:List Expr}{t:TG}{u:TGs}(h1:PG X e t)(h2:PGs X es u)(hs:(c9 (e::es) X.env).map (·.2)=lI e X.env::(c9 es X.env).map (·.2):=by rfl):PGs X (e::es) (bp8 t u):=by
 intro ξ s U H vs us Q I r h
 obtain⟨v,vr,e1,h⟩:=h
 subst e1
 cases r with
 |cons r rr=>
  rw[hs]
  refine assignInOrder_cons (thn (h1 ξ s U H _ _ _ I r h) λ_ s1 ⟨U1,H1,I1,q1⟩=>?_)
  exact h2 ξ s1 U1 H1 _ _ Q I1 rr q1
noncomputable def b22(K:ac)(n:Nat)(t:TGs):TG:=λv U H Q=>∃a xs,v=.ref a/\SqT K H a xs/\xs.length=n/\t xs U H Q
theorem bh9(hc:X.calm=true)(h:PGs X es t)(hn:(c9 es X.env).length=n:=by rfl)(hst:(c9 es X.env).findIdx? (·.1)=none:=by rfl):PG X (.Tuple es k pos) (b22 X.K n t):=by
 intro ξ s U H v u Q I r hw
 obtain⟨a,xs,e1,hq,hl,hw⟩:=hw
 subst e1
 cases r
 obtain⟨χ,rv,ht,hz⟩:=I.tuple hq
 refine assign_Tuple_tuple (I.ok.hd hc) ht (by simp[hn,<- hl,rv.length]) hst λh' hx=>?_
 have I1:Inv X ξ U H { s with heap:=h' }:=I.kept (t':=s.toks) λb o e=>hx b o (aT (aF e)) e
 exact h ξ _ U H xs _ Q I1 (by simpa using rv) hw
noncomputable def b21(to ti:TE)(t:bo3):TG:=λv U H Q=>to U H λo H1=>ti U H1 λi H2=>t o i v H2 λH3=>Q U H3
theorem bh8(ho:PE X o to)(hi:PE X i ti)(hs:a75 X t)(ha:∀v,lI (.Subscript o i pos) X.env v=(do
   let ov <- my [v] (eval o X.env)
   let iv <- my [v,ov] (eval i X.env)
   mE pos
   my [v,ov,iv] (mC ov iv v)
   release [v,ov,iv] []):=by intro _;rfl):PG X (.Subscript o i pos) (b21 to ti t):=by
 intro ξ s U H v u Q I r h
 rw[ha]
 refine af (bj (thn (ho ξ s U H _ I h) λov s1 ⟨x,H1,I1,r1,q1⟩=>?_))
 refine af (bj (thn (hi ξ s1 U H1 _ I1 q1) λiv s2 ⟨y,H2,I2,r2,q2⟩=>?_))
 refine af (e8 (af (bj (thn (hs ξ s2 U H2 x y v ov iv u _ I2 r1 r2 r q2) λ_ s3 ⟨H3,I3,q3⟩=>?_))))
 exact wpAny_release ⟨U,H3,I3,q3⟩
noncomputable def bm4(te:TE)(g:TG):TS:=λD U H=>te U H λx H1=>g x U H1 D.nx
theorem aj7(he:PE X e te)(hg:PG X tg g)(hs:k_ [tg] e pos.line X.env=pure false:=by rfl)(hw:swappedStores [tg] e X.env=pure none:=by rfl)(h1:(c9 [tg] X.env).map (·.2)=[lI tg X.env]:=by rfl):PS X (.Assign [tg] e pos) (bm4 te g):=by
 intro ξ s U H D I h
 refine wpAny_Assign_stores (thn (he ξ s U H _ I h) λv s1 ⟨x,H1,I1,r1,q1⟩=>?_) hs hw
 rw[h1]
 exact thn (hg ξ s1 U H1 x v _ I1 r1 q1) λ_ s2 q=>q
theorem bi2(hN:X.N.Nodup)(hi:X.N[i]?=some x)(hx:Loc X.env.scope x)(he:PE X e te)(hs:je e (some (.Name x pos')) pos.line X.env=pure false:=by rfl)(hf:X.fn x=true\/X.env.scope.names.lookup x=some .local:=by first|exact .inl rfl|exact .inr rfl|assumption) :
  PS X (.Assign [.Name x pos'] e pos) (bm4 te (ae8 i)):=by
 intro ξ s U H D I h
 refine wpAny_Assign_Name (thn (he ξ s U H _ I h) λv s1 ⟨y,H1,I1,r1,q1⟩=>?_) hs
 exact Hi I1 hN hi hx r1 (λs2 I2=>⟨_,H1,I2,q1⟩) hf
end
structure It where
 go:Nat->Hp->Prop
 yld:Nat->Hp->V->Hp->Prop
 stop:Nat->Hp->Prop
noncomputable def Cq(X:Cx)(ξ:List (Addr×Obj))(H:Hp)(b:Addr):Prop:=
 H b=none/\b≠X.env.locals/\b∉X.fs/\(b∈X.ex\/X.s₀.heap.objs.size<=b)/\(∀x c,X.env.cells.lookup x=some c->c≠b)/\∀p∈X.pn++ξ,p.1≠b
theorem Inv.fpOk(I:Inv X ξ U H s)(hb:s.heap.objs.size<=b)(hn:H' b=none):Cq X ξ H' b:=by
 refine⟨hn,hU (aP I.lt hb),I.nofs hb,.inr (a9 I.sz hb),λx c e z=>?_,λp hp z=>?_⟩
 .obtain⟨v,q⟩:=I.cell x c e
  exact absurd (aP q.lt (by rw[z];exact hb)) (fK _)
 .exact absurd (aP (aF (I.pin p hp).1) (by rw[z];exact hb)) (fK _)
structure Mn (P:ba) (w:bL) (K:ac) (tg:Expr) (J:It) (fp:List Addr) (it:Addr) (tn:Nat->Heap->Prop):Prop where
 mem:it∈fp
 obj:∀i h,tn i h -> ∀b∈fp,∃o,h.get? b=some o/\∀v,o.data≠.cell v
 keep:∀i h h',tn i h->(∀b∈fp,∀o,h.get? b=some o->h'.get? b=some o)->tn i h'
 item:∀(X:Cx),X.prog=P->X.w=w->X.K=K->X.calm=true -> ∀(i:Nat)(ξ:List (Addr×Obj))(s:av)(U:St)(H:Hp)(E:Value->av->Prop),Inv X ξ U H s->(∀b∈fp,Cq X ξ H b)->tn i s.heap->J.go i H ->
  aK (model P w) X.A (jC (.ref it)) (λr s1=>∃u,r=some u /\
   aK (model P w) X.A (iF tg (.ref it) u) (λ_ s2=>∃x H',Inv X ξ U H' s2/\RelV x u/\J.yld i H x H'/\tn (i+1) s2.heap/\∀b∈fp,H' b=none) E s1) E s
 done:∀(X:Cx),X.prog=P->X.w=w->X.K=K->X.calm=true -> ∀(i:Nat)(ξ:List (Addr×Obj))(s:av)(U:St)(H:Hp)(E:Value->av->Prop),Inv X ξ U H s->(∀b∈fp,Cq X ξ H b)->tn i s.heap->J.stop i H ->
  aK (model P w) X.A (jC (.ref it)) (λr s1=>r=none/\Inv X ξ U H s1) E s
 self:∀(A:bP)(i:Nat)(s:av)(Q:Value->av->Prop)(E:Value->av->Prop),tn i s.heap->Q (.ref it) s->aK (model P w) A (mf (.ref it)) Q E s
noncomputable abbrev TI:=St->Hp->(It->Hp->Prop)->Prop
noncomputable def PIE(X:Cx)(ξ:List (Addr×Obj))(U:St)(tg:Expr)(R:It->Hp->Prop)(itv:Value)(s2:av):Prop:=
 ∃(it:Addr)(fp:List Addr)(tn:Nat->Heap->Prop)(J:It)(H':Hp),itv=.ref it/\Inv X ξ U H' s2/\Mn X.prog X.w X.K tg J fp it tn/\tn 0 s2.heap/\(∀b∈fp,Cq X ξ H' b)/\R J H'
noncomputable def PI(X:Cx)(tg iter:Expr)(wi:TI):Prop:=
 ∀(ξ:List (Addr×Obj))(s:av)(U:St)(H:Hp)(R:It->Hp->Prop),Inv X ξ U H s->wi U H R ->
  aK (model X.prog X.w) X.A (eval iter X.env) (λv s1=>aK (model X.prog X.w) X.A (mf v) (PIE X ξ U tg R) X.xe s1) X.xe s
theorem La(ho:s.heap.get? it=some o)(hc:o.cls=.type n)(hd:o.data=.fields vs)(hn:["enumerate", "zip", "dict_itemiterator", "dict_reverseitemiterator", "odict_iterator", "itertools.zip_longest", "itertools.pairwise"].contains n=false)(hQ:Q () s):aK M A (iF tg (.ref it) u) Q E s:=by
  unfold iF
  cases tg <;> first
    |exact ai hQ
    | (cases u <;> first
        |exact ai hQ
        | (refine af (wpAny_load ho ?_)
           rw[hc,hd]
           show aK M A (if (["enumerate", "zip", "dict_itemiterator", "dict_reverseitemiterator", "odict_iterator", "itertools.zip_longest", "itertools.pairwise"].contains n&&vs[0]? == some (eh _))=true then _ else _) Q E s
           rw[if_neg (by intro h;rw[hn,kg] at h;cases h)]
           exact ai hQ))
noncomputable def Itl(K:ac)(a:Addr):It:=
 ⟨λi H=>∃xs x,SqL K H a xs/\xs[i]?=some x,λi H x H'=>H'=H/\∀xs,SqL K H a xs->xs[i]?=some x,λi H=>∃xs,SqL K H a xs/\xs.length<=i⟩
noncomputable def Itt(K:ac)(a:Addr):It:=
 ⟨λi H=>∃xs x,SqT K H a xs/\xs[i]?=some x,λi H x H'=>H'=H/\∀xs,SqT K H a xs->xs[i]?=some x,λi H=>∃xs,SqT K H a xs/\xs.length<=i⟩
noncomputable def Itr(lo:Int)(n:Nat):It:=⟨λi _=>i<n,λi H x H'=>H'=H/\x=.int (lo+i),λi _=>n<=i⟩
theorem Zo {P:ba}{w:bL}{K:ac}{tg:Expr}(a it:Addr):Mn P w K tg (Itl K a) [it] it (λi h=>h.IsListIter it a i) where
 mem:=by simp
 obj:=λi h st b hb=>by
  have e:b=it:=by simpa using hb
  subst e
  obtain⟨o,e,c,d⟩:=st
  exact⟨o,e,λv z=>by rw[d] at z;cases z⟩
 keep:=λi h h' st k=>st.at λo e=>k it (by simp) o e
 item:=by
  intro X hP hw hK hc i ξ s U H E I hf st hg
  subst hP hw hK
  obtain⟨xs,x,hq,hx⟩:=hg
  obtain⟨χ,rv,p,hz⟩:=I.list hq
  obtain⟨u,hu,ru⟩:=rv.get hx
  obtain⟨f0,f1,f2,f3,f4,f5⟩:=hf it (by simp)
  refine wpAny_pyNext_list_item st p.isList (x:=u) (by simpa using hu) λh' st' sb=>?_
  have I1:Inv X ξ U H { s with heap:=h' }:=I.turned (t':=s.toks) (λb o hb e=>(sb.2 b hb).trans e) f0 f1 f3 f4 f5
  obtain⟨o,e,c,d⟩:=id st'
  exact⟨u,rfl,La (s:={ s with heap:=h' }) e c d (by decide) ⟨x,H,I1,ru,⟨rfl,λys hy=>by rw[I.list_inj hy hq];exact hx⟩,st',λb hb=>(hf b hb).1⟩⟩
 done:=by
  intro X hP hw hK hc i ξ s U H E I hf st hg
  subst hP hw hK
  obtain⟨xs,hq,hx⟩:=hg
  obtain⟨χ,rv,p,hz⟩:=I.list hq
  obtain⟨f0,f1,f2,f3,f4,f5⟩:=hf it (by simp)
  have hl:=rv.length
  exact wpAny_pyNext_list_end (I.ok.hd hc) st p.isList (by simp;omega) λh' eb=>⟨rfl,I.turned (t':=s.toks) (λb o hb e=>eb b o hb e) f0 f1 f3 f4 f5⟩
 self:=λ_ _ _ _ _ st h=>wpAny_pyIter_listiter st h
theorem V9 {P:ba}{w:bL}{K:ac}{tg:Expr}(a it:Addr):Mn P w K tg (Itt K a) [it] it (λi h=>h.IsTupleIter it a i) where
 mem:=by simp
 obj:=λi h st b hb=>by
  have e:b=it:=by simpa using hb
  subst e
  obtain⟨o,e,c,d⟩:=st
  exact⟨o,e,λv z=>by rw[d] at z;cases z⟩
 keep:=λi h h' st k=>st.at λo e=>k it (by simp) o e
 item:=by
  intro X hP hw hK hc i ξ s U H E I hf st hg
  subst hP hw hK
  obtain⟨xs,x,hq,hx⟩:=hg
  obtain⟨χ,rv,p,hz⟩:=I.tuple hq
  obtain⟨u,hu,ru⟩:=rv.get hx
  obtain⟨f0,f1,f2,f3,f4,f5⟩:=hf it (by simp)
  refine wpAny_pyNext_tuple_item st (show s.heap.IsTuple a χ.toArray from p) (x:=u) (by simpa using hu) λh' st' sb=>?_
  have I1:Inv X ξ U H { s with heap:=h' }:=I.turned (t':=s.toks) (λb o hb e=>(sb.2 b hb).trans e) f0 f1 f3 f4 f5
  obtain⟨o,e,c,d⟩:=id st'
  exact⟨u,rfl,La (s:={ s with heap:=h' }) e c d (by decide) ⟨x,H,I1,ru,⟨rfl,λys hy=>by rw[I.tuple_inj hy hq];exact hx⟩,st',λb hb=>(hf b hb).1⟩⟩
 done:=by
  intro X hP hw hK hc i ξ s U H E I hf st hg
  subst hP hw hK
  obtain⟨xs,hq,hx⟩:=hg
  obtain⟨χ,rv,p,hz⟩:=I.tuple hq
  obtain⟨f0,f1,f2,f3,f4,f5⟩:=hf it (by simp)
  have hl:=rv.length
  exact wpAny_pyNext_tuple_end (I.ok.hd hc) st (show s.heap.IsTuple a χ.toArray from p) (by simp;omega) λh' eb=>⟨rfl,I.turned (t':=s.toks) (λb o hb e=>eb b o hb e) f0 f1 f3 f4 f5⟩
 self:=λ_ _ _ _ _ st h=>wpAny_pyIter_tupleiter st h
theorem V8 {P:ba}{w:bL}{K:ac}{tg:Expr}(it:Addr)(lo:Int)(n:Nat):Mn P w K tg (Itr lo n) [it] it (λi h=>IsRangeIter h it (lo+(i:Nat) * 1) ((n:Int) - (i:Nat)) 1) where
 mem:=by simp
 obj:=λi h st b hb=>by
  have e:b=it:=by simpa using hb
  subst e
  exact⟨_,st,λv z=>by
   have z':Data.fields _=Data.cell v:=z
   cases z'⟩
 keep:=λi h h' st k=>k it (by simp) _ st
 item:=by
  intro X hP hw hK hc i ξ s U H E I hf st hg
  subst hP hw hK
  obtain⟨f0,f1,f2,f3,f4,f5⟩:=hf it (by simp)
  have W:=Walks.range (prog:=X.prog) (w:=X.w) (I.ok.hd hc) it lo 1 n
  refine bB (ag _) (W.item i s _ _ hg st λv h' tk hv st' kk htk=>?_)
  obtain⟨t,rfl⟩:=hv
  have I1:Inv X ξ U H { s with heap:=h',toks:=tk }:=I.turned (λb o hb e=>kk b o (by simpa using hb) e) f0 f1 f3 f4 f5
  refine⟨_,rfl,La (s:={ s with heap:=h',toks:=tk }) (n := "range_iterator") st' rfl rfl (by decide) ⟨.int (lo+i),H,I1,⟨t,?_⟩,⟨rfl,rfl⟩,st',λb hb=>(hf b hb).1⟩⟩
  rw[Int.mul_one]
 done:=by
  intro X hP hw hK hc i ξ s U H E I hf st hg
  subst hP hw hK
  obtain⟨f0,f1,f2,f3,f4,f5⟩:=hf it (by simp)
  exact wpAny_pyNext_range_end (I.ok.hd hc) st (by have:n<=i:=hg;omega) λh' eb=>⟨rfl,I.turned (t':=s.toks) (λb o hb e=>eb b o hb e) f0 f1 f3 f4 f5⟩
 self:=λ_ _ _ _ _ st h=>wpAny_pyIter_rangeiter st h
section
variable {X:Cx} {tg:Expr}
theorem Sn {ξ:List (Addr×Obj)}{U:St}{H:Hp}{s:av}{R:It->Hp->Prop}{E:Value->av->Prop}{lo hi:Int}{t u v:Tok}{tk:Nat}(I:Inv X ξ U H s)(htk:s.toks<=tk)(h1:-(2 ^ 62)<=lo)(h2:lo<2 ^ 62)(h3:-(2 ^ 62)<=hi)(h4:hi<2 ^ 62)(q:R (Itr lo (hi - lo).toNat) H):aK (model X.prog X.w) X.A (mf (.ref s.heap.objs.size)) (PIE X ξ U tg R) E { s with heap:=s.heap.push { cls:=.type "range", data:=.fields #[.int lo t,.int hi u,.int 1 v] },toks:=tk }:=by
 refine wpAny_pyIter_range (IsRange.new ..) (small_one h1 h2 h3 h4) ?_
 have I1:Inv X ξ U H { s with heap:=s.heap.push { cls:=.type "range", data:=.fields #[.int lo t,.int hi u,.int 1 v] },toks:=tk }:=I.kept λb o e=>ah _ e
 refine⟨(s.heap.push { cls:=.type "range", data:=.fields #[.int lo t,.int hi u,.int 1 v] }).objs.size,[(s.heap.push { cls:=.type "range", data:=.fields #[.int lo t,.int hi u,.int 1 v] }).objs.size],_,_,H,rfl,
  I1.kept (t':=tk) λb o e=>ah _ e,V8 _ lo (hi - lo).toNat,?_,λb hb=>?_,q⟩
 .have e1:lo+((0:Nat):Int) * 1=lo:=by simp
  have e2:(((hi - lo).toNat:Nat):Int) - ((0:Nat):Int)=Builtin.Range.rangeSize lo hi 1:=by rw[rangeSize_one];split <;> omega
  show IsRangeIter _ _ (lo+((0:Nat):Int) * 1) ((((hi - lo).toNat:Nat):Int) - ((0:Nat):Int)) 1
  rw[e1,e2]
  exact aB _ rfl
 .have e:b=(s.heap.push { cls:=.type "range", data:=.fields #[.int lo t,.int hi u,.int 1 v] }).objs.size:=by simpa using hb
  subst e
  exact I1.fpOk (ag _) (I1.hok.fresh (ag _))
noncomputable def b35(wi:TI)(g:TG)(tb:TS):TS:=λD U H=>wi U H λJ H1=>∃W:Nat->Nat->St->Hp->Prop,(∃m,W 0 m U H1)/\∀i m U H,W i m U H ->
 (J.stop i H/\D.nx U H)\/(J.go i H/\∃N:St->Hp->Prop,(∀U' H',N U' H' -> ∃m',m'<m/\W (i+1) m' U' H')/\∀x H',J.yld i H x H'->g x U H' λU2 H2=>tb { D with nx:=N,ct:=N,bk:=D.nx } U2 H2)
noncomputable def Il(fp:List Addr)(h:Heap):List (Addr×Obj):=fp.filterMap λb=>(h.get? b).map λo=>(b,o)
theorem Ep(hb:b∈fp)(e:h.get? b=some o):(b,o)∈Il fp h:=List.mem_filterMap.mpr ⟨b,hb,by rw[e];rfl⟩
theorem Yx(hp:p∈Il fp h):p.1∈fp/\h.get? p.1=some p.2:=by
 obtain⟨b,hb,e⟩:=List.mem_filterMap.mp hp
 cases q:h.get? b with
 |none=>rw[q] at e;cases e
 |some o=>
  rw[q] at e
  have e':(b,o)=p:=aG e
  subst e'
  exact⟨hb,q⟩
theorem Inv.pinned(I:Inv X ξ U H s)(hf:∀b∈fp,Cq X ξ H b)(ho:∀b∈fp,∃o,s.heap.get? b=some o/\∀v,o.data≠.cell v):Inv X (ξ++Il fp s.heap) U H s:=
 I.pins_of λp hp=>(List.mem_append.mp hp).elim (λz=>I.pin p (aL _ z)) λz=>by
  obtain⟨hb,e⟩:=Yx z
  obtain⟨f0,f1,f2,_⟩:=hf p.1 hb
  obtain⟨o,e',d⟩:=ho p.1 hb
  rw[e] at e';cases e'
  exact⟨e,f0,f1,f2,d⟩
theorem Inv.unpinned(I:Inv X (ξ++pl) U H s):Inv X ξ U H s:=I.pins_of λp hp=>I.pin p (aL _ (bX _ hp))
theorem bi0(hp:hX (model X.prog X.w) X.A X.env X.xe)(hc:X.calm=true)(hi:PI X tg iter wi)(hg:PG X tg g)(hb:PSs X body tb)(hs:∀x,fM iter X.env x=pure x:=by intro _;rfl):PS X (.For tg iter body [] pos) (b35 wi g tb):=by
 intro ξ s U H D I h
 refine wpAny_For (thn (hi ξ s U H _ I h) λv s1 h1=>thn h1 λitv s2 h2=>?_) hs
 obtain⟨it,fp,tn,J,H2,e,I2,T,st2,f2,W,⟨m0,w0⟩,turn⟩:=h2
 subst e
 have stat:∀ {H':Hp},(∀b∈fp,H' b=none) -> ∀b∈fp,Cq X ξ H' b:=λhn b hb=>⟨hn b hb,(f2 b hb).2⟩
 refine codeAny_forLoop_any (λn s'=>∃i U' H',Inv X ξ U' H' s'/\tn i s'.heap/\(∀b∈fp,H' b=none)/\W i n U' H') ?_ m0 ⟨0,U,H2,I2,st2,λb hb=>(f2 b hb).1,w0⟩
 rintro n s3 ⟨i,U3,H3,I3,st3,fr3,w3⟩
 rcases turn i n U3 H3 w3 with ⟨stop,qn⟩|⟨go,N,hN,step⟩
 .refine gJ hp (thn (T.done X rfl rfl rfl hc i ξ s3 U3 H3 X.xe I3 (stat fr3) st3 stop) λr s4 ⟨hr,I4⟩=>?_)
  subst hr
  exact jZ ⟨U3,H3,I4,qn⟩
 .refine gJ hp (thn (T.item X rfl rfl rfl hc i ξ s3 U3 H3 X.xe I3 (stat fr3) st3 go) λr s4 ⟨u,hr,h4⟩=>?_)
  subst hr
  refine gJ hp (thn h4 λ_ s5 ⟨x,H5,I5,r5,y5,st5,fr5⟩=>?_)
  have I5':=I5.pinned (stat fr5) (T.obj _ _ st5)
  refine gJ hp (thn (hg _ s5 U3 H5 x u _ I5' r5 (step x H5 y5)) λ_ s6 ⟨U6,H6,I6,q6⟩=>?_)
  refine gJ hp (thn (hb _ s6 U6 H6 _ I6 q6) λf s7 q7=>?_)
  have again:∀ {U7:St} {H7:Hp},Inv X (ξ++Il fp s5.heap) U7 H7 s7->N U7 H7 -> ∃m,m<n/\∃i U' H',Inv X ξ U' H' s7/\tn i s7.heap/\(∀b∈fp,H' b=none)/\W i m U' H':=λ{U7 H7} I7 n7=>by
   obtain⟨m',hm,w7⟩:=hN U7 H7 n7
   refine⟨m',hm,i+1,U7,H7,I7.unpinned,T.keep _ _ _ st5 λb hb o e=>(I7.pin (b,o) (aL _ (aL _ (Ep hb e)))).1,λb hb=>?_,w7⟩
   obtain⟨o,e,d⟩:=T.obj _ _ st5 b hb
   exact (I7.pin (b,o) (aL _ (aL _ (Ep hb e)))).2.1
  cases f with
  |next=>obtain⟨U7,H7,I7,n7⟩:=q7;exact again I7 n7
  |cont=>obtain⟨U7,H7,I7,n7⟩:=q7;exact again I7 n7
  |brk=>obtain⟨U7,H7,I7,q7⟩:=q7;exact⟨U7,H7,I7.unpinned,q7⟩
  |ret v=>obtain⟨x7,U7,H7,I7,r7,q7⟩:=q7;exact⟨x7,U7,H7,I7.unpinned,r7,q7⟩
end
noncomputable abbrev R2:=V->V->Hp->VK->Prop
noncomputable def OpR(X:Cx)(f:Value->Value->Sem Value)(r:R2):Prop:=
 ∀(ξ:List (Addr×Obj))(s:av)(U:St)(H:Hp)(x y:V)(v u:Value)(Q:VK),Inv X ξ U H s->RelV x v->RelV y u->r x y H Q ->
  aK (model X.prog X.w) X.A (f v u) (EP X ξ U Q) X.xe s
noncomputable def UnR(X:Cx)(f:Value->Sem Value)(r:V->Hp->VK->Prop):Prop:=
 ∀(ξ:List (Addr×Obj))(s:av)(U:St)(H:Hp)(x:V)(v:Value)(Q:VK),Inv X ξ U H s->RelV x v->r x H Q ->
  aK (model X.prog X.w) X.A (f v) (EP X ξ U Q) X.xe s
noncomputable def B9(X:Cx)(f:Value)(r:List V->Hp->VK->Prop):Prop:=
 ∀(ξ:List (Addr×Obj))(s:av)(U:St)(H:Hp)(xs:List V)(us:List Value)(Q:VK),Inv X ξ U H s->Vals xs us->r xs H Q ->
  aK (model X.prog X.w) X.A (call f us) (EP X ξ U Q) X.xe s
noncomputable def bo5(X:Cx)(r:V->Hp->(Bool->Hp->Prop)->Prop):Prop:=
 ∀(ξ:List (Addr×Obj))(s:av)(U:St)(H:Hp)(x:V)(v:Value)(Q:Bool->Hp->Prop),Inv X ξ U H s->RelV x v->r x H Q ->
  aK (model X.prog X.w) X.A (truthy v) (TP X ξ U Q) X.xe s
noncomputable def tOp(r:R2)(ta tb:TE):TE:=λU H Q=>ta U H λx H1=>tb U H1 λy H2=>r x y H2 Q
noncomputable def tUn(r:V->Hp->VK->Prop)(ta:TE):TE:=λU H Q=>ta U H λx H1=>r x H1 Q
noncomputable def rI(C:Int->Int->Prop)(g:Int->Int->V):R2:=λx y H Q=>∃i j,x=.int i/\y=.int j/\C i j/\Q (g i j) H
noncomputable def rI0(g:Int->Int->V):R2:=λx y H Q=>∃i j,x=.int i/\y=.int j/\Q (g i j) H
noncomputable def rU(g:Int->V):V->Hp->VK->Prop:=λx H Q=>∃i,x=.int i/\Q (g i) H
section
variable {X:Cx} {a b c:Expr} {ta tb tc:TE} {pos:Pos}
theorem a76(ha:PE X a ta)(hb:PE X b tb){ξ:List (Addr×Obj)}{s:av}{U:St}{H:Hp}{R:V->V->Hp->Prop}(I:Inv X ξ U H s)(h:ta U H λx H1=>tb U H1 λy H2=>R x y H2){Q:Value->av->Prop}{f:Value->Value->Sem Value}(hf:∀v u s2 x y H2,Inv X ξ U H2 s2->RelV x v->RelV y u->R x y H2->aK (model X.prog X.w) X.A (f v u) Q X.xe s2) :
  aK (model X.prog X.w) X.A (eval a X.env) (λv s₁=>aK (model X.prog X.w) X.A (eval b X.env) (λu s₂=>aK (model X.prog X.w) X.A (f v u) Q X.xe s₂) X.xe s₁) X.xe s:=by
 refine thn (ha ξ s U H _ I h) λv s1 ⟨x,H1,I1,r1,q1⟩=>?_
 refine thn (hb ξ s1 U H1 _ I1 q1) λu s2 ⟨y,H2,I2,r2,q2⟩=>?_
 exact hf v u s2 x y H2 I2 r1 r2 q2
theorem bu8(ho:OpR X (dD op) r)(ha:PE X a ta)(hb:PE X b tb):PE X (.BinOp a op b pos) (tOp r ta tb):=by
 intro ξ s U H Q I h
 exact wpAny_BinOp (a76 ha hb I h λv u s2 x y H2 I2 rx ry q=>ho ξ s2 U H2 x y v u Q I2 rx ry q)
theorem a43(ho:UnR X (mF op) r)(ha:PE X a ta):PE X (.UnaryOp op a pos) (tUn r ta):=by
 intro ξ s U H Q I h
 exact UnaryOp_ (thn (ha ξ s U H _ I h) λv s1 ⟨x,H1,I1,r1,q1⟩=>ho ξ s1 U H1 x v Q I1 r1 q1)
theorem opI {f:Value->Value->Sem Value}{C:Int->Int->Prop}{g:Int->Int->Int}(rule:∀(i j:Int)(t u:Tok)(s:av)(Q:Value->av->Prop)(E:Value->av->Prop),C i j->Q (.int (g i j) s.toks) { s with toks:=s.toks+1 }->aK (model X.prog X.w) X.A (f (.int i t) (.int j u)) Q E s) :
  OpR X f (rI C λi j=>.int (g i j)):=by
 intro ξ s U H x y v u Q I rx ry h
 obtain⟨i,j,rfl,rfl,hc,q⟩:=h
 obtain⟨t,rfl⟩:=rx
 obtain⟨t',rfl⟩:=ry
 exact rule i j t t' s _ _ hc ⟨.int (g i j),H,I.tok _,⟨_,rfl⟩,q⟩
theorem ai6 {f:Value->Value->Sem Value}{g:Int->Int->Int}(rule:∀(i j:Int)(t u:Tok)(s:av)(Q:Value->av->Prop)(E:Value->av->Prop),Q (.int (g i j) s.toks) { s with toks:=s.toks+1 }->aK (model X.prog X.w) X.A (f (.int i t) (.int j u)) Q E s) :
  OpR X f (rI0 λi j=>.int (g i j)):=by
 intro ξ s U H x y v u Q I rx ry h
 obtain⟨i,j,rfl,rfl,q⟩:=h
 obtain⟨t,rfl⟩:=rx
 obtain⟨t',rfl⟩:=ry
 exact rule i j t t' s _ _ ⟨.int (g i j),H,I.tok _,⟨_,rfl⟩,q⟩
theorem ax1 {f:Value->Value->Sem Value}{g:Int->Int->Bool}(rule:∀(i j:Int)(t u:Tok)(s:av)(Q:Value->av->Prop)(E:Value->av->Prop),Q (.bool (g i j)) s->aK (model X.prog X.w) X.A (f (.int i t) (.int j u)) Q E s) :
  OpR X f (rI0 λi j=>.bl (g i j)):=by
 intro ξ s U H x y v u Q I rx ry h
 obtain⟨i,j,rfl,rfl,q⟩:=h
 obtain⟨t,rfl⟩:=rx
 obtain⟨t',rfl⟩:=ry
 exact rule i j t t' s _ _ ⟨.bl (g i j),H,I,rfl,q⟩
noncomputable def bn7(i j:Int):Prop:=0<j/\j<1073741824
noncomputable def as0(i j:Int):Prop:=0<=j/\j<=1000000/\i.natAbs<2 ^ 64
noncomputable def CMul(i j:Int):Prop:=(-(2 ^ 64)<i/\i<2 ^ 64)\/(-(2 ^ 64)<j/\j<2 ^ 64)
theorem CMul.ok(h:CMul i j):IntMulOk i j:=by
 rcases h with ⟨h1,h2⟩|⟨h1,h2⟩
 .exact .of_left (intBits_le_64 h1 h2)
 .exact .of_right (intBits_le_64 h1 h2)
theorem Wa(k:Nat):(0:Int)<=2 ^ k:=by
 rw[two_pow_cast]
 exact Int.natCast_nonneg _
theorem bf6:OpR X (dD .Add) (rI0 λi j=>.int (i+j)):=ai6 λ_ _ _ _ _ _ _ q=>add_int q
theorem bg8:OpR X (dD .Sub) (rI0 λi j=>.int (i - j)):=ai6 λ_ _ _ _ _ _ _ q=>sub_int q
theorem bg2:OpR X (dD .Mult) (rI CMul λi j=>.int (i * j)):=opI λ_ _ _ _ _ _ _ hc q=>mul_int q hc.ok
theorem ax3:OpR X (dD .FloorDiv) (rI bn7 λi j=>.int (i / j)):=opI λi j _ _ _ _ _ hc q=>by
 have h1:(0:Int)<j:=hc.1
 have h2:j<1073741824:=hc.2
 exact floordiv_int (by omega) (by rw[iK i (by omega)];exact q) (.inl (PyProof.noPylong_small (by omega)))
theorem bg1:OpR X (dD .Mod) (rI (λ_ j=>0<j) λi j=>.int (i % j)):=opI λi j _ _ _ _ _ hc q=>by
 have h1:(0:Int)<j:=hc
 exact mod_int' (by omega) (by rw[Int.fmod_eq_emod_of_nonneg i (by omega)];exact q)
theorem bg5:OpR X (dD .Pow) (rI as0 λi j=>.int (i ^ j.toNat)):=opI λ_ _ _ _ _ _ _ hc q=>pow_int_small hc.1 hc.2.1 hc.2.2 q
theorem bg6:OpR X (dD .LShift) (rI as0 λi j=>.int (i * 2 ^ j.toNat)):=opI λ_ _ _ _ _ _ _ hc q=>lshift_int_small hc.1 hc.2.1 hc.2.2 q
theorem bg7:OpR X (dD .RShift) (rI (λ_ j=>0<=j) λi j=>.int (i / 2 ^ j.toNat)):=opI λi j _ _ _ _ _ hc q=>
 rshift_int hc (by rw[iK i (Wa _)];exact q)
theorem bf7:OpR X (dD .BitAnd) (rI0 λi j=>.int (cu i j)):=ai6 λ_ _ _ _ _ _ _ q=>and_int q
theorem bu5:OpR X (dD .BitOr) (rI0 λi j=>.int (cN i j)):=ai6 λ_ _ _ _ _ _ _ q=>or_int q
theorem bg9:OpR X (dD .BitXor) (rI0 λi j=>.int (Builtin.bitXor i j)):=ai6 λ_ _ _ _ _ _ _ q=>xor_int q
theorem unI {f:Value->Sem Value}{g:Int->Int}(rule:∀(i:Int)(t:Tok)(s:av)(Q:Value->av->Prop)(E:Value->av->Prop),Q (.int (g i) s.toks) { s with toks:=s.toks+1 }->aK (model X.prog X.w) X.A (f (.int i t)) Q E s) :
  UnR X f (rU λi=>.int (g i)):=by
 intro ξ s U H x v Q I rx h
 obtain⟨i,rfl,q⟩:=h
 obtain⟨t,rfl⟩:=rx
 exact rule i t s _ _ ⟨.int (g i),H,I.tok _,⟨_,rfl⟩,q⟩
theorem bn1:UnR X (mF .USub) (rU λi=>.int (-i)):=unI λ_ _ _ _ _ q=>neg_int q
theorem bn0:UnR X (mF .Invert) (rU λi=>.int (ck i)):=unI λ_ _ _ _ _ q=>invert_int q
end
noncomputable def bl9:V->V->Bool
 |.non,.non=>true | .non,.int _=>true | .int _,.non=>true | .non,.bl _=>true | .bl _,.non=>true | .non,.str _=>true | .str _,.non=>true
 |.int _,.int _=>true | .bl _,.bl _=>true | .str _,.str _=>true | .byt _,.byt _=>true
 |.int _,.str _=>true | .str _,.int _=>true | .bl _,.str _=>true | .str _,.bl _=>true
 |_,_=>false
noncomputable def rEq:R2:=λx y H Q=>bl9 x y=true/\Q (.bl (decide (x=y))) H
noncomputable def rNe:R2:=λx y H Q=>bl9 x y=true/\Q (.bl (!decide (x=y))) H
theorem J4:decide (V.int i=V.int j)=(i==j):=by
 rw[bO]
 simp
theorem Pf:decide (V.bl i=V.bl j)=(i==j):=by
 rw[bO]
 simp
theorem J5:decide (V.str i=V.str j)=(i==j):=by
 rw[bO]
 simp
theorem Wx:decide (V.byt i=V.byt j)=(i.toList==j.toList):=by
 rw[bO]
 cases i
 cases j
 simp
section
variable {X:Cx} {a b c:Expr} {ta tb tc:TE} {pos:Pos}
theorem Ay(I:Inv X ξ U H s)(q:Q (.bl k) H)(e:k=k'):EP X ξ U Q (.bool k') s:=by
 subst e
 exact⟨.bl k,H,I,rfl,q⟩
theorem W6:OpR X (cG .Eq) rEq:=by
 intro ξ s U H x y v u Q I rx ry h
 obtain⟨hs,q⟩:=h
 cases x with
 |non=>
  cases rx
  cases y with
  |non=>cases ry;exact PySem.EqNone.eq_none_none (Ay I q (by simp))
  |bl j=>cases ry;exact PySem.EqNone.eq_none_bool (Ay I q (by simp))
  |int j=>obtain⟨t',rfl⟩:=ry;exact PySem.EqNone.eq_none_int (Ay I q (by simp))
  |str j=>obtain⟨t',rfl⟩:=ry;exact PySem.EqNone.eq_none_str (Ay I q (by simp))
  |_=>exact absurd (show false=true from hs) au
 |bl i=>
  cases rx
  cases y with
  |non=>cases ry;exact PySem.EqNone.eq_bool_none (Ay I q (by simp))
  |bl j=>cases ry;exact eq_bool (Ay I q Pf)
  |str j=>obtain⟨t',rfl⟩:=ry;exact PySem.EqMixed.eq_bool_str (Ay I q (by simp))
  |_=>exact absurd (show false=true from hs) au
 |int i=>
  obtain⟨t,rfl⟩:=rx
  cases y with
  |non=>cases ry;exact PySem.EqNone.eq_int_none (Ay I q (by simp))
  |int j=>obtain⟨t',rfl⟩:=ry;exact eq_int (Ay I q J4)
  |str j=>obtain⟨t',rfl⟩:=ry;exact PySem.EqMixed.eq_int_str (Ay I q (by simp))
  |_=>exact absurd (show false=true from hs) au
 |str i=>
  obtain⟨t,rfl⟩:=rx
  cases y with
  |non=>cases ry;exact PySem.EqNone.eq_str_none (Ay I q (by simp))
  |bl j=>cases ry;exact PySem.EqMixed.eq_str_bool (Ay I q (by simp))
  |int j=>obtain⟨t',rfl⟩:=ry;exact PySem.EqMixed.eq_str_int (Ay I q (by simp))
  |str j=>obtain⟨t',rfl⟩:=ry;exact eq_str (Ay I q J5)
  |_=>exact absurd (show false=true from hs) au
 |byt i=>
  obtain⟨t,rfl⟩:=rx
  cases y with
  |byt j=>obtain⟨t',rfl⟩:=ry;exact PySem.W.eq_bytes (Ay I q Wx)
  |_=>exact absurd (show false=true from hs) au
 |_=>cases y <;> exact absurd (show false=true from hs) au
theorem W7:OpR X (cG .NotEq) rNe:=by
 intro ξ s U H x y v u Q I rx ry h
 obtain⟨hs,q⟩:=h
 cases x with
 |non=>
  cases rx
  cases y with
  |non=>cases ry;exact PySem.EqNone.ne_none_none (Ay I q (by simp))
  |bl j=>cases ry;exact PySem.EqNone.ne_none_bool (Ay I q (by simp))
  |int j=>obtain⟨t',rfl⟩:=ry;exact PySem.EqNone.ne_none_int (Ay I q (by simp))
  |str j=>obtain⟨t',rfl⟩:=ry;exact PySem.EqNone.ne_none_str (Ay I q (by simp))
  |_=>exact absurd (show false=true from hs) au
 |bl i=>
  cases rx
  cases y with
  |non=>cases ry;exact PySem.EqNone.ne_bool_none (Ay I q (by simp))
  |bl j=>cases ry;exact ne_bool (Ay I q (congrArg not Pf))
  |str j=>obtain⟨t',rfl⟩:=ry;exact PySem.EqMixed.ne_bool_str (Ay I q (by simp))
  |_=>exact absurd (show false=true from hs) au
 |int i=>
  obtain⟨t,rfl⟩:=rx
  cases y with
  |non=>cases ry;exact PySem.EqNone.ne_int_none (Ay I q (by simp))
  |int j=>obtain⟨t',rfl⟩:=ry;exact ne_int (Ay I q (congrArg not J4))
  |str j=>obtain⟨t',rfl⟩:=ry;exact PySem.EqMixed.ne_int_str (Ay I q (by simp))
  |_=>exact absurd (show false=true from hs) au
 |str i=>
  obtain⟨t,rfl⟩:=rx
  cases y with
  |non=>cases ry;exact PySem.EqNone.ne_str_none (Ay I q (by simp))
  |bl j=>cases ry;exact PySem.EqMixed.ne_str_bool (Ay I q (by simp))
  |int j=>obtain⟨t',rfl⟩:=ry;exact PySem.EqMixed.ne_str_int (Ay I q (by simp))
  |str j=>obtain⟨t',rfl⟩:=ry;exact ne_str (Ay I q (congrArg not J5))
  |_=>exact absurd (show false=true from hs) au
 |byt i=>
  obtain⟨t,rfl⟩:=rx
  cases y with
  |byt j=>obtain⟨t',rfl⟩:=ry;exact PySem.W.ne_bytes (Ay I q (congrArg not Wx))
  |_=>exact absurd (show false=true from hs) au
 |_=>cases y <;> exact absurd (show false=true from hs) au
theorem bu4:OpR X (cG .Lt) (rI0 λi j=>.bl (decide (i<j))):=ax1 λ_ _ _ _ _ _ _ q=>lt_int q
theorem bu3:OpR X (cG .LtE) (rI0 λi j=>.bl (decide (i<=j))):=ax1 λ_ _ _ _ _ _ _ q=>le_int q
theorem bu2:OpR X (cG .Gt) (rI0 λi j=>.bl (decide (j<i))):=ax1 λ_ _ _ _ _ _ _ q=>gt_int q
theorem bu1:OpR X (cG .GtE) (rI0 λi j=>.bl (decide (j<=i))):=ax1 λ_ _ _ _ _ _ _ q=>ge_int q
theorem Y0:OpR X (cG .Lt) (λx y H Q=>∃i j,x=.str i/\y=.str j/\Q (.bl (decide (i.cps.toList<j.cps.toList))) H):=by
 intro ξ s U H x y v u Q I rx ry h
 obtain⟨i,j,rfl,rfl,q⟩:=h
 obtain⟨t,rfl⟩:=rx
 obtain⟨t',rfl⟩:=ry
 exact lt_str (Ay I q rfl)
theorem bg0:OpR X (cG .Is) (λx y H Q=>y=.non/\Q (.bl (decide (x=.non))) H):=by
 intro ξ s U H x y v u Q I rx ry h
 obtain⟨rfl,q⟩:=h
 cases ry
 refine is_none_gen (Ay I q ?_)
 cases x <;> first
  |(cases rx;rfl)
  |(obtain⟨t,rfl⟩:=rx;rfl)
  |(obtain⟨t,rfl,_⟩:=rx;rfl)
theorem ax5:OpR X (cG .IsNot) (λx y H Q=>y=.non/\Q (.bl (!decide (x=.non))) H):=by
 intro ξ s U H x y v u Q I rx ry h
 obtain⟨rfl,q⟩:=h
 cases ry
 refine isnot_none_gen (Ay I q ?_)
 cases x <;> first
  |(cases rx;rfl)
  |(obtain⟨t,rfl⟩:=rx;rfl)
  |(obtain⟨t,rfl,_⟩:=rx;rfl)
theorem OpR.or(h:OpR X f r)(h':OpR X f r'):OpR X f (λx y H Q=>r x y H Q\/r' x y H Q):=by
 intro ξ s U H x y v u Q I rx ry q
 rcases q with q|q
 .exact h ξ s U H x y v u Q I rx ry q
 .exact h' ξ s U H x y v u Q I rx ry q
theorem ax9(ho:OpR X (cG op) r)(ha:PE X a ta)(hb:PE X b tb)(hm:ju op b=false):PE X (.Compare a [op] [b] pos) (tOp r ta tb):=by
 intro ξ s U H Q I h
 exact wpAny_Compare1 (a76 ha hb I h λv u s2 x y H2 I2 rx ry q=>ho ξ s2 U H2 x y v u Q I2 rx ry q) hm
noncomputable def bo6(K:ac)(x:V)(H:Hp)(k:Bool):Prop:=
 match x with
 |.non=>k=false
 |.bl b=>k=b
 |.int i=>k=(i != 0)
 |.str y=>y.length<=sizeLine/\k=((y.length:Int) != 0)
 |.byt y=>y.size<=sizeLine/\k=((y.size:Int) != 0)
 |.ref p=>(∃xs,SqL K H p xs/\k = !xs.isEmpty)\/(∃xs,SqT K H p xs/\k = !xs.isEmpty) \/ ∃kvs,H p=some (.dK kvs)/\k = !kvs.isEmpty
 |_=>False
theorem Uk {κ:Type}{kvs:List (κ×V)}{vs:List (κ×Value)}(r:KV kvs vs):(!vs.isEmpty) = !kvs.isEmpty:=by
 cases r <;> rfl
theorem Le {xs:List V}{χ:List Value}(r:Vals xs χ):(!χ.toArray.isEmpty) = !xs.isEmpty:=by
 cases r <;> simp
theorem Ge:(sizeLine:Nat)<2 ^ 63:=by rw[bG];decide
theorem Mi:bo5 X (λx H Q=>∃k,bo6 X.K x H k/\Q k H):=by
 intro ξ s U H x v Q I rx h
 obtain⟨k,e,q⟩:=h
 have hl:=Ge
 have hs:sizeLine=16777216:=bG
 cases x with
 |non=>
  cases rx
  have e':k=false:=e
  subst e'
  exact truthy_none ⟨H,I,q⟩
 |bl b=>
  cases rx
  have e':k=b:=e
  subst e'
  exact eC ⟨H,I,q⟩
 |int i=>
  obtain⟨t,rfl⟩:=rx
  have e':k=(i != 0):=e
  subst e'
  exact PySem.P.truthy_int ⟨H,I,q⟩
 |str y=>
  obtain⟨t,rfl⟩:=rx
  obtain⟨hy,e'⟩:y.length<=sizeLine/\k=((y.length:Int) != 0):=e
  subst e'
  exact PySem.P.truthy_str (by omega) ⟨H,I.tok _,q⟩
 |byt y=>
  obtain⟨t,rfl⟩:=rx
  obtain⟨hy,e'⟩:y.size<=sizeLine/\k=((y.size:Int) != 0):=e
  subst e'
  exact PySem.W.truthy_bytes (by omega) ⟨H,I.tok _,q⟩
 |ref p=>
  cases rx
  have e':(∃xs,SqL X.K H p xs/\k = !xs.isEmpty)\/(∃xs,SqT X.K H p xs/\k = !xs.isEmpty) \/ ∃kvs,H p=some (.dK kvs)/\k = !kvs.isEmpty:=e
  rcases e' with ⟨xs,hx,e'⟩|⟨xs,hx,e'⟩|⟨kvs,hx,e'⟩
  .subst e'
   obtain⟨χ,r,pl,hz⟩:=I.list hx
   have hlen:=r.length
   exact wpAny_truthy_list pl.isList (by simp only[aq];omega) ⟨H,I.tok _,by rw[Le r];exact q⟩
  .subst e'
   obtain⟨χ,r,pl,hz⟩:=I.tuple hx
   have hlen:=r.length
   exact truthy_tuple pl (by simp only[aq];omega) ⟨H,I.tok _,by rw[Le r];exact q⟩
  .subst e'
   obtain⟨hz,hS,vs,r,m⟩:kvs.length<=sizeLine/\(p==dv)=false/\∃vs,KV kvs vs/\s.heap.DictOf (Bg X.prog X.w) p vs:=I.hok p _ hx
   have hlen:kvs.length=vs.length:=kU r
   exact wpAny_truthy_dict hS m (by omega) ⟨H,I.tok _,by rw[Uk r];exact q⟩
 |_=>exact (show False from e).elim
theorem Uz0:OpR X (dD .Add) (λx y H Q=>∃i j,x=.str i/\y=.str j/\i.length+j.length<=sizeLine/\Q (.str (i++j)) H):=by
 intro ξ s U H x y v u Q I rx ry h
 obtain⟨i,j,rfl,rfl,hz,q⟩:=h
 obtain⟨t,rfl⟩:=rx
 obtain⟨t',rfl⟩:=ry
 exact bB (ag _) (add_str (λt' tk htk=>⟨.str (i++j),H,I.tok _ htk,⟨_,rfl⟩,q⟩) hz)
theorem Dn(r:Vals [x] us):∃u,us=[u]/\RelV x u:=by
 cases r with
 |cons r1 r2=>cases r2;exact⟨_,rfl,r1⟩
theorem b09(r:Vals [x,y] us):∃u w',us=[u,w']/\RelV x u/\RelV y w':=by
 cases r with
 |cons r1 r2=>
  cases r2 with
  |cons r3 r4=>cases r4;exact⟨_,_,rfl,r1,r3⟩
theorem Nm:B9 X (.type "int") (λxs H Q=>(∃i,xs=[.int i]/\Q (.int i) H) \/ ∃k,xs=[.bl k]/\Q (.int (if k then 1 else 0)) H):=by
 intro ξ s U H xs us Q I r h
 rcases h with ⟨i,rfl,q⟩|⟨k,rfl,q⟩
 .obtain⟨u,rfl,t,rfl⟩:=Dn r
  exact call_int_int ⟨.int i,H,I,⟨_,rfl⟩,q⟩
 .obtain⟨u,rfl,r1⟩:=Dn r
  cases r1
  exact call_int_bool ⟨.int (if k then 1 else 0),H,I.tok _,⟨_,rfl⟩,q⟩
end
structure ObjM (h:Heap) (x dx C:Addr) (mA:Str->Option Value):Prop where
 obj:h.get? x=some (dz C dx)
 ns:h.Ns1 dx mA
 ne:dx≠x
theorem Ie {h:Heap}{dx:Addr}{mA:Str->Option Value}(n:h.Ns1 dx mA):∃od,h.get? dx=some od/\∀name,iS name od=some (mA name):=by
 obtain⟨o,es,ep,ho,hd,hk,_,hm⟩:=n
 refine⟨o,ho,λname=>?_⟩
 have e:=hm name
 unfold nsFind findBy at e
 rw[<- Array.find?_toList] at e
 unfold iS
 rw[hd]
 dsimp only
 split
 .rename_i y q
  rw[q] at e
  exact congrArg some e
 .rename_i q
  rw[q] at e
  have a:es.toList.any (·.refKey)=false:=by
   rw[i3]
   intro y hy
   obtain⟨z,t,hkey⟩:=hk y (Array.mem_toList_iff.mp hy)
   simp[DictEntry.refKey,hkey]
  have a':¬ es.toList.any (·.refKey)=true:=by rw[a];exact au
  rw[if_neg a']
  exact congrArg some e
theorem ObjM.look(I:ObjM h x dx C mA):∃od,fV h x (dz C dx) C (some od)/\∀name,iS name od=some (mA name):=
 let ⟨od,ho,hl⟩:=Ie I.ns
 ⟨od,⟨I.obj,rfl,rfl,ho⟩,hl⟩
section
variable {prog:ba} {w:bL} {A:bP} {E:Value->av->Prop} {s:av} {K:ac} {x dx C f:Addr} {mA:Str->Option Value} {name:Str} {v:Value}
theorem Am(X:K.In s.heap)(I:ObjM s.heap x dx C mA)(hg:fZ K C name=true)(hh:gY K C=true)(ha:bg K (.ref C) name=some none)(hv:mA name=some v)(hv':ic v=true)(h:Q v { s with toks:=s.toks+1 }) :
  aK (model prog w) A (lq (.ref x) name expr) Q E s:=by
 obtain⟨od,J,hl⟩:=I.look
 exact PySem.W.get_value X J (iD hg).1 (kG hh ha rfl (by rw[hl,hv])) hv' h
theorem af0(X:K.In s.heap)(I:ObjM s.heap x dx C mA)(hg:fZ K C name=true)(hf:bg K (.ref C) name=some (some (.ref f)))(ht:cU K (.ref f)=true)(hv:mA name=none)(h:Q (.ref f,[.ref x]) s) :
  aK (model prog w) A (getMethod (.ref x) name pl) Q E s:=by
 obtain⟨od,J,hl⟩:=I.look
 exact PySem.W.method_fn X J (iD hg).1 (iD hg).2 hf (beq_iff_eq.mp ht) (by show (iS name od).map (·.isSome)=some false;rw[hl,hv];rfl) h
theorem a10(X:K.In s.heap)(I:ObjM s.heap x dx C mA)(hs:bg K (.ref C) "__setattr__"=some (some (.builtin "object.__setattr__")))(hp:i_ K C=true)(ht:jV K C name=some none)(hh:gY K C=true)(hw:eI mA ns)(hsz:ns.length<=sizeLine)(h:∀h',ObjM h' x dx C (λy=>if y=name then some v else mA y)->bJ dx s.heap h'->Q () { s with heap:=h',toks:=s.toks+2 }) :
  aK (model prog w) A (mj (.ref x) name v) Q E s:=by
 obtain⟨od,J,hl⟩:=I.look
 refine PySem.W.set_plain X J hs (PySem.W.osa_open (s:={ s with toks:=s.toks+1 }) (r:=none) X J hp ht λb=>?_)
 obtain⟨cd,hc,hd'⟩:=PySem.W.any_some hh
 have hx:s.heap.get? x=some ⟨.ref C,some dx,.plain,#[]⟩:=I.obj
 refine af (ai (af (af (iY hx (af (PySem.W.Looks.here (s:={ s with toks:=s.toks+1 }) (PySem.W.looks_clsIn X hc) ?_))))))
 rw[hd']
 refine ai (a:=some dx) (af (ai (af ?_)))
 refine lN (s:={ s with toks:=s.toks+1 }) I.ns λh' hn2 hs2=>?_
 obtain⟨oD,esD,epD,hoD,hdD,hcD⟩:=hn2.count (PySem.Within.cons name v hw)
 refine af (jE hoD (by rw[hdD];exact jB (a9 hcD (by rw[aN];omega))) ?_)
 exact ai (h _ ⟨(hs2.2 _ (cA I.ne)).trans I.obj,hn2,I.ne⟩ hs2)
theorem ag4(X:K.In s.heap)(hm:dA K C=true)(hi:bg K (.ref C) "__init__"=some (some (.ref f)))(hf:PySem.W.typeIn K (.ref f)=some (.type "function"))(h:gH (model prog w) (A.under (.builtin "type.__call__" ⟨.ref C::vs,kw⟩)) (.call (.ref f) ⟨.ref (s.heap.objs.size+1)::vs,kw⟩) (PySem.W.InitBack (s.heap.objs.size+1) R)
   {s with heap:=(s.heap.push cJ).push (dz C s.heap.objs.size) }) :
  gH (model prog w) A (.call (.ref C) ⟨vs,kw⟩) R s:=by
 obtain⟨hh,g,d,t,os⟩:=s
 exact PySem.W.make_core (PySem.W.makes_of X hm) (dX X hi) (λself=>PySem.W.bind_fn X self hf) (.inl rfl) h
end
noncomputable def Dv(f:Str)(v:V):List (Str×V)->List (Str×V)
 |[]=>[(f,v)]
 |(g,x)::r=>if g=f then (g,v)::r else (g,x)::Dv f v r
theorem Fg(f g:Str)(v:V):∀fs:List (Str×V),(Dv f v fs).lookup g=if g=f then some v else fs.lookup g
 | []=>by
  show eV g [(f,v)]=_
  by_cases h:g=f
  .have hb:(g==f)=true:=beq_iff_eq.mpr h
   simp only[eV,hb,if_pos h]
  .have hb:(g==f)=false:=beq_eq_false_iff_ne.mpr h
   simp only[eV,hb,if_neg h]
 | (k,x)::r=>by
  have ih:=Fg f g v r
  rw[show Dv f v ((k,x)::r)=(if k=f then (k,v)::r else (k,x)::Dv f v r) from rfl]
  by_cases hk:k=f
  .rw[if_pos hk]
   by_cases h:g=k
   .have hb:(g==k)=true:=beq_iff_eq.mpr h
    simp only[eV,hb,if_pos (h.trans hk)]
   .have hb:(g==k)=false:=beq_eq_false_iff_ne.mpr h
    simp only[eV,hb,if_neg (λe:g=f=>h (e.trans hk.symm))]
  .rw[if_neg hk]
   by_cases h:g=k
   .have hb:(g==k)=true:=beq_iff_eq.mpr h
    simp only[eV,hb,if_neg (λe:g=f=>hk (h.symm.trans e))]
   .have hb:(g==k)=false:=beq_eq_false_iff_ne.mpr h
    simp only[eV,hb]
    exact ih
theorem Ea(f:Str)(v:V):∀fs:List (Str×V),f∈(Dv f v fs).map (·.1)/\∀g,g∈fs.map (·.1)->g∈(Dv f v fs).map (·.1)
 |[]=>⟨by simp[Dv],λg h=>by simp at h⟩
 | (k,x)::r=>by
  obtain⟨i1,i2⟩:=Ea f v r
  rw[show Dv f v ((k,x)::r)=(if k=f then (k,v)::r else (k,x)::Dv f v r) from rfl]
  by_cases hk:k=f
  .rw[if_pos hk]
   subst hk
   exact⟨by simp,λg h=>by simpa using h⟩
  .rw[if_neg hk]
   refine⟨?_,λg h=>?_⟩
   .rw[aS]
    exact ax _ i1
   .rw[aS] at h ⊢
    rcases List.mem_cons.mp h with e|e
    .exact List.mem_cons.mpr (.inl e)
    .exact ax _ (i2 g e)
theorem Ff(f:Str)(v:V):∀fs:List (Str×V),(Dv f v fs).length<=fs.length+1
 |[]=>by simp[Dv]
 | (k,x)::r=>by
  have ih:=Ff f v r
  rw[show Dv f v ((k,x)::r)=(if k=f then (k,v)::r else (k,x)::Dv f v r) from rfl]
  by_cases hk:k=f
  .rw[if_pos hk,aN,aN];omega
  .rw[if_neg hk,aN,aN];omega
theorem RelO.some_of(r:RelO (some v) o):∃u,o=some u/\RelV v u:=by
 cases o with
 |none=>exact (show False from r).elim
 |some u=>exact⟨u,rfl,r⟩
theorem RelO.none_of(r:RelO none o):o=none:=by
 cases o with
 |none=>rfl
 |some u=>exact (show False from r).elim
theorem Nz(r:RelV v u):ic u=true:=by
 cases v with
 |non=>cases (show u=cm from r);rfl
 |bl b=>cases (show u=lj b from r);rfl
 |int i=>obtain⟨t,e⟩:=(show ∃t,u=k6 i t from r);cases e;rfl
 |str x=>obtain⟨t,e⟩:=(show ∃t,u=iE x t from r);cases e;rfl
 |byt b=>obtain⟨t,e⟩:=(show ∃t,u=Value.bytes b t from r);cases e;rfl
 |stk y n ex=>obtain⟨t,e,_⟩:=(show ∃t,u=iE y t/\(if ex=true then t=n else n<=t) from r);cases e;rfl
 |ref a=>cases (show u=aV a from r);rfl
 |ty n=>cases (show u=gm n from r);rfl
section
variable {P:ba} {w:bL} {H H':Hp} {h h':Heap} {a C dx:Addr} {fs fs':List (Str×V)}
theorem Ke(hok:HOk P w H h)(e:H a=some (.ins C dx fs)):∃mA,ObjM h a dx C mA/\(∀f,RelO (fs.lookup f) (mA f))/\eI mA (fs.map (·.1))/\fs.length<=1000/\H dx=some (.own a):=by
 obtain⟨d,z,ne,ob,mA,n,r,q⟩:=(show ObjOk P w H h a (.ins C dx fs) from hok a _ e)
 exact⟨mA,⟨ob,n,ne⟩,r,q,z,d⟩
end
structure Cls (K:ac) (C:Addr):Prop where
 pg:fZ K C h_=true
 hd:gY K C=true
 po:i_ K C=true
 sa:bg K (.ref C) "__setattr__"=some (some (.builtin "object.__setattr__"))
theorem Cls.get {K:ac}{C:Addr}(c:Cls K C)(f:Str):fZ K C f=true:=c.pg
noncomputable def NoAttr(K:ac)(C:Addr)(f:Str):Prop:=bg K (.ref C) f=some none
theorem NoAttr.taker {K:ac}{C:Addr}{f:Str}(n:NoAttr K C f):jV K C f=some none:=by
 unfold jV
 rw[show bg K (.ref C) f=some none from n]
 rfl
structure Q8 (K:ac) (C:Addr) (m:Str) (f:Addr):Prop where
 at_:bg K (.ref C) m=some (some (.ref f))
 fn:cU K (.ref f)=true
 kp:bh K (.ref f)=true
section
variable {X:Cx} {ξ:List (Addr×Obj)} {U:St} {H:Hp} {s:av} {a C dx:Addr} {fs:List (Str×V)} {f:Str} {v:V} {A:bP} {E:Value->av->Prop}
theorem Ug(I:Inv X ξ U H s)(e:H a=some (.ins C dx fs))(c:Cls X.K C)(n:NoAttr X.K C f)(l:fs.lookup f=some v)(h:∀u s',Inv X ξ U H s'->RelV v u->Q u s'):aK (model X.prog X.w) A (lq (.ref a) f b) Q E s:=by
 obtain⟨mA,O,r,_,_,_⟩:=Ke I.hok e
 obtain⟨u,hu,ru⟩:=RelO.some_of (v:=v) (o:=mA f) (by rw[<- l];exact r f)
 exact Am I.kIn O (c.get f) c.hd n hu (Nz ru) (h u _ (I.tok _) ru)
theorem K9(I:Inv X ξ U H s)(e:H a=some (.ins C dx fs))(c:Cls X.K C)(k:Q8 X.K C m g)(l:fs.lookup m=none)(h:Q (.ref g,[.ref a]) s):aK (model X.prog X.w) A (getMethod (.ref a) m pl) Q E s:=by
 obtain⟨mA,O,r,_,_,_⟩:=Ke I.hok e
 have hn:mA m=none:=RelO.none_of (by rw[<- l];exact r m)
 exact af0 I.kIn O (c.get m) k.at_ k.fn hn h
theorem Vh(I:Inv X ξ U H s)(e:H a=some (.ins C dx fs))(c:Cls X.K C)(n:NoAttr X.K C f)(hl:fs.length<1000)(ry:RelV y u)(h:∀s',Inv X ξ U (upd H a (.ins C dx (Dv f y fs))) s'->Q () s'):aK (model X.prog X.w) A (mj (.ref a) f u) Q E s:=by
 obtain⟨mA,O,r,wi,_,ho⟩:=Ke I.hok e
 have hz:(fs.map (·.1)).length<=sizeLine:=by rw[ae,bG];omega
 refine a10 I.kIn O c.sa c.po n.taker c.hd wi hz λh' O' sb=>h _ ?_
 have hd:∃o,h'.get? dx=some o:=let ⟨o,_,_,e',_⟩:=O'.ns;⟨o,e'⟩
 refine I.write (x:=a) (e:=dx) (by rw[e];exact aQ) (.inr ho) (λb q hb z=>(sb.2 b hb).trans z) hd ?_
 refine⟨by rw[Ad O.ne];exact ho,?_,O.ne,O'.obj,_,O'.ns,λg=>?_,λg hg=>?_⟩
 .have:=Ff f y fs;omega
 .show RelO ((Dv f y fs).lookup g) (if g=f then some u else mA g)
  rw[Fg]
  by_cases q:g=f
  .rw[if_pos q,if_pos q];exact ry
  .rw[if_neg q,if_neg q];exact r g
 .by_cases q:g=f
  .rw[q];exact (Ea f y fs).1
  .refine (Ea f y fs).2 g (wi g λz=>hg ?_)
   show (if g=f then some u else mA g)=none
   rw[if_neg q];exact z
theorem Inv.made(I:Inv X ξ U H s):Inv X ξ U (upd (upd H s.heap.objs.size (.own (s.heap.objs.size+1))) (s.heap.objs.size+1) (.ins C s.heap.objs.size []))
  {s with heap:=(s.heap.push cJ).push (dz C s.heap.objs.size) }:=by
 have e1:(s.heap.push cJ).get? s.heap.objs.size=some cJ:=aB s.heap rfl
 have e2:((s.heap.push cJ).push (dz C s.heap.objs.size)).get? (s.heap.objs.size+1)=some (dz C s.heap.objs.size):=by
  have:=aB (s.heap.push cJ) (o:=dz C s.heap.objs.size) rfl
  rwa[dP] at this
 have e3:(s.heap.push cJ).Ns s.heap.objs.size (λ_=>none):=⟨cJ,#[],_,e1,rfl,(λe he=>absurd he (by simp)),λ_=>rfl⟩
 have I1:=I.laid (a:=s.heap.objs.size) (o:=.own (s.heap.objs.size+1)) (h':=s.heap.push cJ) (t':=s.toks) (λb u q=>ah _ q) (ag _) ⟨_,e1⟩
 refine I1.laid (a:=s.heap.objs.size+1) (o:=.ins C s.heap.objs.size []) (t':=s.toks) (λb u q=>ah _ q) (Nat.le_of_eq (dP _ _)) ?_
 have ne:s.heap.objs.size≠s.heap.objs.size+1:=aT (cy _)
 refine⟨by rw[Ad ne,Ab],bC _,ne,e2,λ_=>none,(Heap.Ns1.of_empty e3).at λo q=>ah _ q,λ_=>aQ,λy hy=>absurd rfl hy⟩
theorem at8(hb:jt e f env (eval e env)=eval e env)(h:aK (model prog w) A (eval e env) (λo s₁=>aK (model prog w) A (lq o f true) Q E s₁) E s):aK (model prog w) A (eval (.Attribute e f pos) env) Q E s:=
 Attribute_any_ h (by rw[arm_eval_Attribute,hb])
end
section
variable {X:Cx} {ξ:List (Addr×Obj)} {U:St} {H:Hp} {s:av} {A:bP} {E:Value->av->Prop} {Q:Value->av->Prop} {c:Value} {b:Bool}
inductive TyOf (K:ac) (H:Hp):V->Value->Prop where
 |non:TyOf K H .non (.type "NoneType")
 |bl (x:Bool):TyOf K H (.bl x) (.type "bool")
 |int (i:Int):TyOf K H (.int i) (.type "int")
 |str (x:Str):TyOf K H (.str x) (.type "str")
 |stk (x:Str) (n:Nat) (ex:Bool):TyOf K H (.stk x n ex) (.type "str")
 |lst {a:Addr} {xs:List V} (e:H a=some (.lst xs)):TyOf K H (.ref a) (.type "list")
 |frz {a:Addr} {o:Obj} {xs:List V} (e:H a=some (.frz o (.lst xs))):TyOf K H (.ref a) (.type "list")
 |tup {a:Addr} {xs:List V} (e:H a=some (.tup xs)):TyOf K H (.ref a) (.type "tuple")
 |dK {a:Addr} {kvs:List (Key×V)} (e:H a=some (.dK kvs)):TyOf K H (.ref a) (.type "dict")
 |dT {a:Addr} {kvs:List (TK×V)} (e:H a=some (.dT kvs)):TyOf K H (.ref a) (.type "dict")
 | ins {a C dx:Addr} {fs:List (Str×V)} (e:H a=some (.ins C dx fs)) (cl:Cls K C) (ha:bg K (.ref C) "__class__"=some (some (.builtin "object.__class__")))
   (hn:PySem.W.specialIn K (.builtin "object.__class__") "__get__"=some (some (.builtin "getset_descriptor.__get__"))) (htk:PySem.W.takesIn K (.builtin "object.__class__")=some true)
   (hm:gG K C (.type "object")=some true):TyOf K H (.ref a) (.ref C)
theorem N3(I:Inv X ξ U H s)(rx:RelV x u)(ty:TyOf X.K H x t)(e:dR X.K t c=some b)(h:∀tk,Q (.bool b) { s with toks:=tk }) :
  aK (model X.prog X.w) A (call (.builtin "isinstance") [u,c]) Q E s:=by
 cases ty with
 |non=>cases (show u=cm from rx);exact b7 PySem.W.kitx_none I.kIn aQ e (λz=>nomatch z) h
 |bl y=>cases (show u=lj y from rx);exact b7 PySem.W.kitx_bool I.kIn aQ e (λz=>nomatch z) h
 |int i=>obtain⟨t,q⟩:=(show ∃t,u=k6 i t from rx);cases q;exact b7 PySem.W.kitx_int I.kIn aQ e (λz=>nomatch z) h
 |str y=>obtain⟨t,q⟩:=(show ∃t,u=iE y t from rx);cases q;exact b7 PySem.W.kitx_str I.kIn aQ e (λz=>nomatch z) h
 |stk y n ex=>obtain⟨t,q,_⟩:=(show ∃t,u=iE y t/\(if ex=true then t=n else n<=t) from rx);cases q;exact b7 PySem.W.kitx_str I.kIn aQ e (λz=>nomatch z) h
 |@lst a xs ea=>
  cases (show u=aV a from rx)
  obtain⟨_,_,n,_,h1⟩:=(show ObjOk X.prog X.w H s.heap a (.lst xs) from I.hok a _ ea)
  exact b7 i8 I.kIn ⟨_,h1,rfl⟩ e (λz=>nomatch z) h
 |@frz a ob xs ea=>
  cases (show u=aV a from rx)
  obtain⟨_,_,_,n,_,h1⟩:=(show ObjOk X.prog X.w H s.heap a (.frz ob (.lst xs)) from I.hok a _ ea)
  exact b7 i8 I.kIn ⟨_,h1,rfl⟩ e (λz=>nomatch z) h
 |@tup a xs ea=>
  cases (show u=aV a from rx)
  obtain⟨_,_,_,p⟩:=(show ObjOk X.prog X.w H s.heap a (.tup xs) from I.hok a _ ea)
  obtain⟨o,h1,h2,_⟩:=p
  exact b7 kW I.kIn ⟨o,h1,h2⟩ e (λz=>nomatch z) h
 |@dK a kvs ea=>
  cases (show u=aV a from rx)
  obtain⟨_,_,vs,_,p⟩:=(show ObjOk X.prog X.w H s.heap a (.dK kvs) from I.hok a _ ea)
  obtain⟨o,es,ep,h1,h2,_⟩:=p
  exact b7 PySem.W.kitx_dict I.kIn ⟨o,h1,h2.1⟩ e (λz=>nomatch z) h
 |@dT a kvs ea=>
  cases (show u=aV a from rx)
  obtain⟨_,_,o,es,ep,h1,h2,_⟩:=(show ObjOk X.prog X.w H s.heap a (.dT kvs) from I.hok a _ ea)
  exact b7 PySem.W.kitx_dict I.kIn ⟨o,h1,h2.1⟩ e (λz=>nomatch z) h
 |@ins a C dx fs ea cl ha hn htk hm=>
  cases (show u=aV a from rx)
  obtain⟨mA,O,_⟩:=Ke I.hok ea
  obtain⟨od,J,_⟩:=O.look
  exact b7 (PySem.W.kitx_own (cl.get _) cl.hd ha hn htk hm) I.kIn J e (λz=>nomatch z) h
end
structure Room (k:Nat) (A:bP):Prop where
 hd:A.handled=none
 dp:A.depth+3 * k+5<recursionLimit
 un:A.units+16 * k+200<cLine
theorem Room.mono(r:Room k A)(h:j<=k):Room j A:=⟨r.hd,by have:=r.dp;omega,by have:=r.un;omega⟩
theorem Room.deeper(r:Room (k+1) A)(env:Env):Room k (A.deeper env):=
 ⟨r.hd,by have:=r.dp;show A.depth+1+3 * k+5<_;omega,by have:=r.un;show A.units+3+16 * k+200<_;omega⟩
theorem Room.in1(r:Room (k+1) A):Room k A.in1:=
 ⟨r.hd,by have:=r.dp;show A.depth+3 * k+5<_;omega,by have:=r.un;show A.units+1+16 * k+200<_;omega⟩
theorem Us {A:bP}{C:Addr}{us:List Value}{kw:List (Str×Value)}:(A.under (.builtin "type.__call__" ⟨.ref C::us,kw⟩)).depth=A.depth+1:=by
 first|rfl|simp[lB,Code.weight,Code.isCreation,Code.isGuard,Code.isCaller,Code.frames,lC,guardIds]
theorem Ut {A:bP}{C:Addr}{us:List Value}{kw:List (Str×Value)}:(A.under (.builtin "type.__call__" ⟨.ref C::us,kw⟩)).units=A.units+1:=by
 first|rfl|simp[lB,Code.cUnits,Code.frames,lC]
theorem Room.make(r:Room (k+1) A)(C:Addr)(us:List Value)(kw:List (Str×Value)):Room k (A.under (.builtin "type.__call__" ⟨.ref C::us,kw⟩)):=
 ⟨r.hd,by have:=r.dp;rw[Us];omega,by have:=r.un;rw[Ut];omega⟩
theorem Room.depth(r:Room k A):A.depth<recursionLimit:=by have:=r.dp;omega
theorem Room.units(r:Room k A):A.units+64<cLine:=by have:=r.un;omega
noncomputable def b38:TA:=λ_ H Q=>Q [] H
noncomputable def bw6(ta:TE)(tr:TA):TA:=λU H Q=>ta U H λx H1=>tr U H1 λxs H2=>Q (x::xs) H2
section
variable {X:Cx} {e:Expr} {es:List Expr} {te:TE} {t:TA} {pos:Pos}
theorem bh0:PA X [] b38:=λ_ _ _ _ H Q I h=>fG ⟨[],H,I,.nil,h⟩
theorem ax7(ha:PE X e te)(hr:PA X es t)(hs:cX (e::es) X.env=(false,eval e X.env)::cX es X.env:=by rfl):PA X (e::es) (bw6 te t):=by
 intro pos ξ s U H Q I h
 rw[hs]
 show aK _ _ (spliced ((false,eval e X.env)::jb pos (cX es X.env))) _ _ s
 refine fj (thn (ha ξ s U H _ I h) λu s1 ⟨x,H1,I1,r1,q1⟩=>?_)
 exact thn (hr pos ξ s1 U H1 _ I1 q1) λus s2 ⟨xs,H2,I2,r2,q2⟩=>⟨x::xs,H2,I2,.cons r1 r2,q2⟩
noncomputable def b42(t:TA):TE:=λU H Q=>t U H λxs H1=>xs.length<=sizeLine/\∀p,H1 p=none->Q (.ref p) (upd H1 p (.tup xs))
noncomputable def b37(t:TA):TE:=λU H Q=>t U H λxs H1=>xs.length<=sizeLine/\∀p,H1 p=none->Q (.ref p) (upd H1 p (.lst xs))
theorem bh6 {x1}(h:PA X es t):PE X (.Tuple es x1 pos) (b42 t):=by
 intro ξ s U H Q I hq
 refine wpAny_Tuple_spliced (thn (h pos ξ s U H _ I hq) λus s1 ⟨xs,H1,I1,r,z,q⟩=>⟨by rw[<- r.length];exact z,?_⟩)
 have hf:H1 s1.heap.objs.size=none:=I1.hok.fresh (ag _)
 refine⟨.ref s1.heap.objs.size,upd H1 s1.heap.objs.size (.tup xs),I1.laid (t':=s1.toks) (λb u e=>ah _ e) (ag _) ?_,rfl,q _ hf⟩
 exact⟨z,us,r,⟨_,aB _ rfl,rfl,_,rfl⟩⟩
theorem bh2(h:PA X es t):PE X (.List es pos) (b37 t):=by
 intro ξ s U H Q I hq
 refine wpAny_List_spliced (thn (h pos ξ s U H _ I hq) λus s1 ⟨xs,H1,I1,r,z,q⟩=>⟨by rw[<- r.length];exact z,?_⟩)
 have hf:H1 s1.heap.objs.size=none:=I1.hok.fresh (ag _)
 refine⟨.ref s1.heap.objs.size,upd H1 s1.heap.objs.size (.lst xs),I1.laid (t':=s1.toks) (λb u e=>ah _ e) (ag _) ?_,rfl,q _ hf⟩
 exact⟨z,us,0,r,aB _ rfl⟩
end
noncomputable abbrev Sp:=List V->Hp->VK->XK->Prop
noncomputable abbrev CXT:=List Env->Hp->av->XK->Value->av->Prop
structure Env0 (P:ba) (w:bL) (K:ac) (mg:Str->Option Value) (base:Heap) (A:bP) (outer:List Env) (s:av) (H:Hp):Prop where
 frames:A.frames=some outer
 mod:Mod K mg base
 bs:∀b o,base.get? b=some o->s.heap.get? b=some o/\H b=none
 bsz:base.objs.size<=s.heap.objs.size
 funs:s.heap.FunFrames base outer
 frf:∀b∈frs outer,H b=none
 hok:HOk P w H s.heap
 bare:jK s.gens
 tk:Wn K s.toks
noncomputable def CE(outer:List Env)(P:ba)(w:bL)(H:Hp)(s:av)(Q:VK)(u:Value)(s':av):Prop:=
 ∃v H',(s'.os=s.os/\s.toks<=s'.toks)/\jK s'.gens/\Un (frs outer) [] H H' s.heap s'.heap/\HOk P w H' s'.heap/\RelV v u/\Q v H'
noncomputable def CR(CX:CXT)(outer:List Env)(P:ba)(w:bL)(H:Hp)(s:av)(Q:VK)(E:XK)(r:mL)(s':av):Prop:=
 match r with
 |.ok (.ret u)=>CE outer P w H s Q u s'
 |.ok _=>False
 |.error e=>CX outer H s E e s'
structure FnOk (P:ba) (w:bL) (K:ac) (mg:Str->Option Value) (base:Heap) (CX:CXT) (k:Nat) (f:Addr) (fd:bo) (ps:List Str) (sp:Sp):Prop where
 len:∀vs H Q E,sp vs H Q E->vs.length=ps.length
 run:∀(A:bP)(outer:List Env)(s:av)(H:Hp)(args:Args)(us:List Value)(vs:List V)(Q:VK)(E:XK),Room k A->Env0 P w K mg base A outer s H->lh s fd args (ps.zip us)->Vals vs us->sp vs H Q E ->
  gH (model P w) A (.call (.ref f) args) (CR CX outer P w H s Q E) s
theorem FnOk.imp {P:ba}{w:bL}{K:ac}{mg:Str->Option Value}{base:Heap}{CX:CXT}{k:Nat}{f:Addr}{fd:bo}{ps:List Str}{sp sp':Sp}(F:FnOk P w K mg base CX k f fd ps sp)(h:∀vs H Q E,sp' vs H Q E->sp vs H Q E):FnOk P w K mg base CX k f fd ps sp':=
 ⟨λvs H Q E q=>F.len vs H Q E (h _ _ _ _ q),λA outer s H args us vs Q E hr he hb hv hs=>F.run A outer s H args us vs Q E hr he hb hv (h _ _ _ _ hs)⟩
theorem Env0.make {P:ba}{w:bL}{K:ac}{mg:Str->Option Value}{base:Heap}{A:bP}{outer:List Env}{s:av}{H:Hp}(e:Env0 P w K mg base A outer s H)(C:Addr)(us:List Value)(kw:List (Str×Value)) :
  Env0 P w K mg base (A.under (.builtin "type.__call__" ⟨.ref C::us,kw⟩)) outer s H:=⟨by first|exact e.frames|(simpa [lB,Code.envs,lC,pushEnvs] using e.frames),e.mod,e.bs,e.bsz,e.funs,e.frf,e.hok,e.bare,e.tk⟩
theorem Env0.in1 {P:ba}{w:bL}{K:ac}{mg:Str->Option Value}{base:Heap}{A:bP}{outer:List Env}{s:av}{H:Hp}(e:Env0 P w K mg base A outer s H) :
  Env0 P w K mg base A.in1 outer s H:=⟨e.frames,e.mod,e.bs,e.bsz,e.funs,e.frf,e.hok,e.bare,e.tk⟩
section
variable {X:Cx} {ξ:List (Addr×Obj)} {U:St} {H:Hp} {s s':av}
theorem Inv.env0(I:Inv X ξ U H s):Env0 X.prog X.w X.K X.mg X.base X.A X.stack s H:=
 ⟨I.ok.frames,I.ok.mod,I.bs,a9 I.ok.bsz I.sz,I.stack,I.stkFree,I.hok,I.bare,aQ⟩
theorem Inv.after(I:Inv X ξ U H s)(h:CE X.stack X.prog X.w H s Q u s'):EP X ξ U Q u s':=by
 obtain⟨v,H',os,bare,un,hok,r,q⟩:=h
 obtain⟨hh,g,d,t,os'⟩:=s'
 obtain rfl:os'=s.os:=os.1
 exact⟨v,H',I.call (h':=hh) (g':=g) (d':=d) (t':=t) (ch:=[]) un hok bare (λb z=>absurd z (by simp)) os.2,r,q⟩
end
noncomputable def Binds(K:ac)(fd:bo)(ps:List Str)(ds:List Value):Prop:=
 ∀(s:av)(us:List Value),K.In s.heap->(us++ds).length=ps.length->lh s fd ⟨us,[]⟩ (ps.zip (us++ds))
theorem Binds.all {K:ac}{fd:bo}{ps:List Str}(h:∀us:List Value,us.length=ps.length->iq fd ⟨us,[]⟩=pure (ps.zip us)):Binds K fd ps []:=λs us _ hl=>by
 rw[bS] at hl ⊢
 exact .of_eq (h us hl)
section
variable {X:Cx} {CX:CXT} {k:Nat} {f C:Addr} {fd:bo} {ps:List Str} {sp:Sp} {dvs:List V} {ds:List Value} {E:XK} {x m:Str} {p pos apos:Pos} {e o:Expr} {es:List Expr} {ta:TE} {t:TA}
structure Mk (K:ac) (C f:Addr):Prop where
 makes:dA K C=true
 init:bg K (.ref C) "__init__"=some (some (.ref f))
 fn:cU K (.ref f)=true
 kp:bh K (.ref C)=true
end
structure Cl (N P:List Str) (sc:Scope):Prop where
 kind:sc.kind=.function
 co:sc.isCoroutine=false
 gen:sc.isGenerator=false
 nd:N.Nodup
 pre:N.take P.length=P
 par:∀x∈P,sc.names.lookup x=some .local\/sc.names.lookup x=some .cell
 nofree:∀y∈sc.names,y.2≠.free
theorem Nl {kindOf:Str->Option cH}{x:Str}:∀ {binds:List (Str×Value)} {m:Str->Option Value},(∀v,(x,v)∉binds)->bindL kindOf binds m x=m x
 |[],_,_=>rfl
 | (n,v)::r,m,h=>by
  unfold bindL
  rw[Nl λw hw=>h w (ax _ hw)]
  split
  .have:x≠n:=by rintro rfl;exact h v aJ
   simp[this]
  .rfl
theorem Nj {kindOf:Str->Option cH}{x:Str}:∀ {binds:List (Str×Value)} {m:Str->Option Value},(∀v,(x,v)∉binds)->bindC kindOf binds m x=m x
 |[],_,_=>rfl
 | (n,v)::r,m,h=>by
  unfold bindC
  rw[Nj λw hw=>h w (ax _ hw)]
  split
  .rfl
  .have:x≠n:=by rintro rfl;exact h v aJ
   simp[this]
theorem Nk {kindOf:Str->Option cH}{x:Str}{v:Value}:∀ {P:List Str} {vs:List Value} {i:Nat} {m:Str->Option Value},P.Nodup->P[i]?=some x->vs[i]?=some v->kindOf x=some .local ->
  bindL kindOf (P.zip vs) m x=some v
 |[],_,_,_,_,h,_,_=>by simp at h
 |_::_,[],_,_,_,_,h,_=>by simp at h
 | p::P,w::vs,0,m,nd,h1,h2,hk=>by
  simp at h1 h2;subst h1;subst h2
  show bindL kindOf ((p,w)::P.zip vs) m p=_
  unfold bindL
  rw[Nl λv hv=>(List.nodup_cons.mp nd).1 (iB hv).1,if_pos hk]
  simp
 | p::P,w::vs,i+1,m,nd,h1,h2,hk=>by
  show bindL kindOf ((p,w)::P.zip vs) m x=_
  unfold bindL
  exact Nk (i:=i) (List.nodup_cons.mp nd).2 (by simpa using h1) (by simpa using h2) hk
theorem Ni {kindOf:Str->Option cH}{x:Str}{v:Value}:∀ {P:List Str} {vs:List Value} {i:Nat} {m:Str->Option Value},P.Nodup->P[i]?=some x->vs[i]?=some v->kindOf x≠some .local ->
  bindC kindOf (P.zip vs) m x=some v
 |[],_,_,_,_,h,_,_=>by simp at h
 |_::_,[],_,_,_,_,h,_=>by simp at h
 | p::P,w::vs,0,m,nd,h1,h2,hk=>by
  simp at h1 h2;subst h1;subst h2
  show bindC kindOf ((p,w)::P.zip vs) m p=_
  unfold bindC
  rw[Nj λv hv=>(List.nodup_cons.mp nd).1 (iB hv).1,if_neg hk]
  simp
 | p::P,w::vs,i+1,m,nd,h1,h2,hk=>by
  show bindC kindOf ((p,w)::P.zip vs) m x=_
  unfold bindC
  exact Ni (i:=i) (List.nodup_cons.mp nd).2 (by simpa using h1) (by simpa using h2) hk
noncomputable def Cp(N:List Str)(vs:List V):St:=vs.map some++g9 (N.length - vs.length) none
noncomputable def Gb(CX:CXT)(P:ba)(w:bL)(K:ac)(mg:Str->Option Value)(base:Heap)(N:List Str)(qual:Str)(scope:Scope)(f:Addr)(cd:Value)(A:bP)(outer:List Env)(s:av)(H:Hp)(E:XK):Cx where
 prog:=P
 w:=w
 K:=K
 mg:=mg
 base:=base
 A:=A.deeper (kj qual scope s.heap.objs.size f cd)
 N:=N
 s₀:=s
 H₀:=H
 env:=kj qual scope s.heap.objs.size f cd
 outer:=outer
 stack:=kj qual scope s.heap.objs.size f cd::outer
 ex:=[]
 calm:=true
 fn:=λ_=>true
 pn:=[]
 xe:=λe s'=>aK (model P w) (A.deeper (kj qual scope s.heap.objs.size f cd)) (leaving (kj qual scope s.heap.objs.size f cd) e) (λ_ s''=>CX outer H s E e s'') (λe' s''=>CX outer H s E e' s'') s'
theorem E5 {sc:Scope}{n:Nat}{x:Str}(h:sc.names.lookup x=some .cell):∃c,(l3 n sc.names []).lookup x=some c:=by
 have q:=gQ sc.names n [] (.inl h)
 exact Option.isSome_iff_exists.mp q
theorem N1 {CX:CXT}{P:ba}{w:bL}{K:ac}{mg:Str->Option Value}{base:Heap}{N ps:List Str}{qual:Str}{scope:Scope}{f:Addr}{cd:Value}{A:bP}{outer:List Env}{s s1:av}{H:Hp}{E:XK}{us:List Value}{vs:List V}(S:Cl N ps scope)(hd:A.handled=none)(e0:Env0 P w K mg base A outer s H)(htk:s.toks<=s1.toks)(hl:vs.length=ps.length)(r:Vals vs us)(x:InCallC s s.heap.objs.size (bindL (kj qual scope s.heap.objs.size f cd).kindOf (ps.zip us) λ_=>none) (l3 (s.heap.objs.size+1) scope.names []) (bindC (kj qual scope s.heap.objs.size f cd).kindOf (ps.zip us) λ_=>none) s1) :
  Inv (Gb CX P w K mg base N qual scope f cd A outer s H E) [] (Cp N vs) H s1:=by
 have hpl:ps.length<=N.length:=by have:=congrArg dj S.pre;rw[aC] at this;omega
 obtain⟨h1,tk,rfl,hk⟩:=x.done
 have noA:∀b:Addr,b∉(Gb CX P w K mg base N qual scope f cd A outer s H E).ex:=λb z=>absurd (show b∈([]:List Addr) from z) (by simp)
 refine⟨⟨e0.mod,S.kind,rfl,rfl,ag _,λy z c h1 h2=>?_,λy hy=>?_,λy c _ h=>?_,λ_=>hd,Around.frames_deeper e0.frames,.inr ⟨rfl,rfl⟩,λb z=>absurd z (noA b),e0.bs,e0.bsz,λb _ _=>noA b,λb z=>absurd z (noA b),e0.funs,e0.frf,e0.tk⟩,
  ⟨rfl,htk⟩,e0.bare,Un.kept hk,⟨_,x.toInCall.ns,λi y v h1 h2 h3=>?_⟩,λy c h=>⟨_,x.cell y c h⟩,e0.hok.fresh (ag _),λy c h=>?_,λp hp=>absurd (show p∈([]:List (Addr×Obj)) from hp) (by simp),e0.hok.kept hk,?_⟩
 .exact name_of_addr x.apart (bU h1) (bU h2)
 .have hy:scope.names.lookup y=some .cell\/scope.names.lookup y=some .free:=hy
  rcases hy with hy|hy
  .exact E5 hy
  .exact absurd rfl (S.nofree _ (bU hy))
 .exact dM (x.above y c (bU h))
 .have hi:i<vs.length:=by
   unfold Cp at h2
   by_cases hi:i<vs.length
   .exact hi
   .rw[bA (by simpa using hi)] at h2
    rw[eU] at h2
    split at h2 <;> cases h2
  have ha:vs[i]?=some v:=by
   unfold Cp at h2
   rw[bK (by simpa using hi),al] at h2
   cases e:vs[i]? with
   |none=>rw[e] at h2;cases h2
   |some a=>rw[e] at h2;cases h2;rfl
  obtain⟨u,hu,rv⟩:=r.get ha
  have hp:ps[i]?=some y:=by
   rw[<- S.pre,List.getElem?_take_of_lt (by omega)];exact h1
  have ndP:ps.Nodup:=by rw[<- S.pre];exact S.nd.sublist (d7 _ _)
  refine⟨u,rv,?_⟩
  rcases S.par y (ak hp) with k|k
  .exact .inl ⟨k,Nk ndP hp hu k⟩
  .obtain⟨c,e⟩:=E5 (n:=s.heap.objs.size+1) k
   refine .inr ⟨.inl k,c,e,?_⟩
   have q:=x.cell y c e
   rw[Ni ndP hp hu (by show scope.names.lookup y≠_;rw[k];decide)] at q
   exact q
 .exact e0.hok.fresh (dM (x.above y c (bU h)))
 .unfold Cp
  show _=N.length
  rw[aU,ae,List.length_replicate]
  omega
theorem ae7 {CX:CXT}{P:ba}{w:bL}{K:ac}{mg:Str->Option Value}{base:Heap}{k:Nat}{f:Addr}{name qual:Str}{params:Arguments}{body:List Stmt}{scope:Scope}{dV kV doc pm θ ct oc:Value}{an od:Option Addr}{osl:Array (Option Value)}{N ps:List Str}{sp:Sp}(lk:K.lookup f=some ⟨oc,od,.func (cr name qual params body scope dV kV doc pm an θ ct),osl⟩)(hcd:dq K θ qual=true)(S:Cl N ps scope)(len:∀vs H Q E,sp vs H Q E->vs.length=ps.length)(hbody:∀(A:bP)(outer:List Env)(s:av)(H:Hp)(vs:List V)(Q:VK)(E:XK),Room k (A.deeper (kj qual scope s.heap.objs.size f θ))->sp vs H Q E ->
   ∃t,PSs (Gb CX P w K mg base N qual scope f θ A outer s H E) body t/\t { nx:=λ_ H'=>Q .non H',rt:=Q } (Cp N vs) H) :
  FnOk P w K mg base CX (k+1) f (cr name qual params body scope dV kV doc pm an θ ct) ps sp:=by
 refine⟨len,λA outer s H args us vs Q E hr e0 hb r hsp=>?_⟩
 have hl:=len _ _ _ _ hsp
 have KX:K.In s.heap:=e0.mod.kin.keeps λb o e=>(e0.bs b o e).1
 have lim:s.heap.NoLimit:=e0.mod.nolimit.keeps λb o e=>(e0.bs b o e).1
 have hkind:∀y∈ps.zip us,scope.names.lookup y.1=some .local\/(scope.names.lookup y.1=some .cell/\((l3 (s.heap.objs.size+1) scope.names []).lookup y.1).isSome=true):=fun⟨n,v⟩ hy=>by
  rcases S.par n (iB hy).1 with q|q
  .exact .inl q
  .exact .inr ⟨q,gQ _ _ _ (.inl q)⟩
 refine codeAny_call_function hr.depth (KX _ _ lk) rfl S.co S.gen rfl (PySem.W.codeRec_of KX hcd) (hb _ _ _ _ ?_)
 refine bB (ag _) (iN S.kind hkind λenv he s1 x htk=>?_)
 subst he
 refine⟨lim.keeps x.toInCall.keep,codeAny_func ?_⟩
 obtain⟨t,ht,hq⟩:=hbody A outer s H vs Q E (hr.deeper _) hsp
 have I:Inv (Gb CX P w K mg base N qual scope f θ A outer s H E) [] (Cp N vs) H s1:=N1 S hr.hd e0 htk hl r x
 refine bW (ht [] s1 (Cp N vs) H _ I hq) (λfl s' hs=>?_) λe s' hs=>hs
 have fin:∀ {U':St} {H':Hp} {v:V} {u:Value},Inv (Gb CX P w K mg base N qual scope f θ A outer s H E) [] U' H' s'->RelV v u->Q v H'->CE outer P w H s Q u s':=
  λ{U' H' v u} J rv q=>⟨v,H',J.os,J.bare,J.base,J.hok,rv,q⟩
 cases fl with
 |ret u=>
  obtain⟨v,U',H',J,rv,q⟩:=hs
  exact fin J rv q
 |next=>
  obtain⟨U',H',J,q⟩:=hs
  exact fin (v:=V.non) (u:=cm) J rfl q
 |brk=>
  obtain⟨_,_,_,q⟩:=hs
  exact cb q
 |cont=>
  obtain⟨_,_,_,q⟩:=hs
  exact cb q
section
variable {X:Cx} {x:Str} {p pos:Pos} {e:Expr} {es:List Expr} {t:TA} {id T:String} {r:List V->Hp->VK->Prop}
noncomputable def tCB(r:List V->Hp->VK->Prop)(t:TA):TE:=λU H Q=>t U H λvs H1=>r vs H1 Q
theorem ai9(hc:B9 X (.builtin id) r)(hg:Gl X x)(hm:X.mg x=none)(hv:cW x=some (.builtin id))(ha:PA X (e::es) t)(hn:x ≠ "__name__" := by decide)(hdb:(x==("__debug__" : Str))=false:=by decide)(he:cX (e::es) X.env=(false,eval e X.env)::cX es X.env:=by rfl)(hpl:(jb pos (cX es X.env)).any (·.1)=false:=by rfl):PE X (.Call (.Name x p) (e::es) [] pos) (tCB r t):=by
 intro ξ s U H Q I h
 refine bN (Dk I hg hm hv ?_ hn hdb)
 exact hZ (thn (ha pos ξ s U H _ I h) λus s1 ⟨vs,H1,I1,r1,q1⟩=>hc ξ s1 U H1 vs us Q I1 r1 q1) he hpl
theorem Y1(hc:B9 X (.type T) r)(hg:Gl X x)(hm:X.mg x=none)(hv:cW x=some (.type T))(ha:PA X (e::es) t)(hn:x ≠ "__name__" := by decide)(hdb:(x==("__debug__" : Str))=false:=by decide)(he:cX (e::es) X.env=(false,eval e X.env)::cX es X.env:=by rfl)(hpl:(jb pos (cX es X.env)).any (·.1)=false:=by rfl):PE X (.Call (.Name x p) (e::es) [] pos) (tCB r t):=by
 intro ξ s U H Q I h
 refine bN (Dk I hg hm hv ?_ hn hdb)
 exact b5 (thn (ha pos ξ s U H _ I h) λus s1 ⟨vs,H1,I1,r1,q1⟩=>hc ξ s1 U H1 vs us Q I1 r1 q1) he hpl
end
end L2
namespace HT
open PySem PyProof.Rows
section
variable {prog:ba} {w:bL} {A:bP} {E:Value->av->Prop} {s:av}
theorem cat_tup(ht:mH s.heap t vs.toArray)(hb:mH s.heap b ws.toArray)(hv:vs≠[])(h1:ws=[]->Q (.ref t) s)(h2:ws≠[]->Q (.ref s.heap.objs.size) { s with heap:=s.heap.push { cls:=.type "tuple", data:=.seq (vs++ws).toArray } })(hsz:vs.length+ws.length<=sizeLine):aK (model prog w) A (dD .Add (.ref t) (.ref b)) Q E s:=by
 obtain⟨⟨cls,dd,data,sl⟩,ho,hc,n,hd⟩:=id ht
 obtain⟨⟨cls2,dd2,data2,sl2⟩,ho2,hc2,n2,hd2⟩:=id hb
 simp only at hc hd hc2 hd2
 subst hc hd hc2 hd2
 have e:vs.toArray++ws.toArray=(vs++ws).toArray:=by simp
 by_cases hw:ws=[]
 .exact lJ ⟨_,ho,rfl⟩ ⟨_,ho2,rfl⟩ jA k8 gO gC (gj _ _)
   (tuple_addW1 t b vs.toArray ws.toArray n n2 dd dd2 sl sl2 (by simpa using hv) (by simp[hw])) ⟨ho,ho2,h1 hw⟩
 .refine lJ ⟨_,ho,rfl⟩ ⟨_,ho2,rfl⟩ jA k8 gO gC (gj _ _)
   (tuple_addW2 t b vs.toArray ws.toArray n n2 dd dd2 sl sl2 (by simpa using hv) (by simpa using hw) (by rw[aq,aq];exact hsz)) ⟨ho,ho2,?_⟩
  rw[e]
  exact h2 hw
noncomputable def sIx(n d:Nat):Option Int->Nat
 |none=>d
 |some v=>if v<0 then (v+(n:Int)).toNat else min v.toNat n
theorem bl8(n d:Nat)(hd:d<=n)(o:Option Int):sIx n d o<=n:=by
 cases o with
 |none=>exact hd
 |some v=>
  show (if v<0 then (v+(n:Int)).toNat else min v.toNat n)<=n
  by_cases hv:v<0
  .rw[if_pos hv];omega
  .rw[if_neg hv];exact Nat.min_le_right _ _
theorem Wv(v:Int)(n d:Nat):(if v<0 then max (v+(n:Int)) 0 else min v (n:Int))=((sIx n d (some v):Nat):Int):=by
 show (if v<0 then max (v+(n:Int)) 0 else min v (n:Int))=(((if v<0 then (v+(n:Int)).toNat else min v.toNat n):Nat):Int)
 by_cases hv:v<0
 .simp only[if_pos hv];omega
 .simp only[if_neg hv];omega
theorem Tm(lo hi:Option Int)(n:Nat):fU lo hi 1 (n:Int)=(((sIx n 0 lo:Nat):Int),((sIx n n hi:Nat):Int)):=by
 have h1:¬ ((1:Int)<0):=by omega
 unfold fU
 simp only[h1,if_false]
 refine Prod.ext ?_ ?_
 .cases lo with
  |none=>rfl
  |some v=>exact Wv v n 0
 .cases hi with
  |none=>rfl
  |some v=>exact Wv v n n
theorem Uz4(i j:Nat):dO (i:Int) (j:Int) 1=j - i:=by
 unfold dO
 have h1:(1:Int) > 0:=by omega
 simp only[h1,if_true,Int.ediv_one]
 split <;> omega
theorem Lz(p:lT v o)(h:Q o s):aK (model prog w) A (Builtin.Slice.slicePartIndex v) Q E s:=by
 cases p with
 |none=>exact slicePart_none h
 |int i t=>exact slicePart_int h
theorem Ip {sl:Addr}{vl vu:Value}{lo hi:Option Int}{n:Nat}{Q:Int×Int×Nat->av->Prop}(hs:s.heap.IsSliceOf sl vl vu .none)(pl:lT vl lo)(pu:lT vu hi)(h:Q (((sIx n 0 lo:Nat):Int),1,sIx n n hi - sIx n 0 lo) s):aK (model prog w) A (iH (.ref sl) (pure (n:Int))) Q E s:=by
 obtain⟨os,hos,hcs,hds⟩:=id hs
 unfold iH Builtin.Slice.sliceFields
 refine af (af (dS hos hds (x:=vl) rfl (af (dS hos hds (x:=vu) rfl (af (dS hos hds (x:=.none) rfl (ai ?_)))))))
 refine af (slicePart_none ?_)
 show aK _ _ (if ((1:Int)==0)=true then _ else _) _ _ s
 rw[if_neg (by decide)]
 refine af (Lz pl (af (Lz pu (af (ai ?_)))))
 show aK _ _ (match fU lo hi 1 (n:Int) with|(lo,hi)=>pure (lo,(1:Int),dO lo hi 1)) _ _ s
 rw[Tm lo hi n]
 show aK _ _ (pure (((sIx n 0 lo:Nat):Int),(1:Int),dO ((sIx n 0 lo:Nat):Int) ((sIx n n hi:Nat):Int) 1)) _ _ s
 rw[Uz4]
 exact ai h
theorem aj3(xs:Array Value)(i k:Nat):((ay k).filterMap λ(m:Nat)=>xs[((i:Int)+(m:Int) * 1).toNat]?).toArray=((xs.toList.drop i).take k).toArray:=by
 have e:(λ(m:Nat)=>xs[((i:Int)+(m:Int) * 1).toNat]?)=λm=>xs[i+m]?:=by
  funext m
  have:((i:Int)+(m:Int) * 1).toNat=i+m:=by omega
  rw[this]
 rw[e]
 have:=pick_run xs i k
 rw[List.filterMap_map] at this
 have e2:((λx=>xs[x]?)∘λx=>i+x)=λm=>xs[i+m]?:=rfl
 rw[e2] at this
 rw[this]
theorem getItem_tuple_cut {t sl:Addr}{ψ:Array Value}{vl vu:Value}{lo hi:Option Int}{Q:Value->av->Prop}(ht:mH s.heap t ψ)(hs:s.heap.IsSliceOf sl vl vu .none)(pl:lT vl lo)(pu:lT vu hi)(hw:¬ (sIx ψ.size 0 lo=0/\sIx ψ.size ψ.size hi=ψ.size))(h:Q (.ref s.heap.objs.size) { s with heap:=s.heap.push { cls:=.type "tuple", data:=.seq ((ψ.toList.drop (sIx ψ.size 0 lo)).take (sIx ψ.size ψ.size hi - sIx ψ.size 0 lo)).toArray } })(hsz:ψ.size<=sizeLine):aK (model prog w) A (lx (.ref t) (.ref sl)) Q E s:=by
 have htake:sizeOk (.seq ((ψ.toList.drop (sIx ψ.size 0 lo)).take (sIx ψ.size ψ.size hi - sIx ψ.size 0 lo)).toArray):=by
  show ((ψ.toList.drop (sIx ψ.size 0 lo)).take (sIx ψ.size ψ.size hi - sIx ψ.size 0 lo)).toArray.size<=sizeLine
  rw[aq,aC,jw,dw]
  omega
 have hj:sIx ψ.size ψ.size hi<=ψ.size:=bl8 _ _ (ag _) hi
 obtain⟨os,hos,hcs,hds⟩:=id hs
 have hTs:s.TypeIs (.ref sl) "slice" := ⟨os,hos,hcs⟩
 unfold lx
 try with_reducible refine bj ?_
 first|refine af (ai ?_)|skip
 refine af (jh ht.typeIs (by decide) ?_)
 refine af (cB (name:=cV "__getitem__") ht.typeIs d9
  (bY d9 ht.typeIs entry_tuple_getitem ?_ (args_tuple_getitem _ _)))
 show aK _ _ (iI (.ref t) >>= _) _ _ s
 refine af (tupleItemsOf_ ht ?_)
 refine af (wpAny_typeOf hTs ?_)
 rw[if_pos (by decide)]
 refine af (Ip hs pl pu ?_)
 have hno:¬ ((((sIx ψ.size 0 lo:Nat):Int)==0&&(1:Int)==1&&(sIx ψ.size ψ.size hi - sIx ψ.size 0 lo)==ψ.size)=true):=by
  intro q
  rw[aH,aH] at q
  have q1:((sIx ψ.size 0 lo:Nat):Int)=0:=cf q.1.1
  have q2:sIx ψ.size ψ.size hi - sIx ψ.size 0 lo=ψ.size:=cf q.2
  exact hw ⟨by omega,by omega⟩
 show aK _ _ (if (((sIx ψ.size 0 lo:Nat):Int)==0&&(1:Int)==1&&(sIx ψ.size ψ.size hi - sIx ψ.size 0 lo)==ψ.size)=true then _ else _) _ _ s
 rw[if_neg hno,aj3]
 first
  |exact af (m:=dY _) (cn (ai ⟨_,rfl,ai h⟩) htake)
  |exact af (m:=dY _) (cn (af (ai (ai ⟨_,rfl,ai h⟩))) htake)
  |exact af (af (m:=dY _) (cn (ai (ai ⟨_,rfl,ai h⟩)) htake))
  |exact af (af (m:=dY _) (cn (ai ⟨_,rfl,ai h⟩) htake))
end
end HT
namespace L2
open PySem PySem.Spec PyProof.Rows
noncomputable abbrev TO:=St->Hp->(Option Int->Hp->Prop)->Prop
noncomputable def PO(X:Cx)(e:Option Expr)(t:TO):Prop:=
 ∀(ξ:List (Addr×Obj))(s:av)(U:St)(H:Hp)(Q:Option Int->Hp->Prop),Inv X ξ U H s->t U H Q ->
  aK (model X.prog X.w) X.A (evalPart e X.env) (λu s'=>∃o H',Inv X ξ U H' s'/\lT u o/\Q o H') X.xe s
noncomputable def a18:TO:=λ_ H Q=>Q none H
theorem Ld:∀ {us:List Value},Vals (ns.map V.int) us->jm us ns:=by
 induction ns with
 |nil=>intro us r;rw[eG] at r;cases r;exact .nil
 |cons n ns ih=>
  intro us r
  rw[aS] at r
  cases r with
  |cons r1 r2=>
   obtain⟨t,e⟩:=r1
   subst e
   exact .cons n t (ih r2)
section
variable {X:Cx} {e:Expr} {te:TE} {lo hi:Option Expr} {tl th:TO} {pos p2:Pos}
theorem ay2:PO X none a18:=by
 intro ξ s U H Q I h
 rw[evalPart_none]
 exact ai ⟨none,H,I,.none,h⟩
noncomputable def SlR(X:Cx)(r:V->Option Int->Option Int->Hp->VK->Prop):Prop:=
 ∀(ξ:List (Addr×Obj))(s:av)(U:St)(H:Hp)(x:V)(v vl vu:Value)(lo hi:Option Int)(sl:Addr)(Q:VK),Inv X ξ U H s->RelV x v->s.heap.IsSliceOf sl vl vu .none->lT vl lo->lT vu hi->r x lo hi H Q ->
  ∃T id,jf (.type T) "__getitem__"=pure (some (.builtin id))/\s.TypeIs v T/\aK (model X.prog X.w) X.A (lx v (.ref sl)) (EP X ξ U Q) X.xe s
noncomputable def ad3(xs:List V)(lo hi:Option Int):List V:=(xs.drop (HT.sIx xs.length 0 lo)).take (HT.sIx xs.length xs.length hi - HT.sIx xs.length 0 lo)
theorem Rl(xs:List V)(lo hi:Option Int):(ad3 xs lo hi).length<=xs.length:=by
 unfold ad3
 rw[aC,jw]
 omega
noncomputable def b32(K:ac):V->Option Int->Option Int->Hp->VK->Prop:=λx lo hi H Q=>∃a xs,x=.ref a/\SqT K H a xs /\
 ¬ (HT.sIx xs.length 0 lo=0/\HT.sIx xs.length xs.length hi=xs.length)/\∀p,H p=none->Q (.ref p) (upd H p (.tup (ad3 xs lo hi)))
theorem bm1:SlR X (b32 X.K):=by
 intro ξ s U H x v vl vu lo hi sl Q I rx hs pl pu h
 obtain⟨a,xs,rfl,hx,hw,q⟩:=h
 cases rx
 obtain⟨χ,r,ht,hz⟩:=I.tuple hx
 have hlen:χ.toArray.size=xs.length:=by rw[aq];exact r.length.symm
 refine⟨"tuple", _,PyProof.Rows.slot_tuple_getitem.lookup,ht.typeIs,?_⟩
 refine HT.getItem_tuple_cut ht hs pl pu (by rw[hlen];exact hw) ?_ (by rw[hlen];exact hz)
 rw[hlen]
 refine⟨.ref s.heap.objs.size,_,I.laid (t':=s.toks) (o:=.tup (ad3 xs lo hi)) (λb ob q=>ah _ q) (ag _) ?_,rfl,q _ (I.hok.fresh (ag _))⟩
 exact⟨a9 (Rl xs lo hi) hz,_,(r.drop (HT.sIx xs.length 0 lo)).take (HT.sIx xs.length xs.length hi - HT.sIx xs.length 0 lo),IsTup.new _ _⟩
noncomputable def a47(K:ac):R2:=λx y H Q=>∃a b xs ys,x=.ref a/\y=.ref b/\SqT K H a xs/\SqT K H b ys/\xs≠[]/\xs.length+ys.length<=sizeLine /\
 (ys=[]->Q (.ref a) H)/\(ys≠[] -> ∀p,H p=none->Q (.ref p) (upd H p (.tup (xs++ys))))
theorem Vals.nil_iff(r:Vals xs us):us=[] ↔ xs=[]:=by
 cases r with
 |nil=>simp
 |cons _ _=>simp
theorem op_catT:OpR X (dD .Add) (a47 X.K):=by
 intro ξ s U H x y v u Q I rx ry h
 obtain⟨a,b,xs,ys,rfl,rfl,ha,hb,hx,hz,q1,q2⟩:=h
 cases rx
 cases ry
 obtain⟨χ,r1,p1,_⟩:=I.tuple ha
 obtain⟨its2,r2,p2,_⟩:=I.tuple hb
 refine HT.cat_tup p1 p2 (λz=>hx (r1.nil_iff.mp z)) (λz=>⟨.ref a,H,I,rfl,q1 (r2.nil_iff.mp z)⟩) (λz=>?_) (by rw[<- r1.length,<- r2.length];exact hz)
 refine⟨.ref s.heap.objs.size,_,I.laid (t':=s.toks) (o:=.tup (xs++ys)) (λb ob q=>ah _ q) (ag _) ?_,rfl,q2 (λw=>z (r2.nil_iff.mpr w)) _ (I.hok.fresh (ag _))⟩
 exact⟨by rw[aU];exact hz,_,r1.append r2,IsTup.new _ _⟩
end
noncomputable def ixN(n:Nat)(i:Int):Option Nat:=if 0<=i then (if i<n then some i.toNat else none) else if -(n:Int)<=i then some (i+n).toNat else none
noncomputable def atI {α:Type}(xs:List α)(i:Int):Option α:=(ixN xs.length i).bind λj=>xs[j]?
theorem W1(h:ixN n i=some j):seqIndex? i n=some j/\j<n /\ -(n:Int)<=i/\i<n:=by
 unfold ixN at h
 by_cases h0:0<=i
 .rw[if_pos h0] at h
  by_cases h1:i<n
  .rw[if_pos h1] at h
   have e:i.toNat=j:=aG h
   exact⟨by rw[mh h0 h1,e],by omega,by omega,h1⟩
  .rw[if_neg h1] at h;cases h
 .rw[if_neg h0] at h
  by_cases h1:-(n:Int)<=i
  .rw[if_pos h1] at h
   have e:(i+n).toNat=j:=aG h
   exact⟨by rw[lM (by omega) h1,e],by omega,h1,by omega⟩
  .rw[if_neg h1] at h;cases h
theorem Ow {α:Type}{xs:List α}{i:Int}{v:α}(h:atI xs i=some v):∃j,seqIndex? i xs.length=some j/\xs[j]?=some v/\j<xs.length /\ -(xs.length:Int)<=i/\i<xs.length:=by
 unfold atI at h
 cases e:ixN xs.length i with
 |none=>rw[e] at h;cases h
 |some j=>
  rw[e] at h
  obtain⟨h1,h2,h3,h4⟩:=W1 e
  exact⟨j,h1,h,h2,h3,h4⟩
theorem Bw {α:Type}{xs:List α}{j:Nat}{v:α}(h:xs[j]?=some v):atI xs (j:Int)=some v:=by
 have hj:j<xs.length:=(List.getElem?_eq_some_iff.mp h).1
 have e:ixN xs.length (j:Int)=some j:=by
  unfold ixN
  rw[if_pos (by omega),if_pos (by omega)];simp
 unfold atI;rw[e];exact h
noncomputable def Wm(b:Expr):Prop:=∀o i,subscripted b false o i=operate [o,i] (lx o i)
noncomputable def IxR(X:Cx)(r:R2):Prop:=
 ∀(value slice:Expr)(ξ:List (Addr×Obj))(s:av)(U:St)(H:Hp)(x y:V)(v u:Value)(Q:VK),Inv X ξ U H s->RelV x v->RelV y u->r x y H Q ->
  subscripted slice false v u=operate [v,u] (lx v u)->aK (model X.prog X.w) X.A (k9 value slice v u) (EP X ξ U Q) X.xe s
noncomputable def MtR(X:Cx)(id:String)(r:V->List V->Hp->VK->Prop):Prop:=
 ∀(ξ:List (Addr×Obj))(s:av)(U:St)(H:Hp)(x:V)(xs:List V)(v:Value)(us:List Value)(Q:VK),Inv X ξ U H s->RelV x v->Vals xs us->r x xs H Q ->
  aK (model X.prog X.w) X.A (call (.builtin id) (v::us)) (EP X ξ U Q) X.xe s
section
variable {X:Cx} {a b:Expr} {ta tb:TE} {pos:Pos}
theorem bu7(hr:IxR X r)(ha:PE X a ta)(hb:PE X b tb)(hs:Wm b):PE X (.Subscript a b pos) (tOp r ta tb):=by
 intro ξ s U H Q I h
 exact Subscript_ (a76 ha hb I h λv u s2 x y H2 I2 rx ry q=>hr a b ξ s2 U H2 x y v u Q I2 rx ry q (hs _ _))
noncomputable def b28(K:ac):R2:=λx y H Q=>∃p xs i v,x=.ref p/\y=.int i/\SqL K H p xs/\atI xs i=some v/\Q v H
noncomputable def b30(K:ac):R2:=λx y H Q=>∃p xs i v,x=.ref p/\y=.int i/\SqT K H p xs/\atI xs i=some v/\Q v H
noncomputable def b29:R2:=λx y H Q=>∃z i c,x=.str z/\y=.int i/\z.length<=sizeLine/\atI z.cps.toList i=some c/\Q (.str ⟨#[c]⟩) H
theorem av6:IxR X (b28 X.K):=by
 intro value slice ξ s U H x y v u Q I rx ry h hs
 obtain⟨p,xs,i,z,rfl,rfl,hq,he,q⟩:=h
 cases rx
 obtain⟨t,rfl⟩:=ry
 obtain⟨χ,r,pl,hz⟩:=I.list hq
 obtain⟨j,h1,h2,h3,h4,h5⟩:=Ow he
 obtain⟨w,ew,rw'⟩:=r.get h2
 have hl:=r.length
 have hn:=Ge
 have fin:EP X ξ U Q w s:=⟨z,H,I,rw',q⟩
 by_cases h0:0<=i
 .have hj:i.toNat=j:=by
   rw[mh h0 h5] at h1
   exact aG h1
  exact item_listR pl.isList h0 (by omega) (by rw[hj];simpa using ew) fin hs
 .have hj:(i+(χ.toArray.size:Int)).toNat=j:=by
   rw[lM (by omega) h4] at h1
   rw[aq,<- hl]
   exact aG h1
  exact jI (x:=w) pl.isList.typeIs slot_list_getitem.lookup
   (wpAny_getItem_list_neg (Q:=λr s'=>r=w/\EP X ξ U Q r s') pl.isList (by omega) (by rw[aq] <;> omega) (by omega) (by rw[hj];simpa using ew) ⟨rfl,fin⟩) hs
theorem ba3:IxR X (b30 X.K):=by
 intro value slice ξ s U H x y v u Q I rx ry h hs
 obtain⟨p,xs,i,z,rfl,rfl,hq,he,q⟩:=h
 cases rx
 obtain⟨t,rfl⟩:=ry
 obtain⟨χ,r,pl,hz⟩:=I.tuple hq
 obtain⟨j,h1,h2,h3,h4,h5⟩:=Ow he
 obtain⟨w,ew,rw'⟩:=r.get h2
 have hl:=r.length
 have hn:=Ge
 have fin:EP X ξ U Q w s:=⟨z,H,I,rw',q⟩
 exact jI (x:=w) pl.typeIs slot_tuple_getitem.lookup
  (getItem_tuple (j:=j) (Q:=λr s'=>r=w/\EP X ξ U Q r s') pl (by omega) (by omega) (by rw[aq,<- hl];exact h1) (by simpa using ew) ⟨rfl,fin⟩) hs
theorem ba2:IxR X b29:=by
 intro value slice ξ s U H x y v u Q I rx ry h hs
 obtain⟨z,i,c,rfl,rfl,hz,he,q⟩:=h
 obtain⟨t,rfl⟩:=rx
 obtain⟨t',rfl⟩:=ry
 obtain⟨j,h1,h2,h3,h4,h5⟩:=Ow he
 have hl:z.cps.toList.length=z.length:=by simp[Str.length]
 rw[hl] at h1 h4 h5
 have hn:=Ge
 exact tail_any (typeIs_str s z t) slot_str_getitem.lookup (getItem_str (c:=c) (by
  have e1:decide (i < -(2 ^ 63:Int))=false:=decide_eq_false (by omega)
  have e2:decide (i ≥ 2 ^ 63)=false:=decide_eq_false (by omega)
  rw[e1,e2,Bool.or_false]) (by rw[h1];simpa using h2) ⟨.str ⟨#[c]⟩,H,I.tok _,⟨_,rfl⟩,q⟩) hs
theorem Uu(χ:List Value)(n j:Nat)(u:Value):be (·.setIfInBounds j u) { cls:=.type "list", data:=.seq χ.toArray n }={ cls:=.type "list", data:=.seq (χ.set j u).toArray n }:=by
 simp[be]
theorem Inv.lst(I:Inv X ξ U H s)(h:H p=some (.lst xs)) :
  ∃(χ:List Value)(n:Nat),Vals xs χ/\s.heap.get? p=some { cls:=.type "list", data:=.seq χ.toArray n }/\xs.length<=sizeLine:=by
 obtain⟨z,χ,n,r,e⟩:=I.hok p _ h
 exact⟨χ,n,r,e,z⟩
theorem Inv.lstUpd {ξ:List (Addr×Obj)}{U:St}{H:Hp}{s:av}{p:Addr}{xs ys:List V}{χ its':List Value}{n n':Nat}{f:Obj->Obj}(I:Inv X ξ U H s)(h:H p=some (.lst xs))(ho:s.heap.get? p=some { cls:=.type "list", data:=.seq χ.toArray n })(hf:f { cls:=.type "list", data:=.seq χ.toArray n }={ cls:=.type "list", data:=.seq its'.toArray n' })(r:Vals ys its')(hz:ys.length<=sizeLine)(t:Nat)(ht:s.toks<=t:=by first|exact ag _|exact bq _ _|assumption|omega|(dsimp only;omega)) :
  Inv X ξ U (upd H p (.lst ys)) { s with heap:=s.heap.update p f,toks:=t }:=by
 have e:(s.heap.update p f).get? p=some { cls:=.type "list", data:=.seq its'.toArray n' }:=by
  rw[b_ f ho (by rw[hf] <;> rfl),hf]
 refine I.write (x:=p) (e:=p) (by rw[h];trivial) (.inl rfl) (λb u hb q=>(cq _ _ (cA hb)).trans q) ⟨_,e⟩ ?_
 exact⟨hz,its',n',r,e⟩
noncomputable def bw0:V->V->V->Hp->(Hp->Prop)->Prop:=λo i v H Q=>∃p xs k j,o=.ref p/\i=.int k/\H p=some (.lst xs)/\ixN xs.length k=some j/\Q (upd H p (.lst (xs.set j v)))
theorem an0:a75 X bw0:=by
 intro ξ s U H o i v ov iv u Q I ro ri rv h
 obtain⟨p,xs,k,j,rfl,rfl,hp,hj,q⟩:=h
 cases ro
 obtain⟨t,rfl⟩:=ri
 obtain⟨χ,n,r,ho,hz⟩:=I.lst hp
 obtain⟨h1,h2,h3,h4⟩:=W1 hj
 have hl:=r.length
 have hn:=Ge
 have I':Inv X ξ U (upd H p (.lst (xs.set j v))) { s with heap:=s.heap.update p (be (·.setIfInBounds j u)) }:=
  I.lstUpd hp ho (Uu χ n j u) (r.set rv j) (by rw[iA];exact hz) s.toks
 by_cases h0:0<=k
 .have hk:k.toNat=j:=by
   rw[mh h0 h4] at h1
   exact aG h1
  exact PySem.W.ki_setAt ho h0 (by omega) (by rw[aq,<- hl];exact h4) (by rw[hk];exact⟨_,I',q⟩)
 .have hk:(k+(χ.toArray.size:Int)).toNat=j:=by
   rw[lM (by omega) h3] at h1
   rw[aq,<- hl]
   exact aG h1
  exact PySem.W.ki_setBack ho (by omega) (by rw[aq,<- hl];exact h3) (by omega) (by rw[hk];exact⟨_,I',q⟩)
noncomputable def eqU(x:V)(u:Value):Bool:=match u with
 |.none=>eqV .non x
 |.bool b=>eqV (.bl b) x
 |.int i _=>eqV (.int i) x
 |.str z _=>eqV (.str z) x
 |_=>false
theorem ae2(r:RelV y u)(f:B1 y=true):eqU x u=eqV y x:=by
 cases y with
 |non=>cases r;rfl
 |bl b=>cases r;rfl
 |int i=>obtain⟨t,rfl⟩:=r;rfl
 |str z=>obtain⟨t,rfl⟩:=r;rfl
 |_=>exact absurd (show false=true from f) au
theorem G0:∀ {xs:List V} {us:List Value},Vals xs us->xs.all B1=true->us.any (eqU x)=xs.any λy=>eqV y x
 |_,_,.nil,_=>rfl
 | y::xs,u::us,.cons r t,f=>by
  rw[bR,aH] at f
  rw[gx,gx,ae2 r f.1,G0 t f.2]
theorem Fh(rx:RelV x v)(fx:B1 x=true):∀ {xs:List V} {us:List Value},Vals xs us->xs.all B1=true -> ∀u∈us,bD A s u v (eqU x u)
 |_,_,.nil,_=>λu hu=>by cases hu
 | y::xs,u::us,.cons r t,f=>λu' hu=>by
  rw[bR,aH] at f
  rcases List.mem_cons.mp hu with rfl|hu
  .rw[ae2 r f.1];exact Pi r rx f.1 fx
  .exact Fh rx fx t f.2 u' hu
noncomputable def inV(x:V)(xs:List V):Bool:=xs.any λy=>eqV y x
noncomputable def rIn(K:ac)(neg:Bool):R2:=λx y H Q=>∃p xs,y=.ref p/\(SqL K H p xs\/SqT K H p xs)/\B1 x=true/\xs.all B1=true/\Q (.bl (if neg then !inV x xs else inV x xs)) H
theorem Yy:OpR X (cG .In) (rIn X.K false):=by
 intro ξ s U H x y v u Q I rx ry h
 obtain⟨p,xs,rfl,hq,fx,fs,q⟩:=h
 cases ry
 rcases hq with hq|hq
 .obtain⟨χ,r,pl,hz⟩:=I.list hq
  refine SeqAt.in_listAt (eqU x) pl.isList (λw hw=>Fh rx fx r fs w (by simpa using hw)) ⟨.bl _,H,I,rfl,?_⟩
  rw[show χ.toArray.any (eqU x)=χ.any (eqU x) by simp,G0 r fs]
  exact q
 .obtain⟨χ,r,pl,hz⟩:=I.tuple hq
  refine SeqAt.in_tupleAt (eqU x) pl (λw hw=>Fh rx fx r fs w (by simpa using hw)) ⟨.bl _,H,I,rfl,?_⟩
  rw[show χ.toArray.any (eqU x)=χ.any (eqU x) by simp,G0 r fs]
  exact q
theorem P0:OpR X (cG .NotIn) (rIn X.K true):=by
 intro ξ s U H x y v u Q I rx ry h
 obtain⟨p,xs,rfl,hq,fx,fs,q⟩:=h
 cases ry
 rcases hq with hq|hq
 .obtain⟨χ,r,pl,hz⟩:=I.list hq
  refine SeqAt.notIn_listAt (eqU x) pl.isList (λw hw=>Fh rx fx r fs w (by simpa using hw)) ⟨.bl _,H,I,rfl,?_⟩
  rw[show χ.toArray.any (eqU x)=χ.any (eqU x) by simp,G0 r fs]
  exact q
 .obtain⟨χ,r,pl,hz⟩:=I.tuple hq
  refine SeqAt.notIn_tupleAt (eqU x) pl (λw hw=>Fh rx fx r fs w (by simpa using hw)) ⟨.bl _,H,I,rfl,?_⟩
  rw[show χ.toArray.any (eqU x)=χ.any (eqU x) by simp,G0 r fs]
  exact q
theorem Oy:B9 X (.builtin "len") (λxs H Q=>∃p ys,xs=[.ref p]/\(SqL X.K H p ys\/SqT X.K H p ys)/\Q (.int ys.length) H):=by
 intro ξ s U H xs us Q I r h
 obtain⟨p,ys,rfl,hq,q⟩:=h
 obtain⟨u,rfl,rx⟩:=Dn r
 cases rx
 have hn:=Ge
 rcases hq with hq|hq
 .obtain⟨χ,r',pl,hz⟩:=I.list hq
  have hlen:=r'.length
  exact Calls.call_len_list pl.isList (by simp only[aq] <;> omega) ⟨.int ys.length,H,I.tok _,⟨s.toks+1,by rw[aq,hlen]⟩,q⟩
 .obtain⟨χ,r',pl,hz⟩:=I.tuple hq
  have hlen:=r'.length
  exact len_tuple pl (by simp only[aq] <;> omega) ⟨.int ys.length,H,I.tok _,⟨s.toks+1,by rw[aq,hlen]⟩,q⟩
theorem Oz:B9 X (.builtin "len") (λxs H Q=>∃z,xs=[.str z]/\z.length<=sizeLine/\Q (.int z.length) H):=by
 intro ξ s U H xs us Q I r h
 obtain⟨z,rfl,hz,q⟩:=h
 obtain⟨u,rfl,t,rfl⟩:=Dn r
 have hn:=Ge
 exact len_str (by omega) ⟨.int z.length,H,I.tok _,⟨_,rfl⟩,q⟩
theorem O7:B9 X (.type "list") (λxs H Q=>∃p ys,xs=[.ref p]/\(SqL X.K H p ys\/SqT X.K H p ys)/\∀l,H l=none->Q (.ref l) (upd H l (.lst ys))):=by
 intro ξ s U H xs us Q I r h
 obtain⟨p,ys,rfl,hq,q⟩:=h
 obtain⟨u,rfl,rx⟩:=Dn r
 cases rx
 have fin:∀(χ:List Value),Vals ys χ->ys.length<=sizeLine -> ∀(h':Heap)(c':Nat),(∀b o',s.heap.get? b=some o'->h'.get? b=some o') ->
   h'.get? s.heap.objs.size=some { cls:=.type "list", dict:=none,data:=.seq χ.toArray c',slots:=#[] }->EP X ξ U Q (.ref s.heap.objs.size) { s with heap:=h' }:=λχ r' hz h' c' kp e=>
  ⟨.ref s.heap.objs.size,_,I.laid (t':=s.toks) kp (ag _) (show ObjOk X.prog X.w _ h' _ (.lst ys) from⟨hz,χ,c',r',e⟩),rfl,q _ (I.hok.fresh (ag _))⟩
 rcases hq with hq|hq
 .obtain⟨χ,r',pl,hz⟩:=I.list hq
  have hlen:=r'.length
  obtain⟨o,ho,hc,n,hd⟩:=pl.isList
  exact call_list_seq p (.inl rfl) ho hc hd (λh' c' kp e=>fin χ r' hz h' c' kp e) (by simp only[aq] <;> omega)
 .obtain⟨χ,r',pl,hz⟩:=I.tuple hq
  have hlen:=r'.length
  obtain⟨o,ho,hc,n,hd⟩:=pl
  exact call_list_seq p (.inr rfl) ho hc hd (λh' c' kp e=>fin χ r' hz h' c' kp e) (by simp only[aq] <;> omega)
theorem Mo:B9 X (.type "tuple") (λxs H Q=>∃p ys,xs=[.ref p]/\((SqL X.K H p ys/\∀l,H l=none->Q (.ref l) (upd H l (.tup ys)))\/(SqT X.K H p ys/\Q (.ref p) H))):=by
 intro ξ s U H xs us Q I r h
 obtain⟨p,ys,rfl,h⟩:=h
 obtain⟨u,rfl,rx⟩:=Dn r
 cases rx
 rcases h with ⟨hq,q⟩|⟨hq,q⟩
 .obtain⟨χ,r',pl,hz⟩:=I.list hq
  have hlen:=r'.length
  refine call_tuple_list pl.isList (λh' kp=>?_) (by simp only[aq] <;> omega)
  have I1:Inv X ξ U H { s with heap:=h' }:=I.kept (t':=s.toks) kp
  have I2:Inv X ξ U (upd H h'.objs.size (.tup ys)) { s with heap:=h'.push { cls:=.type "tuple", data:=.seq χ.toArray } }:=
   I1.laid (t':=s.toks) (λb o e=>ah _ e) (ag _) (show ObjOk X.prog X.w _ _ _ (.tup ys) from⟨hz,χ,r',IsTup.new _ _⟩)
  exact⟨.ref h'.objs.size,_,I2,rfl,q _ (I1.hok.fresh (ag _))⟩
 .obtain⟨χ,r',pl,hz⟩:=I.tuple hq
  exact call_tuple_same pl ⟨.ref p,H,I,rfl,q⟩
noncomputable def tyV(K:ac)(T:String)(x:V)(H:Hp):Prop:=match x with
 |.str _=>T="str"
 |.int _=>T="int"
 | .ref p=>(T="list" /\ ∃xs,SqL K H p xs)\/(T="tuple" /\ ∃o,K.lookup p=some o/\o.cls=.type "tuple" /\ o.dict=none) \/
   (T="dict" /\ ((∃kvs,H p=some (.dK kvs)) \/ ∃kvs,H p=some (.dT kvs)))\/(T="set" /\ ∃S n,H p=some (.set S n))
 |_=>False
theorem ar1(I:Inv X ξ U H s)(r:RelV x v)(ty:tyV X.K T x H) :
  s.TypeIs v T/\∀a,v=.ref a -> ∃ob,s.heap.get? a=some ob/\ob.dict=none:=by
 cases x with
 |str z=>
  obtain⟨t,rfl⟩:=r
  cases (show T="str" from ty)
  exact⟨typeIs_str s z t,λ_ e=>nomatch e⟩
 |int i=>
  obtain⟨t,rfl⟩:=r
  cases (show T="int" from ty)
  exact⟨typeIs_int s i t,λ_ e=>nomatch e⟩
 |ref p=>
  cases r
  rcases ty with ⟨rfl,xs,hq⟩|⟨rfl,o,hk,hc,hd⟩|⟨rfl,hk⟩|⟨rfl,S,n,hk⟩
  .obtain⟨χ,_,pl,_⟩:=I.list hq
   refine⟨pl.isList.typeIs,λa e=>?_⟩
   cases e
   obtain⟨o,n,e,c,hd,_⟩:=pl
   exact⟨o,e,hd⟩
  .refine⟨⟨o,I.kIn p o hk,hc⟩,λa e=>?_⟩
   cases e
   exact⟨o,I.kIn _ o hk,hd⟩
  .have z:∃o,s.heap.get? p=some o/\o.ExactDict:=by
    rcases hk with ⟨kvs,hk⟩|⟨kvs,hk⟩
    .obtain⟨_,_,_,_,o,_,_,e,ex,_⟩:=I.hok p _ hk
     exact⟨o,e,ex⟩
    .obtain⟨_,_,o,_,_,e,ex,_⟩:=I.hok p _ hk
     exact⟨o,e,ex⟩
   obtain⟨o,e,ex⟩:=z
   refine⟨⟨o,e,ex.1⟩,λa e2=>?_⟩
   cases e2
   exact⟨o,e,ex.2.1⟩
  .obtain⟨o,_,_,_,e,ex,_⟩:=I.hok p _ hk
   refine⟨⟨o,e,ex.1⟩,λa e2=>?_⟩
   cases e2
   exact⟨o,e,ex.2.1⟩
 |_=>exact cb ty
variable {o e:Expr} {es:List Expr} {to:TE} {t:TA} {name:Str} {apos cpos:Pos} {T id:String} {r:V->List V->Hp->VK->Prop}
end
noncomputable def MtM(X:Cx)(id:String)(r:V->List V->Hp->VK->Prop):Prop:=
 ∀(ξ:List (Addr×Obj))(s:av)(U:St)(H:Hp)(x:V)(xs:List V)(v:Value)(us:List Value)(Q:VK),Inv X ξ U H s->RelV x v->Vals xs us->r x xs H Q ->
  aK (model X.prog X.w) X.A (call (.builtin id) (v::us)) (EP X ξ U Q) X.xe s
theorem Vals.one:∀ {x:V} {us:List Value},Vals [x] us -> ∃u,us=[u]/\RelV x u
 |_,_,.cons r .nil=>⟨_,rfl,r⟩
theorem Vals.two:∀ {x y:V} {us:List Value},Vals [x,y] us -> ∃u v,us=[u,v]/\RelV x u/\RelV y v
 |_,_,_,.cons r (.cons q .nil)=>⟨_,_,rfl,r,q⟩
theorem Vals.zero:∀ {us:List Value},Vals [] us->us=[]
 |_,.nil=>rfl
section
variable {X:Cx} {ξ:List (Addr×Obj)} {U:St} {H:Hp} {s:av} {l b:Addr} {xs ys zs:List V}
theorem Inv.lset {χ its':List Value}{n:Nat}{f:Array Value->Array Value}{t':Nat}(I:Inv X ξ U H s)(hH:H l=some (.lst xs))(e:s.heap.get? l=some { cls:=.type "list", data:=.seq χ.toArray n })(hf:f χ.toArray=its'.toArray)(hv:Vals ys its')(hz:ys.length<=sizeLine)(ht:s.toks<=t':=by first|exact ag _|exact bq _ _|assumption|omega|(dsimp only;omega)) :
  Inv X ξ U (upd H l (.lst ys)) { s with heap:=s.heap.update l (be f),toks:=t' }:=by
 have q:=PySem.IsL.update e f
 rw[hf] at q
 refine I.write (x:=l) (e:=l) (by rw[hH];exact trivial) (.inl rfl) (λb' u hb hu=>(cq s.heap (be f) (cA hb)).trans hu) ⟨_,q⟩ ?_
 exact⟨hz,its',_,hv,q⟩
theorem Inv.lnew(I:Inv X ξ U H s)(hv:Vals ys χ)(hz:ys.length<=sizeLine)(ht:s.toks<=t':=by first|exact ag _|exact bq _ _|assumption|omega|(dsimp only;omega)) :
  Inv X ξ U (upd H s.heap.objs.size (.lst ys)) { s with heap:=s.heap.push { cls:=.type "list", data:=.seq χ.toArray },toks:=t' }:=
 I.laid (λ_ _ q=>ah _ q) (ag _) ⟨hz,χ,0,hv,aB _ rfl⟩ ht
theorem Inv.fresh(I:Inv X ξ U H s):H s.heap.objs.size=none:=I.hok.fresh (ag _)
theorem Inv.lstM(I:Inv X ξ U H s)(hH:H l=some (.lst xs)):xs.length<=sizeLine/\∃(χ:List Value)(n:Nat),Vals xs χ/\xs.length=χ.length/\s.heap.get? l=some { cls:=.type "list", data:=.seq χ.toArray n }:=by
 obtain⟨z,χ,n,r,e⟩:=I.hok l _ hH
 exact⟨z,χ,n,r,r.length,e⟩
theorem ai0 {n:Nat}(h:n<=sizeLine):gd n=false:=by
 unfold gd
 exact decide_eq_false (by omega)
end
section
variable {X:Cx}
noncomputable def Db:V->List V->Hp->VK->Prop:=λx vs H Q=>∃l xs y,x=.ref l/\vs=[y]/\H l=some (.lst xs)/\xs.length<sizeLine/\Q .non (upd H l (.lst (xs++[y])))
theorem Oc:MtM X "list.append" Db:=by
 intro ξ s U H x vs v us Q I rx rv h
 obtain⟨l,xs,y,rfl,rfl,hH,hz,q⟩:=h
 cases rx
 obtain⟨u,rfl,ru⟩:=rv.one
 obtain⟨z,χ,n,r,hl,e⟩:=I.lstM hH
 refine ll F.slot_list_append ⟨_,e,rfl⟩ F.entry_list_append (F.args_list_append_2 _ _) (PySem.list_append l χ.toArray n u (by rw[aq];omega)) ⟨e,?_⟩
 refine⟨.non,_,I.lset (its':=χ++[u]) hH e (by simp) (r.append (.cons ru .nil)) ?_,rfl,q⟩
 rw[aU,c7]
 omega
noncomputable def Ko:V->List V->Hp->VK->Prop:=λx vs H Q=>∃l b xs zs,x=.ref l/\vs=[.ref b]/\H l=some (.lst xs)/\H b=some (.lst zs)/\xs.length+zs.length<=sizeLine/\Q .non (upd H l (.lst (xs++zs)))
theorem Yt:MtM X "list.extend" Ko:=by
 intro ξ s U H x vs v us Q I rx rv h
 obtain⟨l,b,xs,zs,rfl,rfl,hH,hB,hz,q⟩:=h
 cases rx
 obtain⟨u,rfl,ru⟩:=rv.one
 cases ru
 obtain⟨z,χ,n,r,hl,e⟩:=I.lstM hH
 obtain⟨z2,its2,n2,r2,hl2,e2⟩:=I.lstM hB
 have hsz:χ.toArray.size+its2.toArray.size<=sizeLine:=by rw[aq,aq];omega
 have hlong:¬ (!χ.toArray.isEmpty&&gd (χ.toArray.size+its2.toArray.size))=true:=by
  rw[ai0 hsz,g8]
  exact au
 refine ll F.slot_list_extend ⟨_,e,rfl⟩ F.entry_list_extend (F.args_list_extend_2 _ _)
  (AutoSeq1.list_extend_list_list_0 l χ.toArray n b its2.toArray n2 hlong (by rw[aq];omega) (by omega)) ⟨e,e2,?_⟩
 refine⟨.non,_,I.lset (its':=χ++its2) hH e (by simp) (r.append r2) ?_,rfl,q⟩
 rw[aU]
 omega
noncomputable def P9:V->List V->Hp->VK->Prop:=λx vs H Q=>∃l xs,x=.ref l/\vs=[]/\H l=some (.lst xs)/\Q .non (upd H l (.lst []))
theorem ah3:MtM X "list.clear" P9:=by
 intro ξ s U H x vs v us Q I rx rv h
 obtain⟨l,xs,rfl,rfl,hH,q⟩:=h
 cases rx
 have hus:=rv.zero
 subst hus
 obtain⟨z,χ,n,r,hl,e⟩:=I.lstM hH
 refine ll F.slot_list_clear ⟨_,e,rfl⟩ F.entry_list_clear (F.args_list_clear_1 _) (AutoSeq1.list_clear_list_0 l χ.toArray n (by rw[aq];omega)) ⟨e,?_⟩
 exact⟨.non,_,I.lset (its':=[]) (ys:=[]) hH e rfl .nil (bC _),rfl,q⟩
noncomputable def bv9:R2:=λx y H Q=>∃l b xs zs,x=.ref l/\y=.ref b/\H l=some (.lst xs)/\H b=some (.lst zs)/\xs.length+zs.length<=sizeLine/\∀p,H p=none->Q (.ref p) (upd H p (.lst (xs++zs)))
theorem op_cat:OpR X (dD .Add) bv9:=by
 intro ξ s U H x y v u Q I rx ry h
 obtain⟨l,b,xs,zs,rfl,rfl,hH,hB,hz,q⟩:=h
 cases rx
 cases ry
 obtain⟨z,χ,n,r,hl,e⟩:=I.lstM hH
 obtain⟨z2,its2,n2,r2,hl2,e2⟩:=I.lstM hB
 refine PySem.P.add_list e e2 ?_ (by rw[aq,aq];omega)
 have ea:χ.toArray++its2.toArray=(χ++its2).toArray:=by simp
 rw[ea]
 exact⟨.ref _,_,I.lnew (t':=s.toks) (r.append r2) (by rw[aU];omega),rfl,q _ I.fresh⟩
end
end L2
namespace Att
open PySem PySem.W PySem.Calls PyProof.Rows
theorem Jm:∀(ns:List Int)(vs:List Value),WellAll P h vs (ns.map WData.int)->jm vs ns:=by
 intro ns
 induction ns with
 |nil=>
  intro vs w
  rw[eG] at w
  cases w
  exact .nil
 |cons n ns ih=>
  intro vs w
  rw[aS] at w
  cases w with
  |cons a b=>
   cases a
   exact .cons _ _ (ih _ b)
theorem Ze {l:OpenLaw}{n:Nat}(hn:l.most=some n){P:Params}{h:Heap}{args:List WData}{vals:List Value}(hpre:l.row.toRowW.claim.pre args=true)(hwl:WellAll P h vals args) :
  ∃a vs ns,vals=[aV a]/\args=[WData.list (ns.map WData.int)]/\h.get? a=some { cls:=.type "list", data:=.seq vs.toArray }/\jm vs ns/\ns.length<=n:=by
 have hsh:WShape.hasAll [] args [.list .int]=true:=(pre_splitW hpre).1
 have hc:l.pre.holds [] { args:=args }=true:=(pre_splitW hpre).2
 obtain⟨d,r,rfl,h1,h2⟩:=hasAllW_cons hsh
 obtain rfl:=hasAllW_nil h2
 obtain⟨xs,rfl,h3⟩:=hasW_list h1
 obtain⟨ns,rfl⟩:=items_int h3
 have hlen:ns.length<=n:=by
  unfold OpenLaw.pre at hc
  have h4:(WTm.not (.lt (.lit (.int (n:Int))) (.len (.arg 0)))).holds [] { args:=[.list (ns.map .int)] }=true:=by
   have h4:=(holds_andW hc).1
   rw[hn] at h4
   exact h4
  have h5:=condW_of h4 (w_not (w_lt w_lit (w_len_list (w_arg rfl))))
  rw[ae] at h5
  refine Nat.le_of_not_lt λq=>?_
  have q':(n:Int)<((ns.length:Nat):Int):=by omega
  first
   |(rw[decide_eq_true q'] at h5;exact absurd h5 (by decide))
   |(simp at h5;omega)
 cases hwl with
 |cons w1 w2=>
  cases w2
  cases w1 with
  |list ho hall=>exact⟨_,_,ns,rfl,rfl,ho,Jm ns _ hall,hlen⟩
theorem Y4(l:OpenLaw)(args:List WData):l.row.toRowW.claim.post args (.bool true) args=true:=
 postW_of (r:=l.row.toRowW) (X:=(true==true))
  (show WShape.has [] (.bool true) .bool=true by first|rfl|decide|simp[WShape.has,WShape.arms,WShape.armsAll])
  (show (WTm.eq .res (.lit (.bool true))).value [] { args:=args,res:=some (.bool true),after:=args }=some (.bool (true==true)) from w_eq_bool (w_res rfl) w_lit) rfl
theorem attach_call {l:OpenLaw}{n:Nat}{q:ba}{loose:List Str}{XP:(Str->Option Value)->Heap->Prop}{YP:bL->Heap->Prop}{d:DefRec}(hn:l.most=some n)(hdf:d.params.defaults=[])(call:∀(w:bL)(s₀ s₁:av)(mg mb:Str->Option Value)(fa:Addr)(o:Obj)(pm cd doc:Value)(a:Addr)(vs:List Value)(ns:List Int),
   Ground q loose [] XP w s₀ mg mb s₁.heap->YP w s₁.heap ->
   s₁.heap.get? fa=some o->o.data=.func (docDef d.name d.params d.body d.scope pm cd doc)->s₁.heap.CodeRec cd d.name->mg d.name=some (.ref fa) ->
   s₁.heap.get? a=some { cls:=.type "list", data:=.seq vs.toArray }->jm vs ns->ns.length<=n->s₁.gens = #[] ->
   gH (model l.prog w) lZ (.call (.ref fa) ⟨[.ref a],[]⟩) (λr s'=>r=.ok (.ret (.bool true))/\OldK s₁.heap s'.heap/\s'.os=s₁.os/\jK s'.gens) s₁) :
  WalkO q loose XP YP l.row.toRowW d [] (λf vs=>PySem.call f vs):=by
 intro w s₀ s₁ mg mb G Y fa o pm cd doc dV kV ho hd hcd hD hmg hg args vals as hpre hlay hrd hwl hlo
 obtain rfl:dV=.none:=Dflts.none hD hdf
 obtain rfl:kV=.none:=Dflts.noKw hD
 obtain⟨a,vs,ns,rfl,rfl,hobj,hints,hlen⟩:=Ze hn hpre hwl
 refine enter_call (eJ (call w s₀ s₁ mg mb fa o pm cd doc a vs ns G Y ho (fd_plain hd) hcd hmg hobj hints hlen hg) λr s' hq=>?_)
 obtain⟨rfl,h2,h3,h4⟩:=hq
 exact⟨.inl ⟨.bool true,.bool true,[],rfl,λ_=>rfl,.bool true,Y4 l _,λ_=>⟨i0,λ_ hm=>(nomatch hm)⟩⟩,h2,h3,h4⟩
end Att
namespace L2
open PySem PySem.Spec PyProof.Rows
theorem Oo:∀ {vs:List Value} {ns:List Int},jm vs ns->Vals (ns.map V.int) vs
 |_,_,.nil=>.nil
 |_,_,.cons n t h=>.cons ⟨t,rfl⟩ (Oo h)
noncomputable def A9(s:Stmt)(j:Nat):Stmt:=match s with
 |.ClassDef _ _ _ body _ _ _ _ _ _ _=>body.getD j (.Pass ⟨0,0,0,0⟩)
 |_=>.Pass ⟨0,0,0,0⟩
noncomputable def B0(s:Stmt):Arguments:=match s with
 |.FunctionDef _ a _ _ _ _ _ _ _ _=>a
 |_=>{ posonlyargs:=[],args:=[],vararg:=none,kwonlyargs:=[],kw_defaults:=[],kwarg:=none,defaults:=[] }
noncomputable def A3(s:Stmt):List Stmt:=match s with
 |.FunctionDef _ _ b _ _ _ _ _ _ _=>b
 |_=>[]
noncomputable def Ak(s:Stmt):Scope:=match s with
 |.FunctionDef _ _ _ _ _ _ sc _ _ _=>sc
 |_=>{ kind:=.function,names:=[],isGenerator:=false,isCoroutine:=false }
noncomputable abbrev CX0:CXT:=λ_ _ _ _ _ _=>False
structure Fun (K:ac) (x qual:Str) (st:Stmt) (f:Addr) (fd:bo):Prop where
 ex:∃(oc:Value)(od:Option Addr)(kV doc pm:Value)(an:Option Addr)(θ ct:Value)(osl:Array (Option Value)),
  fd=cr x qual (B0 st) (A3 st) (Ak st) .none kV doc pm an θ ct/\K.lookup f=some ⟨oc,od,.func fd,osl⟩/\dq K θ qual=true
 kp:bh K (.ref f)=true
section
variable {P:ba} {w:bL} {K:ac} {mg:Str->Option Value} {base:Heap}
theorem Fun.binds {x qual:Str}{st:Stmt}{f:Addr}{fd:bo}{ps:List Str}(F:Fun K x qual st f fd)(h:∀(kV doc pm:Value)(an:Option Addr)(θ ct:Value)(us:List Value),us.length=ps.length->iq (cr x qual (B0 st) (A3 st) (Ak st) .none kV doc pm an θ ct) ⟨us,[]⟩=pure (ps.zip us)):Binds K fd ps []:=by
 obtain⟨oc,od,kV,doc,pm,an,θ,ct,osl,rfl,lk,hcd⟩:=F.ex
 exact .all (h kV doc pm an θ ct)
theorem Pk {x qual:Str}{st:Stmt}{f:Addr}{oc:Value}{od an:Option Addr}{osl:Array (Option Value)}{kV doc pm θ ct:Value}(l:K.lookup f=some ⟨oc,od,.func (cr x qual (B0 st) (A3 st) (Ak st) .none kV doc pm an θ ct),osl⟩)(c:dq K θ qual=true)(k:bh K (.ref f)=true):Fun K x qual st f (cr x qual (B0 st) (A3 st) (Ak st) .none kV doc pm an θ ct):=⟨⟨oc,od,kV,doc,pm,an,θ,ct,osl,rfl,l,c⟩,k⟩
end
theorem av5 {A B:Prop}(h:B):if false=true then A else B:=by
 rw[if_neg au]
 exact h
theorem Yl {A B:Prop}(h:A):if true=true then A else B:=by
 rw[if_pos rfl]
 exact h
theorem Lg {c A B:Prop} [Decidable c](h1:c->A)(h2:¬ c->B):if c then A else B:=by
 by_cases h:c
 .rw[if_pos h]
  exact h1 h
 .rw[if_neg h]
  exact h2 h
noncomputable def Same(H H':Hp):Prop:=∀b o,H b=some o->H' b=some o
theorem Same.refl(H:Hp):Same H H:=λ_ _ h=>h
theorem Same.trans(a:Same H H1)(b:Same H1 H2):Same H H2:=λc o h=>b c o (a c o h)
theorem Same.free(e:Same H H')(h:H' l=Option.none):H l=Option.none:=by
 cases q:H l with
 |none=>rfl
 |some o=>
  rw[e l o q] at h
  cases h
noncomputable def Cx.comp(X:Cx)(N':List Str)(scope:Scope)(cl:List (Str×Addr))(fp:List Addr)(C:Addr)(s:av)(H:Hp)(xe:Value->av->Prop):Cx:=
 {prog:=X.prog,w:=X.w,K:=X.K,mg:=X.mg,base:=X.base,A:=X.A,N:=N',s₀:=s,H₀:=H,env:=mo scope cl C X.env,outer:=X.stack,stack:=X.stack,
  ex:=fp,fn:=λx=>(cl.lookup x).isNone,calm:=X.calm,pn:=[],xe:=xe }
noncomputable def Tx(srcs:List (Option Nat))(U:St):St:=srcs.map λo=>o.bind λj=>(U[j]?).join
structure Kv (X:Cx) (N':List Str) (srcs:List (Option Nat)) (scope:Scope) (cl:List (Str×Addr)):Prop where
 clos:j4 scope X.env=pure cl
 nocell:∀y∈scope.names,y.2≠.cell
 kind:scope.kind=.function
 names:∀y∈scope.names,y.2=.local->scope.names.lookup y.1=some .local
 sub:∀x c,cl.lookup x=some c->X.env.cells.lookup x=some c
 has:∀x,((iV scope X.env).names.lookup x=some .cell\/(iV scope X.env).names.lookup x=some .free) -> ∃c,cl.lookup x=some c
 len:srcs.length=N'.length
 src:∀(k j:Nat)(x:Str),N'[k]?=some x->srcs[k]?=some (some j)->X.N[j]?=some x/\(X.env.scope.names.lookup x=some .cell\/X.env.scope.names.lookup x=some .free) /\
  ((iV scope X.env).names.lookup x=some .cell\/(iV scope X.env).names.lookup x=some .free)
noncomputable def X3(X:Cx)(ifs:List Expr)(t:TT):Prop:=
 ∀(ξ:List (Addr×Obj))(s:av)(U:St)(H:Hp)(Q:Bool->Hp->Prop),Inv X ξ U H s->t U H Q ->
  aK (model X.prog X.w) X.A (forIn ifs true λc r=>if r=true then do let ok <- isTrue c X.env (eval c X.env);pure (fA ok) else pure (fA r)) (TP X ξ U Q) X.xe s
noncomputable def b44:TT:=λ_ H Q=>Q true H
theorem aj4:X3 X [] b44:=λ_ _ _ H _ I h=>wpAny_tests_nil ⟨H,I,h⟩
theorem aj5(h:PT X c t):X3 X [c] t:=λξ s U H Q I q=>wpAny_tests_one (h ξ s U H Q I q)
noncomputable def aq2(srcs:List (Option Nat))(wi:TI)(g:TG)(tc:TT)(te:TE):TE:=λU H Q=>wi U H λJ H1=>∀D,H1 D=none ->
 ∃W:Nat->Nat->St->Hp->Prop,(∃m,W 0 m (Tx srcs U) (upd H1 D (.lst [])))/\∀i m U' H',W i m U' H' ->
  (J.stop i H'/\Q (.ref D) H')\/(J.go i H'/\∃N:St->Hp->Prop,(∀U2 H2,N U2 H2 -> ∃m',m'<m/\W (i+1) m' U2 H2)/\∀x H2,J.yld i H' x H2->g x U' H2 λU3 H3=>tc U3 H3 λb H4=>if b=true then
    te U3 H4 λv H5=>∃ys,H5 D=some (.lst ys)/\ys.length<sizeLine/\N U3 (upd H5 D (.lst (ys++[v])))
   else N U3 H4)
section
theorem Pb(I:Nat->av->Prop)(turn:∀n s,I n s->aK (model prog w) A (jC it) (λr s₁=>match r with
   |none=>R (.ok .next) s₁
   |some v=>aK (model prog w) A (iF target it v) (λ_ s₀=>aK (model prog w) A (lI target env v) (λ_ s₂=>
     aK (model prog w) A (forIn ifs true λc r=>if r=true then do let ok <- isTrue c env (eval c env);pure (fA ok) else pure (fA r)) (λok s₃=>
      if ok=true then aK (model prog w) A (eval elt env) (λx s₄=>
       aK (model prog w) A (call (.builtin "list.append") [acc,x]) (λ_ s₅=>∃m,m<n/\I m s₅) (ly (model prog w) A env λe s'=>R (.error e) s') s₄) (ly (model prog w) A env λe s'=>R (.error e) s') s₃
      else ∃m,m<n/\I m s₃) (ly (model prog w) A env λe s'=>R (.error e) s') s₂) (ly (model prog w) A env λe s'=>R (.error e) s') s₀) (ly (model prog w) A env λe s'=>R (.error e) s') s₁) (ly (model prog w) A env λe s'=>R (.error e) s') s)(n:Nat)(h:I n s) :
  gH (model prog w) A (.compLoop (.ListComp elt [⟨target,iter,ifs,0⟩] scope pos) 0 it acc env) R s:=by
 refine codeAny_loop rfl I (λn s hI=>?_) n h
 show aK _ A ((compTurn (.ListComp elt [⟨target,iter,ifs,0⟩] scope pos) 0 it acc env).onRaise (λx=>do k7 x env;theTreesLotGoes x)) _ _ s
 refine wpAny_noted ?_
 rw[compTurn_list]
 refine af (e8 (af (bW (turn n s hI) (λr s₁ h₁=>?_) λ_ _ h'=>h')))
 cases r with
 |none=>exact ai h₁
 |some v=>
  refine af (bW h₁ (λ_ s₀ h₀=>?_) λ_ _ h'=>h')
  refine af (bW h₀ (λ_ s₂ h₂=>af (bW h₂ (λok s₃ h₃=>?_) λ_ _ h'=>h')) λ_ _ h'=>h')
  cases ok with
  |false=>exact ai ⟨rfl,h₃⟩
  |true=>
   exact af (af (bW h₃ (λx s₄ h₄=>af (bW h₄ (λ_ s₅ h₅=>ai (ai ⟨rfl,h₅⟩)) λ_ _ h'=>h')) λ_ _ h'=>h'))
end
section
theorem Tz(S:Kv X N' srcs scope cl)(I:Inv X ξ U H s)(f:∀b∈fp,Cq X ξ H b)(fo:∀b∈fp,b<s.heap.objs.size)(hD:s.heap.objs.size<=D)(hC:s.heap.objs.size<=C)(hDC:C≠D)(hns:∃m,h₁.Ns C m)(old:∀b o,s.heap.get? b=some o->h₁.get? b=some o)(hacc:∃n,h₁.get? D=some { cls:=.type "list", data:=.seq ([]:List Value).toArray n })(ht:s.toks<=tk:=by first|exact ag _|exact bq _ _|assumption|omega|(dsimp only;omega)) :
  Inv (X.comp N' scope cl fp C s H xe) [] (Tx srcs U) (upd H D (.lst [])) { s with heap:=h₁,toks:=tk }:=by
 have hfD:=I.hok.fresh hD
 have ok:(X.comp N' scope cl fp C s H xe).Ok:=by
  refine⟨I.ok.mod,S.kind,I.ok.glob,I.ok.blt,hC,λx y c a b=>I.ok.inj x y c (S.sub x c a) (S.sub y c b),S.has,λx c hf hl=>?_,I.ok.hd,I.ok.frames,.inl rfl,λb hb=>⟨?_,λx c hl=>?_⟩,I.bs,a9 I.ok.bsz I.sz,λb o e hb=>?_,λb hb hfs=>?_,I.stack,I.stkFree,aQ⟩
  .have hl':cl.lookup x=some c:=hl
   have hf':(cl.lookup x).isNone=true:=hf
   rw[hl'] at hf'
   cases hf'
  .exact aT (aP (fo b hb) hC)
  .exact (f b hb).2.2.2.2.1 x c (S.sub x c hl)
  .rcases (f b hb).2.2.2.1 with z|z
   .exact I.ok.noex b o e z
   .exact absurd (aP (aF e) (a9 I.ok.bsz z)) (fK _)
  .rcases List.mem_cons.mp (I.stkSub b hfs) with z|z
   .exact (f b hb).2.1 z
   .exact (f b hb).2.2.1 z
 obtain⟨m0,hns⟩:=hns
 obtain⟨nn,hacc⟩:=hacc
 refine⟨ok,⟨rfl,ht⟩,I.bare,Un.laid old hD hfD,⟨m0,hns,λk x v e1 e2 e3=>?_⟩,λx c hl=>?_,?_,λx c hl=>?_,λp hp=>absurd (show p∈([]:List (Addr×Obj)) from hp) (by simp),I.hok.laid old hD ⟨bC _,[],nn,.nil,hacc⟩,?_⟩
 ·-- the captured names
  have e1:N'[k]?=some x:=e1
  have e2:(srcs.map λo=>o.bind λj=>(U[j]?).join)[k]?=some (some v):=e2
  rw[al] at e2
  cases hk:srcs[k]? with
  |none=>rw[hk] at e2;cases e2
  |some o=>
   rw[hk] at e2
   cases o with
   |none=>cases e2
   |some j=>
    have e2':(U[j]?).join=some v:=aG e2
    have e3':U[j]?=some (some v):=by
     cases hj:U[j]? with
     |none=>rw[hj] at e2';cases e2'
     |some y=>rw[hj] at e2';exact congrArg some e2'
    obtain⟨a1,a2,a3⟩:=S.src k j x e1 hk
    obtain⟨m,hn,hl⟩:=I.loc
    obtain⟨u,r,l⟩:=hl j x v a1 e3' (a2.elim (λz=>.inr (.inl z)) λz=>.inr (.inr z))
    refine⟨u,r,.inr ⟨a3,?_⟩⟩
    obtain⟨c,hc⟩:=S.has x a3
    refine⟨c,hc,?_⟩
    rcases l with ⟨z,_⟩|⟨_,c',hc',o,ho,hd⟩
    .have z':X.env.scope.names.lookup x=some .local:=z
     rcases a2 with q|q <;> rw[q] at z' <;> cases z'
    .have e:=S.sub x c hc
     rw[hc'] at e
     cases e
     exact⟨o,old _ o ho,hd⟩
 .obtain⟨v,o,ho,hd⟩:=I.cell x c (S.sub x c hl)
  exact⟨v,o,old _ o ho,hd⟩
 .show upd H D (.lst []) C=none
  rw[Ad hDC]
  exact I.hok.fresh hC
 .have hx:=S.sub x c hl
  obtain⟨v,o,ho,hd⟩:=I.cell x c hx
  rw[Ad (aT (aP (aF ho) hD))]
  exact I.freeC x c hx
 .show (Tx srcs U).length=N'.length
  unfold Tx
  rw[ae,S.len]
noncomputable def Bp(X:Cx)(scope:Scope)(cl:List (Str×Addr))(use:Option (Value->Sem Unit))(Q2:Value->av->Prop)(D C:Addr):Value->av->Prop:=
 ly (model X.prog X.w) X.A (mo scope cl C X.env) λe s'=>compPost (model X.prog X.w) X.A X.xe use Q2 (.ref D) C (.error e) s'
theorem Nq(hc:X.calm=true)(S:Kv X N' srcs scope cl)(hi:PI X tg iter wi)(hb:∀fp C D s2 H2,Inv X ξ U H2 s2->(∀b∈fp,Cq X ξ H2 b)->s2.heap.objs.size<=C->PG (X.comp N' scope cl fp C s2 H2 (Bp X scope cl use Q2 D C)) tg g/\X3 (X.comp N' scope cl fp C s2 H2 (Bp X scope cl use Q2 D C)) ifs tc/\PE (X.comp N' scope cl fp C s2 H2 (Bp X scope cl use Q2 D C)) elt te)(I:Inv X ξ U H s)(h:aq2 srcs wi g tc te U H Q)(fin:∀(D C:Addr)(H':Hp)(s':av),Inv X ξ U H' s'->(∃m,s'.heap.Ns C m)->Cq X ξ H' C->Q (.ref D) H'->compPost (model X.prog X.w) X.A X.xe use Q2 (.ref D) C (.ok .next) s')(hs:∀x,fM iter X.env x=pure x) :
  aK (model X.prog X.w) X.A (comprehension (.ListComp elt [⟨tg,iter,ifs,0⟩] scope pos) scope X.env (firstIterPos [⟨tg,iter,ifs,0⟩] pos) (newList []) false (eval iter X.env) use) Q2 X.xe s:=by
 refine wpAny_comprehension_free rfl hs S.clos S.kind S.names (thn (hi ξ s U H _ I h) λv s1 h1=>thn h1 λitv s2 h2=>?_)
 obtain⟨it,fp,tn,J,H2,e,I2,T,st2,f2,q2⟩:=h2
 subst e
 refine cn (wpAny_newFunctionEnv S.nocell (by intro y hy;simp at hy) (λh₁ hns₁ hsb₁=>?_) S.kind)
 dsimp only at hns₁ hsb₁ ⊢
 generalize hH2:s2.heap.push { cls:=.type "list", dict:=none,data:=.seq ([]:List Value).toArray }=G2 at hns₁ hsb₁ ⊢
 have hCe:G2.objs.size=s2.heap.objs.size+1:=by rw[<- hH2,dP]
 have hDC:G2.objs.size≠s2.heap.objs.size:=by rw[hCe];exact hU (cy _)
 have hCle:s2.heap.objs.size<=G2.objs.size:=by rw[hCe];exact dm _
 have old:∀b o,s2.heap.get? b=some o->h₁.get? b=some o:=λb o e=>
  hsb₁.extBut b o (aT (aP (aF e) hCle)) (ah _ (hH2▸ah _ e))
 have hacc:∃n,h₁.get? s2.heap.objs.size=some { cls:=.type "list", data:=.seq ([]:List Value).toArray n }:=⟨_,hsb₁.extBut _ _ (cA hDC) (ah _ (hH2▸aB _ rfl))⟩
 have fo:∀b∈fp,b<s2.heap.objs.size:=λb hb=>by
  obtain⟨o,ho,_⟩:=T.obj _ _ st2 b hb
  exact aF ho
 have st3:tn 0 h₁:=T.keep _ _ _ st2 λb _ o e=>old b o e
 obtain⟨hg,ht,he⟩:=hb fp G2.objs.size s2.heap.objs.size s2 H2 I2 f2 hCle
 obtain⟨W,⟨m0,w0⟩,turn⟩:=q2 s2.heap.objs.size (I2.hok.fresh (ag _))
 have loop:∀s3:av,s3={ s2 with heap:=h₁,toks:=s2.toks+([]:List (Str×Value)).length } ->
   gH (model X.prog X.w) X.A (.compLoop (.ListComp elt [⟨tg,iter,ifs,0⟩] scope pos) 0 (.ref it) (.ref s2.heap.objs.size) (mo scope cl G2.objs.size X.env))
    (compPost (model X.prog X.w) X.A X.xe use Q2 (.ref s2.heap.objs.size) G2.objs.size) s3:=by
  rintro s3 rfl
  have I3:Inv (X.comp N' scope cl fp G2.objs.size s2 H2 (Bp X scope cl use Q2 s2.heap.objs.size G2.objs.size)) [] (Tx srcs U) (upd H2 s2.heap.objs.size (.lst [])) { s2 with heap:=h₁,toks:=s2.toks+([]:List (Str×Value)).length }:=
   Tz S I2 f2 fo (ag _) hCle hDC ⟨_,hns₁⟩ old hacc
  have stat:∀ {H':Hp},(∀b∈fp,H' b=none) -> ∀b∈fp,Cq (X.comp N' scope cl fp G2.objs.size s2 H2 (Bp X scope cl use Q2 s2.heap.objs.size G2.objs.size)) [] H' b:=λhn b hb=>
   ⟨hn b hb,aT (aP (fo b hb) hCle),(λz=>(List.mem_cons.mp (I2.stkSub b z)).elim (f2 b hb).2.1 (f2 b hb).2.2.1),.inl hb,λx c hl=>(f2 b hb).2.2.2.2.1 x c (S.sub x c hl),λp hp=>absurd (show p∈([]:List (Addr×Obj)) from hp) (by simp)⟩
  refine Pb (λn s'=>∃i U' H',Inv (X.comp N' scope cl fp G2.objs.size s2 H2 (Bp X scope cl use Q2 s2.heap.objs.size G2.objs.size)) [] U' H' s'/\tn i s'.heap/\(∀b∈fp,H' b=none)/\W i n U' H') ?_ m0
   ⟨0,_,_,I3,st3,λb hb=>by rw[Ad (aT (fo b hb))];exact (f2 b hb).1,w0⟩
  rintro n s4 ⟨i,U4,H4,I4,st4,fr4,w4⟩
  rcases turn i n U4 H4 w4 with ⟨stop,qn⟩|⟨go,NN,hNN,step⟩
  .refine thn (T.done (X.comp N' scope cl fp G2.objs.size s2 H2 (Bp X scope cl use Q2 s2.heap.objs.size G2.objs.size)) rfl rfl rfl hc i [] s4 U4 H4 _ I4 (stat fr4) st4 stop) λr s5 ⟨hr,I5⟩=>?_
   subst hr
   obtain⟨m5,hn5,_⟩:=id I5.loc
   have I6:Inv X ξ U H4 s5:=I2.call' (ch:=fp) I5.os I5.base I5.hok I5.bare λb hb=>⟨(f2 b hb).2.2.2.1,(f2 b hb).2.1,(f2 b hb).2.2.2.2.1,(f2 b hb).2.2.2.2.2⟩
   exact fin _ _ H4 s5 I6 ⟨m5,hn5⟩ (I2.fpOk hCle I5.free) qn
  .refine thn (T.item (X.comp N' scope cl fp G2.objs.size s2 H2 (Bp X scope cl use Q2 s2.heap.objs.size G2.objs.size)) rfl rfl rfl hc i [] s4 U4 H4 _ I4 (stat fr4) st4 go) λr s5 ⟨u,hr,h5⟩=>?_
   subst hr
   refine thn h5 λ_ s6 ⟨x,H6,I6,r6,y6,st6,fr6⟩=>?_
   have I6':=I6.pinned (stat fr6) (T.obj _ _ st6)
   refine thn (hg _ s6 U4 H6 x u _ I6' r6 (step x H6 y6)) λ_ s7 ⟨U7,H7,I7,q7⟩=>?_
   have again:∀ {s9:av} {H9:Hp},Inv (X.comp N' scope cl fp G2.objs.size s2 H2 (Bp X scope cl use Q2 s2.heap.objs.size G2.objs.size)) ([]++Il fp s6.heap) U7 H9 s9->NN U7 H9 ->
     ∃m,m<n/\∃i U' H',Inv (X.comp N' scope cl fp G2.objs.size s2 H2 (Bp X scope cl use Q2 s2.heap.objs.size G2.objs.size)) [] U' H' s9/\tn i s9.heap/\(∀b∈fp,H' b=none)/\W i m U' H':=λ{s9 H9} I9 n9=>by
    obtain⟨m',hm,w9⟩:=hNN U7 H9 n9
    refine⟨m',hm,i+1,U7,H9,I9.unpinned,T.keep _ _ _ st6 λb hb o e=>(I9.pin (b,o) (aL _ (aL _ (Ep hb e)))).1,λb hb=>?_,w9⟩
    obtain⟨o,e,d⟩:=T.obj _ _ st6 b hb
    exact (I9.pin (b,o) (aL _ (aL _ (Ep hb e)))).2.1
   refine thn (ht _ s7 U7 H7 _ I7 q7) λb s8 ⟨H8,I8,q8⟩=>?_
   cases b with
   |false=>
    rw[if_neg au] at q8
    exact again I8 q8
   |true=>
    rw[if_pos rfl] at q8
    refine thn (he _ s8 U7 H8 _ I8 q8) λy s9 ⟨v9,H9,I9,r9,ys,hD,hlen,w9⟩=>?_
    refine thn (Oc (X:=X.comp N' scope cl fp G2.objs.size s2 H2 (Bp X scope cl use Q2 s2.heap.objs.size G2.objs.size)) ([]++Il fp s6.heap) s9 U7 H9 (.ref s2.heap.objs.size) [v9] (.ref s2.heap.objs.size) [y] (λ_ H'=>H'=upd H9 s2.heap.objs.size (.lst (ys++[v9]))) I9 rfl (.cons r9 .nil)
     ⟨_,ys,v9,rfl,rfl,hD,hlen,rfl⟩) λ_ s10 ⟨_,H10,I10,_,e10⟩=>?_
    subst e10
    exact again I10 w9
 exact codeAny_compStart_list (loop _ rfl) (T.self X.A 0 _ _ _ st3 (loop _ rfl))
theorem ad2(hc:X.calm=true)(S:Kv X N' srcs scope cl)(hi:PI X tg iter wi)(hb:∀Q2 fp C D s2 H2,Inv X ξ U H2 s2->(∀b∈fp,Cq X ξ H2 b)->s2.heap.objs.size<=C->PG (X.comp N' scope cl fp C s2 H2 (Bp X scope cl none Q2 D C)) tg g/\X3 (X.comp N' scope cl fp C s2 H2 (Bp X scope cl none Q2 D C)) ifs tc/\PE (X.comp N' scope cl fp C s2 H2 (Bp X scope cl none Q2 D C)) elt te)(I:Inv X ξ U H s)(h:aq2 srcs wi g tc te U H Q)(hs:∀x,fM iter X.env x=pure x) :
  aK (model X.prog X.w) X.A (eval (.ListComp elt [⟨tg,iter,ifs,0⟩] scope pos) X.env) (EP X ξ U Q) X.xe s:=by
 rw[eval_ListComp]
 refine Nq (use:=none) hc S hi (λfp C D s2 H2=>hb _ fp C D s2 H2) I h (λD C H' s' I' ns fo q=>?_) hs
 obtain⟨m,hn⟩:=ns
 obtain⟨f0,f1,f2,f3,f4,f5⟩:=fo
 exact⟨m,hn,λh' sb=>⟨.ref D,H',I'.turned (t':=s'.toks) (λb o hb e=>(sb.2 b hb).trans e) f0 f1 f3 f4 f5,rfl,q⟩⟩
theorem ad1(hc:X.calm=true)(hN:X.N.Nodup)(hx:X.N[i]?=some x)(hl:X.env.scope.names.lookup x=some .local)(S:Kv X N' srcs scope cl)(hi:PI X tg iter wi)(hb:∀us Q2 fp C D s2 H2,Inv X ξ U H2 s2->(∀b∈fp,Cq X ξ H2 b)->s2.heap.objs.size<=C->PG (X.comp N' scope cl fp C s2 H2 (Bp X scope cl us Q2 D C)) tg g/\X3 (X.comp N' scope cl fp C s2 H2 (Bp X scope cl us Q2 D C)) ifs tc/\PE (X.comp N' scope cl fp C s2 H2 (Bp X scope cl us Q2 D C)) elt te)(I:Inv X ξ U H s)(h:bm4 (aq2 srcs wi g tc te) (ae8 i) D U H)(hsw:je (.ListComp elt [⟨tg,iter,ifs,0⟩] scope pos) (some (.Name x pos')) spos.line X.env=pure true)(hs:∀x,fM iter X.env x=pure x) :
  aK (model X.prog X.w) X.A (exec (.Assign [.Name x pos'] (.ListComp elt [⟨tg,iter,ifs,0⟩] scope pos) spos) X.env) (SP X ξ D) X.xe s:=by
 rw[exec_Assign_Name_used _ _ _ _ hsw]
 refine af (e8 (af ?_))
 show aK _ X.A (do let _ <- comprehension (.ListComp elt [⟨tg,iter,ifs,0⟩] scope pos) scope X.env _ (newList []) false (eval iter X.env) (some (lI (.Name x pos') X.env))) _ _ s
 refine af (thn (Nq (use:=some (lI (.Name x pos') X.env)) (Q:=λv H'=>D.nx (U.set i (some v)) H') (Q2:=λ_ s'=>SP X ξ D .next s') hc S hi (λfp C D s2 H2=>hb _ _ fp C D s2 H2) I h (λL C H' s' I' ns fo q=>?_) hs) λ_ s' hq=>ai (ai hq))
 obtain⟨m,hn⟩:=ns
 obtain⟨f0,f1,f2,f3,f4,f5⟩:=fo
 obtain⟨oC,es,ep,hoC,hd,hr⟩:=id hn
 have I2:Inv X (ξ++[(C,oC)]) U H' s':=I'.pins_of λp hp=>(List.mem_append.mp hp).elim (λz=>I'.pin p (aL _ z)) λz=>by
  have z':p=(C,oC):=by simpa using z
  subst z'
  exact⟨hoC,f0,f1,f2,λv e=>by rw[hd] at e;cases e⟩
 refine wpAny_assign_Name (Hi (i:=i) (v:=.ref L) I2 hN hx (.inl hl) rfl (λs2 I3=>?_) (.inr hl))
 have hoC':=(I3.pin (C,oC) (aL _ (aL _ (by simp)))).1
 refine⟨m,⟨oC,es,ep,hoC',hd,hr⟩,λh' sb=>?_⟩
 exact⟨_,H',(I3.unpinned).turned (t':=s2.toks) (λb o hb e=>(sb.2 b hb).trans e) f0 f1 f3 f4 f5,q⟩
end
noncomputable def Its(x:Str):It:=⟨λi _=>i<x.cps.size,λi H v H'=>H'=H/\∃c,x.cps[i]?=some c/\v=.str ⟨#[c]⟩,λi _=>i=x.cps.size⟩
theorem aq9 {P:ba}{w:bL}{K:ac}{tg:Expr}(it:Addr)(x:Str)(t:Tok)(ty:String)(hty:ty="str_ascii_iterator" \/ ty="str_iterator") :
  Mn P w K tg (Its x) [it] it (λi h=>h.IsStrIter it ty x t i) where
 mem:=by simp
 obj:=λi h st b hb=>by
  have e:b=it:=by simpa using hb
  subst e
  obtain⟨o,e,c,d⟩:=st
  exact⟨o,e,λv z=>by rw[d] at z;cases z⟩
 keep:=λi h h' st k=>by
  obtain⟨o,e,r⟩:=st
  exact⟨o,k it (by simp) o e,r⟩
 item:=by
  intro X hP hw hK hc i ξ s U H E I hf st hg
  subst hP hw hK
  obtain⟨f0,f1,f2,f3,f4,f5⟩:=hf it (by simp)
  have W:mM X.prog X.w X.A it [it] [it] x.cps.size (SignAt x) (λi h=>h.IsStrIter it ty x t i):=by
   rcases hty with rfl|rfl
   .exact Walks.strAscii (I.ok.hd hc) it x t
   .exact Walks.strWide (I.ok.hd hc) it x t
  refine bB (ag _) (W.item i s _ _ hg st λv h' tk hv st' kk htk=>?_)
  obtain⟨c,u,hcp,rfl⟩:=hv
  have I1:Inv X ξ U H { s with heap:=h',toks:=tk }:=I.turned (λb o hb e=>kk b o (by simpa using hb) e) f0 f1 f3 f4 f5
  obtain⟨o,e,cc,d⟩:=id st'
  exact⟨_,rfl,La (s:={ s with heap:=h',toks:=tk }) e cc d (by rcases hty with rfl|rfl <;> decide) ⟨.str ⟨#[c]⟩,H,I1,⟨_,rfl⟩,⟨rfl,c,hcp,rfl⟩,st',λb hb=>(hf b hb).1⟩⟩
 done:=by
  intro X hP hw hK hc i ξ s U H E I hf st hg
  subst hP hw hK
  obtain⟨f0,f1,f2,f3,f4,f5⟩:=hf it (by simp)
  have hg:i=x.cps.size:=hg
  subst hg
  have W:mM X.prog X.w X.A it [it] [it] x.cps.size (SignAt x) (λi h=>h.IsStrIter it ty x t i):=by
   rcases hty with rfl|rfl
   .exact Walks.strAscii (I.ok.hd hc) it x t
   .exact Walks.strWide (I.ok.hd hc) it x t
  exact bB (ag _) (W.done s _ _ st λh' tk kk htk=>⟨rfl,I.turned (λb o hb e=>kk b o (by simpa using hb) e) f0 f1 f3 f4 f5⟩)
 self:=by
  intro A i s Q E st h
  rcases hty with rfl|rfl
  .exact wpAny_pyIter_striter_ascii st h
  .exact wpAny_pyIter_striter_wide st h
section
variable {X:Cx} {ξ:List (Addr×Obj)} {U:St} {H:Hp} {s:av} {h':Heap} {ch:List Addr} {t':Nat}
theorem Inv.turnedL(I:Inv X ξ U H s)(hf:∀b∈ch,Cq X ξ H b)(k:∀b o,b∉ch->s.heap.get? b=some o->h'.get? b=some o)(ht:s.toks<=t':=by first|exact ag _|exact bq _ _|assumption|omega|(dsimp only;omega)):Inv X ξ U H { s with heap:=h',toks:=t' }:=by
 have tr:∀b ob,H b=some ob->b∉ch:=λb ob e hb=>by rw[(hf b hb).1] at e;cases e
 refine I.step (g':=s.gens) (d':=s.drawn) (ch:=ch) (λb hb=>⟨(hf b hb).2.2.2.1,(hf b hb).2.1,(hf b hb).2.2.2.2.1,(hf b hb).2.2.2.2.2⟩) (λb o _ _ hb e _=>k b o hb e) (λb o _ _ hb e _=>⟨o.slots,k b o hb e⟩) (λ_ _ _ _ n=>n) (λb o hb e=>⟨o,k b o hb e⟩)
  (λ_ _ e=>e) (λ_ _ _ e=>e) (λb ps e=>⟨#[],by rw[e];simp⟩) (λm hm=>?_) (λb ob e=>?_) I.bare
 .obtain⟨o,es,ep,ho,r⟩:=hm
  exact⟨o,es,ep,k _ o (λz=>(hf _ z).2.1 rfl) ho,r⟩
 .refine (I.hok b ob e).stay (λb' w' hc' q=>k b' w' ?_ q) (λ_ q=>q) λ_ _ q=>q
  rcases hc' with rfl|hc'
  .exact tr _ _ e
  .exact tr _ _ hc'
theorem Inv.turnedN(I:Inv X ξ U H s)(hf:∀b∈ch,Cq X ξ H b)(k:∀b o,b∉ch->s.heap.get? b=some o->h'.get? b=some o)(hT:s.heap.objs.size<=T)(new:ObjOk X.prog X.w (upd H T o) h' T o)(ht:s.toks<=t':=by first|exact ag _|exact bq _ _|assumption|omega|(dsimp only;omega)) :
  Inv X ξ U (upd H T o) { s with heap:=h',toks:=t' }:=by
 have tr:∀b ob,H b=some ob->b∉ch:=λb ob e hb=>by rw[(hf b hb).1] at e;cases e
 have hn:=I.hok.fresh hT
 have nT:∀ {b o},s.heap.get? b=some o->b≠T:=λe=>aT (aP (aF e) hT)
 refine I.step (g':=s.gens) (d':=s.drawn) (ch:=ch) (λb hb=>⟨(hf b hb).2.2.2.1,(hf b hb).2.1,(hf b hb).2.2.2.2.1,(hf b hb).2.2.2.2.2⟩) (λb o _ _ hb e _=>k b o hb e) (λb o _ _ hb e _=>⟨o.slots,k b o hb e⟩) (λb o _ e n=>by rw[Ad (nT e)];exact n) (λb o hb e=>⟨o,k b o hb e⟩)
  (λb zs e=>by rw[Ad (Ai e hn)];exact e) (λb o zs e=>by rw[Ad (Ai e hn)];exact e) (λb ps e=>⟨#[],by rw[Ad (Ai e hn),e];simp⟩) (λm hm=>?_) (λb ob e=>?_) I.bare
 .obtain⟨o,es,ep,ho,r⟩:=hm
  exact⟨o,es,ep,k _ o (λz=>(hf _ z).2.1 rfl) ho,r⟩
 .by_cases hb:b=T
  .subst hb
   rw[Ab] at e
   cases e
   exact new
  .rw[Ad hb] at e
   refine (I.hok b ob e).stay (λb' w' hc' q=>k b' w' ?_ q) (λb' q=>by rw[Ad (Ai q hn)];exact q) λb' zs q=>by rw[Ad (Ai q hn)];exact q
   rcases hc' with rfl|hc'
   .exact tr _ _ e
   .exact tr _ _ hc'
end
theorem Zb {bs:List Bool}:(ay bs.length).all (λi=>bs.getD i true)=bs.all λb=>b:=by
 rw[bO,bn,bn]
 constructor
 .intro h b hb
  obtain⟨i,hi,e⟩:=List.mem_iff_getElem.mp hb
  have q:=h i (List.mem_range.mpr hi)
  rw[az,aj hi,e] at q
  exact q
 .intro h i hi
  have hi:=List.mem_range.mp hi
  rw[az,aj hi]
  exact h _ (df hi)
section
theorem ac6(hc:X.calm=true):B9 X (.builtin "all") (λxs H Q=>∃(p:Addr)(bs:List Bool),xs=[.ref p]/\SqL X.K H p (bs.map V.bl)/\Q (.bl (bs.all λb=>b)) H):=by
 intro ξ s U H xs us Q I r h
 obtain⟨p,bs,rfl,hq,q⟩:=h
 obtain⟨u,rfl,ru⟩:=r.one
 cases ru
 obtain⟨χ,rv,pl,hz⟩:=I.list hq
 have hlen:=rv.length
 rw[ae] at hlen
 obtain⟨o,n,e,c,hd,ds⟩:=id pl
 have plt:=aF e
 refine bB (ag _) (call_all_walk (jg pl.isList ?_))
 refine⟨s.heap.objs.size,_,_,_,_,_,(λi=>bs.getD i true),rfl,Walks.list (A:=X.A.in1) (show X.A.in1.handled=none from I.ok.hd hc) s.heap.objs.size p (aT plt) χ.toArray,⟨⟨_,aB _ rfl,rfl,rfl⟩,pl.isList.push _⟩,?_,λh' tk kk htk=>?_⟩
 .intro i v s' Q' E' hv hq'
  have hv:χ[i]?=some v:=by simpa using hv
  have hi:i<bs.length:=by rw[hlen];exact (List.getElem?_eq_some_iff.mp hv).1
  have e1:(bs.map V.bl)[i]?=some (.bl bs[i]):=by simp[hi]
  obtain⟨u',hu',ru'⟩:=rv.get e1
  rw[hv] at hu'
  cases hu'
  cases ru'
  have e2:bs.getD i true=bs[i]:=by simp[az,hi]
  have hq':Q' (bs.getD i true) s':=hq'
  rw[e2] at hq'
  exact eC hq'
 .have e3:(ay χ.toArray.size).all (λi=>bs.getD i true)=bs.all λb=>b:=by
   rw[aq,<- hlen]
   exact Zb
  rw[e3]
  refine⟨.bl _,H,I.kept (t':=tk) λb o' eb=>kk b o' ?_ (ah _ eb),rfl,q⟩
  have hb:b≠s.heap.objs.size:=aT (aF eb)
  simpa using hb
theorem ac7:B9 X (.builtin "isinstance") (λxs H Q=>∃x T t b,xs=[x,.ty T]/\TyOf X.K H x t/\dR X.K t (.type T)=some b/\Q (.bl b) H):=by
 intro ξ s U H xs us Q I r h
 obtain⟨x,T,t,b,rfl,ty,e,q⟩:=h
 obtain⟨u,v,rfl,ru,rv⟩:=r.two
 cases rv
 exact bB (ag _) (N3 I ru ty e λtk htk=>⟨.bl b,H,I.tok tk htk,rfl,q⟩)
theorem Yz:OpR X (cG .LtE) (λx y H Q=>∃i j,x=.str i/\y=.str j/\Q (.bl (!decide (j.cps.toList<i.cps.toList))) H):=by
 intro ξ s U H x y v u Q I rx ry h
 obtain⟨i,j,rfl,rfl,q⟩:=h
 obtain⟨t,rfl⟩:=rx
 obtain⟨t',rfl⟩:=ry
 exact PySem.P.le_str ⟨.bl _,H,I,rfl,q⟩
theorem aw3:MtR X "int.bit_length" (λx xs H Q=>∃i,x=.int i/\xs=[]/\Q (.int (iu i:Nat)) H):=by
 intro ξ s U H x xs v us Q I rx rs h
 obtain⟨i,rfl,rfl,q⟩:=h
 obtain⟨t,rfl⟩:=rx
 cases rs
 exact call_gives F.slot_int_bit_length (typeIs_int s i t) F.entry_int_bit_length (F.args_int_bit_length_1 _) (AutoIntG2.int_bit_length_int_0 i t) ⟨.int _,H,I.tok _,⟨_,rfl⟩,q⟩
end
noncomputable def Ro(xs ys:List V):Bool:=decide (xs.length=ys.length)&&(ay xs.length).all λj=>eqV (xs.getD j .non) (ys.getD j .non)
theorem Fa(h:xs.length≠ys.length):Ro xs ys=false:=by
 unfold Ro
 rw[decide_eq_false h]
 rfl
noncomputable def bl4(K:ac)(neg:Bool):R2:=λx y H Q=>∃a b xs ys,x=.ref a/\y=.ref b/\SqL K H a xs/\SqL K H b ys/\xs.all B1=true/\ys.all B1=true/\Q (.bl (if neg then !Ro xs ys else Ro xs ys)) H
section
theorem Lh(rx:Vals xs us)(ry:Vals ys ws)(fx:xs.all B1=true)(fy:ys.all B1=true)(j:Nat)(h1:j<us.toArray.size)(h2:j<ws.toArray.size) :
  bD A s us.toArray[j] ws.toArray[j] (eqV (xs.getD j .non) (ys.getD j .non)):=by
 have e1:=rx.length
 have e2:=ry.length
 have h1':j<us.length:=by simpa using h1
 have h2':j<ws.length:=by simpa using h2
 have a1:xs[j]?=some (xs[j]'(by omega)):=by simp
 have a2:ys[j]?=some (ys[j]'(by omega)):=by simp
 obtain⟨u,hu,ru⟩:=rx.get a1
 obtain⟨v,hv,rv⟩:=ry.get a2
 have b1:us.toArray[j]=u:=by
  have:us[j]?=some us[j]:=by simp
  rw[this] at hu
  simpa using aG hu
 have b2:ws.toArray[j]=v:=by
  have:ws[j]?=some ws[j]:=by simp
  rw[this] at hv
  simpa using aG hv
 have c1:xs.getD j .non=xs[j]'(by omega):=by rw[az,a1];rfl
 have c2:ys.getD j .non=ys[j]'(by omega):=by rw[az,a2];rfl
 rw[b1,b2,c1,c2]
 exact Pi ru rv (List.all_eq_true.mp fx _ (df _)) (List.all_eq_true.mp fy _ (df _))
theorem bf9(hu:X.A.units<cLine):OpR X (cG .Eq) (bl4 X.K false):=by
 intro ξ s U H x y v u Q I rx ry h
 obtain⟨a,b,xs,ys,rfl,rfl,qa,qb,fx,fy,q⟩:=h
 cases rx
 cases ry
 obtain⟨χ,r,pl,hz⟩:=I.list qa
 obtain⟨its2,r2,pl2,hz2⟩:=I.list qb
 have e1:=r.length
 have e2:=r2.length
 by_cases hl:xs.length=ys.length
 .refine SeqAt.eq_listAt (e:=λj=>eqV (xs.getD j .non) (ys.getD j .non)) pl.isList pl2.isList (by simp;omega) hu (λj h1 h2=>Lh r r2 fx fy j h1 h2) ⟨.bl _,H,I,rfl,?_⟩
  have e:Ro xs ys=(ay χ.toArray.size).all λj=>eqV (xs.getD j .non) (ys.getD j .non):=by
   unfold Ro
   rw[decide_eq_true hl,aq,<- e1]
   rfl
  rw[<- e]
  exact q
 .refine SeqAt.eq_list_lengthsAt pl.isList pl2.isList (by simp;omega) hu ⟨.bl _,H,I,rfl,?_⟩
  rw[Fa hl] at q
  exact q
theorem bg4(hu:X.A.units<cLine):OpR X (cG .NotEq) (bl4 X.K true):=by
 intro ξ s U H x y v u Q I rx ry h
 obtain⟨a,b,xs,ys,rfl,rfl,qa,qb,fx,fy,q⟩:=h
 cases rx
 cases ry
 obtain⟨χ,r,pl,hz⟩:=I.list qa
 obtain⟨its2,r2,pl2,hz2⟩:=I.list qb
 have e1:=r.length
 have e2:=r2.length
 by_cases hl:xs.length=ys.length
 .refine SeqAt.RcNeAt.lists (e:=λj=>eqV (xs.getD j .non) (ys.getD j .non)) pl.isList pl2.isList (by simp;omega) hu (λj h1 h2=>Lh r r2 fx fy j h1 h2) _ _ _ _ ⟨.bl _,H,I,rfl,?_⟩
  have e:Ro xs ys=(ay χ.toArray.size).all λj=>eqV (xs.getD j .non) (ys.getD j .non):=by
   unfold Ro
   rw[decide_eq_true hl,aq,<- e1]
   rfl
  rw[<- e]
  exact q
 .refine iL pl.isList pl2.isList (by simp;omega) hu _ _ _ _ ⟨.bl _,H,I,rfl,?_⟩
  rw[Fa hl] at q
  exact q
end
theorem ag5 {cl:List (Str×Addr)}{x:Str}(h:x∈cl.map (·.1)):∃c,cl.lookup x=some c:=by
 induction cl with
 |nil=>simp at h
 |cons p r ih=>
  obtain⟨n,a⟩:=p
  rw[jx]
  cases e:x==n with
  |true=>exact⟨a,rfl⟩
  |false=>
   refine ih ?_
   rcases List.mem_cons.mp h with q|q
   .rw[show x=n from q] at e;simp at e
   .exact q
section
variable {X:Cx} {e:Expr} {te:TE} {lo hi:Option Expr} {tl th:TO} {pos p2:Pos}
theorem V4:∀ {us:List Value},Vals (ys.map V.str) us->StrsAre us ys:=by
 induction ys with
 |nil=>intro us r;rw[eG] at r;cases r;exact .nil
 |cons y ys ih=>
  intro us r
  rw[aS] at r
  cases r with
  |cons r1 r2=>
   obtain⟨t,e⟩:=r1
   subst e
   exact .cons y t (ih r2)
theorem aw5:MtR X "str.join" (λx xs H Q=>∃z p ys,x=.str z/\xs=[.ref p]/\SqL X.K H p (ys.map V.str)/\(ys.map (·.length)).sum+ys.length * z.length<=16777216/\Q (.str (Txt.join z ys)) H):=by
 intro ξ s U H x xs v us Q I rx rs h
 obtain⟨z,p,ys,rfl,rfl,hq,hz,q⟩:=h
 obtain⟨t,rfl⟩:=rx
 obtain⟨u,rfl,ru⟩:=rs.one
 cases ru
 obtain⟨χ,rv,pl,_⟩:=I.list hq
 exact bB (ag _) (PyProof.Rows.join_list pl.isList (by simpa using V4 rv) hz λt' k htk=>⟨.str _,H,I.tok k htk,⟨_,rfl⟩,q⟩)
end
section
variable {κ:Type} [DecidableEq κ]
noncomputable def Bv(kvs:List (κ×V))(k:κ):Option V:=(kvs.find? λkv=>decide (kv.1=k)).map (·.2)
noncomputable def B7(kvs:List (κ×V))(k:κ)(v:V):List (κ×V):=
 if (kvs.any λkv=>decide (kv.1=k))=true then kvs.map (λkv=>if kv.1=k then (kv.1,v) else kv) else kvs++[(k,v)]
theorem Hs {p:κ×V}{r:List (κ×V)}{k:κ}(e:p.1=k):Bv (p::r) k=some p.2:=by simp[Bv,iz,e]
theorem Fq {p:κ×V}{r:List (κ×V)}{k:κ}(e:¬ p.1=k):Bv (p::r) k=Bv r k:=by simp[Bv,iz,e]
theorem Ti(k:κ):∀kvs:List (κ×V),(kvs.any λkv=>decide (kv.1=k))=(Bv kvs k).isSome
 |[]=>rfl
 | p::r=>by
  rw[gx]
  by_cases e:p.1=k
  .simp only[Hs e,decide_eq_true e,Bool.true_or,Option.isSome_some]
  .rw[Fq e,decide_eq_false e,ji];exact Ti k r
theorem Jd(kvs:List (κ×V))(k:κ)(v:V):(B7 kvs k v).length<=kvs.length+1:=by
 unfold B7
 split
 .rw[ae];omega
 .rw[aU,aN,jQ];omega
theorem C5 {kvs:List (κ×V)}{k:κ}(v:V)(h:Bv kvs k=none):B7 kvs k v=kvs++[(k,v)]:=by
 unfold B7
 rw[Ti,h]
 exact if_neg (by decide)
theorem RelO.isSome_eq {o:Option V}{u:Option Value}(r:RelO o u):o.isSome=u.isSome:=by
 cases o with
 | none=>cases u with
  |none=>rfl
  |some _=>exact (show False from r).elim
 | some _=>cases u with
  |none=>exact (show False from r).elim
  |some _=>rfl
theorem RelO.getD(r:RelO o u)(rd:RelV d d'):RelV (o.getD d) (u.getD d'):=by
 cases o with
 | none=>cases u with
  |none=>exact rd
  |some _=>exact (show False from r).elim
 | some _=>cases u with
  |none=>exact (show False from r).elim
  |some _=>exact r
theorem KV.val(r:KV kvs vs)(k:κ):RelO (Bv kvs k) (lA vs k):=by
 unfold KV at r
 induction r with
 |nil=>exact aQ
 |@cons p q ps qs h t ih=>
  obtain⟨h1,h2⟩:=h
  by_cases e:p.1=k
  .have e':q.1=k:=h1.symm.trans e
   have b:lA (q::qs) k=some q.2:=by simp[lA,iz,e']
   rw[Hs e,b];exact h2
  .have e':¬ q.1=k:=λz=>e (h1.trans z)
   have b:lA (q::qs) k=lA qs k:=by simp[lA,iz,e']
   rw[Fq e,b];exact ih
theorem KV.any {kvs:List (κ×V)}{vs:List (κ×Value)}(r:KV kvs vs)(k:κ):(kvs.any λkv=>decide (kv.1=k))=vs.any λkv=>decide (kv.1=k):=by
 unfold KV at r
 induction r with
 |nil=>rfl
 |cons h t ih=>rw[gx,gx,ih,h.1]
theorem KV.repl(r:KV kvs vs)(k:κ)(ry:RelV y u) :
  KV (kvs.map λkv=>if kv.1=k then (kv.1,y) else kv) (vs.map λkv=>if kv.1=k then (kv.1,u) else kv):=by
 unfold KV at r ⊢
 induction r with
 |nil=>exact .nil
 |@cons p q ps qs h t ih=>
  rw[aS,aS]
  refine .cons ?_ ih
  obtain⟨h1,h2⟩:=h
  by_cases e:p.1=k
  .rw[if_pos e,if_pos (h1.symm.trans e)];exact⟨h1,ry⟩
  .rw[if_neg e,if_neg (λz=>e (h1.trans z))];exact⟨h1,h2⟩
theorem KV.put(r:KV kvs vs)(k:κ)(ry:RelV y u):KV (B7 kvs k y) (stored vs k u):=by
 unfold B7 stored
 rw[r.any k]
 by_cases e:(vs.any λkv=>decide (kv.1=k))=true
 .rw[if_pos e,if_pos e];exact r.repl k ry
 .rw[if_neg e,if_neg e];exact Paired.snoc r ⟨rfl,ry⟩
theorem KV.keys {kvs:List (κ×V)}{vs:List (κ×Value)}(r:KV kvs vs):kvs.map (·.1)=vs.map (·.1):=by
 unfold KV at r
 induction r with
 |nil=>rfl
 |cons h t ih=>rw[aS,aS,ih,h.1]
theorem KV.length {kvs:List (κ×V)}{vs:List (κ×Value)}(r:KV kvs vs):kvs.length=vs.length:=kU r
end
theorem Li(r:RelV (kV k) u):(Bg P w).is k u=true:=by
 cases k with
 |inl i=>obtain⟨t,e⟩:=(show ∃t,u=k6 i t from r);subst e;exact Ry P w i t
 |inr x=>obtain⟨t,e⟩:=(show ∃t,u=iE x t from r);subst e;exact Rz P w x t
section
theorem a49(ok:HOk P w H h)(e:Rd H a u):ObjOk P w H h a u:=e.ok ok
theorem Dh(ok:HOk P w H h)(e:Rd H a (.dK kvs)):kvs.length<=sizeLine/\(a==dv)=false/\∃vs,KV kvs vs/\h.DictOf (Bg P w) a vs:=
 show ObjOk P w H h a (.dK kvs) from a49 ok e
theorem bp4(ok:HOk P w H h)(e:H a=some (.dK kvs)):kvs.length<=sizeLine/\(a==dv)=false/\∃vs,KV kvs vs/\h.DictOf (Bg P w) a vs:=Dh ok (.inl e)
theorem Xw(ok:HOk P w H h)(x:TK):∀ {v:V} {u:Value},TkAt H x v->RelV v u->TkIs P w h x u:=by
 refine TK.rec (motive_1:=λx=>∀ {v:V} {u:Value},TkAt H x v->RelV v u->TkIs P w h x u) (motive_2:=λl=>∀ {vs:List V} {us:List Value},Ao H l vs->Vals vs us->TksAre P w h l us) ?_ ?_ ?_ ?_ x
 .intro k v u q r
  unfold TkAt at q
  unfold TkIs
  subst q
  exact Li r
 .intro l ih v u q r
  unfold TkAt at q
  unfold TkIs
  obtain⟨a,xs,rfl,e,i⟩:=q
  cases r
  obtain⟨_,χ,r,t⟩:=(show ObjOk P w H h a (.tup xs) from ok a _ e)
  exact⟨a,χ.toArray,rfl,t,by simpa using ih i r⟩
 .intro vs us q r
  unfold Ao at q
  unfold TksAre
  subst q
  cases r
  rfl
 .intro x l h1 h2 vs us q r
  unfold Ao at q
  unfold TksAre
  obtain⟨v,r',rfl,q1,q2⟩:=q
  cases r with
  |cons r1 r2=>exact⟨_,_,rfl,h1 q1 r1,h2 q2 r2⟩
end
section
variable {P:ba} {w:bL} {A:bP} {E:Value->av->Prop} {s:av} {d:Addr} {o:Obj} {es:Array gv} {ep:Nat} {ks:List TK} {k:TK} {u:Value}
theorem Oq {M:Model}{α:Type}{c:Prop} [Decidable c]{x y:Sem α}{Q:α->av->Prop}(h1:c->aK M A x Q E s)(h2:¬ c->aK M A y Q E s):aK M A (if c then x else y) Q E s:=by
 split
 .exact h1 (by assumption)
 .exact h2 (by assumption)
theorem aq5 {Q:Bool->av->Prop}{st:List Value}(dk:Aq k<=8)(hk:TkIs P w s.heap k u)(hs:∀v∈st,∃x,Aq x<=8/\TkIs P w s.heap x v)(h:Q false s):aK (model P w) A (tableMayTell u st) Q E s:=by
 unfold tableMayTell
 split
 .exact ai h
 refine af (Tg k dk hk ?_)
 rw[if_neg (by decide)]
 refine af (f6 _ (λl r s'=>s'=s/\r=(none,())/\∀v∈l,v∈st) _ ?_ ?_ _ _ ⟨rfl,rfl,λ_ h=>h⟩)
 .rintro v l r s' ⟨rfl,rfl,hl⟩
  obtain⟨x,dx,hx⟩:=hs v (hl v aJ)
  refine af (Tg x dx hx ?_)
  rw[if_neg (by decide)]
  exact ai ⟨rfl,rfl,λz hz=>hl z (ax _ hz)⟩
 .rintro r s' ⟨rfl,rfl,_⟩
  exact ai h
theorem a23 {Q:Option Nat->av->Prop}(hu:A.units+8<cLine)(dk:Aq k<=8)(hk:TkIs P w s.heap k u)(ho:s.heap.get? d=some o)(hd:o.data=.dict es ep)(hz:es.size=ks.length)(nd:ks.Nodup)(he:∀(j:Nat)(e:gv),es[j]?=some e -> ∃x,ks[j]?=some x/\Aq x<=8/\TkIs P w s.heap x e.key/\e.hash=Bi w x)(h0:k∉ks->Q none s)(h1:∀j,ks[j]?=some k->Q (some j) s):aK (model P w) A (dictFind d u (Bi w k)) Q E s:=by
 have hp:∀j,ks[j]?=some k->j∈iU es.size (λi=>es[i]?.map (·.hash)) (Bi w k):=λj hj=>by
  have hl:j<es.size:=hz▸(List.getElem?_eq_some_iff.mp hj).1
  obtain⟨x,e1,_,_,e2⟩:=he j _ (aW hl)
  rw[hj] at e1
  cases e1
  exact List.mem_filter.mpr ⟨List.mem_range.mpr hl,by show (Option.map _ es[j]? == _)=true;rw[aW hl,cF,e2];exact beq_self_eq_true _⟩
 have hq:∀j∈iU es.size (λi=>es[i]?.map (·.hash)) (Bi w k),∃e x,es[j]?=some e/\ks[j]?=some x/\Aq x<=8/\TkIs P w s.heap x e.key/\e.hash=Bi w k:=λj hj=>by
  obtain⟨hl,hh⟩:=List.mem_filter.mp hj
  have hl:=List.mem_range.mp hl
  obtain⟨x,e1,e2,e3,_⟩:=he j _ (aW hl)
  have hh:(Option.map (·.hash) es[j]? == some (Bi w k))=true:=hh
  rw[aW hl,cF,beq_iff_eq] at hh
  exact⟨_,x,aW hl,e1,e2,e3,aG hh⟩
 have np:(iU es.size (λi=>es[i]?.map (·.hash)) (Bi w k)).Nodup:=List.nodup_range.filter _
 have hn:∀(e:gv)(x:TK),e.hash=Bi w k->(e.hash==Bi w k)=true:=λe x h=>by rw[h];exact beq_self_eq_true _
 unfold dictFind
 try with_reducible refine bj ?_
 refine af (ez ho hd ?_)
 dsimp only
 generalize iU es.size (λi=>es[i]?.map (·.hash)) (Bi w k)=pl at hp hq np ⊢
 have none_:(∀j∈pl,ks[j]? ≠ some k)->Q none s:=λq=>h0 λhm=>by
  obtain⟨j,hj⟩:=List.mem_iff_getElem?.mp hm
  exact q j (hp j hj) hj
 have walk:aK (model P w) A (dictWalkPlain d u (Bi w k) es pl) Q E s:=by
  refine af (f6 _ (λl b s'=>s'=s/\b=(none,())/\∃dn,pl=dn++l/\∀j∈dn,ks[j]? ≠ some k) _ ?_ ?_ _ _ ⟨rfl,rfl,[],rfl,λ_ h=>by cases h⟩)
  .rintro i l b s' ⟨rfl,rfl,dn,el,no⟩
   obtain⟨e,x,e1,e2,e3,e4,e5⟩:=hq i (by rw[el];exact aL _ aJ)
   rw[e1]
   dsimp only
   rw[if_pos (hn e x e5)]
   refine af (cR ho hd (af (aq3 x (by omega) e4 hk _ _ _ _ (af (cR ho hd ?_)))))
   rw[if_neg (by simp)]
   by_cases hx:x=k
   .rw[decide_eq_true hx]
    exact af (gp (ai (ai (h1 i (hx▸e2)))))
   .rw[decide_eq_false hx]
    exact af (gp (ai ⟨rfl,rfl,dn++[i],by rw[el,fI];rfl,λj hj=>(List.mem_append.mp hj).elim (no j) λh=>by rw[List.mem_singleton.mp h,e2];exact λz=>hx (aG z)⟩))
  .rintro b s' ⟨rfl,rfl,dn,el,no⟩
   rw[bS] at el
   exact ai (none_ (el▸no))
 have hst:∀v∈pl.filterMap (λi=>es[i]?.map (·.key)),∃x,Aq x<=8/\TkIs P w s.heap x v:=λv hv=>by
  obtain⟨i,hi,ei⟩:=List.mem_filterMap.mp hv
  obtain⟨e,x,e1,e2,e3,e4,e5⟩:=hq i hi
  rw[e1] at ei
  cases ei
  exact⟨x,e3,e4⟩
 have hc:∀ {a:Addr},¬ ((aV a::pl.filterMap (λi=>es[i]?.map (·.key))).all carriedByValue)=true:=λh=>by simp[carriedByValue] at h
 have he':∀a,u=.ref a -> ¬ (es.any λe=>e.key==aV a&&e.hash != Bi w k)=true:=λa ea h=>by
  obtain⟨i,hi,h⟩:=Array.any_eq_true.mp h
  rw[aH,beq_iff_eq,bne_iff_ne] at h
  obtain⟨x,_,_,e3,e4⟩:=he i _ (aW hi)
  rw[h.1,<- ea] at e3
  exact h.2 (by rw[e4,TkIs.inj _ e3 hk])
 have fbv:∀(x:Str)(t:Tok),u=.str x t->aK (model P w) A (foundByValue d u es x) Q E s:=λx t eu=>by
  have key:∀(j:Nat)(e:gv)(y:TK),es[j]?=some e->ks[j]?=some y->TkIs P w s.heap y e.key->(e.key.isStr x=true ↔ y=k):=λj e y _ _ h=>by
   cases k with
   |tup l=>unfold TkIs at hk;obtain⟨a,_,z,_⟩:=hk;rw[eu] at z;cases z
   |at_ kk=>
    unfold TkIs at hk
    rw[<- (Bg P w).strs kk x t e.key (eu▸hk)]
    exact⟨λq=>TkIs.inj _ h (by unfold TkIs;exact q),λq=>by rw[q] at h;unfold TkIs at h;exact h⟩
  unfold foundByValue
  cases hf:es.findIdx? λe=>e.key.isStr x with
  |none=>
   refine ai (h0 λhm=>?_)
   obtain⟨j,hj⟩:=List.mem_iff_getElem?.mp hm
   have hl:j<es.size:=hz▸(List.getElem?_eq_some_iff.mp hj).1
   obtain⟨y,e1,_,e3,_⟩:=he j _ (aW hl)
   rw[hj] at e1
   cases e1
   have:=Array.findIdx?_eq_none_iff.mp hf es[j] (Array.getElem_mem hl)
   rw[(key j _ _ (aW hl) hj e3).mpr rfl] at this
   cases this
  |some i=>
   obtain⟨hl,hi,_⟩:=Array.findIdx?_eq_some_iff_getElem.mp hf
   obtain⟨y,e1,e2,e3,_⟩:=he i _ (aW hl)
   have ey:=(key i _ _ (aW hl) e1 e3).mp hi
   simp only[aW hl]
   refine af (cR ho hd (af (aq3 y (by omega) e3 hk _ _ _ _ (af (cR ho hd ?_)))))
   rw[if_neg (by simp),decide_eq_true ey]
   exact af (gp (ai (h1 i (ey▸e1))))
 have sh:(∃a,u=.ref a)\/(∃i t,u=.int i t) \/ ∃x t,u=.str x t:=by
  cases k with
  |tup l=>unfold TkIs at hk;obtain⟨a,_,z,_⟩:=hk;exact .inl ⟨a,z⟩
  |at_ kk=>unfold TkIs at hk;rcases Au hk with ⟨i,t,_,e⟩|⟨x,t,_,e⟩ <;> subst e;exact .inr (.inl ⟨i,t,rfl⟩);exact .inr (.inr ⟨x,t,rfl⟩)
 rcases sh with ⟨a,rfl⟩|⟨i,t,rfl⟩|⟨x,t,rfl⟩
 refine Oq (λh=>absurd h hc) λ_=>Oq (λh=>absurd h (he' a rfl)) λ_=>?_
 rotate_left
 refine Oq (λ_=>walk) λ_=>?_
 rotate_left
 refine Oq (λ_=>fbv x t rfl) λ_=>Oq (λ_=>walk) λ_=>?_
 all_goals
  refine Oq (λ_=>af (ai ?_)) λ_=>af (aq5 dk hk hst ?_)
 all_goals
  rw[if_neg (by simp)]
  refine af (f6 _ (λl b s'=>s'=s/\∃dn hit,b=(none,hit)/\pl=dn++l/\((hit=none/\∀j∈dn,ks[j]? ≠ some k) \/ ∃j,hit=some j/\j∈dn/\ks[j]?=some k)) _ ?_ ?_ _ _ ⟨rfl,[],none,rfl,rfl,.inl ⟨rfl,λ_ h=>by cases h⟩⟩)
  .rintro i l b s' ⟨rfl,dn,hit,rfl,el,no⟩
   obtain⟨e,x,e1,e2,e3,e4,e5⟩:=hq i (by rw[el];exact aL _ aJ)
   rw[e1]
   dsimp only
   rw[if_pos (hn e x e5)]
   refine af (cR ho hd (af (aq3 x (by omega) e4 hk _ _ _ _ (af (cR ho hd ?_)))))
   rw[if_neg (by simp)]
   have ea:pl=(dn++[i])++l:=by rw[el,fI];rfl
   by_cases hx:x=k
   .rw[decide_eq_true hx,if_pos rfl]
    rw[hx] at e2
    have hno:hit=none:=by
     rcases no with ⟨h,_⟩|⟨j,_,hj,ej⟩
     .exact h
     .have:j=i:=(gU (List.getElem?_eq_some_iff.mp ej).1 nd).mp (ej.trans e2.symm)
      exact absurd this ((List.nodup_append.mp (el▸np)).2.2 j hj i aJ)
    subst hno
    rw[if_neg (by decide)]
    refine af (gp ?_)
    split
    .exact ai (ai (h1 i e2))
    .exact ai ⟨rfl,_,_,rfl,ea,.inr ⟨i,rfl,by simp,e2⟩⟩
   .rw[decide_eq_false hx,if_neg (by decide)]
    refine af (gp ?_)
    rw[if_neg (by simp)]
    refine ai ⟨rfl,_,_,rfl,ea,no.imp (λh=>⟨h.1,λj hj=>(List.mem_append.mp hj).elim (h.2 j) λh=>by rw[List.mem_singleton.mp h,e2];exact λz=>hx (aG z)⟩) fun⟨j,a,b,c⟩=>⟨j,a,bX _ b,c⟩⟩
  .rintro b s' ⟨rfl,dn,hit,rfl,el,no⟩
   rw[bS] at el
   rcases no with ⟨rfl,h⟩|⟨j,rfl,_,h⟩
   .exact ai (none_ (el▸h))
   .exact ai (h1 j h)
end
theorem Q5 {l:List (TK×V)}{k:TK}(h:k∉l.map (·.1)):Bv l k=none:=by
 unfold Bv
 rw[List.find?_eq_none.mpr λx hx z=>h (List.mem_map.mpr ⟨x,hx,of_decide_eq_true z⟩)]
 rfl
theorem Ku:∀ {l:List (TK×V)} {j:Nat} {k:TK} {v:V},(l.map (·.1)).Nodup->l[j]?=some (k,v)->Bv l k=some v
 |p::l,0,k,v,_,h=>by cases h;exact Hs rfl
 | p::l,j+1,k,v,nd,h=>by
  rw[aS,cP] at nd
  rw[Fq λz=>nd.1 (z▸List.mem_map.mpr ⟨(k,v),ak h,rfl⟩)]
  exact Ku nd.2 h
section
variable {X:Cx} {ξ:List (Addr×Obj)} {U:St} {H:Hp} {s:av} {a:Addr} {kvs:List (TK×V)} {k:TK} {y v:V} {u r:Value} {A:bP} {E:Value->av->Prop}
theorem Nt(I:Inv X ξ U H s)(e:Rd H a (.dT kvs)):kvs.length<=sizeLine/\(a==dv)=false/\∃o es ep,s.heap.get? a=some o/\o.ExactDict/\o.data=.dict es ep/\KT X.w H kvs es/\s.TypeIs (.ref a) "dict" :=
 let ⟨z,y,o,es,ep,h1,h2,h3,r⟩:=(show ObjOk X.prog X.w H s.heap a (.dT kvs) from a49 I.hok e);⟨z,y,o,es,ep,h1,h2,h3,r,o,h1,h2.1⟩
theorem Xx(hu:A.units+8<cLine)(I:Inv X ξ U H s)(h1:s.heap.get? a=some o)(h3:o.data=.dict es ep)(r:KT X.w H kvs es)(hk:Aq k<=8/\TkAt H k y)(ry:RelV y u)(h0:k∉kvs.map (·.1)->Q none s)(hs:∀j v,kvs[j]?=some (k,v)->Q (some j) s):aK (model X.prog X.w) A (dictFind a u (Bi X.w k)) Q E s:=by
 refine a23 hu hk.1 (Xw I.hok k hk.2 ry) h1 h3 (ks:=kvs.map (·.1)) (by rw[ae];exact r.1) r.2.1 (λj e h=>?_) h0 λj h=>?_
 .obtain⟨x,v,z,a1,a2,a3,a4,a5,_⟩:=r.2.2 j e h
  exact⟨x,by rw[al,a1];rfl,a2,Xw I.hok x a3 a4,a5⟩
 .rw[al] at h
  obtain⟨⟨x,v⟩,h',rfl⟩:=Option.map_eq_some_iff.mp h
  exact hs j v h'
theorem V6 {Q:Option Value->av->Prop}(hu:A.units+8<cLine)(I:Inv X ξ U H s)(e:Rd H a (.dT kvs))(hk:Aq k<=8/\TkAt H k y)(ry:RelV y u)(h:∀z t,RelO (Bv kvs k) z->Inv X ξ U H { s with toks:=t }->Q z { s with toks:=t }):aK (model X.prog X.w) A (mq a u) Q E s:=by
 obtain⟨_,_,o,es,ep,h1,_,h3,r,_⟩:=Nt I e
 unfold mq
 try with_reducible refine bj ?_
 refine af (On k (by have:=hk.1;omega) (Xw I.hok k hk.2 ry) (af (Xx hu (I.tok (s.toks+C4 k)) h1 h3 r hk ry (λq=>ai (h none _ (by rw[Q5 q];exact aQ) (I.tok _))) λj v q=>?_)))
 refine af (ez h1 h3 ?_)
 have hl:j<es.size:=r.1▸(List.getElem?_eq_some_iff.mp q).1
 obtain⟨x,v',z,a1,_,_,_,_,rv⟩:=r.2.2 j _ (aW hl)
 rw[q] at a1
 cases a1
 rw[aW hl]
 exact ai (h _ _ (by rw[Ku r.2.1 q];exact rv) (I.tok _))
end
noncomputable def Zv(H:Hp)(a:Addr)(y:V)(r:Option V):Prop:=∃kvs k,Rd H a (.dK kvs)/\y=kV k/\r=Bv kvs k
noncomputable def DGet(H:Hp)(a:Addr)(y:V)(r:Option V):Prop:=
 (∃kvs k,Rd H a (.dK kvs)/\y=kV k/\r=Bv kvs k) \/ ∃kvs k,Rd H a (.dT kvs)/\(Aq k<=8/\TkAt H k y)/\r=Bv kvs k
noncomputable def DPut(H:Hp)(a:Addr)(y v:V)(H':Hp):Prop:=
 (∃kvs k,H a=some (.dK kvs)/\y=kV k/\kvs.length<sizeLine/\H'=upd H a (.dK (B7 kvs k v))) \/
 ∃kvs k,H a=some (.dT kvs)/\(Aq k<=8/\TkAt H k y)/\kvs.length<sizeLine/\H'=upd H a (.dT (B7 kvs k v))
theorem DGet.k {H:Hp}{a:Addr}{kvs:List (Key×V)}{k:Key}(e:H a=some (.dK kvs)):DGet H a (kV k) (Bv kvs k):=.inl ⟨kvs,k,.inl e,rfl,rfl⟩
theorem DGet.t {H:Hp}{a:Addr}{y:V}{kvs:List (TK×V)}{k:TK}(e:H a=some (.dT kvs))(eb:(Aq k<=8/\TkAt H k y)):DGet H a y (Bv kvs k):=.inr ⟨kvs,k,.inl e,eb,rfl⟩
theorem DPut.k {H:Hp}{a:Addr}{kvs:List (Key×V)}{k:Key}{v:V}(e:H a=some (.dK kvs))(hl:kvs.length<sizeLine):DPut H a (kV k) v (upd H a (.dK (B7 kvs k v))):=.inl ⟨kvs,k,e,rfl,hl,rfl⟩
theorem DPut.t {H:Hp}{a:Addr}{y:V}{kvs:List (TK×V)}{k:TK}{v:V}(e:H a=some (.dT kvs))(eb:(Aq k<=8/\TkAt H k y))(hl:kvs.length<sizeLine) :
  DPut H a y v (upd H a (.dT (B7 kvs k v))):=.inr ⟨kvs,k,e,eb,hl,rfl⟩
section
theorem Inv.big(I:Inv X ξ U H s):dv<s.heap.objs.size:=by
 have h:mainGlobals<s.heap.objs.size:=(I.mod.glob.keeps I.bk).lt
 exact Nat.lt_trans (by decide) h
theorem Ya(hu:A.units+9<cLine)(I:Inv X ξ U H s)(g:DGet H a y (some v))(ry:RelV y u)(h:∀w' s',Inv X ξ U H s'->RelV v w'->Q w' s') :
  aK (model X.prog X.w) A (lx (.ref a) u) Q E s:=by
 rcases g with ⟨kvs,k,e,ey,l⟩|⟨kvs,k,e,eb,l⟩
 .subst ey
  obtain⟨z,hd,vs,rel,dd⟩:=Dh I.hok e
  obtain⟨w',hw,rw'⟩:=RelO.some_of (v:=v) (o:=lA vs k) (by rw[l];exact rel.val k)
  exact wpAny_getItem_of (Li ry) dd.mapOf hw (h w' _ (I.tok _) rw')
 .obtain⟨_,_,o,_,_,_,_,_,_,T⟩:=Nt I e
  unfold lx
  try with_reducible refine bj ?_
  refine af (jh T (by decide) (af (cB (name:=cV "__getitem__") T slot_dict_getitem (bY slot_dict_getitem T entry_dict_getitem ?_ (args_dict_getitem _ _)))))
  refine af (m:=mq a u) (V6 (A:=A.in1) (show A.units+1+8<cLine by omega) I e eb ry λz t q I2=>?_)
  rw[<- l] at q
  obtain⟨w',rfl,rw'⟩:=q.some_of
  exact ai ⟨w',rfl,ai (h w' _ I2 rw')⟩
theorem b18 {Q:Value->av->Prop}(I:Inv X ξ U H s)(g:Zv H a y o)(ry:RelV y u)(h:∀s',Inv X ξ U H s'->Q (.bool o.isSome) s') :
  aK (model X.prog X.w) A (cG .In u (.ref a)) Q E s:=by
 obtain⟨kvs,k,e,ey,l⟩:=g
 subst ey
 obtain⟨z,hd,vs,rel,dd⟩:=Dh I.hok e
 refine wpAny_in_of (Li ry) hd dd.mapOf ?_
 rw[<- (rel.val k).isSome_eq,<- l]
 exact h _ (I.tok _)
theorem au4 {Q:Value->av->Prop}(I:Inv X ξ U H s)(g:Zv H a y o)(ry:RelV y u)(h:∀s',Inv X ξ U H s'->Q (.bool (!o.isSome)) s') :
  aK (model X.prog X.w) A (cG .NotIn u (.ref a)) Q E s:=by
 obtain⟨kvs,k,e,ey,l⟩:=g
 subst ey
 obtain⟨z,hd,vs,rel,dd⟩:=Dh I.hok e
 refine wpAny_notIn_of (Li ry) hd dd.mapOf ?_
 rw[<- (rel.val k).isSome_eq,<- l]
 exact h _ (I.tok _)
theorem Pe(I:Inv X ξ U H s)(mu:Mut (H a))(hs:bJ a s.heap h')(he:∃q,h'.get? a=some q)(new:ObjOk X.prog X.w (upd H a ob) h' a ob)(ht:s.toks<=t':=by first|exact ag _|exact bq _ _|assumption|omega|(dsimp only;omega)) :
  Inv X ξ U (upd H a ob) { s with heap:=h',toks:=t' }:=
 I.write (x:=a) (e:=a) mu (.inl rfl) (λb q hb z=>(hs.2 b hb).trans z) he new
theorem ad6(z:kvs.length<=sizeLine)(hd:(a==dv)=false)(rel:KV kvs vs)(dd:h'.DictOf (Bg P w) a vs) :
  ObjOk P w H' h' a (.dK kvs):=⟨z,hd,vs,rel,dd⟩
theorem KT.add {w:bL}{kvs:List (TK×V)}{es:Array gv}{k:TK}(q:KT w H kvs es)(no:k∉kvs.map (·.1))(hk:Aq k<=8/\TkAt H k y)(ry:RelV y u)(rv:RelV v r):KT w H (B7 kvs k v) (es.push ⟨Bi w k,u,r⟩):=by
 rw[C5 v (Q5 no)]
 refine⟨by rw[Array.size_push,q.1,aU];rfl,by rw[ar];exact List.nodup_append.mpr ⟨q.2.1,by simp,λx hx z hz e=>no ((show z=k by simpa using hz)▸e▸hx)⟩,λj e h=>?_⟩
 rw[Array.getElem?_push] at h
 split at h
 .rename_i ej
  cases h
  exact⟨k,v,y,by rw[ej,q.1];simp,hk.1,hk.2,ry,rfl,rv⟩
 .obtain⟨x,v',z,a1,t⟩:=q.2.2 j e h
  exact⟨x,v',z,by rw[bK (List.getElem?_eq_some_iff.mp a1).1];exact a1,t⟩
theorem KT.new(q:KT w H kvs es)(hj:kvs[j]?=some (k,v0))(rv:RelV v r):KT w H (B7 kvs k v) (es.modify j λe=>{ e with val:=r }):=by
 have ep:B7 kvs k v=kvs.map λp=>if p.1=k then (p.1,v) else p:=by
  unfold B7
  rw[if_pos (List.any_eq_true.mpr ⟨_,ak hj,decide_eq_true rfl⟩)]
 have ek:(B7 kvs k v).map (·.1)=kvs.map (·.1):=by
  rw[ep,aw]
  exact bu λp _=>by show (if _ then _ else _:TK×V).1=_;split <;> rfl
 refine⟨by rw[Array.size_modify,q.1,ep,ae],by rw[ek];exact q.2.1,λi e h=>?_⟩
 rw[Array.getElem?_modify] at h
 rw[ep,al]
 split at h
 .rename_i e0
  subst e0
  obtain⟨e0,h',rfl⟩:=Option.map_eq_some_iff.mp h
  obtain⟨x,v',z,a1,a2,a3,a4,a5,_⟩:=q.2.2 j e0 h'
  rw[hj] at a1
  cases a1
  exact⟨k,v,z,by rw[hj,cF,if_pos rfl],a2,a3,a4,a5,rv⟩
 .rename_i ne
  obtain⟨x,v',z,a1,t⟩:=q.2.2 i e h
  refine⟨x,v',z,?_,t⟩
  rw[a1,cF,if_neg λe=>ne ?_]
  have g:∀ {n:Nat} {p:TK×V},kvs[n]?=some p->(kvs.map (·.1))[n]?=some p.1:=λh=>by rw[al,h];rfl
  have e:x=k:=e
  subst e
  exact (gU (List.getElem?_eq_some_iff.mp (g hj)).1 q.2.1).mp ((g hj).trans (g a1).symm)
theorem Yb(hu:A.units+9<cLine)(I:Inv X ξ U H s)(g:DPut H a y v H')(ry:RelV y u)(rv:RelV v r)(h:∀s',Inv X ξ U H' s'->Q () s') :
  aK (model X.prog X.w) A (mC (.ref a) u r) Q E s:=by
 rcases g with ⟨kvs,k,e,ey,l,eH⟩|⟨kvs,k,e,eb,l,eH⟩
 .subst ey eH
  obtain⟨z,hd,vs,rel,dd⟩:=bp4 I.hok e
  have hz:vs.length<=sizeLine:=by rw[<- rel.length];exact z
  have hl:(B7 kvs k v).length<=sizeLine:=by have:=Jd kvs k v;omega
  refine wpAny_setItem_pairs (hsz:=hz) (Li ry) dd λh' dd' hs=>h _ ?_
  have he:∃q,h'.get? a=some q:=let ⟨q,_,_,hq,_⟩:=dd';⟨q,hq⟩
  exact Pe I (by rw[e];exact aQ) hs he (ad6 hl hd (rel.put k rv) dd')
 .subst eH
  obtain⟨z,hd,o,es,ep,h1,h2,h3,q,T⟩:=Nt I (.inl e)
  have hl:(B7 kvs k v).length<=sizeLine:=by have:=Jd kvs k v;omega
  have kt:∀ {es},KT X.w H (B7 kvs k v) es->KT X.w (upd H a (.dT (B7 kvs k v))) (B7 kvs k v) es:=λq=>q.keeps λc ys ec=>by rw[Ad (br2 ec e (λz=>nomatch z))];exact ec
  have mu:Mut (H a):=by rw[e];exact aQ
  unfold mC
  try with_reducible refine bj ?_
  refine af (jh T (by decide) (af (cB (name:=cV "__setitem__") T slot_dict_setitem (bY slot_dict_setitem T entry_dict_setitem ?_ (args_dict_setitem _ _ _)))))
  refine af (j2 T ?_)
  refine af (m:=dictSet a u r) ?_
  unfold dictSet dictSetHashed
  try with_reducible refine bj ?_
  refine af (On k (by have:=eb.1;show A.units+1+Aq k<cLine;omega) (Xw I.hok k eb.2 ry) ?_)
  try with_reducible refine bj ?_
  refine af (Xx (A:=A.in1) (show A.units+1+8<cLine by omega) (I.tok (s.toks+C4 k)) h1 h3 q eb ry (λno=>?_) λj v0 hj=>?_)
  .refine af (gp (wpAny_updateDictKeys h1 h3 (hz:=by rw[q.1];omega) (ai ⟨.none,rfl,ai (h _ (Pe (I.tok _) mu (bE ..) ⟨_,b_ _ h1 (f8 (im h3 _))⟩ ⟨hl,hd,_,_,ep+1,b_ _ h1 (f8 (im h3 _)),h2.mapDictKeys _,im h3 _,kt (q.add no eb ry rv)⟩))⟩)))
  .refine af (gp (af (wpAny_updateDict h1 h3 (wpAny_point (ai ⟨.none,rfl,ai (h _ (Pe (I.tok _) mu (bE ..) ⟨_,b_ _ h1 (f8 (jz h3 _))⟩ ⟨hl,hd,_,_,ep,b_ _ h1 (f8 (jz h3 _)),h2.mapDict _,jz h3 _,kt (q.new hj rv)⟩))⟩)))))
end
section
theorem bp3(I:Inv X ξ U H s)(e:Rd H a (.dK kvs))(h:∀t s',Inv X ξ U H s'->Q (.int kvs.length t) s'):aK (model X.prog X.w) A (call (.builtin "len") [.ref a]) Q E s:=by
 obtain⟨z,hd,vs,rel,dd⟩:=Dh I.hok e
 refine call_len_dict hd dd (by rw[<- rel.length];rw[bG] at z;omega) ?_
 rw[<- rel.length]
 exact h _ _ (I.tok _)
end
theorem Rm(I:Inv X ξ U H s)(g:DGet H a y o):s.TypeIs (.ref a) "dict" := by
 rcases g with ⟨kvs,k,e,_,_⟩|⟨kvs,k,e,_,_⟩
 .obtain⟨_,_,vs,_,dd⟩:=Dh I.hok e
  exact dd.typeIs
 .obtain⟨_,_,_,_,_,_,_,_,_,T⟩:=Nt I e
  exact T
theorem ad5(h:Heap)(hb:dv<h.objs.size):ObjOk P w H (h.push { cls:=.type "dict", data:=.dict #[] }) h.objs.size (.dK []):=
 ⟨bC _,beq_eq_false_iff_ne.mpr (cA (aT hb)),[],.nil,Heap.DictOf.new h⟩
theorem ad7(h:Heap)(hb:dv<h.objs.size):ObjOk P w H (h.push { cls:=.type "dict", data:=.dict #[] }) h.objs.size (.dT []):=
 ⟨bC _,beq_eq_false_iff_ne.mpr (cA (aT hb)),_,#[],0,aB _ rfl,⟨rfl,rfl,rfl⟩,rfl,rfl,iQ,λj e h=>by simp at h⟩
section
theorem a82(hu:A.units+9<cLine)(I:Inv X ξ U H s)(g:DGet H a y o)(ry:RelV y u)(h:∀w' s',Inv X ξ U H s'->RelV (o.getD .non) w'->Q w' s') :
  aK (model X.prog X.w) A (call (.builtin "dict.get") [.ref a,u]) Q E s:=by
 rcases g with ⟨kvs,k,e,ey,l⟩|⟨kvs,k,e,eb,l⟩
 .subst ey
  obtain⟨z,hd,vs,rel,dd⟩:=Dh I.hok e
  refine call_meetsIn dN dd.typeIs fg (jq _ _) (meets_dict_get (Bg X.prog X.w) a (Li ry) hd) ⟨_,dd.mapOf,h _ _ (I.tok _) ?_⟩
  rw[l]
  exact (rel.val k).getD rfl
 .obtain⟨_,hd,o,_,_,_,_,_,_,T⟩:=Nt I e
  refine bY dN T fg ?_ (jq _ _)
  refine af (m:=mq a u) (V6 (A:=A.in1) (show A.units+1+8<cLine by omega) I e eb ry λz t q I2=>?_)
  have q:=(l▸q).getD (show RelV .non .none from rfl)
  cases z with
  |some v=>exact ai ⟨_,rfl,h _ _ I2 q⟩
  |none=>exact af (m:=kr a u) (lg hd (ai ⟨_,rfl,h _ _ I2 q⟩))
theorem a83(hu:A.units+9<cLine)(I:Inv X ξ U H s)(g:DGet H a y o)(ry:RelV y u)(rd:RelV d r)(h:∀w' s',Inv X ξ U H s'->RelV (o.getD d) w'->Q w' s') :
  aK (model X.prog X.w) A (call (.builtin "dict.get") [.ref a,u,r]) Q E s:=by
 rcases g with ⟨kvs,k,e,ey,l⟩|⟨kvs,k,e,eb,l⟩
 .subst ey
  obtain⟨z,hd,vs,rel,dd⟩:=Dh I.hok e
  refine call_meetsIn dN dd.typeIs fg (jr _ _ _) (meets_dict_get_default (Bg X.prog X.w) a (Li ry) hd r) ⟨_,dd.mapOf,h _ _ (I.tok _) ?_⟩
  rw[l]
  exact (rel.val k).getD rd
 .obtain⟨_,hd,o,_,_,_,_,_,_,T⟩:=Nt I e
  refine bY dN T fg ?_ (jr _ _ _)
  refine af (m:=mq a u) (V6 (A:=A.in1) (show A.units+1+8<cLine by omega) I e eb ry λz t q I2=>?_)
  have q:=(l▸q).getD (rd)
  cases z with
  |some v=>exact ai ⟨_,rfl,h _ _ I2 q⟩
  |none=>exact af (m:=kr a u) (lg hd (ai ⟨_,rfl,h _ _ I2 q⟩))
end
noncomputable abbrev EK:=Addr->Hp->Prop
noncomputable abbrev DE:=St->Hp->VK->EK->Prop
noncomputable abbrev DT:=St->Hp->(Bool->Hp->Prop)->EK->Prop
noncomputable abbrev DA:=St->Hp->(List V->Hp->Prop)->EK->Prop
structure Outs where
 nx:St->Hp->Prop
 rt:VK
 bk:St->Hp->Prop
 ct:St->Hp->Prop
 ex:St->EK
noncomputable abbrev DS:=Outs->St->Hp->Prop
noncomputable abbrev As(C:Addr)(dx:Option Addr)(vs:Array Value):Obj:={ cls:=.ref C,dict:=dx,data:=.fields vs }
noncomputable def G7(a C:Addr)(dx:Option Addr):HO:=.ext λh=>∃vs:Array Value,h.get? a=some (As C dx vs)/\vs.size=6/\vs[1]?=some .none/\vs[2]?=some .none
noncomputable def flO(a C:Addr)(dx:Option Addr):HO:=.ext λh=>∃vs:Array Value,h.get? a=some (As C dx vs)/\vs.size=6/\vs[2]?=some .none
noncomputable def fcO(a C:Addr)(dx:Option Addr):HO:=.ext λh=>∃vs:Array Value,h.get? a=some (As C dx vs)/\vs.size=6
noncomputable def FlO(H:Hp)(a C:Addr)(dx:Option Addr):Prop:=H a=some (flO a C dx)\/H a=some (fcO a C dx)
noncomputable def xdO(dx:Addr)(fs:List (Str×V)):HO:=.ext λh=>fs.length<=1000/\∃mA,h.Ns1 dx mA/\(∀f,RelO (fs.lookup f) (mA f))/\eI mA (fs.map (·.1))
noncomputable def Gw(X:Cx)(ξ:List (Addr×Obj))(H:Hp)(a:Addr)(s:av):Prop:=
 ∃(C:Addr)(dx:Option Addr)(vs:Array Value),FlO H a C dx/\s.heap.get? a=some (As C dx vs)/\vs.size=6 /\
  (vs[1]?=some .none \/ ∃(T:Addr)(oT:Obj)(ts:Array Value),vs[1]?=some (.ref T)/\T≠a/\s.heap.get? T=some oT/\oT.data=.fields ts/\(∃z,ts[3]?=some z)/\Cq X ξ H T)
noncomputable def Meets(X:Cx)(Ex:St->EK):Prop:=
 ∀(ξ:List (Addr×Obj))(U:St)(H:Hp)(s:av)(a:Addr),Inv X ξ U H s->Gw X ξ H a s->Ex U a H->X.xe (.ref a) s
noncomputable def QE(X:Cx)(e:Expr)(t:DE):Prop:=∀Ex,Meets X Ex->PE X e (λU H Q=>t U H Q (Ex U))
noncomputable def QT(X:Cx)(e:Expr)(t:DT):Prop:=∀Ex,Meets X Ex->PT X e (λU H Q=>t U H Q (Ex U))
noncomputable def QW(X:Cx)(e:Expr)(t:DT):Prop:=∀Ex,Meets X Ex->PW X e (λU H Q=>t U H Q (Ex U))
noncomputable def QA(X:Cx)(es:List Expr)(t:DA):Prop:=∀Ex,Meets X Ex->PA X es (λU H Q=>t U H Q (Ex U))
noncomputable def ax6(Ex:St->EK)(D:ab2):Outs:=⟨D.nx,D.rt,D.bk,D.ct,Ex⟩
noncomputable def QS(X:Cx)(st:Stmt)(t:DS):Prop:=∀Ex,Meets X Ex->PS X st (λD U H=>t (ax6 Ex D) U H)
noncomputable def QSs(X:Cx)(st:List Stmt)(t:DS):Prop:=∀Ex,Meets X Ex->PSs X st (λD U H=>t (ax6 Ex D) U H)
noncomputable def dNo:DE:=λ_ _ _ _=>False
noncomputable def Aa(i:Nat):DE:=λU H Q _=>match U[i]? with
 |some (some v)=>Q v H
 |_=>False
noncomputable def dC(v:V):DE:=λ_ H Q _=>Q v H
noncomputable def Ah(r:R2)(a b:DE):DE:=λU H Q E=>a U H (λx H1=>b U H1 (λy H2=>r x y H2 Q) E) E
noncomputable def dUn(r:V->Hp->VK->Prop)(a:DE):DE:=λU H Q E=>a U H (λx H1=>r x H1 Q) E
noncomputable def Ek(r r':R2)(a b c:DE):DE:=λU H Q E=>a U H (λx H1=>b U H1 (λy H2=>r x y H2 λz H3=>match z with
 |.bl k=>if k=true then c U H3 (λw H4=>r' y w H4 Q) E else Q (.bl false) H3
 |_=>False) E) E
noncomputable def T7(a b:DT):DT:=λU H Q E=>a U H (λk H1=>if k=true then b U H1 Q E else Q false H1) E
noncomputable def dOr(a b:DT):DT:=λU H Q E=>a U H (λk H1=>if k=true then Q true H1 else b U H1 Q E) E
noncomputable def Da(a:DT):DT:=λU H Q E=>a U H (λk H1=>Q (!k) H1) E
noncomputable def bp1(t:DT)(a b:DE):DE:=λU H Q E=>t U H (λk H1=>if k=true then a U H1 Q E else b U H1 Q E) E
noncomputable def aq7(K:ac)(x:V)(H:Hp)(Q:Bool->Hp->Prop):Prop:=match x with
 |.bl k=>Q k H
 |.non=>Q false H
 |.int i=>Q (i != 0) H
 |.str y=>y.length<=sizeLine/\Q ((y.length:Int) != 0) H
 |.ref p=>∃k,bo6 K (.ref p) H k/\Q k H
 |_=>False
noncomputable def Nr(K:ac)(a b:DE):DE:=λU H Q E=>a U H (λx H1=>aq7 K x H1 λk H2=>if k=true then b U H2 Q E else Q x H2) E
noncomputable def bp2(K:ac)(a b:DE):DE:=λU H Q E=>a U H (λx H1=>aq7 K x H1 λk H2=>if k=true then Q x H2 else b U H2 Q E) E
noncomputable def ad4(K:ac)(a:DE):DE:=λU H Q E=>a U H (λx H1=>aq7 K x H1 λk H2=>Q (.bl (!k)) H2) E
noncomputable def Cu(K:ac)(a:DE):DT:=λU H Q E=>a U H (λx H1=>aq7 K x H1 Q) E
noncomputable def Bf(a:DE):DT:=λU H Q E=>a U H (λx H1=>match x with
 |.bl k=>Q k H1
 |_=>False) E
noncomputable def Ag:DA:=λ_ H Q _=>Q [] H
noncomputable def Ac(a:DE)(r:DA):DA:=λU H Q E=>a U H (λx H1=>r U H1 (λxs H2=>Q (x::xs) H2) E) E
noncomputable def Do(t:DA):DE:=λU H Q E=>t U H (λxs H1=>xs.length<=sizeLine/\∀p,H1 p=none->Q (.ref p) (upd H1 p (.tup xs))) E
noncomputable def Cm(t:DA):DE:=λU H Q E=>t U H (λxs H1=>xs.length<=sizeLine/\∀p,H1 p=none->Q (.ref p) (upd H1 p (.lst xs))) E
noncomputable def dFn(r:List V->Hp->VK->EK->Prop)(t:DA):DE:=λU H Q E=>t U H (λvs H1=>r vs H1 Q E) E
noncomputable def dMt(r:V->Hp->(Hp->(List V->Hp->Prop)->Prop)->VK->Prop)(o:DE)(t:DA):DE:=λU H Q E=>o U H (λx H1=>r x H1 (λH2 R=>t U H2 R E) Q) E
noncomputable def Af:DS:=λD U H=>D.nx U H
noncomputable def Cn:DS:=λ_ _ _=>False
noncomputable def Outs.thn(D:Outs)(f:St->Hp->Prop):Outs:={ D with nx:=f }
noncomputable def Outs.lp(D:Outs)(P:St->Hp->Prop):Outs:={ D with nx:=P,ct:=P,bk:=D.nx }
noncomputable def Ae(t u:DS):DS:=λD U H=>t (D.thn (u D)) U H
noncomputable def Ar(e:DE):DS:=λD U H=>e U H D.rt (D.ex U)
noncomputable def a31:DS:=λD _ H=>D.rt .non H
noncomputable def C9(e:DE):DS:=λD U H=>e U H (λ_ H1=>D.nx U H1) (D.ex U)
noncomputable def dIf(c:DT)(t u:DS):DS:=λD U H=>c U H (λb H1=>if b=true then t D U H1 else u D U H1) (D.ex U)
noncomputable def bo9:DS:=λD U H=>D.bk U H
noncomputable def bp0:DS:=λD U H=>D.ct U H
noncomputable def Ap(i:Nat)(e:DE):DS:=λD U H=>e U H (λv H1=>D.nx (U.set i (some v)) H1) (D.ex U)
noncomputable abbrev DG:=TG
noncomputable def Dz(e:DE)(g:DG):DS:=λD U H=>e U H (λv H1=>g v U H1 D.nx) (D.ex U)
noncomputable abbrev DI:=St->Hp->(It->Hp->Prop)->EK->Prop
noncomputable def Gx(J:It)(g:DG)(tb:DS)(D:Outs)(U:St)(H:Hp):Prop:=∃W:Nat->Nat->St->Hp->Prop,(∃m,W 0 m U H)/\∀i m U H,W i m U H ->
 (J.stop i H/\D.nx U H)\/(J.go i H/\∃N:St->Hp->Prop,(∀U' H',N U' H' -> ∃m',m'<m/\W (i+1) m' U' H')/\∀x H',J.yld i H x H'->g x U H' (λU2 H2=>tb (D.lp N) U2 H2))
noncomputable def Thaw(H0 H:Hp)(P:Hp->Prop):Prop:=P H \/ ∃p o kvs,H0 p=some (.dK kvs)/\H p=some (.frz o (.dK kvs))/\P (upd H p (.dK kvs))
noncomputable def Outs.thw(D:Outs)(H:Hp):Outs:={ D with nx:=λU' H'=>Thaw H H' (D.nx U') }
noncomputable def Ca(wi:DI)(g:DG)(tb:DS):DS:=λD U H=>wi U H (λJ H1=>Gx J g tb (D.thw H) U H1) (D.ex U)
noncomputable def Dx(J:It)(g:DG)(tc:DT)(te:DE)(D:Addr)(R:Hp->Prop)(U:St)(H:Hp)(E:EK):Prop:=
 ∃W:Nat->Nat->St->Hp->Prop,(∃m,W 0 m U H)/\∀i m U' H',W i m U' H' ->
  (J.stop i H'/\R H')\/(J.go i H'/\∃N:St->Hp->Prop,(∀U2 H2,N U2 H2 -> ∃m',m'<m/\W (i+1) m' U2 H2)/\∀x H2,J.yld i H' x H2->g x U' H2 (λU3 H3=>tc U3 H3 (λb H4=>if b=true then
    te U3 H4 (λv H5=>∃ys,H5 D=some (.lst ys)/\ys.length<sizeLine/\N U3 (upd H5 D (.lst (ys++[v])))) E
   else N U3 H4) E))
noncomputable def Be(srcs:List (Option Nat))(wi:DI)(g:DG)(tc:DT)(te:DE):DE:=λU H Q E=>wi U H (λJ H1=>∀D,H1 D=none->Dx J g tc te D (λH'=>Q (.ref D) H') (Tx srcs U) (upd H1 D (.lst [])) E) E
noncomputable def B6:DT:=λ_ H Q _=>Q true H
noncomputable def gdN(i:Nat):DG:=λv U H Q=>Q (U.set i (some v)) H
open PySem.W
section
variable {prog:ba} {w:bL} {A:bP} {E:Value->av->Prop} {s:av} {K:ac} {x C:Addr} {ox:Obj} {od:Option Obj} {name:Str} {expr:Bool} {Q:Value->av->Prop}
theorem Ri(self:Value):kJ (.builtin "BaseException.__getattribute__") self=pure (.builtin "BaseException.__getattribute__", [self]):=by
 have hop:withoutEnding? "BaseException.__getattribute__" "#opaque"=none:=by decide +kernel
 have hdat:withoutEnding? "BaseException.__getattribute__" "#data"=none:=by decide +kernel
 have hk:builtinKind "BaseException.__getattribute__"=some .slot:=by decide +kernel
 simp only[kJ,typeOf,builtinType,hop,hdat,hk];rfl
theorem av3(X:K.In s.heap)(I:fV s.heap x ox C od)(hga:bg K (.ref C) "__getattribute__"=some (some (.builtin "BaseException.__getattribute__")))(hgt:bg K (.ref C) "__getattr__"=some none)(hB:gG K C (.type "BaseException")=some true)(hf:PySem.W.findObj K C od name=some (.value v))(hh:ic v=true)(h:Q v { s with toks:=s.toks+1 }) :
  aK (model prog w) A (lq (.ref x) name expr) Q E s:=by
 obtain⟨hp,g,d,t,os⟩:=s
 have L0:=I.type (M:=model prog w)
 have L1:=dX (M:=model prog w) X hga
 have L2:=dX (M:=model prog w) X hgt
 have L3:=kX (M:=model prog w) X I hf
 have L4:=kH (M:=model prog w) X hB
 unfold lq getAttrBy
 refine af (wpAny_mkText (bj (af (L0.at (af (L1.at ?_))))))
 have hx2:(cY "BaseException.__getattribute__" == cY "object.__getattribute__")=false:=by decide +kernel
 have hx1:(ma (aV C)&&cY "BaseException.__getattribute__" == cY "object.__getattribute__")=false:=by rw[hx2];rfl
 dsimp only
 rw[hx1,if_neg au]
 unfold getAttrByItsOwn
 refine af (show aK _ _ (jf (.ref C) "__getattr__") _ _ _ from L2.at ?_)
 refine af (fN (bj ?_))
 have hx0:(expr&&ma (cY "BaseException.__getattribute__"))=false:=by cases expr <;> rfl
 unfold callGetattribute
 rw[hx0,if_neg au]
 unfold boundAndCalled
 rw[Ri]
 refine af (ai ?_)
 refine gn (fT (by decide +kernel) F.entry_bexc_ga (check_slot (i := "BaseException.__getattribute__") (owner := "BaseException") (n := "__getattribute__") (by decide +kernel) (by decide +kernel) (L0.andThen L4) (F.args_bexc_ga _ _) ?_))
 unfold aI.«object.__getattribute__»
 refine af (ai (af (ai (af (L0.at (af (L3.at ?_)))))))
 refine ai ?_
 show aK _ _ (handedOut v) _ _ _
 rw[j9 hh]
 exact ai h
end
open Builtin Builtin.ObjectAttr
noncomputable def A8:List Value->Bool
 |[.type a,.type b,.type c,.type d]=>a == "ValueError" && b == "Exception" && c == "BaseException" && d == "object"
 |.ref _::r=>A8 r
 |_=>false
noncomputable def valTail:List Value:=[.type "ValueError", .type "Exception", .type "BaseException", .type "object"]
theorem Ve(self:Value):refuseLoop self "__setattr__" valTail=pure ():=by kernel_rfl
theorem Di:∀ {l:List Value},A8 l=true -> ∃rs:List Addr,l=rs.map aV++valTail
 | [.type a,.type b,.type c,.type d],e=>by
  have e:(a == "ValueError" && b == "Exception" && c == "BaseException" && d == "object")=true:=e
  simp only[aH,beq_iff_eq] at e
  obtain⟨⟨⟨rfl,rfl⟩,rfl⟩,rfl⟩:=e
  exact⟨[],rfl⟩
 | .ref a::r,e=>by
  have e:A8 r=true:=by cases r <;> first|exact e|cases e
  obtain⟨rs,h⟩:=Di e
  exact⟨a::rs,by rw[h];rfl⟩
theorem Vd(self:Value)(rs:List Addr):refuseLoop self "__setattr__" (rs.map aV++valTail)=pure ():=by
 induction rs with
 |nil=>exact Ve self
 |cons a r ih=>rw[aS,e_,refuseLoop_ref];exact ih
theorem Tf(rs:List Addr)(h:valTail.contains (.type T)=true):(rs.map aV++valTail).contains (.type T)=true:=by
 induction rs with
 |nil=>exact h
 |cons a r ih=>rw[aS,e_,cD,ih,f_]
section
variable {prog:ba} {w:bL} {A:bP} {s:av} {K:ac} {x C:Addr} {R:mL->av->Prop}
theorem Og(X:K.In s.heap)(I:fV s.heap x ox C od)(hc:l6 K C=some cd)(hp:A8 cd.mro=true)(ht:findIn K (.ref C) name=some none)(h:aK (model prog w) A.in1 (storeInOwnDict (.ref x) (.ref C) (.str name tk) name v false)
   (λfin s'=>match fin with | .done f=>R (.ok f) s' | .again c'=>c'.quiet=true/\gH (model prog w) A c' R s') (λe s'=>R (.error e) s') s) :
  gH (model prog w) A (.call (.builtin "object.__setattr__") ⟨[.ref x,.str name tk,v],[]⟩) R s:=by
 have SF:=PySem.F.store_object
 obtain⟨rs,hm⟩:=Di hp
 have ne:cd.mro.isEmpty=false:=by rw[hm];cases rs <;> rfl
 have sub:Looks (model prog w) s.heap (j5 (.ref x) (.type "object")) true:=I.type.andThen (looks_mroIn X (by unfold mroIn;rw[hc,fb,if_neg (by rw[ne];decide),hm,Tf rs (by decide +kernel)]))
 refine fT SF.slot.plain SF.entry (@check_slot (model prog w) _ _ s "object.__setattr__" "object" "__setattr__" (.ref x) [.str name tk,v] [] _ SF.kind SF.split sub (SF.args (.ref x) (.str name tk) v) ?_)
 have hmr:Looks (model prog w) s.heap (mroOf (.ref C)) cd.mro:=(looks_clsIn X hc).andThen .now
 rw[osa_eq,refuse_eq]
 refine af (af (I.type.here (af (hmr.here ?_))))
 rw[hm,Vd]
 refine ai (af (I.type.here (af ((looks_findIn X ht).here (af (ai ?_))))))
 exact h
end
section
variable {prog:ba} {w:bL} {A:bP} {E:Value->av->Prop} {s:av} {K:ac} {x dx C f:Addr} {mA:Str->Option Value} {name:Str} {v:Value} {vs:Array Value}
theorem a09(X:K.In s.heap)(hx:s.heap.get? x=some (As C (some dx) vs))(hn:s.heap.Ns1 dx mA)(hne:dx≠x)(hs:findIn K (.ref C) "__setattr__"=some (some (.builtin "object.__setattr__")))(hc:l6 K C=some cd)(hp:A8 cd.mro=true)(hd':cd.hasDict=true)(ht:findIn K (.ref C) name=some none)(hw:eI mA ns)(hsz:ns.length<=sizeLine)(h:∀h',h'.get? x=some (As C (some dx) vs)->h'.Ns1 dx (λy=>if y=name then some v else mA y)->bJ dx s.heap h'->Q () { s with heap:=h',toks:=s.toks+2 }) :
  aK (model prog w) A (mj (.ref x) name v) Q E s:=by
 obtain⟨od,ho,hl⟩:=Ie hn
 have J:fV s.heap x (As C (some dx) vs) C (some od):=⟨hx,rfl,rfl,ho⟩
 refine set_plain X J hs (Og (s:={ s with toks:=s.toks+1 }) X J hc hp ht ?_)
 refine af (ai (af (af (iY hx (af (Looks.here (s:={ s with toks:=s.toks+1 }) (looks_clsIn X hc) ?_))))))
 rw[hd']
 refine ai (a:=some dx) (af (ai (af ?_)))
 refine lN (s:={ s with toks:=s.toks+1 }) hn λh' hn2 hs2=>?_
 obtain⟨oD,esD,epD,hoD,hdD,hcD⟩:=hn2.count (PySem.Within.cons name v hw)
 refine af (jE hoD (by rw[hdD];exact jB (a9 hcD (by rw[aN];omega))) ?_)
 exact ai (h _ ((hs2.2 _ (cA hne)).trans hx) hn2 hs2)
theorem am9(X:K.In s.heap)(hx:s.heap.get? x=some (As C none vs))(hs:findIn K (.ref C) "__setattr__"=some (some (.builtin "object.__setattr__")))(hc:l6 K C=some cd)(hp:A8 cd.mro=true)(hd':cd.hasDict=true)(ht:findIn K (.ref C) name=some none)(h:∀h',h'.get? x=some (As C (some s.heap.objs.size) vs)->h'.Ns1 s.heap.objs.size (λy=>if y=name then some v else none)->(∀b o,b≠x->s.heap.get? b=some o->h'.get? b=some o)->Q () { s with heap:=h',toks:=s.toks+2 }) :
  aK (model prog w) A (mj (.ref x) name v) Q E s:=by
 have J:fV s.heap x (As C none vs) C none:=⟨hx,rfl,rfl,aQ⟩
 refine set_plain X J hs (Og (s:={ s with toks:=s.toks+1 }) X J hc hp ht ?_)
 refine af (ai (af (af (iY hx (af (Looks.here (s:={ s with toks:=s.toks+1 }) (looks_clsIn X hc) ?_))))))
 rw[hd']
 rw[if_neg (by decide)]
 refine af (wpAny_alloc (af (wpAny_update (ah _ hx) ?_)))
 refine ai (a:=some s.heap.objs.size) (af (ai (af ?_)))
 have e1:(s.heap.push emptyDict).get? s.heap.objs.size=some emptyDict:=aB s.heap rfl
 have hne:x≠s.heap.objs.size:=aT (aF hx)
 have e2:((s.heap.push emptyDict).update x λo=>{ o with dict:=some s.heap.objs.size }).get? s.heap.objs.size=some emptyDict:=by rw[cq _ _ hne];exact e1
 have e3:((s.heap.push emptyDict).update x λo=>{ o with dict:=some s.heap.objs.size }).get? x=some (As C (some s.heap.objs.size) vs):=b_ _ (ah _ hx) rfl
 have n0:((s.heap.push emptyDict).update x λo=>{ o with dict:=some s.heap.objs.size }).Ns s.heap.objs.size (λ_=>none):=⟨emptyDict,#[],_,e2,rfl,(λe he=>absurd he (by simp)),λ_=>rfl⟩
 refine lN (s:={ s with heap:=(s.heap.push emptyDict).update x λo=>{ o with dict:=some s.heap.objs.size },toks:=s.toks+1 }) (Heap.Ns1.of_empty n0) λh' hn2 hs2=>?_
 obtain⟨oD,esD,epD,hoD,hdD,hcD⟩:=hn2.count (ns:=[name]) (λy hy=>by
  by_cases e:y=name
  .rw[e];simp
  .exact absurd (by rw[if_neg e]) hy)
 refine af (jE hoD (by rw[hdD];exact jB (a9 hcD (by show 1<=sizeLine+1;decide))) ?_)
 refine ai (h _ ((hs2.2 _ hne).trans e3) hn2 λb o hb e=>?_)
 have hbs:b≠s.heap.objs.size:=aT (aF e)
 refine (hs2.2 b hbs).trans ?_
 show ((s.heap.push emptyDict).update x _).get? b=some o
 rw[cq _ _ (cA hb)]
 exact ah _ e
end
end L2
namespace L2
open PySem PySem.Spec PySem.W Builtin Builtin.ObjectAttr
open Sem (wp)
structure ECls (K:ac) (C:Addr):Prop where
 obj:∃nm q N bs bm hdct sn sub ab col dd k0 k1 k2 k3 k5,K.lookup C=some (g6 nm q C N bs bm hdct sn sub ab col dd k0 k1 k2 k3 k5 "ValueError.__new__")/\A8 bm=true/\hdct=true
 sa:findIn K (.ref C) "__setattr__"=some (some (.builtin "object.__setattr__"))
 ga:findIn K (.ref C) "__getattribute__"=some (some (.builtin "BaseException.__getattribute__"))
 gt:findIn K (.ref C) "__getattr__"=some none
 ca:findIn K (.ref C) "__class__"=some (some (.builtin "object.__class__"))
 hn:specialIn K (.builtin "object.__class__") "__get__"=some (some (.builtin "getset_descriptor.__get__"))
 htk:takesIn K (.builtin "object.__class__")=some true
theorem Cg(h:A8 bm=true)(hb:valTail.contains (.type T)=b):bm.contains (.type T)=b:=by
 obtain⟨rs,rfl⟩:=Di h
 induction rs with
 |nil=>exact hb
 |cons a r ih=>
  have h':A8 (r.map aV++valTail)=true:=by
   cases r <;> exact h
  rw[aS,e_,cD,ih h']
  rfl
section
variable {M:Model} {A:bP} {E:Value->av->Prop} {h:Heap} {g:Array kM} {d:Drawn} {t:Nat} {os:OsState}
variable {nm q:Str} {C N:Addr} {bs bm:List Value} {hdct:Bool} {sn:List Str} {sub:List Value} {ab:Bool} {col:Option Bool} {dd:Option Addr} {k0 k1 k2 k3 k5:Option Value}
theorem Ht(T:A8 bm=true){rest:List Value}{Q:Unit->av->Prop}(hC:h.get? C=some (g6 nm q C N bs bm hdct sn sub ab col dd k0 k1 k2 k3 k5 "ValueError.__new__"))(hq:Q () ⟨h,g,d,t,os⟩):aK M A (checkBuiltinCall "ValueError.__new__" ⟨.ref C::rest,[]⟩) Q E ⟨h,g,d,t,os⟩:=by
 have F:=fQ
 have hcont:(aV C::bm).contains (.type "ValueError")=true:=by rw[cD,Cg T (show valTail.contains (.type "ValueError")=true by decide +kernel),f_]
 have hstar:=F.noStar
 simp only[checkBuiltinCall,F.newKind,F.newSplit,F.newRow]
 repeat (first|refine cK hC ?_|(refine dB hC ?_;rw[hcont])|refine wpAny_staticBase_exc hC ?_|refine wpAny_madeBy_exc hC ?_|simp only[bne_self_eq_false,bM,if_false] | wp_step)
 exact hq
end
section
variable {prog:ba} {w:bL} {A:bP} {R:mL->av->Prop} {h:Heap} {g:Array kM} {d:Drawn} {t:Nat} {os:OsState}
variable {nm q:Str} {C N:Addr} {bs bm:List Value} {hdct:Bool} {sn:List Str} {sub:List Value} {ab:Bool} {col:Option Bool} {dd:Option Addr} {k0 k1 k2 k3 k5:Option Value}
theorem G3(T:A8 bm=true){rest:List Value}(hC:h.get? C=some (g6 nm q C N bs bm hdct sn sub ab col dd k0 k1 k2 k3 k5 "ValueError.__new__"))(hq:R (.ok (.ret (.ref (h.objs.size+1)))) ⟨(h.push { cls:=.type "tuple", data:=.seq rest.toArray }).push
   {cls:=.ref C,data:=.fields #[.ref h.objs.size,.none,.none,.none,.bool false,.none] },g,d,t,os⟩)(hrest:rest.length<=sizeLine) :
  gH (model prog w) A (.builtin "ValueError.__new__" ⟨.ref C::rest,[]⟩) R ⟨h,g,d,t,os⟩:=by
 have F:=fQ
 have hends:=F.ends
 have hcB:(aV C::bm).contains (.type "ValueError")=true:=by rw[cD,Cg T (show valTail.contains (.type "ValueError")=true by decide +kernel),f_]
 have hcA:(aV C::bm).contains (.type "AttributeError")=false:=by rw[cD,Cg T (show valTail.contains (.type "AttributeError")=false by decide +kernel)];rfl
 have hcN:(aV C::bm).contains (.type "NameError")=false:=by rw[cD,Cg T (show valTail.contains (.type "NameError")=false by decide +kernel)];rfl
 refine codeAny_builtinAt F.entry ?_
 unfold aI.«BaseException.__new__»
 refine wpAt_bind ?_
 show wpAt _ _ _ (stack >>= _) _ _ _
 refine wpAt_bind (wpAt_stack λp below=>wpAt_of_wpAny ?_)
 wp_walk
 refine wpAt_of_wpAny ?_
 rw[F.owner]
 repeat (first|with_reducible refine wpAny_madeHere_exc F.canon hC ?_|with_reducible refine cK hC ?_|(with_reducible refine dB hC ?_;first|rw[hcB] | rw[hcA] | rw[hcN])|wp_step)
 show R _ _
 rw[dP]
 exact hq
end
end L2
namespace L2
open PySem PySem.Spec PySem.W Builtin Builtin.ObjectAttr
open Sem (wp)
section
variable {prog:ba} {w:bL} {A:bP} {E:Value->av->Prop} {h:Heap} {g:Array kM} {d:Drawn} {t:Nat} {os:OsState}
variable {nm q:Str} {C N f:Addr} {bs bm:List Value} {hdct:Bool} {sn:List Str} {sub:List Value} {ab:Bool} {col:Option Bool} {dd:Option Addr} {k0 k1 k2 k3 k5:Option Value}
noncomputable abbrev Em(h:Heap)(C:Addr)(rest:List Value):Heap:=(h.push { cls:=.type "tuple", data:=.seq rest.toArray }).push { cls:=.ref C,data:=.fields #[.ref h.objs.size,.none,.none,.none,.bool false,.none] }
theorem Hu(T:A8 bm=true){rest:List Value}{Q:Fin->av->Prop}(hC:h.get? C=some (g6 nm q C N bs bm hdct sn sub ab col dd k0 k1 k2 k3 k5 "ValueError.__new__"))(hi:Looks (model prog w) h (jf (.ref C) "__init__") (some (.ref f)))(hb:∀self,Looks (model prog w) h (kJ (.ref f) self) (.ref f,[self]))(hq:aK (model prog w) A (call (.ref f) (.ref (h.objs.size+1)::rest)) (λv s'=>v=.none/\Q (.done (.ret (.ref (h.objs.size+1)))) s') E ⟨Em h C rest,g,d,t,os⟩)(hrest:rest.length<=sizeLine) :
  aK (model prog w) A (aI.«type.__call__» ⟨.ref C::rest,[]⟩) Q E ⟨h,g,d,t,os⟩:=by
 have F:=fQ
 repeat (first|with_reducible refine cK hC ?_|with_reducible refine wpAny_madeBy_exc hC ?_|wp_step)
 refine codeAny_call_builtin_code (gu _ F.quiet) (Ht T hC ?_)
 refine G3 T hC ?_ hrest
 show aK _ _ _ _ _ _
 have kp:∀b o,h.get? b=some o->(Em h C rest).get? b=some o:=λb o e=>ah _ (ah _ e)
 have hC₁:=kp _ _ hC
 have hget:(Em h C rest).get? (h.objs.size+1)=some { cls:=.ref C,data:=.fields #[.ref h.objs.size,.none,.none,.none,.bool false,.none] }:=by heap_get
 have hcC:(aV C::bm).contains (.ref C)=true:=by simp
 unfold j5
 repeat (first|with_reducible refine cK hget ?_|(with_reducible refine dB hC₁ ?_;rw[hcC])|wp_step)
 show aK _ _ (jf (.ref C) _) _ _ _
 refine (hi.keeps kp).at ?_
 refine bj (af (((hb _).keeps kp).at ?_))
 refine af (bW hq (λv s' z=>?_) λ_ _ z=>z)
 obtain⟨rfl,z⟩:=z
 exact ai (ai z)
theorem ag3(T:A8 bm=true){rest:List Value}{R:mL->av->Prop}(hC:h.get? C=some (g6 nm q C N bs bm hdct sn sub ab col dd k0 k1 k2 k3 k5 "ValueError.__new__"))(hi:Looks (model prog w) h (jf (.ref C) "__init__") (some (.ref f)))(hb:∀self,Looks (model prog w) h (kJ (.ref f) self) (.ref f,[self]))(hq:gH (model prog w) (A.under (.builtin "type.__call__" ⟨.ref C::rest,[]⟩)) (.call (.ref f) ⟨.ref (h.objs.size+1)::rest,[]⟩) (InitBack (h.objs.size+1) R) ⟨Em h C rest,g,d,t,os⟩)(hrest:rest.length<=sizeLine) :
  gH (model prog w) A (.call (.ref C) ⟨rest,[]⟩) R ⟨h,g,d,t,os⟩:=by
 have f1:=tc_lookup
 have f2:=tc_bind (.ref C)
 have hT:(⟨h,g,d,t,os⟩:av).TypeIs (.ref C) "type" := ⟨_,hC,rfl⟩
 refine codeAny_of_tree ?_
 show aK _ _ (callAny (.ref C) _) _ _ _
 repeat (any_goals (first|assumption|with_reducible refine cK hC ?_|wp_step))
 refine⟨rfl,?_⟩
 refine codeAny_call_builtin_at (gu _ (by decide +kernel)) entry_typeCall (wpAny_check_type_call_sub hC (Hu T hC hi hb (gn (eJ hq λr s' z=>?_)) hrest))
 rcases r with e|(v|_|_|_) <;> first|exact z|exact z.elim
end
end L2
namespace L2
open PySem PySem.Spec PySem.W PyProof.Rows
theorem ECls.cls {K:ac}{C:Addr}(c:ECls K C):∃cd,l6 K C=some cd/\A8 cd.mro=true/\cd.hasDict=true:=by
 obtain⟨nm,q,N,bs,bm,hdct,sn,sub,ab,col,dd,k0,k1,k2,k3,k5,hl,ht,hd⟩:=c.obj
 refine⟨_,by unfold l6;rw[hl],?_,hd⟩
 obtain⟨rs,e⟩:=Di ht
 show A8 (aV C::bm)=true
 rw[e]
 clear e
 show A8 (jn aV (C::rs)++valTail)=true
 have:∀l:List Addr,A8 (jn aV l++valTail)=true:=λl=>by
  induction l with
  |nil=>decide +kernel
  |cons a r ih=>cases r <;> exact ih
 exact this _
theorem ECls.sub {K:ac}{C:Addr}(c:ECls K C){T:String}(h:valTail.contains (.type T)=true):mroIn K C (.type T)=some true:=by
 obtain⟨cd,h1,h2,_⟩:=c.cls
 obtain⟨rs,e⟩:=Di h2
 unfold mroIn
 rw[h1,fb,e,Tf rs h,if_neg]
 cases rs <;> exact au
section
variable {prog:ba} {w:bL} {A:bP} {E:Value->av->Prop} {s:av} {K:ac} {x C:Addr} {ox:Obj} {od:Option Obj} {name:Str}
theorem ae9(X:K.In s.heap)(I:fV s.heap x ox C od)(hga:bg K (.ref C) "__getattribute__"=some (some (.builtin "BaseException.__getattribute__")))(hgt:bg K (.ref C) "__getattr__"=some none)(hB:gG K C (.type "BaseException")=some true)(hf:PySem.W.findObj K C od name=some (.bind g a))(hh:ic v=true)(h:∀ {A':bP} {R:mL->av->Prop},R (.ok (.ret v)) { s with toks:=s.toks+1 }->gH (model prog w) A' (.call g ⟨[a,.ref x,.ref C],[]⟩) R { s with toks:=s.toks+1 })(hq:Q (some v) { s with toks:=s.toks+1 }) :
  aK (model prog w) A (getAttr? (.ref x) name) Q E s:=by
 obtain⟨hp,gg,d,t,os⟩:=s
 have L0:=I.type (M:=model prog w)
 have L1:=dX (M:=model prog w) X hga
 have L2:=dX (M:=model prog w) X hgt
 have L3:=kX (M:=model prog w) X I hf
 have L4:=kH (M:=model prog w) X hB
 unfold getAttr? getAttrBy? getAttrBy
 refine af (wpAny_mkText (af (fN (bj (af (L0.at (af (L1.at ?_))))))))
 have hx2:(cY "BaseException.__getattribute__" == cY "object.__getattribute__")=false:=by decide +kernel
 have hx1:(ma (aV C)&&cY "BaseException.__getattribute__" == cY "object.__getattribute__")=false:=by rw[hx2];rfl
 dsimp only
 rw[hx1,if_neg au]
 unfold getAttrByItsOwn
 refine af (show aK _ _ (jf (.ref C) "__getattr__") _ _ _ from L2.at ?_)
 refine af (fN (bj ?_))
 have hx0:(false&&ma (cY "BaseException.__getattribute__"))=false:=rfl
 unfold callGetattribute
 rw[hx0,if_neg au]
 unfold boundAndCalled
 rw[Ri]
 refine af (ai ?_)
 refine gn (fT (by decide +kernel) F.entry_bexc_ga (check_slot (i := "BaseException.__getattribute__") (owner := "BaseException") (n := "__getattribute__") (by decide +kernel) (by decide +kernel) (L0.andThen L4) (F.args_bexc_ga _ _) ?_))
 unfold aI.«object.__getattribute__»
 refine af (ai (af (ai (af (L0.at (af (L3.at ?_)))))))
 refine af (bj (gn (h ?_)))
 refine ai ?_
 show aK _ _ (handedOut v) _ _ _
 rw[j9 hh]
 exact ai (ai hq)
theorem Mr(hc:(l6 K C).isSome=true)(ha:findIn K (.ref C) name=some (some a))(hg:specialIn K a "__get__"=some (some g))(ht:takesIn K a=some true):findObj K C od name=some (.bind g a):=by
 obtain⟨cd,hc⟩:=Option.isSome_iff_exists.mp hc
 unfold findObj
 rw[hc,fb,ha,fb]
 simp[hg,ht]
theorem Yd {Q:Option Value->av->Prop}(c:ECls K C)(X:K.In s.heap)(I:InstAt s.heap x ox C od)(h:Q (some (.ref C)) { s with toks:=s.toks+1 }):aK (model prog w) A (getAttr? (.ref x) "__class__") Q E s:=by
 have hf:findObj K C od "__class__"=some (.bind (.builtin "getset_descriptor.__get__") (.builtin "object.__class__")):=Mr (by obtain⟨cd,hc,_⟩:=c.cls;rw[hc];rfl) c.ca c.hn c.htk
 exact ae9 (v:=.ref C) X I c.ga c.gt (c.sub (by decide +kernel)) hf rfl (λq=>class_get (s:={ s with toks:=s.toks+1 }) (ox:=ox) (od:=od) X I (c.sub (by decide +kernel)) q) h
end
theorem af9 {K:ac}{x D:Addr}(c:ECls K D):KitX K (.ref x) (.ref D) (λh=>∃ox od,InstAt h x ox D od) where
 ty:=λ_ _ _ ⟨_,_,I⟩=>I.type
 it:=λ_ _ X _=>by
  obtain⟨cdD,hcD,_⟩:=c.cls
  unfold l6 at hcD
  split at hcD
  .rename_i c' d' cd' sl' ho
   intro A' Q' E' s' k q
   unfold isType loadHead
   exact af (iY (k _ _ (X _ _ ho)) (ai q))
  .cases hcD
 ne:=λh tp dd χ n sl X htp=>by
  obtain⟨cdD,hcD,_⟩:=c.cls
  refine Bool.eq_false_iff.mpr λq=>?_
  have e:D=tp:=Value.ref.inj (beq_iff_eq.mp q)
  subst e
  unfold l6 at hcD
  split at hcD
  .rename_i c' d' cd' sl' ho
   have z:=(X _ _ ho).symm.trans htp
   cases z
  .cases hcD
 ca:=λX ⟨_,_,I⟩ k=>Yd c X I k
noncomputable def ExcAt(H:Hp)(a C:Addr)(fs:List (Str×V)):Prop:=(fs=[]/\(H a=some (G7 a C none)\/FlO H a C none)) \/ ∃dx,dx≠a/\(H a=some (G7 a C (some dx))\/FlO H a C (some dx))/\H dx=some (xdO dx fs)
inductive TyX (K:ac) (H:Hp) (x:V) (t:Value):Prop where
 |of (h:TyOf K H x t)
 |exc {a C:Addr} {fs:List (Str×V)} (ex:x=.ref a) (e:ExcAt H a C fs) (c:ECls K C) (et:t=.ref C)
 |sqT {a:Addr} {xs:List V} (ex:x=.ref a) (e:SqT K H a xs) (et:t=.type "tuple")
 |sqL {a:Addr} {xs:List V} (ex:x=.ref a) (e:SqL K H a xs) (et:t=.type "list")
section
theorem Pj(I:Inv X ξ U H s)(e:H a=some (G7 a C dx)):∃vs:Array Value,s.heap.get? a=some (As C dx vs)/\vs.size=6/\vs[1]?=some .none/\vs[2]?=some .none:=(I.hok a _ e).1
theorem a33(I:Inv X ξ U H s)(e:H a=some (flO a C dx)):∃vs:Array Value,s.heap.get? a=some (As C dx vs)/\vs.size=6/\vs[2]?=some .none:=(I.hok a _ e).1
theorem ae4(I:Inv X ξ U H s)(e:H a=some (G7 a C dx)\/FlO H a C dx):∃vs:Array Value,s.heap.get? a=some (As C dx vs)/\vs.size=6:=by
 rcases e with e|e|e
 .obtain⟨vs,h1,h2,_⟩:=Pj I e;exact⟨vs,h1,h2⟩
 .obtain⟨vs,h1,h2,_⟩:=a33 I e;exact⟨vs,h1,h2⟩
 .exact (I.hok a _ e).1
theorem a55(I:Inv X ξ U H s)(e:H dx=some (xdO dx fs)):fs.length<=1000/\∃mA,s.heap.Ns1 dx mA/\(∀f,RelO (fs.lookup f) (mA f))/\eI mA (fs.map (·.1)):=(I.hok dx _ e).1
theorem ExcAt.inst(I:Inv X ξ U H s)(e:ExcAt H a C fs):∃vs dx od,InstAt s.heap a (As C dx vs) C od/\(∀o,od=some o -> ∀name,∃v,lookIn name o=some v/\RelO (fs.lookup name) v)/\(od=none->fs=[]):=by
 rcases e with ⟨rfl,e⟩|⟨dx,ne,e,ed⟩
 .obtain⟨vs,h1,_⟩:=ae4 I e
  exact⟨vs,none,none,⟨h1,rfl,rfl,aQ⟩,λo z=>(nomatch z),λ_=>rfl⟩
 .obtain⟨vs,h1,_⟩:=ae4 I e
  obtain⟨_,mA,hn,hr,_⟩:=a55 I ed
  obtain⟨od,ho,hl⟩:=Ie hn
  refine⟨vs,some dx,some od,⟨h1,rfl,rfl,ho⟩,λo z name=>?_,λz=>nomatch z⟩
  cases z
  exact⟨_,hl name,hr name⟩
theorem Lf(I:Inv X ξ U H s)(rx:RelV x u)(ty:TyX X.K H x t)(e:dR X.K t c=some b)(h:∀tk,Q (.bool b) { s with toks:=tk }) :
  aK (model X.prog X.w) A (call (.builtin "isinstance") [u,c]) Q E s:=by
 cases ty with
 |of ty=>exact N3 I rx ty e h
 |@exc a C fs ex ea cl et=>
  subst ex et
  cases (show u=aV a from rx)
  obtain⟨vs,dx,od,J,_⟩:=ea.inst I
  exact b7 (af9 cl) I.kIn ⟨_,_,J⟩ e (λz=>nomatch z) h
 |@sqT a xs ex q et=>
  subst ex et
  cases (show u=aV a from rx)
  obtain⟨_,_,⟨o,h1,h2,_⟩,_⟩:=I.tuple q
  exact b7 kW I.kIn ⟨o,h1,h2⟩ e (λz=>nomatch z) h
 |@sqL a xs ex q et=>
  subst ex et
  cases (show u=aV a from rx)
  obtain⟨_,_,⟨o,_,h1,h2,_⟩,_⟩:=I.list q
  exact b7 i8 I.kIn ⟨o,h1,h2⟩ e (λz=>nomatch z) h
theorem Yf {b:Bool}{f:Str}{v:V}{Q:Value->av->Prop}(I:Inv X ξ U H s)(e:ExcAt H a C fs)(c:ECls X.K C)(n:NoAttr X.K C f)(l:fs.lookup f=some v)(h:∀u s',Inv X ξ U H s'->RelV v u->Q u s'):aK (model X.prog X.w) A (lq (.ref a) f b) Q E s:=by
 obtain⟨vs,dx,od,J,hl,hn⟩:=e.inst I
 obtain⟨cd,hc,_,hd⟩:=c.cls
 cases od with
 |none=>rw[hn rfl] at l;cases l
 |some o=>
  obtain⟨u?,h1,h2⟩:=hl o rfl f
  rw[l] at h2
  obtain⟨u,hu,ru⟩:=RelO.some_of h2
  subst hu
  refine av3 I.kIn J c.ga c.gt (c.sub (by decide +kernel)) (kG (by unfold hasDictIn;rw[hc];exact hd) n rfl h1) (Nz ru) (h u _ (I.tok _) ru)
noncomputable def bo1(H:Hp)(a C:Addr)(f:Str)(y:V)(N:Hp->Prop):Prop:=
 (H a=some (G7 a C none)/\∀dx,H dx=none->dx≠a->N (upd (upd H dx (xdO dx [(f,y)])) a (G7 a C (some dx)))) \/
 ∃dx fs,dx≠a/\H a=some (G7 a C (some dx))/\H dx=some (xdO dx fs)/\fs.length<1000/\N (upd H dx (xdO dx (Dv f y fs)))
theorem Wy(h1:h.get? a=some (As C dx vs))(h2:vs.size=6)(h3:vs[1]?=some .none)(h4:vs[2]?=some .none):ObjOk P w H h a (G7 a C dx):=
 ⟨⟨vs,h1,h2,h3,h4⟩,⟨_,h1⟩,λ_ _ ⟨vs',q1,q2⟩ k=>⟨vs',k _ q1,q2⟩⟩
theorem ae5(h1:h.get? a=some (As C dx vs))(h2:vs.size=6)(h4:vs[2]?=some .none):ObjOk P w H h a (flO a C dx):=
 ⟨⟨vs,h1,h2,h4⟩,⟨_,h1⟩,λ_ _ ⟨vs',q1,q2⟩ k=>⟨vs',k _ q1,q2⟩⟩
theorem a91(h1:h.get? a=some (As C dx vs))(h2:vs.size=6):ObjOk P w H h a (fcO a C dx):=
 ⟨⟨vs,h1,h2⟩,⟨_,h1⟩,λ_ _ ⟨vs',q1,q2⟩ k=>⟨vs',k _ q1,q2⟩⟩
theorem ar7(z:fs.length<=1000)(h1:h.Ns1 dx mA)(h2:∀f,RelO (fs.lookup f) (mA f))(h3:eI mA (fs.map (·.1))):ObjOk P w H h dx (xdO dx fs):=
 ⟨⟨z,mA,h1,h2,h3⟩,(let ⟨o,_,_,e,_⟩:=h1;⟨o,e⟩),λ_ _ ⟨z',mB,q1,q2,q3⟩ k=>⟨z',mB,q1.at k,q2,q3⟩⟩
theorem Zh(I:Inv X ξ U H s)(c:ECls X.K C)(n:NoAttr X.K C f)(ry:RelV y u)(h0:bo1 H a C f y N)(h:∀H' s',Inv X ξ U H' s'->N H'->Q () s'):aK (model X.prog X.w) A (mj (.ref a) f u) Q E s:=by
 obtain⟨cd,hc,hp,hd⟩:=c.cls
 rcases h0 with ⟨e,hN⟩|⟨dx,fs,ne,e,ed,hz,hN⟩
 .obtain⟨vs,h1,h2,h3,h4⟩:=Pj I e
  refine am9 I.kIn h1 c.sa hc hp hd n λh' q1 q2 q3=>?_
  have fr:H s.heap.objs.size=none:=I.hok.fresh (ag _)
  have ane:s.heap.objs.size≠a:=λz=>by rw[z,e] at fr;cases fr
  refine h _ _ ?_ (hN _ fr ane)
  obtain⟨o,es,ep,eo,hrest⟩:=id q2
  have eo1:(s.heap.push o).get? s.heap.objs.size=some o:=aB s.heap (Heap.get?_some_iff.mp eo).2
  have I1:=I.laid (a:=s.heap.objs.size) (o:=xdO s.heap.objs.size [(f,y)]) (h':=s.heap.push o) (t':=s.toks+2) (λb u e=>ah _ e) (ag _)
   (ar7 (by simp) (q2.at λo' e'=>by rw[eo] at e';cases e';exact eo1) (λg=>by
    show RelO (eV g [(f,y)]) (if g=f then some u else none)
    by_cases q:g=f
    .rw[if_pos q,q];simp only[eV,beq_self_eq_true];exact ry
    .rw[if_neg q];simp only[eV,beq_eq_false_iff_ne.mpr q];exact aQ) (λg hg=>by
    by_cases q:g=f
    .rw[q];simp
    .exact absurd (by show (if g=f then some u else none)=none;rw[if_neg q]) hg))
  exact I1.write (x:=a) (e:=a) (t':=s.toks+2) (by rw[Ad (cA ane),e];exact aQ) (.inl rfl) (λb u hb eb=>by
   by_cases hs:b=s.heap.objs.size
   .rw[hs] at eb ⊢
    rw[eo1] at eb
    cases eb
    exact eo
   .refine q3 b u hb ?_
    rcases Heap.get?_push_cases eb with z|z
    .exact absurd z.1 hs
    .exact z) ⟨_,q1⟩ (Wy q1 h2 h3 h4)
 .obtain⟨vs,h1,h2,h3⟩:=Pj I e
  obtain⟨z,mA,hn,hr,wi⟩:=a55 I ed
  refine a09 (ns:=fs.map (·.1)) I.kIn h1 hn ne c.sa hc hp hd n wi (by rw[ae,bG];omega) λh' q1 q2 q3=>?_
  refine h _ _ ?_ hN
  refine I.write (x:=dx) (e:=dx) (by rw[ed];exact aQ) (.inl rfl) (λb q hb z=>(q3.2 b hb).trans z) (let ⟨o,_,_,e',_⟩:=q2;⟨o,e'⟩) ?_
  refine ar7 ?_ q2 (λg=>?_) (λg hg=>?_)
  .have:=Ff f y fs;omega
  .show RelO ((Dv f y fs).lookup g) (if g=f then some u else mA g)
   rw[Fg]
   by_cases q:g=f
   .rw[if_pos q,if_pos q];exact ry
   .rw[if_neg q,if_neg q];exact hr g
  .by_cases q:g=f
   .rw[q];exact (Ea f y fs).1
   .refine (Ea f y fs).2 g (wi g λz=>hg ?_)
    show (if g=f then some u else mA g)=none
    rw[if_neg q];exact z
theorem Inv.madeX(I:Inv X ξ U H s)(C:Addr)(rest:List Value):Inv X ξ U (upd H (s.heap.objs.size+1) (G7 (s.heap.objs.size+1) C none)) { s with heap:=Em s.heap C rest }:=by
 have hget:(Em s.heap C rest).get? (s.heap.objs.size+1)=some (As C none #[.ref s.heap.objs.size,.none,.none,.none,.bool false,.none]):=by heap_get
 exact I.laid (t':=s.toks) (λb u e=>ah _ (ah _ e)) (dm _) (Wy hget rfl rfl rfl)
theorem Zc(c:ECls X.K C)(hi:findIn X.K (.ref C) "__init__"=some (some (.ref f)))(hf:isFn X.K (.ref f)=true)(F:FnOk X.prog X.w X.K X.mg X.base CX k f fd ps sp)(hr:Room (k+1) X.A)(hb:Binds X.K fd ps ds)(hd:Vals dvs ds)(I:Inv X ξ U H s)(r:Vals vs us)(hl:vs.length<=1000)(hx:∀e s1 s' H1,Inv X ξ U H1 s1->CX X.stack H1 s1 EX e s'->X.xe e s')(h:∀a,H a=none->sp (.ref a::(vs++dvs)) (upd H a (G7 a C none)) (λv H2=>v=.non/\Q (.ref a) H2) EX) :
  aK (model X.prog X.w) X.A (call (.ref C) us) (EP X ξ U Q) X.xe s:=by
 obtain⟨nm,q,N,bs,bm,hdct,sn,sub,ab,col,dd,k0,k1,k2,k3,k5,hC,ht,_⟩:=c.obj
 have hq:=h (s.heap.objs.size+1) (I.hok.fresh (dm _))
 have I2:=I.madeX C us
 have r2:Vals (V.ref (s.heap.objs.size+1)::(vs++dvs)) (aV (s.heap.objs.size+1)::(us++ds)):=.cons rfl (r.append hd)
 have hlen:(aV (s.heap.objs.size+1)::us++ds).length=ps.length:=by
  have e:=r2.length
  rw[F.len _ _ _ _ hq] at e
  exact e.symm
 refine gn (ag3 (f:=f) ht (I.kIn _ _ hC) (looks_findIn I.kIn hi) (λself=>PySem.W.bind_fn I.kIn self (beq_iff_eq.mp hf)) (eJ (F.run _ X.stack { s with heap:=Em s.heap C us } _ ⟨aV (s.heap.objs.size+1)::us,[]⟩ (aV (s.heap.objs.size+1)::(us++ds)) _ _ EX (hr.make C us [])
  (I2.env0.make C us []) (hb _ (aV (s.heap.objs.size+1)::us) I2.kIn hlen) r2 hq) λr s' hq'=>?_) (by rw[<- r.length,bG];omega))
 cases r with
 |error e=>exact hx e _ s' _ I2 hq'
 |ok fl=>
  cases fl with
  |ret u=>
   obtain⟨v,H',I3,rv,ev,q3⟩:=I2.after hq'
   subst ev
   exact⟨rv,⟨V.ref (s.heap.objs.size+1),H',I3,rfl,q3⟩⟩
  |next=>exact cb hq'
  |brk=>exact cb hq'
  |cont=>exact cb hq'
end
end L2
namespace L2
open PySem PySem.Spec PyProof.Rows
noncomputable def Ite(K:ac)(l:Addr):It:=
  ⟨λi H=>∃xs x,SqL K H l xs/\xs[i]?=some x,
   λi H v H'=>∃T x,H T=none/\v=.ref T/\(∀xs,SqL K H l xs->xs[i]?=some x)/\H'=upd H T (.tup [.int i,x]),
   λi H=>∃xs,SqL K H l xs/\xs.length<=i⟩
theorem Zn {P:ba}{w:bL}{K:ac}{elts:List Expr}{kt:Nat}{pt:Pos}{e it l:Addr}(ne:e≠it) :
  Mn P w K (.Tuple elts kt pt) (Ite K l) [e,it] e (λi h=>(∃old,IsEnum h e it (i:Int) old)/\h.IsListIter it l i) where
 mem:=by simp
 obj:=λi h st b hb=>by
  obtain⟨⟨old,he⟩,⟨o1,e1,c1,d1⟩⟩:=st
  have hb:b=e\/b=it:=by simpa using hb
  rcases hb with rfl|rfl
  .exact⟨_,he,λv q=>nomatch q⟩
  .exact⟨o1,e1,λv q=>by rw[d1] at q;cases q⟩
 keep:=λi h h' st k=>by
  obtain⟨⟨old,he⟩,h1⟩:=st
  exact⟨⟨old,k e (by simp) _ he⟩,h1.at λo q=>k it (by simp) o q⟩
 item:=by
  intro X hP hw hK hc i ξ s U H E I hf st hg
  subst hP hw hK
  obtain⟨xs,x,q1,hx⟩:=hg
  obtain⟨its1,r1,p1,z1⟩:=I.list q1
  obtain⟨u,hu,ru⟩:=r1.get hx
  obtain⟨⟨old,he⟩,h1⟩:=st
  refine wpAny_pyNext_enum_item he h1 p1.isList (x:=u) (by simpa using hu) ne λh' a1 a2 a3 a4 hk=>?_
  refine⟨_,rfl,iM a1 λh'' hz' hs'=>?_⟩
  have hT:=I.hok.fresh (ag s.heap.objs.size)
  have up':∀b o,b∉[e,it]->s.heap.get? b=some o->h''.get? b=some o:=λb o hb q=>by
   have b1:b≠e:=by rintro rfl;exact hb (by simp)
   have b2:b≠it:=by rintro rfl;exact hb (by simp)
   exact hs'.extBut b o b1 (hk b o b1 b2 q)
  have nT:∀ {b o},s.heap.get? b=some o->b≠s.heap.objs.size:=λq=>aT (aF q)
  have Tnew:h''.get? s.heap.objs.size=some { cls:=.type "tuple", data:=.seq #[.int i s.toks,u] }:=hs'.extBut _ _ (cA (nT he)) a3
  have I1:Inv X ξ U (upd H s.heap.objs.size (.tup [.int i,x])) { s with heap:=h'',toks:=s.toks+1 }:=
   I.turnedN (t':=s.toks+1) (ch:=[e,it]) (λb hb=>hf b hb) up' (ag _) ⟨by show 2<=sizeLine;decide,[.int i s.toks,u],.cons ⟨_,rfl⟩ (.cons ru .nil),⟨_,Tnew,rfl,_,rfl⟩⟩
  refine⟨.ref s.heap.objs.size,_,I1,rfl,⟨s.heap.objs.size,x,hT,rfl,λxs' h'=>by rw[I.list_inj h' q1];exact hx,rfl⟩,⟨⟨_,hz'⟩,a2.at λo q=>hs'.extBut _ o (cA ne) q⟩,λb hb=>?_⟩
  have q:=(hf b hb).1
  rw[Ad ?_]
  .exact q
  .have hb:b=e\/b=it:=by simpa using hb
   rcases hb with rfl|rfl
   .exact nT he
   .obtain⟨_,q,_⟩:=h1;exact nT q
 done:=by
  intro X hP hw hK hc i ξ s U H E I hf st hg
  subst hP hw hK
  obtain⟨xs,q1,hx⟩:=hg
  obtain⟨its1,r1,p1,z1⟩:=I.list q1
  have e1:=r1.length
  obtain⟨⟨old,he⟩,h1⟩:=st
  refine wpAny_pyNext_enum_end (I.ok.hd hc) he h1 p1.isList (by simp;omega) λh' hk=>⟨rfl,?_⟩
  refine I.turnedL (t':=s.toks) (ch:=[e,it]) (λb hb=>hf b hb) λb o hb q=>?_
  have b2:b≠it:=by rintro rfl;exact hb (by simp)
  exact hk b o b2 q
 self:=λA i s Q E st h=>let ⟨_,he⟩:=st.1;g7 he h
section
noncomputable def X1(o:Obj)(ep:Nat):Prop:=∃es,o.data=.dict es ep
theorem Inv.froze(I:Inv X ξ U H s)(h:H p=some (.dK kvs)):∃ob ep,s.heap.get? p=some ob/\X1 ob ep/\Inv X ξ U (upd H p (.frz ob (.dK kvs))) s:=by
 have K:=I.hok p _ h
 obtain⟨z,y,vs,r,ob,es,ep,e,c,d,q⟩:=id K
 refine⟨ob,ep,e,⟨es,d⟩,?_⟩
 exact I.write (x:=p) (e:=p) (t':=s.toks) (h':=s.heap) (by rw[h];trivial) (.inl rfl) (λb u _ q=>q) ⟨ob,e⟩ ⟨e,K⟩
theorem Inv.thaw(I0:Inv X ξ U0 H0 s0)(h0:H0 p=some (.dK kvs))(I:Inv X ξ U H s)(h:H p=some (.frz o (.dK kvs))):Inv X ξ U (upd H p (.dK kvs)) s:=by
 have ne:∀b,H b=none->b≠p:=λb e z=>by rw[z,h] at e;cases e
 have ntup:∀b xs,H b=some (.tup xs)->b≠p:=λb xs e z=>by rw[z,h] at e;cases e
 have nown:∀b c,H b=some (.own c)->b≠p:=λb c e z=>by rw[z,h] at e;cases e
 refine⟨I.ok,I.os,I.bare,⟨I.base.keep,I.base.slot,λb ob e n hx=>?_,I.base.there,λb xs e=>?_,λb ob u e=>?_,λb ps e=>?_⟩,I.loc,I.cell,?_,λx c e=>?_,λq hq=>?_,λb u e=>?_,I.len⟩
 .have q:=I.base.free b ob e n hx
  rw[Ad (ne b q)];exact q
 .have q:=I.base.tups b xs e
  rw[Ad (ntup b xs q)];exact q
 .have q:=I.base.frzs b ob u e
  have n:b≠p:=λz=>by
   have q0:=I0.base.frzs b ob u e
   rw[z,h0] at q0;cases q0
  rw[Ad n];exact q
 .obtain⟨more,q⟩:=I.base.tbls b ps e
  have n:b≠p:=λz=>by rw[z,h] at q;cases q
  exact⟨more,by rw[Ad n];exact q⟩
 .rw[Ad (ne _ I.free)];exact I.free
 .have q:=I.freeC x c e
  rw[Ad (ne _ q)];exact q
 .obtain⟨a,b,c⟩:=I.pin q hq
  exact⟨a,by rw[Ad (ne _ b)];exact b,c⟩
 .by_cases z:b=p
  .subst z
   rw[Ab] at e
   cases e
   exact (I.hok b _ h).2
  .rw[Ad z] at e
   exact (I.hok b u e).stay (λ_ _ _ q=>q) (λc q=>by rw[Ad (nown c b q)];exact q) λc xs q=>by rw[Ad (ntup c xs q)];exact q
theorem Thaw.inv(I0:Inv X ξ U0 H0 s0)(I:Inv X ξ U H s)(t:Thaw H0 H P):∃H',Inv X ξ U H' s/\P H':=by
 rcases t with t|⟨p,o,kvs,h0,h,t⟩
 .exact⟨H,I,t⟩
 .exact⟨_,I0.thaw h0 I h,t⟩
theorem Inv.kdict(I:Inv X ξ U H s)(h:H p=some (.frz o (.dK kvs)))(he:X1 o ep):∃vs,KV kvs vs/\s.heap.DictAt (Bg X.prog X.w) p vs ep/\(p==dv)=false:=by
 obtain⟨e1,z,y,vs,r,ob,es,ep',e,c,d,q⟩:=I.hok p _ h
 obtain⟨es',d'⟩:=he
 rw[e1] at e
 cases e
 have d2:=d
 rw[d'] at d2
 cases d2
 exact⟨vs,r,⟨o,_,e1,c,d,q⟩,y⟩
end
noncomputable def Itd(p:Addr)(o:Obj)(kvs:List (Key×V)):It:=
 ⟨λi H=>H p=some (.frz o (.dK kvs))/\i<kvs.length,λi H x H'=>H'=H/\∃k v,kvs[i]?=some (k,v)/\x=kV k,λi H=>H p=some (.frz o (.dK kvs))/\kvs.length<=i⟩
theorem ag0:∀ {kvs:List (Key×V)} {vs:List (Key×Value)} {i:Nat} {k:Key} {v:V},KV kvs vs->kvs[i]?=some (k,v) -> ∃u,vs[i]?=some (k,u)/\RelV v u
 | _,_,0,k,v,.cons (b:=q) r _,e=>by
  simp only[eQ,gX] at e
  subst e
  exact⟨q.2,congrArg some (Prod.ext r.1.symm rfl),r.2⟩
 | _,_,i+1,k,v,.cons r t,e=>by
  simp only[bI] at e ⊢
  exact ag0 t e
theorem a40(h:(Bg P w).is k u=true):RelV (kV k) u:=by
 cases k with
 |inl i=>obtain⟨t,rfl⟩:=Value.isInt_shape (show lY i u=true from h);exact⟨t,rfl⟩
 |inr z=>obtain⟨t,rfl⟩:=kI (show ip z u=true from h);exact⟨t,rfl⟩
theorem Zm {P:ba}{w:bL}{K:ac}{tg:Expr}(p it:Addr)(o:Obj)(kvs:List (Key×V)){ep:Nat}(he:X1 o ep):Mn P w K tg (Itd p o kvs) [it] it (λi h=>h.IsKeyIter it p i kvs.length ep) where
 mem:=by simp
 obj:=λi h st b hb=>by
  have e:b=it:=by simpa using hb
  subst e
  obtain⟨o,e,c,d⟩:=st
  exact⟨o,e,λv z=>by rw[d] at z;cases z⟩
 keep:=λi h h' st k=>st.at λo e=>k it (by simp) o e
 item:=by
  intro X hP hw hK hc i ξ s U H E I hf st hg
  subst hP hw hK
  obtain⟨hH,hi⟩:=hg
  obtain⟨vs,rel,hd,hm⟩:=I.kdict hH he
  obtain⟨f0,f1,f2,f3,f4,f5⟩:=hf it (by simp)
  obtain⟨⟨k,v⟩,hx⟩:∃q,kvs[i]?=some q:=⟨kvs[i],by simp[hi]⟩
  obtain⟨u,hu,_⟩:=ag0 rel hx
  have hl:kvs.length=vs.length:=rel.length
  rw[hl] at st
  refine jJ st hd hu λkey h' hk st' sb=>?_
  have I1:Inv X ξ U H { s with heap:=h' }:=I.turned (t':=s.toks) (λb o hb e=>sb.extBut b o hb e) f0 f1 f3 f4 f5
  obtain⟨o1,e,c,d⟩:=id st'
  exact⟨key,rfl,La (s:={ s with heap:=h' }) e c d (by decide) ⟨kV k,H,I1,a40 hk,⟨rfl,k,v,hx,rfl⟩,by rw[hl];exact st',λb hb=>(hf b hb).1⟩⟩
 done:=by
  intro X hP hw hK hc i ξ s U H E I hf st hg
  subst hP hw hK
  obtain⟨hH,hi⟩:=hg
  obtain⟨vs,rel,hd,hm⟩:=I.kdict hH he
  obtain⟨f0,f1,f2,f3,f4,f5⟩:=hf it (by simp)
  have hl:kvs.length=vs.length:=rel.length
  rw[hl] at st
  exact wpAny_pyNext_dict_end (I.ok.hd hc) st hd (by simp;omega) λh' eb=>⟨rfl,I.turned (t':=s.toks) (λb o hb e=>eb b o hb e) f0 f1 f3 f4 f5⟩
 self:=λ_ _ _ _ _ st h=>kc st h
theorem au6 {X:Cx}{tg:Expr}{ξ:List (Addr×Obj)}{U:St}{H:Hp}{s:av}{R:It->Hp->Prop}{E:Value->av->Prop}{p:Addr}{o:Obj}{kvs:List (Key×V)}(I:Inv X ξ U H s)(h:H p=some (.frz o (.dK kvs)))(q:R (Itd p o kvs) H):aK (model X.prog X.w) X.A (mf (.ref p)) (PIE X ξ U tg R) E s:=by
 have he:∃ep,X1 o ep:=by
  obtain⟨e1,z,y,vs,r,ob,es,ep,e,c,d,_⟩:=I.hok p _ h
  rw[e1] at e;cases e
  exact⟨ep,es,d⟩
 obtain⟨ep,he⟩:=he
 obtain⟨vs,rel,hd,hm⟩:=I.kdict h he
 refine fP hm hd ?_
 refine⟨s.heap.objs.size,[s.heap.objs.size],_,_,H,rfl,I.kept (t':=s.toks) λb o e=>ah _ e,Zm p _ o kvs he,⟨_,aB _ rfl,rfl,by rw[rel.length];rfl⟩,λb hb=>?_,q⟩
 have e:b=s.heap.objs.size:=by simpa using hb
 subst e
 exact I.fpOk (ag _) (I.hok.fresh (ag _))
section
theorem au9(nm:(d==dv)=false)(g:s.heap.get? d=some ob)(c:ob.ExactDict)(e:ob.data=.dict es ep)(q:Q (.ref s.heap.objs.size) { s with heap:=s.heap.push { cls:=.type "dict_keyiterator", data:=.fields #[.ref d,.int 0 0,.int es.size 0,.int ep 0] } }):aK (model prog w) A (mf (.ref d)) Q E s:=by
 have T:s.TypeIs (.ref d) "dict" := ⟨ob,g,c.1⟩
 refine wpAny_pyIter_slot T F.slot_dict_iter (bY F.slot_dict_iter T F.entry_dict_iter ?_ (F.args_dict_iter_1 _))
 unfold aI.«dict.__iter__»
 refine af ?_
 unfold Builtin.Dict.dictSlotNone
 refine af (j2 T (show aK _ _ (pure (aV d)) _ _ s from ai ?_))
 show aK _ _ (jL d >>= _) _ _ s
 unfold jL
 rw[if_neg (by rw[nm];exact au)]
 refine af (ai (af (ez g e (af (cR g e ?_)))))
 refine af (cn (ai ⟨_,rfl, "dict_keyiterator", _,⟨_,aB _ rfl,rfl⟩,F.slot_dict_keyiterator_next.lookup,?_⟩))
 simpa [eh] using q
theorem au8(t:s.heap.IsKeyIter it d i es.size ep)(g:s.heap.get? d=some ob)(e:ob.data=.dict es ep)(hi:i<es.size)(q:∀h',h'.IsKeyIter it d (i+1) es.size ep->bJ it s.heap h'->Q (some es[i].key) { s with heap:=h' }):aK (model prog w) A (jC (.ref it)) Q E s:=by
 obtain⟨o,ho,hc,hd⟩:=id t
 unfold jC
 refine af (fN (cB (name:=cV "__next__") t.typeIs bV (bY bV t.typeIs e9 ?_ (eE _))))
 refine af (ai (af (af ?_)))
 first|refine af (cg t.typeIs (ai ?_))|refine af (cL t.typeIs (ai ?_))
 refine af (iX ho hd ?_)
 simp only[show fh "dict_keyiterator"=false by decide,bM,if_false]
 show aK _ _ (if (aV d==cm)=true then _ else _) _ _ s
 rw[if_neg (show ¬ ((aV d==cm)=true) from au)]
 refine af (ai (af (ez g e ?_)))
 rw[if_neg (by simp)]
 refine af (ai (af (cR g e ?_)))
 rw[if_neg (by simp)]
 refine ai ?_
 simp only[show ¬ ((i:Int)<0) from by omega,if_false,aY,aW hi]
 refine af ?_
 first|refine af (cg t.typeIs (ai ?_))|refine af (cL t.typeIs (ai ?_))
 refine af (j0 t.typeIs ?_)
 show aK _ _ (lQ (.ref it) 1 (eh ((i:Int)+1)) >>= _) _ _ s
 refine af (fX ho hd (by simp) ?_)
 have t':(s.heap.update it (eX (·.setIfInBounds 1 (eh ((i:Int)+1))))).IsKeyIter it d (i+1) es.size ep:=
  ⟨_,b_ _ ho (hV (kQ hd _)),(Obj.cls_mapFields ..).trans hc,by rw[kQ hd];simp[eh]⟩
 refine af (bj (af (j0 (s:={ s with heap:=s.heap.update it (eX (·.setIfInBounds 1 (eh ((i:Int)+1)))) }) t'.typeIs ?_)))
 show aK _ _ (pure es[i].key) _ _ _
 exact ai (ai ⟨_,rfl,ai (q _ t' (bE ..))⟩)
theorem a89(hh:A.handled=none)(t:s.heap.IsKeyIter it d i es.size ep)(g:s.heap.get? d=some ob)(e:ob.data=.dict es ep)(hi:es.size<=i)(q:∀h',lR it s.heap h'->Q none { s with heap:=h' }):aK (model prog w) A (jC (.ref it)) Q E s:=by
 obtain⟨o,ho,hc,hd⟩:=id t
 unfold jC
 refine af (fN (cB (name:=cV "__next__") t.typeIs bV (bY bV t.typeIs e9 ?_ (eE _))))
 refine af (ai (af (af ?_)))
 first|refine af (cg t.typeIs (ai ?_))|refine af (cL t.typeIs (ai ?_))
 refine af (iX ho hd ?_)
 simp only[show fh "dict_keyiterator"=false by decide,bM,if_false]
 show aK _ _ (if (aV d==cm)=true then _ else _) _ _ s
 rw[if_neg (show ¬ ((aV d==cm)=true) from au)]
 refine af (ai (af (ez g e ?_)))
 rw[if_neg (by simp)]
 refine af (ai (af (cR g e ?_)))
 rw[if_neg (by simp)]
 refine ai ?_
 simp only[show ¬ ((i:Int)<0) from by omega,if_false,aY,jF hi]
 refine af ?_
 first|refine af (cg t.typeIs (ai ?_))|refine af (cL t.typeIs (ai ?_))
 show aK _ _ (lQ (.ref it) 0 .none >>= _) _ _ s
 refine af (fX ho hd (by simp) ?_)
 show aK _ _ (newExc (.type "StopIteration") [] >>= _) _ _ _
 refine af ?_
 simp only[newExc,newTuple]
 refine af (cn ?_ (by size_fits))
 refine af (m:=iT _ _) (wpAny_of_eq (a:=cm) (by first|rfl|(simp only[iT];rfl)) ?_)
 refine cn ?_ (by size_fits)
 simp only[raiseNew]
 refine af (wpAny_handled ?_)
 rw[show A.in1.handled=none from hh]
 refine af (ai (mk ?_))
 refine af (jD (T := "StopIteration") (b:=true) ⟨_,aB _ rfl,rfl⟩ isSubtype_stop ?_)
 exact ai (q _ (((bE ..).extBut.push _).push _))
end
section
theorem Inv.frozeT(I:Inv X ξ U H s)(h:H p=some (.dT kvs)):∃ob,Inv X ξ U (upd H p (.frz ob (.dT kvs))) s:=by
 have K:=I.hok p _ h
 obtain⟨z,y,ob,es,ep,e,c,d,q⟩:=id K
 exact⟨ob,I.write (x:=p) (e:=p) (t':=s.toks) (h':=s.heap) (by rw[h];trivial) (.inl rfl) (λb u _ q=>q) ⟨ob,e⟩ ⟨e,K.stay (λ_ _ _ q=>q) (λc q=>by rw[Ad λz=>by rw[z,h] at q;cases q];exact q) λc xs q=>by rw[Ad λz=>by rw[z,h] at q;cases q];exact q⟩⟩
theorem Inv.tdict(I:Inv X ξ U H s)(h:H p=some (.frz o (.dT kvs))):∃es ep,s.heap.get? p=some o/\o.ExactDict/\o.data=.dict es ep/\(p==dv)=false/\KT X.w H kvs es:=by
 obtain⟨e1,z,y,ob,es,ep,e,c,d,q⟩:=I.hok p _ h
 rw[e1] at e
 cases e
 exact⟨es,ep,e1,c,d,y,q⟩
end
noncomputable def at4(p:Addr)(o:Obj)(kvs:List (TK×V)):It:=
 ⟨λi H=>H p=some (.frz o (.dT kvs))/\i<kvs.length,λi H x H'=>H'=H/\∃k v,kvs[i]?=some (k,v)/\Aq k<=8/\TkAt H k x,λi H=>H p=some (.frz o (.dT kvs))/\kvs.length<=i⟩
theorem a24 {P:ba}{w:bL}{K:ac}{tg:Expr}(p it:Addr)(o:Obj)(kvs:List (TK×V)){es:Array gv}{ep:Nat}(he:o.data=.dict es ep):Mn P w K tg (at4 p o kvs) [it] it (λi h=>h.IsKeyIter it p i es.size ep) where
 mem:=by simp
 obj:=λi h st b hb=>by
  have e:b=it:=by simpa using hb
  subst e
  obtain⟨o,e,c,d⟩:=st
  exact⟨o,e,λv z=>by rw[d] at z;cases z⟩
 keep:=λi h h' st k=>st.at λo e=>k it (by simp) o e
 item:=by
  intro X hP hw hK hc i ξ s U H E I hf st hg
  subst hP hw hK
  obtain⟨hH,hi⟩:=hg
  obtain⟨es',ep',g,c,d,_,hl,_,hk⟩:=I.tdict hH
  rw[he] at d
  cases d
  obtain⟨f0,f1,f2,f3,f4,f5⟩:=hf it (by simp)
  have hi':i<es.size:=by omega
  obtain⟨k,v,u,e1,e2,e3,e4,_⟩:=hk i _ (aW hi')
  refine au8 st g he hi' λh' st' sb=>?_
  have I1:Inv X ξ U H { s with heap:=h' }:=I.turned (t':=s.toks) (λb o hb e=>sb.extBut b o hb e) f0 f1 f3 f4 f5
  obtain⟨o1,e,c,d⟩:=id st'
  exact⟨_,rfl,La (s:={ s with heap:=h' }) e c d (by decide) ⟨u,H,I1,e4,⟨rfl,k,v,e1,e2,e3⟩,st',λb hb=>(hf b hb).1⟩⟩
 done:=by
  intro X hP hw hK hc i ξ s U H E I hf st hg
  subst hP hw hK
  obtain⟨hH,hi⟩:=hg
  obtain⟨es',ep',g,c,d,_,hl,_,hk⟩:=I.tdict hH
  rw[he] at d
  cases d
  obtain⟨f0,f1,f2,f3,f4,f5⟩:=hf it (by simp)
  exact a89 (I.ok.hd hc) st g he (by omega) λh' eb=>⟨rfl,I.turned (t':=s.toks) (λb o hb e=>eb b o hb e) f0 f1 f3 f4 f5⟩
 self:=λ_ _ _ _ _ st h=>kc st h
theorem bp5 {X:Cx}{tg:Expr}{ξ:List (Addr×Obj)}{U:St}{H:Hp}{s:av}{R:It->Hp->Prop}{E:Value->av->Prop}{p:Addr}{kvs:List (TK×V)}(I:Inv X ξ U H s)(h:H p=some (.dT kvs))(q:∀o,R (at4 p o kvs) (upd H p (.frz o (.dT kvs)))):aK (model X.prog X.w) X.A (mf (.ref p)) (PIE X ξ U tg R) E s:=by
 obtain⟨o,I1⟩:=I.frozeT h
 obtain⟨es,ep,g,c,d,nm,_⟩:=I1.tdict Ab
 refine au9 nm g c d ?_
 refine⟨s.heap.objs.size,[s.heap.objs.size],_,_,_,rfl,I1.kept (t':=s.toks) λb o e=>ah _ e,a24 p _ o kvs d,⟨_,aB _ rfl,rfl,rfl⟩,λb hb=>?_,q o⟩
 have e:b=s.heap.objs.size:=by simpa using hb
 subst e
 exact I1.fpOk (ag _) (I1.hok.fresh (ag _))
end L2
namespace PySem
theorem Sem.wp_never {α:Type}(M:Model)(Γ:Ctx):∀(t:Sem α)(p:Pos)(s:av),Sem.wp M Γ t (λ_ _ _=>False) (λ_ _ _=>False) p s->False:=by
 intro t
 induction t with
 |pure a=>intro p s h;exact h
 |raise e=>intro p s h;exact h
 |unsupported w=>intro p s h;exact h
 |finish e=>intro p s h;exact h
 |rule tag k ih=>intro p s h;exact ih () p s h
 |«at» q k ih=>intro p s h;exact ih () q s h
 |load a part k ih=>intro p s h;obtain⟨o,_,h⟩:=h;exact ih o p s h
 |update a part f k ih=>intro p s h;exact ih () p _ h.2
 |alloc o k ih=>intro p s h;exact ih _ p _ h
 |loadIfAlive a k ih=>intro p s h;exact ih _ p s h
 |point l k ih=>intro p s h;exact ih () p s h
 |register a k ih=>intro p s h;exact h
 |fresh k ih=>intro p s h;exact ih _ p _ h
 |ask k ih=>intro p s h;exact ih _ p s h
 |choose src n k ih=>intro p s h;exact ih _ p _ h.2
 |os q l k ih=>intro p s h;exact ih _ p _ h
 |call c hd g l k ih=>intro p s h;obtain⟨r,s',_,h⟩:=h;exact ih r p s' h
 |handled own k ih=>intro p s h;exact ih _ p s h
 |newGen c k ih=>intro p s h;exact ih _ p _ h
 |genState g k ih=>intro p s h;obtain⟨st,_,h⟩:=h;exact ih _ p s h
 |resume g r l k ih=>intro p s h;obtain⟨res,s',_,h⟩:=h;exact ih res p s' h
 |yield v g l k ih=>intro p s h;exact h
 |stack k ih=>intro p s h;exact ih _ p s h
 |fork c k ih=>intro p s h;exact h
 |thread k ih=>intro p s h;first|exact ih _ p s h|exact h
 |await a tk d l k ih=>intro p s h;first|exact h|exact ih _ p s h
section
theorem Yw(h:aK (model prog w) A (jC v) (λr s'=>∃u,r=some u/\P u s') (λ_ _=>False) s):aK (model prog w) A (cE v) P E s:=by
 intro Γ p hΓ
 have h:=h Γ p hΓ
 unfold jC Sem.attempt at h
 unfold cE
 rw[lH,Sem.wp_tryCatch,Sem.wp_bind] at h
 rw[lH]
 refine Sem.wp_mono _ _ _ (λo p' s' q=>?_) (λe p' s' q=>?_) p s h
 .cases o with
  |none=>exact (show False from q).elim
  |some u=>
   obtain⟨u',e,q⟩:=q
   cases e
   exact q
 .refine (Sem.wp_never (model prog w) Γ (j5 e (.type "StopIteration")) p' s' ?_).elim
  have q:Sem.wp (model prog w) Γ (j5 e (.type "StopIteration") >>= λb=>if b=true then pure none else throw e) (λr _ s'=>∃u,r=some u/\P u s') (λ_ _ _=>False) p' s':=q
  rw[lH] at q
  refine Sem.wp_mono _ _ _ (λb p2 s2 q=>?_) (λ_ _ _ z=>z) p' s' q
  cases b with
  |true=>obtain⟨u,z,_⟩:=q;cases z
  |false=>exact q
variable {κ:Type} [DecidableEq κ] {knd:KeyKind prog w κ} {d it:Addr} {ep i:Nat} {kvs:List (κ×Value)}
theorem E0(hh:A.handled=none)(hit:s.heap.IsKeyIter it d i kvs.length ep)(hm:s.heap.DictAt knd d kvs ep)(hx:kvs[i]?=none)(hE:∀h' x,lR it s.heap h'->(∃o,h'.get? x=some o/\o.cls=.type "StopIteration")->E (.ref x) { s with heap:=h' }):aK (model prog w) A (cE (.ref it)) Q E s:=by
 have ⟨oi,ei,ci,di⟩:=hit
 have ⟨od,es,ed,_,dd,_,pr,_⟩:=hm
 have size:es.size=kvs.length:=pr.length▸(by simp)
 have past:es.size<=i:=by rw[size];simpa using hx
 have own:fh "dict_keyiterator"=false:=by decide
 have nx:¬ ((i:Int)<0):=by omega
 have noNone:¬ ((aV d==cm)=true):=au
 unfold cE
 refine af (cB (name:=cV "__next__") hit.typeIs bV (bY bV hit.typeIs e9 ?_ (eE _)))
 refine af (ai (af (af ?_)))
 first|refine af (cg hit.typeIs (ai (af (iX ei di ?_))))|refine af (cL hit.typeIs (ai (af (iX ei di ?_))))
 simp only[own,bM,if_false]
 show aK _ _ (if (aV d==cm)=true then _ else _) _ _ s
 rw[if_neg noNone]
 refine af (ai (af (ez ed dd ?_)))
 rw[if_neg (show ¬ _ by rw[size];simp)]
 refine af (ai (af (cR ed dd ?_)))
 rw[if_neg (show ¬ _ by simp)]
 refine ai ?_
 simp only[nx,if_false,aY,jF past]
 refine af ?_
 first|refine af (cg hit.typeIs (ai ?_))|refine af (cL hit.typeIs (ai ?_))
 show aK _ _ (lQ (.ref it) 0 .none >>= λ_=>newExc (.type "StopIteration") [] >>= _) _ _ s
 refine af (fX ei di (by simp) (af ?_))
 simp only[newExc,newTuple]
 refine af (cn (af (m:=iT _ _) (wpAny_of_eq (a:=cm) (by first|rfl|(simp only[iT];rfl)) (cn ?_ (by size_fits)))) (by size_fits))
 simp only[raiseNew]
 refine af (wpAny_handled ?_)
 rw[show A.in1.handled=none from hh]
 refine af (ai (mk ?_))
 exact hE _ _ (((bE ..).extBut.push _).push _) ⟨_,aB _ rfl,rfl⟩
theorem Ig(hit:s.heap.IsKeyIter it d i kvs.length ep)(hm:s.heap.DictAt knd d kvs ep)(hx:kvs[i]?=some (k,v))(hQ:∀key h',knd.is k key=true->h'.IsKeyIter it d (i+1) kvs.length ep->bJ it s.heap h'->Q key { s with heap:=h' }):aK (model prog w) A (cE (.ref it)) Q E s:=
 Yw (jJ hit hm hx λkey h' a b c=>⟨key,rfl,hQ key h' a b c⟩)
theorem a85(hh:A.handled=none)(ne:d≠it):Draws prog w A it [it,d] kvs.length (λi v=>∃k x,kvs[i]?=some (k,x)/\knd.is k v=true) (λi h=>h.IsKeyIter it d i kvs.length ep/\h.DictAt knd d kvs ep) where
 live:=λ_ _ h=>let ⟨o,e,_⟩:=h.1;⟨o,e⟩
 frame:=λ_ _ _ h k=>⟨h.1.at λo q=>k it (by simp) o q,h.2.at' λo q=>k d (by simp) o q⟩
 item:=λi s Q E hi h hQ=>Ig h.1 h.2 (k:=kvs[i].1) (v:=kvs[i].2) (aj hi) λkey h' a b c=>hQ key h' s.toks ⟨_,_,aj hi,a⟩ ⟨b,h.2.at' λo q=>c.extBut d o ne q⟩ c
 done:=λs Q E h hE=>E0 hh h.1 h.2 (fB (ag _)) hE
theorem Im(hh:A.handled=none)(he:IsEnum s.heap e it i old)(hit:s.heap.IsKeyIter it d i kvs.length ep)(hm:s.heap.DictAt knd d kvs ep)(hx:kvs[i]?=none)(hQ:∀h',lR it s.heap h'->Q none { s with heap:=h' }):aK (model prog w) A (jC (.ref e)) Q E s:=by
 have ty:s.TypeIs (.ref e) "enumerate" := ⟨_,he,rfl⟩
 unfold jC
 refine af (fN (cB (name:=cV "__next__") ty jM (bY jM ty F.entry_enumerate_next ?_ (F.args_enumerate_next_1 _))))
 show aK _ _ (field (.ref e) 2 >>= λz=>cE z >>= _) _ _ _
 refine af (dS he rfl (x:=.ref it) rfl (af (E0 hh hit hm hx λh' x hk ⟨o,ho,hc⟩=>?_)))
 exact af (jD (T := "StopIteration") (b:=true) ⟨o,ho,hc⟩ isSubtype_stop (ai (hQ _ hk)))
theorem Tt(hd:(d==dv)=false)(hm:s.heap.DictAt knd d kvs ep)(h:∀h',IsEnum h' (s.heap.objs.size+1) s.heap.objs.size 0 .none->h'.IsKeyIter s.heap.objs.size d 0 kvs.length ep->(∀b o,s.heap.get? b=some o->h'.get? b=some o)->Q (.ref (s.heap.objs.size+1)) { s with heap:=h' }) :
  aK (model prog w) A (call (.type "enumerate") [.ref d]) Q E s:=by
 have g:MeetsIn prog w (aI.«enumerate.__new__» ⟨[.type "enumerate", .ref d],[]⟩) (λ_ R s=>s.heap.DictAt knd d kvs ep /\
   R (.ok (.ret (.ref (s.heap.objs.size+1)))) { s with heap:=(s.heap.push { cls:=.type "dict_keyiterator", data:=.fields #[.ref d,.int 0 0,.int kvs.length 0,.int ep 0] }).push { cls:=.type "enumerate", data:=.fields #[.none,.bool false,.ref s.heap.objs.size,eh 0,.none,.none] } }):=by
  refine .of_wp λA R s h=>?_
  obtain⟨hp,g,d',tk,os⟩:=s
  obtain⟨hm,h⟩:=h
  have hsub:=sub_enumerate
  obtain⟨o,es,ho,hcl,hdat,q⟩:=id hm
  have hz:(hp.push { cls:=.type "dict_keyiterator", data:=.fields #[.ref d,.int 0 0,.int kvs.length 0,.int ep 0] }).objs.size=hp.objs.size+1:=dP ..
  wp_walk using fP hd hm
  refine wpAny_stack_any λst=>ai ?_
  have h2:R (.ok (.ret (.ref (hp.push { cls:=.type "dict_keyiterator", data:=.fields #[.ref d,.int 0 0,.int kvs.length 0,.int ep 0] }).objs.size))) ⟨(hp.push { cls:=.type "dict_keyiterator", data:=.fields #[.ref d,.int 0 0,.int kvs.length 0,.int ep 0] }).push { cls:=.type "enumerate", data:=.fields #[.none,.bool false,.ref hp.objs.size,eh 0,.none,.none] },g,d',tk,os⟩:=by rw[hz];exact h
  split
  .rename_i c _ _ _ _ _
   cases (c==gm "enumerate")
   .wp_walk using fP hd hm
    exact⟨_,rfl,h2⟩
   .wp_walk using fP hd hm
    exact⟨_,rfl,h2⟩
  .wp_walk using fP hd hm
   exact⟨_,rfl,h2⟩
 refine callType_newIn F.called_enumerate (by decide) (F.typeCall_enumerate_1 _) (F.newCall_enumerate_1 _) (λobj=>F.args_object_init_2 obj _) F.entry_enumerate_new g ⟨hm,?_⟩
 have hz:(s.heap.push { cls:=.type "dict_keyiterator", data:=.fields #[.ref d,.int 0 0,.int kvs.length 0,.int ep 0] }).objs.size=s.heap.objs.size+1:=dP ..
 have he:IsEnum ((s.heap.push { cls:=.type "dict_keyiterator", data:=.fields #[.ref d,.int 0 0,.int kvs.length 0,.int ep 0] }).push { cls:=.type "enumerate", data:=.fields #[.none,.bool false,.ref s.heap.objs.size,eh 0,.none,.none] }) (s.heap.objs.size+1) s.heap.objs.size 0 .none:=hz▸aB _ rfl
 exact⟨⟨_,he,rfl⟩,h _ he ⟨_,ah _ (aB _ rfl),rfl,rfl⟩ λb o x=>ah _ (ah _ x)⟩
end
end PySem
namespace L2
open PySem PySem.Spec PyProof.Rows
noncomputable def ab3(p:Addr)(o:Obj)(kvs:List (Key×V)):It:=
  ⟨λi H=>H p=some (.frz o (.dK kvs))/\i<kvs.length,
   λi H x H'=>∃T k v,H T=none/\x=.ref T/\kvs[i]?=some (k,v)/\H'=upd H T (.tup [.int i,kV k]),
   λi H=>H p=some (.frz o (.dK kvs))/\kvs.length<=i⟩
theorem V7 {P:ba}{w:bL}{K:ac}{elts:List Expr}{kt:Nat}{pt:Pos}{e it p:Addr}{o:Obj}{kvs:List (Key×V)}{ep:Nat}(ne:e≠it)(he:X1 o ep) :
  Mn P w K (.Tuple elts kt pt) (ab3 p o kvs) [e,it] e (λi h=>(∃old,IsEnum h e it (i:Int) old)/\h.IsKeyIter it p i kvs.length ep) where
 mem:=by simp
 obj:=λi h st b hb=>by
  obtain⟨⟨old,he⟩,⟨o1,e1,c1,d1⟩⟩:=st
  rcases List.mem_cons.mp hb with rfl|hb
  .exact⟨_,he,λv q=>nomatch q⟩
  .rw[List.mem_singleton.mp hb];exact⟨o1,e1,λv q=>by rw[d1] at q;cases q⟩
 keep:=λi h h' st k=>let ⟨⟨old,he⟩,h1⟩:=st;⟨⟨old,k e (by simp) _ he⟩,h1.at λo q=>k it (by simp) o q⟩
 item:=by
  intro X hP hw hK hc i ξ s U H E I hf st hg
  subst hP hw hK
  obtain⟨hH,hi⟩:=hg
  obtain⟨vs,rel,hd,hm⟩:=I.kdict hH he
  obtain⟨⟨k,v⟩,hx⟩:∃q,kvs[i]?=some q:=⟨kvs[i],by simp[hi]⟩
  obtain⟨u,hu,_⟩:=ag0 rel hx
  have hl:kvs.length=vs.length:=rel.length
  obtain⟨⟨old,en⟩,h1⟩:=st
  rw[hl] at h1
  have np:p≠e:=Ai hH (hf e (by simp)).1
  have ni:p≠it:=Ai hH (hf it (by simp)).1
  refine bB (ag _) (wpAny_pyNext_enum_itemD (a85 (by simp[I.ok.hd hc]) ni) en ⟨h1,hd⟩ (by omega) ne (by simp[ne,np.symm]) λkey h' tk ⟨k',x',hx',hk⟩ a1 ⟨a2,_⟩ a3 _ hk' htk=>?_)
  rw[hu] at hx'
  cases hx'
  refine⟨_,rfl,iM a1 λh'' hz' hs'=>?_⟩
  have hT:=I.hok.fresh (ag s.heap.objs.size)
  have nT:∀ {b ob},s.heap.get? b=some ob->b≠s.heap.objs.size:=λq=>aT (aF q)
  have up:∀b ob,b∉[e,it]->s.heap.get? b=some ob->h''.get? b=some ob:=λb ob hb q=>by
   have b1:b≠e:=by rintro rfl;exact hb (by simp)
   have b2:b≠it:=by rintro rfl;exact hb (by simp)
   exact hs'.extBut b ob b1 (hk' b ob b1 b2 q)
  have Tnew:h''.get? s.heap.objs.size=some { cls:=.type "tuple", data:=.seq #[.int i tk,key] }:=hs'.extBut _ _ (cA (nT en)) a3
  have I1:Inv X ξ U (upd H s.heap.objs.size (.tup [.int i,kV k])) { s with heap:=h'',toks:=tk+1 }:=
   I.turnedN (t':=tk+1) (ch:=[e,it]) (λb hb=>hf b hb) up (ag _) ⟨by show 2<=sizeLine;decide,[.int i tk,key],.cons ⟨_,rfl⟩ (.cons (a40 hk) .nil),⟨_,Tnew,rfl,_,rfl⟩⟩
  refine⟨.ref s.heap.objs.size,_,I1,rfl,⟨s.heap.objs.size,k,v,hT,rfl,hx,rfl⟩,⟨⟨_,hz'⟩,by rw[hl];exact a2.at λo q=>hs'.extBut _ o (cA ne) q⟩,λb hb=>?_⟩
  have q:=(hf b hb).1
  rw[Ad ?_]
  .exact q
  .rcases List.mem_cons.mp hb with rfl|hb
   .exact nT en
   .rw[List.mem_singleton.mp hb];obtain⟨_,q,_⟩:=h1;exact nT q
 done:=by
  intro X hP hw hK hc i ξ s U H E I hf st hg
  subst hP hw hK
  obtain⟨hH,hi⟩:=hg
  obtain⟨vs,rel,hd,hm⟩:=I.kdict hH he
  have hl:kvs.length=vs.length:=rel.length
  obtain⟨⟨old,en⟩,h1⟩:=st
  rw[hl] at h1
  refine Im (I.ok.hd hc) en h1 hd (by simp;omega) λh' hk=>⟨rfl,?_⟩
  refine I.turnedL (t':=s.toks) (ch:=[e,it]) (λb hb=>hf b hb) λb o hb q=>hk b o (by rintro rfl;exact hb (by simp)) q
 self:=λA i s Q E st h=>let ⟨_,he⟩:=st.1;g7 he h
theorem ae1 {X:Cx}{elts:List Expr}{kt:Nat}{pt:Pos}{ξ:List (Addr×Obj)}{U:St}{H:Hp}{s:av}{R:It->Hp->Prop}{E:Value->av->Prop}{p:Addr}{o:Obj}{kvs:List (Key×V)}(I:Inv X ξ U H s)(h:H p=some (.frz o (.dK kvs)))(q:R (ab3 p o kvs) H):aK (model X.prog X.w) X.A (call (.type "enumerate") [.ref p]) (λv s1=>aK (model X.prog X.w) X.A (mf v) (PIE X ξ U (.Tuple elts kt pt) R) E s1) E s:=by
 have he:∃ep,X1 o ep:=by
  obtain⟨e1,z,y,vs,r,ob,es,ep,e,c,d,_⟩:=I.hok p _ h
  rw[e1] at e;cases e
  exact⟨ep,es,d⟩
 obtain⟨ep,he⟩:=he
 obtain⟨vs,rel,hd,hm⟩:=I.kdict h he
 refine Tt hm hd λh' en hit hk=>g7 en ?_
 refine⟨_,_,_,_,H,rfl,I.kept (t':=s.toks) hk,V7 (Nat.succ_ne_self _) he,⟨⟨_,en⟩,by rw[rel.length];exact hit⟩,λb hb=>?_,q⟩
 have hb:b=s.heap.objs.size+1\/b=s.heap.objs.size:=by simpa using hb
 have le:s.heap.objs.size<=b:=hb.elim (λe=>e▸bq _ 1) λe=>e▸ag _
 exact I.fpOk le (I.hok.fresh le)
end L2
namespace PySem
open PyProof.Rows
section
variable {κ:Type} [DecidableEq κ]
noncomputable def Ec(xs:List κ):List κ:=xs.foldl (λU k=>if U.any (λj=>decide (j=k)) then U else U++[k]) []
theorem Oa(xs:List κ)(k:κ):Ec (xs++[k])=if (Ec xs).any (λj=>decide (j=k)) then Ec xs else Ec xs++[k]:=by
 unfold Ec
 rw[fJ]
 rfl
theorem ag7(xs:List κ)(k j:κ):(Ec (xs++[k])).any (λi=>decide (i=j))=((Ec xs).any (λi=>decide (i=j))||decide (j=k)):=by
 rw[Oa]
 by_cases h:(Ec xs).any (λi=>decide (i=k))=true
 .rw[if_pos h]
  by_cases e:j=k
  .subst e;rw[h];rfl
  .simp[e]
 .rw[if_neg h,List.any_append]
  congr 1
  simp[eq_comm]
theorem Rx(xs:List κ):(Ec xs).length<=xs.length:=by
 have:∀(ys acc:List κ),(ys.foldl (λU k=>if U.any (λj=>decide (j=k)) then U else U++[k]) acc).length<=acc.length+ys.length:=by
  intro ys
  induction ys with
  |nil=>intro acc;exact ag _
  |cons y ys ih=>
   intro acc
   refine a9 (ih _) ?_
   rw[aN]
   dsimp only
   split
   .omega
   .rw[aU,c7];omega
 exact a9 (this xs []) (by simp)
end
section
variable {prog:ba} {w:bL} {A:bP} {R:mL->av->Prop} {I:Addr} {fp wr:List Addr} {G:Array kM->Array kM->Prop} {P:Nat->Value->Prop} {St:Nat->av->Prop} {κ:Type} [DecidableEq κ] {knd:KeyKind prog w κ} {ks:List κ}
noncomputable abbrev E4(knd:KeyKind prog w κ)(h:Heap)(S:Addr)(ks:List κ):Prop:=h.SetOf knd S (λk=>(Ec ks).any (λj=>decide (j=k))) (Ec ks).length
theorem Nu(x:E4 knd h S ks)(k:∀o,h.get? S=some o->h'.get? S=some o):E4 knd h' S ks:=
 let ⟨o,es,ep,t,ho,r⟩:=x;⟨o,es,ep,t,k o ho,r⟩
theorem Sx(W:WalksS prog w A.in1 I fp wr G ks.length P St)(S:Addr)(out:S∉fp)(hv:∀i v,P i v -> ∃k,ks[i]?=some k/\knd.is k v=true/\v.scannable=true)(few:ks.length+1<scanBound)(left:Nat) :
  ∀(i:Nat)(s:av),i+left=ks.length->St i s->E4 knd s.heap S (ks.take i)->(∀s',Moved (S::wr) G s s'->E4 knd s'.heap S ks->R (.ok (.ret .none)) s') ->
   gH (model prog w) A (.builtin "set.update.loop" ⟨[.ref S,.ref I],[]⟩) R s:=by
 have outw:S∉wr:=λz=>out (W.sub _ z)
 have into:∀b∈wr,b∈S::wr:=λb z=>.tail _ z
 induction left with
 |zero=>
  intro i s hi st fl hR
  have ei:i=ks.length:=hi
  subst ei
  rw[aA] at fl
  refine gI jk (ig gw _ ▸ ?_)
  show aK _ A.in1 (jC (.ref I) >>= _) _ _ s
  exact af (W.done s _ _ st λs' mv=>ai (hR s' (mv.mono into) (Nu fl λo e=>mv.heap S o outw e)))
 |succ left ih=>
  intro i s hi st fl hR
  have lt:i<ks.length:=by omega
  refine gI jk (ig gw _ ▸ ?_)
  show aK _ A.in1 (jC (.ref I) >>= _) _ _ s
  refine af (W.item i s _ _ lt st λv s1 pv st1 mv=>?_)
  obtain⟨k,ek,ik,sk⟩:=hv i v pv
  have fl1:E4 knd s1.heap S (ks.take i):=Nu fl λo e=>mv.heap S o outw e
  have tk:ks.take (i+1)=ks.take i++[k]:=by rw[List.take_succ,ek];rfl
  show aK _ A.in1 (my [v] (setAdd S v) >>= _) _ _ s1
  refine af (bj ?_)
  unfold setAdd
  refine bj (af (knd.pyHash (k:=k) ik ?_))
  have room:(Ec (ks.take i)).length+1<scanBound:=by
   have:=Rx (ks.take i)
   rw[aC] at this
   omega
  refine wpAny_setAddHashed_of (knd:=knd) (s:={ s1 with toks:=s1.toks+1 }) ik sk fl1 room λh' sb fl2=>?_
  have fl3:E4 knd h' S (ks.take (i+1)):=by
   have eS:(λj=>(Ec (ks.take i)).any (λm=>decide (m=j))||decide (j=k))=λj=>(Ec (ks.take i++[k])).any (λm=>decide (m=j)):=funext λj=>(ag7 (ks.take i) k j).symm
   have en:(if (Ec (ks.take i)).any (λm=>decide (m=k))=true then (Ec (ks.take i)).length else (Ec (ks.take i)).length+1)=(Ec (ks.take i++[k])).length:=by
    rw[Oa];split <;> simp
   rw[tk]
   show h'.SetOf knd S _ _
   rw[<- eS,<- en]
   exact fl2
  refine ai ⟨plainId_quiet gw _,ih (i+1) _ (by omega) (W.frame _ s1 _ _ st1 (dm _) λb hb o e=>?_) fl3 λs2 mv2 fl4=>?_⟩
  .exact (sb.2 b λz=>out (z▸hb)).trans e
  .exact hR s2 (Moved.trans W.gtrans ((mv.mono into).then_heap (dm _) λb o hb e=>(sb.2 b λz=>hb (z▸aJ)).trans e) mv2) fl4
end
section
variable {prog:ba} {w:bL} {A:bP} {E:Value->av->Prop} {s:av} {κ:Type} [DecidableEq κ] {knd:KeyKind prog w κ} {ks:List κ}
noncomputable abbrev Cz(led:Bool):Obj:={ cls:=.type "set", dict:=none,data:=.set #[] 0 (.fresh 0 0 led) }
theorem Sy(hh:A.handled=none)(hl:s.heap.IsList l ψ)(hv:∀(i:Nat)(v:Value),ψ[i]?=some v -> ∃k,ks[i]?=some k/\knd.is k v=true/\v.scannable=true)(hs:ψ.size=ks.length)(few:ks.length+1<scanBound)(h:∀(h':Heap)(tk:Nat),E4 knd h' s.heap.objs.size ks->(∀b o,b<s.heap.objs.size->s.heap.get? b=some o->h'.get? b=some o)->Q (.ref s.heap.objs.size) { s with heap:=h',toks:=tk }) :
  aK (model prog w) A (call (.type "set") [.ref l]) Q E s:=by
 obtain⟨c,tl,hmro⟩:=F.called_set.mro
 have m1:=F.called_set.made
 have m2:=F.called_set.sub
 have m3:=F.called_set.notType
 have m4:=F.called_set.canCreate
 have m5:=F.typeCall_set_1 (.ref l)
 refine gn (codeAny_of_tree (show aK _ _ (callAny (.type "set") _) _ _ _ from ai ⟨gu _ (by decide +kernel),gI F.entry_type_call ?_⟩))
 rw[Around.under_plain (weight_type_call_type "set" [.ref l] []) rfl]
 repeat (any_goals (first|assumption|wp_step))
 refine eJ (code_set_new_1 (.ref l) (E:=E) (Q₁:=λobj s₁=>∃led:Bool,obj=.ref s.heap.objs.size/\s₁={ s with heap:=s.heap.push (Cz led) }) λled=>⟨led,rfl,rfl⟩) λr s₁ hr=>?_
 cases r with
 |error e=>exact hr
 |ok fl=>
  cases fl with
  |ret obj=>
   obtain⟨led,rfl,rfl⟩:=hr
   have new:(s.heap.push (Cz led)).get? s.heap.objs.size=some (Cz led):=aB _ rfl
   have ty:Shared.TypeIs { s with heap:=s.heap.push (Cz led) } (.ref s.heap.objs.size) "set" := ⟨_,new,rfl⟩
   have m6:=F.called_set.init.lookup
   have m7:=F.called_set.init.bind (.ref s.heap.objs.size)
   repeat (any_goals (first|assumption|wp_step))
   refine eJ (fT (R:=wants (λr s₂=>r=.none/\∃h' tk,s₂={ s with heap:=h',toks:=tk }/\E4 knd h' s.heap.objs.size ks/\(∀b o,b<s.heap.objs.size->s.heap.get? b=some o->h'.get? b=some o)) E) F.called_set.init.plain F.entry_set_init (check_set_init_1 ty ?_)) λr2 s2 hr2=>?_
   .obtain⟨⟨oc,odict,od,osl⟩,ol,hc,n,hd⟩:=hl
    simp only at hc hd
    subst hc;subst hd
    have lt:l<s.heap.objs.size:=aF ol
    have ol2:(s.heap.push (Cz led)).get? l=some { cls:=.type "list", dict:=odict,data:=.seq ψ n,slots:=osl }:=ah _ ol
    have m8:=F.sub_list_set
    have m9:=F.sub_list_frozenset
    have m10:(gm "list" == gm "dict")=false:=by decide
    have isl:(s.heap.push (Cz led)).IsList l ψ:=⟨_,ol2,rfl,n,rfl⟩
    have size:(s.heap.push (Cz led)).objs.size=s.heap.objs.size+1:=dP ..
    unfold aI.«set.__init__» noKeywords Builtin.Frozenset.updateFrom
    generalize hPI:mf=PI
    wp_walk
    subst hPI
    refine jg isl (af (wpAny_runValue ?_))
    have quiet:A.in1.in1.in1.handled=none:=by simp[hh]
    have ne1:l≠(s.heap.push (Cz led)).objs.size:=size▸aT (du lt)
    have out:s.heap.objs.size∉[(s.heap.push (Cz led)).objs.size,l]:=by
     simp only[size,aO,cS,or_false,not_or]
     exact⟨aT (cy _),hU lt⟩
    have W:=(Walks.list (prog:=prog) (w:=w) quiet (s.heap.push (Cz led)).objs.size l ne1 ψ).toS
    rw[hs] at W
    refine Sx (ks:=ks) W s.heap.objs.size out hv few ks.length 0 _ (cT _) ⟨⟨_,aB _ rfl,rfl,rfl⟩,isl.push _⟩ ?_ λs' mv fl=>?_
    .exact (setObjOf_fresh (knd:=knd) led).setOf (ah _ new) (by unfold scanBound;omega)
    .obtain⟨h',g',d',tk',os'⟩:=s'
     have e1:g'=s.gens:=mv.gens
     have e2:d'=s.drawn:=mv.drawn
     have e3:os'=s.os:=mv.os
     subst e1;subst e2;subst e3
     refine (show aK _ _ _ _ _ _ from ai (show aK _ _ (ret cm) _ _ _ from ai ⟨rfl,h',tk',rfl,fl,λb o hb e=>?_⟩))
     refine mv.heap b o ?_ (ah _ (ah _ e))
     simp only[size,aO,cS,or_false,not_or]
     exact⟨aT hb,aT (du hb)⟩
   .cases r2 with
    |error e=>exact hr2
    |ok f2=>
     cases f2 with
     |ret r=>
      obtain⟨rfl,h',tk,rfl,fl,kept⟩:=hr2
      repeat (any_goals (first|assumption|wp_step))
      exact h _ _ fl kept
     |_=>exact hr2.elim
  |_=>exact hr.elim
end
end PySem
namespace L2
open PySem PySem.Spec PyProof.Rows
section
variable {X:Cx} {e:Expr} {de:DE} {p p2 pos pos2:Pos}
noncomputable def Kr(K:ac):V->Hp->VK->Prop:=λx H Q=>match x with
 |.ref l=>∃ys:List Str,SqL K H l (ys.map V.str)/\ys.length<30/\Q (.int (Ec ys).length) H
 |_=>False
theorem Xs:∀ {ys:List Str} {us:List Value} {i:Nat} {v:Value},Vals (ys.map V.str) us->us[i]?=some v -> ∃k t,ys[i]?=some k/\v=.str k t
 |[],_,i,v,r,e=>by rw[eG] at r;cases r;simp at e
 | y::ys,_,i,v,r,e=>by
  rw[aS] at r
  cases r with
  |cons r1 r2=>
   obtain⟨t,rfl⟩:=r1
   cases i with
   |zero=>simp only[eQ,gX] at e;exact⟨y,t,rfl,e.symm⟩
   |succ i=>simp only[bI] at e ⊢;exact Xs r2 e
theorem aw1(hc:X.calm=true)(I:Inv X ξ U H s)(rx:RelV x u)(h:Kr X.K x H Q) :
  aK (model X.prog X.w) X.A (call (.type "set") [u]) (λv s1=>aK (model X.prog X.w) X.A (call (.builtin "len") [v]) (EP X ξ U Q) X.xe s1) X.xe s:=by
 cases x with
 |ref l=>
  cases rx
  obtain⟨ys,hq,few,q⟩:=h
  obtain⟨χ,rv,pl,hz⟩:=I.list hq
  have hl:χ.length=ys.length:=by rw[<- rv.length,ae]
  refine bB (ag _) (Sy (knd:=PySem.strKind X.prog X.w) (ks:=ys) (I.ok.hd hc) pl.isList (λi v e=>?_) (by simpa using hl) (by unfold scanBound;omega) λh' tk fl kept htk=>?_)
  .obtain⟨k,t,ek,rfl⟩:=Xs rv (by simpa using e)
   exact⟨k,ek,by show ip k (.str k t)=true;simp[ip],rfl⟩
  .have I1:Inv X ξ U H { s with heap:=h',toks:=tk }:=I.kept (t':=tk) λb o e=>kept b o (aF e) e
   obtain⟨o,es,ep,t,ho,hex,hd,hel,hmem,hb,hf,hn⟩:=fl
   refine call_len_set ho hex hd hf ?_ ?_
   .have:=Rx ys
    rw[hn];omega
   .rw[hn]
    exact⟨.int _,H,I1.tok _,⟨_,rfl⟩,q⟩
 |_=>exact (show False from h).elim
end
section
noncomputable def a46(K:ac):R2:=λx y H Q=>∃a b ys,x=.ref a/\y=.ref b/\SqT K H a []/\SqT K H b ys/\Q (.ref b) H
theorem ax2:OpR X (dD .Add) (a46 X.K):=by
 intro ξ s U H x y v u Q I rx ry h
 obtain⟨a,b,ys,rfl,rfl,ha,hb,q⟩:=h
 cases rx
 cases ry
 obtain⟨χ,r1,p1,_⟩:=I.tuple ha
 obtain⟨its2,r2,p2,_⟩:=I.tuple hb
 cases r1
 obtain⟨⟨c1,d1,da1,s1⟩,ho,hc,n,hd⟩:=id p1
 obtain⟨⟨c2,d2,da2,s2⟩,ho2,hc2,n2,hd2⟩:=id p2
 simp only at hc hd hc2 hd2
 subst hc hd hc2 hd2
 exact lJ ⟨_,ho,rfl⟩ ⟨_,ho2,rfl⟩ jA k8 gO gC (gj _ _)
   (tuple_addW0 a b _ _ n n2 d1 d2 s1 s2 rfl) ⟨ho,ho2,⟨.ref b,H,I,rfl,q⟩⟩
theorem Kf(hu:X.A.units+64<cLine):IxR X (λx y H Q=>∃a v,x=.ref a/\DGet H a y (some v)/\Q v H):=by
 intro value slice ξ s U H x y v u Q I rx ry h hs
 obtain⟨a,w',rfl,g,q⟩:=h
 cases rx
 exact tail_any (Rm I g) PySem.F.slot_dict_getitem.lookup (Ya (by omega) I g ry λw1 s' I' r'=>⟨w',H,I',r',q⟩) hs
end
section
theorem Xz:∀ {ys:List V} {us:List Value},ys.length=us.length->(∀(i:Nat) y u,ys[i]?=some y->us[i]?=some u->RelV y u)->Vals ys us
 |[],[],_,_=>.nil
 |y::ys,u::us,hl,h=>.cons (h 0 y u rfl rfl) (Xz (by simpa using hl) λi y u e1 e2=>h (i+1) y u (by rw[bI];exact e1) (by rw[bI];exact e2))
 |[],_::_,hl,_=>by simp at hl
 |_::_,[],hl,_=>by simp at hl
noncomputable def Lx:V->Hp->VK->Prop:=λx H Q=>match x with
 |.int n=>n<=1000 /\ -(2 ^ 62)<=n/\∀D,H D=none->Q (.ref D) (upd H D (.lst ((ay n.toNat).map λi:Nat=>V.int (i:Int))))
 |_=>False
theorem ag2(hc:X.calm=true)(I:Inv X ξ U H s)(hn:n<=1000)(h0:-(2 ^ 62)<=n)(q:∀D,H D=none->Q (.ref D) (upd H D (.lst ((ay n.toNat).map λi:Nat=>V.int (i:Int))))) :
  aK (model X.prog X.w) X.A (call (.type "range") [.int n t]) (λv s1=>aK (model X.prog X.w) X.A (call (.type "list") [v]) (EP X ξ U Q) X.xe s1) X.xe s:=by
 refine call_range_1 ?_
 have zv:(s.heap.push { cls:=.type "range", data:=.fields #[.int 0 s.toks,.int n t,.int 1 (s.toks+1)] }).objs.size=s.heap.objs.size+1:=dP ..
 have hr:IsRange (s.heap.push { cls:=.type "range", data:=.fields #[.int 0 s.toks,.int n t,.int 1 (s.toks+1)] }) s.heap.objs.size 0 n 1 s.toks t (s.toks+1):=IsRange.new ..
 have on1:∀b o,s.heap.get? b=some o->(s.heap.push { cls:=.type "range", data:=.fields #[.int 0 s.toks,.int n t,.int 1 (s.toks+1)] }).get? b=some o:=λb o q=>ah _ q
 generalize s.heap.push { cls:=.type "range", data:=.fields #[.int 0 s.toks,.int n t,.int 1 (s.toks+1)] }=h1 at zv hr on1 ⊢
 refine bB (n:=s.toks) (show s.toks<=s.toks+1+1 by omega) (call_list_range (n:=(n - 0).toNat) (I.ok.hd hc) hr (small_one (by omega) (by omega) (by omega) (by omega)) (rangeSize_nat _ _) (by omega) λh' tk acc c k e it htk=>?_)
 rw[zv] at e ⊢
 rw[Int.sub_zero] at it
 refine⟨.ref (s.heap.objs.size+1),_,I.laid (t':=tk) (a:=s.heap.objs.size+1) (λb o q=>k b o (on1 b o q)) (dm _) (show ObjOk X.prog X.w _ h' _ (.lst ((ay n.toNat).map λi:Nat=>V.int (i:Int))) from⟨?_,acc.toList,c,Xz ?_ λi y u e1 e2=>?_,by simpa using e⟩),rfl,q _ (I.hok.fresh (dm _))⟩
 .rw[ae,bi]
  exact a9 (show n.toNat<=1000 by omega) (by decide)
 .rw[ae,bi,dw,it.1]
 .rw[g_] at e2
  obtain⟨tt,ev⟩:=it.2 i u e2
  have hi:i<n.toNat:=by
   have:=(Array.getElem?_eq_some_iff.mp e2).1
   rw[it.1] at this
   exact this
  rw[al,f7 hi] at e1
  cases e1
  exact⟨tt,by rw[ev];congr 1;omega⟩
end
open Sem (wp)
section
noncomputable def Uz9(K:ac)(R:EK):VK:=λx H=>match x with
 |.ref a=>∃C dx,H a=some (G7 a C dx)/\ECls K C/\R a (upd H a (flO a C dx))
 |_=>False
theorem aj9(m:Meets X Ex)(hh:X.A.handled=none)(he:PE X e te):PS X (.Raise (some e) none pos) (λ_ U H=>te U H (Uz9 X.K (Ex U))):=by
 intro ξ s U H D I h
 rw[arm_exec_Raise]
 show aK _ _ (do mE pos;raiseStmt X.env (some (do let v <- eval e X.env;mE pos;pure v)) none) _ _ s
 refine af (e8 ?_)
 unfold raiseStmt
 refine af (af (thn (he ξ s U H _ I h) λv s1 ⟨x,H1,I1,r1,q1⟩=>af (e8 (ai ?_))))
 cases x with
 |ref a=>
  cases r1
  obtain⟨C,dx,ea,c,q⟩:=q1
  obtain⟨vs,g1,g2,g3,g4⟩:=Pj I1 ea
  obtain⟨nm,qn,N,bs,bm,hdct,sn,sub,ab,col,dd,k0,k1,k2,k3,k5,hl,ht,hd⟩:=c.obj
  have hC:=I1.kIn _ _ hl
  have hb:bm.contains (.type "BaseException")=true:=Cg ht (by decide +kernel)
  have I2:Inv X ξ U (upd H1 a (flO a C dx)) s1:=by
   have:=I1.write (x:=a) (e:=a) (h':=s1.heap) (t':=s1.toks) (o:=flO a C dx) (by rw[ea];exact aQ) (.inl rfl) (λb u _ z=>z) ⟨_,g1⟩ (ae5 g1 g2 g4)
   exact this
  have hx:=m ξ U _ s1 a I2 ⟨C,dx,vs,.inl Ab,g1,g2,.inl g3⟩ q
  have hcB:(aV C::bm).contains (.type "BaseException")=true:=by rw[cD,hb,f_]
  obtain⟨hp,g,d,tk,os⟩:=s1
  repeat (first|with_reducible refine dS g1 rfl g3 ?_|with_reducible refine cK g1 ?_|with_reducible refine cK hC ?_|(with_reducible refine dB hC ?_;rw[hcB])|wp_step)
  exact wpAny_raiseNew_none hh hx
 |_=>exact (show False from q1).elim
end
end L2
namespace L2
open PySem PySem.Spec PyProof.Rows
inductive Dt where
 |at_ (v:V)
 |lst (l:List Dt)
 |tup (l:List Dt)
mutual
noncomputable def deq:Dt->Dt->Bool
 |.at_ v,.at_ w=>eqV v w
 |.lst xs,.lst ys=>E3 xs ys
 |.tup xs,.tup ys=>E3 xs ys
 |_,_=>false
noncomputable def E3:List Dt->List Dt->Bool
 |[],[]=>true
 |x::xs,y::ys=>deq x y&&E3 xs ys
 |_,_=>false
end
mutual
noncomputable def dep:Dt->Nat
 |.at_ _=>0
 |.lst l=>E2 l+1
 |.tup l=>E2 l+1
noncomputable def E2:List Dt->Nat
 |[]=>0
 |x::xs=>Nat.max (dep x) (E2 xs)
end
mutual
noncomputable def At(K:ac)(H:Hp):Dt->V->Prop
 |.at_ v,x=>x=v/\B1 v=true
 |.lst ds,x=>∃a xs,x=.ref a/\SqL K H a xs/\AtL K H ds xs
 |.tup ds,x=>∃a xs,x=.ref a/\SqT K H a xs/\AtL K H ds xs
noncomputable def AtL(K:ac)(H:Hp):List Dt->List V->Prop
 |[],xs=>xs=[]
 |d::ds,xs=>∃y ys,xs=y::ys/\At K H d y/\AtL K H ds ys
end
theorem AtL.length {K:ac}{H:Hp}:∀ {ds:List Dt} {xs:List V},AtL K H ds xs->xs.length=ds.length
 |[],xs,h=>by unfold AtL at h;subst h;rfl
 | d::ds,xs,h=>by
  unfold AtL at h
  obtain⟨y,ys,rfl,_,h2⟩:=h
  rw[aN,aN,AtL.length h2]
theorem ae3(h:B1 v=true):eqV v v=true:=by
 cases v <;> first|rfl|(exact beq_self_eq_true _)|exact absurd (show false=true from h) au
mutual
theorem E8 {K:ac}{H:Hp}:∀ {d:Dt} {x:V},At K H d x->deq d d=true
 |.at_ v,x,h=>by unfold At at h;unfold deq;exact ae3 h.2
 |.lst l,x,h=>by unfold At at h;obtain⟨a,xs,_,_,h⟩:=h;unfold deq;exact Hy h
 |.tup l,x,h=>by unfold At at h;obtain⟨a,xs,_,_,h⟩:=h;unfold deq;exact Hy h
theorem Hy {K:ac}{H:Hp}:∀ {ds:List Dt} {xs:List V},AtL K H ds xs->E3 ds ds=true
 |[],xs,h=>by unfold E3;rfl
 | d::ds,xs,h=>by
  unfold AtL at h
  obtain⟨y,ys,rfl,h1,h2⟩:=h
  unfold E3
  rw[E8 h1,Hy h2]
  rfl
end
theorem E9:∀ {xs ys:List Dt},xs.length≠ys.length->E3 xs ys=false
 |[],[],h=>absurd rfl h
 |[],_::_,_=>by unfold E3;rfl
 |_::_,[],_=>by unfold E3;rfl
 | x::xs,y::ys,h=>by
  unfold E3
  rw[E9 (xs:=xs) (ys:=ys) (λe=>h (by rw[aN,aN,e])),g8]
theorem Dg(z:Dt):∀ {xs ys:List Dt},xs.length=ys.length->E3 xs ys=(ay xs.length).all λj=>deq (xs.getD j z) (ys.getD j z)
 |[],[],_=>by unfold E3;rfl
 |[],_::_,h=>by simp at h
 |_::_,[],h=>by simp at h
 | x::xs,y::ys,h=>by
  unfold E3
  rw[aN,List.range_succ_eq_map,bR,hJ,Dg z (xs:=xs) (ys:=ys) (by simpa using h)]
  rfl
section
theorem R6(I:Inv X ξ U H s)(h:SqL X.K H a xs)(h':SqT X.K H a ys):False:=by
 obtain⟨χ,r,⟨o,n,e,c,_,d⟩,_⟩:=I.list h
 obtain⟨its',r',⟨o',e',c',n',d'⟩,_⟩:=I.tuple h'
 rw[e] at e';cases e'
 rw[c] at c'
 injection c' with c'
 exact absurd c' (by decide)
mutual
theorem Tn(I:Inv X ξ U H s):∀ {d d':Dt} {x:V},At X.K H d x->At X.K H d' x->d=d'
 |.at_ v,.at_ w,x,h,h'=>by unfold At at h h';rw[<- h.1,<- h'.1]
 | .at_ v,.lst l,x,h,h'=>by
  unfold At at h h'
  obtain⟨a,xs,rfl,_⟩:=h'
  rw[<- h.1] at h
  exact absurd (show false=true from h.2) au
 | .at_ v,.tup l,x,h,h'=>by
  unfold At at h h'
  obtain⟨a,xs,rfl,_⟩:=h'
  rw[<- h.1] at h
  exact absurd (show false=true from h.2) au
 | .lst l,.at_ v,x,h,h'=>by
  unfold At at h h'
  obtain⟨a,xs,rfl,_⟩:=h
  rw[<- h'.1] at h'
  exact absurd (show false=true from h'.2) au
 | .tup l,.at_ v,x,h,h'=>by
  unfold At at h h'
  obtain⟨a,xs,rfl,_⟩:=h
  rw[<- h'.1] at h'
  exact absurd (show false=true from h'.2) au
 | .lst l,.lst l',x,h,h'=>by
  unfold At at h h'
  obtain⟨a,xs,rfl,q,h⟩:=h
  obtain⟨a',xs',e,q',h'⟩:=h'
  cases e
  rw[I.list_inj q q'] at h
  rw[Ox I h h']
 | .tup l,.tup l',x,h,h'=>by
  unfold At at h h'
  obtain⟨a,xs,rfl,q,h⟩:=h
  obtain⟨a',xs',e,q',h'⟩:=h'
  cases e
  rw[I.tuple_inj q q'] at h
  rw[Ox I h h']
 | .lst l,.tup l',x,h,h'=>by
  unfold At at h h'
  obtain⟨a,xs,rfl,q,h⟩:=h
  obtain⟨a',xs',e,q',h'⟩:=h'
  cases e
  exact (R6 I q q').elim
 | .tup l,.lst l',x,h,h'=>by
  unfold At at h h'
  obtain⟨a,xs,rfl,q,h⟩:=h
  obtain⟨a',xs',e,q',h'⟩:=h'
  cases e
  exact (R6 I q' q).elim
theorem Ox(I:Inv X ξ U H s):∀ {ds ds':List Dt} {xs:List V},AtL X.K H ds xs->AtL X.K H ds' xs->ds=ds'
 |[],[],_,_,_=>rfl
 |[],_::_,_,h,h'=>by unfold AtL at h h';obtain⟨y,ys,e,_⟩:=h';rw[h] at e;cases e
 |_::_,[],_,h,h'=>by unfold AtL at h h';obtain⟨y,ys,e,_⟩:=h;rw[h'] at e;cases e
 | d::ds,d'::ds',xs,h,h'=>by
  unfold AtL at h h'
  obtain⟨y,ys,rfl,h1,h2⟩:=h
  obtain⟨y',ys',e,h1',h2'⟩:=h'
  cases e
  rw[Tn I h1 h1',Ox I h2 h2']
end
theorem Nv {A:bP}{v:V}{u:Value}{a:Addr}{χ:Array Value}(f:B1 v=true)(r:RelV v u)(hl:s.heap.IsList a χ)(hu:A.units<cLine):bD A s u (.ref a) false/\bD A s (.ref a) u false:=by
 cases v with
 |non=>cases r;exact⟨.none_list hl hu,.list_none hl hu⟩
 |bl b=>cases r;exact⟨.bool_list b hl hu,.list_bool b hl hu⟩
 |int i=>obtain⟨t,rfl⟩:=r;exact⟨.int_list i t hl hu,.list_int i t hl hu⟩
 |str i=>obtain⟨t,rfl⟩:=r;exact⟨.str_list i t hl hu,.list_str i t hl hu⟩
 |_=>exact absurd (show false=true from f) au
theorem K6 {A:bP}{v:V}{u:Value}{a:Addr}{χ:Array Value}(f:B1 v=true)(r:RelV v u)(hl:s.heap.IsTuple a χ)(hu:A.units<cLine):bD A s u (.ref a) false/\bD A s (.ref a) u false:=by
 cases v with
 |non=>cases r;exact⟨.none_tuple hl hu,.tuple_none hl hu⟩
 |bl b=>cases r;exact⟨.bool_tuple b hl hu,.tuple_bool b hl hu⟩
 |int i=>obtain⟨t,rfl⟩:=r;exact⟨.int_tuple i t hl hu,.tuple_int i t hl hu⟩
 |str i=>obtain⟨t,rfl⟩:=r;exact⟨.str_tuple i t hl hu,.tuple_str i t hl hu⟩
 |_=>exact absurd (show false=true from f) au
mutual
theorem a88(I:Inv X ξ U H s):∀(d d':Dt)(A:bP)(x y:V)(u v:Value),At X.K H d x->At X.K H d' y->RelV x u->RelV y v->A.units+dep d<cLine->bD A s u v (deq d d')
 | .at_ p,.at_ q,A,x,y,u,v,h,h',r,r',hu=>by
  unfold At at h h';unfold deq
  obtain⟨rfl,f⟩:=h
  obtain⟨rfl,f'⟩:=h'
  exact Pi r r' f f'
 | .at_ p,.lst l,A,x,y,u,v,h,h',r,r',hu=>by
  unfold At at h h';unfold deq
  obtain⟨rfl,f⟩:=h
  obtain⟨a,xs,rfl,q,_⟩:=h'
  obtain⟨χ,_,pl,_⟩:=I.list q
  cases r'
  exact (Nv f r pl.isList (by omega)).1
 | .at_ p,.tup l,A,x,y,u,v,h,h',r,r',hu=>by
  unfold At at h h';unfold deq
  obtain⟨rfl,f⟩:=h
  obtain⟨a,xs,rfl,q,_⟩:=h'
  obtain⟨χ,_,pl,_⟩:=I.tuple q
  cases r'
  exact (K6 f r pl (by omega)).1
 | .lst l,.at_ p,A,x,y,u,v,h,h',r,r',hu=>by
  unfold At at h h';unfold deq
  obtain⟨rfl,f⟩:=h'
  obtain⟨a,xs,rfl,q,_⟩:=h
  obtain⟨χ,_,pl,_⟩:=I.list q
  cases r
  exact (Nv f r' pl.isList (by omega)).2
 | .tup l,.at_ p,A,x,y,u,v,h,h',r,r',hu=>by
  unfold At at h h';unfold deq
  obtain⟨rfl,f⟩:=h'
  obtain⟨a,xs,rfl,q,_⟩:=h
  obtain⟨χ,_,pl,_⟩:=I.tuple q
  cases r
  exact (K6 f r' pl (by omega)).2
 | .lst l,.tup l',A,x,y,u,v,h,h',r,r',hu=>by
  unfold At at h h';unfold deq
  obtain⟨a,xs,rfl,q,_⟩:=h
  obtain⟨b,ys,rfl,q',_⟩:=h'
  obtain⟨χ,_,pl,_⟩:=I.list q
  obtain⟨its',_,pl',_⟩:=I.tuple q'
  cases r;cases r'
  exact .list_tuple pl.isList pl' (by omega)
 | .tup l,.lst l',A,x,y,u,v,h,h',r,r',hu=>by
  unfold At at h h';unfold deq
  obtain⟨a,xs,rfl,q,_⟩:=h
  obtain⟨b,ys,rfl,q',_⟩:=h'
  obtain⟨χ,_,pl,_⟩:=I.tuple q
  obtain⟨its',_,pl',_⟩:=I.list q'
  cases r;cases r'
  exact .tuple_list pl pl'.isList (by omega)
 | .lst l,.lst l',A,x,y,u,v,h,h',r,r',hu=>by
  by_cases e:x=y
  .subst e
   have:=Tn I h h'
   rw[<- this,E8 h]
   have hx:∃a,x=.ref a:=by unfold At at h;obtain⟨a,_,e,_⟩:=h;exact⟨a,e⟩
   obtain⟨a,rfl⟩:=hx
   cases r;cases r'
   exact .same _
  .unfold At at h h';unfold deq
   unfold dep at hu
   obtain⟨a,xs,rfl,q,h⟩:=h
   obtain⟨b,ys,rfl,q',h'⟩:=h'
   obtain⟨χ,ri,pl,_⟩:=I.list q
   obtain⟨its',ri',pl',_⟩:=I.list q'
   cases r;cases r'
   have ne:a≠b:=λz=>e (by rw[z])
   have e1:=h.length
   have e2:=h'.length
   have e3:=ri.length
   have e4:=ri'.length
   refine .of_refs ne ?_
   by_cases hl:l.length=l'.length
   .rw[Dg (.lst []) hl]
    have hsz:χ.toArray.size=l.length:=by simp;omega
    rw[<- hsz]
    exact .lists pl.isList pl'.isList (by simp;omega) (by omega) λj h1 h2=>by
     have:=G5 I l l' A.in1 xs ys χ its' h h' ri ri' (by show A.units+1+E2 l<cLine;omega) j (by simpa using h1) (by simpa using h2)
     simpa using this
   .rw[E9 hl]
    exact .lists_lengths pl.isList pl'.isList (by simp;omega) (by omega)
 | .tup l,.tup l',A,x,y,u,v,h,h',r,r',hu=>by
  by_cases e:x=y
  .subst e
   have:=Tn I h h'
   rw[<- this,E8 h]
   have hx:∃a,x=.ref a:=by unfold At at h;obtain⟨a,_,e,_⟩:=h;exact⟨a,e⟩
   obtain⟨a,rfl⟩:=hx
   cases r;cases r'
   exact .same _
  .unfold At at h h';unfold deq
   unfold dep at hu
   obtain⟨a,xs,rfl,q,h⟩:=h
   obtain⟨b,ys,rfl,q',h'⟩:=h'
   obtain⟨χ,ri,pl,_⟩:=I.tuple q
   obtain⟨its',ri',pl',_⟩:=I.tuple q'
   cases r;cases r'
   have ne:a≠b:=λz=>e (by rw[z])
   have e1:=h.length
   have e2:=h'.length
   have e3:=ri.length
   have e4:=ri'.length
   refine .of_refs ne ?_
   have T:=ja (A:=A) (s:=s) (e:=λj=>deq (l.getD j (.lst [])) (l'.getD j (.lst []))) pl pl' (by omega) λj h1 h2=>by
     have:=G5 I l l' A.in1 xs ys χ its' h h' ri ri' (by show A.units+1+E2 l<cLine;omega) j (by simpa using h1) (by simpa using h2)
     simpa using this
   by_cases hl:l.length=l'.length
   .rw[Dg (.lst []) hl]
    have hsz:χ.toArray.size=l.length:=by simp;omega
    have hsz':its'.toArray.size=l.length:=by simp;omega
    rw[hsz,hsz',lG,beq_self_eq_true,gr] at T
    exact T
   .rw[E9 hl]
    have hne:(χ.toArray.size==its'.toArray.size)=false:=by
     rw[beq_eq_false_iff_ne];simp;omega
    rw[hne,g8] at T
    exact T
theorem G5(I:Inv X ξ U H s):∀(ds ds':List Dt)(A:bP)(xs ys:List V)(us vs:List Value),AtL X.K H ds xs->AtL X.K H ds' ys->Vals xs us->Vals ys vs->A.units+E2 ds<cLine ->
  ∀(j:Nat)(h1:j<us.length)(h2:j<vs.length),bD A s us[j] vs[j] (deq (ds.getD j (.lst [])) (ds'.getD j (.lst [])))
 | [],_,A,xs,ys,us,vs,h,h',r,r',hu=>λj h1 h2=>by
  unfold AtL at h
  subst h
  cases r
  cases h1
 | _::_,[],A,xs,ys,us,vs,h,h',r,r',hu=>λj h1 h2=>by
  unfold AtL at h'
  subst h'
  cases r'
  cases h2
 | d::ds,d'::ds',A,xs,ys,us,vs,h,h',r,r',hu=>λj h1 h2=>by
  unfold AtL at h h'
  obtain⟨y,ys,rfl,q1,q2⟩:=h
  obtain⟨z,zs,rfl,q1',q2'⟩:=h'
  cases r with
  |cons r1 r2=>
   cases r' with
   |cons r1' r2'=>
    unfold E2 at hu
    have m1:dep d<=Nat.max (dep d) (E2 ds):=Nat.le_max_left _ _
    have m2:E2 ds<=Nat.max (dep d) (E2 ds):=Nat.le_max_right _ _
    cases j with
    |zero=>exact a88 I d d' A _ _ _ _ q1 q1' r1 r1' (by omega)
    |succ j=>exact G5 I ds ds' A _ _ _ _ q2 q2' r2 r2' (by omega) j (by simpa using h1) (by simpa using h2)
end
theorem Fv {K:ac}{d:Dt}{a:Addr}(h:At K H d (.ref a)):(∃l xs,d=.lst l/\SqL K H a xs/\AtL K H l xs)\/(∃l xs,d=.tup l/\SqT K H a xs/\AtL K H l xs):=by
 cases d with
 |at_ v=>
  unfold At at h
  rw[<- h.1] at h
  exact absurd (show false=true from h.2) au
 |lst l=>unfold At at h;obtain⟨b,xs,e,q,h⟩:=h;cases e;exact .inl ⟨l,xs,rfl,q,h⟩
 |tup l=>unfold At at h;obtain⟨b,xs,e,q,h⟩:=h;cases e;exact .inr ⟨l,xs,rfl,q,h⟩
theorem R5 {K:ac}{d:Dt}{x:V}(h:At K H d x)(f:∀a,x≠.ref a):d=.at_ x/\B1 x=true:=by
 cases d with
 |at_ v=>unfold At at h;rw[h.1];exact⟨rfl,h.2⟩
 |lst l=>unfold At at h;obtain⟨b,xs,e,_⟩:=h;exact absurd e (f b)
 |tup l=>unfold At at h;obtain⟨b,xs,e,_⟩:=h;exact absurd e (f b)
theorem b33(I:Inv X ξ U H s){A:bP}{d d':Dt}{a b:Addr}(h:At X.K H d (.ref a))(h':At X.K H d' (.ref b))(hu:A.units+dep d<cLine):gZ A s (.ref a) (.ref b) (deq d d')/\fF A s (.ref a) (.ref b) (!deq d d'):=by
 rcases Fv h with ⟨l,xs,rfl,q,h⟩|⟨l,xs,rfl,q,h⟩
 .rcases Fv h' with ⟨l',ys,rfl,q',h'⟩|⟨l',ys,rfl,q',h'⟩
  .unfold deq
   unfold dep at hu
   obtain⟨χ,ri,pl,_⟩:=I.list q
   obtain⟨its',ri',pl',_⟩:=I.list q'
   have e1:=h.length
   have e2:=h'.length
   have e3:=ri.length
   have e4:=ri'.length
   have it:∀j (h1:j<χ.toArray.size) (h2:j<its'.toArray.size),bD A.in1 s χ.toArray[j] its'.toArray[j] (deq (l.getD j (.lst [])) (l'.getD j (.lst []))):=λj h1 h2=>by
    have:=G5 I l l' A.in1 xs ys χ its' h h' ri ri' (by show A.units+1+E2 l<cLine;omega) j (by simpa using h1) (by simpa using h2)
    simpa using this
   by_cases hl:l.length=l'.length
   .rw[Dg (.lst []) hl]
    have hsz:χ.toArray.size=l.length:=by simp;omega
    rw[<- hsz]
    exact⟨.lists pl.isList pl'.isList (by simp;omega) (by omega) it,.lists pl.isList pl'.isList (by simp;omega) (by omega) it⟩
   .rw[E9 hl]
    exact⟨.lists_lengths pl.isList pl'.isList (by simp;omega) (by omega),.lists_lengths pl.isList pl'.isList (by simp;omega) (by omega)⟩
  .unfold deq
   obtain⟨χ,ri,pl,_⟩:=I.list q
   obtain⟨its',ri',pl',_⟩:=I.tuple q'
   exact⟨.list_tuple pl.isList pl' (by omega),.list_tuple pl.isList pl' (by omega)⟩
 .rcases Fv h' with ⟨l',ys,rfl,q',h'⟩|⟨l',ys,rfl,q',h'⟩
  .unfold deq
   obtain⟨χ,ri,pl,_⟩:=I.tuple q
   obtain⟨its',ri',pl',_⟩:=I.list q'
   exact⟨.tuple_list pl pl'.isList (by omega),.tuple_list pl pl'.isList (by omega)⟩
  .unfold deq
   unfold dep at hu
   obtain⟨χ,ri,pl,_⟩:=I.tuple q
   obtain⟨its',ri',pl',_⟩:=I.tuple q'
   have e1:=h.length
   have e2:=h'.length
   have e3:=ri.length
   have e4:=ri'.length
   have it:∀j (h1:j<χ.toArray.size) (h2:j<its'.toArray.size),bD A.in1 s χ.toArray[j] its'.toArray[j] (deq (l.getD j (.lst [])) (l'.getD j (.lst []))):=λj h1 h2=>by
    have:=G5 I l l' A.in1 xs ys χ its' h h' ri ri' (by show A.units+1+E2 l<cLine;omega) j (by simpa using h1) (by simpa using h2)
    simpa using this
   have T:=ja pl pl' (by omega) it
   have T':=SeqAt.RcNeAt.tuples pl pl' (by omega) it
   by_cases hl:l.length=l'.length
   .rw[Dg (.lst []) hl]
    have hsz:χ.toArray.size=l.length:=by simp;omega
    have hsz':its'.toArray.size=l.length:=by simp;omega
    rw[hsz,hsz',lG,beq_self_eq_true,gr] at T T'
    exact⟨T,T'⟩
   .rw[E9 hl]
    have hne:(χ.toArray.size==its'.toArray.size)=false:=by
     rw[beq_eq_false_iff_ne];simp;omega
    rw[hne,g8] at T T'
    exact⟨T,T'⟩
theorem Xi(I:Inv X ξ U H s){A:bP}{d:Dt}{a:Addr}{v:V}{u:Value}(h:At X.K H d (.ref a))(f:B1 v=true)(r:RelV v u)(hu:A.units<cLine) :
  gZ A s (.ref a) u false/\fF A s (.ref a) u true/\gZ A s u (.ref a) false/\fF A s u (.ref a) true:=by
 rcases Fv h with ⟨l,xs,rfl,q,h⟩|⟨l,xs,rfl,q,h⟩
 .obtain⟨χ,ri,pl,_⟩:=I.list q
  cases v with
  |non=>cases r;exact⟨.list_none pl.isList hu,.list_none pl.isList hu,.none_list pl.isList hu,.none_list pl.isList hu⟩
  |bl b=>cases r;exact⟨.list_bool b pl.isList hu,.list_bool b pl.isList hu,.bool_list b pl.isList hu,.bool_list b pl.isList hu⟩
  |int b=>obtain⟨t,rfl⟩:=r;exact⟨.list_int b t pl.isList hu,.list_int b t pl.isList hu,.int_list b t pl.isList hu,.int_list b t pl.isList hu⟩
  |str b=>obtain⟨t,rfl⟩:=r;exact⟨.list_str b t pl.isList hu,.list_str b t pl.isList hu,.str_list b t pl.isList hu,.str_list b t pl.isList hu⟩
  |_=>exact absurd (show false=true from f) au
 .obtain⟨χ,ri,pl,_⟩:=I.tuple q
  cases v with
  |non=>cases r;exact⟨.tuple_none pl hu,.tuple_none pl hu,.none_tuple pl hu,.none_tuple pl hu⟩
  |bl b=>cases r;exact⟨.tuple_bool b pl hu,.tuple_bool b pl hu,.bool_tuple b pl hu,.bool_tuple b pl hu⟩
  |int b=>obtain⟨t,rfl⟩:=r;exact⟨.tuple_int b t pl hu,.tuple_int b t pl hu,.int_tuple b t pl hu,.int_tuple b t pl hu⟩
  |str b=>obtain⟨t,rfl⟩:=r;exact⟨.tuple_str b t pl hu,.tuple_str b t pl hu,.str_tuple b t pl hu,.str_tuple b t pl hu⟩
  |_=>exact absurd (show false=true from f) au
noncomputable def Y9(K:ac)(neg:Bool):R2:=λx y H Q=>∃d d',At K H d x/\At K H d' y/\dep d<=40/\Q (.bl (if neg then !deq d d' else deq d d')) H
theorem am6(I:Inv X ξ U H s){A:bP}{d d':Dt}{x y:V}{u v:Value}(h:At X.K H d x)(h':At X.K H d' y)(r:RelV x u)(r':RelV y v)(hr:(∃a,x=.ref a) \/ ∃b,y=.ref b)(hu:A.units+dep d<cLine) :
  gZ A s u v (deq d d')/\fF A s u v (!deq d d'):=by
 by_cases hx:∃a,x=.ref a
 .obtain⟨a,rfl⟩:=hx
  cases r
  by_cases hy:∃b,y=.ref b
  .obtain⟨b,rfl⟩:=hy
   cases r'
   exact b33 I h h' hu
  .obtain⟨rfl,f⟩:=R5 h' (λb e=>hy ⟨b,e⟩)
   obtain⟨q1,q2,_⟩:=Xi I h f r' (show A.units<cLine by omega)
   have e:deq d (.at_ y)=false:=by
    rcases Fv h with ⟨l,xs,rfl,_⟩|⟨l,xs,rfl,_⟩ <;> (unfold deq;rfl)
   rw[e]
   exact⟨q1,q2⟩
 .have hy:∃b,y=.ref b:=hr.resolve_left hx
  obtain⟨b,rfl⟩:=hy
  cases r'
  obtain⟨rfl,f⟩:=R5 h (λb e=>hx ⟨b,e⟩)
  obtain⟨_,_,q1,q2⟩:=Xi I h' f r (show A.units<cLine by omega)
  have e:deq (.at_ x) d'=false:=by
   rcases Fv h' with ⟨l,xs,rfl,_⟩|⟨l,xs,rfl,_⟩ <;> (unfold deq;rfl)
  rw[e]
  exact⟨q1,q2⟩
theorem Uz1(hu:X.A.units+64<cLine)(I:Inv X ξ U H s)(rx:RelV x u)(ry:RelV y v)(hr:(∃a,x=.ref a) \/ ∃b,y=.ref b)(h:Y9 X.K false x y H Q):aK (model X.prog X.w) X.A (cG .Eq u v) (EP X ξ U Q) X.xe s:=by
 obtain⟨d,d',h1,h2,hd,q⟩:=h
 exact (am6 I h1 h2 rx ry hr (A:=X.A) (by omega)).1 _ _ _ _ ⟨.bl _,H,I,rfl,q⟩
theorem Uz2(hu:X.A.units+64<cLine)(I:Inv X ξ U H s)(rx:RelV x u)(ry:RelV y v)(hr:(∃a,x=.ref a) \/ ∃b,y=.ref b)(h:Y9 X.K true x y H Q):aK (model X.prog X.w) X.A (cG .NotEq u v) (EP X ξ U Q) X.xe s:=by
 obtain⟨d,d',h1,h2,hd,q⟩:=h
 exact (am6 I h1 h2 rx ry hr (A:=X.A) (by omega)).2 _ _ _ _ ⟨.bl _,H,I,rfl,q⟩
end
open AutoSeq1 (wpAny_loadPart')
open MeetsSeq MeetsSeq2 MeetsSeq3 SeqRoads2
noncomputable def bl3(K:ac)(neg:Bool):R2:=λx y H Q=>match x,y with
 |.ref a,.ref b=>False\/(∃kvs,Rd H a (.dK kvs)/\Rd H b (.dK [])/\Q (.bl (if neg then !kvs.isEmpty else kvs.isEmpty)) H)\/(∃xs ys,SqL K H a xs/\SqL K H b ys/\xs.length≠ys.length/\Q (.bl neg) H)
 |_,_=>False
section
theorem bf8(hu:X.A.units+64<cLine)(I:Inv X ξ U H s)(rx:RelV x u)(ry:RelV y v)(h:bl3 X.K false x y H Q):aK (model X.prog X.w) X.A (cG .Eq u v) (EP X ξ U Q) X.xe s:=by
 cases x <;> cases y <;> first|exact (show False from h).elim|skip
 cases rx;cases ry
 rcases h with h|⟨kvs,h1,h2,q⟩|⟨xs,ys,h1,h2,len,q⟩
 .exact h.elim
 .obtain⟨_,z1,ka,r1,d1⟩:=Dh I.hok h1
  obtain⟨_,z2,kb,r2,d2⟩:=Dh I.hok h2
  cases r2
  refine PySem.W.keq_eq (r:=true) z1 z2 d1 d2 (by omega) (λe=>?_) ?_
  .rw[List.length_eq_zero_iff.mp e];exact .nil
  .have e:(ka.length==([]:List (Key×Value)).length&&true)=kvs.isEmpty:=by
    rw[gr,<- r1.length]
    cases kvs <;> rfl
   rw[e]
   exact⟨.bl _,H,I,rfl,q⟩
 .obtain⟨χ,ri,pl,_⟩:=I.list h1
  obtain⟨its',ri',pl',_⟩:=I.list h2
  have e3:=ri.length
  have e4:=ri'.length
  exact SeqAt.RcAt.lists_lengths pl.isList pl'.isList (by simp;omega) (by omega) _ _ _ _ ⟨.bl _,H,I,rfl,q⟩
theorem bg3(hu:X.A.units+64<cLine)(I:Inv X ξ U H s)(rx:RelV x u)(ry:RelV y v)(h:bl3 X.K true x y H Q):aK (model X.prog X.w) X.A (cG .NotEq u v) (EP X ξ U Q) X.xe s:=by
 cases x <;> cases y <;> first|exact (show False from h).elim|skip
 cases rx;cases ry
 rcases h with h|⟨kvs,h1,h2,q⟩|⟨xs,ys,h1,h2,len,q⟩
 .exact h.elim
 .obtain⟨_,z1,ka,r1,d1⟩:=Dh I.hok h1
  obtain⟨_,z2,kb,r2,d2⟩:=Dh I.hok h2
  cases r2
  refine PySem.W.keq_ne (r:=true) z1 z2 d1 d2 (by omega) (λe=>?_) ?_
  .rw[List.length_eq_zero_iff.mp e];exact .nil
  .have e:(!(ka.length==([]:List (Key×Value)).length&&true)) = !kvs.isEmpty:=by
    rw[gr,<- r1.length]
    cases kvs <;> rfl
   rw[e]
   exact⟨.bl _,H,I,rfl,q⟩
 .obtain⟨χ,ri,pl,_⟩:=I.list h1
  obtain⟨its',ri',pl',_⟩:=I.list h2
  have e3:=ri.length
  have e4:=ri'.length
  exact iL pl.isList pl'.isList (by simp;omega) (by omega) _ _ _ _ ⟨.bl _,H,I,rfl,q⟩
end
end L2
namespace L2
open PySem PySem.Spec PyProof.Rows
section
noncomputable def al9:R2:=λx y H Q=>match x,y with
 |.str a,.int k=>∃z:Str,(k=0/\z=h_\/k=1/\z=a)/\Q (.str z) H
 |_,_=>False
theorem ax4:OpR X (dD .Mult) al9:=by
 intro ξ s U H x y v u Q I rx ry h
 unfold al9 at h
 split at h
 .rename_i a k
  obtain⟨t,rfl⟩:=rx
  obtain⟨t',rfl⟩:=ry
  obtain⟨z,⟨rfl,rfl⟩|⟨rfl,rfl⟩,q⟩:=h
  .refine PySem.P.mul_str rfl (λz _=>absurd (by decide) z) (λz _=>absurd (by decide) z) ?_
   rw[if_pos (by decide)]
   exact⟨by decide,.str _,H,I.tok _,⟨_,rfl⟩,q⟩
  .refine PySem.P.mul_str rfl (λ_ z=>by cases z) (λ_ z=>by cases z) ?_
   rw[if_neg (by decide)]
   exact⟨.str _,H,I,⟨_,rfl⟩,q⟩
 .exact h.elim
end
section
noncomputable def Qa:List V->Hp->VK->Prop:=λxs H Q=>∃p kvs,xs=[.ref p]/\Rd H p (.dK kvs)/\∀q,H q=none->Q (.ref q) (upd H q (.dK kvs))
theorem Tq:B9 X (.type "dict") Qa:=by
 intro ξ s U H xs us Q I r h
 obtain⟨p,kvs,rfl,e,q⟩:=h
 obtain⟨u,rfl,rx⟩:=Dn r
 cases rx
 obtain⟨z,hd,vs,rel,dd⟩:=Dh I.hok e
 refine kt_call_dict hd dd (by rw[<- rel.length];exact z) λh' hm hs=>?_
 have kp:∀b o',s.heap.get? b=some o'->h'.get? b=some o':=λb o' hb=>by
  have hlt:=aF hb
  rw[hs.2 b (aT hlt)]
  exact ah _ hb
 exact⟨.ref s.heap.objs.size,_,I.laid (t':=s.toks) kp (ag _) (ad6 z (by rw[beq_eq_false_iff_ne];exact cA (aT I.big)) rel hm),rfl,q _ (I.hok.fresh (ag _))⟩
theorem boot_dict:cW "dict"=some (.type "dict"):=by decide +kernel
end
noncomputable def rNo:R2:=λ_ _ _ _=>False
noncomputable def Ba(K:ac):R2:=λx y H Q=>match x,y with
 |.int i,.int j=>Q (.int (i+j)) H
 |.str a,.str b=>a.length+b.length<=sizeLine/\Q (.str (a++b)) H
 |.ref a,.ref b=>bv9 (.ref a) (.ref b) H Q\/a47 K (.ref a) (.ref b) H Q\/a46 K (.ref a) (.ref b) H Q
 |_,_=>False
noncomputable def am5:R2:=λx y H Q=>match x,y with
 |.int i,.int j=>Q (.int (i - j)) H
 |_,_=>False
noncomputable def C6(K:ac):R2:=λx y H Q=>match x,y with
 |.int i,.int j=>CMul i j/\Q (.int (i * j)) H
 |.str a,.int k=>al9 (.str a) (.int k) H Q
 |_,_=>False
noncomputable def Dl:R2:=λx y H Q=>match x,y with
 |.int i,.int j=>bn7 i j/\Q (.int (i / j)) H
 |_,_=>False
noncomputable def Bh:R2:=λx y H Q=>match x,y with
 |.int i,.int j=>0<j/\Q (.int (i % j)) H
 |_,_=>False
noncomputable def a48:R2:=λx y H Q=>match x,y with
 |.int i,.int j=>as0 i j/\Q (.int (i ^ j.toNat)) H
 |_,_=>False
noncomputable def Jh:R2:=λx y H Q=>match x,y with
 |.int i,.int j=>as0 i j/\Q (.int (i * 2 ^ j.toNat)) H
 |_,_=>False
noncomputable def Xh:R2:=λx y H Q=>match x,y with
 |.int i,.int j=>0<=j/\Q (.int (i / 2 ^ j.toNat)) H
 |_,_=>False
noncomputable def Jg:R2:=λx y H Q=>match x,y with
 |.int i,.int j=>Q (.int (cu i j)) H
 |_,_=>False
noncomputable def am0:R2:=λx y H Q=>match x,y with
 |.int i,.int j=>Q (.int (cN i j)) H
 |_,_=>False
noncomputable def bw1:R2:=λx y H Q=>match x,y with
 |.int i,.int j=>Q (.int (Builtin.bitXor i j)) H
 |_,_=>False
noncomputable def rOp(K:ac):Operator->R2
 |.Add=>Ba K
 |.Sub=>am5
 |.Mult=>C6 K
 |.FloorDiv=>Dl
 |.Mod=>Bh
 |.Pow=>a48
 |.LShift=>Jh
 |.RShift=>Xh
 |.BitAnd=>Jg
 |.BitOr=>am0
 |.BitXor=>bw1
 |_=>rNo
section
theorem b24(op:Operator):OpR X (dD op) (rOp X.K op):=by
 intro ξ s U H x y v u Q I rx ry h
 cases op with
 |Add=>
  cases x <;> cases y <;> first
   |exact (show False from h).elim
   |exact bf6 ξ s U H _ _ v u Q I rx ry ⟨_,_,rfl,rfl,h⟩
   |exact Uz0 ξ s U H _ _ v u Q I rx ry ⟨_,_,rfl,rfl,h⟩
   |exact (op_cat.or (op_catT.or ax2)) ξ s U H _ _ v u Q I rx ry h
 |Sub=>cases x <;> cases y <;> first|exact (show False from h).elim|exact bg8 ξ s U H _ _ v u Q I rx ry ⟨_,_,rfl,rfl,h⟩
 |Mult=>cases x <;> cases y <;> first|exact (show False from h).elim|exact bg2 ξ s U H _ _ v u Q I rx ry ⟨_,_,rfl,rfl,h⟩|exact ax4 ξ s U H _ _ v u Q I rx ry h
 |FloorDiv=>cases x <;> cases y <;> first|exact (show False from h).elim|exact ax3 ξ s U H _ _ v u Q I rx ry ⟨_,_,rfl,rfl,h⟩
 |Mod=>cases x <;> cases y <;> first|exact (show False from h).elim|exact bg1 ξ s U H _ _ v u Q I rx ry ⟨_,_,rfl,rfl,h⟩
 |Pow=>cases x <;> cases y <;> first|exact (show False from h).elim|exact bg5 ξ s U H _ _ v u Q I rx ry ⟨_,_,rfl,rfl,h⟩
 |LShift=>cases x <;> cases y <;> first|exact (show False from h).elim|exact bg6 ξ s U H _ _ v u Q I rx ry ⟨_,_,rfl,rfl,h⟩
 |RShift=>cases x <;> cases y <;> first|exact (show False from h).elim|exact bg7 ξ s U H _ _ v u Q I rx ry ⟨_,_,rfl,rfl,h⟩
 |BitAnd=>cases x <;> cases y <;> first|exact (show False from h).elim|exact bf7 ξ s U H _ _ v u Q I rx ry ⟨_,_,rfl,rfl,h⟩
 |BitOr=>cases x <;> cases y <;> first|exact (show False from h).elim|exact bu5 ξ s U H _ _ v u Q I rx ry ⟨_,_,rfl,rfl,h⟩
 |BitXor=>cases x <;> cases y <;> first|exact (show False from h).elim|exact bg9 ξ s U H _ _ v u Q I rx ry ⟨_,_,rfl,rfl,h⟩
 |_=>exact (show False from h).elim
end
noncomputable def Bz(K:ac)(neg:Bool):R2:=λx y H Q=>match x,y with
 |.ref a,.ref b=>bl4 K neg (.ref a) (.ref b) H Q\/Y9 K neg (.ref a) (.ref b) H Q\/bl3 K neg (.ref a) (.ref b) H Q\/False\/False
 |.ref a,y=>Y9 K neg (.ref a) y H Q\/False
 |x,.ref b=>Y9 K neg x (.ref b) H Q
 |.int i,.int j=>Q (.bl (if neg then !decide (i=j) else decide (i=j))) H
 |.str i,.str j=>Q (.bl (if neg then !decide (i=j) else decide (i=j))) H
 |.bl i,.bl j=>Q (.bl (if neg then !(i==j) else (i==j))) H
 |x,y=>bl9 x y=true/\Q (.bl (if neg then !decide (x=y) else decide (x=y))) H
noncomputable def bl6:R2:=λx y H Q=>match x,y with
 |.int i,.int j=>Q (.bl (decide (i<j))) H
 |.str i,.str j=>Q (.bl (decide (i.cps.toList<j.cps.toList))) H
 |_,_=>False
noncomputable def Io:R2:=λx y H Q=>match x,y with
 |.int i,.int j=>Q (.bl (decide (i<=j))) H
 |.str i,.str j=>Q (.bl (!decide (j.cps.toList<i.cps.toList))) H
 |_,_=>False
noncomputable def Za:R2:=λx y H Q=>match x,y with
 |.int i,.int j=>Q (.bl (decide (j<i))) H
 |_,_=>False
noncomputable def b27:R2:=λx y H Q=>match x,y with
 |.int i,.int j=>Q (.bl (decide (j<=i))) H
 |_,_=>False
noncomputable def Jo(K:ac)(neg:Bool):R2:=λx y H Q=>match x,y with
 |.non,_=>False
 |x,.ref p=>rIn K neg x (.ref p) H Q \/ ∃o,(Zv H p x o\/False)/\Q (.bl (if neg then !o.isSome else o.isSome)) H
 |_,_=>False
noncomputable def bl5(neg:Bool):R2:=λx y H Q=>match y with
 |.non=>Q (.bl (if neg then !decide (x=.non) else decide (x=.non))) H
 | .bl d=>(match x with
  |.bl c=>Q (.bl (if neg then !(c==d) else (c==d))) H
  |_=>False)
 |_=>False
noncomputable def Mv(K:ac):mG->R2
 |.Eq=>Bz K false
 |.NotEq=>Bz K true
 |.Lt=>bl6
 |.LtE=>Io
 |.Gt=>Za
 |.GtE=>b27
 |.In=>Jo K false
 |.NotIn=>Jo K true
 |.Is=>bl5 false
 |.IsNot=>bl5 true
section
theorem Np(hu:X.A.units+64<cLine)(op:mG):OpR X (cG op) (Mv X.K op):=by
  intro ξ s U H x y v u Q I rx ry h
  cases op with
  |Eq=>
    cases x <;> cases y <;> first
      | (rcases h with h|h|h|h|h
         . exact bf9 (by omega) ξ s U H _ _ v u Q I rx ry h
         . exact Uz1 hu I rx ry (.inl ⟨_,rfl⟩) h
         . exact bf8 hu I rx ry h
         . exact h.elim
         . exact h.elim)
      | (rcases h with h|h
         . exact Uz1 hu I rx ry (.inl ⟨_,rfl⟩) h
         . exact h.elim)
      |exact Uz1 hu I rx ry (.inr ⟨_,rfl⟩) h
      |exact W6 ξ s U H _ _ v u Q I rx ry h
      |exact W6 ξ s U H _ _ v u Q I rx ry ⟨rfl,by rw[J4,fv];exact h⟩
      |exact W6 ξ s U H _ _ v u Q I rx ry ⟨rfl,by rw[J5,fv];exact h⟩
      |exact W6 ξ s U H _ _ v u Q I rx ry ⟨rfl,by rw[Pf];exact h⟩
  |NotEq=>
    cases x <;> cases y <;> first
      | (rcases h with h|h|h|h|h
         . exact bg4 (by omega) ξ s U H _ _ v u Q I rx ry h
         . exact Uz2 hu I rx ry (.inl ⟨_,rfl⟩) h
         . exact bg3 hu I rx ry h
         . exact h.elim
         . exact h.elim)
      | (rcases h with h|h
         . exact Uz2 hu I rx ry (.inl ⟨_,rfl⟩) h
         . exact h.elim)
      |exact Uz2 hu I rx ry (.inr ⟨_,rfl⟩) h
      |exact W7 ξ s U H _ _ v u Q I rx ry h
      |exact W7 ξ s U H _ _ v u Q I rx ry ⟨rfl,by rw[J4,fv];exact h⟩
      |exact W7 ξ s U H _ _ v u Q I rx ry ⟨rfl,by rw[J5,fv];exact h⟩
      |exact W7 ξ s U H _ _ v u Q I rx ry ⟨rfl,by rw[Pf];exact h⟩
  |Lt=>cases x <;> cases y <;> first|exact (show False from h).elim|exact bu4 ξ s U H _ _ v u Q I rx ry ⟨_,_,rfl,rfl,h⟩|exact Y0 ξ s U H _ _ v u Q I rx ry ⟨_,_,rfl,rfl,h⟩
  |LtE=>cases x <;> cases y <;> first|exact (show False from h).elim|exact bu3 ξ s U H _ _ v u Q I rx ry ⟨_,_,rfl,rfl,h⟩|exact Yz ξ s U H _ _ v u Q I rx ry ⟨_,_,rfl,rfl,h⟩
  |Gt=>cases x <;> cases y <;> first|exact (show False from h).elim|exact bu2 ξ s U H _ _ v u Q I rx ry ⟨_,_,rfl,rfl,h⟩
  |GtE=>cases x <;> cases y <;> first|exact (show False from h).elim|exact bu1 ξ s U H _ _ v u Q I rx ry ⟨_,_,rfl,rfl,h⟩
  |In=>cases x <;> cases y <;> first|exact (show False from h).elim|exact h.elim (Yy ξ s U H _ _ v u Q I rx ry) (fun⟨o,g,q⟩=>by cases ry;exact b18 I (g.resolve_right id) rx λs' I'=>⟨.bl _,H,I',rfl,q⟩)
  |NotIn=>cases x <;> cases y <;> first|exact (show False from h).elim|exact h.elim (P0 ξ s U H _ _ v u Q I rx ry) (fun⟨o,g,q⟩=>by cases ry;exact au4 I (g.resolve_right id) rx λs' I'=>⟨.bl _,H,I',rfl,q⟩)
  |Is=>cases y <;> first|exact (show False from h).elim|exact bg0 ξ s U H _ _ v u Q I rx ry ⟨rfl,h⟩|(cases x <;> first|exact (show False from h).elim|(cases rx;cases ry;exact is_bool ⟨.bl _,H,I,rfl,h⟩))
  |IsNot=>cases y <;> first|exact (show False from h).elim|exact ax5 ξ s U H _ _ v u Q I rx ry ⟨rfl,h⟩|(cases x <;> first|exact (show False from h).elim|(cases rx;cases ry;exact isnot_bool ⟨.bl _,H,I,rfl,h⟩))
end
noncomputable def Xg:V->Hp->VK->Prop:=λx H Q=>match x with
 |.int i=>Q (.int (-i)) H
 |_=>False
theorem b71:UnR X (mF .USub) Xg:=by
 intro ξ s U H x v Q I rx h
 cases x <;> first|exact (show False from h).elim|exact bn1 ξ s U H _ v Q I rx ⟨_,rfl,h⟩
noncomputable def Xf:V->Hp->VK->Prop:=λx H Q=>match x with
 |.int i=>Q (.int (ck i)) H
 |_=>False
theorem bq6:UnR X (mF .Invert) Xf:=by
 intro ξ s U H x v Q I rx h
 cases x <;> first|exact (show False from h).elim|exact bn0 ξ s U H _ v Q I rx ⟨_,rfl,h⟩
theorem Xy:bo5 X (aq7 X.K):=by
 intro ξ s U H x v Q I rx h
 cases x with
 |non=>exact Mi ξ s U H _ v Q I rx ⟨_,rfl,h⟩
 |bl b=>exact Mi ξ s U H _ v Q I rx ⟨_,rfl,h⟩
 |int i=>exact Mi ξ s U H _ v Q I rx ⟨_,rfl,h⟩
 |str y=>exact Mi ξ s U H _ v Q I rx ⟨_,⟨h.1,rfl⟩,h.2⟩
 |ref p=>exact Mi ξ s U H _ v Q I rx h
 |_=>exact (show False from h).elim
inductive SqX (K:ac) (H:Hp) (p:Addr) (i:Int) (xs:List V):Prop where
 |inl (h:SqL K H p xs)
 |inr (h:SqT K H p xs)
 |dk (h:∀v,atI xs i=some v->DGet H p (.int i) (some v))
noncomputable def Ax(K:ac):R2:=λx y H Q=>match x,y with
 |.str z,.int i=>z.length<=sizeLine/\∃c,atI z.cps.toList i=some c/\Q (.str ⟨#[c]⟩) H
 |.ref p,.int i=>∃xs v,SqX K H p i xs/\atI xs i=some v/\Q v H
 |.ref p,.str k=>∃v,DGet H p (.str k) (some v)/\Q v H
 |.ref p,.ref b=>∃v,DGet H p (.ref b) (some v)/\Q v H
 |_,_=>False
theorem b23(hu:X.A.units+64<cLine):IxR X (Ax X.K):=by
  intro value slice ξ s U H x y v u Q I rx ry h hs
  cases x <;> cases y <;> first
    |exact (show False from h).elim
    |(obtain⟨h1,c,h2,h3⟩:=h;exact ba2 value slice ξ s U H _ _ v u Q I rx ry ⟨_,_,c,rfl,rfl,h1,h2,h3⟩ hs)
    | (obtain⟨xs,w,h1|h1|h1,h2,h3⟩:=h
       . exact av6 value slice ξ s U H _ _ v u Q I rx ry ⟨_,_,_,_,rfl,rfl,h1,h2,h3⟩ hs
       . exact ba3 value slice ξ s U H _ _ v u Q I rx ry ⟨_,_,_,_,rfl,rfl,h1,h2,h3⟩ hs
       . exact Kf hu value slice ξ s U H _ _ v u Q I rx ry ⟨_,w,rfl,h1 w h2,h3⟩ hs)
    |(obtain⟨w,h1,h2⟩:=h;exact Kf hu value slice ξ s U H _ _ v u Q I rx ry ⟨_,w,rfl,h1,h2⟩ hs)
noncomputable def am4:V->V->V->Hp->(Hp->Prop)->Prop:=λo i v H N=>match o,i with
 |.ref p,.int k=>(∃xs j,H p=some (.lst xs)/\ixN xs.length k=some j/\N (upd H p (.lst (xs.set j v)))) \/ ∃H',DPut H p (.int k) v H'/\N H'
 |.ref p,i=>∃H',DPut H p i v H'/\N H'
 |_,_=>False
theorem bw5(hu:X.A.units+64<cLine):a75 X am4:=by
 intro ξ s U H o i v ov iv u Q I ro ri rv h
 cases o with
 |ref p=>
  have dp:∀ {H'},DPut H p i v H'->Q H'->aK (model X.prog X.w) X.A (mC ov iv u) (λ_ s'=>∃H',Inv X ξ U H' s'/\Q H') X.xe s:=λ{H'} g q=>by
   cases ro
   exact Yb (by omega) I g ri rv λs' I'=>⟨H',I',q⟩
  cases i with
  |int k=>
   rcases h with ⟨xs,j,h1,h2,h3⟩|⟨H',g,q⟩
   .exact an0 ξ s U H _ _ v ov iv u Q I ro ri rv ⟨p,xs,k,j,rfl,rfl,h1,h2,h3⟩
   .exact dp g q
  |_=>obtain⟨H',g,q⟩:=h;exact dp g q
 |_=>exact (show False from h).elim
noncomputable def By(K:ac)(f:Str):V->Hp->VK->Prop:=λx H Q=>match x with
 |.ref a=>(∃C dx fs v,H a=some (.ins C dx fs)/\Cls K C/\NoAttr K C f/\fs.lookup f=some v/\Q v H)\/(∃C fs v,ExcAt H a C fs/\ECls K C/\NoAttr K C f/\fs.lookup f=some v/\Q v H)
 |_=>False
noncomputable def am1(K:ac)(f:Str):V->V->Hp->(Hp->Prop)->Prop:=λx y H N=>match x with
 |.ref a=>(∃C dx fs,H a=some (.ins C dx fs)/\Cls K C/\NoAttr K C f/\fs.length<1000/\N (upd H a (.ins C dx (Dv f y fs))))\/(∃C,ECls K C/\NoAttr K C f/\bo1 H a C f y N)
 |_=>False
section
theorem bp9(I:Inv X ξ U H s)(rx:RelV x u)(h:By X.K f x H Q):aK (model X.prog X.w) A (lq u f b) (EP X ξ U Q) E s:=by
 cases x with
 |ref a=>
  cases rx
  rcases h with ⟨C,dx,fs,v,ea,c,n,l,q⟩|⟨C,fs,v,ea,c,n,l,q⟩
  .exact Ug I ea c n l λu' s2 I2 ru=>⟨v,H,I2,ru,q⟩
  .exact Yf I ea c n l λu' s2 I2 ru=>⟨v,H,I2,ru,q⟩
 |_=>exact (show False from h).elim
theorem bw3(I:Inv X ξ U H s)(rx:RelV x u)(ry:RelV y v)(h:am1 X.K f x y H N)(hQ:∀H' s',Inv X ξ U H' s'->N H'->Q () s') :
  aK (model X.prog X.w) A (mj u f v) Q E s:=by
 cases x with
 |ref a=>
  cases rx
  rcases h with ⟨C,dx,fs,ea,c,n,l,q⟩|⟨C,c,n,q⟩
  .exact Vh I ea c n l ry λs3 I3=>hQ _ _ I3 q
  .exact Zh I c n ry q hQ
 |_=>exact (show False from h).elim
end
structure FI where
 f:Addr
 fd:bo
 ps:List Str
 k:Nat
 sp:Sp
 dfs:List V
 ds:List Value
structure MI where
 C:Addr
 i:FI
inductive GB where
 |fn (i:FI)
 |cls (C:Addr) (i:Option FI)
 |met (m:Str) (l:List MI)
 |val (v:V) (u:Value)
 |exc (C:Addr) (i:Option FI)
noncomputable def C2:List (Str×GB)->Str->Option (List MI)
 |[],_=>none
 |(_,.met m l)::r,x=>if m=x then some l else C2 r x
 |_::r,x=>C2 r x
theorem Ch:∀ {gb:List (Str×GB)} {x:Str} {l:List MI},C2 gb x=some l -> ∃k,(k,GB.met x l)∈gb
 | (k,.met m l')::r,x,l,h=>by
  unfold C2 at h
  by_cases e:m=x
  .rw[if_pos e] at h;cases h;subst e;exact⟨k,by simp⟩
  .rw[if_neg e] at h;obtain⟨k,q⟩:=Ch h;exact⟨k,ax _ q⟩
 |(_,.fn _)::r,x,l,h=>by unfold C2 at h;obtain⟨k,q⟩:=Ch h;exact⟨k,ax _ q⟩
 |(_,.cls _ _)::r,x,l,h=>by unfold C2 at h;obtain⟨k,q⟩:=Ch h;exact⟨k,ax _ q⟩
 |(_,.val _ _)::r,x,l,h=>by unfold C2 at h;obtain⟨k,q⟩:=Ch h;exact⟨k,ax _ q⟩
 |(_,.exc _ _)::r,x,l,h=>by unfold C2 at h;obtain⟨k,q⟩:=Ch h;exact⟨k,ax _ q⟩
structure Sg where
 K:ac
 N:List Str
 sc:List (Str×cH)
 gb:List (Str×GB)
 bl:List Str
 top:Bool
 calm:Bool
noncomputable def Cj:List Str->Str->Nat->Option Nat
 |[],_,_=>none
 |y::r,x,i=>if y=x then some i else Cj r x (i+1)
theorem Ol:∀ {N:List Str} {x:Str} {i j:Nat},Cj N x j=some i->j<=i/\N[i - j]?=some x
 |[],_,_,_,h=>by cases h
 | y::r,x,i,j,h=>by
  unfold Cj at h
  by_cases e:y=x
  .rw[if_pos e] at h
   cases h
   refine⟨ag _,?_⟩
   rw[gh,e]
   rfl
  .rw[if_neg e] at h
   obtain⟨h1,h2⟩:=Ol h
   refine⟨by omega,?_⟩
   have:i - j=(i - (j+1))+1:=by omega
   rw[this,bI]
   exact h2
theorem Ee(h:Cj N x 0=some i):N[i]?=some x:=(Ol h).2
noncomputable def Ed(x:Str):Bool:=!(x==("__debug__" : Str)) && !(x==("__classdict__" : Str)) && !(x==("__name__" : Str))
noncomputable def Jn(G:Sg)(x:Str):Bool:=(G.sc.lookup x==some .globalImplicit)&&Ed x
noncomputable def Wb(x:Str):Option String:=
 if x="int" then some "int" else if x="bool" then some "bool" else if x="str" then some "str" else if x="list" then some "list" else if x="tuple" then some "tuple" else if x="dict" then some "dict" else if x="ValueError" then some "ValueError" else none
theorem au2:cW "ValueError"=some (.type "ValueError"):=by decide +kernel
theorem Zp(h:Wb x=some T):cW x=some (.type T):=by
 unfold Wb at h
 by_cases e1:x="int"
 .rw[if_pos e1] at h;cases h;rw[e1];exact jT
 rw[if_neg e1] at h
 by_cases e2:x="bool"
 .rw[if_pos e2] at h;cases h;rw[e2];exact PyProof.Rows.boot_bool
 rw[if_neg e2] at h
 by_cases e3:x="str"
 .rw[if_pos e3] at h;cases h;rw[e3];exact PyProof.Rows.boot_str
 rw[if_neg e3] at h
 by_cases e4:x="list"
 .rw[if_pos e4] at h;cases h;rw[e4];exact gN
 rw[if_neg e4] at h
 by_cases e5:x="tuple"
 .rw[if_pos e5] at h;cases h;rw[e5];exact jp
 rw[if_neg e5] at h
 by_cases e6:x="dict"
 .rw[if_pos e6] at h;cases h;rw[e6];exact PyProof.Rows.boot_dict
 rw[if_neg e6] at h
 by_cases e7:x="ValueError"
 .rw[if_pos e7] at h;cases h;rw[e7];exact au2
 rw[if_neg e7] at h
 cases h
noncomputable def Iy(CX:CXT)(X:Cx):Prop:=∀Ex,Meets X Ex -> ∀(ξ:List (Addr×Obj))(U:St)(H:Hp)(s:av)(e:Value)(s':av),Inv X ξ U H s->CX X.stack H s (λv _ H'=>∃a,v=.ref a/\Ex U a H') e s'->X.xe e s'
structure Gv (X:Cx) (i:FI):Prop where
 kp:bh X.K (.ref i.f)=true
 ok:∃CX,(∀X':Cx,X'.prog=X.prog->X'.w=X.w->Iy CX X')/\FnOk X.prog X.w X.K X.mg X.base CX i.k i.f i.fd i.ps i.sp
 room:Room i.k X.A
 binds:∀j,j<=i.dfs.length->Binds X.K i.fd i.ps (i.ds.drop j)
 vals:Vals i.dfs i.ds
noncomputable def Os(X:Cx)(C:Addr):Option FI->Prop
 |none=>True
 |some i=>bg X.K (.ref C) "__init__"=some (some (.ref i.f))/\cU X.K (.ref i.f)=true/\Gv X i/\Room (i.k+1) X.A
noncomputable def ab4(X:Cx)(C:Addr):Option FI->Prop
 |none=>dA X.K C=true/\bg X.K (.ref C) "__init__"=some (some (.builtin "object.__init__"))
 |some i=>dA X.K C=true/\bg X.K (.ref C) "__init__"=some (some (.ref i.f))/\cU X.K (.ref i.f)=true/\Gv X i/\Room (i.k+1) X.A
noncomputable def GBOk(X:Cx)(x:Str):GB->Prop
 |.fn i=>X.mg x=some (.ref i.f)/\Gv X i
 |.val v u=>X.mg x=some u/\RelV v u
 |.exc C oi=>X.mg x=some (.ref C)/\bh X.K (.ref C)=true/\ECls X.K C/\Os X C oi
 |.cls C oi=>X.mg x=some (.ref C)/\bh X.K (.ref C)=true/\ab4 X C oi
 |.met m l=>∀mi∈l,Cls X.K mi.C/\Q8 X.K mi.C m mi.i.f/\Gv X mi.i
theorem GBOk.to(hm:X'.mg=X.mg)(hK:X'.K=X.K)(hP:X'.prog=X.prog)(hw:X'.w=X.w)(hA:∀k,Room k X.A->Room k X'.A)(hf:∀i,Gv X i->Gv X' i)(h:GBOk X x g):GBOk X' x g:=by
 cases g with
 |fn i=>exact⟨hm▸h.1,hf i h.2⟩
 |val v u=>exact⟨hm▸h.1,h.2⟩
 |exc C oi=>
  obtain⟨a,b,c,d⟩:=h
  refine⟨hm▸a,hK▸b,hK▸c,?_⟩
  cases oi with
  |none=>exact aQ
  |some i=>obtain⟨d1,d2,d3,d4⟩:=d;exact⟨hK▸d1,hK▸d2,hf i d3,hA _ d4⟩
 |cls C oi=>
  obtain⟨a,b,d⟩:=h
  refine⟨hm▸a,hK▸b,?_⟩
  cases oi with
  |none=>unfold ab4 at d ⊢;rw[hK];exact d
  |some i=>obtain⟨d1,d2,d3,d4,d5⟩:=d;exact⟨hK▸d1,hK▸d2,hK▸d3,hf i d4,hA _ d5⟩
 |met m l=>exact λmi hi=>⟨hK▸(h mi hi).1,hK▸(h mi hi).2.1,hf _ (h mi hi).2.2⟩
noncomputable def FrH(X:Cx):Prop:=∃(e0:Env)(o0:List Env)(L:Addr),X.stack=e0::o0/\e0.frame=some L/\X.env.frame=some L
structure GOk (X:Cx) (G:Sg):Prop where
 K:X.K=G.K
 kind:X.env.scope.kind=.function
 own:G.top=true->hX (model X.prog X.w) X.A X.env X.xe
 N:X.N=G.N
 nd:G.N.Nodup
 sc:∀x,X.env.scope.names.lookup x=G.sc.lookup x
 vis:∀x∈G.N,Vis X.env.scope x
 top:G.top=true -> ∀x,X.fn x=true
 calm:G.calm=X.calm
 hd:X.calm=true->X.A.handled=none
 units:X.A.units+64<cLine
 cel:∀x,(X.env.scope.names.lookup x=some .cell\/X.env.scope.names.lookup x=some .free) -> ∃c,X.env.cells.lookup x=some c
 gb:∀x g,(x,g)∈G.gb->GBOk X x g
 bl:∀x,G.bl.contains x=true->X.mg x=none
 frm:G.top=true->X.stack=X.env::X.outer/\X.env.frame=some X.env.locals
 fr:FrH X
section
variable {X:Cx} {G:Sg}
theorem GOk.at_(O:GOk X G)(x:Str)(g:GB)(e:G.gb.lookup x=some g):GBOk X x g:=O.gb x g (bU e)
theorem GOk.met(O:GOk X G)(m:Str)(l:List MI)(e:C2 G.gb m=some l):∀mi∈l,Cls X.K mi.C/\Q8 X.K mi.C m mi.i.f/\Gv X mi.i:=by
 obtain⟨x,hx⟩:=Ch e
 exact O.gb x _ hx
theorem GOk.gl(O:GOk X G)(h:Jn G x=true):Gl X x:=by
 unfold Jn at h
 rw[aH] at h
 have:=cf h.1
 unfold Gl
 show X.env.scope.names.lookup x=_
 rw[O.sc x]
 exact this
theorem P2(h:Ed x=true):(x==("__debug__" : Str))=false/\(x==("__classdict__" : Str))=false/\x ≠ "__name__" := by
 unfold Ed at h
 simp only[aH,gR] at h
 exact⟨h.1.1,h.1.2,λe=>by rw[e] at h;simp at h⟩
theorem Ul(h:Jn G x=true):(x==("__debug__" : Str))=false/\(x==("__classdict__" : Str))=false/\x ≠ "__name__" := by
 unfold Jn at h
 rw[aH] at h
 exact P2 h.2
noncomputable def ar5(G:Sg)(x:Str):DE:=
 match Cj G.N x 0 with
 |some i=>if Ed x=true then Aa i else dNo
 | none=>if Jn G x=true then (match G.gb.lookup x with
   |some (.val v _)=>dC v
   |some (.exc C _)=>dC (.ref C)
   |some (.cls C _)=>dC (.ref C)
   |some _=>dNo
   | none=>if G.bl.contains x=true then (match Wb x with
    |some T=>dC (.ty T)
    |none=>dNo) else dNo) else dNo
theorem Bs:QE X e dNo:=λ_ _ _ _ _ _ _ _ h=>h.elim
theorem bj9(hN:X.N[i]?=some x)(hv:Vis X.env.scope x)(hp:Ed x=true):QE X (.Name x pos) (Aa i):=by
 intro Ex _ ξ s U H Q I h
 unfold Aa at h
 split at h
 .rename_i v e
  exact bh7 hN hv (P2 hp).1 (P2 hp).2.1 ξ s U H Q I ⟨v,e,h⟩
 .exact h.elim
theorem az5(O:GOk X G)(x:Str)(pos:Pos):QE X (.Name x pos) (ar5 G x):=by
 unfold ar5
 split
 .rename_i i e
  split
  .rename_i hp
   have hi:=Ee e
   exact bj9 (by rw[O.N];exact hi) (O.vis x (ak hi)) hp
  .exact Bs
 .split
  .rename_i hg
   have dd:=Ul hg
   split
   .rename_i v u e
    obtain⟨h1,h2⟩:=O.at_ x _ e
    exact λ_ _=>P1 (O.gl hg) h1 h2 dd.1
   .rename_i C oi e
    exact λ_ _=>P1 (v:=.ref C) (O.gl hg) (O.at_ x _ e).1 rfl dd.1
   .rename_i C oi e
    exact λ_ _=>P1 (v:=.ref C) (O.gl hg) (O.at_ x _ e).1 rfl dd.1
   .exact Bs
   .split
    .rename_i hb
     split
     .rename_i T e
      exact λ_ _=>ax8 (O.gl hg) (O.bl x hb) (Zp e) rfl dd.2.2 dd.1
     .exact Bs
    .exact Bs
  .exact Bs
noncomputable def ar3:Const->DE
 |.int i=>dC (.int i)
 |.bool b=>dC (.bl b)
 |.none=>dC .non
 |.str x=>dC (.str x)
 |_=>dNo
theorem ak7(c:Const)(j:Nat)(pos:Pos):QE X (.Constant c j pos) (ar3 c):=by
 cases c with
 |int i=>exact λ_ _=>bh1
 |bool b=>exact λ_ _=>bu6
 |none=>exact λ_ _=>bh3
 |str x=>exact λ_ _=>bh5
 |_=>exact Bs
variable {a b c:Expr} {da db dc:DE} {ta tb:DT} {es:List Expr} {r:DA} {pos:Pos}
theorem ak3(op:Operator)(ha:QE X a da)(hb:QE X b db):QE X (.BinOp a op b pos) (Ah (rOp X.K op) da db):=λEx m=>bu8 (b24 op) (ha Ex m) (hb Ex m)
theorem bj4(ha:QE X a da):QE X (.UnaryOp .USub a pos) (dUn Xg da):=λEx m=>a43 b71 (ha Ex m)
theorem bj0(ha:QE X a da):QE X (.UnaryOp .Invert a pos) (dUn Xf da):=λEx m=>a43 bq6 (ha Ex m)
theorem bi9(hu:X.A.units+64<cLine)(op:mG)(ha:QE X a da)(hb:QE X b db)(hm:ju op b=false):QE X (.Compare a [op] [b] pos) (Ah (Mv X.K op) da db):=λEx m=>ax9 (Np hu op) (ha Ex m) (hb Ex m) hm
theorem bk8(hu:X.A.units+64<cLine)(op:mG)(ha:QE X a da)(hb:QE X b db)(hm:ju op b=false):QT X (.Compare a [op] [b] pos) (Bf (Ah (Mv X.K op) da db)):=by
 intro Ex m ξ s U H Q I h
 refine wpAny_isTrue_Compare1 (thn (ha Ex m ξ s U H _ I h) λv s1 ⟨x,H1,I1,r1,q1⟩=>thn (hb Ex m ξ s1 U H1 _ I1 q1) λu s2 ⟨y,H2,I2,r2,q2⟩=>
  thn (Np hu op ξ s2 U H2 x y v u _ I2 r1 r2 q2) λc s3 ⟨z,H3,I3,r3,q3⟩=>?_) hm
 cases z with
 |bl k=>cases r3;exact eC ⟨H3,I3,q3⟩
 |_=>exact (show False from q3).elim
theorem ak6(hu:X.A.units+64<cLine)(op op':mG)(ha:QE X a da)(hb:QE X b db)(hc:QE X c dc)(hm:lastMarks [op,op'] [b,c]=false) :
  QE X (.Compare a [op,op'] [b,c] pos) (Ek (Mv X.K op) (Mv X.K op') da db dc):=by
 intro Ex m ξ s U H Q I h
 refine Compare_chain (thn (ha Ex m ξ s U H _ I h) λv s1 ⟨x,H1,I1,r1,q1⟩=>chain_link (thn (hb Ex m ξ s1 U H1 _ I1 q1) λu s2 ⟨y,H2,I2,r2,q2⟩=>
  thn (Np hu op ξ s2 U H2 x y v u _ I2 r1 r2 q2) λd s3 ⟨z,H3,I3,r3,q3⟩=>?_)) hm
 cases z with
 |bl k=>
  cases r3
  refine eC ?_
  cases k with
  |false=>exact ite_ff ⟨.bl false,H3,I3,rfl,q3⟩
  |true=>exact ite_tt (chain_last (thn (hc Ex m ξ s3 U H3 _ I3 q3) λw' s4 ⟨z',H4,I4,r4,q4⟩=>Np hu op' ξ s4 U H4 y z' u w' Q I4 r2 r4 q4))
 |_=>exact (show False from q3).elim
theorem al7(hu:X.A.units+64<cLine)(op op':mG)(ha:QE X a da)(hb:QE X b db)(hc:QE X c dc)(hm:lastMarks [op,op'] [b,c]=false) :
  QT X (.Compare a [op,op'] [b,c] pos) (Bf (Ek (Mv X.K op) (Mv X.K op') da db dc)):=by
 intro Ex m ξ s U H Q I h
 refine isTrue_chain (thn (ha Ex m ξ s U H _ I h) λv s1 ⟨x,H1,I1,r1,q1⟩=>test_link (thn (hb Ex m ξ s1 U H1 _ I1 q1) λu s2 ⟨y,H2,I2,r2,q2⟩=>
  thn (Np hu op ξ s2 U H2 x y v u _ I2 r1 r2 q2) λd s3 ⟨z,H3,I3,r3,q3⟩=>?_)) hm
 cases z with
 |bl k=>
  cases r3
  refine eC ?_
  cases k with
  |false=>exact ite_ff ⟨H3,I3,q3⟩
  |true=>
   refine ite_tt (test_last (thn (hc Ex m ξ s3 U H3 _ I3 q3) λw' s4 ⟨z',H4,I4,r4,q4⟩=>thn (Np hu op' ξ s4 U H4 y z' u w' _ I4 r2 r4 q4) λd' s5 ⟨z2,H5,I5,r5,q5⟩=>?_))
   cases z2 with
   |bl k2=>cases r5;exact eC ⟨H5,I5,q5⟩
   |_=>exact (show False from q5).elim
 |_=>exact (show False from q3).elim
noncomputable def aj6:Expr->Bool
 |.UnaryOp .Not _ _=>false
 |.BoolOp _ _ _=>false
 |.IfExp _ _ _ _=>false
 |.Compare _ _ _ _=>false
 |_=>true
theorem Y3(h:aj6 e=true)(whole:Sem Value):isTrue e X.env whole=(do let v <- whole;mE e.pos;my [v] (truthy v)):=by
 cases e with
 |UnaryOp op _ _=>cases op <;> first|rfl|cases h
 |BoolOp _ _ _=>cases h
 |IfExp _ _ _ _=>cases h
 |Compare _ _ _ _=>cases h
 |_=>rfl
theorem bl0(ha:QE X a da)(h:aj6 a=true):QT X a (Cu X.K da):=by
 intro Ex m ξ s U H Q I hw
 exact isTrue_plain (thn (ha Ex m ξ s U H _ I hw) λv s1 ⟨x,H1,I1,r1,q1⟩=>Xy ξ s1 U H1 x v Q I1 r1 q1) (Y3 h _)
theorem bk9(ha:QT X a ta):QT X (.UnaryOp .Not a pos) (Da ta):=λEx m=>bi3 (ha Ex m)
theorem a03(ha:QT X a ta):QW X (.BoolOp .And [a] pos) ta:=λEx m=>ay9 (ha Ex m)
theorem bl2(ha:QT X a ta):QW X (.BoolOp .Or [a] pos) ta:=λEx m=>bi6 (ha Ex m)
theorem bl1(ha:QT X a ta)(hb:QW X (.BoolOp .And (b::es) pos) tb):QW X (.BoolOp .And (a::b::es) pos) (T7 ta tb):=λEx m=>bi5 (ha Ex m) (hb Ex m)
theorem bv8(ha:QT X a ta)(hb:QW X (.BoolOp .Or (b::es) pos) tb):QW X (.BoolOp .Or (a::b::es) pos) (dOr ta tb):=λEx m=>bv2 (ha Ex m) (hb Ex m)
theorem bj6(ha:QE X a da):QE X (.BoolOp op [a] pos) da:=λEx m=>bh4 (ha Ex m)
theorem bi7(ha:QE X a da)(hb:QE X (.BoolOp .And (b::es) pos) db):QE X (.BoolOp .And (a::b::es) pos) (Nr X.K da db):=by
 intro Ex m ξ s U H Q I h
 refine BoolOp_and (thn (ha Ex m ξ s U H _ I h) λv s1 ⟨x,H1,I1,r1,q1⟩=>thn (Xy ξ s1 U H1 x v _ I1 r1 q1) λk s2 ⟨H2,I2,q2⟩=>?_)
 cases k with
 |true=>exact hb Ex m ξ s2 U H2 Q I2 q2
 |false=>exact⟨x,H2,I2,r1,q2⟩
theorem bv6(ha:QE X a da)(hb:QE X (.BoolOp .Or (b::es) pos) db):QE X (.BoolOp .Or (a::b::es) pos) (bp2 X.K da db):=by
 intro Ex m ξ s U H Q I h
 refine BoolOp_or (thn (ha Ex m ξ s U H _ I h) λv s1 ⟨x,H1,I1,r1,q1⟩=>thn (Xy ξ s1 U H1 x v _ I1 r1 q1) λk s2 ⟨H2,I2,q2⟩=>?_)
 cases k with
 |false=>exact hb Ex m ξ s2 U H2 Q I2 q2
 |true=>exact⟨x,H2,I2,r1,q2⟩
theorem bj5(ha:QE X a da):QE X (.UnaryOp .Not a pos) (ad4 X.K da):=by
 intro Ex m ξ s U H Q I h
 refine UnaryOp_ (thn (ha Ex m ξ s U H _ I h) λv s1 ⟨x,H1,I1,r1,q1⟩=>not_of (thn (Xy ξ s1 U H1 x v _ I1 r1 q1) λk s2 ⟨H2,I2,q2⟩=>?_))
 exact⟨.bl (!k),H2,I2,rfl,q2⟩
theorem bv3(ht:QT X t ta)(ha:QE X a da)(hb:QE X b db):QE X (.IfExp t a b pos) (bp1 ta da db):=λEx m=>aj0 (ht Ex m) (ha Ex m) (hb Ex m)
noncomputable def noStar:Expr->Bool
 |.Starred _ _=>false
 |_=>true
theorem Av(h:noStar e=true)(es:List Expr)(env:Env):cX (e::es) env=(false,eval e env)::cX es env:=by
 cases e with
 |Starred _ _=>cases h
 |_=>rfl
theorem Bm(h:es.all noStar=true)(env:Env)(pos:Pos):(jb pos (cX es env)).any (·.1)=false:=by
 induction es with
 |nil=>rfl
 |cons e es ih=>
  rw[bR,aH] at h
  rw[Av h.1]
  show (false||(jb pos (cX es env)).any (·.1))=false
  rw[ih h.2]
  rfl
theorem Jf(h:es.all noStar=true)(env:Env)(pos:Pos):(jb pos (cX es env)).all (λx=>!x.1)=true:=by
 induction es with
 |nil=>rfl
 |cons e es ih=>
  rw[bR,aH] at h
  rw[Av h.1]
  show (true&&(jb pos (cX es env)).all (λx=>!x.1))=true
  rw[ih h.2]
  rfl
theorem Uz5:QA X [] Ag:=λ_ _=>bh0
theorem P4(ha:QE X a da)(hr:QA X es r)(hs:noStar a=true):QA X (a::es) (Ac da r):=λEx m=>ax7 (ha Ex m) (hr Ex m) (Av hs es X.env)
theorem bj8(h:QA X es r):QE X (.Tuple es k pos) (Do r):=λEx m=>bh6 (h Ex m)
theorem bj1(h:QA X es r):QE X (.List es pos) (Cm r):=λEx m=>bh2 (h Ex m)
noncomputable def Hb:Expr->Bool
 |.Slice _ _ _ _=>false
 |_=>true
theorem Ux(h:Hb e=true):Wm e:=by
 intro o i
 cases e with
 |Slice _ _ _ _=>cases h
 |_=>rfl
theorem bv4(hu:X.A.units+64<cLine)(ha:QE X a da)(hb:QE X b db)(h:Hb b=true):QE X (.Subscript a b pos) (Ah (Ax X.K) da db):=λEx m=>bu7 (b23 hu) (ha Ex m) (hb Ex m) (Ux h)
theorem az0(ha:QE X a da)(h:jt a f X.env (eval a X.env)=eval a X.env):QE X (.Attribute a f pos) (dUn (By X.K f) da):=by
 intro Ex m ξ s U H Q I hw
 exact at8 h (thn (ha Ex m ξ s U H _ I hw) λu s1 ⟨x,H1,I1,rx,q⟩=>bp9 I1 rx q)
end
end L2
namespace PySem.SeqAt
open AutoSeq1 (wpAny_loadPart')
open MeetsSeq MeetsSeq2 MeetsSeq3
end PySem.SeqAt
namespace PySem.W
open PySem PySem.Calls PyProof.Rows
end PySem.W
namespace L2
open PySem PySem.Spec PyProof.Rows
theorem Jb:cW "sorted"=some (.builtin "sorted"):=by decide +kernel
end L2
namespace PySem.W
open PySem PySem.Calls PyProof.Rows
section
variable {prog:ba} {w:bL} {A:bP} {E:Value->av->Prop} {s:av} {vs:List Value}
theorem collect_src(K:KdlSrc prog w T r d n P OK)(hh:A.handled=none)(hok:OK s.heap)(hn:n<=sizeLine)(h:∀h' tk (us:List Value),(∀b o,s.heap.get? b=some o->h'.get? b=some o)->s.heap.objs.size<h'.objs.size->us.length=n->(∀j v,us[j]?=some v->P j v)->Q us { s with heap:=h',toks:=tk }) :
  aK (model prog w) A (collect (.ref r)) Q E s:=by
 have hlt:=K.there _ hok
 unfold collect
 refine af (wpAny_runValue (gI entry_proto_collect' ?_))
 show aK _ _ (do again (.builtin "list.__iadd__" ⟨[<- newList [],.ref r],[]⟩)) _ _ s
 refine af (fO (ai ⟨gu _ (by decide +kernel),gI entry_list_iadd' ?_⟩))
 show aK _ _ (Builtin.List.listExtendWith (.ref s.heap.objs.size) (.ref r) (.ref s.heap.objs.size)) _ _ { s with heap:=s.heap.push (bv "list" #[] 0) }
 rw[ig PySem.F.plain_list_iadd _]
 refine kdl_extend (A:=A) (R:=wants _ _) (s:={ s with heap:=s.heap.push (bv "list" #[] 0) }) K hh (K.keep _ _ hok λb _ o e=>ah _ e) s.heap.objs.size (hU hlt.1) (hU hlt.2) _ 0 (aB _ rfl) (λh' tk acc' c' hk hS' hacc=>?_) hn
 show aK (model prog w) A (do
   let o <- load s.heap.objs.size
   match o.data with
   |.seq xs _=>pure xs.toList
   |_=>unsupported "internal:collect") Q E { s with heap:=h',toks:=tk }
 refine af (wpAny_load hS' ?_)
 exact ai (h h' tk acc'.toList (λb o e=>hk b o (aT (aF e)) (ah _ e)) (aF hS') (by rw[dw];exact hacc.1) λj v e=>hacc.2 j v (by rw[<- g_];exact e))
theorem Mw(ho:s.heap.get? a=some (bv "list" vs.toArray n))(h2:vs.length<2)(h:∀h' c,h'.get? a=some (bv "list" vs.toArray c)->(∀b o,b≠a->s.heap.get? b=some o->h'.get? b=some o)->P (.done (.ret .none)) { s with heap:=h' }) :
  aK (model prog w) A (aI.«list.sort» ⟨[.ref a],[]⟩) P E s:=by
 have ha:a<s.heap.objs.size:=aF ho
 have s1:=bE s.heap a (be λ_=>(#[]:Array Value))
 obtain⟨e1,ho1⟩:∃e1,(s.heap.update a (be λ_=>(#[]:Array Value))).get? a=some (bv "list" #[] e1):=⟨_,d_ ho λ_=>#[]⟩
 rw[list_sort_plain]
 refine af (jX ho rfl ?_)
 refine af (eZ ho rfl ?_ (by rw[aq,bG];omega) (bC _))
 refine af (iG ho1 rfl ?_)
 refine af (kq ?_ (by show vs.length<=_;rw[bG];omega))
 refine af (fO ?_ (bC _))
 refine bj ?_
 show aK (model prog w) A _ P E { s with heap:=((s.heap.update a (be λ_=>(#[]:Array Value))).push (bv "tuple" vs.toArray 0)).push (bv "list" #[] 0) }
 dsimp only
 have hn2:vs.toArray.size<2:=by rw[aq];omega
 rw[if_pos hn2,if_pos hn2]
 refine af (ai ?_)
 rw[StateT.run_pure]
 refine af (ai ?_)
 dsimp only
 have ho6:(((s.heap.update a (be λ_=>(#[]:Array Value))).push (bv "tuple" vs.toArray 0)).push (bv "list" #[] 0)).get? a=some (bv "list" #[] e1):=ah _ (ah _ ho1)
 have o6:∀b o,b≠a->s.heap.get? b=some o->(((s.heap.update a (be λ_=>(#[]:Array Value))).push (bv "tuple" vs.toArray 0)).push (bv "list" #[] 0)).get? b=some o:=λb o nb e=>ah _ (ah _ ((s1.2 b nb).trans e))
 generalize ((s.heap.update a (be λ_=>(#[]:Array Value))).push (bv "tuple" vs.toArray 0)).push (bv "list" #[] 0)=h6 at ho6 o6 ⊢
 have hout:iZ (λx:Keyed=>x.snd) (ml (ir mx (vs.toArray.zip vs.toArray) #[] 7 none))=vs.toArray:=by
  show iZ (λx:Keyed=>x.snd) (vs.toArray.zip vs.toArray)=vs.toArray
  apply Array.ext'
  simp only[Array.toList_map,Array.toList_zip]
  exact List.map_snd_zip (ag _)
 refine af (iG (s:={ s with heap:=h6 }) ho6 rfl ?_)
 refine af (eZ (s:={ s with heap:=h6 }) ho6 rfl ?_ (bC _) (by rw[hout,aq,bG];omega))
 have s2:=bE h6 a (be λ_=>iZ (λx:Keyed=>x.snd) (ml (ir mx (vs.toArray.zip vs.toArray) #[] 7 none)))
 obtain⟨c2,hc2⟩:∃c2,(h6.update a (be λ_=>iZ (λx:Keyed=>x.snd) (ml (ir mx (vs.toArray.zip vs.toArray) #[] 7 none)))).get? a=some (bv "list" (iZ (λx:Keyed=>x.snd) (ml (ir mx (vs.toArray.zip vs.toArray) #[] 7 none))) c2):=⟨_,d_ ho6 λ_=>_⟩
 rw[hout] at hc2 s2 ⊢
 simp only[bne_self_eq_false,bM,if_false]
 exact ai (h _ c2 hc2 λb o nb e=>(s2.2 b nb).trans (o6 b o nb e))
end
end PySem.W
namespace L2
open PySem PySem.Spec PyProof.Rows
theorem X0:∀ {xs:List V} {us:List Value},xs.length=us.length->(∀(i:Nat) x u,xs[i]?=some x->us[i]?=some u->RelV x u)->Vals xs us
 |[],[],_,_=>.nil
 |[],_::_,h,_=>by simp at h
 |_::_,[],h,_=>by simp at h
 |x::xs,u::us,h,g=>.cons (g 0 x u rfl rfl) (X0 (by simpa using h) λi a b ha hb=>g (i+1) a b ha hb)
theorem N8(rel:KV kvs vs)(hl:us.length=vs.length)(h:∀(j:Nat) v,us[j]?=some v -> ∃k x,vs[j]?=some (k,x)/\(Bg P w).is k v=true):Vals (kvs.map λkv=>kV kv.1) us:=by
 refine X0 (by rw[ae,rel.length,hl]) λi x u hx hu=>?_
 obtain⟨k,y,hk,his⟩:=h i u hu
 have e:(kvs.map (·.1))[i]?=some k:=by rw[rel.keys,al,hk];rfl
 rw[al] at hx e
 obtain⟨kv,hkv,rfl⟩:=Option.map_eq_some_iff.mp hx
 rw[hkv] at e
 cases e
 exact Pq his
section
noncomputable def Fm(zs:List Str):List Str:=@dite _ (∃ys:List Str,ys.Perm zs/\mD ys=true) (bQ _) (λh=>h.choose) λ_=>zs
theorem Ef(zs:List Str):(Fm zs).Perm zs:=by
 unfold Fm
 by_cases h:∃ys:List Str,ys.Perm zs/\mD ys=true
 .rw[dif_pos h];exact h.choose_spec.1
 .rw[dif_neg h]
theorem Oj:∀(p:Str)(l:List Str),risingS p l=true->(p::l).Pairwise (λa b:Str=>¬ b.cps.toList<a.cps.toList)
 |p,[],_=>List.pairwise_singleton _ _
 | p,x::r,h=>by
  unfold risingS at h
  rw[aH,gR,ltCps_eq,decide_eq_false_iff_not] at h
  have ih:=Oj x r h.2
  refine List.pairwise_cons.mpr ⟨λb hb=>?_,ih⟩
  rcases List.mem_cons.mp hb with rfl|hb
  .exact h.1
  .exact λq=>h.1 (List.lt_of_le_of_lt (List.not_lt.mp (List.rel_of_pairwise_cons ih hb)) q)
theorem L6:∀ {l:List Str},mD l=true->l.Pairwise (λa b:Str=>¬ b.cps.toList<a.cps.toList)
 |[],_=>i0
 |x::r,h=>Oj x r h
theorem a15 {ys zs:List Str}(p:ys.Perm zs)(h:mD ys=true):ys=Fm zs:=by
 have e:∃ys:List Str,ys.Perm zs/\mD ys=true:=⟨ys,p,h⟩
 unfold Fm
 rw[dif_pos e]
 exact List.Perm.eq_of_pairwise (λa b _ _ h1 h2=>Str.ext' (Array.toList_inj.mp (List.le_antisymm (List.not_lt.mp h1) (List.not_lt.mp h2)))) (L6 h) (L6 e.choose_spec.2) (p.trans e.choose_spec.1.symm)
theorem Xt:∀ {zs:List Str} {us:List Value},Vals (zs.map V.str) us->StrsAre us zs
 |[],_,r=>by cases r;exact .nil
 | z::zs,_,r=>by
  rw[aS] at r
  cases r with
  |cons h t=>obtain⟨k,rfl⟩:=h;exact .cons z k (Xt t)
theorem W5:∀ {us:List Value} {zs:List Str},StrsAre us zs->Vals (zs.map V.str) us
 |_,_,.nil=>.nil
 |_,_,.cons z k h=>.cons ⟨k,rfl⟩ (W5 h)
noncomputable def am3(K:ac):List V->Hp->VK->Prop:=λxs H Q=>∃p zs,xs=[.ref p]/\(SqL K H p (zs.map V.str) \/ ∃kvs,Rd H p (.dK kvs)/\kvs.map (·.1)=zs.map ie)/\zs.Nodup/\zs.length<64/\∀D,H D=none->Q (.ref D) (upd H D (.lst ((Fm zs).map V.str)))
theorem an2 {ξ:List (Addr×Obj)}{s:av}{U:St}{H:Hp}{Q:VK}{u:Value}{zs:List Str}(I:Inv X ξ U H s)(h64:zs.length<64)(hc:∀R:List Value->av->Prop,(∀(us:List Value)(h':Heap)(tk:Nat),(∀b o,s.heap.get? b=some o->h'.get? b=some o)->s.heap.objs.size<=h'.objs.size->s.toks<=tk->Vals (zs.map V.str) us->R us { s with heap:=h',toks:=tk })->aK (model X.prog X.w) X.A.in1 (collect u) R (λ_ _=>False) s)(q:∀D,H D=none->Q (.ref D) (upd H D (.lst ((Fm zs).map V.str)))):aK (model X.prog X.w) X.A (call (.builtin "sorted") [u]) (EP X ξ U Q) X.xe s:=by
 refine iP l_ lL lK (args_sorted1 _) ?_
 unfold aI.«sorted»
 refine af (m:=checkCount "sorted" 1 1 _) (ai ?_)
 refine af (bW (hc _ λus h' tk keep hD htk rv=>?_) (λ_ _ z=>z) λ_ _ z=>z.elim)
 have hl:us.length=zs.length:=by have:=rv.length;simpa using this.symm
 have hS:=Xt rv
 refine af (fO ?_ (by rw[bG];omega))
 have hoL:(h'.push (bv "list" us.toArray 0)).get? h'.objs.size=some (bv "list" us.toArray 0):=aB _ rfl
 show aK _ _ _ _ _ { s with heap:=h'.push (bv "list" us.toArray 0),toks:=tk }
 refine af (bj (bY kl ⟨_,hoL,rfl⟩ jW (list_sort_treeK strKind_oneLt hoL hS.keysOf (λv₁ v₂ rest e=>keyKind_strs (by rw[<- e];exact hS)) (by omega) λst' a1 a2=>⟨_,rfl,ai ⟨_,rfl,?_⟩⟩) (args_list_sort _)))
 obtain⟨ss,h1,h2,h3⟩:=sorted_out_str hS a1 a2
 rw[a15 h2 h3] at h1
 obtain⟨c,hc⟩:=sortedHeap_at (out:=(ml st').map (·.2)) hoL
 refine⟨.ref h'.objs.size,_,I.laid (t':=tk) (λb o e=>?_) hD (o:=.lst ((Fm zs).map V.str)) ⟨?_,_,c,W5 h1,by rw[Array.toArray_toList];exact hc⟩,rfl,q _ (I.hok.fresh hD)⟩
 .have hb:=aF (keep b o e)
  rw[sortedHeap_old (aT hb) (by rw[j7];exact du hb)]
  exact ah _ (keep b o e)
 .rw[ae,(Ef zs).length_eq,bG];omega
theorem Tw(hc:X.calm=true):B9 X (.builtin "sorted") (am3 X.K):=by
 intro ξ s U H xs us Q I r h
 obtain⟨p,zs,rfl,hp,_,h64,q⟩:=h
 obtain⟨u,rfl,ru⟩:=Dn r
 cases ru
 refine an2 I h64 (λR hR=>?_) q
 rcases hp with hp|⟨kvs,hp,ek⟩
 .obtain⟨χ,ri,pl,hz⟩:=I.list hp
  refine collect_list pl.isList (hR _ _ s.toks (λb o e=>?_) ?_ (ag _) ri) (by have:=ri.length;rw[ae] at this;rw[bG];omega)
  .have hlt:b<s.heap.objs.size:=aF e
   rw[ku _ _ _ _ (aT hlt)]
   exact ah _ e
  .rw[jv,j7]
   exact dm _
 .obtain⟨z,lo,vs,rel,dof⟩:=Dh I.hok hp
  obtain⟨ep,dat⟩:=dof.dictAt
  refine bB (ag _) (PySem.W.collect_src (PySem.W.kdl_dict lo) (by simp[I.ok.hd hc]) dat (by rw[<- rel.length];exact z) λh' tk us hk hs hl hi htk=>?_)
  refine hR us h' tk hk (dM hs) htk ?_
  have v:=N8 rel hl hi
  have e:(kvs.map λkv=>kV kv.1)=zs.map V.str:=by
   have:=congrArg (jn kV) ek
   rw[aw,aw] at this
   exact this
  rwa[e] at v
end
end L2
namespace PySem.W
open PySem PySem.Calls PyProof.Rows
section
theorem Ob:∀(f n r:Nat),r<=1->minRun' f n r<=n+r
 |0,n,r,_=>ag (n+r)
 | f+1,n,r,h=>by
  rw[minRun'_succ]
  split
  .exact ag _
  .refine a9 (Ob f (n / 2) (max r (n % 2)) (by omega)) (by omega)
theorem ac0(h2:2<=n)(hQ:∀st',ml st'=(bH (ay n)).map (j6 it)->lO st'=none->Q () st' s)(h:(kas_count n (bH (ay n))).kasWp (kas_cmp prog w A κ it) (λr s'=>s'=s/\r=(n,bH (ay n))) s) :
  kasC (model prog w) A E sortRuns' Q (mN κ it (bH (ay n))) s:=by
 obtain⟨r,rfl⟩:∃r,n=r+2:=⟨n - 2,by omega⟩
 have hrs:(bH (ay (r+2))).size=r+2:=by simp
 rw[sortRuns'_eq]
 refine jd (kasC_get ?_)
 dsimp only
 have hsz:(ml (mN κ it (bH (ay (r+2))))).size=r+2:=by
  show ((bH (ay (r+2))).map (j6 it)).size=_
  rw[Array.size_map,hrs]
 simp only[hsz]
 have hmr:=Ob (r+2) (r+2) 0 (by omega)
 generalize minRun' (r+2) (r+2) 0=mr at hmr ⊢
 refine jd (kasC_range ?_)
 show kasC _ _ _ (forIn (0::1::lW 2 r) _ _) _ _ _
 refine kasC_cons ?_
 dsimp only
 rw[if_neg (by omega)]
 simp only[Nat.sub_zero,cT]
 refine jd (kas_count_ (by omega) (by rw[hrs];exact ag _) (λm p' s' hm1 hm2 hp hg=>?_) h)
 obtain⟨rfl,hg⟩:=hg
 cases hg
 dsimp only
 rw[if_neg (show ¬ r+2<mr by omega)]
 refine jd (kasC_get ?_)
 rw[show (pendingOf (mN κ it (bH (ay (r+2))))).back? = none from rfl]
 dsimp only
 refine jd (kasC_modify (l9 ?_))
 show kasC _ _ _ (forIn (1::lW 2 r) _ _) _ _ _
 refine kasC_cons ?_
 dsimp only
 rw[if_pos (ag _)]
 refine l9 ?_
 dsimp only
 refine jd (kasC_range ?_)
 show kasC _ _ _ (forIn (0::1::lW 2 r) _ _) _ _ _
 refine kasC_cons ?_
 refine jd (kasC_get ?_)
 rw[if_pos (show (pendingOf (setPending (mN κ it (bH (ay (r+2)))) ((pendingOf (mN κ it (bH (ay (r+2))))).push (0,r+2,0)))).size<=1 from ag 1)]
 refine l9 ?_
 dsimp only
 exact l9 (hQ _ rfl rfl)
theorem ab9(h:∀j C,0<j->j<n->C false s->cmp j (j - 1) C s):∀f k:Nat,1<=k->k+f=n->Q n s->(kas_asc (bH (ay n)) f k).kasWp cmp Q s
 | 0,k,_,e,q=>by
  have e:k=n:=e
  subst e
  exact q
 | f+1,k,hk,e,q=>by
  have g:∀ {j:Nat},j<n->(bH (ay n)).getD j 0=j:=λ{j} hj=>by simp[Array.getD,hj]
  show cmp ((bH (ay n)).getD k 0) ((bH (ay n)).getD (k - 1) 0) _ s
  rw[g (by omega),g (by omega)]
  refine h k _ hk (by omega) ?_
  simp only[bM,if_false]
  exact ab9 h f (k+1) (by omega) (by omega) q
theorem Nh(h1:1<=n)(h:∀j C,0<j->j<n->C false s->cmp j (j - 1) C s)(q:Q (n,bH (ay n)) s):(kas_count n (bH (ay n))).kasWp cmp Q s:=by
 unfold kas_count
 rw[KasT.kasWp_bind]
 refine ab9 h (n - 1) 1 (ag _) (by omega) ?_
 simp only[beq_self_eq_true,if_true]
 exact q
theorem asc_sort(h1:1<=n)(h:∀j C,0<j->j<n->C false s->cmp j (j - 1) C s)(q:Q (bH (ay n)) s):(mz n).kasWp cmp Q s:=by
 unfold mz
 rw[KasT.kasWp_bind]
 refine Nh h1 h ?_
 rw[if_neg (fK n)]
 exact q
theorem range_pick:((bH (ay us.length)).toList.map λi=>us.getD i cm)=us:=by
 apply List.ext_getElem
 .simp
 .intro i h1 h2
  simp[h2]
theorem asc_list_sort(ho:s.heap.get? a=some (bv "list" vs.toArray n))(hi:jm vs ns)(asc:ns.Pairwise (· < ·))(hl:vs.length<=1000)(h:∀h' c,h'.get? a=some (bv "list" vs.toArray c)->(∀b o,b≠a->s.heap.get? b=some o->h'.get? b=some o)->P (.done (.ret .none)) { s with heap:=h' }) :
  aK (model prog w) A (aI.«list.sort» ⟨[.ref a],[]⟩) P E s:=by
 by_cases h2:vs.length<2
 .exact Mw ho h2 h
 have h2:2<=vs.length:=by omega
 have ha:a<s.heap.objs.size:=aF ho
 have s1:=bE s.heap a (be λ_=>(#[]:Array Value))
 obtain⟨e1,ho1⟩:∃e1,(s.heap.update a (be λ_=>(#[]:Array Value))).get? a=some (bv "list" #[] e1):=⟨_,d_ ho λ_=>#[]⟩
 have na:(((s.heap.update a (be λ_=>(#[]:Array Value))).push (bv "tuple" vs.toArray 0)).push (bv "list" #[] 0)).get? a=some (bv "list" #[] e1):=ah _ (ah _ ho1)
 have old:∀b o,b≠a->s.heap.get? b=some o->(((s.heap.update a (be λ_=>(#[]:Array Value))).push (bv "tuple" vs.toArray 0)).push (bv "list" #[] 0)).get? b=some o:=λb o nb e=>ah _ (ah _ ((s1.2 b nb).trans e))
 rw[list_sort_plain]
 refine af (jX ho rfl ?_)
 refine af (eZ ho rfl ?_ (by rw[aq,bG];omega) (bC _))
 refine af (iG ho1 rfl ?_)
 refine af (kq ?_ (by show vs.length<=_;rw[bG];omega))
 refine af (fO ?_ (bC _))
 refine bj ?_
 show aK (model prog w) A _ P E { s with heap:=((s.heap.update a (be λ_=>(#[]:Array Value))).push (bv "tuple" vs.toArray 0)).push (bv "list" #[] 0) }
 generalize ((s.heap.update a (be λ_=>(#[]:Array Value))).push (bv "tuple" vs.toArray 0)).push (bv "list" #[] 0)=h6 at na old ⊢
 dsimp only
 have hn2:¬ vs.toArray.size<2:=by rw[aq];omega
 rw[if_neg hn2,if_neg hn2,ksk_kind (kz:=ns) hi (by rw[aq];exact h2)]
 refine af (ai ?_)
 have est:ir lP (vs.toArray.zip vs.toArray) #[] 7 none=mN lP (vs.toArray.zip vs.toArray) (bH (ay vs.length)):=by
  have e:=kas_range (vs.toArray.zip vs.toArray)
  rw[show (vs.toArray.zip vs.toArray).size=vs.length by simp] at e
  show ir lP (vs.toArray.zip vs.toArray) #[] 7 none=ir lP ((bH (ay vs.length)).map (j6 (vs.toArray.zip vs.toArray))) #[] 7 none
  rw[e]
 have at_:∀ {j:Nat},j<vs.length -> ∃t,(j6 (vs.toArray.zip vs.toArray) j).1=.int (ns.getD j 0) t:=λ{j} hj=>by
  rw[kat_item rfl]
  have:∀ {vs:List Value} {ns:List Int} {j:Nat},jm vs ns->j<vs.length -> ∃t,vs.getD j cm=.int (ns.getD j 0) t:=by
   intro vs ns j h
   induction h generalizing j with
   |nil=>intro h;cases h
   |cons n t _ ih=>
    intro h
    cases j with
    |zero=>exact⟨t,rfl⟩
    |succ j=>exact ih (jH h)
  exact this hi hj
 refine af (bW (Q:=λr s'=>s'={ s with heap:=h6 }/\ml r.2=(bH (ay vs.length)).map (j6 (vs.toArray.zip vs.toArray))/\lO r.2=none) ?_ ?_ λ_ _ e=>e)
 .rw[est]
  refine ac0 (prog:=prog) (w:=w) (A:=A) (E:=E) (κ:=lP) (it:=vs.toArray.zip vs.toArray) (s:={ s with heap:=h6 }) (Q:=λ_ st' s'=>s'={ s with heap:=h6 }/\ml st'=(bH (ay vs.length)).map (j6 (vs.toArray.zip vs.toArray))/\lO st'=none) h2 (λst' a1 a2=>⟨rfl,a1,a2⟩) (Nh (by omega) (λj C h0 hj hC=>?_) ⟨rfl,rfl⟩)
  obtain⟨t,e⟩:=at_ hj
  obtain⟨u,e'⟩:=at_ (j:=j - 1) (by omega)
  unfold kas_cmp
  rw[e,e']
  refine kat_lt_int ?_
  have hlen:ns.length=vs.length:=hi.length.symm
  have:ns.getD (j - 1) 0<ns.getD j 0:=by
   rw[az,aj (by omega),az,aj (by omega)]
   exact List.pairwise_iff_getElem.mp asc (j - 1) j (by omega) (by omega) (by omega)
  rw[decide_eq_false (by omega)]
  exact hC
 .rintro⟨⟨⟩,st'⟩ s' ⟨rfl,har,hf⟩
  dsimp only at har hf ⊢
  have hout:=kat_snds (ks:=vs) (vs:=vs) rfl har
  rw[range_pick] at hout
  rw[hout]
  have s2:=bE h6 a (be λ_=>vs.toArray)
  obtain⟨c2,hc2⟩:∃c2,(h6.update a (be λ_=>vs.toArray)).get? a=some (bv "list" vs.toArray c2):=⟨_,d_ na λ_=>vs.toArray⟩
  refine af (iG (s:={ s with heap:=h6 }) na rfl ?_)
  refine af (eZ (s:={ s with heap:=h6 }) na rfl ?_ (bC _) (by rw[aq,bG];omega))
  rw[hf]
  simp only[bne_self_eq_false,bM,if_false]
  exact ai (h _ c2 hc2 λb o nb e=>(s2.2 b nb).trans (old b o nb e))
end
end PySem.W
namespace L2
open PySem PySem.Spec PyProof.Rows
section
noncomputable def am2:List V->Hp->VK->Prop:=λxs H Q=>∃(p:Addr)(ns:List Int)(kvs:List (Key×V)),xs=[.ref p]/\Rd H p (.dK kvs)/\kvs.map (·.1)=ns.map js/\ns.Pairwise (· < ·)/\ns.length<=1000/\∀D,H D=none->Q (.ref D) (upd H D (.lst (ns.map V.int)))
theorem Tv(hc:X.calm=true):B9 X (.builtin "sorted") am2:=by
 intro ξ s U H xs us Q I r h
 obtain⟨p,ns,kvs,rfl,hp,ek,asc,hl,q⟩:=h
 obtain⟨u,rfl,ru⟩:=Dn r
 cases ru
 obtain⟨z,lo,vs,rel,dof⟩:=Dh I.hok hp
 obtain⟨ep,dat⟩:=dof.dictAt
 have lk:kvs.length=ns.length:=by have:=congrArg dj ek;simpa using this
 refine iP l_ lL lK (args_sorted1 _) ?_
 unfold aI.«sorted»
 refine af (m:=checkCount "sorted" 1 1 _) (ai ?_)
 refine af (bB (ag _) (PySem.W.collect_src (PySem.W.kdl_dict lo) (by simp[I.ok.hd hc]) dat (by rw[<- rel.length];exact z) λh' tk us hk hs hl' hi htk=>?_))
 have v:=N8 rel hl' hi
 have e:(kvs.map λkv=>kV kv.1)=ns.map V.int:=by
  have:=congrArg (jn kV) ek
  rw[aw,aw] at this
  exact this
 rw[e] at v
 have hu:us.length<=1000:=by have:=v.length;rw[ae] at this;omega
 refine af (fO ?_ (by rw[bG];omega))
 have hoL:(h'.push (bv "list" us.toArray 0)).get? h'.objs.size=some (bv "list" us.toArray 0):=aB _ rfl
 show aK _ _ _ _ _ { s with heap:=h'.push (bv "list" us.toArray 0),toks:=tk }
 refine af (bj (bY kl ⟨_,hoL,rfl⟩ jW ?body (args_list_sort _)))
 case body=>
  refine PySem.W.asc_list_sort (s:={ s with heap:=h'.push (bv "list" us.toArray 0),toks:=tk }) hoL (Ld v) asc hu λh3 c g k=>?_
  refine⟨_,rfl,ai ⟨_,rfl,.ref h'.objs.size,_,I.laid (t':=tk) (λb o e=>k b o (aT (aF (hk b o e))) (ah _ (hk b o e))) (dM hs) (o:=.lst (ns.map V.int)) ⟨?_,us,c,v,g⟩,rfl,q _ (I.hok.fresh (dM hs))⟩⟩
  rw[ae,bG];omega
noncomputable def bl7(K:ac):List V->Hp->VK->Prop:=λxs H Q=>∃(p:Addr)(ns:List Int),xs=[.ref p]/\SqL K H p (ns.map V.int)/\Q (.int ns.sum) H
theorem ac9(hc:X.calm=true):B9 X (.builtin "sum") (bl7 X.K):=by
 intro ξ s U H xs us Q I r h
 obtain⟨p,ns,rfl,hp,q⟩:=h
 obtain⟨u,rfl,ru⟩:=Dn r
 cases ru
 obtain⟨χ,ri,pl,hz⟩:=I.list hp
 have ia:=Ld ri
 obtain⟨xs,e⟩:=ia.allInts.items
 have hl:=pl.isList
 rw[e] at hl
 refine bB (ag _) (sum_intListG (I.ok.hd hc) hl λh' tk t' hk htk=>?_)
 refine⟨.int ns.sum,H,I.kept (t':=tk) hk htk,⟨t',?_⟩,q⟩
 rw[preSum_eq,gM (by simp),<- nums_intItems,<- e,show χ.toArray.toList=χ from rfl,ia.numsOf]
end
end L2
namespace PySem.W
open PySem PySem.Calls PyProof.Rows
section
noncomputable def SkFin(a b:Addr)(e e1:Nat)(ks out:List Value)(C:av->Prop)(s:av):Prop:=
 s.heap.get? a=some (bv "list" #[] e1)/\s.heap.get? b=some (bv "list" ks.toArray e)/\∀h' c,h'.get? a=some (bv "list" (bH out) c)->(∀d,d≠a->d≠b->h'.get? d=s.heap.get? d)->C { s with heap:=h' }
theorem Xo {a kS:Addr}{ks:List Value}{st:lX}{e e1:Nat}{out:List Value}{P:PySem.Fin->av->Prop}(hne:a≠kS)(har:iZ (λx:Keyed=>x.snd) (ml st)=out.toArray)(h64:out.length<64)(k64:ks.length<64)(hf:lO st=none)(h:SkFin a kS e e1 ks out (λs'=>P (.done (.ret .none)) s') s):aK (model prog w) A (ksk_tail a false e1 (.ref kS) st) P E s:=by
 obtain⟨ha,hk,q⟩:=h
 unfold ksk_tail
 rw[har,hf]
 have s1:=bE s.heap kS (be λ_=>(#[]:Array Value))
 have ha1:(s.heap.update kS (be λ_=>(#[]:Array Value))).get? a=some (bv "list" #[] e1):=(s1.2 a hne).trans ha
 refine af (eZ hk rfl ?_ (by rw[aq,bG];omega) (bC _))
 refine af (wpAny_letGo ?_)
 refine af (iG (s:={ s with heap:=s.heap.update kS (be λ_=>(#[]:Array Value)) }) ha1 rfl ?_)
 refine af (eZ (s:={ s with heap:=s.heap.update kS (be λ_=>(#[]:Array Value)) }) ha1 rfl ?_ (bC _) (by simp only[bM,if_false];rw[aq,bG];omega))
 simp only[bne_self_eq_false,bM,if_false]
 have s2:=bE (s.heap.update kS (be λ_=>(#[]:Array Value))) a (be λ_=>out.toArray)
 obtain⟨c2,hc2⟩:∃c2,((s.heap.update kS (be λ_=>(#[]:Array Value))).update a (be λ_=>out.toArray)).get? a=some (bv "list" out.toArray c2):=⟨_,d_ ha1 λ_=>_⟩
 exact ai (q _ c2 hc2 λd d1 d2=>(s2.2 d d1).trans (s1.2 d d2))
theorem a13(ho:s.heap.get? a=some (bv "list" vs.toArray n))(h64:vs.length<64)(h:∀e1 kS h',s.heap.objs.size<=kS->h'.get? a=some (bv "list" #[] e1)->h'.get? kS=some (bv "list" #[] 0)->(∀b o,b≠a->s.heap.get? b=some o->h'.get? b=some o) ->
   ∃G:List Value->av->Prop,(∀e,h'.get? kS=some (bv "list" #[] e)->G [] { s with heap:=h' }) /\
    (∀(j:Nat) x ks e s',vs[j]?=some x->ks.length=j->s'.heap.get? kS=some (bv "list" ks.toArray e)->G ks s'->aK (model prog w) A (call f [x]) (λk s''=>s''.heap.get? kS=some (bv "list" ks.toArray e)/\∀h2 c,h2.get? kS=some (bv "list" (ks++[k]).toArray c)->bJ kS s''.heap h2->G (ks++[k]) { s'' with heap:=h2 }) (λ_ _=>False) s') /\
    (∀ks e s',ks.length=vs.length->s'.heap.get? kS=some (bv "list" ks.toArray e)->G ks s'->(vs.length<2->SkFin a kS e e1 ks vs (λs3=>P (.done (.ret .none)) s3) s')/\(2<=vs.length ->
     aK (model prog w) A (keyKind' ks.toArray) (λκ s''=>(mz vs.length).kasWp (kas_ask prog w A κ ks) (λp s3=>SkFin a kS e e1 ks (p.toList.map λi=>vs.getD i cm) (λs4=>P (.done (.ret .none)) s4) s3) s'') (λ_ _=>False) s'))) :
  aK (model prog w) A (ksk_tree a f false) P E s:=by
 have ha:a<s.heap.objs.size:=aF ho
 have s1:=bE s.heap a (be λ_=>(#[]:Array Value))
 obtain⟨e1,ho1⟩:∃e1,(s.heap.update a (be λ_=>(#[]:Array Value))).get? a=some (bv "list" #[] e1):=⟨_,d_ ho λ_=>#[]⟩
 have hsz:((s.heap.update a (be λ_=>(#[]:Array Value))).push (bv "tuple" vs.toArray 0)).objs.size=s.heap.objs.size+1:=by rw[j7,jv]
 unfold ksk_tree
 refine af (jX ho rfl ?_)
 refine af (eZ ho rfl ?_ (by rw[aq,bG];omega) (bC _))
 refine af (iG ho1 rfl ?_)
 refine af (kq ?_ (by show vs.length<=_;rw[bG];omega))
 refine af (fO ?_ (bC _))
 refine bj ?_
 show aK (model prog w) A (ksk_rest a f false vs.toArray e1 (.ref ((s.heap.update a (be λ_=>(#[]:Array Value))).push (bv "tuple" vs.toArray 0)).objs.size)) P E { s with heap:=((s.heap.update a (be λ_=>(#[]:Array Value))).push (bv "tuple" vs.toArray 0)).push (bv "list" #[] 0) }
 have hk0:(((s.heap.update a (be λ_=>(#[]:Array Value))).push (bv "tuple" vs.toArray 0)).push (bv "list" #[] 0)).get? (((s.heap.update a (be λ_=>(#[]:Array Value))).push (bv "tuple" vs.toArray 0)).objs.size)=some (bv "list" #[] 0):=aB _ rfl
 have ha0:(((s.heap.update a (be λ_=>(#[]:Array Value))).push (bv "tuple" vs.toArray 0)).push (bv "list" #[] 0)).get? a=some (bv "list" #[] e1):=ah _ (ah _ ho1)
 obtain⟨G,g0,gs,gf⟩:=h e1 _ _ (by rw[hsz];exact dm _) ha0 hk0 (λb o nb e=>ah _ (ah _ ((s1.2 b nb).trans e)))
 have hne:a≠((s.heap.update a (be λ_=>(#[]:Array Value))).push (bv "tuple" vs.toArray 0)).objs.size:=by rw[hsz];exact aT (du ha)
 have gz:=g0 0 hk0
 generalize ((s.heap.update a (be λ_=>(#[]:Array Value))).push (bv "tuple" vs.toArray 0)).objs.size=kS at *
 generalize ((s.heap.update a (be λ_=>(#[]:Array Value))).push (bv "tuple" vs.toArray 0)).push (bv "list" #[] 0)=h' at *
 unfold ksk_rest
 refine af (gp ?_)
 rw[<- iO]
 refine af (ksk_fold (λj s'=>∃ks e,ks.length=j/\s'.heap.get? kS=some (bv "list" ks.toArray e)/\G ks s') vs 0 _ ⟨[],0,rfl,hk0,gz⟩ (λj x s' hx ⟨ks,e,hl,hk,hg⟩=>?_) λs' ⟨ks,e,hl,hk,hg⟩=>?_)
 .rw[cT] at hl
  have hj:j<vs.length:=(List.getElem?_eq_some_iff.mp hx).1
  refine af (fN (bW (gs j x ks e s' hx hl hk hg) (λk s'' hq=>?_) λ_ _ z=>z.elim))
  obtain⟨hk2,hq⟩:=hq
  dsimp only
  refine af (eZ hk2 rfl ?_ (by rw[aq,bG];omega) (by rw[Array.size_push,aq,bG];omega))
  have e3:(ks.toArray.push k)=(ks++[k]).toArray:=by simp
  obtain⟨c,hc⟩:∃c,(s''.heap.update kS (be λx=>x.push k)).get? kS=some (bv "list" (ks++[k]).toArray c):=⟨_,by rw[<- e3];exact d_ hk2 λx=>x.push k⟩
  exact ai ⟨rfl,ks++[k],c,by rw[aU,hl,cT];rfl,hc,hq _ c hc (bE _ _ _)⟩
 .rw[cT] at hl
  obtain⟨q1,q2⟩:=gf ks e s' hl hk hg
  refine af (jX hk rfl ?_)
  unfold ksk_end
  simp only[bM,if_false]
  by_cases h2:vs.toArray.size<2
  .rw[if_pos h2,if_pos h2]
   refine af (ai ?_)
   rw[StateT.run_pure]
   refine af (ai ?_)
   dsimp only
   refine Xo hne ?_ h64 (by omega) rfl (q1 (by simpa using h2))
   show iZ (λx:Keyed=>x.snd) (ks.toArray.zip vs.toArray)=vs.toArray
   apply Array.ext'
   simp only[Array.toList_map,Array.toList_zip]
   exact List.map_snd_zip (by omega)
  .have h2':2<=vs.length:=by rw[aq] at h2;omega
   rw[if_neg h2,if_neg h2]
   refine af (bW (q2 h2') (λκ s0 hk0=>?_) λ_ _ x=>x.elim)
   refine af (bW (kat_run (Q:=λst' s'=>∃p:Array Nat,p.size=vs.length/\ml st'=p.map (j6 (ks.toArray.zip vs.toArray))/\lO st'=none/\SkFin a kS e e1 ks (p.toList.map λi=>vs.getD i cm) (λs''=>P (.done (.ret .none)) s'') s')
    hl h2' h64 (λp' st' s' a1 a2 a3 a4=>⟨p',a1,a2,a3,a4⟩) hk0) ?_ λ_ _ e=>e)
   rintro⟨⟨⟩,st'⟩ s' ⟨p,hp,har,hf,hq⟩
   exact Xo hne (kat_snds hl har) (by rw[ae,dw,hp];exact h64) (by omega) hf hq
theorem sk_sorted {x:Value}{b:Addr}{OKQ:List Value->Heap->Nat->Prop}{Q:Value->av->Prop}(hc:∀R:List Value->av->Prop,(∀us h' tk,OKQ us h' tk->R us { s with heap:=h',toks:=tk })->aK (model prog w) A.in1 (collect x) R (λ_ _=>False) s)(h:∀us h' tk,OKQ us h' tk->us.length<64/\∀D e1 kS h2,h'.objs.size<=D->D<kS->h2.get? D=some (bv "list" #[] e1)->h2.get? kS=some (bv "list" #[] 0)->(∀b o,h'.get? b=some o->h2.get? b=some o) ->
   ∃G:List Value->av->Prop,G [] { s with heap:=h2,toks:=tk } /\
    (∀(j:Nat) x ks e s',us[j]?=some x->ks.length=j->s'.heap.get? kS=some (bv "list" ks.toArray e)->G ks s'->aK (model prog w) A.in1.in1 (call (.ref b) [x]) (λk s''=>s''.heap.get? kS=some (bv "list" ks.toArray e)/\∀h2 c,h2.get? kS=some (bv "list" (ks++[k]).toArray c)->bJ kS s''.heap h2->G (ks++[k]) { s'' with heap:=h2 }) (λ_ _=>False) s') /\
    (∀ks e s',ks.length=us.length->s'.heap.get? kS=some (bv "list" ks.toArray e)->G ks s'->(us.length<2->SkFin D kS e e1 ks us (λs3=>Q (.ref D) s3) s')/\(2<=us.length ->
     aK (model prog w) A.in1.in1 (keyKind' ks.toArray) (λκ s''=>(mz us.length).kasWp (kas_ask prog w A.in1.in1 κ ks) (λp s3=>SkFin D kS e e1 ks (p.toList.map λi=>us.getD i cm) (λs4=>Q (.ref D) s4) s3) s'') (λ_ _=>False) s'))) :
  aK (model prog w) A (call (.builtin "sorted") [x] [("key", .ref b)]) Q E s:=by
 refine call_function_entry_kw l_ lL lK (ksk_s1 _ _) ?_
 unfold aI.«sorted»
 refine af (m:=checkCount "sorted" 1 1 _) (ai ?_)
 refine af (bW (hc _ λus h' tk ok=>?_) (λ_ _ z=>z) λ_ _ z=>z.elim)
 obtain⟨h64,hb⟩:=h us h' tk ok
 refine af (fO ?_ (by rw[bG];omega))
 have hoL:(h'.push (bv "list" us.toArray 0)).get? h'.objs.size=some (bv "list" us.toArray 0):=aB _ rfl
 show aK _ _ _ _ _ { s with heap:=h'.push (bv "list" us.toArray 0),toks:=tk }
 refine af (bj (wpAny_call_entry_kw kl ⟨_,hoL,rfl⟩ jW ?body (ksk_l1 _ _)))
 case body=>
  rw[ksk_t1]
  refine a13 (s:={ s with heap:=h'.push (bv "list" us.toArray 0),toks:=tk }) hoL h64 λe1 kS h2 hk g gk k=>?_
  have hk2:h'.objs.size<kS:=by
   have hk:(h'.push (bv "list" us.toArray 0)).objs.size<=kS:=hk
   rw[j7] at hk;omega
  obtain⟨G,g0,gs,gf⟩:=hb h'.objs.size e1 kS h2 (ag _) hk2 g gk λb o q=>k b o (aT (aF q)) (ah _ q)
  refine⟨G,λ_ _=>g0,gs,λks e s' hl hk hg=>?_⟩
  obtain⟨q1,q2⟩:=gf ks e s' hl hk hg
  refine⟨λh2=>?_,λh2=>bW (q2 h2) (λκ s'' hk=>?_) λ_ _ x=>x⟩
  .obtain⟨r1,r2,r3⟩:=q1 h2
   exact⟨r1,r2,λh' c x y=>⟨_,rfl,ai ⟨_,rfl,r3 h' c x y⟩⟩⟩
  .rw[kat_ask_eq hl] at hk ⊢
   exact kas_wp_mono hk λp s3 ⟨r1,r2,r3⟩=>⟨r1,r2,λh' c x y=>⟨_,rfl,ai ⟨_,rfl,r3 h' c x y⟩⟩⟩
end
end PySem.W
namespace L2
open PySem PySem.Spec PyProof.Rows
section
theorem Inv.adopt(I:Inv X ξ U H s)(fa:Cq X ξ H a)(fd:Cq X ξ H d)(k:∀b u,b≠a->b≠d->s.heap.get? b=some u->h'.get? b=some u)(new:ObjOk X.prog X.w (upd H a o) h' a o):Inv X ξ U (upd H a o) { s with heap:=h' }:=by
 have nit:∀b u,H b=some u->b≠a/\b≠d:=λb u e=>⟨Ai e fa.1,Ai e fd.1⟩
 have nc:∀ {b:Addr},b∉[a,d]->b≠a/\b≠d:=λh=>by simpa using h
 refine I.step (g':=s.gens) (d':=s.drawn) (t':=s.toks) (ch:=[a,d]) (λb hb=>?_) (λb u _ _ hc e _=>k b u (nc hc).1 (nc hc).2 e) (λb u _ _ hc e _=>⟨u.slots,k b u (nc hc).1 (nc hc).2 e⟩) (λb u hc e n=>by rw[Ad (nc hc).1];exact n)
  (λb u hc e=>⟨u,k b u (nc hc).1 (nc hc).2 e⟩) (λb xs q=>by rw[Ad (nit b _ q).1];exact q) (λb u v q=>by rw[Ad (nit b _ q).1];exact q) (λb ps q=>⟨#[],by rw[Ad (nit b _ q).1,q];simp⟩) (λm hm=>?_) (λb u e=>?_) I.bare
 .rcases List.mem_cons.mp hb with rfl|hb
  .exact⟨fa.2.2.2.1,fa.2.1,fa.2.2.2.2.1,fa.2.2.2.2.2⟩
  .have e:b=d:=by simpa using hb
   subst e
   exact⟨fd.2.2.2.1,fd.2.1,fd.2.2.2.2.1,fd.2.2.2.2.2⟩
 .obtain⟨u,es,ep,ho,r⟩:=hm
  exact⟨u,es,ep,k _ u (cA fa.2.1) (cA fd.2.1) ho,r⟩
 .by_cases hb:b=a
  .subst hb;rw[Ab] at e;cases e;exact new
  .rw[Ad hb] at e
   refine (I.hok b u e).stay (λc v hc q=>?_) (λc q=>by rw[Ad (nit c _ q).1];exact q) λc xs q=>by rw[Ad (nit c _ q).1];exact q
   rcases hc with z|z
   .rw[z] at q ⊢;exact k _ v (nit b u e).1 (nit b u e).2 q
   .exact k c v (nit c _ z).1 (nit c _ z).2 q
end
noncomputable abbrev RF:=List V->Hp->VK->Prop
noncomputable def N2(x:V)(T:String):Bool:=match x with
 |.int _=>T == "int"
 |.bl _=>T == "bool" || T == "int"
 |.str _=>T == "str"
 |_=>false
noncomputable def okT(T:String):Bool:=["int", "bool", "str", "list", "tuple", "dict"].contains T
noncomputable def Fj(K:ac):RF:=λxs H Q=>match xs with
 |[.int i,.ty T]=>okT T=true/\Q (.bl (N2 (.int i) T)) H
 |[.bl i,.ty T]=>okT T=true/\Q (.bl (N2 (.bl i) T)) H
 |[.str i,.ty T]=>okT T=true/\Q (.bl (N2 (.str i) T)) H
 |[.non,.ty T]=>okT T=true/\Q (.bl (N2 .non T)) H
 |[x,.ty T]=>∃t b,TyX K H x t/\dR K t (.type T)=some b/\Q (.bl b) H
 |[x,.ref C]=>(∃t b,TyX K H x t/\dR K t (.ref C)=some b/\Q (.bl b) H)\/False
 |_=>False
noncomputable def Dp(K:ac):RF:=λxs H Q=>match xs with
 |[.str z]=>z.length<=sizeLine/\Q (.int z.length) H
 |[.ref p]=>(∃ys,(SqL K H p ys\/SqT K H p ys)/\Q (.int ys.length) H) \/ ∃kvs,Rd H p (.dK kvs)/\Q (.int kvs.length) H
 |_=>False
noncomputable def Sm(K:ac):RF:=λxs H Q=>match xs with
 |[.ref p]=>∃bs:List Bool,SqL K H p (bs.map V.bl)/\Q (.bl (bs.all λb=>b)) H
 |_=>False
noncomputable def Uz8:RF:=λxs H Q=>match xs with
 |[.int i]=>Q (.int i) H
 |[.bl k]=>Q (.int (if k then 1 else 0)) H
 |_=>False
noncomputable def Qc(K:ac):RF:=λxs H Q=>match xs with
 |[.ref p]=>∃ys,(SqL K H p ys\/SqT K H p ys)/\∀l,H l=none->Q (.ref l) (upd H l (.lst ys))
 |_=>False
noncomputable def Gi(K:ac):RF:=λxs H Q=>match xs with
 |[.ref p]=>∃ys,(SqL K H p ys/\∀l,H l=none->Q (.ref l) (upd H l (.tup ys)))\/(SqT K H p ys/\Q (.ref p) H)
 |_=>False
noncomputable def Qb(K:ac)(calm:Bool):RF:=λxs H Q=>Qc K xs H Q\/(calm=true/\False)
noncomputable def Va(K:ac)(calm:Bool):RF:=λxs H Q=>False\/(calm=true/\(am3 K xs H Q\/am2 xs H Q))
inductive BF where
 |bf (id:String)|ty (T:String)
noncomputable def a79(K:ac)(calm:Bool)(x:Str):Option (BF×RF):=
 if x="len" then some (.bf "len", Dp K) else
 if x="isinstance" then some (.bf "isinstance", Fj K) else
 if x="all" then (if calm=true then some (.bf "all", Sm K) else none) else
 if x="int" then some (.ty "int", Uz8) else
 if x="list" then some (.ty "list", Qb K calm) else
 if x="tuple" then some (.ty "tuple", Gi K) else
 if x="sorted" then some (.bf "sorted", Va K calm) else
 if x="sum" then (if calm=true then some (.bf "sum", bl7 K) else none) else
 if x="dict" then some (.ty "dict", Qa) else none
noncomputable def BF.val:BF->Value
 |.bf id=>.builtin id
 |.ty T=>.type T
section
variable {X:Cx}
theorem Um {K:ac}{x:V}{T:String}(hx:B1 x=true)(h:okT T=true):∃t,(∀H,TyOf K H x t)/\dR K t (.type T)=some (N2 x T):=by
 have hT:T="int" \/ T="bool" \/ T="str" \/ T="list" \/ T="tuple" \/ T="dict" := by
  unfold okT at h
  simpa using h
 cases x with
 |int i=>refine⟨_,λH=>TyOf.int i,?_⟩;rcases hT with rfl|rfl|rfl|rfl|rfl|rfl <;> rfl
 |bl i=>refine⟨_,λH=>TyOf.bl i,?_⟩;rcases hT with rfl|rfl|rfl|rfl|rfl|rfl <;> rfl
 |str i=>refine⟨_,λH=>TyOf.str i,?_⟩;rcases hT with rfl|rfl|rfl|rfl|rfl|rfl <;> rfl
 |non=>refine⟨_,λH=>TyOf.non,?_⟩;rcases hT with rfl|rfl|rfl|rfl|rfl|rfl <;> rfl
 |_=>cases hx
theorem ac8:B9 X (.builtin "isinstance") (Fj X.K):=by
 intro ξ s U H xs us Q I r h
 have sc:∀x T,xs=[x,.ty T]->B1 x=true->okT T=true->Q (.bl (N2 x T)) H->aK (model X.prog X.w) X.A (call (.builtin "isinstance") us) (EP X ξ U Q) X.xe s:=λx T e hx hT q=>by
  subst e
  obtain⟨t,ht,hk⟩:=Um (K:=X.K) hx hT
  exact ac7 ξ s U H _ us Q I r ⟨x,T,t,_,rfl,ht H,hk,q⟩
 unfold Fj at h
 split at h
 .exact sc _ _ rfl rfl h.1 h.2
 .exact sc _ _ rfl rfl h.1 h.2
 .exact sc _ _ rfl rfl h.1 h.2
 .exact sc _ _ rfl rfl h.1 h.2
 .obtain⟨t,b,ty,e,q⟩:=h
  obtain⟨u,v,rfl,ru,rv⟩:=r.two
  cases rv
  exact bB (ag _) (Lf I ru ty e λtk htk=>⟨.bl b,H,I.tok tk htk,rfl,q⟩)
 .obtain⟨u,v,rfl,ru,rv⟩:=r.two
  rcases h with ⟨t,b,ty,e,q⟩|h
  .cases rv
   exact bB (ag _) (Lf I ru ty e λtk htk=>⟨.bl b,H,I.tok tk htk,rfl,q⟩)
  .exact h.elim
 .exact h.elim
theorem X7:B9 X (.builtin "len") (Dp X.K):=by
 intro ξ s U H xs us Q I r h
 unfold Dp at h
 split at h
 .exact Oz ξ s U H _ us Q I r ⟨_,rfl,h.1,h.2⟩
 .rcases h with ⟨ys,h1,h2⟩|⟨kvs,h1,h2⟩
  .exact Oy ξ s U H _ us Q I r ⟨_,ys,rfl,h1,h2⟩
  .obtain⟨u,rfl,ru⟩:=Dn r
   cases ru
   exact bp3 I h1 λt s' I'=>⟨.int _,H,I',⟨t,rfl⟩,h2⟩
 .exact h.elim
theorem X5(hc:X.calm=true):B9 X (.builtin "all") (Sm X.K):=by
 intro ξ s U H xs us Q I r h
 unfold Sm at h
 split at h
 .obtain⟨bs,h1,h2⟩:=h
  exact ac6 hc ξ s U H _ us Q I r ⟨_,bs,rfl,h1,h2⟩
 .exact h.elim
theorem X6:B9 X (.type "int") Uz8:=by
 intro ξ s U H xs us Q I r h
 unfold Uz8 at h
 split at h
 .exact Nm ξ s U H _ us Q I r (.inl ⟨_,rfl,h⟩)
 .exact Nm ξ s U H _ us Q I r (.inr ⟨_,rfl,h⟩)
 .exact h.elim
theorem Tu:B9 X (.type "list") (Qc X.K):=by
 intro ξ s U H xs us Q I r h
 unfold Qc at h
 split at h
 .obtain⟨ys,h1,h2⟩:=h
  exact O7 ξ s U H _ us Q I r ⟨_,ys,rfl,h1,h2⟩
 .exact h.elim
theorem X8:B9 X (.type "tuple") (Gi X.K):=by
 intro ξ s U H xs us Q I r h
 unfold Gi at h
 split at h
 .obtain⟨ys,h1⟩:=h
  exact Mo ξ s U H _ us Q I r ⟨_,ys,rfl,h1⟩
 .exact h.elim
theorem au1(hu:X.A.units+64<cLine)(h:a79 X.K c x=some (f,r))(hc:c=X.calm):cW x=some f.val/\B9 X f.val r:=by
 unfold a79 at h
 by_cases e:x="len"
 .rw[if_pos e] at h;cases h;rw[e];exact⟨PySem.boot_len,X7⟩
 rw[if_neg e] at h
 by_cases e:x="isinstance"
 .rw[if_pos e] at h;cases h;rw[e];exact⟨PyProof.Rows.boot_isinstance,ac8⟩
 rw[if_neg e] at h
 by_cases e:x="all"
 .rw[if_pos e] at h
  by_cases ec:c=true
  .rw[if_pos ec] at h;cases h;rw[e];exact⟨PyProof.Rows.boot_all,X5 (hc▸ec)⟩
  .rw[if_neg ec] at h;cases h
 rw[if_neg e] at h
 by_cases e:x="int"
 .rw[if_pos e] at h;cases h;rw[e];exact⟨jT,X6⟩
 rw[if_neg e] at h
 by_cases e:x="list"
 .rw[if_pos e] at h;cases h;rw[e];exact⟨gN,λξ s U H xs us Q I r h=>h.elim (Tu ξ s U H xs us Q I r) λz=>z.2.elim⟩
 rw[if_neg e] at h
 by_cases e:x="tuple"
 .rw[if_pos e] at h;cases h;rw[e];exact⟨jp,X8⟩
 rw[if_neg e] at h
 by_cases e:x="sorted"
 .rw[if_pos e] at h;cases h;rw[e];exact⟨Jb,λξ s U H xs us Q I r h=>h.elim cb λz=>z.2.elim (Tw (hc▸z.1) ξ s U H xs us Q I r) (Tv (hc▸z.1) ξ s U H xs us Q I r)⟩
 rw[if_neg e] at h
 by_cases e:x="sum"
 .rw[if_pos e] at h
  by_cases ec:c=true
  .rw[if_pos ec] at h;cases h;rw[e];exact⟨PyProof.Rows.boot_sum,ac9 (hc▸ec)⟩
  .rw[if_neg ec] at h;cases h
 rw[if_neg e] at h
 by_cases e:x="dict"
 .rw[if_pos e] at h;cases h;rw[e];exact⟨boot_dict,Tq⟩
 rw[if_neg e] at h
 cases h
noncomputable abbrev RM:=V->List V->Hp->VK->Prop
structure BM where
 T:String
 id:String
 r:RM
noncomputable def rMt(K:ac)(bs:List BM):V->Hp->(Hp->(List V->Hp->Prop)->Prop)->VK->Prop:=λx H1 ta Q=>
 match bs with
 |[]=>False
 |[b]=>tyV K b.T x H1/\ta H1 λxs H2=>b.r x xs H2 Q
 |b::rest=>(tyV K b.T x H1/\ta H1 λxs H2=>b.r x xs H2 Q)\/rMt K rest x H1 ta Q
structure a58 (X:Cx) (m:Str) (b:BM):Prop where
 pa:PlainAttrs b.T
 slot:Slot b.T m b.id
 ty:typeOf (.builtin b.id)=pure (.type "method_descriptor")
 mt:MtR X b.id b.r
noncomputable def Oi(K:ac):RM:=λx xs H Q=>∃z p ys,x=.str z/\xs=[.ref p]/\(SqL K H p (ys.map V.str)\/False)/\(ys.map (·.length)).sum+ys.length * z.length<=16777216/\Q (.str (Txt.join z ys)) H
theorem ah4:MtR X "str.join" (Oi X.K):=by
 intro ξ s U H x xs v us Q I rx rs h
 obtain⟨z,p,ys,rfl,rfl,hq,hz,q⟩:=h
 exact aw5 ξ s U H _ _ v us Q I rx rs ⟨z,p,ys,rfl,rfl,hq.resolve_right id,hz,q⟩
noncomputable def al8:RM:=λx xs H Q=>∃i,x=.int i/\xs=[]/\Q (.int (iu i:Nat)) H
noncomputable def Lw:RM:=λx xs H Q=>match x,xs with
 |.ref a,[y]=>∃o,DGet H a y o/\Q (o.getD .non) H
 |.ref a,[y,z]=>∃o,DGet H a y o/\Q (o.getD z) H
 |_,_=>False
theorem aw4(hu:X.A.units+64<cLine):MtR X "dict.get" Lw:=by
 intro ξ s U H x xs v us Q I rx rs h
 unfold Lw at h
 split at h
 .obtain⟨o,g,q⟩:=h
  obtain⟨u,rfl,ru⟩:=rs.one
  cases rx
  exact a82 (by omega) I g ru λw' s' I' r'=>⟨_,H,I',r',q⟩
 .obtain⟨o,g,q⟩:=h
  obtain⟨u,w,rfl,ru,rw'⟩:=rs.two
  cases rx
  exact a83 (by omega) I g ru rw' λw' s' I' r'=>⟨_,H,I',r',q⟩
 .exact h.elim
theorem Ud(h:i<sizeLine):dF (i:Int)=true:=by
 have hs:sizeLine<=9223372036854775807:=aM rfl
 have e:(2:Int) ^ 63=9223372036854775808:=rfl
 unfold dF
 rw[e,aH]
 exact⟨decide_eq_true (by omega),decide_eq_true (by omega)⟩
noncomputable def Kq:RM:=λx vs H Q=>∃l xs y,∃i:Nat,x=.ref l/\vs=[.int (i:Int),y]/\H l=some (.lst xs)/\i<=xs.length/\xs.length<sizeLine/\Q .non (upd H l (.lst (xs.take i++y::xs.drop i)))
theorem Yu:MtR X "list.insert" Kq:=by
 intro ξ s U H x vs v us Q I rx rv h
 obtain⟨l,xs,y,i,rfl,rfl,hH,hi,hz,q⟩:=h
 cases rx
 obtain⟨u1,u2,rfl,⟨t,rfl⟩,r2⟩:=rv.two
 obtain⟨z,χ,n,r,hl,e⟩:=I.lstM hH
 have hf:dF (i:Int)=true:=Ud (bb hi hz)
 have hz':χ.toArray.size<=sizeLine:=by rw[aq,<- hl];exact z
 obtain⟨j,hj⟩:∃j:Int,j=(i:Int):=⟨_,rfl⟩
 rw[<- hj] at hf ⊢
 have hf':¬ (!dF j)=true:=by rw[hf];decide
 have M:=AutoSeq1.list_insert_list_int_val_1 l χ.toArray n j t u2 hf' hz'
 refine ll i7 ⟨_,e,rfl⟩ PySem.F.entry_list_insert (PySem.F.args_list_insert_3 _ _ _) M ⟨e,?_⟩
 refine⟨.non,_,I.lset (its':=χ.take i++u2::χ.drop i) hH e ?_ ((r.take i).append (.cons r2 (r.drop i))) ?_,rfl,q⟩
 .have hk:(if j<0 then (j+(χ.toArray.size:Int)).toNat else min j.toNat χ.toArray.size)=i:=by
   rw[if_neg (by omega),aq,hj,aY]
   omega
  show (χ.toArray.extract 0 (if j<0 then (j+(χ.toArray.size:Int)).toNat else min j.toNat χ.toArray.size)).push u2++χ.toArray.extract (if j<0 then (j+(χ.toArray.size:Int)).toNat else min j.toNat χ.toArray.size)=_
  rw[hk]
  apply Array.toList_inj.mp
  simp
  exact gM (by simp)
 .rw[aU,aN,aC,jw]
  omega
noncomputable def mtR(K:ac)(m:Str):List BM:=
 if m="append" then [⟨"list", "list.append", Db⟩] else
 if m="get" then [⟨"dict", "dict.get", Lw⟩] else
 if m="extend" then [⟨"list", "list.extend", Ko⟩] else
 if m="clear" then [⟨"list", "list.clear", P9⟩] else
 if m="join" then [⟨"str", "str.join", Oi K⟩] else
 if m="bit_length" then [⟨"int", "int.bit_length", al8⟩] else
 if m="insert" then [⟨"list", "list.insert", Kq⟩] else []
theorem ah1 {m:Str}{b:BM}(hu:X.A.units+64<cLine)(h:b∈mtR X.K m):a58 X m b:=by
 unfold mtR at h
 by_cases e:m="append"
 .rw[if_pos e] at h
  have:b=⟨"list", "list.append", Db⟩:=by simpa using h
  subst this;subst e
  exact⟨eY,PySem.F.slot_list_append,PySem.F.type_list_append,Oc⟩
 rw[if_neg e] at h
 by_cases e:m="get"
 .rw[if_pos e] at h
  have:b=⟨"dict", "dict.get", Lw⟩:=by simpa using h
  subst this;subst e
  exact⟨PySem.F.plainAttrs_dict,dN,PySem.F.type_dict_get,aw4 hu⟩
 rw[if_neg e] at h
 by_cases e:m="extend"
 .rw[if_pos e] at h
  have:b=⟨"list", "list.extend", Ko⟩:=by simpa using h
  subst this;subst e
  exact⟨eY,PySem.F.slot_list_extend,PySem.F.type_list_extend,Yt⟩
 rw[if_neg e] at h
 by_cases e:m="clear"
 .rw[if_pos e] at h
  have:b=⟨"list", "list.clear", P9⟩:=by simpa using h
  subst this;subst e
  exact⟨eY,PySem.F.slot_list_clear,PySem.F.type_list_clear,ah3⟩
 rw[if_neg e] at h
 by_cases e:m="join"
 .rw[if_pos e] at h
  have:b=⟨"str", "str.join", Oi X.K⟩:=by simpa using h
  subst this;subst e
  exact⟨PySem.F.plainAttrs_str,PySem.F.slot_str_join,PySem.F.type_str_join,ah4⟩
 rw[if_neg e] at h
 by_cases e:m="bit_length"
 .rw[if_pos e] at h
  have:b=⟨"int", "int.bit_length", al8⟩:=by simpa using h
  subst this;subst e
  exact⟨PySem.F.plainAttrs_int,PySem.F.slot_int_bit_length,PySem.F.type_int_bit_length,aw3⟩
 rw[if_neg e] at h
 by_cases e:m="insert"
 .rw[if_pos e] at h
  have:b=⟨"list", "list.insert", Kq⟩:=by simpa using h
  subst this;subst e
  exact⟨eY,i7,PySem.F.type_list_insert,Yu⟩
 rw[if_neg e] at h
 cases h
theorem Qd {K:ac}:∀ {bs:List BM} {x:V} {H1:Hp} {ta:Hp->(List V->Hp->Prop)->Prop} {Q:VK},rMt K bs x H1 ta Q -> ∃b∈bs,tyV K b.T x H1/\ta H1 λxs H2=>b.r x xs H2 Q
 |[],_,_,_,_,h=>h.elim
 |[b],_,_,_,_,h=>⟨b,by simp,h⟩
 | b::c::rest,x,H1,ta,Q,h=>by
  rcases h with h|h
  .exact⟨b,by simp,h⟩
  .obtain⟨d,hd,q⟩:=Qd h
   exact⟨d,ax _ hd,q⟩
noncomputable def Ds:Expr->Bool
 |.Call (.Name x _) [] [] _=>!(x==("super" : Str))
 |_=>true
theorem Es(h:Ds e=true)(f:Str)(env:Env)(whole:Sem Value):jt e f env whole=whole:=by
 unfold jt
 split
 .rename_i id p pos
  have:(id==("super" : Str))=false:=by
   have h':(!(id==("super" : Str)))=true:=h
   simpa using h'
  have e2:(id != "super")=true:=by
   show (!(id == "super"))=true
   rw[this]
   rfl
  rw[e2]
  simp
 .rfl
variable {o:Expr} {do':DE} {es:List Expr} {r:DA} {m:Str} {apos cpos:Pos}
theorem bj3 {bs:List BM}(hb:∀b∈bs,a58 X m b)(ho:QE X o do')(h1:Ds o=true)(h4:(apos.endLine==cpos.line)=true) :
  QE X (.Call (.Attribute o m apos) [] [] cpos) (dMt (rMt X.K bs) do' Ag):=by
 intro Ex mt ξ s U H Q I h
 refine wpAny_Call_method0_late (Es h1 m X.env _) h4 (thn (ho Ex mt ξ s U H _ I h) λv s1 ⟨x,H1,I1,r1,q1⟩=>?_)
 obtain⟨b,hbm,ty,q⟩:=Qd q1
 obtain⟨k1,k2⟩:=ar1 I1 r1 ty
 have B:=hb b hbm
 exact⟨b.T,b.id,B.pa,B.slot,B.ty,k1,k2,jG rfl (PySem.evalArgs_none (B.mt ξ s1 U H1 x [] v [] Q I1 r1 .nil q))⟩
theorem bv5 {bs:List BM}{e:Expr}(hb:∀b∈bs,a58 X m b)(ho:QE X o do')(ha:QA X (e::es) r)(h1:Ds o=true)(h2:(e::es).all noStar=true)(h3:(e::es).length<30)(h4:(apos.endLine==cpos.line)=true) :
  QE X (.Call (.Attribute o m apos) (e::es) [] cpos) (dMt (rMt X.K bs) do' r):=by
 intro Ex mt ξ s U H Q I h
 have hs:=bR▸h2
 rw[aH] at hs
 have hfew:((jb cpos (cX (e::es) X.env)).all (λx=>!x.1)&&(mn cpos (kK [] X.env)).all (λx=>x.1.isSome)
   && decide ((e::es).length+([]:List lU).length+(if ([]:List lU).isEmpty then 0 else 1)<30))=true:=by
  rw[Jf h2]
  have:decide ((e::es).length+([]:List lU).length+(if ([]:List lU).isEmpty then 0 else 1)<30)=true:=by
   rw[decide_eq_true_iff]
   simpa using h3
  rw[this]
  rfl
 refine wpAny_Call_method_late (Es h1 m X.env _) hfew h4 rfl (thn (ho Ex mt ξ s U H _ I h) λv s1 ⟨x,H1,I1,r1,q1⟩=>?_)
 obtain⟨b,hbm,ty,q⟩:=Qd q1
 obtain⟨k1,k2⟩:=ar1 I1 r1 ty
 have B:=hb b hbm
 refine⟨b.T,b.id,B.pa,B.slot,B.ty,k1,k2,?_⟩
 have hA:=ha Ex mt cpos ξ s1 U H1 _ I1 q
 rw[Av hs.1] at hA ⊢
 refine jG (by show (false||(jb cpos (cX es X.env)).any (·.1))=false;rw[Bm hs.2] <;> rfl) (Calls.evalArgs_plain ?_)
 exact thn hA λus s2 ⟨vs,H2,I2,r2,q2⟩=>B.mt ξ s2 U H2 x vs v us Q I2 r1 r2 q2
variable {x:Str} {p pos:Pos} {G:Sg}
theorem bi8 {f:BF}{rf:RF}{e:Expr}(hc:B9 X f.val rf)(hg:Gl X x)(hm:X.mg x=none)(hv:cW x=some f.val)(ha:QA X (e::es) r)(hs:(e::es).all noStar=true)(hn:x ≠ "__name__")(hdb:(x==("__debug__" : Str))=false) :
  QE X (.Call (.Name x p) (e::es) [] pos) (dFn (λvs H Q _=>rf vs H Q) r):=by
 intro Ex mt
 have h:=bR▸hs
 rw[aH] at h
 cases f with
 |bf id=>exact ai9 hc hg hm hv (ha Ex mt) hn hdb (Av h.1 es X.env) (Bm h.2 X.env pos)
 |ty T=>exact Y1 hc hg hm hv (ha Ex mt) hn hdb (Av h.1 es X.env) (Bm h.2 X.env pos)
noncomputable def spE(sp:Sp)(dvs:List V):List V->Hp->VK->EK->Prop:=λvs H Q E=>sp (vs++dvs) H Q (λv _ H'=>∃a,v=.ref a/\E a H')
theorem Ks(F:Gv X i)(hj:j<=i.dfs.length)(mt:Meets X Ex)(I:Inv X ξ U H s)(r:Vals vs us)(h:spE i.sp (i.dfs.drop j) vs H Q (Ex U)):aK (model X.prog X.w) X.A (call (.ref i.f) us) (EP X ξ U Q) X.xe s:=by
 obtain⟨CX,hx,FO⟩:=F.ok
 have r2:Vals (vs++i.dfs.drop j) (us++i.ds.drop j):=r.append (F.vals.drop j)
 have hl:(us++i.ds.drop j).length=i.ps.length:=by rw[<- r2.length];exact FO.len _ _ _ _ h
 refine gn (eJ (FO.run X.A X.stack s H ⟨us,[]⟩ (us++i.ds.drop j) (vs++i.dfs.drop j) Q _ F.room I.env0 (F.binds j hj s us I.kIn hl) r2 h) λr s' hq=>?_)
 cases r with
 |error e=>exact hx X rfl rfl Ex mt ξ U H s e s' I hq
 |ok fl=>
  cases fl with
  |ret u=>exact I.after hq
  |next=>exact cb hq
  |brk=>exact cb hq
  |cont=>exact cb hq
theorem ak4(F:Gv X i)(hj:j<=i.dfs.length)(hg:Gl X x)(hm:X.mg x=some (.ref i.f))(hdb:(x==("__debug__" : Str))=false) :
  QE X (.Call (.Name x p) [] [] pos) (dFn (spE i.sp (i.dfs.drop j)) Ag):=by
 intro Ex mt ξ s U H Q I h
 refine bN (Dr I hg hm ?_ hdb)
 exact f9 I.kIn F.kp (Ks (us:=[]) F hj mt I .nil h)
theorem az1(F:Gv X i)(hj:j<=i.dfs.length)(hg:Gl X x)(hm:X.mg x=some (.ref i.f))(ha:QA X (e::es) r)(hs:(e::es).all noStar=true)(hdb:(x==("__debug__" : Str))=false) :
  QE X (.Call (.Name x p) (e::es) [] pos) (dFn (spE i.sp (i.dfs.drop j)) r):=by
 intro Ex mt ξ s U H Q I h
 have h2:=bR▸hs
 rw[aH] at h2
 refine bN (Dr I hg hm ?_ hdb)
 refine gE (h₀:=X.base) I.ok.mod.kin F.kp (thn (ha Ex mt pos ξ s U H _ I h) λus s1 ⟨vs,H1,I1,r,q⟩=>⟨I1.kIn,?_⟩) (Av h2.1 es X.env) (Bm h2.2 X.env pos)
 exact Ks F hj mt I1 r q
noncomputable def mkX(C:Addr):Option FI->Nat->List V->Hp->VK->EK->Prop
 |none,_=>λ_ _ _ _=>False
 |some i,j=>λvs H Q E=>∀a,H a=none->i.sp (.ref a::(vs++i.dfs.drop j)) (upd H a (G7 a C none)) (λv H2=>v=.non/\Q (.ref a) H2) (λv _ H'=>∃b,v=.ref b/\E b H')
theorem Xm(c:ECls X.K C)(hi:Os X C oi)(hj:∀i,oi=some i->j<=i.dfs.length)(mt:Meets X Ex)(I:Inv X ξ U H s)(rv:Vals vs us)(hl:vs.length<=1000)(h:mkX C oi j vs H Q (Ex U)):aK (model X.prog X.w) X.A (call (.ref C) us) (EP X ξ U Q) X.xe s:=by
 cases oi with
 |none=>exact h.elim
 |some i=>
  obtain⟨h1,h2,F,hr⟩:=hi
  obtain⟨CX,hx,FO⟩:=F.ok
  exact Zc c h1 h2 FO hr (F.binds j (hj i rfl)) (F.vals.drop j) I rv hl (λe s1 s' H1 I1 q=>hx X rfl rfl Ex mt ξ U H1 s1 e s' I1 q) h
theorem Xb(c:ECls X.K C)(hi:Os X C oi)(hj:∀i,oi=some i->j<=i.dfs.length)(kp:bh X.K (.ref C)=true)(hg:Gl X x)(hm:X.mg x=some (.ref C))(hdb:(x==("__debug__" : Str))=false) :
  QE X (.Call (.Name x p) [] [] pos) (dFn (mkX C oi j) Ag):=by
 intro Ex mt ξ s U H Q I h
 refine bN (Dr I hg hm ?_ hdb)
 exact f9 I.kIn kp (Xm (us:=[]) c hi hj mt I .nil (by simp) h)
theorem ak9(c:ECls X.K C)(hi:Os X C oi)(hj:∀i,oi=some i->j<=i.dfs.length)(kp:bh X.K (.ref C)=true)(hg:Gl X x)(hm:X.mg x=some (.ref C))(ha:QA X (e::es) r)(hs:(e::es).all noStar=true)(hdb:(x==("__debug__" : Str))=false) :
  QE X (.Call (.Name x p) (e::es) [] pos) (dFn (λvs H Q E=>vs.length<=1000/\mkX C oi j vs H Q E) r):=by
 intro Ex mt ξ s U H Q I h
 have h2:=bR▸hs
 rw[aH] at h2
 refine bN (Dr I hg hm ?_ hdb)
 refine gE (h₀:=X.base) I.ok.mod.kin kp (thn (ha Ex mt pos ξ s U H _ I h) λus s1 ⟨vs,H1,I1,r,q⟩=>⟨I1.kIn,?_⟩) (Av h2.1 es X.env) (Bm h2.2 X.env pos)
 exact Xm c hi hj mt I1 r q.1 q.2
noncomputable def mkC(C:Addr):Option FI->Nat->List V->Hp->VK->EK->Prop
 |none,_=>λ_ _ _ _=>False
 | some i,j=>λvs H Q E=>∀a dx,H a=none->H dx=none->dx≠a ->
   i.sp (.ref a::(vs++i.dfs.drop j)) (upd (upd H dx (.own a)) a (.ins C dx [])) (λv H2=>v=.non/\Q (.ref a) H2) (λv _ H'=>∃b,v=.ref b/\E b H')
theorem a07(M:Mk X.K C f)(F:FnOk X.prog X.w X.K X.mg X.base CX k f fd ps sp)(hr:Room (k+1) X.A)(hb:Binds X.K fd ps ds)(hd:Vals dvs ds)(hx:∀H1 s1 e s',Inv X ξ U H1 s1->CX X.stack H1 s1 E e s'->X.xe e s')(I:Inv X ξ U H s)(r:Vals vs us)(h:∀x dx,H x=none->H dx=none->dx≠x->sp (.ref x::(vs++dvs)) (upd (upd H dx (.own x)) x (.ins C dx [])) (λv H2=>v=.non/\Q (.ref x) H2) E) :
  aK (model X.prog X.w) X.A (call (.ref C) us) (EP X ξ U Q) X.xe s:=by
 have hq:=h (s.heap.objs.size+1) s.heap.objs.size (I.hok.fresh (dm _)) (I.hok.fresh (ag _)) (aT (cy _))
 have I2:=Inv.made (C:=C) I
 have r2:Vals (V.ref (s.heap.objs.size+1)::(vs++dvs)) (aV (s.heap.objs.size+1)::(us++ds)):=.cons rfl (r.append hd)
 have hl:(aV (s.heap.objs.size+1)::us++ds).length=ps.length:=by
  have e:=r2.length
  rw[F.len _ _ _ _ hq] at e
  exact e.symm
 refine gn (ag4 (f:=f) I.kIn M.makes M.init (beq_iff_eq.mp M.fn) (eJ (F.run _ X.stack _ _ ⟨aV (s.heap.objs.size+1)::us,[]⟩ (aV (s.heap.objs.size+1)::(us++ds)) _ _ E (hr.make C us [])
  (I2.env0.make C us []) (hb _ (aV (s.heap.objs.size+1)::us) I2.kIn hl) r2 hq) λr s' hq'=>?_))
 cases r with
 |error e=>exact hx _ _ e s' I2 hq'
 |ok fl=>
  cases fl with
  |ret u=>
   obtain⟨v,H',I3,rv,ev,q3⟩:=I2.after hq'
   subst ev
   exact⟨rv,⟨V.ref (s.heap.objs.size+1),H',I3,rfl,q3⟩⟩
  |next=>exact cb hq'
  |brk=>exact cb hq'
  |cont=>exact cb hq'
theorem Xl(hi:ab4 X C oi)(hj:∀i,oi=some i->j<=i.dfs.length)(mt:Meets X Ex)(I:Inv X ξ U H s)(rv:Vals vs us)(kp:bh X.K (.ref C)=true)(h:mkC C oi j vs H Q (Ex U)):aK (model X.prog X.w) X.A (call (.ref C) us) (EP X ξ U Q) X.xe s:=by
 cases oi with
 |none=>exact h.elim
 |some i=>
  obtain⟨h0,h1,h2,F,hr⟩:=hi
  obtain⟨CX,hx,FO⟩:=F.ok
  exact a07 ⟨h0,h1,h2,kp⟩ FO hr (F.binds j (hj i rfl)) (F.vals.drop j) (λH1 s1 e s' I1 q=>hx X rfl rfl Ex mt ξ U H1 s1 e s' I1 q) I rv h
theorem Xa(hi:ab4 X C oi)(hj:∀i,oi=some i->j<=i.dfs.length)(kp:bh X.K (.ref C)=true)(hg:Gl X x)(hm:X.mg x=some (.ref C))(hdb:(x==("__debug__" : Str))=false) :
  QE X (.Call (.Name x p) [] [] pos) (dFn (mkC C oi j) Ag):=by
 intro Ex mt ξ s U H Q I h
 refine bN (Dr I hg hm ?_ hdb)
 exact f9 I.kIn kp (Xl (us:=[]) hi hj mt I .nil kp h)
theorem bj2(hi:ab4 X C oi)(hj:∀i,oi=some i->j<=i.dfs.length)(kp:bh X.K (.ref C)=true)(hg:Gl X x)(hm:X.mg x=some (.ref C))(ha:QA X (e::es) r)(hs:(e::es).all noStar=true)(hdb:(x==("__debug__" : Str))=false) :
  QE X (.Call (.Name x p) (e::es) [] pos) (dFn (mkC C oi j) r):=by
 intro Ex mt ξ s U H Q I h
 have h2:=bR▸hs
 rw[aH] at h2
 refine bN (Dr I hg hm ?_ hdb)
 refine gE (h₀:=X.base) I.ok.mod.kin kp (thn (ha Ex mt pos ξ s U H _ I h) λus s1 ⟨vs,H1,I1,r,q⟩=>⟨I1.kIn,?_⟩) (Av h2.1 es X.env) (Bm h2.2 X.env pos)
 exact Xl hi hj mt I1 r kp q
noncomputable def Ck(m:Str)(n:Nat)(l:List MI)(o:DE)(t:DA):DE:=λU H Q E=>o U H (λx H1=>∃a dx fs mi,x=.ref a/\mi∈l/\H1 a=some (.ins mi.C dx fs)/\fs.lookup m=none/\(n+1<=mi.i.ps.length/\mi.i.ps.length<=n+1+mi.i.dfs.length) /\
 t U H1 (λvs H2=>spE mi.i.sp (mi.i.dfs.drop (n+1+mi.i.dfs.length - mi.i.ps.length)) (.ref a::vs) H2 Q E) E) E
theorem R8(h1:Ds o=true)(h2:es.all noStar=true)(h3:es.length<30)(h4:(apos.endLine==cpos.line)=true)(h:aK (model X.prog X.w) X.A (eval o X.env) (λov s1=>∀pl,aK (model X.prog X.w) X.A (getMethod ov m pl) (λfx s2=>aK (model X.prog X.w) X.A (callWith cpos fx.1 fx.2 (jb cpos (cX es X.env)) (mn cpos (kK [] X.env))) P X.xe s2) X.xe s1) X.xe s) :
  aK (model X.prog X.w) X.A (eval (.Call (.Attribute o m apos) es [] cpos) X.env) P X.xe s:=by
 have few:methodCallForm (es.length+([]:List lU).length) (jb cpos (cX es X.env)) (mn cpos (kK [] X.env))=true:=by
  unfold methodCallForm
  rw[Jf h2]
  simpa [mn,kK] using h3
 rw[arm_eval_Call,Es h1]
 refine af (thn h λov s1 h1=>af (e8 ?_))
 unfold methodCall calleeOf
 rw[few,if_pos rfl]
 refine af (bj (thn (h1 _) λfx s2 h2=>?_))
 have hp:methodCallPos true o X.env apos cpos=pure cpos:=by unfold methodCallPos;rw[h4];rfl
 rw[hp]
 exact af (ai h2)
theorem az6(hl:∀mi∈l,Cls X.K mi.C/\Q8 X.K mi.C m mi.i.f/\Gv X mi.i)(ho:QE X o do')(h1:Ds o=true)(h4:(apos.endLine==cpos.line)=true) :
  QE X (.Call (.Attribute o m apos) [] [] cpos) (Ck m 0 l do' Ag):=by
 intro Ex mt ξ s U H Q I h
 refine R8 (es:=[]) h1 rfl (by decide) h4 (thn (ho Ex mt ξ s U H _ I h) λu s1 ⟨x,H1,I1,rx,a,dx,fs,mi,ex,hm,ea,hf,hn,q⟩ pl=>?_)
 subst ex
 obtain rfl:u=aV a:=rx
 obtain⟨c,k,F⟩:=hl mi hm
 refine K9 I1 ea c k hf ?_
 exact f9 (first:=[.ref a]) I1.kIn k.kp (Ks (us:=[.ref a]) (vs:=[.ref a]) F (by omega) mt I1 (.cons rfl .nil) q)
theorem bj7(hl:∀mi∈l,Cls X.K mi.C/\Q8 X.K mi.C m mi.i.f/\Gv X mi.i)(ho:QE X o do')(ha:QA X (e::es) r)(h1:Ds o=true)(h2:(e::es).all noStar=true)(h3:(e::es).length<30)(h4:(apos.endLine==cpos.line)=true) :
  QE X (.Call (.Attribute o m apos) (e::es) [] cpos) (Ck m (es.length+1) l do' r):=by
 intro Ex mt ξ s U H Q I h
 refine R8 h1 h2 h3 h4 (thn (ho Ex mt ξ s U H _ I h) λu s1 ⟨x,H1,I1,rx,a,dx,fs,mi,ex,hm,ea,hf,hn,q⟩ pl=>?_)
 subst ex
 obtain rfl:u=aV a:=rx
 obtain⟨c,k,F⟩:=hl mi hm
 refine K9 I1 ea c k hf ?_
 have hs:=bR▸h2
 rw[aH] at hs
 refine gE (first:=[.ref a]) (h₀:=X.base) I.ok.mod.kin k.kp (thn (ha Ex mt cpos ξ s1 U H1 _ I1 q) λus s2 ⟨vs,H2,I2,r2,q2⟩=>⟨I2.kIn,?_⟩) (Av hs.1 es X.env) (Bm hs.2 X.env cpos)
 exact Ks (us:=.ref a::us) (vs:=.ref a::vs) F (by omega) mt I2 (.cons rfl r2) q2
noncomputable def De:DE:=λ_ H Q _=>∀p,H p=none->Q (.ref p) (upd H p (.dK []))\/Q (.ref p) (upd H p (.dT []))
theorem az3:QE X (.Dict [] [] pos) De:=λEx mt ξ s U H Q I h=>by
 have fr:=I.hok.fresh (ag s.heap.objs.size)
 rcases h _ fr with q|q
 .exact wpAny_Dict_empty ⟨.ref _,_,I.laid (a:=s.heap.objs.size) (o:=.dK []) (t':=s.toks) (λ_ _ q=>ah _ q) (ag _) (ad5 s.heap I.big),rfl,q⟩
 .exact wpAny_Dict_empty ⟨.ref _,_,I.laid (a:=s.heap.objs.size) (o:=.dT []) (t':=s.toks) (λ_ _ q=>ah _ q) (ag _) (ad7 s.heap I.big),rfl,q⟩
theorem Y8(hc:X.calm=true)(hg:Gl X "len")(hm:X.mg "len"=none)(hg2:Gl X "set")(hm2:X.mg "set"=none)(ha:QE X a da)(hs:noStar a=true) :
  QE X (.Call (.Name "len" p) [.Call (.Name "set" p2) [a] [] pos2] [] pos) (dUn (Kr X.K) da):=by
 intro Ex mt ξ s U H Q I h
 refine bN (Dk I hg hm PySem.boot_len (hZ (fj ?_) rfl rfl) (by decide) (by decide))
 refine bN (Dk I hg2 hm2 PyProof.Rows.boot_set (b5 ?_ (Av hs [] X.env) rfl) (by decide) (by decide))
 rw[Av hs]
 show aK _ _ (spliced ((false,eval a X.env)::jb pos2 (cX [] X.env))) _ _ s
 refine fj (thn (ha Ex mt ξ s U H _ I h) λu s1 ⟨x,H1,I1,r1,q1⟩=>fG ?_)
 exact thn (aw1 hc I1 r1 q1) λv s2 q=>fG q
theorem Uz6(hc:X.calm=true)(hg:Gl X "list")(hm:X.mg "list"=none)(hg2:Gl X "range")(hm2:X.mg "range"=none)(ha:QE X a da)(hs:noStar a=true) :
  QE X (.Call (.Name "list" p) [.Call (.Name "range" p2) [a] [] pos2] [] pos) (dUn Lx da):=by
 intro Ex mt ξ s U H Q I h
 refine bN (Dk I hg hm gN (b5 (fj ?_) rfl rfl) (by decide) (by decide))
 refine bN (Dk I hg2 hm2 boot_range (b5 ?_ (Av hs [] X.env) rfl) (by decide) (by decide))
 rw[Av hs]
 show aK _ _ (spliced ((false,eval a X.env)::jb pos2 (cX [] X.env))) _ _ s
 refine fj (thn (ha Ex mt ξ s U H _ I h) λu s1 ⟨x,H1,I1,r1,q1⟩=>fG ?_)
 cases x with
 |int n=>
  obtain⟨t,rfl⟩:=r1
  exact thn (ag2 hc I1 q1.1 q1.2.1 q1.2.2) λv s2 q=>fG q
 |_=>exact (show False from q1).elim
end
noncomputable def QI(X:Cx)(tg e:Expr)(t:DI):Prop:=∀Ex,Meets X Ex->PI X tg e (λU H R=>t U H R (Ex U))
noncomputable def iNo:DI:=λ_ _ _ _=>False
noncomputable def onD(p:Addr)(H:Hp)(R:Obj->List (Key×V)->Hp->Prop):Prop:=(∃kvs,H p=some (.dK kvs)/\∀o,R o kvs (upd H p (.frz o (.dK kvs)))) \/ ∃o kvs,H p=some (.frz o (.dK kvs))/\R o kvs H
theorem ai4(I:Inv X ξ U H s)(h:onD p H R):∃o kvs H',Inv X ξ U H' s/\H' p=some (.frz o (.dK kvs))/\R o kvs H':=by
 rcases h with ⟨kvs,e,q⟩|⟨o,kvs,e,q⟩
 .obtain⟨o,ep,_,_,I'⟩:=I.froze e
  exact⟨o,kvs,_,I',Ab,q o⟩
 .exact⟨o,kvs,H,I,e,q⟩
noncomputable def Bt(K:ac)(a:DE):DI:=λU H R E=>a U H (λx H1=>match x with
 |.str z=>R (Its z) H1
 |.ref p=>((∃xs,SqL K H1 p xs)/\R (Itl K p) H1)\/((∃xs,SqT K H1 p xs)/\R (Itt K p) H1)\/(onD p H1 λo kvs H2=>R (Itd p o kvs) H2) \/ ∃kvs,H1 p=some (.dT kvs)/\∀o,R (at4 p o kvs) (upd H1 p (.frz o (.dT kvs)))
 |_=>False) E
noncomputable def F7(t:DA):DI:=λU H R E=>t U H (λvs H1=>match vs with
 |[.int j]=>(-(2 ^ 62)<=j/\j<2 ^ 62)/\R (Itr 0 j.toNat) H1
 |[.int i,.int j]=>(-(2 ^ 62)<=i/\i<2 ^ 62 /\ -(2 ^ 62)<=j/\j<2 ^ 62)/\R (Itr i (j - i).toNat) H1
 |_=>False) E
noncomputable def iEn(K:ac)(t:DA):DI:=λU H R E=>t U H (λvs H1=>match vs with
 |[.ref a]=>((∃xs,SqL K H1 a xs)/\R (Ite K a) H1)\/onD a H1 λo kvs H2=>R (ab3 a o kvs) H2
 |_=>False) E
section
theorem a44:QI X tg e iNo:=λ_ _ _ _ _ _ _ _ h=>h.elim
theorem al3(ha:QE X e da):QI X tg e (Bt X.K da):=by
 intro Ex mt ξ s U H R I h
 refine thn (ha Ex mt ξ s U H _ I h) λv s1 ⟨x,H1,I1,r1,q1⟩=>?_
 cases x with
 |str z=>
  obtain⟨t,rfl⟩:=r1
  refine wpAny_pyIter_strU ?_
  refine⟨s1.heap.objs.size,[s1.heap.objs.size],_,_,H1,rfl,I1.kept (t':=s1.toks) λb o e=>ah _ e,aq9 s1.heap.objs.size z t (strIterType z) (by unfold strIterType;split <;> simp),⟨_,aB _ rfl,rfl,rfl⟩,λb hb=>?_,q1⟩
  have e:b=s1.heap.objs.size:=by simpa using hb
  subst e
  exact I1.fpOk (ag _) (I1.hok.fresh (ag _))
 |ref a=>
  cases r1
  rcases q1 with ⟨⟨xs,hq⟩,q⟩|⟨⟨xs,hq⟩,q⟩|q|⟨kvs,hq,q⟩
  .obtain⟨χ,rv,p,hz⟩:=I1.list hq
   refine jg p.isList ?_
   refine⟨s1.heap.objs.size,[s1.heap.objs.size],_,_,H1,rfl,I1.kept (t':=s1.toks) λb o e=>ah _ e,Zo a _,⟨_,aB _ rfl,rfl,rfl⟩,λb hb=>?_,q⟩
   have e:b=s1.heap.objs.size:=by simpa using hb
   subst e
   exact I1.fpOk (ag _) (I1.hok.fresh (ag _))
  .obtain⟨χ,rv,p,hz⟩:=I1.tuple hq
   refine wpAny_pyIter_tuple (show s1.heap.IsTuple a χ.toArray from p) ?_
   refine⟨s1.heap.objs.size,[s1.heap.objs.size],_,_,H1,rfl,I1.kept (t':=s1.toks) λb o e=>ah _ e,V9 a _,⟨_,aB _ rfl,rfl,rfl⟩,λb hb=>?_,q⟩
   have e:b=s1.heap.objs.size:=by simpa using hb
   subst e
   exact I1.fpOk (ag _) (I1.hok.fresh (ag _))
  .obtain⟨o,kvs,H2,I2,e,q⟩:=ai4 I1 q
   exact au6 I2 e q
  .exact bp5 I1 hq q
 |_=>exact (show False from q1).elim
theorem al2(hg:Gl X "range")(hm:X.mg "range"=none)(ha:QA X (a::es) r)(hs:(a::es).all noStar=true):QI X tg (.Call (.Name "range" p) (a::es) [] pos) (F7 r):=by
 intro Ex mt ξ s U H R I h
 have h2:=bR▸hs
 rw[aH] at h2
 refine Call_ (Dk I hg hm boot_range (b5 (thn (ha Ex mt pos ξ s U H _ I h) λus s1 ⟨vs,H1,I1,r1,q1⟩=>?_) (Av h2.1 es X.env) (Bm h2.2 X.env pos)))
 dsimp only at q1
 split at q1
 .obtain⟨⟨h1,h2⟩,q⟩:=q1
  obtain⟨u,rfl,t,rfl⟩:=Dn r1
  exact call_range_1 (Sn I1 (by first|exact ag _|exact bq _ _|omega|(dsimp only;omega)) (by omega) (by omega) h1 h2 (by simpa using q))
 .obtain⟨⟨h1,h2,h3,h4⟩,q⟩:=q1
  obtain⟨u,v,rfl,⟨t,rfl⟩,⟨t',rfl⟩⟩:=b09 r1
  exact call_range_2 (Sn I1 (by first|exact ag _|exact bq _ _|omega|(dsimp only;omega)) h1 h2 h3 h4 q)
 .exact q1.elim
theorem az8(hg:Gl X "enumerate")(hm:X.mg "enumerate"=none)(ha:QA X (a::es) r)(hs:(a::es).all noStar=true):QI X (.Tuple elts kt pt) (.Call (.Name "enumerate" p) (a::es) [] pos) (iEn X.K r):=by
 intro Ex mt ξ s U H R I h
 have hh:=bR▸hs
 rw[aH] at hh
 refine Call_ (Dk I hg hm boot_enumerate (b5 (thn (ha Ex mt pos ξ s U H _ I h) λus s1 ⟨vs,H1,I1,r1,q1⟩=>?_) (Av hh.1 es X.env) (Bm hh.2 X.env pos)))
 dsimp only at q1
 split at q1
 .rename_i l
  obtain⟨u,rfl,ru⟩:=Dn r1
  cases ru
  rcases q1 with ⟨⟨xs,q1⟩,q⟩|q
  case inr=>
   obtain⟨o,kvs,H2,I2,e,q⟩:=ai4 I1 q
   exact ae1 I2 e q
  obtain⟨its1,t1,p1,z1⟩:=I1.list q1
  refine call_enumerate_list p1.isList λh' he hit hsz hk=>?_
  refine g7 he ?_
  refine⟨_,_,_,_,H1,rfl,I1.kept (t':=s1.toks) hk,Zn (Nat.succ_ne_self _),⟨⟨_,he⟩,hit⟩,λb hb=>?_,q⟩
  have hb:b=s1.heap.objs.size+1\/b=s1.heap.objs.size:=by simpa using hb
  have le:s1.heap.objs.size<=b:=by
   rcases hb with e|e
   .rw[e];exact bq _ 1
   .rw[e];exact ag _
  exact I1.fpOk le (I1.hok.fresh le)
 .exact q1.elim
noncomputable def gNo:DG:=λ_ _ _ _=>False
noncomputable def gdS:List DG->List V->St->Hp->(St->Hp->Prop)->Prop
 |[],[],U,H,Q=>Q U H
 |g::gs,v::vs,U,H,Q=>g v U H λU' H'=>gdS gs vs U' H' Q
 |_,_,_,_,_=>False
noncomputable def gdT(K:ac)(n:Nat)(gs:List DG):DG:=λv U H Q=>match v with
 |.ref a=>∃xs,(SqT K H a xs\/SqL K H a xs)/\xs.length=n/\gdS gs xs U H Q
 |_=>False
theorem Sc:PG X tg gNo:=λ_ _ _ _ _ _ _ _ _ h=>h.elim
theorem bv0:PGs X [] (gdS []):=by
 intro ξ s U H vs us Q I r h
 cases vs with
 |nil=>exact ay1 ξ s U H [] us Q I r ⟨rfl,h⟩
 |cons v vs=>exact (show False from h).elim
theorem bu9(h1:PG X tg g)(h2:PGs X ts (gdS gs))(hs:(c9 (tg::ts) X.env).map (·.2)=lI tg X.env::(c9 ts X.env).map (·.2)):PGs X (tg::ts) (gdS (g::gs)):=by
 intro ξ s U H vs us Q I r h
 cases vs with
 |nil=>exact (show False from h).elim
 |cons v vs=>exact aj1 h1 h2 hs ξ s U H (v::vs) us Q I r ⟨v,vs,rfl,h⟩
theorem b26(hc:X.calm=true)(h:PGs X ts (gdS gs))(hn:(c9 ts X.env).length=n)(hst:(c9 ts X.env).findIdx? (·.1)=none):PG X (.Tuple ts k pos) (gdT X.K n gs):=by
 intro ξ s U H v u Q I r hw
 cases v with
 |ref a=>
  obtain⟨xs,h1|h1,h2,h3⟩:=hw
  .exact bh9 hc h hn hst ξ s U H _ u Q I r ⟨a,xs,rfl,h1,h2,h3⟩
  cases r
  obtain⟨χ,rv,pl,_⟩:=I.list h1
  rw[assign_Tuple]
  refine af (e8 ?_)
  unfold unpack
  rw[hst,show (c9 ts X.env).length=χ.toArray.size by rw[hn,<- h2,rv.length];rfl]
  refine af (bj (PySem.W.kun_itemsOf (I.ok.hd hc) pl.isList λh' hx=>?_))
  have I1:Inv X ξ U H { s with heap:=h' }:=I.kept (t':=s.toks) λb o e=>hx b o (aT (aF e)) e
  exact h ξ _ U H xs _ Q I1 (by simpa using rv) h3
 |_=>exact (show False from hw).elim
end
noncomputable def Tl(K:ac)(a:Addr)(n:Nat):It:=
 ⟨λi H=>i<n/\∃xs,SqL K H a xs/\xs.length=n,λi H x H'=>H'=H/\∀xs,SqL K H a xs->xs[n - 1 - i]?=some x,λi _=>n<=i⟩
theorem aq8 {P:ba}{w:bL}{K:ac}{tg:Expr}(a it:Addr)(n:Nat):Mn P w K tg (Tl K a n) [it] it (λi h=>i<=n/\h.IsRevIter it a ((n:Int) - 1 - (i:Int))) where
 mem:=by simp
 obj:=λi h st b hb=>by
  have e:b=it:=by simpa using hb
  subst e
  obtain⟨_,o,e,c,d⟩:=st
  exact⟨o,e,λv z=>by rw[d] at z;cases z⟩
 keep:=λi h h' st k=>⟨st.1,by
  obtain⟨_,o,e,c,d⟩:=st
  exact⟨o,k it (by simp) o e,c,d⟩⟩
 item:=by
  intro X hP hw hK hc i ξ s U H E I hf st hg
  subst hP hw hK
  obtain⟨hi,xs,hq,hl⟩:=hg
  obtain⟨χ,rv,p,hz⟩:=I.list hq
  have hx:xs[n - 1 - i]?=some (xs[n - 1 - i]'(by omega)):=aj _
  obtain⟨u,hu,ru⟩:=rv.get hx
  obtain⟨f0,f1,f2,f3,f4,f5⟩:=hf it (by simp)
  have e0:(n:Int) - 1 - (i:Int)=((n - 1 - i:Nat):Int):=by omega
  have st2:=st.2
  rw[e0] at st2
  refine wpAny_pyNext_rev_item st2 p.isList (x:=u) (by simpa using hu) λh' st' sb=>?_
  have I1:Inv X ξ U H { s with heap:=h' }:=I.turned (t':=s.toks) (λb o hb e=>(sb.2 b hb).trans e) f0 f1 f3 f4 f5
  obtain⟨o,e,c,d⟩:=id st'
  refine⟨u,rfl,La (s:={ s with heap:=h' }) e c d (by decide) ⟨_,H,I1,ru,⟨rfl,λys hy=>by rw[I.list_inj hy hq];exact hx⟩,⟨hi,?_⟩,λb hb=>(hf b hb).1⟩⟩
  rw[show (n:Int) - 1 - ((i+1:Nat):Int)=((n - 1 - i:Nat):Int) - 1 by omega]
  exact st'
 done:=by
  intro X hP hw hK hc i ξ s U H E I hf st hg
  subst hP hw hK
  obtain⟨f0,f1,f2,f3,f4,f5⟩:=hf it (by simp)
  have hg:n<=i:=hg
  have st2:=st.2
  rw[show (n:Int) - 1 - (i:Int) = -1 by have:=st.1;omega] at st2
  exact wpAny_pyNext_rev_end (I.ok.hd hc) st2 λh' eb=>⟨rfl,I.turned (t':=s.toks) (λb o hb e=>eb b o hb e) f0 f1 f3 f4 f5⟩
 self:=λ_ _ _ _ _ st h=>ke st.2 h
noncomputable def a95(K:ac)(a:DE):DI:=λU H R E=>a U H (λx H1=>match x with
 |.ref p=>∃xs,SqL K H1 p xs/\R (Tl K p xs.length) H1
 |_=>False) E
theorem ac2:cW "reversed"=some (.type "reversed"):=by decide +kernel
theorem bk0 {X:Cx}{tg a:Expr}{da:DE}{p pos:Pos}(hg:Gl X "reversed")(hm:X.mg "reversed"=none)(ha:QE X a da)(hs:noStar a=true):QI X tg (.Call (.Name "reversed" p) [a] [] pos) (a95 X.K da):=by
 intro Ex mt ξ s U H R I h
 have hA:QA X [a] (Ac da Ag):=P4 ha Uz5 hs
 refine Call_ (Dk I hg hm ac2 (b5 (thn (hA Ex mt pos ξ s U H (λvs H1=>∃x,vs=[x]/\(match x with | .ref p=>∃xs,SqL X.K H1 p xs/\R (Tl X.K p xs.length) H1|_=>False)) I ?_) λus s1 ⟨vs,H1,I1,r1,q1⟩=>?_) (Av hs [] X.env) rfl))
 .have h2:da U H (λx H1=>∃y,[x]=[y]/\(match y with | .ref p=>∃xs,SqL X.K H1 p xs/\R (Tl X.K p xs.length) H1|_=>False)) (Ex U):=by
   have e:(λ(x:V) (H1:Hp)=>∃y,[x]=[y]/\(match y with | .ref p=>∃xs,SqL X.K H1 p xs/\R (Tl X.K p xs.length) H1|_=>False))=λx H1=>(match x with | .ref p=>∃xs,SqL X.K H1 p xs/\R (Tl X.K p xs.length) H1|_=>False):=by
    funext x H1
    apply propext
    constructor
    .rintro⟨y,e,h⟩
     cases e
     exact h
    .exact λh=>⟨x,rfl,h⟩
   rw[e]
   exact h
  exact h2
 .obtain⟨x,rfl,q⟩:=q1
  obtain⟨u,rfl,ru⟩:=Dn r1
  cases x with
  |ref l=>
   cases ru
   obtain⟨xs,hq,q⟩:=q
   obtain⟨χ,rv,pl,hz⟩:=I1.list hq
   refine call_reversed_list pl.isList ?_
   have e:((χ.toArray.size:Nat):Int) - 1=(xs.length:Int) - 1 - ((0:Nat):Int):=by rw[aq,rv.length];omega
   rw[e]
   have st:(s1.heap.push (revObj l ((xs.length:Int) - 1 - ((0:Nat):Int)))).IsRevIter s1.heap.objs.size l ((xs.length:Int) - 1 - ((0:Nat):Int)):=⟨_,aB _ rfl,rfl,rfl⟩
   refine ke st ?_
   refine⟨s1.heap.objs.size,[s1.heap.objs.size],_,_,H1,rfl,I1.kept (t':=s1.toks) λb o e=>ah _ e,aq8 l s1.heap.objs.size xs.length,⟨bC _,st⟩,λb hb=>?_,q⟩
   have e:b=s1.heap.objs.size:=by simpa using hb
   subst e
   exact I1.fpOk (ag _) (I1.hok.fresh (ag _))
  |_=>exact (show False from q).elim
noncomputable def Cr(cs:List (Str×Addr)):List (Str×cH)->List (Str×Addr)->List (Str×Addr)
 |[],acc=>acc
 |(n,k)::r,acc=>if k==.free then Cr cs r ((n,(cs.lookup n).getD 0)::acc) else Cr cs r acc
theorem Mp(h:∀y∈scope.names,y.2=.free -> ∃c,env.cells.lookup y.1=some c):j4 scope env=pure (Cr env.cells scope.names []):=by
 unfold j4
 generalize scope.names=names at h
 suffices ∀acc,(forIn names acc λ(x:Str×cH) cs=>do
   if (x.2==.free)=true then do
    let c <- cellOf env x.1
    pure (fA ((x.1,c)::cs))
   else pure (fA cs):Sem (List (Str×Addr)))=pure (Cr env.cells names acc) by
  have:=this []
  simp only[bind_pure]
  exact this
 induction names with
 |nil=>intro acc;rfl
 |cons y r ih=>
  intro acc
  obtain⟨n,k⟩:=y
  rw[List.forIn_cons]
  unfold Cr
  by_cases e:(k==eW)=true
  .obtain⟨c,hc⟩:=h (n,k) (by simp) (cf e)
   have ec:cellOf env n=pure c:=by
    unfold cellOf
    rw[show env.cells.lookup n=some c from hc]
   simp only[e,if_true,ec,pure_bind]
   rw[ih (λy hy=>h y (ax _ hy))]
   rw[show env.cells.lookup n=some c from hc]
   rfl
  .have e':(k==eW)=false:=by simpa using e
   simp only[e',bM,if_false,pure_bind]
   rw[ih (λy hy=>h y (ax _ hy))]
theorem Hx:∀ {names:List (Str×cH)} {acc:List (Str×Addr)} {p:Str×Addr},p∈Cr cs names acc->p∈acc\/((p.1,eW)∈names/\p.2=(cs.lookup p.1).getD 0)
 |[],_,_,h=>.inl h
 | (n,k)::r,acc,p,h=>by
  unfold Cr at h
  by_cases e:(k==eW)=true
  .rw[if_pos e] at h
   rcases Hx h with h|⟨h1,h2⟩
   .rcases List.mem_cons.mp h with h|h
    .subst h
     exact .inr ⟨by rw[cf e];simp,rfl⟩
    .exact .inl h
   .exact .inr ⟨ax _ h1,h2⟩
  .rw[if_neg e] at h
   rcases Hx h with h|⟨h1,h2⟩
   .exact .inl h
   .exact .inr ⟨ax _ h1,h2⟩
theorem Hw:∀ {names:List (Str×cH)} {acc:List (Str×Addr)} {p:Str×Addr},p∈acc->p∈Cr cs names acc
 |[],_,_,h=>h
 | (n,k)::r,acc,p,h=>by
  unfold Cr
  split
  .exact Hw (ax _ h)
  .exact Hw h
theorem No:∀ {names:List (Str×cH)} {acc:List (Str×Addr)} {n:Str},(n,eW)∈names->n∈(Cr cs names acc).map (·.1)
 |[],_,_,h=>by cases h
 | (m,k)::r,acc,n,h=>by
  unfold Cr
  rcases List.mem_cons.mp h with e|h
  .cases e
   rw[if_pos (show (eW==eW)=true from rfl)]
   exact List.mem_map.mpr ⟨_,Hw (aJ),rfl⟩
  .split <;> exact No h
noncomputable def So(sc:List (Str×cH))(names:List (Str×cH)):List (Str×cH):=names.map λ(n,k)=>if (k==.free&&sc.lookup n==some .cell) then (n,.cell) else (n,k)
noncomputable def Ru(names:List (Str×cH)):List Str:=(names.filter λy=>(y.2==.local) && !(y.1==(".0" : Str))).map (·.1)
noncomputable def Ue(names:List (Str×cH)):List Str:=(names.filter λy=>y.2==.free).map (·.1)
noncomputable def cfV(o:Option cH):Bool:=o==some .cell||o==some .free
noncomputable def Cs(G:Sg)(names:List (Str×cH)):Sg:={ G with N:=Ru names++Ue names,sc:=So G.sc names,top:=false }
noncomputable def Fr(G:Sg)(names:List (Str×cH)):List (Option Nat):=(Ru names).map (λ_=>none)++(Ue names).map (λx=>Cj G.N x 0)
noncomputable def E6(G:Sg)(sc:Scope):Bool:=
 (sc.names.all λy=>!(y.2==.cell))&&(sc.names.all λy=>!(y.2==.local)||(sc.names.lookup y.1==some .local))&&(sc.kind==.function) &&
 decide (Ru sc.names++Ue sc.names).Nodup&&((Ue sc.names).all λx=>(Cj G.N x 0).isSome&&cfV (G.sc.lookup x)&&cfV ((So G.sc sc.names).lookup x)) &&
 ((Ru sc.names).all λx=>(So G.sc sc.names).lookup x==some .local)
section
theorem G1(h:cfV o=true):o=some .cell\/o=some .free:=by
 unfold cfV at h
 rw[cM] at h
 exact h.elim (λe=>.inl (cf e)) λe=>.inr (cf e)
theorem Gj(O:GOk X G):(iV sc X.env).names=So G.sc sc.names:=by
 unfold iV So
 apply bu
 rintro⟨n,k⟩ _
 have e:X.env.kindOf n=G.sc.lookup n:=O.sc n
 dsimp only
 rw[e,O.kind]
 simp
theorem Pd(O:GOk X G)(h:E6 G sc=true):Kv X (Cs G sc.names).N (Fr G sc.names) sc (Cr X.env.cells sc.names []):=by
 unfold E6 at h
 simp only[aH,bn,gR,decide_eq_true_eq,cM] at h
 obtain⟨⟨⟨⟨⟨h1,h2⟩,h3⟩,h4⟩,h5⟩,h6⟩:=h
 have fr:∀y∈sc.names,y.2=.free -> ∃c,X.env.cells.lookup y.1=some c:=λy hy hf=>by
  refine O.cel y.1 ?_
  rw[O.sc]
  refine G1 (h5 y.1 ?_).1.2
  exact List.mem_map.mpr ⟨y,List.mem_filter.mpr ⟨hy,by rw[hf];rfl⟩,rfl⟩
 have nc:∀y∈sc.names,y.2≠.cell:=λy hy e=>by
  have:=h1 y hy
  rw[e] at this
  cases this
 refine⟨Mp fr,nc,cf h3,λy hy hl=>?_,λx c hx=>?_,λx hx=>?_,?_,λk j x e1 e2=>?_⟩
 .rcases h2 y hy with z|z
  .rw[hl] at z;cases z
  .exact cf z
 .have hm:=bU hx
  rcases Hx hm with z|⟨z1,z2⟩
  .cases z
  .obtain⟨c',hc'⟩:=fr _ z1 rfl
   have z2':c=(X.env.cells.lookup x).getD 0:=z2
   rw[show X.env.cells.lookup x=some c' from hc'] at z2' ⊢
   rw[z2']
   rfl
 .have hn:(iV sc X.env).names=So G.sc sc.names:=Gj O
  have key:∀kd,(iV sc X.env).names.lookup x=some kd->cfV (some kd)=true -> ∃c,(Cr X.env.cells sc.names []).lookup x=some c:=λkd hkd hc=>by
   rw[hn] at hkd
   have hm:=bU hkd
   unfold So at hm
   obtain⟨⟨n,k⟩,hy,e⟩:=List.mem_map.mp hm
   dsimp only at e
   have hfree:k=.free/\n=x:=by
    have hkc:=nc _ hy
    by_cases e1:(k==eW&&G.sc.lookup n==some .cell)=true
    .rw[if_pos e1] at e
     rw[aH] at e1
     exact⟨cf e1.1,congrArg Prod.fst e⟩
    .rw[if_neg e1] at e
     cases e
     rcases G1 hc with z|z
     .exact absurd (aG z) hkc
     .exact⟨aG z,rfl⟩
   obtain⟨rfl,rfl⟩:=hfree
   exact ag5 (No hy)
  rcases hx with hx|hx
  .exact key _ hx rfl
  .exact key _ hx rfl
 .unfold Fr Cs
  simp
 .have e1':(Ru sc.names++Ue sc.names)[k]?=some x:=e1
  have e2':((Ru sc.names).map (λ_=>(none:Option Nat))++(Ue sc.names).map (λx=>Cj G.N x 0))[k]?=some (some j):=e2
  by_cases hlt:k<(Ru sc.names).length
  .rw[bK (by simpa using hlt),al] at e2'
   cases q:(Ru sc.names)[k]? with
   |none=>rw[q] at e2';cases e2'
   |some z=>rw[q] at e2';cases e2'
  .rw[bA (by simpa using hlt)] at e1' 
   rw[bA (by simpa using hlt),ae,al,e1'] at e2'
   have hs:Cj G.N x 0=some j:=aG e2'
   have hx:x∈Ue sc.names:=ak e1'
   obtain⟨⟨_,c1⟩,c2⟩:=h5 x hx
   refine⟨by rw[O.N];exact Ee hs,?_,?_⟩
   .rw[O.sc];exact G1 c1
   .rw[Gj O];exact G1 c2
theorem Ww(O:GOk X G)(h:E6 G sc=true)(fp:List Addr)(C:Addr)(s:av)(H:Hp)(xe:Value->av->Prop) :
  GOk (X.comp (Cs G sc.names).N sc (Cr X.env.cells sc.names []) fp C s H xe) (Cs G sc.names):=by
 have S:=Pd O h
 unfold E6 at h
 simp only[aH,bn,gR,decide_eq_true_eq,cM] at h
 obtain⟨⟨⟨⟨⟨h1,h2⟩,h3⟩,h4⟩,h5⟩,h6⟩:=h
 have hn:(iV sc X.env).names=So G.sc sc.names:=Gj O
 refine⟨O.K,cf h3,(λz=>by cases z),rfl,h4,λx=>?_,λx hx=>?_,λz=>(by cases z),O.calm,O.hd,O.units,λx hx=>S.has x hx,λx g e=>?_,O.bl,λz=>(by cases z),O.fr⟩
 .show (iV sc X.env).names.lookup x=_
  rw[hn]
  rfl
 .show Vis (iV sc X.env) x
  unfold Vis
  rw[hn]
  rcases List.mem_append.mp hx with q|q
  .exact .inl (cf (h6 x q))
  .exact .inr (G1 (h5 x q).2)
 .refine GBOk.to (X:=X) ?_ ?_ ?_ ?_ ?_ ?_ (O.gb x g e)
  .rfl
  .rfl
  .rfl
  .rfl
  .exact λ_ r=>r
  .exact λi F=>⟨F.kp,F.ok,F.room,F.binds,F.vals⟩
end
noncomputable def Gc:St->Hp->(Option Int->Hp->Prop)->EK->Prop:=λ_ H Q _=>Q none H
noncomputable def Kz(a:DE):St->Hp->(Option Int->Hp->Prop)->EK->Prop:=λU H Q E=>a U H (λx H1=>match x with
 |.int i=>Q (some i) H1
 |_=>False) E
noncomputable abbrev DO:=St->Hp->(Option Int->Hp->Prop)->EK->Prop
noncomputable def b31(K:ac):V->Option Int->Option Int->Hp->VK->Prop:=λx lo hi H Q=>match x with
 |.str z=>z.length<=sizeLine/\Q (.str (Txt.slice z lo hi)) H
 | .ref a=>False \/
   (∃xs,SqT K H a xs /\ ¬ (HT.sIx xs.length 0 lo=0/\HT.sIx xs.length xs.length hi=xs.length)/\(∀p,H p=none->Q (.ref p) (upd H p (.tup (ad3 xs lo hi)))))
 |_=>False
noncomputable def dSl(K:ac)(a:DE)(l h:DO):DE:=λU H Q E=>a U H (λx H1=>l U H1 (λlo H2=>h U H2 (λhi H3=>b31 K x lo hi H3 Q) E) E) E
noncomputable def QO(X:Cx)(e:Option Expr)(t:DO):Prop:=∀Ex,Meets X Ex->PO X e (λU H Q=>t U H Q (Ex U))
section
variable {X:Cx} {G:Sg} {e:Expr} {de:DE} {lo hi:Option Expr} {dl dh:DO} {pos p2:Pos}
theorem Xc:QO X none Gc:=λ_ _=>ay2
theorem Xd(h:QE X e de):QO X (some e) (Kz de):=by
 intro Ex m ξ s U H Q I hw
 rw[evalPart_some]
 refine thn (h Ex m ξ s U H _ I hw) λu s1 ⟨x,H1,I1,r1,q1⟩=>?_
 cases x with
 |int i=>obtain⟨t,rfl⟩:=r1;exact⟨some i,H1,I1,.int i t,q1⟩
 |_=>exact (show False from q1).elim
theorem Px(e:Expr)(z:Str)(t:Tok)(r:Value):letTemporaryGo e (.str z t) r=pure ():=by
 cases e <;> rfl
theorem al0(he:QE X e de)(hl:QO X lo dl)(hh:QO X hi dh):QE X (.Subscript e (.Slice lo hi none p2) pos) (dSl X.K de dl dh):=by
 intro Ex m ξ s U H Q I h
 refine Subscript_ (thn (he Ex m ξ s U H _ I h) λv s1 ⟨x,H1,I1,r1,q1⟩=>?_)
 refine wpAny_Slice (thn (hl Ex m ξ s1 U H1 _ I1 q1) λvl s2 ⟨l,H2,I2,pl,q2⟩=>thn (hh Ex m ξ s2 U H2 _ I2 q2) λvu s3 ⟨u,H3,I3,pu,q3⟩=>?_)
 rw[evalPart_none]
 refine ai ?_
 show aK (model X.prog X.w) X.A (k9 e (.Slice lo hi none p2) v (.ref s3.heap.objs.size)) (EP X ξ U Q) X.xe { s3 with heap:=s3.heap.push { cls:=.type "slice", data:=.fields #[vl,vu,.none] } }
 have I4:Inv X ξ U H3 { s3 with heap:=s3.heap.push { cls:=.type "slice", data:=.fields #[vl,vu,.none] } }:=I3.kept (t':=s3.toks) λb ob q=>ah _ q
 have gen:∀r,SlR X r->r x l u H3 Q->aK (model X.prog X.w) X.A (k9 e (.Slice lo hi none p2) v (.ref s3.heap.objs.size)) (EP X ξ U Q) X.xe { s3 with heap:=s3.heap.push { cls:=.type "slice", data:=.fields #[vl,vu,.none] } }:=λr hr q=>by
  obtain⟨T,id,hT,ht,hg⟩:=hr ξ _ U H3 x v vl vu l u s3.heap.objs.size Q I4 r1 (Heap.IsSliceOf.new ..) pl pu q
  exact tail_any (ops:=[.ref s3.heap.objs.size,v]) ht hT hg (by with_unfolding_all rfl)
 cases x with
 |str z=>
  obtain⟨hz,q⟩:=q3
  obtain⟨t,rfl⟩:=r1
  have hk:KeptH (λh=>Inv X ξ U H3 { s3 with heap:=h }):=λh ob J=>J.kept (t':=s3.toks) λb o eb=>ah _ eb
  have fin:∀h' t' k,Inv X ξ U H3 { s3 with heap:=h' }->(λ(a:Value) (s':av)=>s3.toks<=s'.toks->EP X ξ U Q a s') (.str (Txt.slice z l u) t') { s3 with heap:=h',toks:=k }:=λh' t' k J htk=>⟨.str _,H3,J.tok k htk,⟨_,rfl⟩,q⟩
  refine bB (n:=s3.toks) (ag _) ?_
  cases pl with
  |none=>
   cases pu with
   |none=>exact iW (SBH.sliceItem_nn hk I3 fin hz) (by with_unfolding_all rfl) (Px e z t)
   |int j uj=>exact iW (SBH.sliceItem_ns hk I3 fin hz) (by with_unfolding_all rfl) (Px e z t)
  |int i ui=>
   cases pu with
   |none=>exact iW (SBH.sliceItem_sn hk I3 fin hz) (by with_unfolding_all rfl) (Px e z t)
   |int j uj=>exact iW (SBH.sliceItem_ss hk I3 fin hz) (by with_unfolding_all rfl) (Px e z t)
 |ref a=>
  obtain⟨xs,h1,hw,h3⟩:=q3.resolve_left id
  exact gen _ bm1 ⟨a,xs,rfl,h1,hw,h3⟩
 |_=>exact (show False from q3).elim
noncomputable def Lo:Expr->Bool
 |.Set _ _ _=>false
 |_=>true
theorem Lp(h:Lo e=true)(env:Env)(x:Value):fM e env x=pure x:=by
 cases e with
 |Set _ _ _=>cases h
 |_=>rfl
theorem Ha:Meets X (λ_ _ _=>False):=λ_ _ _ _ _ _ _ h=>h.elim
noncomputable def Uz(G:Sg)(x:Str):Bool:=(G.sc.lookup x==some .local)||(G.top&&(G.sc.lookup x==some .cell))
noncomputable def wG:Nat->Sg->Expr->DG
 |0,_,_=>gNo
 | n+1,G,e=>match e with
  | .Name x _=>match Cj G.N x 0 with
   |some i=>if Uz G x=true then gdN i else gNo
   |none=>gNo
  |.Tuple ts _ _=>if G.calm=true/\ts.all noStar=true then gdT G.K ts.length (ts.map (wG n G)) else gNo
  |_=>gNo
theorem Pz(O:GOk X G)(h:Uz G x=true):Loc X.env.scope x/\(X.fn x=true\/X.env.scope.names.lookup x=some .local):=by
 unfold Uz at h
 rw[cM,aH] at h
 rcases h with h|⟨h1,h2⟩
 .have:X.env.scope.names.lookup x=some .local:=by rw[O.sc];exact cf h
  exact⟨.inl this,.inr this⟩
 .have:X.env.scope.names.lookup x=some .cell:=by rw[O.sc];exact cf h2
  exact⟨.inr this,.inl (O.top h1 x)⟩
theorem Ez(h:noStar e=true)(es:List Expr)(env:Env):c9 (e::es) env=(false,lI e env)::c9 es env:=by
 cases e with
 |Starred _ _=>cases h
 |_=>rfl
theorem Kx(h:es.all noStar=true)(env:Env):(c9 es env).length=es.length/\(c9 es env).findIdx? (·.1)=none:=by
 induction es with
 |nil=>exact⟨rfl,rfl⟩
 |cons e es ih=>
  rw[bR,aH] at h
  obtain⟨h1,h2⟩:=ih h.2
  rw[Ez h.1]
  refine⟨by rw[aN,aN,h1],?_⟩
  rw[List.findIdx?_cons,h2]
  rfl
theorem Tk:∀(n:Nat)(X:Cx)(G:Sg),GOk X G -> ∀e,PG X e (wG n G e)
 |0,_,_,_,_=>Sc
 | n+1,X,G,O,e=>by
  cases e with
  |Name x p=>
   unfold wG
   dsimp only
   split
   .rename_i i e
    split
    .rename_i h
     obtain⟨h1,h2⟩:=Pz O h
     exact ay0 (by rw[O.N];exact O.nd) (by rw[O.N];exact Ee e) h1 h2
    .exact Sc
   .exact Sc
  |Tuple ts k p=>
   unfold wG
   dsimp only
   split
   .rename_i h
    obtain⟨h1,h2⟩:=h
    obtain⟨h3,h4⟩:=Kx h2 X.env
    rw[<- O.K]
    refine b26 (O.calm▸h1) ?_ h3 h4
    clear h3 h4
    induction ts with
    |nil=>exact bv0
    |cons t ts ih=>
     rw[bR,aH] at h2
     refine bu9 (Tk n X G O t) (ih h2.2) ?_
     rw[Ez h2.1]
     rfl
   .exact Sc
  |_=>exact Sc
end
end L2
namespace L2
open PySem PySem.Spec
structure Wl (l:List Addr) (e C:Addr) (dx:Option Addr) (h h':Heap):Prop where
 exc:∃(vs':Array Value)(T:Addr)(oT:Obj)(ts':Array Value),h'.get? e=some (As C dx vs')/\vs'.size=6/\vs'[1]?=some (.ref T)/\h.objs.size<=T/\T≠e/\h'.get? T=some oT/\oT.data=.fields ts'/\3<ts'.size/\∀vs,h.get? e=some (As C dx vs)->vs'[2]?=vs[2]?
 keep:∀b o,b≠e->b∉l->h.get? b=some o->h'.get? b=some o
 slot:∀b o,b≠e->h.get? b=some o -> ∃sl,h'.get? b=some { o with slots:=sl }
noncomputable abbrev tbO(fs:Array Value):Obj:={ cls:=.type "traceback", dict:=none,data:=.fields fs }
noncomputable abbrev Ll(T:Addr):Obj->Obj:=eX (·.setIfInBounds 1 (.ref T))
noncomputable abbrev J7(h:Heap)(e:Addr)(fs:Array Value):Heap:=(h.push (tbO fs)).update e (Ll h.objs.size)
section
variable {h:Heap} {e C:Addr} {dx:Option Addr} {vs fs:Array Value}
theorem apart(q:h.get? e=some (As C dx vs)):h.objs.size≠e:=hU (aF q)
theorem Rt(T:Addr):(Ll T (As C dx vs)).data=.fields (vs.setIfInBounds 1 (.ref T)):=rfl
theorem Ua(q:h.get? e=some (As C dx vs)):(J7 h e fs).get? e=some (As C dx (vs.setIfInBounds 1 (.ref h.objs.size))):=
 b_ (Ll h.objs.size) (ah (tbO fs) q) (hV (Rt h.objs.size))
theorem Ub(q:h.get? e=some (As C dx vs)):(J7 h e fs).get? h.objs.size=some (tbO fs):=
 (cq (h.push (tbO fs)) (Ll h.objs.size) (apart q).symm).trans (aB h rfl)
theorem Jc(ne:b≠e)(q:h.get? b=some o):(J7 h e fs).get? b=some o:=
 (cq (h.push (tbO fs)) (Ll h.objs.size) ne.symm).trans (ah (tbO fs) q)
theorem Uo(hz:h.objs.size=h0.objs.size)(k1:∀b,b∉l->h.get? b=h0.get? b)(k2:∀b o,h0.get? b=some o -> ∃sl,h.get? b=some { o with slots:=sl })(q:h.get? e=some (As C dx vs))(hs:vs.size=6)(hf:3<fs.size) :
  Wl l e C dx h0 (J7 h e fs) where
 exc:=⟨_,h.objs.size,_,_,Ua q,by rw[Array.size_setIfInBounds];exact hs,fu (by omega),by omega,apart q,Ub q,rfl,hf,λvs0 q0=>by
  obtain⟨sl,z⟩:=k2 e _ q0
  rw[q] at z
  cases z
  exact Array.getElem?_setIfInBounds_ne (by decide)⟩
 keep:=λb o ne nl hb=>Jc ne ((k1 b nl).trans hb)
 slot:=λb o ne hb=>let ⟨sl,z⟩:=k2 b o hb;⟨sl,Jc ne z⟩
end
section
theorem Yv(hfr:A.frames=some (env0::outer))(hl:s.heap.FunFrames base (env0::outer))(h0:env0.frame=some L)(hf:env.frame=some L)(q:s.heap.get? e=some (As C dx vs))(hs:vs.size=6)(k:∀h',Wl (frs (env0::outer)) e C dx s.heap h'->Q () { s with heap:=h' }) :
  aK M A ((mw env >>= λa=>entryPlaceOf L hadNext >>= λpl=>iw head a .none (eh L) .none pl >>= λb=>lQ (.ref e) 1 b)) Q E s:=by
 have off:e∉frs (env0::outer):=λz=>by
  obtain⟨_,o,z1,z2⟩:=hl.mem z
  rw[q] at z1
  cases z1
  exact z2 vs rfl
 have fe:mw env=mw env0:=by unfold mw;rw[hf,h0]
 rw[fe]
 refine af (wpAny_frameOf_fun hfr hl h0 λh1 ⟨a1,a2,a3⟩=>af (wpAny_entryPlaceOf λpl hpl=>?_))
 unfold iw newFields
 refine af (cn ?_ (hpl.sizeOk5 _ _ _ _ _))
 have q1:h1.get? e=some (As C dx vs):=(a2 e off).trans q
 have lt:3<([head,.ref L,.none,eh L,.none]++(if pl.isEmpty then g9 6 cm else pl)).toArray.size:=by rw[aq,aU];simp only[aN,jQ];omega
 generalize ([head,.ref L,.none,eh L,.none]++(if pl.isEmpty then g9 6 cm else pl)).toArray=fs at lt ⊢
 exact fX (ah (tbO fs) q1) rfl (show 1<vs.size by omega) (k _ (Uo a1 a2 a3 q1 hs lt))
end
open PyProof.Rows
open Sem (wp)
noncomputable def bn9(n:Nat)(a:Addr)(H':Hp)(s':av):Prop:=
 ∃(C:Addr)(dx:Option Addr)(vs:Array Value)(T:Addr)(oT:Obj)(ts:Array Value),FlO H' a C dx/\s'.heap.get? a=some (As C dx vs)/\vs.size=6/\vs[1]?=some (.ref T)/\T≠a/\s'.heap.get? T=some oT/\oT.data=.fields ts/\ts[3]?=some .none/\n<=T/\H' T=none
noncomputable def CXE(P:ba)(w:bL):CXT:=λouter H s E e s'=>
 ∃(a:Addr)(H':Hp),e=.ref a/\(s'.os=s.os/\s.toks<=s'.toks)/\jK s'.gens/\Un (frs outer) [] H H' s.heap s'.heap/\HOk P w H' s'.heap/\bn9 s.heap.objs.size a H' s'/\E e none H'
section
theorem av8(I:Inv X ξ U H s)(ea:FlO H a C dx)(L:Wl (frs X.stack) a C dx s.heap h'):Un (frs X.stack) [] H H s.heap h' where
 keep:=λb o q n hb _=>L.keep b o (λz=>by rw[z] at n;rcases ea with ea|ea <;> (rw[ea] at n;cases n)) hb q
 slot:=λb o q n _ _=>L.slot b o (λz=>by rw[z] at n;rcases ea with ea|ea <;> (rw[ea] at n;cases n)) q
 free:=λb o _ n _=>n
 there:=λb o q _=>by
  by_cases hb:b=a
  .obtain⟨vs',T,oT,ts',h1,_⟩:=L.exc
   exact⟨_,by rw[hb];exact h1⟩
  .obtain⟨sl,h1⟩:=L.slot b o hb q
   exact⟨_,h1⟩
 tups:=λ_ _ e=>e
 frzs:=λ_ _ _ e=>e
 tbls:=λb ps e=>⟨#[],by rw[e];simp⟩
theorem av7(I:Inv X ξ U H s)(ea:FlO H a C dx)(L:Wl (frs X.stack) a C dx s.heap h'):HOk X.prog X.w H h':=λb o e=>by
 by_cases hb:b=a
 .subst hb
  obtain⟨vs',T,oT,ts',h1,h2,_,_,_,_,_,_,hc⟩:=L.exc
  rcases ea with ea|ea
  .obtain⟨vs,g1,_,g3⟩:=a33 I ea
   rw[ea] at e
   cases e
   exact ae5 h1 h2 ((hc vs g1).trans g3)
  .rw[ea] at e
   cases e
   exact a91 h1 h2
 .refine (I.hok b o e).stay (λc u hc q=>L.keep c u ?_ ?_ q) (λ_ q=>q) λ_ _ q=>q
  .rcases hc with rfl|hc
   .exact hb
   .rintro rfl
    rcases ea with ea|ea <;> (rw[ea] at hc;cases hc)
  .intro hm
   have n:=I.stkFree c hm
   rcases hc with rfl|hc
   .rw[n] at e;cases e
   .rw[n] at hc;cases hc
end
end L2
namespace L2
open PySem PySem.Spec PyProof.Rows
open Sem (wp)
section
noncomputable def FlyT(X:Cx)(ξ:List (Addr×Obj))(H:Hp)(a:Addr)(s:av)(z:Value):Prop:=
 ∃(C:Addr)(dx:Option Addr)(vs:Array Value)(T:Addr)(oT:Obj)(ts:Array Value),FlO H a C dx/\s.heap.get? a=some (As C dx vs)/\vs.size=6/\vs[1]?=some (.ref T)/\T≠a/\s.heap.get? T=some oT/\oT.data=.fields ts/\ts[3]?=some z/\Cq X ξ H T
theorem FlyT.at(F:FlyT X ξ H a s z):Gw X ξ H a s:=by
 obtain⟨C,dx,vs,T,oT,ts,h1,h2,h3,q1,q2,q3,q4,q5,q6⟩:=F
 exact⟨C,dx,vs,h1,h2,h3,.inr ⟨T,oT,ts,q1,q2,q3,q4,⟨z,q5⟩,q6⟩⟩
theorem bw2(I:Inv X ξ U H s)(h1:FlO H a C dx)(h2:s.heap.get? a=some (As C dx vs))(h3:vs.size=6)(q1:vs[1]?=some (.ref T))(q2:T≠a)(q3:s.heap.get? T=some oT)(q4:oT.data=.fields ts)(q5:ts[3]?=some y)(q6:Cq X ξ H T)(v:Value) :
  Inv X ξ U H { s with heap:=s.heap.update T (eX (·.setIfInBounds 3 v)) }/\FlyT X ξ H a { s with heap:=s.heap.update T (eX (·.setIfInBounds 3 v)) } v/\(s.heap.update T (eX (·.setIfInBounds 3 v))).get? a=some (As C dx vs):=by
 have ha:(s.heap.update T (eX (·.setIfInBounds 3 v))).get? a=some (As C dx vs):=(cq _ _ q2).trans h2
 obtain⟨c0,d0,dt0,sl0⟩:=oT
 cases (show dt0=.fields ts from q4)
 have hT:(s.heap.update T (eX (·.setIfInBounds 3 v))).get? T=some ⟨c0,d0,.fields (ts.setIfInBounds 3 v),sl0⟩:=b_ _ q3 (hV (vs:=ts.setIfInBounds 3 v) rfl)
 exact⟨I.turned (t':=s.toks) (λb o ne e=>(cq _ _ (cA ne)).trans e) q6.1 q6.2.1 q6.2.2.2.1 q6.2.2.2.2.1 q6.2.2.2.2.2,⟨C,dx,vs,T,_,_,h1,ha,h3,q1,q2,hT,rfl,fu (Array.getElem?_eq_some_iff.mp q5).1,q6⟩,ha⟩
theorem am7(I:Inv X ξ U H s)(F:FlyT X ξ H a s z)(h:∀s',Inv X ξ U H s'->FlyT X ξ H a s' (fr.elim .none λf=>eh f)->Q () s'):aK (model X.prog X.w) A (jY (.ref a) fr) Q E s:=by
 obtain⟨C,dx,vs,T,oT,ts,h1,h2,h3,q1,q2,q3,q4,q5,q6⟩:=F
 obtain⟨I',F',_⟩:=bw2 I h1 h2 h3 q1 q2 q3 q4 q5 q6 (fr.elim .none λf=>eh f)
 unfold jY
 refine af (dS h2 rfl q1 ?_)
 rw[if_pos (by simp)]
 exact fX q3 q4 (Array.getElem?_eq_some_iff.mp q5).1 (h _ I' F')
theorem a42(I:Inv X ξ U H s)(hs:X.stack=e0::o0)(h0:e0.frame=some L)(hf:env.frame=some L)(F:Gw X ξ H a s)(h:∀s' z,Inv X ξ U H s'->FlyT X ξ H a s' z->Q () s') :
  aK (model X.prog X.w) X.A (k7 (.ref a) env) Q E s:=by
 obtain⟨C,dx,vs,h1,h2,h3,h4⟩:=F
 have fr:X.A.frames=some (e0::o0):=hs▸I.ok.frames
 have new:∀ {s1:av} {head:Value} {hadNext:Bool},Inv X ξ U H s1->s1.heap.get? a=some (As C dx vs)->aK (model X.prog X.w) X.A ((mw env >>= λy=>entryPlaceOf L hadNext >>= λpl=>iw head y .none (eh L) .none pl >>= λb=>lQ (.ref a) 1 b)) Q E s1:=λ{s1 head hadNext} I1 q=>by
  have fn:s1.heap.FunFrames X.base (e0::o0):=hs▸I1.stack
  refine Yv (base:=X.base) fr fn h0 hf q h3 λh' L=>?_
  rw[<- hs] at L
  have I':=I1.call (h':=h') (g':=s1.gens) (t':=s1.toks) (d':=s1.drawn) (ch:=[]) (av8 I1 h1 L) (av7 I1 h1 L) I1.bare (λb z=>absurd z (by simp))
  obtain⟨vs',T,oT,ts',a1,a2,a3,a4,a5,a6,a7,a8,_⟩:=L.exc
  exact h _ _ I' ⟨C,dx,vs',T,oT,ts',h1,a1,a2,a3,a5,a6,a7,aW a8,I1.fpOk a4 (I1.hok.fresh a4)⟩
 unfold k7
 simp only[hf]
 rcases h4 with c|⟨T,oT,ts,c,ne,hT,hd,⟨z,hz⟩,fp⟩
 .refine af (dS h2 rfl c ?_)
  rw[if_neg (by decide)]
  exact new I h2
 .refine af (dS h2 rfl c ?_)
  rw[if_pos (by simp)]
  refine af (dS hT hd hz ?_)
  by_cases e:(z==eh L)=true
  .rw[if_pos e]
   exact ai (h s z I ⟨C,dx,vs,T,oT,ts,h1,h2,h3,c,ne,hT,hd,hz,fp⟩)
  .rw[if_neg e]
   obtain⟨I',_,ha⟩:=bw2 I h1 h2 h3 c ne hT hd hz fp .none
   exact af (fX hT hd (Array.getElem?_eq_some_iff.mp hz).1 (new I' ha))
theorem W4(I:Inv X ξ U H s)(hs:X.stack=X.env::X.outer)(hf:X.env.frame=some X.env.locals)(F:Gw X ξ H a s)(h:∀s',Inv X ξ U H s'->FlyT X ξ H a s' .none->Q () s') :
  aK (model X.prog X.w) X.A (k7 (.ref a) X.env) (λ_ s1=>aK (model X.prog X.w) X.A (jY (.ref a) none) Q E s1) E s:=
 a42 I hs hf hf F λs1 z I1 F1=>am7 I1 F1 h
theorem Nw(I:Inv X ξ U H s)(F:Gw X ξ H a s)(h:∀s',Inv X ξ U H s'->Gw X ξ H a s'->Q () s'):aK (model X.prog X.w) A (jY (.ref a) none) Q E s:=by
 obtain⟨C,dx,vs,h1,h2,h3,h4⟩:=F
 rcases h4 with h4|⟨T,oT,ts,q1,q2,q3,q4,⟨z,q5⟩,q6⟩
 .unfold jY
  refine af (dS h2 rfl h4 ?_)
  rw[if_neg (by decide)]
  exact ai (h s I ⟨C,dx,vs,h1,h2,h3,.inl h4⟩)
 .exact am7 I ⟨C,dx,vs,T,oT,ts,h1,h2,h3,q1,q2,q3,q4,q5,q6⟩ λs' I' F'=>h s' I' F'.at
end
section
variable {prog:ba} {w:bL} {A:bP} {E:Value->av->Prop} {s:av} {K:ac} {a C D:Addr} {dx:Option Addr} {vs:Array Value} {b:Bool} {Q:Bool->av->Prop}
open PySem.W in
theorem Uv(X:K.In s.heap)(c:ECls K C)(d:ECls K D)(ha:s.heap.get? a=some (As C dx vs))(m:mroIn K C (.ref D)=some b)(h:Q b s) :
  aK (model prog w) A (excMatches (.ref a) (.ref D)) Q E s:=by
 obtain⟨nm,qn,N,bs,bm,hdct,sn,sub,ab,col,dd,k0,k1,k2,k3,k5,hl,ht,hd⟩:=c.obj
 obtain⟨nm',qn',N',bs',bm',hdct',sn',sub',ab',col',dd',k0',k1',k2',k3',k5',hl',ht',hd'⟩:=d.obj
 have hC:=X _ _ hl
 have hD:=X _ _ hl'
 have hcB:(aV D::bm').contains (.type "BaseException")=true:=by rw[cD,Cg ht' (show valTail.contains (.type "BaseException")=true by decide +kernel),f_]
 have hcD:(aV C::bm).contains (.ref D)=b:=by
  unfold mroIn at m
  obtain⟨cd,e,em⟩:∃cd,l6 K C=some cd/\cd.mro=.ref C::bm:=⟨_,by unfold l6;rw[hl],rfl⟩
  rw[e,fb,em] at m
  exact aG m
 have f:=tc_notTuple
 obtain⟨hp,g,dr,tk,os⟩:=s
 unfold excMatches
 repeat (first|with_reducible refine cK ha ?_|with_reducible refine cK hD ?_|(with_reducible refine dB hD ?_;rw[hcB])|(with_reducible refine dB hC ?_;rw[hcD])|wp_step)
 cases b <;> (wp_walk;exact h)
end
end L2
namespace L2
open PySem PySem.Spec PyProof.Rows
section
theorem bp7(I2:Inv X ξ U H2 s2)(f2:∀b∈fp,Cq X ξ H2 b)(F:Cq (X.comp N' sc cl fp C s2 H2 xe) pins' H' T):Cq X ξ H' T:=by
 obtain⟨r1,r2,r3,r4,r5,r6⟩:=F
 rcases r4 with r4|r4
 .exact⟨r1,(f2 T r4).2⟩
 .exact I2.fpOk r4 r1
theorem Lm(m:Meets X Ex)(fr:FrH X)(I2:Inv X ξ U H2 s2)(f2:∀b∈fp,Cq X ξ H2 b)(hC:s2.heap.objs.size<=C):Meets (X.comp N' sc cl fp C s2 H2 (Bp X sc cl us Q2 D C)) (λ_ a H'=>Ex U a H'):=by
 intro pins' U' H' s' a I' F' hE
 obtain⟨e0,o0,L,f1,f3,f4⟩:=fr
 refine a42 (X:=X.comp N' sc cl fp C s2 H2 (Bp X sc cl us Q2 D C)) (env:=mo sc cl C X.env) I' f1 f3 f4 F' λs3 z I3 F3=>?_
 obtain⟨mm,hn,_⟩:=id I3.loc
 refine⟨mm,hn,λh' sb cenv hce=>?_⟩
 have I4:Inv X ξ U H' s3:=I2.call' (ch:=fp) I3.os I3.base I3.hok I3.bare λb hb=>⟨(f2 b hb).2.2.2.1,(f2 b hb).2.1,(f2 b hb).2.2.2.2.1,(f2 b hb).2.2.2.2.2⟩
 have fo:=I2.fpOk hC I3.free
 obtain⟨g0,g1,g2,g3,g4,g5⟩:=id fo
 have I5:Inv X ξ U H' { s3 with heap:=h' }:=I4.turned (t':=s3.toks) (λb o hb e=>(sb.2 b hb).trans e) g0 g1 g3 g4 g5
 obtain⟨C0,dx,vs,T,oT,ts,h1,h2,h3,q1,q2,q3,q4,q5,q6⟩:=F3
 have na:a≠C:=λz=>by rcases h1 with h1|h1 <;> (rw[z,g0] at h1;cases h1)
 have nT:T≠C:=q6.2.1
 have F5:FlyT X ξ H' a { s3 with heap:=h' } z:=⟨C0,dx,vs,T,oT,ts,h1,(sb.2 a na).trans h2,h3,q1,q2,(sb.2 T nT).trans q3,q4,q5,bp7 I2 f2 q6⟩
 unfold PySem.passOn
 refine af (dS (s:={ s3 with heap:=h' }) ((sb.2 a na).trans h2) rfl q1 ?_)
 rw[if_neg (by simp)]
 refine af (am7 I5 F5 λs6 I6 F6=>?_)
 exact mk (m ξ U H' s6 a I6 F6.at hE)
noncomputable def at5(X:Cx)(ifs:List Expr)(t:DT):Prop:=∀Ex,Meets X Ex->X3 X ifs (λU H Q=>t U H Q (Ex U))
theorem Si:at5 X [] B6:=λ_ _=>aj4
theorem Sj(h:QT X c t):at5 X [c] t:=λEx m=>aj5 (h Ex m)
theorem W9(O:GOk X G)(hc:X.calm=true)(hk:E6 G sc=true)(hs:Lo iter=true)(hi:QI X tg iter wi)(hg:∀X',GOk X' (Cs G sc.names)->PG X' tg g)(ht:∀X',GOk X' (Cs G sc.names)->at5 X' ifs tc)(he:∀X',GOk X' (Cs G sc.names)->QE X' elt de) :
  QE X (.ListComp elt [⟨tg,iter,ifs,0⟩] sc pos) (Be (Fr G sc.names) wi g tc de):=by
 intro Ex m ξ s U H Q I h
 exact ad2 hc (Pd O hk) (hi Ex m) (λQ2 fp C D s2 H2 I2 f2 hC=>
  have M:=Lm (N':=(Cs G sc.names).N) (cl:=Cr X.env.cells sc.names []) (us:=none) (Q2:=Q2) (D:=D) m O.fr I2 f2 hC
  have K:=Ww O hk fp C s2 H2 (Bp X sc (Cr X.env.cells sc.names []) none Q2 D C)
  ⟨hg _ K,ht _ K _ M,he _ K _ M⟩) I h (λx=>Lp hs X.env x)
end
noncomputable def Wu(K:ac)(op:BoolOp):List DE->DE
 |[]=>dNo
 |[a]=>a
 | a::r=>match op with
  |.And=>Nr K a (Wu K op r)
  |.Or=>bp2 K a (Wu K op r)
noncomputable def Wt(op:BoolOp):List DT->DT
 |[]=>λ_ _ _ _=>False
 |[a]=>a
 | a::r=>match op with
  |.And=>T7 a (Wt op r)
  |.Or=>dOr a (Wt op r)
noncomputable def C8:List DE->DA
 |[]=>Ag
 |a::r=>Ac a (C8 r)
noncomputable def tNo:DT:=λ_ _ _ _=>False
noncomputable def Zq(G:Sg)(ops:List mG)(bs:List Expr)(a:DE)(ds:List DE):DE:=match ops,bs,ds with
 |[op],[b],[d]=>if ju op b=false then Ah (Mv G.K op) a d else dNo
 |[op,op'],[b,c],[d,d']=>if lastMarks [op,op'] [b,c]=false then Ek (Mv G.K op) (Mv G.K op') a d d' else dNo
 |_,_,_=>dNo
noncomputable def ar2(G:Sg)(x:Str)(es:List Expr)(ds:List DE):DE:=
 if Jn G x=true/\(Cj G.N x 0)=none/\es.all noStar=true then (match G.gb.lookup x with
  |some (.fn i)=>if es.length<=i.ps.length/\i.ps.length<=es.length+i.dfs.length then dFn (spE i.sp (i.dfs.drop (es.length+i.dfs.length - i.ps.length))) (C8 ds) else dNo
  | some (.exc C oi)=>(match oi with
   |none=>if es.isEmpty=true then dFn (mkX C none 0) (C8 ds) else dFn (λvs H Q E=>vs.length<=1000/\mkX C none 0 vs H Q E) (C8 ds)
   | some i=>if es.length+1<=i.ps.length/\i.ps.length<=es.length+1+i.dfs.length then (if es.isEmpty=true then dFn (mkX C (some i) (es.length+1+i.dfs.length - i.ps.length)) (C8 ds)
    else dFn (λvs H Q E=>vs.length<=1000/\mkX C (some i) (es.length+1+i.dfs.length - i.ps.length) vs H Q E) (C8 ds)) else dNo)
  | some (.cls C oi)=>(match oi with
   |none=>if es.isEmpty=true then dFn (mkC C none 0) (C8 ds) else dNo
   |some i=>if es.length+1<=i.ps.length/\i.ps.length<=es.length+1+i.dfs.length then dFn (mkC C (some i) (es.length+1+i.dfs.length - i.ps.length)) (C8 ds) else dNo)
  |some _=>dNo
  | none=>if G.bl.contains x=true then (match a79 G.K G.calm x with
   |some (_,r)=>if es.isEmpty=true then dNo else dFn (λvs H Q _=>r vs H Q) (C8 ds)
   |none=>dNo) else dNo) else dNo
noncomputable def ar4(G:Sg)(o:Expr)(m:Str)(es:List Expr)(ap cp:Pos)(d:DE)(ds:List DE):DE:=
 if Ds o=true/\es.all noStar=true/\es.length<30/\(ap.endLine==cp.line)=true then (match C2 G.gb m with
  |none=>dMt (rMt G.K (mtR G.K m)) d (C8 ds)
  |some l=>Ck m es.length l d (C8 ds)) else dNo
noncomputable def K0(d:DE):DE:=λU H Q E=>d U H (λv H'=>Thaw H H' (Q v)) E
theorem P6(h:QE X e d):QE X e (K0 d):=λEx mt ξ s U H Q I q=>
 thn (h Ex mt ξ s U H _ I q) λv s1 ⟨x,H1,I1,r1,q1⟩=>
  let ⟨H2,I2,q2⟩:=Thaw.inv I I1 q1
  ⟨x,H2,I2,r1,q2⟩
noncomputable def thw(e:Expr)(d:DE):DE:=match e with
 |.ListComp _ _ _ _=>K0 d
 |_=>d
theorem al1(h:QE X e d):QE X e (thw e d):=by
 unfold thw
 split
 .exact P6 h
 .exact h
inductive Fz where
 |lenSet (a:Expr)|rngList (a:Expr)
noncomputable def fzD(K:ac)(w:Expr->DE):Fz->DE
 |.lenSet a=>dUn (Kr K) (w a)
 |.rngList a=>dUn Lx (w a)
noncomputable def Yk(G:Sg)(x:Str):Bool:=Jn G x&&(G.gb.lookup x).isNone&&G.bl.contains x
noncomputable def Uf(G:Sg)(x:Str)(es:List Expr):Option Fz:=match es with
 | [.Call (.Name y _) [a] [] _]=>if x="len" /\ y="set" /\ Yk G x=true/\Yk G y=true/\noStar a=true/\G.calm=true then some (.lenSet a)
  else if x="list" /\ y="range" /\ Yk G x=true/\Yk G y=true/\noStar a=true/\G.calm=true then some (.rngList a) else none
 |_=>none
mutual
noncomputable def wE:Nat->Sg->Expr->DE
 |0,_,_=>dNo
 | n+1,G,e=>match e with
  |.Constant c _ _=>ar3 c
  |.Name x _=>ar5 G x
  |.BinOp a op (.ListComp x1 x2 x3 x4) _=>K0 (Ah (rOp G.K op) (wE n G a) (wE n G (.ListComp x1 x2 x3 x4)))
  |.BinOp a op b _=>Ah (rOp G.K op) (wE n G a) (wE n G b)
  |.UnaryOp .USub a _=>dUn Xg (wE n G a)
  |.UnaryOp .Not a _=>ad4 G.K (wE n G a)
  |.UnaryOp .Invert a _=>dUn Xf (wE n G a)
  |.BoolOp op es _=>Wu G.K op (es.map (wE n G))
  |.Compare a ops bs _=>Zq G ops bs (wE n G a) (bs.map (wE n G))
  |.IfExp t a b _=>bp1 (wT n G t) (wE n G a) (wE n G b)
  |.List es _=>if es.all noStar=true then Cm (C8 (es.map (wE n G))) else dNo
  |.Tuple es _ _=>if es.all noStar=true then Do (C8 (es.map (wE n G))) else dNo
  |.Subscript a (.Slice lo hi none _) _=>dSl G.K (wE n G a) (match lo with|none=>Gc|some l=>Kz (wE n G l)) (match hi with|none=>Gc|some h=>Kz (wE n G h))
  |.Subscript a b _=>if Hb b=true then Ah (Ax G.K) (wE n G a) (wE n G b) else dNo
  |.Attribute o f _=>if Ds o=true then dUn (By G.K f) (wE n G o) else dNo
  | .Call (.Name x _) es [] _=>match Uf G x es with
   |some z=>fzD G.K (wE n G) z
   |none=>ar2 G x es (es.map λe=>if x="sum" then thw e (wE n G e) else wE n G e)
  |.Dict ks vs _=>if ks.isEmpty=true/\vs.isEmpty=true then De else dNo
  |.Call (.Attribute o m ap) es [] cp=>ar4 G o m es ap cp (wE n G o) (es.map (wE n G))
  | .ListComp elt [⟨tg,iter,ifs,0⟩] sc _=>if G.calm=true/\E6 G sc=true/\Lo iter=true then
    Be (Fr G sc.names) (wI n G tg iter) (wG n (Cs G sc.names) tg) (match ifs with | []=>B6 | [c]=>wT n (Cs G sc.names) c|_=>tNo) (wE n (Cs G sc.names) elt) else dNo
  |_=>dNo
noncomputable def wT:Nat->Sg->Expr->DT
 |0,_,_=>tNo
 | n+1,G,e=>match e with
  |.UnaryOp .Not a _=>Da (wT n G a)
  |.BoolOp op es _=>Wt op (es.map (wT n G))
  |.Compare a ops bs _=>Bf (Zq G ops bs (thw a (wE n G a)) (bs.map λe=>thw e (wE n G e)))
  |.IfExp _ _ _ _=>tNo
  |e=>Cu G.K (wE n G e)
noncomputable def wI:Nat->Sg->Expr->Expr->DI
 |0,_,_,_=>iNo
 | n+1,G,tg,e=>match e with
  |.Call (.Name x _) (a::es) [] _=>
   if x="range" /\ Jn G x=true/\G.gb.lookup x=none/\G.bl.contains x=true/\(a::es).all noStar=true then F7 (C8 ((a::es).map (wE n G)))
   else if x="enumerate" /\ Jn G x=true/\G.gb.lookup x=none/\G.bl.contains x=true/\(a::es).all noStar=true then (match tg with
    |.Tuple _ _ _=>iEn G.K (C8 ((a::es).map (wE n G)))
    |_=>iNo)
   else if x="reversed" /\ Jn G x=true/\G.gb.lookup x=none/\G.bl.contains x=true/\noStar a=true/\es.isEmpty=true then a95 G.K (wE n G a)
   else Bt G.K (wE n G e)
  |.ListComp a b c d=>Bt G.K (K0 (wE n G (.ListComp a b c d)))
  |e=>Bt G.K (wE n G e)
end
theorem a45:QT X e tNo:=λ_ _ _ _ _ _ _ _ h=>h.elim
theorem Cc(h:∀e,QE X e (w e)):∀ {es:List Expr},es.all noStar=true->QA X es (C8 (es.map w))
 |[],_=>Uz5
 | e::es,hs=>by
  rw[bR,aH] at hs
  exact P4 (h e) (Cc h hs.2) hs.1
theorem P5(h:∀e,QE X e (w e)):∀ {es:List Expr},QE X (.BoolOp op es pos) (Wu X.K op (es.map w))
 |[]=>Bs
 |[e]=>bj6 (h e)
 | e::e'::es=>by
  cases op with
  |And=>exact bi7 (h e) (P5 h)
  |Or=>exact bv6 (h e) (P5 h)
theorem P7(h:∀e,QT X e (w e)):∀ {es:List Expr},QW X (.BoolOp op es pos) (Wt op (es.map w))
 |[]=>λ_ _ _ _ _ _ _ _ _ h=>h.elim
 | [e]=>by
  cases op with
  |And=>exact a03 (h e)
  |Or=>exact bl2 (h e)
 | e::e'::es=>by
  cases op with
  |And=>exact bl1 (h e) (P7 h)
  |Or=>exact bv8 (h e) (P7 h)
section
theorem az2(O:GOk X G)(h:∀e,QE X e (w e))(a:Expr)(ops:List mG)(bs:List Expr)(pos:Pos):QE X (.Compare a ops bs pos) (Zq G ops bs (w a) (bs.map w)):=by
 unfold Zq
 rw[<- O.K]
 split
 .rename_i op b d e
  have:d=w b:=by simpa using e.symm
  subst this
  split
  .exact bi9 O.units op (h a) (h b) ‹_›
  .exact Bs
 .rename_i op op' b c d d' e
  have:w b=d/\w c=d':=by simpa using e
  obtain⟨rfl,rfl⟩:=this
  split
  .exact ak6 O.units op op' (h a) (h b) (h c) ‹_›
  .exact Bs
 .exact Bs
theorem a02(O:GOk X G)(h:∀e,QE X e (w e))(a:Expr)(ops:List mG)(bs:List Expr)(pos:Pos):QT X (.Compare a ops bs pos) (Bf (Zq G ops bs (w a) (bs.map w))):=by
 unfold Zq
 rw[<- O.K]
 split
 .rename_i op b d e
  have:d=w b:=by simpa using e.symm
  subst this
  split
  .exact bk8 O.units op (h a) (h b) ‹_›
  .exact λ_ _ _ _ _ _ _ _ h=>h.elim
 .rename_i op op' b c d d' e
  have:w b=d/\w c=d':=by simpa using e
  obtain⟨rfl,rfl⟩:=this
  split
  .exact al7 O.units op op' (h a) (h b) (h c) ‹_›
  .exact λ_ _ _ _ _ _ _ _ h=>h.elim
 .exact λ_ _ _ _ _ _ _ _ h=>h.elim
theorem ak5(O:GOk X G)(h:∀e,QE X e (w e))(x:Str)(es:List Expr)(p pos:Pos):QE X (.Call (.Name x p) es [] pos) (ar2 G x es (es.map w)):=by
 unfold ar2
 split
 .rename_i hh
  obtain⟨hg,_,hs⟩:=hh
  have dd:=Ul hg
  split
  .rename_i i e
   obtain⟨hm,F⟩:=O.at_ x _ e
   split
   .rename_i hl
    cases es with
    |nil=>exact ak4 F (by have:=hl.1;omega) (O.gl hg) hm dd.1
    |cons e es=>exact az1 F (by have:=hl.1;omega) (O.gl hg) hm (Cc h hs) hs dd.1
   .exact Bs
  .rename_i C oi e
   obtain⟨hm,kp,c,hi⟩:=O.at_ x _ e
   split
   .cases es with
    |nil=>exact Xb (j:=0) c hi (λi z=>nomatch z) kp (O.gl hg) hm dd.1
    |cons e es=>exact ak9 (j:=0) c hi (λi z=>nomatch z) kp (O.gl hg) hm (Cc h hs) hs dd.1
   .rename_i i
    split
    .rename_i hl
     cases es with
     |nil=>exact Xb c hi (λi z=>by cases z;have:=hl.1;omega) kp (O.gl hg) hm dd.1
     |cons e es=>exact ak9 c hi (λi z=>by cases z;have:=hl.1;omega) kp (O.gl hg) hm (Cc h hs) hs dd.1
    .exact Bs
  .rename_i C oi e
   obtain⟨hm,kp,hi⟩:=O.at_ x _ e
   split
   .cases es with
    |nil=>exact Xa (j:=0) hi (λi z=>nomatch z) kp (O.gl hg) hm dd.1
    |cons e es=>exact Bs
   .rename_i i
    split
    .rename_i hl
     cases es with
     |nil=>exact Xa hi (λi z=>by cases z;have:=hl.1;omega) kp (O.gl hg) hm dd.1
     |cons e es=>exact bj2 hi (λi z=>by cases z;have:=hl.1;omega) kp (O.gl hg) hm (Cc h hs) hs dd.1
    .exact Bs
  .exact Bs
  .rename_i e
   split
   .rename_i hb
    split
    .rename_i f r er
     split
     .exact Bs
     .rename_i hne
      cases es with
      |nil=>exact absurd rfl hne
      |cons e es=>
       rw[<- O.K] at er
       obtain⟨b1,b2⟩:=au1 O.units er O.calm
       exact bi8 b2 (O.gl hg) (O.bl x hb) b1 (Cc h hs) hs dd.2.2 dd.1
    .exact Bs
   .exact Bs
 .exact Bs
theorem ak8(O:GOk X G)(h:∀e,QE X e (w e))(o:Expr)(m:Str)(es:List Expr)(ap cp:Pos):QE X (.Call (.Attribute o m ap) es [] cp) (ar4 G o m es ap cp (w o) (es.map w)):=by
 unfold ar4
 rw[<- O.K]
 split
 .rename_i hh
  obtain⟨h1,h2,h3,h4⟩:=hh
  split
  .cases es with
   |nil=>exact bj3 (λb hb=>ah1 O.units hb) (h o) h1 h4
   |cons e es=>exact bv5 (λb hb=>ah1 O.units hb) (h o) (Cc h h2) h1 h2 h3 h4
  .rename_i l e
   cases es with
   |nil=>exact az6 (O.met m l e) (h o) h1 h4
   |cons e es=>exact bj7 (O.met m l ‹_›) (h o) (Cc h h2) h1 h2 h3 h4
 .exact Bs
end
theorem Dq(O:GOk X G)(h:Yk G x=true):Gl X x/\X.mg x=none:=by
 unfold Yk at h
 rw[aH,aH] at h
 exact⟨O.gl h.1.1,O.bl _ h.2⟩
theorem az4(O:GOk X G)(h:∀e,QE X e (w e))(e:Uf G x es=some z) :
  QE X (.Call (.Name x p) es [] pos) (fzD G.K w z):=by
 unfold Uf at e
 split at e
 .split at e
  .rename_i hh
   obtain⟨rfl,rfl,h1,h2,h3,h4⟩:=hh
   cases e
   rw[<- O.K]
   exact Y8 (O.calm▸h4) (Dq O h1).1 (Dq O h1).2 (Dq O h2).1 (Dq O h2).2 (h _) h3
  .split at e
   .rename_i hh
    obtain⟨rfl,rfl,h1,h2,h3,h4⟩:=hh
    cases e
    exact Uz6 (O.calm▸h4) (Dq O h1).1 (Dq O h1).2 (Dq O h2).1 (Dq O h2).2 (h _) h3
   .cases e
 .cases e
theorem ar6:∀(n:Nat)(X:Cx)(G:Sg),GOk X G->(∀e,QE X e (wE n G e))/\(∀e,QT X e (wT n G e))/\(∀tg e,QI X tg e (wI n G tg e)):=by
 intro n
 induction n with
 |zero=>
  intro X G O
  refine⟨λe=>?_,λe=>?_,λtg e=>?_⟩
  .unfold wE;exact Bs
  .unfold wT;exact a45
  .unfold wI;exact a44
 |succ n ih=>
  intro X G O
  obtain⟨hE,hT,hI⟩:=ih X G O
  have hv:∀tg e,QI X tg e (Bt G.K (wE n G e)):=λtg e=>by rw[<- O.K];exact al3 (hE e)
  refine⟨λe=>?_,λe=>?_,λtg e=>?_⟩
  .unfold wE
   split
   .exact ak7 _ _ _
   .exact az5 O _ _
   .rw[<- O.K];exact P6 (ak3 _ (hE _) (hE _))
   .rw[<- O.K];exact ak3 _ (hE _) (hE _)
   .exact bj4 (hE _)
   .rw[<- O.K];exact bj5 (hE _)
   .exact bj0 (hE _)
   .rw[<- O.K];exact P5 hE
   .exact az2 O hE _ _ _ _
   .exact bv3 (hT _) (hE _) (hE _)
   .split
    .exact bj1 (Cc hE ‹_›)
    .exact Bs
   .split
    .exact bj8 (Cc hE ‹_›)
    .exact Bs
   .rw[<- O.K]
    refine al0 (hE _) ?_ ?_
    .split
     .exact Xc
     .exact Xd (hE _)
    .split
     .exact Xc
     .exact Xd (hE _)
   .split
    .rename_i hs
     rw[<- O.K];exact bv4 O.units (hE _) (hE _) hs
    .exact Bs
   .split
    .rw[<- O.K];exact az0 (hE _) (Es ‹_› _ X.env _)
    .exact Bs
   .split
    .exact az4 O hE ‹_›
    ·(refine ak5 O ?_ _ _ _ _;exact λe=>by split <;> first|exact al1 (hE e)|exact hE e)
   .rename_i ks vs p0
    split
    .rename_i hh
     have e1:ks=[]:=by simpa using hh.1
     have e2:vs=[]:=by simpa using hh.2
     subst e1 e2
     exact az3
    .exact Bs
   .exact ak8 O hE _ _ _ _ _
   .split
    .rename_i hh
     obtain⟨h1,h2,h3⟩:=hh
     refine W9 O (O.calm▸h1) h2 h3 (hI _ _) (λX' O'=>Tk n X' _ O' _) (λX' O'=>?_) (λX' O'=>(ih X' _ O').1 _)
     split
     .exact Si
     .exact Sj ((ih X' _ O').2.1 _)
     .exact λ_ _ _ _ _ _ _ _ h=>h.elim
    .exact Bs
   .exact Bs
  .unfold wT
   split
   .exact bk9 (hT _)
   .exact λEx m=>PW.pt (P7 hT Ex m)
   .exact a02 (w:=λe=>thw e (wE n G e)) O (λe=>al1 (hE e)) _ _ _ _
   .exact a45
   .rename_i h1 h2 h3 h4
    rw[<- O.K]
    refine bl0 (hE _) ?_
    cases e with
    |UnaryOp op a p=>cases op <;> first|rfl|exact absurd rfl (h1 _ _)
    |BoolOp op es p=>exact absurd rfl (h2 _ _ _)
    |Compare a b c p=>exact absurd rfl (h3 _ _ _ _)
    |IfExp a b c p=>exact absurd rfl (h4 _ _ _ _)
    |_=>rfl
  .unfold wI
   split
   .split
    .rename_i hh
     obtain⟨rfl,h1,_,h2,h3⟩:=hh
     exact al2 (O.gl h1) (O.bl _ h2) (Cc hE h3) h3
    .split
     .rename_i hh
      obtain⟨rfl,h1,_,h2,h3⟩:=hh
      split
      .rw[<- O.K];exact az8 (O.gl h1) (O.bl _ h2) (Cc hE h3) h3
      .exact a44
     .split
      .rename_i hh
       obtain⟨rfl,h1,_,h2,h3,h4⟩:=hh
       rw[List.isEmpty_iff.mp h4,<- O.K]
       exact bk0 (O.gl h1) (O.bl _ h2) (hE _) h3
      .exact hv _ _
   .rw[<- O.K];exact al3 (P6 (hE _))
   .exact hv _ _
noncomputable def Cx.tr(X:Cx)(pn:List (Addr×Obj))(xe:Value->av->Prop):Cx:={ X with pn:=pn,xe:=xe }
noncomputable def Cx.hd(X:Cx)(a:Addr):Cx:={ X with A:=X.A.mark (some (.ref a)),calm:=false,xe:=λ_ _=>False }
section
variable {X:Cx} {ξ pins':List (Addr×Obj)} {U:St} {H:Hp} {s:av} {a C:Addr} {dx:Option Addr} {xe:Value->av->Prop}
theorem br4(o:X.Ok):(X.tr pn xe).Ok:=⟨o.mod,o.kind,o.glob,o.blt,o.above,o.inj,o.has,o.cab,o.hd,o.frames,o.stk,o.exf,o.bs,o.bsz,o.noex,o.exfs,o.funs,o.frf,o.tk⟩
theorem ax0(o:(X.tr pn xe).Ok):X.Ok:=⟨o.mod,o.kind,o.glob,o.blt,o.above,o.inj,o.has,o.cab,o.hd,o.frames,o.stk,o.exf,o.bs,o.bsz,o.noex,o.exfs,o.funs,o.frf,o.tk⟩
theorem ba1(I:Inv X ξ U H s):Inv (X.tr (X.pn++ξ) xe) [] U H s:=
 ⟨br4 I.ok,I.os,I.bare,I.base,I.loc,I.cell,I.free,I.freeC,λp hp=>I.pin p (by rw[bS] at hp;exact hp),I.hok,I.len⟩
theorem Fe(I:Inv (X.tr (X.pn++ξ) xe) pins' U H s):Inv X ξ U H s:=
 ⟨ax0 I.ok,I.os,I.bare,I.base,I.loc,I.cell,I.free,I.freeC,λp hp=>I.pin p (bX _ hp),I.hok,I.len⟩
theorem ae6(F:Gw (X.tr (X.pn++ξ) xe) pins' H a s):Gw X ξ H a s:=by
 obtain⟨C,dx,vs,h1,h2,h3,h4⟩:=F
 refine⟨C,dx,vs,h1,h2,h3,h4.imp id fun⟨T,oT,ts,q1,q2,q3,q4,q5,q6⟩=>⟨T,oT,ts,q1,q2,q3,q4,q5,?_⟩⟩
 obtain⟨r1,r2,r3,r4,r5,r6⟩:=q6
 exact⟨r1,r2,r3,r4,r5,λp hp=>r6 p (bX _ hp)⟩
theorem a14(h:SP (X.tr (X.pn++ξ) xe) pins' D f s):SP X ξ D f s:=by
 cases f with
 |next=>obtain⟨U',H',I,q⟩:=h;exact⟨U',H',Fe I,q⟩
 |brk=>obtain⟨U',H',I,q⟩:=h;exact⟨U',H',Fe I,q⟩
 |cont=>obtain⟨U',H',I,q⟩:=h;exact⟨U',H',Fe I,q⟩
 |ret u=>obtain⟨v,U',H',I,r,q⟩:=h;exact⟨v,U',H',Fe I,r,q⟩
theorem Uj(I:Inv X ξ U H s):Inv (X.hd a) ξ U H s:=
 ⟨⟨I.ok.mod,I.ok.kind,I.ok.glob,I.ok.blt,I.ok.above,I.ok.inj,I.ok.has,I.ok.cab,(λz=>by cases z),I.ok.frames,I.ok.stk,I.ok.exf,I.ok.bs,I.ok.bsz,I.ok.noex,I.ok.exfs,I.ok.funs,I.ok.frf,I.ok.tk⟩,I.os,I.bare,I.base,I.loc,I.cell,I.free,I.freeC,I.pin,I.hok,I.len⟩
theorem G9(o:X.Ok)(I:Inv (X.hd a) ξ U H s):Inv X ξ U H s:=⟨o,I.os,I.bare,I.base,I.loc,I.cell,I.free,I.freeC,I.pin,I.hok,I.len⟩
theorem Xp(o:X.Ok)(h:SP (X.hd a) ξ D f s):SP X ξ D f s:=by
 cases f with
 |next=>obtain⟨U',H',I,q⟩:=h;exact⟨U',H',G9 o I,q⟩
 |brk=>obtain⟨U',H',I,q⟩:=h;exact⟨U',H',G9 o I,q⟩
 |cont=>obtain⟨U',H',I,q⟩:=h;exact⟨U',H',G9 o I,q⟩
 |ret u=>obtain⟨v,U',H',I,r,q⟩:=h;exact⟨v,U',H',G9 o I,r,q⟩
end
inductive HK where
 |no
 |as (i:Nat)
noncomputable def asD(a:Addr)(u:DS):HK->DS
 |.no=>λD U H=>u { D with ex:=λ_ _ _=>False } U H
 |.as i=>λD U H=>u ⟨λU' H'=>D.nx (U'.set i none) H',D.rt,λU' H'=>D.bk (U'.set i none) H',λU' H'=>D.ct (U'.set i none) H',λ_ _ _=>False⟩ (U.set i (some (.ref a))) H
noncomputable def O9(K:ac)(C a:Addr):List (Addr×HK×DS)->Outs->St->Hp->Prop
 |[],_,_,_=>False
 |(T,oi,u)::r,D,U,H=>∃b,gG K C (.ref T)=some b/\(if b=true then asD a u oi D U H else O9 K C a r D U H)
noncomputable def au3(K:ac)(tb:DS)(us:List (Addr×HK×DS)):DS:=λD U H=>tb { D with ex:=λU' a H'=>∃C dx,FlO H' a C dx/\ECls K C/\O9 K C a us D U' H' } U H
inductive Zu (X:Cx):Option Str->HK->Prop where
 |no:Zu X none .no
 |as {n:Str} {i:Nat} (hN:X.N.Nodup) (hi:X.N[i]?=some n) (hl:X.env.scope.names.lookup n=some .local):Zu X (some n) (.as i)
inductive X2 (X:Cx):List ExceptHandler->List (Addr×HK×DS)->Prop where
 |nil {hl:List ExceptHandler}:X2 X hl []
 | cons {x:Str} {p pos:Pos} {nm:Option Str} {oi:HK} {b:Stmt} {suite:List Stmt} {rest:List ExceptHandler} {T:Addr} {u:DS} {us:List (Addr×HK×DS)} (hg:Gl X x) (hm:X.mg x=some (.ref T)) (hd:(x==("__debug__" : Str))=false) (ec:ECls X.K T) (ha:Zu X nm oi) (hs:∀a,QSs (X.hd a) (b::suite) u) (r:X2 X rest us) :
   X2 X (.ExceptHandler (some (.Name x p)) nm (b::suite) pos::rest) ((T,oi,u)::us)
section
theorem Fw(I:Inv X ξ U H s)(hN:X.N.Nodup)(hi:X.N[i]?=some x)(hk:X.env.scope.names.lookup x=some .local)(h:∀s',Inv X ξ (U.set i none) H s'->Q () s'):aK M A (do bindName X.env x .none;unbindBehindTheSuite X.env x pos) Q E s:=by
 obtain⟨m,hn,hl⟩:=id I.loc
 refine wpAny_nameGoes_keeps hk hn (by rw[I.ok.kind];rfl) λh' v hn' sb=>h _ ?_
 have old:∀ {b o},X.s₀.heap.get? b=some o->h'.get? b=s.heap.get? b:=λ{b o} e=>sb.2 b (aT (aP (aF e) I.ok.above))
 exact {
  ok:=I.ok
  os:=⟨I.os.1,gW I.os.2⟩
  bare:=I.bare
  base:={ I.base with
   keep:=λb o e n hb hx=>by show h'.get? b=_;rw[old e];exact I.base.keep b o e n hb hx
   slot:=λb o e n hb hx=>by show ∃sl,h'.get? b=_;rw[old e];exact I.base.slot b o e n hb hx
   there:=λb o e hx=>by show ∃o',h'.get? b=_;rw[old e];exact I.base.there b o e hx }
  loc:=⟨_,hn',λj y w e1 e2 e3=>by
   have hj:j≠i:=λz=>by
    have lt:i<U.length:=by rw[I.len];exact (List.getElem?_eq_some_iff.mp hi).1
    rw[z,gL lt] at e2
    cases e2
   rw[ii (cA hj)] at e2
   obtain⟨u,r,q⟩:=hl j y w e1 e2 e3
   have ny:y≠x:=λz=>hj (Lq hN e1 (z▸hi))
   refine⟨u,r,q.imp (fun⟨k,e⟩=>⟨k,(if_neg ny).trans e⟩) fun⟨k,c,e,z⟩=>⟨k,c,e,z.sameBut sb (I.cne y c e)⟩⟩⟩
  cell:=λy c e=>let ⟨w,z⟩:=I.cell y c e;⟨w,z.sameBut sb (I.cne y c e)⟩
  free:=I.free
  freeC:=I.freeC
  pin:=λp hp=>let ⟨e,n,ne,nf,d⟩:=I.pin p hp;⟨(sb.2 p.1 ne).trans e,n,ne,nf,d⟩
  hok:=λb ob e=>(I.hok b ob e).stay (λc w hc q=>(sb.2 c (by
   rintro rfl
   have f:=I.free
   rcases hc with rfl|hc
   .rw[f] at e;cases e
   .rw[f] at hc;cases hc)).trans q) (λ_ q=>q) λ_ _ q=>q
  len:=by rw[iA];exact I.len }
theorem Yg(hst:X.stack=X.env::X.outer)(hfr:X.env.frame=some X.env.locals)(mt:Meets X Ex)(K:X2 X hl us):∀ {U:St} {H:Hp} {s:av} {a C:Addr} {dx:Option Addr},Inv X ξ U H s->Gw X ξ H a s->FlO H a C dx->ECls X.K C->O9 X.K C a us (ax6 Ex D) U H ->
  aK (model X.prog X.w) X.A (handleBy (.ref a) X.env hl) (SP X ξ D) X.xe s:=by
 induction K with
 |nil=>intro U H s a C dx I F e ec h;exact h.elim
 |@cons x p pos nm oi b suite rest T u us hg hm hd ecT ha hs r ih=>
  intro U H s a C dx I F e ec h
  obtain⟨m,hm2,h⟩:=h
  have hx:∃vs:Array Value,s.heap.get? a=some (As C dx vs):=by
   obtain⟨vs,z,_⟩:=ae4 I (.inr e)
   exact⟨vs,z⟩
  obtain⟨vs,hx⟩:=hx
  refine wpAny_handleBy_cons (codeAny_handlers_test (Dr (X:=X.hd a) (Uj I) hg hm ?_ hd)) (by intro q;cases q)
  refine Uv (A:=(X.hd a).A) I.kIn ec ecT hx hm2 ?_
  cases m with
  |false=>exact ih I F e ec h
  |true=>
   cases ha with
   |no=>
    refine codeAny_handlers_suite (Nw (A:=(X.hd a).A) I F λs1 I1 F1=>?_)
    exact bW (hs a (λ_ _ _=>False) Ha ξ s1 U H D (Uj I1) h) (λf s2 q=>Xp I.ok q) λ_ _ z=>z.elim
   |@as n i hN hi hlo=>
    refine codeAny_handlers_suite_as (Nw (A:=(X.hd a).A) I F λs1 I1 F1=>?_)
    refine Hi (i:=i) (v:=.ref a) I1 hN hi (.inl hlo) rfl (λs2 I2=>?_) (.inr hlo)
    refine bW (hs a (λ_ _ _=>False) Ha ξ s2 (U.set i (some (.ref a))) H ⟨λU' H'=>D.nx (U'.set i none) H',D.rt,λU' H'=>D.bk (U'.set i none) H',λU' H'=>D.ct (U'.set i none) H'⟩ (Uj I2) h) (λf s3 q=>?_) λ_ _ z=>z.elim
    have q:=Xp I.ok q
    cases f with
    |next=>obtain⟨U',H',I',q⟩:=q;exact Fw I' hN hi hlo λs4 I4=>⟨_,H',I4,q⟩
    |brk=>obtain⟨U',H',I',q⟩:=q;exact Fw I' hN hi hlo λs4 I4=>⟨_,H',I4,q⟩
    |cont=>obtain⟨U',H',I',q⟩:=q;exact Fw I' hN hi hlo λs4 I4=>⟨_,H',I4,q⟩
    |ret w=>obtain⟨v,U',H',I',r,q⟩:=q;exact Fw I' hN hi hlo λs4 I4=>⟨v,_,H',I4,r,q⟩
theorem bk7(hst:Y.stack=Y.env::Y.outer)(hfr:Y.env.frame=some Y.env.locals)(hb:∀pn xe,hX (model Y.prog Y.w) Y.A Y.env xe->QSs (Y.tr pn xe) body tb)(hh:X2 Y (h0::hs) us):QS Y (.Try body (h0::hs) [] [] pos) (au3 Y.K tb us):=by
 intro Ex m ξ s U H D I hw
 refine wpAny_Try_except ?_
 refine bW (hb (Y.pn++ξ) (λe s1=>aK (model Y.prog Y.w) Y.A (k7 e Y.env) (λ_ s2=>aK (model Y.prog Y.w) Y.A (jY e none) (λ_ s3=>aK (model Y.prog Y.w) Y.A (handleBy e Y.env (h0::hs)) (SP Y ξ D) Y.xe s3) Y.xe s2) Y.xe s1) PassesOwn.looking
  (λU' a H'=>∃C dx,FlO H' a C dx/\ECls Y.K C/\O9 Y.K C a us (ax6 Ex D) U' H') ?_ [] s U H D (ba1 I) hw) (λf s1 q=>?_) λ_ _ z=>z
 .intro pins' U' H' s' a I' F' ⟨C,dx,e,ec,h⟩
  exact W4 (Fe I') hst hfr (ae6 F') λs2 I2 F2=>Yg hst hfr m hh I2 F2.at e ec h
 .have q:=a14 q
  cases f with
  |next=>exact jZ q
  |_=>exact q
end
noncomputable def Ih:Expr->Bool
 |.ListComp _ _ _ _=>false
 |.SetComp _ _ _ _=>false
 |.DictComp _ _ _ _ _=>false
 |_=>true
theorem Ii(h:Ih e=true)(t:Option Expr)(l:Nat)(env:Env):je e t l env=pure false:=by
 cases e with
 |ListComp _ _ _ _=>cases h
 |SetComp _ _ _ _=>cases h
 |DictComp _ _ _ _ _=>cases h
 |_=>rfl
section
variable {X:Cx} {G:Sg} {st:Stmt} {rest:List Stmt} {t u:DS} {e:Expr} {de:DE} {pos p':Pos}
theorem Bx:QS X st Cn:=λ_ _ _ _ _ _ _ _ h=>h.elim
theorem Xe:QSs X [] Af:=λ_ _=>ay6
theorem Sk(h1:QS X st t)(h2:QSs X rest u):QSs X (st::rest) (Ae t u):=λEx m=>ak0 (h1 Ex m) (h2 Ex m)
theorem a00:QS X (.Pass pos) Af:=λ_ _=>ay4
theorem bk2:QS X (.Break pos) bo9:=λ_ _=>aj8
theorem bk3:QS X (.Continue pos) bp0:=λ_ _=>Sh
theorem al5(h:QE X e de):QS X (.Return (some e) pos) (Ar de):=λEx m=>bi1 (h Ex m)
theorem a01:QS X (.Return none pos) a31:=λ_ _=>ay5
theorem az9(h:QE X e de)(hn:Ih e=true):QS X (.Expr e pos) (C9 de):=λEx m=>ay3 (h Ex m) (Ii hn _ _ _)
theorem bv7(hc:QT X c tc)(ha:QSs X a t)(hb:QSs X b u):QS X (.If c a b pos) (dIf tc t u):=λEx m=>bv1 (hc Ex m) (ha Ex m) (hb Ex m)
theorem al6(O:GOk X G)(hi:Cj G.N x 0=some i)(hx:Uz G x=true)(h:QE X e de)(hn:je e (some (.Name x p')) pos.line X.env=pure false):QS X (.Assign [.Name x p'] e pos) (Ap i de):=by
 obtain⟨h1,h2⟩:=Pz O hx
 exact λEx m=>bi2 (by rw[O.N];exact O.nd) (by rw[O.N];exact Ee hi) h1 (h Ex m) hn h2
theorem Uz7(O:GOk X G)(hi:Cj G.N x 0=some i)(hx:Uz G x=true)(hc:X.calm=true)(hk:E6 G sc=true)(hs:Lo iter=true)(hq:QI X tg iter wi)(hg:∀X',GOk X' (Cs G sc.names)->PG X' tg g)(ht:∀X',GOk X' (Cs G sc.names)->at5 X' ifs tc)(he:∀X',GOk X' (Cs G sc.names)->QE X' elt de) :
  QS X (.Assign [.Name x p'] (.ListComp elt [⟨tg,iter,ifs,0⟩] sc cp) pos) (Ap i (Be (Fr G sc.names) wi g tc de)):=by
 obtain⟨h1,h2⟩:=Pz O hx
 have sw:je (.ListComp elt [⟨tg,iter,ifs,0⟩] sc cp) (some (.Name x p')) pos.line X.env=pure (X.env.blockKind==.function&&X.env.kindOf x==some .local&&p'.line==(Expr.ListComp elt [⟨tg,iter,ifs,0⟩] sc cp).pos.line
   && !(sc.names.any λ(n,k)=>n==x&&(k==.local||k==.cell))):=rfl
 cases hb:(X.env.blockKind==.function&&X.env.kindOf x==some .local&&p'.line==(Expr.ListComp elt [⟨tg,iter,ifs,0⟩] sc cp).pos.line
   && !(sc.names.any λ(n,k)=>n==x&&(k==.local||k==.cell))) with
 |false=>
  rw[hb] at sw
  exact al6 O hi hx (W9 O hc hk hs hq hg ht he) sw
 |true=>
  rw[hb] at sw
  simp only[aH] at hb
  have hl:X.env.scope.names.lookup x=some .local:=cf hb.1.1.2
  intro Ex m ξ s U H D I h
  exact ad1 hc (by rw[O.N];exact O.nd) (by rw[O.N];exact Ee hi) hl (Pd O hk) (hq Ex m) (λus Q2 fp C D s2 H2 I2 f2 hC=>
   have M:=Lm (N':=(Cs G sc.names).N) (cl:=Cr X.env.cells sc.names []) (us:=us) (Q2:=Q2) (D:=D) m O.fr I2 f2 hC
   have K:=Ww O hk fp C s2 H2 (Bp X sc (Cr X.env.cells sc.names []) us Q2 D C)
   ⟨hg _ K,ht _ K _ M,he _ K _ M⟩) I h sw (λx=>Lp hs X.env x)
theorem bk5(O:GOk X G)(ht:G.top=true)(hc:X.calm=true)(hi:QI X tg iter wi)(hg:PG X tg g)(hb:QSs X body t)(hs:Lo iter=true):QS X (.For tg iter body [] pos) (Ca wi g t):=by
 intro Ex m ξ s U H D I h
 refine bW (bi0 (O.own ht) hc (hi Ex m) hg (hb Ex m) (λx=>Lp hs X.env x) ξ s U H { D with nx:=λU' H'=>Thaw H H' (D.nx U') } I h) (λf s' q=>?_) λ_ _ z=>z
 cases f with
 |next=>
  obtain⟨U',H',I',q⟩:=q
  obtain⟨H2,I2,q2⟩:=Thaw.inv I I' q
  exact⟨U',H2,I2,q2⟩
 |_=>exact q
noncomputable def Co(K:ac)(e:DE):DS:=λD U H=>e U H (Uz9 K (D.ex U)) (D.ex U)
theorem al4(O:GOk X G)(hc:X.A.handled=none)(h:QE X e de):QS X (.Raise (some e) none pos) (Co X.K de):=λEx m=>aj9 m hc (h Ex m)
noncomputable def ah8:Expr->Bool
 |.Tuple _ _ _=>false
 |_=>true
theorem ah9(h:ah8 e=true)(tg:Expr)(env:Env):swappedStores [tg] e env=pure none:=by
 cases e with
 |Tuple _ _ _=>cases h
 |_=>cases tg <;> rfl
theorem bk1(h:QE X e de)(hg:PG X (.Tuple ts kt pt) g)(hn:Ih e=true)(ht:ah8 e=true):QS X (.Assign [.Tuple ts kt pt] e pos) (Dz de g):=
 λEx m=>aj7 (h Ex m) hg (show k_ [.Tuple ts kt pt] e pos.line X.env=pure false from Ii hn (some (.Tuple ts kt pt)) pos.line X.env) (ah9 ht _ _)
noncomputable def Ci(K:ac)(o i:DE):DG:=λv U H Q=>o U H (λx H1=>i U H1 (λy H2=>am4 x y v H2 (Q U)) λ_ _=>False) λ_ _=>False
theorem bk6(hu:X.A.units+64<cLine)(ho:QE X o do')(hi:QE X i di)(h:QE X e de)(hsl:Hb i=true):QS X (.Assign [.Subscript o i p'] e pos) (Dz de (Ci X.K do' di)):=by
 intro Ex m
 have hg:PG X (.Subscript o i p') (Ci X.K do' di):=bh8 (ho _ Ha) (hi _ Ha) (bw5 hu) (by
  intro v
  cases i with
  |Slice _ _ _ _=>cases hsl
  |_=>rfl)
 exact aj7 (h Ex m) hg (show k_ [.Subscript o i p'] e pos.line X.env=pure false from by show je e (some (.Subscript o i p')) pos.line X.env=pure false;cases e <;> rfl) (by cases e <;> rfl)
noncomputable def F0(K:ac)(f:Str)(o e:DE):DS:=λD U H=>e U H (λy H1=>o U H1 (λx H2=>am1 K f x y H2 (D.nx U)) (D.ex U)) (D.ex U)
theorem bk4(ho:QE X o do')(h:QE X e de):QS X (.Assign [.Attribute o f p'] e pos) (F0 X.K f do' de):=by
 intro Ex m ξ s U H D I hw
 refine plainObj_wpAny_Assign_Attribute (thn (h Ex m ξ s U H _ I hw) λu s1 ⟨y,H1,I1,ry,q⟩=>thn (ho Ex m ξ s1 U H1 _ I1 q) λov s2 ⟨x,H2,I2,rx,q2⟩=>?_) (by cases e <;> rfl)
 exact bw3 I2 rx ry q2 λH' s' I' hN=>⟨U,H',I',hN⟩
end
noncomputable def b08:GB->GB
 |.val v u=>.val v u
 |.exc C _=>.val (.ref C) (.ref C)
 |.cls C _=>.val (.ref C) (.ref C)
 |_=>.met "" []
noncomputable def bn2(gb:List (Str×GB)):List (Str×GB):=gb.map λp=>(p.1,b08 p.2)
noncomputable def hdG(G:Sg):Sg:={ G with gb:=bn2 G.gb,calm:=false }
noncomputable def Rp(gb:List (Str×GB))(x:Str):Option Addr:=match gb.lookup x with
 |some (.exc T _)=>some T
 |_=>none
noncomputable def okH(G:Sg):ExceptHandler->Bool
 | .ExceptHandler (some (.Name x _)) nm (_::_) _=>Jn G x&&(Rp G.gb x).isSome&&(match nm with
  |none=>true
  |some n=>(Cj G.N n 0).isSome&&(G.sc.lookup n==some .local))
 |_=>false
noncomputable def br1(G:Sg):ExceptHandler->Option Nat
 |.ExceptHandler _ (some n) _ _=>Cj G.N n 0
 |_=>none
noncomputable def af8(G:Sg)(h:ExceptHandler):HK:=match br1 G h with
 |some i=>.as i
 |none=>.no
noncomputable def bo8(G:Sg):ExceptHandler->Addr
 |.ExceptHandler (some (.Name x _)) _ _ _=>(Rp G.gb x).getD 0
 |_=>0
noncomputable def bo7:ExceptHandler->List Stmt
 |.ExceptHandler _ _ b _=>b
theorem a94(O:GOk X G)(a:Addr):GOk (X.hd a) (hdG G) where
 K:=O.K
 kind:=O.kind
 own:=λ_=>jS
 N:=O.N
 nd:=O.nd
 sc:=O.sc
 vis:=O.vis
 top:=O.top
 calm:=rfl
 hd:=λz=>by cases z
 units:=O.units
 cel:=O.cel
 gb:=λx g e=>by
  obtain⟨⟨y,g'⟩,hg,z⟩:=List.mem_map.mp (show (x,g)∈G.gb.map λp=>(p.1,b08 p.2) from e)
  cases z
  have h:=O.gb _ g' hg
  cases g' with
  |val v u=>exact h
  |exc C i=>exact⟨h.1,rfl⟩
  |cls C i=>exact⟨h.1,rfl⟩
  |fn i=>exact λmi hm=>by cases hm
  |met m l=>exact λmi hm=>by cases hm
 bl:=O.bl
 frm:=O.frm
 fr:=O.fr
theorem b07(F:Gv X i):Gv (X.tr pn xe) i:=⟨F.kp,F.ok,F.room,F.binds,F.vals⟩
theorem bm9(O:GOk X G)(ho:hX (model X.prog X.w) X.A X.env xe):GOk (X.tr pn xe) G where
 K:=O.K
 kind:=O.kind
 own:=λ_=>ho
 N:=O.N
 nd:=O.nd
 sc:=O.sc
 vis:=O.vis
 top:=O.top
 calm:=O.calm
 hd:=O.hd
 units:=O.units
 cel:=O.cel
 gb:=λx g e=>by
  refine GBOk.to (X:=X) ?_ ?_ ?_ ?_ ?_ ?_ (O.gb x g e)
  .rfl
  .rfl
  .rfl
  .rfl
  .exact λ_ r=>r
  .exact λi F=>b07 F
 bl:=O.bl
 frm:=O.frm
 fr:=O.fr
theorem ai2(hh:okH G h=true):∃x p nm b suite pos,h=.ExceptHandler (some (.Name x p)) nm (b::suite) pos/\Jn G x=true/\(Rp G.gb x).isSome=true/\∀n,nm=some n->(Cj G.N n 0).isSome=true/\G.sc.lookup n=some .local:=by
 unfold okH at hh
 split at hh
 .rw[aH,aH] at hh
  refine⟨_,_,_,_,_,_,rfl,hh.1.1,hh.1.2,λn e=>?_⟩
  have h2:=hh.2
  rw[e] at h2
  have h2:((Cj G.N n 0).isSome&&(G.sc.lookup n==some .local))=true:=h2
  rw[aH] at h2
  exact⟨h2.1,cf h2.2⟩
 .cases hh
noncomputable def hsD(G:Sg)(w:List Stmt->DS)(hl:List ExceptHandler):List (Addr×HK×DS):=(hl.takeWhile (okH G)).map λh=>(bo8 G h,af8 G h,w (bo7 h))
theorem a35(O:GOk X G)(h:∀a ss,QSs (X.hd a) ss (w ss)):∀hl:List ExceptHandler,X2 X hl (hsD G w hl)
 |[]=>.nil
 | e0::r=>by
  unfold hsD
  rw[List.takeWhile_cons]
  cases h1:okH G e0 with
  |false=>exact .nil
  |true=>
  obtain⟨x,p,nm,b,suite,pos,rfl,hg,hs,hnm⟩:=ai2 h1
  obtain⟨T,hT⟩:=Option.isSome_iff_exists.mp hs
  have hl:∃oi,G.gb.lookup x=some (.exc T oi):=by
   unfold Rp at hT
   split at hT
   .rename_i T' oi e;cases hT;exact⟨oi,e⟩
   .cases hT
  obtain⟨oi,hl⟩:=hl
  obtain⟨m,kp,ec,_⟩:=O.at_ x _ hl
  have e:bo8 G (.ExceptHandler (some (.Name x p)) nm (b::suite) pos)=T:=by show (Rp G.gb x).getD 0=T;rw[hT];rfl
  simp only[if_true,aS]
  rw[e]
  have ao:Zu X nm (af8 G (.ExceptHandler (some (.Name x p)) nm (b::suite) pos)):=by
   unfold af8
   cases nm with
   |none=>exact .no
   |some n=>
    obtain⟨z1,z2⟩:=hnm n rfl
    obtain⟨i,hi⟩:=Option.isSome_iff_exists.mp z1
    show Zu X (some n) (match Cj G.N n 0 with|some i=>HK.as i|none=>HK.no)
    rw[hi]
    exact .as (by rw[O.N];exact O.nd) (by rw[O.N];exact Ee hi) (by rw[O.sc];exact z2)
  exact .cons (O.gl hg) m (Ul hg).1 ec ao (λa=>h a _) (a35 O h r)
mutual
noncomputable def wS:Nat->Sg->Stmt->DS
 |0,_,_=>Cn
 | n+1,G,st=>match st with
  |.Pass _=>Af
  |.Break _=>bo9
  |.Continue _=>bp0
  |.Return (some e) _=>Ar (wE n G e)
  |.Return none _=>a31
  |.Expr e _=>if Ih e=true then C9 (wE n G e) else Cn
  |.If c a b _=>dIf (wT n G c) (wSs n G a) (wSs n G b)
  | .Assign [.Name x _] (.ListComp elt [⟨tg,iter,ifs,0⟩] sc _) _=>match Cj G.N x 0 with
   | some i=>if Uz G x=true/\G.calm=true/\E6 G sc=true/\Lo iter=true then
     Ap i (Be (Fr G sc.names) (wI n G tg iter) (wG n (Cs G sc.names) tg) (match ifs with | []=>B6 | [c]=>wT n (Cs G sc.names) c|_=>tNo) (wE n (Cs G sc.names) elt)) else Cn
   |none=>Cn
  | .Assign [.Name x _] e _=>match Cj G.N x 0 with
   |some i=>if Uz G x=true/\Ih e=true then Ap i (wE n G e) else Cn
   |none=>Cn
  |.Assign [.Tuple ts kt pt] e _=>if Ih e=true/\ah8 e=true then Dz (wE n G e) (wG n G (.Tuple ts kt pt)) else Cn
  |.Assign [.Attribute o f _] e _=>F0 G.K f (wE n G o) (wE n G e)
  |.Assign [.Subscript o i _] e _=>if Hb i=true then Dz (wE n G e) (Ci G.K (wE n G o) (wE n G i)) else Cn
  |.Raise (some e) none _=>if G.calm=true then Co G.K (wE n G e) else Cn
  |.For tg iter body [] _=>if G.calm=true/\Lo iter=true/\G.top=true then Ca (wI n G tg iter) (wG n G tg) (wSs n G body) else Cn
  |.Try body (h::hs) [] [] _=>if G.top=true then au3 G.K (wSs n G body) (hsD G (wSs n (hdG G)) (h::hs)) else Cn
  |_=>Cn
noncomputable def wSs:Nat->Sg->List Stmt->DS
 |0,_,_=>Cn
 |_+1,_,[]=>Af
 |n+1,G,s::r=>Ae (wS n G s) (wSs n G r)
end
theorem a54:∀(n:Nat)(X:Cx)(G:Sg),GOk X G->(∀s,QS X s (wS n G s))/\(∀ss,QSs X ss (wSs n G ss)):=by
 intro n
 induction n with
 |zero=>
  intro X G O
  refine⟨λs=>?_,λs=>?_⟩
  .unfold wS;exact Bx
  .unfold wSs;exact λ_ _ _ _ _ _ _ _ h=>h.elim
 |succ n ih=>
  intro X G O
  obtain⟨hS,hSs⟩:=ih X G O
  obtain⟨hE,hT,hI⟩:=ar6 n X G O
  refine⟨λs=>?_,λs=>?_⟩
  .unfold wS
   split
   .exact a00
   .exact bk2
   .exact bk3
   .exact al5 (hE _)
   .exact a01
   .split
    .exact az9 (hE _) ‹_›
    .exact Bx
   .exact bv7 (hT _) (hSs _) (hSs _)
   .split
    .rename_i i e
     split
     .rename_i hh
      obtain⟨h1,h2,h3,h4⟩:=hh
      refine Uz7 O e h1 (O.calm▸h2) h3 h4 (hI _ _) (λX' O'=>Tk n X' _ O' _) (λX' O'=>?_) (λX' O'=>(ar6 n X' _ O').1 _)
      split
      .exact Si
      .exact Sj ((ar6 n X' _ O').2.1 _)
      .exact λ_ _ _ _ _ _ _ _ h=>h.elim
     .exact Bx
    .exact Bx
   .split
    .rename_i i e
     split
     .rename_i hh
      exact al6 O e hh.1 (hE _) (Ii hh.2 _ _ _)
     .exact Bx
    .exact Bx
   .split
    .rename_i hh
     exact bk1 (hE _) (Tk n X G O _) hh.1 hh.2
    .exact Bx
   .rw[<- O.K];exact bk4 (hE _) (hE _)
   .split
    .rename_i hh
     rw[<- O.K];exact bk6 O.units (hE _) (hE _) (hE _) hh
    .exact Bx
   .split
    .rename_i hcm
     rw[<- O.K];exact al4 O (O.hd (O.calm▸hcm)) (hE _)
    .exact Bx
   .split
    .rename_i hh
     exact bk5 O hh.2.2 (O.calm▸hh.1) (hI _ _) (Tk n X G O _) (hSs _) hh.2.1
    .exact Bx
   .split
    .rename_i hh
     rw[<- O.K]
     exact bk7 (O.frm hh).1 (O.frm hh).2 (λpn xe ho=>(ih _ _ (bm9 O ho)).2 _) (a35 O (λa ss=>(ih _ _ (a94 O a)).2 ss) _)
    .exact Bx
   .exact Bx
  .cases s with
   |nil=>unfold wSs;exact Xe
   |cons a r=>unfold wSs;exact Sk (hS a) (hSs r)
section
variable {P:ba} {w:bL} {K:ac} {mg:Str->Option Value} {base:Heap}
structure FnIn (P:ba) (w:bL) (K:ac) (mg:Str->Option Value) (base:Heap) (k:Nat) (x:Str) (i:FI):Prop where
 at_:mg x=some (.ref i.f)
 kp:bh K (.ref i.f)=true
 ok:∃CX,(∀X':Cx,X'.prog=P->X'.w=w->Iy CX X')/\FnOk P w K mg base CX i.k i.f i.fd i.ps i.sp
 le:i.k<=k
 binds:∀j,j<=i.dfs.length->Binds K i.fd i.ps (i.ds.drop j)
 vals:Vals i.dfs i.ds
noncomputable def a73(P:ba)(w:bL)(K:ac)(mg:Str->Option Value)(base:Heap)(k:Nat)(C:Addr):Option FI->Prop
 |none=>True
 | some i=>bg K (.ref C) "__init__"=some (some (.ref i.f))/\cU K (.ref i.f)=true/\bh K (.ref i.f)=true/\(∃CX,(∀X':Cx,X'.prog=P->X'.w=w->Iy CX X')/\FnOk P w K mg base CX i.k i.f i.fd i.ps i.sp) /\
   i.k+1<=k/\(∀j,j<=i.dfs.length->Binds K i.fd i.ps (i.ds.drop j))/\Vals i.dfs i.ds
structure ExcIn (P:ba) (w:bL) (K:ac) (mg:Str->Option Value) (base:Heap) (k:Nat) (x:Str) (C:Addr) (oi:Option FI):Prop where
 at_:mg x=some (.ref C)
 kp:bh K (.ref C)=true
 cls:ECls K C
 init:a73 P w K mg base k C oi
structure FiIn (P:ba) (w:bL) (K:ac) (mg:Str->Option Value) (base:Heap) (k:Nat) (i:FI):Prop where
 kp:bh K (.ref i.f)=true
 ok:∃CX,(∀X':Cx,X'.prog=P->X'.w=w->Iy CX X')/\FnOk P w K mg base CX i.k i.f i.fd i.ps i.sp
 le:i.k<=k
 binds:∀j,j<=i.dfs.length->Binds K i.fd i.ps (i.ds.drop j)
 vals:Vals i.dfs i.ds
theorem FiIn.mono(F:FiIn P w K mg base k i)(h:k<=k'):FiIn P w K mg base k' i:=⟨F.kp,F.ok,a9 F.le h,F.binds,F.vals⟩
noncomputable def b15(P:ba)(w:bL)(K:ac)(mg:Str->Option Value)(base:Heap)(k:Nat)(C:Addr):Option FI->Prop
 |none=>dA K C=true/\bg K (.ref C) "__init__"=some (some (.builtin "object.__init__"))
 |some i=>dA K C=true/\bg K (.ref C) "__init__"=some (some (.ref i.f))/\cU K (.ref i.f)=true/\FiIn P w K mg base k i/\i.k+1<=k
structure ClsIn (P:ba) (w:bL) (K:ac) (mg:Str->Option Value) (base:Heap) (k:Nat) (x:Str) (C:Addr) (oi:Option FI):Prop where
 at_:mg x=some (.ref C)
 kp:bh K (.ref C)=true
 made:b15 P w K mg base k C oi
theorem ClsIn.mono(F:ClsIn P w K mg base k x C oi)(h:k<=k'):ClsIn P w K mg base k' x C oi:=by
 refine⟨F.at_,F.kp,?_⟩
 cases oi with
 |none=>exact F.made
 |some i=>obtain⟨a,b,c,d,e⟩:=F.made;exact⟨a,b,c,d.mono h,a9 e h⟩
structure MetIn (P:ba) (w:bL) (K:ac) (mg:Str->Option Value) (base:Heap) (k:Nat) (m:Str) (mi:MI):Prop where
 cls:Cls K mi.C
 at_:Q8 K mi.C m mi.i.f
 fi:FiIn P w K mg base k mi.i
theorem MetIn.mono(F:MetIn P w K mg base k m mi)(h:k<=k'):MetIn P w K mg base k' m mi:=⟨F.cls,F.at_,F.fi.mono h⟩
theorem ExcIn.mono(F:ExcIn P w K mg base k x C oi)(h:k<=k'):ExcIn P w K mg base k' x C oi:=by
 refine⟨F.at_,F.kp,F.cls,?_⟩
 cases oi with
 |none=>exact F.init
 |some i=>obtain⟨a,b,c,d,e,f⟩:=F.init;exact⟨a,b,c,d,a9 e h,f⟩
noncomputable def GBIn(P:ba)(w:bL)(K:ac)(mg:Str->Option Value)(base:Heap)(k:Nat)(x:Str):GB->Prop
 |.fn i=>FnIn P w K mg base k x i
 |.val v u=>mg x=some u/\RelV v u
 |.exc C oi=>ExcIn P w K mg base k x C oi
 |.cls C oi=>ClsIn P w K mg base k x C oi
 |.met m l=>∀mi∈l,MetIn P w K mg base k m mi
structure Tab (P:ba) (w:bL) (K:ac) (mg:Str->Option Value) (base:Heap) (k:Nat) (gb:List (Str×GB)) (bl:List Str):Prop where
 all:∀x g,(x,g)∈gb->GBIn P w K mg base k x g
 bl:∀x∈bl,mg x=none
theorem FnIn.mono(F:FnIn P w K mg base k x i)(h:k<=k'):FnIn P w K mg base k' x i:=⟨F.at_,F.kp,F.ok,a9 F.le h,F.binds,F.vals⟩
theorem GBIn.mono(F:GBIn P w K mg base k x g)(h:k<=k'):GBIn P w K mg base k' x g:=by
 cases g with
 |fn i=>exact FnIn.mono F h
 |val v u=>exact F
 |exc C oi=>exact ExcIn.mono F h
 |cls C oi=>exact ClsIn.mono F h
 |met m l=>exact λmi hm=>(F mi hm).mono h
theorem GBIn.there(F:GBIn X.prog X.w X.K X.mg X.base k x g)(hr:Room k X.A):GBOk X x g:=by
 cases g with
 |fn i=>exact⟨F.at_,F.kp,F.ok,hr.mono F.le,F.binds,F.vals⟩
 |val v u=>exact F
 |exc C oi=>
  refine⟨F.at_,F.kp,F.cls,?_⟩
  cases oi with
  |none=>exact F.init
  |some i=>obtain⟨a,b,c,d,e,f,g⟩:=F.init;exact⟨a,b,⟨c,d,hr.mono (by omega),f,g⟩,hr.mono e⟩
 |cls C oi=>
  refine⟨F.at_,F.kp,?_⟩
  cases oi with
  |none=>exact F.made
  |some i=>obtain⟨a,b,c,d,e⟩:=F.made;exact⟨a,b,c,⟨d.kp,d.ok,hr.mono d.le,d.binds,d.vals⟩,hr.mono e⟩
 |met m l=>exact λmi hm=>⟨(F mi hm).cls,(F mi hm).at_,⟨(F mi hm).fi.kp,(F mi hm).fi.ok,hr.mono (F mi hm).fi.le,(F mi hm).fi.binds,(F mi hm).fi.vals⟩⟩
theorem Hc(X:Cx):Iy CX0 X:=λ_ _ _ _ _ _ _ _ _ h=>h.elim
noncomputable def Jl(K:ac)(N:List Str)(sc:Scope)(gb:List (Str×GB))(bl:List Str):Sg:=⟨K,N,sc.names,gb,bl,true,true⟩
noncomputable def Mm(N:List Str)(sc:Scope):Bool:=N.all λx=>(sc.names.lookup x==some .local)||(sc.names.lookup x==some .cell)
noncomputable def T9(Q:VK)(E:EK):Outs:=⟨λ_ H'=>Q .non H',Q,λ_ _=>False,λ_ _=>False,λ_=>E⟩
structure FunD (K:ac) (x qual:Str) (st:Stmt) (f:Addr) (fd:bo) (dV:Value):Prop where
 ex:∃(oc:Value)(od:Option Addr)(kV doc pm:Value)(an:Option Addr)(θ ct:Value)(osl:Array (Option Value)),
  fd=cr x qual (B0 st) (A3 st) (Ak st) dV kV doc pm an θ ct/\K.lookup f=some ⟨oc,od,.func fd,osl⟩/\dq K θ qual=true
 kp:bh K (.ref f)=true
theorem Fun.toD {x qual:Str}{st:Stmt}{f:Addr}{fd:bo}(F:Fun K x qual st f fd):FunD K x qual st f fd .none:=⟨F.ex,F.kp⟩
theorem av2 {x qual:Str}{st:Stmt}{f:Addr}{oc:Value}{od an:Option Addr}{osl:Array (Option Value)}{dV kV doc pm θ ct:Value}(l:K.lookup f=some ⟨oc,od,.func (cr x qual (B0 st) (A3 st) (Ak st) dV kV doc pm an θ ct),osl⟩)(c:dq K θ qual=true)(k:bh K (.ref f)=true):FunD K x qual st f (cr x qual (B0 st) (A3 st) (Ak st) dV kV doc pm an θ ct) dV:=⟨⟨oc,od,kV,doc,pm,an,θ,ct,osl,rfl,l,c⟩,k⟩
theorem FunD.ok {x qual:Str}{st:Stmt}{f:Addr}{fd:bo}{dV:Value}{N ps:List Str}{k:Nat}{sp:Sp}(F:FunD K x qual st f fd dV)(S:Cl N ps (Ak st))(len:∀vs H Q E,sp vs H Q E->vs.length=ps.length)(hbody:∀(θ:Value)(A:bP)(outer:List Env)(s:av)(H:Hp)(vs:List V)(Q:VK)(E:XK),Room k (A.deeper (kj qual (Ak st) s.heap.objs.size f θ))->sp vs H Q E ->
   ∃t,PSs (Gb CX0 P w K mg base N qual (Ak st) f θ A outer s H E).nox (A3 st) t/\t { nx:=λ_ H'=>Q .non H',rt:=Q } (Cp N vs) H):FnOk P w K mg base CX0 (k+1) f fd ps sp:=by
 obtain⟨oc,od,kV,doc,pm,an,θ,ct,osl,rfl,lk,hcd⟩:=F.ex
 refine ae7 lk hcd S len λA outer s H vs Q E hr hsp=>?_
 obtain⟨t,h,q⟩:=hbody θ A outer s H vs Q E hr hsp
 exact⟨t,h.nox,q⟩
theorem Tp(hd:fd.defaults=.ref T)(ho:K.lookup T=some o)(hs:o.data=.seq ψ n)(h:∀us:List Value,(us++ds).length=ps.length -> ∃k:Option (Array Value)->Sem (List (Str×Value)),iq fd ⟨us,[]⟩=seqItems? fd.defaults >>= k/\k (some ψ)=pure (ps.zip (us++ds))):Binds K fd ps ds:=λs us X hl=>by
 obtain⟨k,h1,h2⟩:=h us hl
 exact PySem.W.binds_K X hd ho hs h1 h2
theorem FunD.okW0 {x qual:Str}{st:Stmt}{f:Addr}{fd:bo}{N ps:List Str}{k n:Nat}{sp:Sp}{gb:List (Str×GB)}{bl:List Str}{t:DS}{dV:Value}(F:FunD K x qual st f fd dV)(S:Cl N ps (Ak st))(hv:Mm N (Ak st)=true)(T:Tab P w K mg base k gb bl)(rd:wSs n (Jl K N (Ak st) gb bl) (A3 st)=t)(len:∀vs H Q E,sp vs H Q E->vs.length=ps.length)(hbody:∀(vs:List V)(H:Hp)(Q:VK)(E:XK),sp vs H Q E->t (T9 Q λ_ _=>False) (Cp N vs) H):FnOk P w K mg base CX0 (k+1) f fd ps sp:=by
 refine F.ok S len λθ A outer s H vs Q E hr h=>?_
 have O:GOk (Gb CX0 P w K mg base N qual (Ak st) f θ A outer s H E).nox (Jl K N (Ak st) gb bl):=by
  refine⟨rfl,S.kind,(λ_=>jS),rfl,S.nd,λx=>rfl,λx hx=>?_,λ_ _=>rfl,rfl,(λ_=>hr.hd),hr.units,λx hx=>?_,λx g e=>?_,λx hx=>?_,(λ_=>⟨rfl,rfl⟩),⟨_,_,_,rfl,rfl,rfl⟩⟩
  .have:=List.all_eq_true.mp hv x hx
   rw[cM] at this
   exact this.elim (λz=>.inl (cf z)) λz=>.inr (.inl (cf z))
  .rcases hx with hx|hx
   .exact E5 hx
   .exact absurd rfl (S.nofree _ (bU hx))
  .exact (T.all x g e).there hr
  .exact T.bl x (by have hx':bl.contains x=true:=hx;simpa using hx')
 refine⟨_,(a54 n _ _ O).2 (A3 st) (λ_ _ _=>False) (λ_ _ _ _ _ _ _ h=>h.elim),?_⟩
 rw[rd]
 exact hbody vs H Q E h
end
noncomputable def Q9(p:Addr)(H H':Hp):Prop:=∀b u,b≠p->H b=some u->H' b=some u
theorem af2 {P:ba}{w:bL}{K:ac}{mg:Str->Option Value}{base:Heap}{N ps:List Str}{qual:Str}{scope:Scope}{f:Addr}{θ:Value}{A:bP}{outer:List Env}{s:av}{H:Hp}{E:XK}{k:Nat}{gb:List (Str×GB)}{bl:List Str}(S:Cl N ps scope)(hv:Mm N scope=true)(T:Tab P w K mg base k gb bl)(hr:Room k (A.deeper (kj qual scope s.heap.objs.size f θ))):GOk (Gb CX0 P w K mg base N qual scope f θ A outer s H E).nox (Jl K N scope gb bl):=by
 refine⟨rfl,S.kind,(λ_=>jS),rfl,S.nd,λx=>rfl,λx hx=>?_,λ_ _=>rfl,rfl,(λ_=>hr.hd),hr.units,λx hx=>?_,λx g e=>?_,λx hx=>?_,(λ_=>⟨rfl,rfl⟩),⟨_,_,_,rfl,rfl,rfl⟩⟩
 .have:=List.all_eq_true.mp hv x hx
  rw[cM] at this
  exact this.elim (λz=>.inl (cf z)) λz=>.inr (.inl (cf z))
 .rcases hx with hx|hx
  .exact E5 hx
  .exact absurd rfl (S.nofree _ (bU hx))
 .exact (T.all x g e).there hr
 .exact T.bl x (by have hx':bl.contains x=true:=hx;simpa using hx')
theorem a06 {P:ba}{w:bL}{K:ac}{mg:Str->Option Value}{base:Heap}{k:Nat}{f c':Addr}{name qual:Str}{params:Arguments}{lb:Expr}{scope:Scope}{pm ctv:Value}{N ps:List Str}{A:bP}{outer:List Env}{s:av}{H:Hp}{us:List Value}{vs:List V}{Q:VK}{E:XK}(hr:Room (k+1) A)(e0:Env0 P w K mg base A outer s H)(ho:s.heap.get? f=some (PySem.W.kla_obj name qual params lb scope [] pm c' ctv))(hcd:s.heap.CodeRec (.ref c') qual)(S:Cl N ps scope)(hb:iq (kh name qual params lb scope [] pm (.ref c') ctv) ⟨us,[]⟩=pure (ps.zip us))(hl:vs.length=ps.length)(r:Vals vs us)(hbody:Room k (A.deeper (kj qual scope s.heap.objs.size f (.ref c'))) -> ∃t,PE (Gb CX0 P w K mg base N qual scope f (.ref c') A outer s H E).nox lb t/\t (Cp N vs) H Q) :
  gH (model P w) A (.call (.ref f) ⟨us,[]⟩) (CR CX0 outer P w H s Q E) s:=by
 have lim:s.heap.NoLimit:=e0.mod.nolimit.keeps λb o e=>(e0.bs b o e).1
 have hkind:∀y∈ps.zip us,scope.names.lookup y.1=some .local\/(scope.names.lookup y.1=some .cell/\((l3 (s.heap.objs.size+1) scope.names []).lookup y.1).isSome=true):=fun⟨n,v⟩ hy=>by
  rcases S.par n (iB hy).1 with q|q
  .exact .inl q
  .exact .inr ⟨q,gQ _ _ _ (.inl q)⟩
 refine PySem.W.kla_callFunE hr.depth ho rfl S.co S.gen rfl hcd ?_
 rw[hb]
 refine ai (bB (ag _) (iN S.kind hkind λenv he s1 x htk=>?_))
 subst he
 refine⟨lim.keeps x.toInCall.keep,PySem.W.kla_codeExpr ?_⟩
 obtain⟨t,ht,hq⟩:=hbody (hr.deeper _)
 have I:Inv (Gb CX0 P w K mg base N qual scope f (.ref c') A outer s H E) [] (Cp N vs) H s1:=N1 S hr.hd e0 htk hl r x
 exact bW (ht.nox [] s1 (Cp N vs) H _ I hq) (λu s' ⟨v,H',J,rv,q⟩=>⟨v,H',J.os,J.bare,J.base,J.hok,rv,q⟩) λe s' hs=>hs
section
theorem Inv.grow(I:Inv X ξ U H s)(hp:H p=some (.tbl ps))(k:∀b o,b≠p->s.heap.get? b=some o->h'.get? b=some o)(g:h'.get? p=some (fW (ps++more)))(ht:s.toks<=t'):Inv X ξ U (upd H p (.tbl (ps++more))) { s with heap:=h',toks:=t' }:=by
 have ne:∀ {b:Addr},H b=none->b≠p:=λe z=>by rw[z,hp] at e;cases e
 refine I.step (g':=s.gens) (d':=s.drawn) (ch:=[]) (λ_ z=>nomatch z) (λb o _ _ _ e n=>k b o (ne n) e) (λb o _ _ _ e n=>⟨o.slots,k b o (ne n) e⟩) (λb o _ _ n=>by rw[Ad (ne n)];exact n)
  (λb o _ e=>?_) (λb xs e=>by rw[Ad λz=>by rw[z,hp] at e;cases e];exact e) (λb o u e=>by rw[Ad λz=>by rw[z,hp] at e;cases e];exact e) (λb qs e=>?_) (λm hm=>?_) (λb u e=>?_) I.bare ht
 .by_cases z:b=p
  .exact⟨_,z▸g⟩
  .exact⟨o,k b o z e⟩
 .by_cases z:b=p
  .subst z
   rw[hp] at e
   cases e
   exact⟨more,Ab⟩
  .exact⟨#[],by rw[Ad z,e];simp⟩
 .obtain⟨o,es,ep,ho,r⟩:=hm
  exact⟨o,es,ep,k _ o (ne I.free) ho,r⟩
 .by_cases z:b=p
  .subst z
   rw[Ab] at e
   cases e
   exact g
  .rw[Ad z] at e
   refine (I.hok b u e).stay (λc v hc q=>k c v ?_ q) (λc q=>by rw[Ad λz=>by rw[z,hp] at q;cases q];exact q) λc xs q=>by rw[Ad λz=>by rw[z,hp] at q;cases q];exact q
   rcases hc with hc|hc
   .rw[hc];exact z
   .exact λz=>by rw[z,hp] at hc;cases hc
theorem ap9(hc:X.calm=true){fn p:Addr}{ds:List (Int×V)}{Q:VK}(I:Inv X ξ U H s)(hp:SqL X.K H p (ds.map (·.2)))(h64:ds.length<64)(asc:(ds.map (·.1)).Pairwise (· < ·))(hk:∀d∈ds,∀(pl:List (Addr×Obj))(s':av)(H3:Hp)(u:Value),Inv X (ξ++pl) U H3 s'->Same H H3->RelV d.2 u->aK (model X.prog X.w) X.A.in1.in1 (call (.ref fn) [u]) (EP X (ξ++pl) U λv H4=>v=.int d.1/\Same H3 H4) (λ_ _=>False) s')(q:∀H3 D,Same H H3->H D=none->H3 D=some (.lst (ds.map (·.2)))->Q (.ref D) H3) :
  aK (model X.prog X.w) X.A (call (.builtin "sorted") [.ref p] [("key", .ref fn)]) (EP X ξ U Q) X.xe s:=by
 refine PySem.W.sk_sorted (OKQ:=λus h' tk=>(∀b o,s.heap.get? b=some o->h'.get? b=some o)/\s.heap.objs.size<=h'.objs.size/\s.toks<=tk/\Vals (ds.map (·.2)) us) (λR hR=>?_) λus h' tk ⟨keep,hD,htk,rv⟩=>?_
 .obtain⟨χ,ri,pl,hz⟩:=I.list hp
  refine collect_list pl.isList (hR _ _ s.toks ⟨λb o e=>?_,?_,ag _,ri⟩) (by have:=ri.length;rw[ae] at this;rw[bG];omega)
  .have hlt:b<s.heap.objs.size:=aF e
   rw[ku _ _ _ _ (aT hlt)]
   exact ah _ e
  .rw[jv,j7]
   exact dm _
 .have hl:us.length=ds.length:=by have:=rv.length;simpa using this.symm
  refine⟨by omega,λD e1 kS h2 hD2 hDk gD gk k=>?_⟩
  have lD:s.heap.objs.size<=D:=a9 hD hD2
  have lk:s.heap.objs.size<=kS:=a9 lD (dM hDk)
  have I2:Inv X ξ U H { s with heap:=h2,toks:=tk }:=I.kept (t':=tk) λb o e=>k b o (keep b o e)
  have fD:∀ {H':Hp},H' D=none->Cq X ξ H' D:=λhn=>I.fpOk lD hn
  have fk:∀ {H':Hp},H' kS=none->Cq X (ξ++[(D,bv "list" #[] e1)]) H' kS:=λhn=>by
   obtain⟨a1,a2,a3,a4,a5,a6⟩:=I.fpOk (H':=H) lk (I.hok.fresh lk)
   refine⟨hn,a2,a3,a4,a5,λp hp=>?_⟩
   rw[<- fI] at hp
   rcases List.mem_append.mp hp with hp|hp
   .exact a6 p hp
   .rw[List.mem_singleton.mp hp]
    exact aT hDk
  refine⟨λks s'=>∃H',Inv X (ξ++[(D,bv "list" #[] e1)]) U H' s'/\Same H H'/\H' kS=none/\jm ks ((ds.map (·.1)).take ks.length),⟨H,?_,Same.refl _,I.hok.fresh lk,.nil⟩,?_,?_⟩
  .refine I2.pins_of λp hp=>?_
   rcases List.mem_append.mp hp with hp|hp
   .exact I2.pin p (aL _ hp)
   .rw[List.mem_singleton.mp hp]
    have f:=fD (I.hok.fresh lD)
    exact⟨gD,f.1,f.2.1,f.2.2.1,λv z=>by cases z⟩
  .intro j x ks e s' hx hlk hks ⟨H',I',S,hn,ka⟩
   have hj:j<us.length:=(List.getElem?_eq_some_iff.mp hx).1
   obtain⟨u,hu,ru⟩:=rv.get (i:=j) (x:=(ds[j]'(by omega)).2) (by rw[al,aj (by omega)];rfl)
   rw[hx] at hu
   cases hu
   have I1:Inv X (ξ++([(D,bv "list" #[] e1)]++[(kS,bv "list" ks.toArray e)])) U H' s':=I'.pins_of λp hp=>by
    rw[<- fI] at hp
    rcases List.mem_append.mp hp with hp|hp
    .exact I'.pin p (aL _ hp)
    .rw[List.mem_singleton.mp hp]
     have f:=fk hn
     exact⟨hks,f.1,f.2.1,f.2.2.1,λv z=>by cases z⟩
   refine bW (hk _ (df _) _ s' H' _ I1 S ru) (λk s'' hq=>?_) λ_ _ z=>z
   obtain⟨v,H'',I'',rk,rfl,S2⟩:=hq
   obtain⟨t,rfl⟩:=rk
   have pk:=I''.pin (kS,bv "list" ks.toArray e) (by simp)
   refine⟨pk.1,λh3 c g sb=>⟨H'',?_,S.trans S2,pk.2.1,?_⟩⟩
   .have f:=fk pk.2.1
    have I3:Inv X (ξ++[(D,bv "list" #[] e1)]) U H'' s'':=I''.pins_of λp hp=>I''.pin p (by
     rcases List.mem_append.mp hp with hp|hp
     .exact aL _ (bX _ hp)
     .exact aL _ (aL _ (bX _ hp)))
    exact I3.turned (t':=s''.toks) (λb o nb e=>(sb.2 b nb).trans e) f.1 f.2.1 f.2.2.2.1 f.2.2.2.2.1 f.2.2.2.2.2
   .subst hlk
    rw[aU,c7,aR,al,aj (by omega)]
    exact ksk_snoc ka
  .intro ks e s' hlk hks ⟨H',I',S,hn,ka⟩
   have pD:=I'.pin (D,bv "list" #[] e1) (by simp)
   have Iu:=I'.unpinned
   rw[gM (by rw[ae];omega)] at ka
   have fk':Cq X ξ H' kS:=by
    have f:=fk hn
    exact⟨f.1,f.2.1,f.2.2.1,f.2.2.2.1,f.2.2.2.2.1,λp hp=>f.2.2.2.2.2 p (by rw[<- fI];exact bX _ hp)⟩
   have fin:PySem.W.SkFin D kS e e1 ks us (λs3=>EP X ξ U Q (.ref D) s3) s':=by
    refine⟨pD.1,hks,λh4 c g sm=>?_⟩
    refine⟨.ref D,upd H' D (.lst (ds.map (·.2))),Iu.adopt (fD pD.2.1) fk' (λb u b1 b2 e=>(sm b b1 b2).trans e) ⟨?_,us,c,rv,g⟩,rfl,q _ D (λb o e=>?_) (I.hok.fresh lD) Ab⟩
    .rw[ae,bG];omega
    .rw[Ad (Ai (S b o e) pD.2.1)]
     exact S b o e
   refine⟨λ_=>fin,λh2=>?_⟩
   rw[ksk_kind (keys:=ks.toArray) ka (by rw[aq];omega)]
   refine ai (PySem.W.asc_sort (by omega) (λj C h0 hj hC=>?_) ?_)
   .unfold PySem.W.kas_ask
    have at_:∀ {vs:List Value} {ns:List Int} {j:Nat},jm vs ns->j<vs.length -> ∃t,vs.getD j cm=.int (ns.getD j 0) t:=by
     intro vs ns j h
     induction h generalizing j with
     |nil=>intro h;cases h
     |cons n t _ ih=>
      intro h
      cases j with
      |zero=>exact⟨t,rfl⟩
      |succ j=>exact ih (jH h)
    obtain⟨t,e⟩:=at_ (j:=j) ka (by omega)
    obtain⟨u,e'⟩:=at_ (j:=j - 1) ka (by omega)
    rw[e,e']
    refine PySem.W.kat_lt_int ?_
    have:(ds.map (·.1)).getD (j - 1) 0<(ds.map (·.1)).getD j 0:=by
     rw[az,aj (by rw[ae];omega),az,aj (by rw[ae];omega)]
     exact List.pairwise_iff_getElem.mp asc (j - 1) j (by rw[ae];omega) (by rw[ae];omega) (by omega)
    rw[decide_eq_false (by omega)]
    exact hC
   .rw[PySem.W.range_pick]
    exact fin
noncomputable def b11(K:ac)(Pt bm:Addr)(N:List Str)(dl:DE)(v:V)(H:Hp)(Q:VK):Prop:=∃(b:Addr)(ob:Obj)(u:HO)(ds:List (Int×V)),v=.ref b/\SqL K H b (ds.map (·.2))/\ds.length<64/\(ds.map (·.1)).Pairwise (· < ·)/\H Pt=some (.tbl #[])/\H bm=some (.frz ob u) /\
 (ob.cls=.type "module" /\ ob.dict=some jc/\ob.data=.plain)/\(∀d∈ds,∀H3,Q9 Pt H H3->dl (Cp N [d.2]) H3 (λv H4=>v=.int d.1/\Same H3 H4) (λ_ _=>False))/\∀H' D,Q9 Pt H H'->H D=none->H' D=some (.lst (ds.map (·.2)))->Q (.ref D) H'
noncomputable def a32(K:ac)(Pt bm:Addr)(N:List Str)(dl a:DE):DE:=λU H Q E=>Ac a Ag U H (λxs H1=>∃v,xs=[v]/\b11 K Pt bm N dl v H1 Q) E
theorem az7 {a lb:Expr}{da dl:DE}{p kp lpos pos:Pos}{c Pt bm:Addr}{lp:Arguments}{ls:Scope}{N:List Str}{j n:Nat}{gb:List (Str×GB)}{bl:List Str}(hc:X.calm=true)(hg:Gl X "sorted")(hm:X.mg "sorted"=none)(ha:QE X a da)(hs:noStar a=true)(hr:Room (j+3) X.A)(T:Tab X.prog X.w X.K X.mg X.base j gb bl)(hcode:X.env.code=.ref c)(hd:dJ X.K c Pt=true)(hbm:X.mg "__builtins__"=some (.ref bm))(hcl:j4 ls X.env=pure [])(hdf:defaultsOf lp X.env=([],[]))(S:Cl N N ls)(hv:Mm N ls=true)(hN:N.length=1)(hb:∀(q:Str)(pm cd ct:Value)(u:Value),iq (kh "<lambda>" q lp lb ls [] pm cd ct) ⟨[u],[]⟩=pure (N.zip [u]))(rd:wE n (Jl X.K N ls gb bl) lb=dl) :
  QE X (.Call (.Name "sorted" p) [a] [⟨some "key", .Lambda lp lb ls lpos,kp⟩] pos) (a32 X.K Pt bm N dl da):=by
 intro Ex mt ξ s U H Q I h
 have hA:QA X [a] (Ac da Ag):=P4 ha Uz5 hs
 refine bN (Dk I hg hm Jb ?_ (by decide) (by decide))
 refine callWith_builtin_kwB (first:=[]) ?_ rfl ?_
 .rw[Av hs [] X.env];rfl
 have e0:cX [a] X.env=[(false,eval a X.env)]:=by rw[Av hs [] X.env];rfl
 have hh:=hA Ex mt pos ξ s U H _ I h
 rw[e0] at hh ⊢
 refine af (thn hh λus s1 ⟨vs,H1,I1,r1,q1⟩=>af (ai (bj ?_)))
 obtain⟨v,rfl,b,ob,u,ds,rfl,hp,h64,asc,hP,hB,⟨b1,b2,b3⟩,hk,q⟩:=q1
 obtain⟨u1,rfl,ru⟩:=Dn r1
 cases ru
 show aK (model X.prog X.w) X.A (do
  let l <- evalAll [do let v <- eval (.Lambda lp lb ls lpos) X.env;mE pos;pure v]
  let ps <- (pure [aV b]:Sem (List Value))
  pure (⟨ps,[("key" : Str)].zip l⟩:Args)) _ _ s1
 have gP:s1.heap.get? Pt=some (fW #[]):=I1.hok Pt _ hP
 have gB:s1.heap.get? bm=some ob:=(I1.hok bm _ hB).1
 have ns:=I1.mod.glob.keeps I1.bk
 have nG:∀ {z:Addr} {o:Obj},s1.heap.get? z=some o->(∀es ep,o.data≠.dict es ep)->z≠mainGlobals:=λe d z=>by
  obtain⟨o',es,ep,e2,d2,_⟩:=ns
  rw[z,e2] at e;cases e;exact d _ _ d2
 refine af (wpAny_evalAll_cons (af (PySem.W.kla_eval hdf (bB (ag _) (PySem.W.kla_makeFunction (mg:=X.mg) (ps:=#[]) hcl I1.ok.glob ns hcode (kE I1.kIn hd) gP trivial rfl (cA (nG gP λ_ _ z=>by cases z)) ⟨bm,ob,hbm,?_,nG gB (λes ep z=>by rw[b3] at z;cases z),?_,gB,b1,b2,b3⟩ λc' ctv h' tk hx hge hlt hrec htb htk=>?_)))))
 .obtain⟨mb,nb,_⟩:=I1.mod.blt
  obtain⟨o',es,ep,e2,d2,_⟩:=nb.keeps I1.bk
  rintro rfl
  rw[e2] at gB;cases gB;rw[b3] at d2;cases d2
 .rintro rfl
  rw[hP] at hB;cases hB
 generalize ef:PySem.W.kla_obj "<lambda>" (X.env.qual ++ "<lambda>") lp lb ls [] ((X.mg "__name__").getD .none) c' ctv=fo
 have I2:Inv X ξ U (upd H1 Pt (.tbl (#[] ++ #[eh lpos.line,eh lpos.col,.ref c']))) { s1 with heap:=h'.push fo,toks:=tk }:=
  I1.grow hP (λb o nb e=>ah _ (hx b o nb e)) (ah _ htb) htk
 have gF:(h'.push fo).get? h'.objs.size=some fo:=by rw[<- ef];exact aB _ rfl
 obtain⟨c2,oc,vs,t,e2,hoc,hdc,hvc⟩:=hrec
 cases e2
 have nP:∀ {b:Addr},s1.heap.objs.size<=b->b≠Pt:=λh z=>absurd (aF gP) (Nat.not_lt.mpr (z▸h))
 have f1:Cq X ξ (upd H1 Pt (.tbl (#[] ++ #[eh lpos.line,eh lpos.col,.ref c']))) c':=I1.fpOk hge (by rw[Ad (nP hge)];exact I1.hok.fresh hge)
 have hle:s1.heap.objs.size<=h'.objs.size:=dM (bb hge hlt)
 have f2:Cq X ξ (upd H1 Pt (.tbl (#[] ++ #[eh lpos.line,eh lpos.col,.ref c']))) h'.objs.size:=I1.fpOk hle (by rw[Ad (nP hle)];exact I1.hok.fresh hle)
 have O2:Q9 Pt H1 (upd H1 Pt (.tbl (#[] ++ #[eh lpos.line,eh lpos.col,.ref c']))):=λb u nb e=>by rw[Ad nb];exact e
 have nD:∀D,upd H1 Pt (.tbl (#[] ++ #[eh lpos.line,eh lpos.col,.ref c'])) D=none->H1 D=none:=λD e=>by
  by_cases z:D=Pt
  .rw[z,Ab] at e;cases e
  .rwa[Ad z] at e
 generalize upd H1 Pt (.tbl (#[] ++ #[eh lpos.line,eh lpos.col,.ref c']))=H2 at I2 f1 f2 O2 nD
 have I3:Inv X (ξ++[(c',oc),(h'.objs.size,fo)]) U H2 { s1 with heap:=h'.push fo,toks:=tk }:=I2.pins_of λp hp=>by
  rcases List.mem_append.mp hp with hp|hp
  .exact I2.pin p (aL _ hp)
  .simp only[aO,cS,or_false] at hp
   rcases hp with rfl|rfl
   .exact⟨ah _ hoc,f1.1,f1.2.1,f1.2.2.1,λv z=>by have z:oc.data=.cell v:=z;rw[hdc] at z;cases z⟩
   .exact⟨gF,f2.1,f2.2.1,f2.2.2.1,λv z=>by have z:fo.data=.cell v:=z;rw[<- ef] at z;cases z⟩
 have hp2:SqL X.K H2 b (ds.map (·.2)):=by
  rcases hp with hp|hp
  .rcases hp with hp|⟨o,hp⟩
   .exact .inl (.inl (O2 _ _ (λz=>by rw[z,hP] at hp;cases hp) hp))
   .exact .inl (.inr ⟨o,O2 _ _ (λz=>by rw[z,hP] at hp;cases hp) hp⟩)
  .exact .inr hp
 refine af (e8 (ai (wpAny_evalAll_nil (af (ai (ai ?_))))))
 refine bW (ap9 (Q:=Q) hc I3 hp2 h64 asc (λd hd pl s' H3 u I' S' ru=>?_) λH3 D S3 nd e3=>q H3 D (λb u nb e=>S3 _ _ (O2 b u nb e)) (nD D nd) e3) (λv s' ⟨y,H',J,r,qq⟩=>⟨y,H',J.unpinned,r,qq⟩) λ_ _ z=>z
 have g1:=(I'.pin (h'.objs.size,fo) (by simp)).1
 have g2:=(I'.pin (c',oc) (by simp)).1
 rw[<- ef] at g1
 have hl:[d.2].length=N.length:=hN.symm
 refine gn (eJ (a06 (k:=j) (E:=λ_ _ _=>False) (Q:=λv H4=>v=.int d.1/\Same H3 H4) hr.in1.in1 I'.env0.in1.in1 g1 ⟨c',oc,vs,t,rfl,g2,hdc,hvc⟩ S (hb _ _ _ _ u) hl (.cons ru .nil) λhr'=>?_) λr s'' hq=>?_)
 .refine⟨_,(ar6 n _ _ (af2 S hv T hr')).1 lb (λ_ _ _=>False) (λ_ _ _ _ _ _ _ h=>h.elim),?_⟩
  rw[rd]
  exact hk d hd H3 (λb u nb e=>S' _ _ (O2 b u nb e))
 .cases r with
  |error e=>exact cb hq
  |ok fl=>
   cases fl with
   |ret u=>exact I'.after hq
   |next=>exact cb hq
   |brk=>exact cb hq
   |cont=>exact cb hq
end
theorem a92 {P:ba}{w:bL}{K:ac}{mg:Str->Option Value}{base:Heap}{x qual:Str}{st:Stmt}{f:Addr}{fd:bo}{dV:Value}{a lb:Expr}{da dl:DE}{p kp lpos pos rp:Pos}{c Pt bm:Addr}{lp:Arguments}{ls:Scope}{N ps N':List Str}{j m n:Nat}{gb gb':List (Str×GB)}{bl:List Str}{sp:Sp}(F:FunD K x qual st f fd dV)(S:Cl N ps (Ak st))(hv:Mm N (Ak st)=true)(T:Tab P w K mg base (j+3) gb bl)(T':Tab P w K mg base j gb' bl)(hst:A3 st=[.Return (some (.Call (.Name "sorted" p) [a] [⟨some "key", .Lambda lp lb ls lpos,kp⟩] pos)) rp])(hg:(Ak st).names.lookup ("sorted" : Str)=some .globalImplicit)(hm:mg "sorted"=none)(hs:noStar a=true)(hcode:fd.code=.ref c)(hd:dJ K c Pt=true)(hbm:mg "__builtins__"=some (.ref bm))(hcl:∀env,j4 ls env=pure [])(hdf:∀env,defaultsOf lp env=([],[]))(S':Cl N' N' ls)(hv':Mm N' ls=true)(hN:N'.length=1)(hb:∀(q:Str)(pm cd ct:Value)(u:Value),iq (kh "<lambda>" q lp lb ls [] pm cd ct) ⟨[u],[]⟩=pure (N'.zip [u]))(rd:wE n (Jl K N' ls gb' bl) lb=dl)(ra:wE m (Jl K N (Ak st) gb bl) a=da)(len:∀vs H Q E,sp vs H Q E->vs.length=ps.length)(hsp:∀(vs:List V)(H:Hp)(Q:VK)(E:XK),sp vs H Q E->a32 K Pt bm N' dl da (Cp N vs) H Q (λ_ _=>False)):FnOk P w K mg base CX0 (j+4) f fd ps sp:=by
 obtain⟨oc,od,kV,doc,pm,an,θ,ct,osl,rfl,lk,hcd⟩:=F.ex
 obtain rfl:θ=.ref c:=hcode
 refine ae7 (k:=j+3) lk hcd S len λA outer s H vs Q E hr hq=>?_
 have O:=af2 (qual:=qual) (f:=f) (θ:=.ref c) (A:=A) (outer:=outer) (s:=s) (H:=H) (E:=E) S hv T hr
 have ha:=(ar6 m _ _ O).1 a
 rw[ra] at ha
 have h:=Sk (al5 (pos:=rp) (az7 (X:=(Gb CX0 P w K mg base N qual (Ak st) f (.ref c) A outer s H E).nox) (p:=p) (kp:=kp) (lpos:=lpos) (pos:=pos) (bm:=bm) rfl hg hm ha hs hr T' rfl hd hbm (hcl _) (hdf _) S' hv' hN hb rd)) Xe (λ_ _ _=>False) (λ_ _ _ _ _ _ _ h=>h.elim)
 rw[hst]
 exact⟨_,h.nox,hsp vs H Q E hq⟩
noncomputable def ab6(H:Hp)(Pt bm:Addr):Prop:=H Pt=some (.tbl #[])/\∃ob u,H bm=some (.frz ob u)/\ob.cls=.type "module" /\ ob.dict=some jc/\ob.data=.plain
theorem Yo {P:ba}{w:bL}{K:ac}{mg mb:Str->Option Value}{k:Nat}{fa a c Pt bm:Addr}{fd:bo}{x:Str}{sp:Sp}{s₁:av}{vs:List Value}{ns:List Int}{ob:Obj}(KX:K.In s₁.heap)(hns:s₁.heap.Ns mainGlobals mg)(hb:s₁.heap.Ns jc mb)(hbb:∀x:Str,x ≠ "__name__" -> mb x=cW x)(htk:Wn K s₁.toks)(hlim:s₁.heap.NoLimit)(hg:s₁.gens = #[])(ha:s₁.heap.get? a=some { cls:=.type "list", data:=.seq vs.toArray })(hi:jm vs ns)(hl:ns.length<=sizeLine)(hr:Room k lZ)(F:∀base:Heap,K.In base->base.Ns mainGlobals mg->FnOk P w K mg base CX0 k fa fd [x] sp)(hbind:∀(s:av)(u:Value),lh s fd ⟨[u],[]⟩ [(x,u)])(hP:s₁.heap.get? Pt=some (fW #[]))(hT:isCodeTable s₁.heap Pt)(hB:s₁.heap.get? bm=some ob)(b1:ob.cls=.type "module")(b2:ob.dict=some jc)(b3:ob.data=.plain)(kP:K.lookup Pt=none)(kB:K.lookup bm=none)(kA:K.lookup a=none)(hsp:∀H:Hp,ab6 H Pt bm->SqL K H a (ns.map V.int)->sp [.ref a] H (λv _=>v=.bl true) λ_ _ _=>False) :
  gH (model P w) lZ (.call (.ref fa) ⟨[.ref a],[]⟩) (λr s'=>r=.ok (.ret (.bool true))/\OldK s₁.heap s'.heap/\s'.os=s₁.os/\jK s'.gens) s₁:=by
 have rv:=Oo hi
 have n1:Pt≠a:=λz=>by rw[z,ha] at hP;cases hP
 have n2:bm≠a:=λz=>by
  rw[z,ha] at hB
  cases hB
  have b1:gm "list"=gm "module" := b1
  injection b1 with b1
  exact absurd b1 (by decide)
 have n3:bm≠Pt:=λz=>by rw[z,hP] at hB;cases hB;cases b1
 let H:Hp:=λb=>if b=a then some (.frz { cls:=.type "list", data:=.seq vs.toArray } (.lst (ns.map V.int))) else if b=Pt then some (.tbl #[]) else if b=bm then some (.frz ob (.ext λ_=>True)) else none
 have eA:H a=some (.frz { cls:=.type "list", data:=.seq vs.toArray } (.lst (ns.map V.int))):=if_pos rfl
 have eP:H Pt=some (.tbl #[]):=by show (if _ then _ else _)=_;rw[if_neg n1,if_pos rfl]
 have eB:H bm=some (.frz ob (.ext λ_=>True)):=by show (if _ then _ else _)=_;rw[if_neg n2,if_neg n3,if_pos rfl]
 have only:∀b u,H b=some u->(b=a/\u=.frz { cls:=.type "list", data:=.seq vs.toArray } (.lst (ns.map V.int)))\/(b=Pt/\u=.tbl #[])\/(b=bm/\u=.frz ob (.ext λ_=>True)):=λb u e=>by
  by_cases z:b=a
  .rw[z,eA] at e;exact .inl ⟨z,(aG e).symm⟩
  by_cases z2:b=Pt
  .rw[z2,eP] at e;exact .inr (.inl ⟨z2,(aG e).symm⟩)
  by_cases z3:b=bm
  .rw[z3,eB] at e;exact .inr (.inr ⟨z3,(aG e).symm⟩)
  have e:(if b=a then _ else if b=Pt then _ else if b=bm then _ else none)=some u:=e
  rw[if_neg z,if_neg z2,if_neg z3] at e
  cases e
 have hok:HOk P w H s₁.heap:=λb u e=>by
  rcases only b u e with ⟨rfl,rfl⟩|⟨rfl,rfl⟩|⟨rfl,rfl⟩
  .exact⟨ha,by rw[ae];exact hl,vs,_,rv,ha⟩
  .exact hP
  .exact⟨hB,trivial,⟨ob,hB⟩,λ_ _ _ _=>trivial⟩
 have base_of:∀ {b:Addr} {o:Obj},s₁.heap.get? b=some o->H b=none->(Pm s₁.heap H).get? b=some o:=λe n=>af3 e n
 have noA:∀ {b:Addr} {o:Obj} {es:Array gv} {ep:Nat},s₁.heap.get? b=some o->o.data=.dict es ep->H b=none:=λ{b o es ep} e d=>by
  cases q:H b with
  |none=>rfl
  |some u=>
   rcases only b u q with ⟨rfl,_⟩|⟨rfl,_⟩|⟨rfl,_⟩
   .rw[ha] at e;cases e;cases d
   .rw[hP] at e;cases e;cases d
   .rw[hB] at e;cases e;rw[b3] at d;cases d
 have nsK:∀ {b:Addr} {m:Str->Option Value},s₁.heap.Ns b m->(Pm s₁.heap H).Ns b m:=λ{b m} ⟨o,es,ep,e,d,r⟩=>⟨o,es,ep,base_of e (noA e d),d,r⟩
 have hKb:K.In (Pm s₁.heap H):=λb o e=>base_of (KX b o e) (by
  cases q:H b with
  |none=>rfl
  |some u=>
   rcases only b u q with ⟨rfl,_⟩|⟨rfl,_⟩|⟨rfl,_⟩
   .rw[kA] at e;cases e
   .rw[kP] at e;cases e
   .rw[kB] at e;cases e)
 have hM:Mod K mg (Pm s₁.heap H):=⟨hKb,nsK hns,⟨mb,nsK hb,hbb⟩,let ⟨mc,h1,h2⟩:=hlim;⟨mc,nsK h1,h2⟩⟩
 have e0:Env0 P w K mg (Pm s₁.heap H) lZ [] s₁ H:=⟨rfl,hM,λb o e=>aw8 e,Nat.le_of_eq (Yi _ _),trivial,λb hb=>absurd (show b∈([]:List Addr) from hb) (by simp),hok,.of_eq hg,htk⟩
 refine eJ ((F _ hKb (nsK hns)).run lZ [] s₁ H ⟨[.ref a],[]⟩ [.ref a] [.ref a] _ _ hr e0 (hbind s₁ (.ref a)) (.cons rfl .nil) (hsp H ⟨eP,ob,_,eB,b1,b2,b3⟩ (.inl (.inr ⟨_,eA⟩)))) λr s' h=>?_
 cases r with
 |error e=>exact cb h
 |ok fl=>
  cases fl with
  |next=>exact cb h
  |brk=>exact cb h
  |cont=>exact cb h
  |ret u=>
   obtain⟨v,H',os,bare,un,hok',r',q⟩:=h
   have q':v=.bl true:=q
   subst q'
   obtain rfl:u=lj true:=r'
   have keep:∀b o,b≠Pt->s₁.heap.get? b=some o->s'.heap.get? b=some o:=λb o nb e=>by
    cases q:H b with
    |none=>exact un.keep b o e q (by intro z;exact absurd (show b∈([]:List Addr) from z) (by simp)) (by simp)
    |some u=>
     have fz:∀ {o':Obj} {u':HO},H b=some (.frz o' u')->s'.heap.get? b=some o:=λz=>by
      have z2:=un.frzs b _ _ z
      obtain⟨e1,_⟩:=hok b _ z
      obtain⟨e2,_⟩:=hok' b _ z2
      rw[e] at e1;cases e1
      exact e2
     rcases only b u q with ⟨rfl,rfl⟩|⟨rfl,_⟩|⟨rfl,rfl⟩
     .exact fz eA
     .exact absurd rfl nb
     .exact fz eB
   obtain⟨more,hm⟩:=un.tbls Pt #[] eP
   have gP:s'.heap.get? Pt=some (fW (#[]++more)):=hok' Pt _ hm
   refine⟨rfl,⟨λb o e=>?_,λb o e=>?_⟩,os.1,bare⟩
   .by_cases z:b=Pt
    .subst z
     rw[hP] at e
     cases e
     exact .inr (.inl ⟨hT,rfl,#[],#[]++more,rfl,by rw[Array.empty_append];exact gP⟩)
    .exact .inl (keep b o z e)
   .by_cases z:b=Pt
    .exact⟨_,z▸gP⟩
    .exact⟨o,keep b o z e⟩
theorem walk_ofT {l:jU}{n k:Nat}{q:ba}{loose:List Str}{XP:(Str->Option Value)->Heap->Prop}{YP:bL->Heap->Prop}{d:DefRec}{K:Params->ac}{sp:bL->Sp}{x:Str}{Pt bm:Addr}(hT:∀(w:bL)(m:Nat),Wn (K w.params) m)(hn:l.most=some n)(hn2:n<=sizeLine)(hdf:d.params.defaults=[])(hr:Room k lZ)(hY:∀(w:bL)(h:Heap),YP w h->(K w.params).In h/\h.get? Pt=some (fW #[]))(hK:∀w:bL,(∃c,dJ (K w.params) c Pt=true)/\(K w.params).lookup Pt=none/\(K w.params).lookup bm=none/\bT (K w.params) mainGlobals "__builtins__"=some (some (.ref bm))/\((K w.params).all λp=>!(p.2.cls==gm "list"))=true)(F:∀(w:bL)(mg:Str->Option Value)(fa:Addr)(h:Heap),(K w.params).In h->h.Ns mainGlobals mg->mg d.name=some (.ref fa) ->
   ∃fd:bo,(∀(s:av)(u:Value),lh s fd ⟨[u],[]⟩ [(x,u)])/\∀base:Heap,(K w.params).In base->base.Ns mainGlobals mg->FnOk l.prog w (K w.params) mg base CX0 k fa fd [x] (sp w))(hsp:∀(w:bL)(H:Hp)(a:Addr)(ns:List Int),ns.length<=n->ab6 H Pt bm->SqL (K w.params) H a (ns.map V.int)->sp w [.ref a] H (λv _=>v=.bl true) λ_ _ _=>False) :
  PySem.W.WalkO q loose XP YP l.row.toRowW d [] (λf vs=>PySem.call f vs):=by
 refine Att.attach_call hn hdf λw s₀ s₁ mg mb fa o pm cd doc a vs ns G Y ho hd hcd hmg hobj hints hlen hg=>?_
 obtain⟨KX,hP⟩:=hY w _ Y
 obtain⟨⟨c,k1⟩,k2,k3,k4,k5⟩:=hK w
 obtain⟨fd,hb,hF⟩:=F w mg fa _ KX G.T.g hmg
 obtain⟨bm',ob,c1,c2,c3,c4,c5,c6⟩:=G.T.bmain
 have eb:bm'=bm:=by
  have:=fL KX G.T.g k4
  rw[c1] at this
  injection this with this
  injection this
 subst eb
 have kA:(K w.params).lookup a=none:=by
  cases e:(K w.params).lookup a with
  |none=>rfl
  |some o=>
   have:=KX a o e
   rw[hobj] at this
   cases this
   have:=List.all_eq_true.mp k5 _ (PySem.W.mem_of_lookupK e)
   simp at this
 exact Yo (c:=c) KX G.T.g G.T.b G.T.builtins (hT _ _) G.T.nolimit hg hobj hints (a9 hlen hn2) hr hF hb hP (((kE KX k1).tab hP).isCodeTable) c3 c4 c5 c6 k2 k3 kA λH h1 h2=>hsp w H a ns hlen h1 h2
theorem Same.upd(h:H a=none):Same H (upd H a o):=λb u e=>by rw[Ad (Ai e h)];exact e
theorem Same.set(s:Same H H')(h:H a=none):Same H (L2.upd H' a o):=λb u e=>by rw[Ad (Ai e h)];exact s b u e
theorem Same.seqT {K:ac}{H H':Hp}{a:Addr}{xs:List V}(e:Same H H')(h:SqT K H a xs):SqT K H' a xs:=by
 rcases h with (h|⟨o,h⟩)|h
 .exact .inl (.inl (e _ _ h))
 .exact .inl (.inr ⟨o,e _ _ h⟩)
 .exact .inr h
structure Ct (J:It) (χ:List V) (ok:Hp->Prop):Prop where
 go:∀i H,ok H->i<χ.length->J.go i H
 stop:∀H,ok H->J.stop χ.length H
 yld:∀i H x H',ok H->i<χ.length->J.yld i H x H'->H'=H/\χ[i]?=some x
structure J0 (J:It) (χ:List (V×V)) (ok:Hp->Prop):Prop where
 go:∀i H,ok H->i<χ.length->J.go i H
 stop:∀H,ok H->J.stop χ.length H
 yld:∀i H v H',ok H->i<χ.length->J.yld i H v H' -> ∃T x y,H T=none/\v=.ref T/\χ[i]?=some (x,y)/\H'=upd H T (.tup [x,y])
noncomputable def Fk(z:Str):List V:=z.cps.toList.map λc=>V.str ⟨#[c]⟩
theorem bn5(z:Str):Ct (Its z) (Fk z) (λ_=>True):=by
 have e:(Fk z).length=z.cps.size:=by unfold Fk;simp
 refine⟨λi H _ h=>?_,λH _=>?_,λi H x H' _ _ h=>?_⟩
 .show i<z.cps.size;omega
 .show (Fk z).length=z.cps.size;exact e
 .obtain⟨h1,c,h2,h3⟩:=h
  refine⟨h1,?_⟩
  unfold Fk
  rw[al,g_,h2,h3]
  rfl
theorem A5 {K:ac}{a:Addr}(xs:List V):Ct (Itl K a) xs (λH=>SqL K H a xs):=by
 refine⟨λi H q h=>⟨xs,xs[i],q,by simp[h]⟩,λH q=>⟨xs,q,ag _⟩,λi H x H' q _ h=>?_⟩
 obtain⟨h1,h2⟩:=h
 exact⟨h1,h2 xs q⟩
theorem ar9 {K:ac}{a:Addr}(xs:List V):Ct (Itt K a) xs (λH=>SqT K H a xs):=by
 refine⟨λi H q h=>⟨xs,xs[i],q,by simp[h]⟩,λH q=>⟨xs,q,ag _⟩,λi H x H' q _ h=>?_⟩
 obtain⟨h1,h2⟩:=h
 exact⟨h1,h2 xs q⟩
noncomputable def Vf(lo:Int)(n:Nat):List V:=(ay n).map λ(i:Nat)=>V.int (lo+(i:Int))
theorem A0(lo:Int)(n:Nat):(Vf lo n).length=n:=by unfold Vf;simp
theorem Sr {lo:Int}{n i:Nat}(h:i<n):(Vf lo n)[i]?=some (.int (lo+(i:Int))):=by unfold Vf;simp[h]
theorem Bo(lo:Int)(n:Nat):Ct (Itr lo n) (Vf lo n) (λ_=>True):=by
 refine⟨λi H _ h=>?_,λH _=>?_,λi H x H' _ hi h=>?_⟩
 .rw[A0] at h;exact h
 .show n<=(Vf lo n).length;rw[A0];exact ag _
 .obtain⟨h1,h2⟩:=h
  rw[A0] at hi
  exact⟨h1,by rw[Sr hi,h2]⟩
noncomputable def D6:Nat->List V->List (V×V)
 |_,[]=>[]
 |k,x::r=>(.int k,x)::D6 (k+1) r
theorem Bj:∀(k:Nat)(xs:List V),(D6 k xs).length=xs.length
 |_,[]=>rfl
 |k,_::r=>by rw[D6,aN,aN,Bj (k+1) r]
theorem Cv:∀ {k i:Nat} {xs:List V} {x:V},xs[i]?=some x->(D6 k xs)[i]?=some (.int ((k+i:Nat):Int),x)
 |_,_,[],_,h=>by simp at h
 | k,0,y::r,x,h=>by
  simp only[eQ,gX] at h
  subst h
  rfl
 | k,i+1,y::r,x,h=>by
  rw[bI] at h
  rw[D6,bI,Cv h]
  congr 4
  omega
theorem Ey {K:ac}{a:Addr}(xs:List V):J0 (Ite K a) (D6 0 xs) (λH=>SqL K H a xs):=by
 have e:=Bj 0 xs
 refine⟨λi H q h=>⟨xs,xs[i]'(by omega),q,by simp⟩,λH q=>⟨xs,q,by omega⟩,λi H v H' q _ h=>?_⟩
 obtain⟨T,x,hT,h1,h2,h4⟩:=h
 refine⟨T,.int i,x,hT,h1,?_,h4⟩
 have:=Cv (k:=0) (h2 xs q)
 rw[cT] at this
 exact this
section
theorem Bc(Y:Ct J χ ok)(Pv:Nat->St->Hp->Prop)(h0:Pv 0 U H)(hok:∀i U H,i<=χ.length->Pv i U H->ok H)(hs:∀i x U H,χ[i]?=some x->Pv i U H->g x U H λU2 H2=>tb (D.lp (Pv (i+1))) U2 H2)(hd:∀U H,Pv χ.length U H->D.nx U H):Gx J g tb D U H:=by
 refine⟨λi m U H=>m=χ.length - i/\i<=χ.length/\Pv i U H,⟨χ.length,by simp,bC _,h0⟩,?_⟩
 rintro i m U H ⟨rfl,hi,p⟩
 by_cases hlt:i<χ.length
 .refine .inr ⟨Y.go i H (hok i U H hi p) hlt,Pv (i+1),λU' H' p'=>⟨χ.length - (i+1),by omega,rfl,hlt,p'⟩,λx H' y=>?_⟩
  obtain⟨e,y2⟩:=Y.yld i H x H' (hok i U H hi p) hlt y
  subst e
  exact hs i x U _ y2 p
 .have e:i=χ.length:=by omega
  subst e
  exact .inl ⟨Y.stop H (hok _ U H hi p),hd U H p⟩
theorem J8 {χ:List (V×V)}(Y:J0 J χ ok)(Pv:Nat->St->Hp->Prop)(h0:Pv 0 U H)(hok:∀i U H,i<=χ.length->Pv i U H->ok H)(hs:∀i x y T U H,χ[i]?=some (x,y)->H T=none->Pv i U H->g (.ref T) U (upd H T (.tup [x,y])) λU2 H2=>tb (D.lp (Pv (i+1))) U2 H2)(hd:∀U H,Pv χ.length U H->D.nx U H):Gx J g tb D U H:=by
 refine⟨λi m U H=>m=χ.length - i/\i<=χ.length/\Pv i U H,⟨χ.length,by simp,bC _,h0⟩,?_⟩
 rintro i m U H ⟨rfl,hi,p⟩
 by_cases hlt:i<χ.length
 .refine .inr ⟨Y.go i H (hok i U H hi p) hlt,Pv (i+1),λU' H' p'=>⟨χ.length - (i+1),by omega,rfl,hlt,p'⟩,λx H' y=>?_⟩
  obtain⟨T,u,v,hT,e1,e2,e3⟩:=Y.yld i H x H' (hok i U H hi p) hlt y
  subst e1 e3
  exact hs i u v T U _ e2 hT p
 .have e:i=χ.length:=by omega
  subst e
  exact .inl ⟨Y.stop H (hok _ U H hi p),hd U H p⟩
theorem C7(Y:Ct J χ ok)(Pv:Nat->St->Hp->Prop)(h0:Pv 0 U H)(hok:∀i U H,i<=χ.length->Pv i U H->ok H)(hs:∀i x U H,χ[i]?=some x->Pv i U H->g x U H λU3 H3=>tc U3 H3 (λb H4=>if b=true then te U3 H4 (λv H5=>∃ys,H5 L=some (.lst ys)/\ys.length<sizeLine/\Pv (i+1) U3 (upd H5 L (.lst (ys++[v])))) E else Pv (i+1) U3 H4) E)(hd:∀U H,Pv χ.length U H->R H):Dx J g tc te L R U H E:=by
 refine⟨λi m U H=>m=χ.length - i/\i<=χ.length/\Pv i U H,⟨χ.length,by simp,bC _,h0⟩,?_⟩
 rintro i m U H ⟨rfl,hi,p⟩
 by_cases hlt:i<χ.length
 .refine .inr ⟨Y.go i H (hok i U H hi p) hlt,Pv (i+1),λU' H' p'=>⟨χ.length - (i+1),by omega,rfl,hlt,p'⟩,λx H' y=>?_⟩
  obtain⟨e,y2⟩:=Y.yld i H x H' (hok i U H hi p) hlt y
  subst e
  exact hs i x U _ y2 p
 .have e:i=χ.length:=by omega
  subst e
  exact .inl ⟨Y.stop H (hok _ U H hi p),hd U H p⟩
theorem J2 {χ:List (V×V)}(Y:J0 J χ ok)(Pv:Nat->St->Hp->Prop)(h0:Pv 0 U H)(hok:∀i U H,i<=χ.length->Pv i U H->ok H)(hs:∀i x y T U H,χ[i]?=some (x,y)->H T=none->Pv i U H->g (.ref T) U (upd H T (.tup [x,y])) λU3 H3=>tc U3 H3 (λb H4=>if b=true then te U3 H4 (λv H5=>∃ys,H5 L=some (.lst ys)/\ys.length<sizeLine/\Pv (i+1) U3 (upd H5 L (.lst (ys++[v])))) E else Pv (i+1) U3 H4) E)(hd:∀U H,Pv χ.length U H->R H):Dx J g tc te L R U H E:=by
 refine⟨λi m U H=>m=χ.length - i/\i<=χ.length/\Pv i U H,⟨χ.length,by simp,bC _,h0⟩,?_⟩
 rintro i m U H ⟨rfl,hi,p⟩
 by_cases hlt:i<χ.length
 .refine .inr ⟨Y.go i H (hok i U H hi p) hlt,Pv (i+1),λU' H' p'=>⟨χ.length - (i+1),by omega,rfl,hlt,p'⟩,λx H' y=>?_⟩
  obtain⟨T,u,v,hT,e1,e2,e3⟩:=Y.yld i H x H' (hok i U H hi p) hlt y
  subst e1 e3
  exact hs i u v T U _ e2 hT p
 .have e:i=χ.length:=by omega
  subst e
  exact .inl ⟨Y.stop H (hok _ U H hi p),hd U H p⟩
theorem E1 {α β:Type}{χ:List α}{i:Nat}{x:α}(h:χ[i]?=some x)(p:α->Bool)(f:α->β):((χ.take (i+1)).filter p).map f=((χ.take i).filter p).map f++(if p x=true then [f x] else []):=by
 rw[aR,h]
 simp only[cQ,c8,ar]
 congr 1
 cases e:p x <;> simp[e]
theorem Pa(Y:Ct J χ ok)(Sg:St->Prop)(p:V->Bool)(f:V->V)(h0:H L=none)(hok:∀H1,Same H H1->ok H1)(hn:χ.length<sizeLine)(hU:Sg U)(hs:∀x U H1,x∈χ->Sg U->Same H H1 -> ∀(Fin:V->St->Hp->Prop)(Skip:St->Hp->Prop),(∀v U3 H5,Sg U3->Same H1 H5->p x=true->v=f x->Fin v U3 H5)->(∀U3 H4,Sg U3->Same H1 H4->p x=false->Skip U3 H4) ->
   g x U H1 λU3 H3=>tc U3 H3 (λb H4=>if b=true then te U3 H4 (λv H5=>Fin v U3 H5) E else Skip U3 H4) E)(hd:∀H',Same H H'->H' L=some (.lst ((χ.filter p).map f))->R H'):Dx J g tc te L R U (upd H L (.lst [])) E:=by
 refine C7 Y (λi U' H'=>Sg U'/\Same H H'/\H' L=some (.lst (((χ.take i).filter p).map f))) ⟨hU,Same.upd h0,Ab⟩ (λi U' H' _ q=>hok H' q.2.1) ?_ ?_
 .rintro i x U' H' hx ⟨q1,q2,q3⟩
  have hi:i<χ.length:=(List.getElem?_eq_some_iff.mp hx).1
  refine hs x U' H' (ak hx) q1 q2 (λv U3 H5=>∃ys,H5 L=some (.lst ys)/\ys.length<sizeLine/\Sg U3/\Same H (upd H5 L (.lst (ys++[v])))/\upd H5 L (.lst (ys++[v])) L=some (.lst (((χ.take (i+1)).filter p).map f)))
   (λU3 H4=>Sg U3/\Same H H4/\H4 L=some (.lst (((χ.take (i+1)).filter p).map f))) (λv U3 H5 s1 s2 hp hv=>?_) (λU3 H4 s1 s2 hp=>?_)
  .refine⟨_,s2 _ _ q3,?_,s1,(q2.trans s2).set h0,?_⟩
   .rw[ae]
    have h1:=cI p (χ.take i)
    have h2:(χ.take i).length<=i:=by rw[aC];omega
    omega
   .rw[Ab,E1 hx,if_pos hp,hv]
  .refine⟨s1,q2.trans s2,?_⟩
   rw[s2 _ _ q3,E1 hx,if_neg (by rw[hp];exact au),bS]
 .rintro U' H' ⟨_,q2,q3⟩
  rw[aA] at q3
  exact hd H' q2 q3
end
section
variable {K:ac} {H H':Hp}
theorem Same.seqL(e:Same H H')(h:SqL K H a xs):SqL K H' a xs:=by
 rcases h with (h|⟨o,h⟩)|h
 .exact .inl (.inl (e _ _ h))
 .exact .inl (.inr ⟨o,e _ _ h⟩)
 .exact .inr h
theorem ab7(Y:Ct J χ ok)(Sg:St->Prop)(hD:H D=none)(hok:∀H1,Same H H1->ok H1)(hn:χ.length<sizeLine)(hU:Sg U)(hS:∀U x,Sg U->Sg (U.set 0 (some x)))(he:∀x U H1 Q1,x∈χ->Sg U->Same H H1->(∀H2,Same H1 H2->Q1 (.bl true) H2)->te (U.set 0 (some x)) H1 Q1 E)(k:∀H',Same H H'->SqL K H' D ((χ.map λ_=>true).map V.bl)->R H') :
  Dx J (gdN 0) B6 te D R U (upd H D (.lst [])) E:=by
 refine Pa Y Sg (λ_=>true) (λ_=>.bl true) hD hok hn hU ?_ ?_
 .intro x U H1 hx hs S Fin Skip hF hK
  exact he x U H1 _ hx hs S λH2 S2=>hF _ _ _ (hS _ _ hs) S2 rfl rfl
 .intro H' S hD'
  exact k H' S (SqL.of (hD'.trans (by rw[List.filter_eq_self.mpr (λ_ _=>rfl),aw];rfl)))
theorem Ws(χ:List V):((χ.map λ_=>true).all λb=>b)=true:=by rw[hJ,bn];exact λ_ _=>rfl
end
end L2
namespace L2
open PySem PySem.Spec PySem.W
structure XC (K:ac) (C:Addr) (bm:List Value):Prop where
 lk:∃nm q N bs sn sub ab col dd k0 k1 k2 k3 k5,K.lookup C=some (g6 nm q C N bs bm true sn sub ab col dd k0 k1 k2 k3 k5 "ValueError.__new__")
 ty:typeIn K (.ref C)=some (.type "type")
 sa:findIn K (.ref C) "__setattr__"=some (some (.builtin "object.__setattr__"))
 ga:findIn K (.ref C) "__getattribute__"=some (some (.builtin "BaseException.__getattribute__"))
 gt:findIn K (.ref C) "__getattr__"=some none
 ca:findIn K (.ref C) "__class__"=some (some (.builtin "object.__class__"))
 hn:specialIn K (.builtin "object.__class__") "__get__"=some (some (.builtin "getset_descriptor.__get__"))
 htk:takesIn K (.builtin "object.__class__")=some true
theorem xc_mk {K:ac}{C N:Addr}{bm bs:List Value}{nm q:Str}{sn:List Str}{sub:List Value}{ab:Bool}{col:Option Bool}{dd:Option Addr}{k0 k1 k2 k3 k5:Option Value}(lk:K.lookup C=some (g6 nm q C N bs bm true sn sub ab col dd k0 k1 k2 k3 k5 "ValueError.__new__"))(ty:typeIn K (.ref C)=some (.type "type"))(sa:findIn K (.ref C) "__setattr__"=some (some (.builtin "object.__setattr__")))(ga:findIn K (.ref C) "__getattribute__"=some (some (.builtin "BaseException.__getattribute__")))(gt:findIn K (.ref C) "__getattr__"=some none)(ca:findIn K (.ref C) "__class__"=some (some (.builtin "object.__class__")))(hn:specialIn K (.builtin "object.__class__") "__get__"=some (some (.builtin "getset_descriptor.__get__")))(htk:takesIn K (.builtin "object.__class__")=some true):XC K C bm:=⟨⟨_,_,_,_,_,_,_,_,_,_,_,_,_,_,lk⟩,ty,sa,ga,gt,ca,hn,htk⟩
theorem XC.ecls(x:XC K C bm)(h:A8 bm=true):ECls K C:=by
 obtain⟨nm,q,N,bs,sn,sub,ab,col,dd,k0,k1,k2,k3,k5,lk⟩:=x.lk
 exact⟨⟨_,_,_,_,bm,true,_,_,_,_,_,_,_,_,_,_,lk,h,rfl⟩,x.sa,x.ga,x.gt,x.ca,x.hn,x.htk⟩
theorem XC.cls(x:XC K C bm):∃cd,l6 K C=some cd/\cd.mro=.ref C::bm:=by
 obtain⟨nm,q,N,bs,sn,sub,ab,col,dd,k0,k1,k2,k3,k5,lk⟩:=x.lk
 exact⟨_,by unfold l6;rw[lk],rfl⟩
theorem XC.kit(x:XC K C bm)(y:XC K D bd)(h:(aV C::bm).contains (.ref D)=b):kitOne K (.ref C) (.ref D)=some b:=by
 obtain⟨cd,h1,h2⟩:=x.cls
 obtain⟨cd',h3,_⟩:=y.cls
 unfold kitOne
 by_cases e:(aV C==aV D)=true
 .rw[if_pos e]
  have e':aV D=aV C:=(cf e).symm
  rw[<- h,cD,e']
  simp
 .rw[if_neg e]
  unfold kitCls
  dsimp only
  rw[h3,y.ty,if_pos (by rfl)]
  show mroIn K C (.ref D)=_
  unfold mroIn
  rw[h1,fb,h2,h]
  rfl
theorem Ja(m:Nat)(hd:fd.defaults=.ref T)(ho:K.lookup T=some o)(hs:o.data=.seq ψ n)(hm:m+ds.length=ps.length)(h:∀us:List Value,us.length=m -> ∃k:Option (Array Value)->Sem (List (Str×Value)),iq fd ⟨us,[]⟩=seqItems? fd.defaults >>= k/\k (some ψ)=pure (ps.zip (us++ds))):Binds K fd ps ds:=
 Tp hd ho hs λus hl=>h us (by rw[aU] at hl;omega)
end L2
namespace L2
open PySem PySem.Spec PyProof.Rows
open Sem (wp)
section
theorem ai8(X:Cx):Iy (CXE X.prog X.w) X:=by
 intro Ex m ξ U H s e s' I h
 obtain⟨a,H',rfl,os,bare,u,hok,F,a',e',hE⟩:=h
 cases e'
 have I':=I.call' os u hok bare (λb z=>absurd z (by simp))
 obtain⟨C,dx,vs,T,oT,ts,h1,h2,h3,h4,h5,h6,h7,h8,h9,h10⟩:=F
 exact m ξ U H' s' a I' ⟨C,dx,vs,h1,h2,h3,.inr ⟨T,oT,ts,h4,h5,h6,h7,⟨_,h8⟩,I.fpOk h9 h10⟩⟩ hE
end
section
variable {P:ba} {w:bL} {K:ac} {mg:Str->Option Value} {base:Heap}
theorem Yr :
  Meets (Gb (CXE P w) P w K mg base N qual scope f θ A outer s H E) (λ_ a H'=>E (.ref a) none H'):=by
 intro ξ U H1 s1 a I F hE
 refine af (W4 (X:=Gb (CXE P w) P w K mg base N qual scope f θ A outer s H E) I rfl rfl F λs' I' F'=>?_)
 obtain⟨C,dx,vs,T,oT,ts,h1,h2,h3,q1,q2,q3,q4,q5,q6⟩:=F'
 exact⟨a,H1,rfl,I'.os,I'.bare,I'.base,I'.hok,⟨C,dx,vs,T,oT,ts,h1,h2,h3,q1,q2,q3,q4,q5,q6.2.2.2.1.elim (λz=>absurd z (by simp[Gb])) id,q6.1⟩,hE⟩
noncomputable def ae0(Q:VK)(E:XK):Outs:=⟨λ_ H'=>Q .non H',Q,λ_ _=>False,λ_ _=>False,λ_ a H'=>E (.ref a) none H'⟩
theorem FunD.okWX {x qual:Str}{st:Stmt}{f:Addr}{fd:bo}{N ps:List Str}{k n:Nat}{sp:Sp}{gb:List (Str×GB)}{bl:List Str}{t:DS}{dV:Value}(F:FunD K x qual st f fd dV)(S:Cl N ps (Ak st))(hv:Mm N (Ak st)=true)(T:Tab P w K mg base k gb bl)(rd:wSs n (Jl K N (Ak st) gb bl) (A3 st)=t)(len:∀vs H Q E,sp vs H Q E->vs.length=ps.length)(hbody:∀(vs:List V)(H:Hp)(Q:VK)(E:XK),sp vs H Q E->t (ae0 Q E) (Cp N vs) H):FnOk P w K mg base (CXE P w) (k+1) f fd ps sp:=by
 obtain⟨oc,od,kV,doc,pm,an,θ,ct,osl,rfl,lk,hcd⟩:=F.ex
 refine ae7 lk hcd S len λA outer s H vs Q E hr h=>?_
 have O:GOk (Gb (CXE P w) P w K mg base N qual (Ak st) f θ A outer s H E) (Jl K N (Ak st) gb bl):=by
  refine⟨rfl,S.kind,(λ_=>PassesOwn.leaving),rfl,S.nd,λx=>rfl,λx hx=>?_,λ_ _=>rfl,rfl,(λ_=>hr.hd),hr.units,λx hx=>?_,λx g e=>?_,λx hx=>?_,(λ_=>⟨rfl,rfl⟩),⟨_,_,_,rfl,rfl,rfl⟩⟩
  .have:=List.all_eq_true.mp hv x hx
   rw[cM] at this
   exact this.elim (λz=>.inl (cf z)) λz=>.inr (.inl (cf z))
  .rcases hx with hx|hx
   .exact E5 hx
   .exact absurd rfl (S.nofree _ (bU hx))
  .exact (T.all x g e).there hr
  .exact T.bl x (by have hx':bl.contains x=true:=hx;simpa using hx')
 refine⟨_,(a54 n _ _ O).2 (A3 st) (λ_ a H'=>E (.ref a) none H') Yr,?_⟩
 rw[rd]
 exact hbody vs H Q E h
end
end L2
namespace Pn
open PySem L2
noncomputable abbrev Sw:=List (Str×List Str)
noncomputable def Kk(c:Nat):Bool:=decide (97<=c)&&decide (c<=122)
noncomputable def okW(z:Str):Prop:=1<=z.length/\z.length<=8/\z.cps.toList.all Kk=true
noncomputable def okL(l:List Str):Prop:=(∀z∈l,okW z)/\l.Nodup/\l.length<=8
noncomputable def F9(l:List Str):Prop:=okL l/\2<=l.length/\l.length<=4
noncomputable def B5(sw:Sw):Nat:=sw.foldl (λn x=>n * x.2.length) 1
noncomputable def okSw(sw:Sw):Prop:=1<=sw.length/\sw.length<=5/\(sw.map (·.1)).Nodup/\(∀x∈sw,okW x.1/\F9 x.2)/\B5 sw<=256
noncomputable def Eg(acc:List (List Str))(x:Str×List Str):List (List Str):=acc.flatMap λa=>x.2.map λz=>a++[z]
noncomputable def Al(sw:Sw):List (List Str):=sw.foldl Eg [[]]
noncomputable def Zf(ns:List Nat):Int:=ns.foldl (λ(c:Int) n=>cN c (2 ^ n)) 0
noncomputable def Gr(ms:List Int):Int:=ms.foldl (λc m=>cN c m) 0
noncomputable def Dj(p:Nat)(z:Str):Nat->List (List Str)->List Nat
 |_,[]=>[]
 |k,r::rs=>if r[p]?=some z then k::Dj p z (k+1) rs else Dj p z (k+1) rs
noncomputable def Eb(rows:List (List Str))(p:Nat)(z:Str):Int:=Zf (Dj p z 0 rows)
noncomputable def Gf(sw:Sw)(w:Str):Nat:=sw.findIdx λx=>decide (x.1=w)
noncomputable def Jj(sw:Sw)(e:Str×List Str):Int:=Gr (e.2.map (Eb (Al sw) (Gf sw e.1)))
noncomputable def Ov(sw:Sw):Int:=2 ^ (Al sw).length - 1
noncomputable def ac3(sw:Sw)(rule:Sw):Int:=rule.foldl (λc e=>cu c (Jj sw e)) (Ov sw)
noncomputable def Iz(sw:Sw)(ζ:List Sw):List Int:=ζ.map (ac3 sw)
noncomputable def K7(sw:Sw)(ζ:List Sw):Int:=cu (Ov sw) (ck (Gr (Iz sw ζ)))
noncomputable def Ik(sw:Sw)(e:Str×List Str):Prop:=e.2≠[]/\okL e.2/\∃x∈sw,x.1=e.1/\∀z∈e.2,z∈x.2
noncomputable def Et(sw:Sw)(rule:Sw):Prop:=rule≠[]/\rule.length<=100/\(rule.map (·.1)).Nodup/\∀e∈rule,Ik sw e
theorem Om(acc:List (List Str))(x:Str×List Str):(Eg acc x).length=acc.length * x.2.length:=by
 unfold Eg
 induction acc with
 |nil=>simp
 |cons a acc ih=>rw[i5,aU,ih,ae,aN,Nat.add_mul,Nat.one_mul,lF]
theorem Hg:∀(sw:Sw)(acc:List (List Str)),(sw.foldl Eg acc).length=sw.foldl (λn x=>n * x.2.length) acc.length
 |[],_=>rfl
 |x::sw,acc=>by rw[bZ,bZ,Hg sw,Om]
theorem Hd(sw:Sw):(Al sw).length=B5 sw:=Hg sw [[]]
noncomputable def Ls(k:Nat)(rs:List (List Str)):Prop:=rs.Nodup/\(∀r∈rs,r.length=k)/\∀r∈rs,∀z∈r,okW z
theorem aq1(h:Ls k acc)(hx:F9 x.2):Ls (k+1) (Eg acc x):=by
 obtain⟨h1,h2,h3⟩:=h
 refine⟨?_,?_,?_⟩
 .unfold Eg
  clear h3
  induction acc with
  |nil=>exact iQ
  |cons a acc ih=>
   rw[i5,d6]
   rw[cP] at h1
   refine⟨?_,ih h1.2 (λr hr=>h2 r (ax _ hr)),?_⟩
   .refine fH _ ?_ hx.1.2.1
    intro y z ne e
    exact ne (by simpa using e)
   .intro r hr q hq e
    subst e
    obtain⟨y,hy,rfl⟩:=List.mem_map.mp hr
    obtain⟨b,hb,hq⟩:=List.mem_flatMap.mp hq
    obtain⟨z,hz,e⟩:=List.mem_map.mp hq
    have:b=a/\z=y:=by simpa using e
    rw[this.1] at hb
    exact h1.1 hb
 .intro r hr
  obtain⟨b,hb,hq⟩:=List.mem_flatMap.mp hr
  obtain⟨z,hz,rfl⟩:=List.mem_map.mp hq
  rw[aU,h2 b hb]
  rfl
 .intro r hr y hy
  obtain⟨b,hb,hq⟩:=List.mem_flatMap.mp hr
  obtain⟨z,hz,rfl⟩:=List.mem_map.mp hq
  rcases List.mem_append.mp hy with hy|hy
  .exact h3 b hb y hy
  .have:y=z:=by simpa using hy
   subst this
   exact hx.1.1 _ hz
theorem Ji:∀ {sw:Sw} {k:Nat} {acc:List (List Str)},Ls k acc->(∀x∈sw,F9 x.2)->Ls (k+sw.length) (sw.foldl Eg acc)
 |[],_,_,h,_=>h
 | x::sw,k,acc,h,hs=>by
  have:=Ji (aq1 h (hs x (aJ))) (λy hy=>hs y (ax _ hy))
  rw[bZ,aN,show k+(sw.length+1)=k+1+sw.length by omega]
  exact this
theorem Hh(h:∀x∈sw,F9 x.2):Ls sw.length (Al sw):=by
 have:=Ji (sw:=sw) (k:=0) (acc:=[[]]) ⟨by simp,by simp,by simp⟩ h
 rwa[cT] at this
theorem C3:∀ {sw:Sw} {n:Nat},1<=n->(∀x∈sw,F9 x.2)->n<=sw.foldl (λn x=>n * x.2.length) n
 |[],n,_,_=>ag _
 | x::sw,n,h,hs=>by
  rw[bZ]
  have h2:2<=x.2.length:=(hs x aJ).2.1
  have:n<=n * x.2.length:=Nat.le_mul_of_pos_right _ (by omega)
  exact a9 this (C3 (by omega) (λy hy=>hs y (ax _ hy)))
theorem okSw.sets(h:okSw sw):∀x∈sw,F9 x.2:=λx hx=>(h.2.2.2.1 x hx).2
theorem okSw.len(h:okSw sw):(Al sw).length<=256:=by rw[Hd];exact h.2.2.2.2
theorem okSw.pos(h:okSw sw):1<=(Al sw).length:=by rw[Hd];exact C3 (ag 1) h.sets
theorem Y5(h:okSw sw)(i:Nat):B5 (sw.take i)<=B5 sw:=by
 conv=>rhs;rw[<- List.take_append_drop i sw]
 unfold B5
 rw[fJ]
 exact C3 (C3 (ag 1) λx hx=>h.sets x (dW hx)) λx hx=>h.sets x (List.mem_of_mem_drop hx)
theorem Cd {α β:Type}{l:List α}{i:Nat}{x:α}(h:l[i]?=some x)(f:β->α->β)(b:β):(l.take (i+1)).foldl f b=f ((l.take i).foldl f b) x:=by
 rw[aR,h,cQ,fJ]
 rfl
theorem Bl {α β:Type}{l:List α}{i:Nat}{x:α}(h:l[i]?=some x)(f:α->β):(l.take (i+1)).map f=(l.take i).map f++[f x]:=by
 rw[aR,h,cQ,ar]
 rfl
noncomputable abbrev Own(ok:Addr->Prop)(H:Hp)(a:Addr)(o:HO):Prop:=ok a/\H a=some o
noncomputable abbrev Kp(ok:Addr->Prop)(H:Hp)(ok':Addr->Prop)(H':Hp):Prop:=∀a o,Own ok H a o->Own ok' H' a o
noncomputable abbrev fresh(H:Hp):Addr->Prop:=λa=>H a=none
noncomputable abbrev any:Addr->Prop:=λ_=>True
theorem Kp.same(S:Same H H'):Kp ok H ok H':=λa o h=>⟨h.1,S _ _ h.2⟩
theorem Kp.any:Kp ok H Pn.any H:=λa o h=>⟨trivial,h.2⟩
theorem Kp.weak(h:∀a,ok a->ok' a):Kp ok H ok' H:=λa o q=>⟨h a q.1,q.2⟩
theorem Kp.trans(h:Kp ok1 H1 ok2 H2)(g:Kp ok2 H2 ok3 H3):Kp ok1 H1 ok3 H3:=λa o q=>g a o (h a o q)
theorem Zd(S:Same H H')(h:H' a=none):H a=none:=by
 cases e:H a with
 |none=>rfl
 |some o=>rw[S _ _ e] at h;cases h
theorem Kp.fresh(S:Same H1 H2):Kp (fresh H2) H (Pn.fresh H1) H:=Kp.weak λa h=>Zd S h
theorem Kp.off(h:¬ ok p):Kp ok H ok (upd H p o):=λa u q=>⟨q.1,by
 have n:a≠p:=λe=>h (by rw[<- e];exact q.1)
 rw[Ad n];exact q.2⟩
noncomputable abbrev kR(x:(Str×List Str)×Addr):Key×V:=(.inr x.1.1,.ref x.2)
noncomputable abbrev Dc(r:List Str):HO:=.tup (r.map V.str)
noncomputable abbrev Bb(r:List Str):HO:=.lst (r.map V.str)
noncomputable def SwAt(ok:Addr->Prop)(H:Hp)(d:Addr)(sw:Sw):Prop:=∃ds:List ((Str×List Str)×Addr),ds.map (·.1)=sw/\Own ok H d (.dK (ds.map kR))/\∀x∈ds,Own ok H x.2 (Dc x.1.2)
noncomputable def RuleAt(ok:Addr->Prop)(H:Hp)(d:Addr)(sw:Sw):Prop:=∃ds:List ((Str×List Str)×Addr),ds.map (·.1)=sw/\Own ok H d (.dK (ds.map kR))/\∀x∈ds,Own ok H x.2 (Bb x.1.2)
noncomputable def TupsAt(ok:Addr->Prop)(H:Hp)(l:Addr)(rows:List (List Str)):Prop:=∃ds:List (List Str×Addr),ds.map (·.1)=rows/\Own ok H l (.lst (ds.map λx=>.ref x.2))/\∀x∈ds,Own ok H x.2 (Dc x.1)
noncomputable def SwIn(ok:Addr->Prop)(H:Hp)(l:Addr)(sw:Sw):Prop:=∃ds:List (((Str×List Str)×Addr)×Addr),ds.map (·.1.1)=sw/\Own ok H l (.lst (ds.map λx=>.ref x.2))/\∀x∈ds,Own ok H x.2 (.tup [.str x.1.1.1,.ref x.1.2])/\Own ok H x.1.2 (Bb x.1.1.2)
noncomputable def Mu(r:List Str):TK:=.tup (r.map λz=>.at_ (.inr z))
noncomputable def Lr(k:Nat):List (List Str)->List (TK×V)
 |[]=>[]
 |r::rs=>(Mu r,.int (k:Int))::Lr (k+1) rs
noncomputable def NumAt(ok:Addr->Prop)(H:Hp)(n:Addr)(rows:List (List Str)):Prop:=Own ok H n (.dT (Lr 0 rows))
noncomputable def Vg(rows:List (List Str))(i:Nat)(l:List Str):HO:=.dK (l.map λz=>(.inr z,.int (Eb rows i z)))
noncomputable def SetsAt(ok:Addr->Prop)(H:Hp)(d:Addr)(sw:Sw):Prop:=∃ds:List ((Str×List Str)×Addr),ds.map (·.1)=sw/\Own ok H d (.dK (ds.map kR))/\∀i x,ds[i]?=some x->Own ok H x.2 (Vg (Al sw) i x.1.2)
noncomputable def RulesAt(ok:Addr->Prop)(H:Hp)(k:Addr)(ζ:List Sw):Prop:=∃ds:List (Sw×Addr),ds.map (·.1)=ζ/\Own ok H k (.lst (ds.map λx=>.ref x.2))/\∀x∈ds,RuleAt ok H x.2 x.1
section
theorem SwAt.mono(h:SwAt ok H d sw)(k:Kp ok H ok' H'):SwAt ok' H' d sw:=by
 obtain⟨ds,e,o,q⟩:=h;exact⟨ds,e,k _ _ o,λx hx=>k _ _ (q x hx)⟩
theorem RuleAt.mono(h:RuleAt ok H d sw)(k:Kp ok H ok' H'):RuleAt ok' H' d sw:=by
 obtain⟨ds,e,o,q⟩:=h;exact⟨ds,e,k _ _ o,λx hx=>k _ _ (q x hx)⟩
theorem TupsAt.mono(h:TupsAt ok H d rows)(k:Kp ok H ok' H'):TupsAt ok' H' d rows:=by
 obtain⟨ds,e,o,q⟩:=h;exact⟨ds,e,k _ _ o,λx hx=>k _ _ (q x hx)⟩
theorem SwIn.mono(h:SwIn ok H d sw)(k:Kp ok H ok' H'):SwIn ok' H' d sw:=by
 obtain⟨ds,e,o,q⟩:=h;exact⟨ds,e,k _ _ o,λx hx=>⟨k _ _ (q x hx).1,k _ _ (q x hx).2⟩⟩
theorem SetsAt.mono(h:SetsAt ok H d sw)(k:Kp ok H ok' H'):SetsAt ok' H' d sw:=by
 obtain⟨ds,e,o,q⟩:=h;exact⟨ds,e,k _ _ o,λi x hx=>k _ _ (q i x hx)⟩
theorem RulesAt.mono(h:RulesAt ok H d ζ)(k:Kp ok H ok' H'):RulesAt ok' H' d ζ:=by
 obtain⟨ds,e,o,q⟩:=h;exact⟨ds,e,k _ _ o,λx hx=>(q x hx).mono k⟩
theorem NumAt.mono(h:NumAt ok H d rows)(k:Kp ok H ok' H'):NumAt ok' H' d rows:=k _ _ h
end
noncomputable def bp6(d l n s k b:Addr)(f:Int):List (Str×V):=[("settings", .ref d),("tuples", .ref l),("numbers", .ref n),("sets", .ref s),("kept_rules", .ref k),("bars", .ref b),("free", .int f)]
structure bo0 (C:Addr) (ok:Addr->Prop) (H:Hp) (p:Addr) (sw:Sw) (ζ:List Sw) (dx d l n s k b:Addr):Prop where
 ins:Own ok H p (.ins C dx (bp6 d l n s k b (K7 sw ζ)))
 sws:SwAt ok H d sw
 tps:TupsAt ok H l (Al sw)
 nms:NumAt ok H n (Al sw)
 sts:SetsAt ok H s sw
 rls:RulesAt ok H k ζ
 brs:Own ok H b (.lst ((Iz sw ζ).map V.int))
noncomputable def PanelAt(C:Addr)(ok:Addr->Prop)(H:Hp)(p:Addr)(sw:Sw)(ζ:List Sw):Prop:=∃dx d l n s k b,bo0 C ok H p sw ζ dx d l n s k b
theorem PanelAt.mono(h:PanelAt C ok H p sw ζ)(k:Kp ok H ok' H'):PanelAt C ok' H' p sw ζ:=by
 obtain⟨dx,d,l,n,s,kk,b,h⟩:=h
 exact⟨dx,d,l,n,s,kk,b,⟨k _ _ h.ins,h.sws.mono k,h.tps.mono k,h.nms.mono k,h.sts.mono k,h.rls.mono k,k _ _ h.brs⟩⟩
noncomputable def SelfAt(C:Addr)(ok:Addr->Prop)(H:Hp)(p l s:Addr):Prop:=∃dx fs,Own ok H p (.ins C dx fs)/\fs.lookup ("tuples" : Str)=some (.ref l)/\fs.lookup ("sets" : Str)=some (.ref s)/\∀m∈(["all_choices", "box", "many", "term", "read_rule", "read_rules"]:List Str),fs.lookup m=none
theorem SelfAt.mono(h:SelfAt C ok H p l s)(k:Kp ok H ok' H'):SelfAt C ok' H' p l s:=by
 obtain⟨dx,fs,o,q⟩:=h;exact⟨dx,fs,k _ _ o,q⟩
theorem Ew(kvs:List (Key×V)):Ct (Itd p o kvs) (kvs.map λkv=>kV kv.1) (λH=>H p=some (.frz o (.dK kvs))):=by
 refine⟨λi H q h=>⟨q,by simpa using h⟩,λH q=>⟨q,by simp⟩,λi H x H' q hi h=>?_⟩
 obtain⟨h1,k,v,h2,h3⟩:=h
 refine⟨h1,?_⟩
 rw[al,h2,h3]
 rfl
theorem ar8(kvs:List (Key×V)):J0 (ab3 p o kvs) (D6 0 (kvs.map λkv=>kV kv.1)) (λH=>H p=some (.frz o (.dK kvs))):=by
 have e:(D6 0 (kvs.map λkv=>kV kv.1)).length=kvs.length:=by rw[Bj];simp
 refine⟨λi H q h=>⟨q,by omega⟩,λH q=>⟨q,by omega⟩,λi H x H' q hi h=>?_⟩
 obtain⟨T,k,v,hT,h1,h2,h3⟩:=h
 refine⟨T,.int i,kV k,hT,h1,?_,h3⟩
 have:=Cv (k:=0) (xs:=kvs.map λkv=>kV kv.1) (i:=i) (x:=kV k) (by rw[al,h2];rfl)
 rw[cT] at this
 exact this
theorem Same.thaw(h:H p=some (.dK kvs))(S:Same (upd H p (.frz o (.dK kvs))) H'):Same H (upd H' p (.dK kvs)):=by
 intro b u e
 by_cases hb:b=p
 .subst hb;rw[Ab,<- h,e]
 .rw[Ad hb];exact S _ _ (by rw[Ad hb];exact e)
theorem Fx(h:H d=some u):¬ Pn.fresh H d:=λe=>by
 have e:H d=none:=e
 rw[h] at e
 cases e
theorem F8 {A B:Prop}(e:b=false)(h:B):if b=true then A else B:=by subst e;exact av5 h
theorem N4 {A B:Prop}(e:b=true)(h:A):if b=true then A else B:=by subst e;exact Yl h
theorem Am {α β:Type}{l:List α}{f:α->β}{i:Nat}{x:β}(h:(l.map f)[i]?=some x):∃m,l[i]?=some m/\x=f m:=by
 rw[al] at h
 cases e:l[i]? with
 |none=>rw[e] at h;cases h
 |some m=>rw[e] at h;exact⟨m,rfl,by simpa using h.symm⟩
theorem Aj {α:Type}{l:List α}{i:Nat}{x:α}(h:l[i]?=some x):i<l.length:=(List.getElem?_eq_some_iff.mp h).1
theorem Cw {n i:Nat}{x:V}(h:(Vf 0 n)[i]?=some x):i<n/\x=.int (i:Int):=by
 have hi:=Aj h
 rw[A0] at hi
 rw[Sr hi] at h
 refine⟨hi,?_⟩
 have:V.int (0+(i:Int))=x:=by simpa using h
 rw[<- this,Int.zero_add]
theorem Hj(z:Str):z.cps.toList.length=z.length:=by simp[Str.length]
theorem ai5(a c:Nat):decide ([c]<[a])=decide (c<a):=by
 rw[bO,decide_eq_true_iff,decide_eq_true_iff,List.cons_lt_cons_iff]
 simp
theorem leL {s:Str}{a c:Nat}(h:s.cps.toList=[a]):(!decide ((⟨#[c]⟩:Str).cps.toList<s.cps.toList))=decide (a<=c):=by
 rw[h]
 show (!decide ([c]<[a]))=_
 rw[ai5,<- decide_not]
 exact decide_eq_decide.mpr Nat.not_lt
theorem leR {s:Str}{a c:Nat}(h:s.cps.toList=[a]):(!decide (s.cps.toList<(⟨#[c]⟩:Str).cps.toList))=decide (c<=a):=by
 rw[h]
 show (!decide ([a]<[c]))=_
 rw[ai5,<- decide_not]
 exact decide_eq_decide.mpr Nat.not_lt
theorem X9 {s1 s2:Str}{a b c:Nat}{Q:VK}{H:Hp}(h1:s1.cps.toList=[a])(h2:s2.cps.toList=[b])(k:Q (.bl (decide (a<=c)&&decide (c<=b))) H) :
  if (!decide ((⟨#[c]⟩:Str).cps.toList<s1.cps.toList))=true then Q (.bl (!decide (s2.cps.toList<(⟨#[c]⟩:Str).cps.toList))) H else Q (.bl false) H:=by
 rw[leL h1,leR h2]
 cases e:decide (a<=c) with
 |true=>rw[e,jj] at k;exact Yl k
 |false=>rw[e,kg] at k;exact av5 k
theorem Nn {a b c:Int}{Q:VK}{H:Hp}(k:Q (.bl (decide (a<=c)&&decide (c<=b))) H):if decide (a<=c)=true then Q (.bl (decide (c<=b))) H else Q (.bl false) H:=by
 cases e:decide (a<=c) with
 |true=>rw[e,jj] at k;exact Yl k
 |false=>rw[e,kg] at k;exact av5 k
theorem au5(h1:s1.cps.toList=[a])(h2:s2.cps.toList=[b])(hv:U[i]?=some (some (.str ⟨#[c]⟩)))(k:Q (.bl (decide (a<=c)&&decide (c<=b))) H) :
  Ek Io Io (dC (.str s1)) (Aa i) (dC (.str s2)) U H Q E:=by
 unfold Ek dC Aa
 rw[hv]
 exact X9 h1 h2 k
theorem X4(hz:z.length<=1000)(he:∀(c:Nat)(U:St)(H1:Hp)(Q1:VK),U.length=1->Q1 (.bl (p c)) H1->te (U.set 0 (some (.str ⟨#[c]⟩))) H1 Q1 E)(k:∀H',Same H H'->Q (.bl (z.cps.toList.all p)) H') :
  ∀D,H D=none->Dx (Its z) (gdN 0) B6 te D (λH'=>Sm K [.ref D] H' Q) (Tx [none] [some (.str z)]) (upd H D (.lst [])) E:=by
 intro D hD
 refine Pa (bn5 z) (λU=>U.length=1) (λ_=>true) (λv=>match v with | .str y=>.bl (p (y.cps.getD 0 0))|_=>.non) hD (λ_ _=>aQ) ?_ rfl ?_ ?_
 .unfold Fk
  rw[ae]
  exact bb (show z.cps.toList.length<=1000 from by have:z.cps.size<=1000:=hz;simpa using this) (by decide)
 .intro x U H1 hx hU S Fin Skip hF hS
  obtain⟨c,hc,rfl⟩:=List.mem_map.mp hx
  refine he c U H1 _ hU ?_
  exact hF _ _ _ (by rw[iA];exact hU) (Same.refl _) rfl rfl
 .intro H' S hD'
  have e:((Fk z).filter λ_=>true).map (λv=>match v with | .str y=>V.bl (p (y.cps.getD 0 0))|_=>.non)=(z.cps.toList.map p).map V.bl:=by
   unfold Fk
   rw[List.filter_eq_self.mpr (λ_ _=>rfl),aw,aw]
   rfl
  refine⟨z.cps.toList.map p,SqL.of (hD'.trans (by rw[e])),?_⟩
  have e2:(z.cps.toList.map p).all (λb=>b)=z.cps.toList.all p:=by rw[hJ];rfl
  rw[e2]
  exact k H' S
theorem Rh {K:ac}{J:It}{χ:List V}{ok:Hp->Prop}{te:DE}{U:St}{H:Hp}{R:Hp->Addr->Prop}{E:EK}(Y:Ct J χ ok)(Sg:St->Prop)(hok:∀H1,Same H H1->ok H1)(hn:χ.length<sizeLine)(hU:Sg U)(hS:∀U x,Sg U->Sg (U.set 0 (some x)))(he:∀x U H1 Q1,x∈χ->Sg U->Same H H1->(∀H2,Same H1 H2->Q1 (.bl true) H2)->te (U.set 0 (some x)) H1 Q1 E)(k:∀D H',Same H H'->SqL K H' D ((χ.map λ_=>true).map V.bl)->R H' D) :
  ∀D,H D=none->Dx J (gdN 0) B6 te D (λH'=>R H' D) U (upd H D (.lst [])) E:=λD hD=>ab7 (K:=K) Y Sg hD hok hn hU hS he (k D)
theorem Rw:∀(xs acc:List Str),(acc++xs).Nodup->xs.foldl (λU k=>if U.any (λj=>decide (j=k)) then U else U++[k]) acc=acc++xs
 |[],acc,_=>by rw[List.foldl_nil,bS]
 | x::xs,acc,h=>by
  have hx:(acc.any λj=>decide (j=x))=false:=by
   rw[i3]
   intro j hj e
   have e:j=x:=by simpa using e
   subst e
   exact (List.nodup_append.mp h).2.2 j hj j aJ rfl
  rw[bZ,hx]
  have h2:(acc++[x]++xs).Nodup:=by simpa using h
  show List.foldl _ (acc++[x]) xs=_
  rw[Rw xs (acc++[x]) h2]
  simp
theorem aw2 {xs:List Str}(h:xs.Nodup):Ec xs=xs:=Rw xs [] (by simpa using h)
theorem Bn {κ:Type} [DecidableEq κ]:∀ {kvs:List (κ×V)} {i:Nat} {k:κ} {v:V},(kvs.map (·.1)).Nodup->kvs[i]?=some (k,v)->Bv kvs k=some v
 |[],_,_,_,_,e=>by simp at e
 | p::r,0,k,v,_,e=>by
  rw[eQ] at e
  cases e
  exact Hs rfl
 | p::r,i+1,k,v,h,e=>by
  rw[bI] at e
  rw[aS,cP] at h
  have ne:¬ p.1=k:=λz=>h.1 (List.mem_map.mpr ⟨(k,v),ak e,z.symm⟩)
  rw[Fq ne]
  exact Bn h.2 e
theorem B4 {κ:Type} [DecidableEq κ]:∀ {kvs:List (κ×V)} {k:κ},¬ k∈kvs.map (·.1)->Bv kvs k=none
 |[],_,_=>rfl
 | p::r,k,h=>by
  rw[aS,aO,not_or] at h
  rw[Fq (λe=>h.1 e.symm)]
  exact B4 h.2
theorem Ij {l:List Str}(h:l.Nodup):(l.map (ie:Str->Key)).Nodup:=fH _ (λa b ne e=>ne (by injection e)) h
theorem Ki(ds:List ((Str×List Str)×Addr)):(ds.map kR).map (·.1)=((ds.map (·.1)).map (·.1)).map (ie:Str->Key):=by simp[aw]
theorem Eo {ds:List ((Str×List Str)×Addr)}{sw:Sw}(e:ds.map (·.1)=sw)(h:(sw.map (·.1)).Nodup):((ds.map kR).map (·.1)).Nodup:=by
 rw[Ki,e]
 exact Ij h
theorem Dy(x y:Nat):cN (x:Int) (y:Int)=((x ||| y:Nat):Int):=by
 unfold cN
 have hx:¬ (0:Int)<=ck (x:Int):=by unfold ck;omega
 have hy:¬ (0:Int)<=ck (y:Int):=by unfold ck;omega
 rw[PyProof.Rows.bitAnd_nn hx hy]
 have e:∀z:Nat,(ck (ck (z:Int)))=(z:Int):=λz=>by unfold ck;omega
 rw[e,e,e,aY,aY]
theorem Ej(x y:Nat):cu (x:Int) (y:Int)=((x &&& y:Nat):Int):=by
 rw[PyProof.Rows.bitAnd_pp (by omega) (by omega),aY,aY]
theorem Dm(n:Nat):(2:Int) ^ n=((2 ^ n:Nat):Int):=by simp
noncomputable def Jp(ns:List Nat):Nat:=ns.foldl (λc n=>c ||| 2 ^ n) 0
theorem Su:∀(ns:List Nat)(c:Nat),ns.foldl (λ(c:Int) n=>cN c (2 ^ n)) (c:Int)=((ns.foldl (λc n=>c ||| 2 ^ n) c:Nat):Int)
 |[],c=>rfl
 |n::ns,c=>by rw[bZ,bZ,Dm,Dy,Su ns]
theorem am8(ns:List Nat):Zf ns=(Jp ns:Nat):=Su ns 0
theorem Sv:∀(ns:List Nat)(c k:Nat),(ns.foldl (λc n=>c ||| 2 ^ n) c).testBit k=(c.testBit k||decide (k∈ns))
 |[],c,k=>by simp
 | n::ns,c,k=>by
  rw[bZ,Sv ns,fc,ce,Bool.or_assoc]
  congr 1
  rw[bO,cM,decide_eq_true_iff,decide_eq_true_iff,decide_eq_true_iff,aO]
  exact or_congr ⟨Eq.symm,Eq.symm⟩ Iff.rfl
theorem Ly(ns:List Nat)(k:Nat):(Jp ns).testBit k=decide (k∈ns):=by
 unfold Jp
 rw[Sv,fY,ji]
noncomputable def Dw(ms:List Nat):Nat:=ms.foldl (λc m=>c ||| m) 0
theorem Mj:∀(ms:List Nat)(c:Nat),(ms.map λm:Nat=>(m:Int)).foldl (λc m=>cN c m) (c:Int)=((ms.foldl (λc m=>c ||| m) c:Nat):Int)
 |[],c=>rfl
 |n::ns,c=>by rw[aS,bZ,bZ,Dy,Mj ns]
theorem Gs(ms:List Nat):Gr (ms.map λm:Nat=>(m:Int))=(Dw ms:Nat):=Mj ms 0
theorem Ml:∀(ms:List Nat)(c k:Nat),(ms.foldl (λc m=>c ||| m) c).testBit k=(c.testBit k||ms.any λm=>m.testBit k)
 |[],c,k=>by simp
 |n::ns,c,k=>by rw[bZ,Ml ns,fc,gx,Bool.or_assoc]
theorem Gu(ms:List Nat)(k:Nat):(Dw ms).testBit k=ms.any λm=>m.testBit k:=by
 unfold Dw
 rw[Ml,fY,ji]
noncomputable def Ui(rows:List (List Str))(p:Nat)(z:Str)(k:Nat):Bool:=decide ((rows[k]?.bind λr=>r[p]?)=some z)
theorem W0(p:Nat)(z:Str):∀(rows:List (List Str))(j n:Nat),n∈Dj p z j rows ↔ j<=n/\(rows[n - j]?.bind λr=>r[p]?)=some z
 |[],j,n=>by simp[Dj]
 | r::rows,j,n=>by
  have ih:=W0 p z rows (j+1) n
  have e:∀b,(n=j/\b)\/(j+1<=n/\(rows[n - (j+1)]?.bind λr=>r[p]?)=some z) ↔ j<=n/\((n=j/\b)\/(n≠j/\(rows[n - (j+1)]?.bind λr=>r[p]?)=some z)):=λb=>by
   constructor
   .rintro (⟨h1,h2⟩|⟨h1,h2⟩)
    .exact⟨by omega,.inl ⟨h1,h2⟩⟩
    .exact⟨by omega,.inr ⟨by omega,h2⟩⟩
   .rintro⟨h0,⟨h1,h2⟩|⟨h1,h2⟩⟩
    .exact .inl ⟨h1,h2⟩
    .exact .inr ⟨by omega,h2⟩
  have g:j<=n->(((r::rows)[n - j]?.bind λr=>r[p]?)=some z ↔ ((n=j/\r[p]?=some z)\/(n≠j/\(rows[n - (j+1)]?.bind λr=>r[p]?)=some z))):=λh=>by
   by_cases hn:n=j
   .subst hn
    simp
   .have e2:n - j=(n - (j+1))+1:=by omega
    rw[e2,bI]
    simp[hn]
  rw[Dj]
  by_cases hr:r[p]?=some z
  .rw[if_pos hr,aO,ih]
   have:=e (r[p]?=some z)
   constructor
   .intro h
    have h2:=this.mp (h.imp (λx=>⟨x,hr⟩) id)
    exact⟨h2.1,(g h2.1).mpr h2.2⟩
   .rintro⟨h1,h2⟩
    exact (this.mpr ⟨h1,(g h1).mp h2⟩).imp (λx=>x.1) id
  .rw[if_neg hr,ih]
   have:=e (r[p]?=some z)
   constructor
   .intro h
    have h2:=this.mp (.inr h)
    exact⟨h2.1,(g h2.1).mpr h2.2⟩
   .rintro⟨h1,h2⟩
    rcases this.mpr ⟨h1,(g h1).mp h2⟩ with h|h
    .exact absurd h.2 hr
    .exact h
noncomputable def W3(rows:List (List Str))(p:Nat)(z:Str):Nat:=Jp (Dj p z 0 rows)
theorem Yp(rows:List (List Str))(p:Nat)(z:Str):Eb rows p z=(W3 rows p z:Nat):=am8 _
theorem Yq(rows:List (List Str))(p:Nat)(z:Str)(k:Nat):(W3 rows p z).testBit k=Ui rows p z k:=by
 unfold W3 Ui
 rw[Ly]
 refine decide_eq_decide.mpr ?_
 rw[W0]
 simp
noncomputable def Mh(sw:Sw)(e:Str×List Str):Nat:=Dw (e.2.map (W3 (Al sw) (Gf sw e.1)))
theorem Zk(sw:Sw)(e:Str×List Str):Jj sw e=(Mh sw e:Nat):=by
 unfold Jj Mh
 rw[<- Gs,aw]
 congr 1
 exact bu λz _=>Yp _ _ _
theorem Zl(sw:Sw)(e:Str×List Str)(k:Nat):(Mh sw e).testBit k=e.2.any λz=>Ui (Al sw) (Gf sw e.1) z k:=by
 unfold Mh
 rw[Gu,lE]
 congr 1
 funext z
 exact Yq _ _ _ _
noncomputable def Rf(sw:Sw):Nat:=2 ^ (Al sw).length - 1
theorem Re(sw:Sw):Ov sw=(Rf sw:Nat):=by
 unfold Ov Rf
 rw[Dm]
 have:0<2 ^ (Al sw).length:=Nat.two_pow_pos _
 omega
theorem Rg(sw:Sw)(k:Nat):(Rf sw).testBit k=decide (k<(Al sw).length):=by
 unfold Rf
 rw[Nat.testBit_two_pow_sub_one]
noncomputable def Fy(sw:Sw)(rule:Sw):Nat:=rule.foldl (λc e=>c &&& Mh sw e) (Rf sw)
theorem Rj(sw:Sw):∀(rule:Sw)(c:Nat),rule.foldl (λc e=>cu c (Jj sw e)) (c:Int)=((rule.foldl (λc e=>c &&& Mh sw e) c:Nat):Int)
 |[],c=>rfl
 |e::rule,c=>by rw[bZ,bZ,Zk,Ej,Rj sw rule]
theorem ac4(sw rule:Sw):ac3 sw rule=(Fy sw rule:Nat):=by
 unfold ac3 Fy
 rw[Re,Rj]
theorem Rk(sw:Sw):∀(rule:Sw)(c k:Nat),(rule.foldl (λc e=>c &&& Mh sw e) c).testBit k=(c.testBit k&&rule.all λe=>e.2.any λz=>Ui (Al sw) (Gf sw e.1) z k)
 |[],c,k=>by simp
 |e::rule,c,k=>by rw[bZ,Rk sw rule,fE,Zl,bR,Bool.and_assoc]
theorem ac5(sw rule:Sw)(k:Nat):(Fy sw rule).testBit k=(decide (k<(Al sw).length)&&rule.all λe=>e.2.any λz=>Ui (Al sw) (Gf sw e.1) z k):=by
 unfold Fy
 rw[Rk,Rg]
noncomputable def D9(sw:Sw)(ζ:List Sw):Nat:=Rf sw - (Rf sw &&& Dw (ζ.map (Fy sw)))
theorem Ib(sw:Sw)(ζ:List Sw):K7 sw ζ=(D9 sw ζ:Nat):=by
 unfold K7 D9 Iz
 have e:ζ.map (ac3 sw)=(ζ.map (Fy sw)).map λm:Nat=>(m:Int):=by
  rw[aw]
  exact bu λr _=>ac4 sw r
 rw[e,Gs,Re,PyProof.Rows.bitAnd_pn (by omega) (by unfold ck;omega),show ck (ck ((Dw (ζ.map (Fy sw)):Nat):Int))=((Dw (ζ.map (Fy sw)):Nat):Int) by unfold ck;omega,aY,aY]
 have:=Nat.and_le_left (n:=Rf sw) (m:=Dw (ζ.map (Fy sw)))
 omega
theorem a16(a b:Nat):a - (a &&& b)=a ^^^ (a &&& b):=by
 have h:(a ^^^ (a &&& b)) &&& (a &&& b)=0:=by
  refine fS λk=>?_
  rw[fE,jR,fE,fY]
  cases a.testBit k <;> cases b.testBit k <;> rfl
 have h2:(a ^^^ (a &&& b)) ||| (a &&& b)=a:=by
  refine fS λk=>?_
  rw[fc,jR,fE]
  cases a.testBit k <;> cases b.testBit k <;> rfl
 have h3:(a ^^^ (a &&& b))+(a &&& b)=(a ^^^ (a &&& b)) ||| (a &&& b):=by
  have e:=PyProof.Rows.bitOr_and ((a ^^^ (a &&& b):Nat):Int) ((a &&& b:Nat):Int)
  rw[Dy,Ej,h] at e
  omega
 omega
theorem Ye(sw:Sw)(ζ:List Sw)(k:Nat):(D9 sw ζ).testBit k=(decide (k<(Al sw).length) && !ζ.any λr=>(Fy sw r).testBit k):=by
 unfold D9
 rw[a16,jR,fE,Rg,Gu,lE]
 show (_ ^^ (_&&ζ.any λr=>(Fy sw r).testBit k))=_
 cases decide (k<(Al sw).length) <;> cases ζ.any (λr=>(Fy sw r).testBit k) <;> rfl
end Pn
namespace L2
open PySem PySem.Spec PyProof.Rows
section
variable {P:ba} {w:bL} {K:ac} {mg:Str->Option Value} {base:Heap} {x q:Str} {st:Stmt} {f:Addr} {d:bo} {ps:List Str}
noncomputable def bn8(K:ac)(x q:Str)(st:Stmt)(f:Addr):Prop:=∃d,Fun K x q st f d
structure bo4 (K:ac) (q:Str) (st:Stmt) (f:Addr):Prop where
 at_:bT K mainGlobals q=some (some (.ref f))
 d:bn8 K q q st f
structure MetD (K:ac) (x q:Str) (st:Stmt) (f:Addr):Prop where
 fn:cU K (.ref f)=true
 d:bn8 K x q st f
theorem top_mk {oc:Value}{od an:Option Addr}{osl:Array (Option Value)}{kV doc pm θ ct:Value}(a:bT K mainGlobals q=some (some (.ref f)))(l:K.lookup f=some ⟨oc,od,.func (cr q q (B0 st) (A3 st) (Ak st) .none kV doc pm an θ ct),osl⟩)(c:dq K θ q=true)(k:bh K (.ref f)=true):bo4 K q st f:=⟨a,_,Pk l c k⟩
theorem met_mk {oc:Value}{od an:Option Addr}{osl:Array (Option Value)}{kV doc pm θ ct:Value}(l:K.lookup f=some ⟨oc,od,.func (cr x q (B0 st) (A3 st) (Ak st) .none kV doc pm an θ ct),osl⟩)(c:dq K θ q=true)(k:bh K (.ref f)=true)(i:cU K (.ref f)=true):MetD K x q st f:=⟨i,_,Pk l c k⟩
structure DOk (K:ac) (mg:Str->Option Value) (q:Str) (st:Stmt) (f:Addr) (d:bo) (ps:List Str):Prop where
 F:FunD K q q st f d .none
 b:Binds K d ps []
 m:mg q=some (.ref f)
structure MOk (K:ac) (x q:Str) (st:Stmt) (f:Addr) (d:bo) (ps:List Str):Prop where
 F:FunD K x q st f d .none
 b:Binds K d ps []
 i:cU K (.ref f)=true
theorem MetD.ok(D:MetD K x q st f)(hb:∀(kV doc pm:Value)(an:Option Addr)(θ ct:Value)(us:List Value),us.length=ps.length->iq (cr x q (B0 st) (A3 st) (Ak st) .none kV doc pm an θ ct) ⟨us,[]⟩=pure (ps.zip us)):∃d,MOk K x q st f d ps:=by
 obtain⟨a,d,F⟩:=D
 exact⟨d,F.toD,F.binds hb,a⟩
theorem br3 {i:FI}(h2:i.ds=[])(b:Binds K i.fd i.ps []):∀j,j<=i.dfs.length->Binds K i.fd i.ps (i.ds.drop j):=λj _=>by
 rw[h2,List.drop_nil];exact b
theorem one(h:MetIn P w K mg base k m ⟨C,i⟩):∀mi∈[(⟨C,i⟩:MI)],MetIn P w K mg base k m mi:=λmi hm=>by
 rw[b9] at hm
 exact hm▸h
end
structure Df where
 x:Str
 q:Str
 st:Stmt
 N:List Str
 np:Nat
 lv:Nat
noncomputable def Df.ps(d:Df):List Str:=d.N.take d.np
noncomputable abbrev Du(D:Df)(f:Addr)(d:bo)(s:Sp):FI:=⟨f,d,D.ps,D.lv,s,[],[]⟩
noncomputable def ScOk(N P:List Str)(sc:Scope):Prop:=(sc.kind=.function/\sc.isCoroutine=false/\sc.isGenerator=false)/\N.Nodup/\N.take P.length=P/\(∀x∈P,sc.names.lookup x=some .local\/sc.names.lookup x=some .cell)/\(∀y∈sc.names,y.2≠.free)/\Mm N sc=true
noncomputable instance (N P:List Str) (sc:Scope):Decidable (ScOk N P sc):=by unfold ScOk;infer_instance
theorem ScOk.fn(h:ScOk N P sc):Cl N P sc:=⟨h.1.1,h.1.2.1,h.1.2.2,h.2.1,h.2.2.1,h.2.2.2.1,h.2.2.2.2.1⟩
structure Ent where
 lv:Nat
 x:Str
 g:GB
noncomputable def gbT(es:List Ent)(n:Nat):List (Str×GB):=es.filterMap λe=>if e.lv<=n then some (e.x,e.g) else none
noncomputable def Gy(P:ba)(w:bL)(K:ac)(mg:Str->Option Value)(base:Heap)(es:List Ent)(bl:List Str)(n:Nat):Prop:=∀m,m<n->Tab P w K mg base m (gbT es m) bl
noncomputable def AllE(P:ba)(w:bL)(K:ac)(mg:Str->Option Value)(base:Heap)(es:List Ent)(bl:List Str):List Ent->Prop
 |[]=>True
 |e::r=>(Gy P w K mg base es bl e.lv->GBIn P w K mg base e.lv e.x e.g)/\AllE P w K mg base es bl r
section
variable {P:ba} {w:bL} {K:ac} {mg:Str->Option Value} {base:Heap} {es:List Ent} {bl:List Str} {f:Nat->Addr} {d:Nat->bo}
theorem AllE.app:∀ {a b:List Ent},AllE P w K mg base es bl a->AllE P w K mg base es bl b->AllE P w K mg base es bl (a++b)
 |[],_,_,h=>h
 |_::_,_,h,g=>⟨h.1,AllE.app h.2 g⟩
theorem AllE.at_:∀ {a:List Ent} {e:Ent},AllE P w K mg base es bl a->e∈a->Gy P w K mg base es bl e.lv->GBIn P w K mg base e.lv e.x e.g
 |[],_,_,he=>by cases he
 | _::_,_,h,he=>by
  rcases List.mem_cons.mp he with rfl|he
  .exact h.1
  .exact AllE.at_ h.2 he
theorem a22(hz:∀x∈bl,mg x=none)(h:AllE P w K mg base es bl es)(n:Nat):Tab P w K mg base n (gbT es n) bl:=by
 induction n using Nat.strongRecOn with
 |ind n ih=>
  refine⟨λx g hx=>?_,hz⟩
  obtain⟨e,he,q⟩:=List.mem_filterMap.mp hx
  split at q
  .rename_i hl
   cases q
   exact (h.at_ he λm hm=>ih m (aP hm hl)).mono hl
  .cases q
noncomputable def OkD(K:ac)(D:Df)(es:List Ent)(bl:List Str)(f:Addr)(d:bo)(s:Sp):Prop:=∀(P:ba)(w:bL)(mg:Str->Option Value)(base:Heap)(dV:Value),FunD K D.x D.q D.st f d dV->Gy P w K mg base es bl D.lv->FnOk P w K mg base CX0 D.lv f d D.ps s
noncomputable def OkG(P:ba)(w:bL)(K:ac)(mg:Str->Option Value)(base:Heap)(D:Df)(es:List Ent)(bl:List Str)(f:Addr)(d:bo)(s:Sp):Prop:=Gy P w K mg base es bl D.lv -> ∃C,(∀X':Cx,X'.prog=P->X'.w=w->Iy C X')/\FnOk P w K mg base C D.lv f d D.ps s
noncomputable def OkX(K:ac)(D:Df)(es:List Ent)(bl:List Str)(f:Addr)(d:bo)(s:Sp):Prop:=∀(P:ba)(w:bL)(mg:Str->Option Value)(base:Heap)(dV:Value),FunD K D.x D.q D.st f d dV->Gy P w K mg base es bl D.lv->FnOk P w K mg base (CXE P w) D.lv f d D.ps s
theorem okD {D:Df}{f:Addr}{d:bo}{s:Sp}{k n:Nat}{t:DS}(hl:D.lv=k+1)(c:ScOk D.N D.ps (Ak D.st))(rd:wSs n (Jl K D.N (Ak D.st) (gbT es k) bl) (A3 D.st)=t)(len:∀vs H Q E,s vs H Q E->vs.length=D.ps.length)(body:∀(vs:List V)(H:Hp)(Q:VK)(E:XK),s vs H Q E->t (T9 Q λ_ _=>False) (Cp D.N vs) H):OkD K D es bl f d s:=λ_ _ _ _ _ F T=>by
 rw[hl] at T ⊢
 exact F.okW0 c.fn c.2.2.2.2.2 (T k (cy k)) rd len body
theorem okX {D:Df}{f:Addr}{d:bo}{s:Sp}{k n:Nat}{t:DS}(hl:D.lv=k+1)(c:ScOk D.N D.ps (Ak D.st))(rd:wSs n (Jl K D.N (Ak D.st) (gbT es k) bl) (A3 D.st)=t)(len:∀vs H Q E,s vs H Q E->vs.length=D.ps.length)(body:∀(vs:List V)(H:Hp)(Q:VK)(E:XK),s vs H Q E->t (ae0 Q E) (Cp D.N vs) H):OkX K D es bl f d s:=λ_ _ _ _ _ F T=>by
 rw[hl] at T ⊢
 exact F.okWX c.fn c.2.2.2.2.2 (T k (cy k)) rd len body
theorem A7 {D:Df}{f:Addr}{d:bo}{s:Sp}(t:DS)(body:∀(vs:List V)(H:Hp)(Q:VK)(E:XK),s vs H Q E->vs.length=D.ps.length/\t (T9 Q λ_ _=>False) (Cp D.N vs) H)(hl:D.lv=D.lv - 1+1:=by rfl)(c:ScOk D.N D.ps (Ak D.st):=by decide +kernel)(rd:wSs 40 (Jl K D.N (Ak D.st) (gbT es (D.lv - 1)) bl) (A3 D.st)=t:=by kernel_rfl):OkD K D es bl f d s:=okD hl c rd (λvs H Q E h=>(body vs H Q E h).1) λvs H Q E h=>(body vs H Q E h).2
theorem aw9 {D:Df}{f:Addr}{d:bo}{s:Sp}(t:DS)(body:∀(vs:List V)(H:Hp)(Q:VK)(E:XK),s vs H Q E->vs.length=D.ps.length/\t (ae0 Q E) (Cp D.N vs) H)(hl:D.lv=D.lv - 1+1:=by rfl)(c:ScOk D.N D.ps (Ak D.st):=by decide +kernel)(rd:wSs 40 (Jl K D.N (Ak D.st) (gbT es (D.lv - 1)) bl) (A3 D.st)=t:=by kernel_rfl):OkX K D es bl f d s:=okX hl c rd (λvs H Q E h=>(body vs H Q E h).1) λvs H Q E h=>(body vs H Q E h).2
noncomputable def BtD(D:Df)(d:bo):Prop:=∀(s:av)(us:List Value),us.length=D.ps.length->lh s d ⟨us,[]⟩ (D.ps.zip us)
noncomputable def AllG(K:ac)(mg:Str->Option Value)(f:Nat->Addr)(d:Nat->bo):Nat->List Df->Prop
 |_,[]=>True
 |k,D::r=>(DOk K mg D.q D.st (f k) (d k) D.ps/\BtD D (d k))/\AllG K mg f d (k+1) r
theorem AllG.get:∀ {L:List Df} {k:Nat} (j:Nat) {D:Df},AllG K mg f d k L->L[j]?=some D->DOk K mg D.q D.st (f (k+j)) (d (k+j)) D.ps/\BtD D (d (k+j))
 |[],_,_,_,_,e=>by simp at e
 |_::_,_,0,_,h,e=>by cases e;exact h.1
 | _::_,k,j+1,_,h,e=>by
  rw[show k+(j+1)=k+1+j by omega]
  exact AllG.get j h.2 e
noncomputable def a56(K:ac):List Df->Prop
 |[]=>True
 |D::r=>(∃a,bo4 K D.q D.st a)/\a56 K r
noncomputable def We(D:Df):Prop:=∀(kV doc pm:Value)(an:Option Addr)(θ ct:Value)(us:List Value),us.length=D.ps.length->iq (cr D.x D.q (B0 D.st) (A3 D.st) (Ak D.st) .none kV doc pm an θ ct) ⟨us,[]⟩=pure (D.ps.zip us)
noncomputable def bn6:List Df->Prop
 |[]=>True
 |D::r=>(D.x=D.q/\We D)/\bn6 r
theorem AllG.congr:∀ {L:List Df} {k:Nat},(∀n,k<=n->f' n=f n/\d' n=d n)->AllG K mg f d k L->AllG K mg f' d' k L
 |[],_,_,_=>aQ
 |_::_,k,e,h=>⟨by rw[(e k (ag _)).1,(e k (ag _)).2];exact h.1,AllG.congr (λn hn=>e n (by omega)) h.2⟩
theorem Wq(d₀:bo)(X:K.In h)(G:h.Ns mainGlobals mg):∀ {L:List Df} (k:Nat),a56 K L->bn6 L -> ∃(f:Nat->Addr)(d:Nat->bo),AllG K mg f d k L
 |[],_,_,_=>⟨λ_=>0,λ_=>d₀,aQ⟩
 | D::r,k,⟨⟨a,q⟩,t⟩,⟨⟨e,b⟩,bs⟩=>by
  obtain⟨f,d,g⟩:=Wq d₀ X G (k+1) t bs
  obtain⟨m,d0,F⟩:=q
  have b:=b
  unfold We at b
  rw[e] at b
  have g0:DOk K mg D.q D.st a d0 D.ps/\BtD D d0:=⟨⟨F.toD,F.binds b,fL X G m⟩,by
   obtain⟨oc,od,kV,doc,pm,an,θ,ct,osl,rfl,_⟩:=F.ex
   exact λs us hl=>.of_eq (b _ _ _ _ _ _ us hl)⟩
  refine⟨λn=>if n=k then a else f n,λn=>if n=k then d0 else d n,⟨?_,?_⟩⟩
  .simp only[if_true];exact g0
  .exact AllG.congr (λn hn=>by rw[if_neg (by omega),if_neg (by omega)];exact⟨rfl,rfl⟩) g
theorem AllG.pre:∀ {a b:List Df} {k:Nat},AllG K mg f d k (a++b)->AllG K mg f d k a
 |[],_,_,_=>aQ
 |_::_,_,_,h=>⟨h.1,AllG.pre h.2⟩
theorem OkD.g(h:OkD K D es bl a fd s)(g:DOk K mg D.q D.st a fd D.ps)(e:D.x=D.q:=by rfl):OkG P w K mg base D es bl a fd s:=λT=>⟨CX0,λX' _ _=>Hc X',h _ _ _ _ _ (by rw[e];exact g.F) T⟩
noncomputable def fnE(f:Nat->Addr)(d:Nat->bo):Nat->List (Df×Sp)->List Ent
 |_,[]=>[]
 |k,p::r=>⟨p.1.lv,p.1.q,.fn (Du p.1 (f k) (d k) p.2)⟩::fnE f d (k+1) r
noncomputable def Zr(P:ba)(w:bL)(K:ac)(mg:Str->Option Value)(base:Heap)(es:List Ent)(bl:List Str)(f:Nat->Addr)(d:Nat->bo):Nat->List (Df×Sp)->Prop
 |_,[]=>True
 |k,p::r=>OkG P w K mg base p.1 es bl (f k) (d k) p.2/\Zr P w K mg base es bl f d (k+1) r
theorem Wp:∀ {L:List (Df×Sp)} {k:Nat},AllG K mg f d k (L.map (·.1))->Zr P w K mg base es bl f d k L->AllE P w K mg base es bl (fnE f d k L)
 |[],_,_,_=>aQ
 |_::_,_,g,o=>⟨λT=>⟨g.1.1.m,g.1.1.F.kp,o.1 T,ag _,br3 rfl g.1.1.b,.nil⟩,Wp g.2 o.2⟩
noncomputable def AllM(K:ac)(c:Addr)(f:Nat->Addr)(d:Nat->bo):Nat->List Df->Prop
 |_,[]=>True
 |k,D::r=>(MOk K D.x D.q D.st (f k) (d k) D.ps/\Q8 K c D.x (f k))/\AllM K c f d (k+1) r
theorem AllM.congr:∀ {L:List Df} {k:Nat},(∀n,k<=n->f' n=f n/\d' n=d n)->AllM K c f d k L->AllM K c f' d' k L
 |[],_,_,_=>aQ
 |_::_,k,e,h=>⟨by rw[(e k (ag _)).1,(e k (ag _)).2];exact h.1,AllM.congr (λn hn=>e n (by omega)) h.2⟩
noncomputable def Q7(K:ac)(c:Addr):List Df->Prop
 |[]=>True
 |D::r=>(∃a,bg K (.ref c) D.x=some (some (.ref a))/\MetD K D.x D.q D.st a)/\Q7 K c r
noncomputable def a27:List Df->Prop
 |[]=>True
 |D::r=>We D/\a27 r
theorem J1(d₀:bo):∀ {L:List Df} (k:Nat),Q7 K c L->a27 L -> ∃(f:Nat->Addr)(d:Nat->bo),AllM K c f d k L
 |[],_,_,_=>⟨λ_=>0,λ_=>d₀,aQ⟩
 | D::r,k,⟨⟨a,i,q⟩,t⟩,⟨b,bs⟩=>by
  obtain⟨f,d,g⟩:=J1 d₀ (k+1) t bs
  obtain⟨d0,g0⟩:=q.ok (ps:=D.ps) b
  refine⟨λn=>if n=k then a else f n,λn=>if n=k then d0 else d n,⟨?_,?_⟩⟩
  .simp only[if_true];exact⟨g0,i,g0.i,g0.F.kp⟩
  .exact AllM.congr (λn hn=>by rw[if_neg (by omega),if_neg (by omega)];exact⟨rfl,rfl⟩) g
noncomputable def AllC(mg:Str->Option Value)(u:Nat->Value):Nat->List (Str×V)->Prop
 |_,[]=>True
 |k,c::r=>(mg c.1=some (u k)/\RelV c.2 (u k))/\AllC mg u (k+1) r
theorem AllC.congr:∀ {L:List (Str×V)} {k:Nat},(∀n,k<=n->u' n=u n)->AllC mg u k L->AllC mg u' k L
 |[],_,_,_=>aQ
 |_::_,k,e,h=>⟨by rw[e k (ag _)];exact h.1,AllC.congr (λn hn=>e n (by omega)) h.2⟩
noncomputable def Zt(K:ac):List (Str×V)->Prop
 |[]=>True
 |(x,v)::r=>(∃u,bT K mainGlobals x=some (some u)/\RelV v u)/\Zt K r
theorem con_mk(a:bT K mainGlobals x=some (some u))(r:RelV v u):∃u,bT K mainGlobals x=some (some u)/\RelV v u:=⟨u,a,r⟩
theorem Wo(X:K.In h)(G:h.Ns mainGlobals mg):∀ {L:List (Str×V)} (k:Nat),Zt K L -> ∃u:Nat->Value,AllC mg u k L
 |[],_,_=>⟨λ_=>.none,aQ⟩
 | c::r,k,⟨⟨v,i,q⟩,t⟩=>by
  obtain⟨u,g⟩:=Wo X G (k+1) t
  refine⟨λn=>if n=k then v else u n,⟨?_,?_⟩⟩
  .simp only[if_true];exact⟨fL X G i,q⟩
  .exact AllC.congr (λn hn=>if_neg (by omega)) g
noncomputable def a81(u:Nat->Value):Nat->List (Str×V)->List Ent
 |_,[]=>[]
 |k,c::r=>⟨0,c.1,.val c.2 (u k)⟩::a81 u (k+1) r
theorem Rb:∀ {L:List (Str×V)} {k:Nat},AllC mg u k L->AllE P w K mg base es bl (a81 u k L)
 |[],_,_=>aQ
 |_::_,_,h=>⟨λ_=>h.1,Rb h.2⟩
noncomputable def a57(K:ac):List Str->Prop
 |[]=>True
 |x::r=>bT K mainGlobals x=some none/\a57 K r
theorem Wr(X:K.In h)(G:h.Ns mainGlobals mg):∀ {L:List Str},a57 K L -> ∀x∈L,mg x=none
 |[],_,_,hx=>by cases hx
 | _::_,z,x,hx=>by
  rcases List.mem_cons.mp hx with rfl|hx
  .exact PySem.W.mg_none_of X G z.1
  .exact Wr X G z.2 x hx
structure Ra (K:ac) (x:Str) (c f:Addr):Prop where
 a:bT K mainGlobals x=some (some (.ref c))
 i:bg K (.ref c) "__init__"=some (some (.ref f))
 kp:bh K (.ref c)=true
 mm:dA K c=true
 cl:Cls K c
theorem own_mk {x:Str}{c f:Addr}(a:bT K mainGlobals x=some (some (.ref c)))(i:bg K (.ref c) "__init__"=some (some (.ref f)))(k:bh K (.ref c)=true)(m:dA K c=true)(pg:fZ K c h_=true)(hd:gY K c=true)(po:i_ K c=true)(sa:bg K (.ref c) "__setattr__"=some (some (.builtin "object.__setattr__"))):Ra K x c f:=⟨a,i,k,m,⟨pg,hd,po,sa⟩⟩
structure Jk (K:ac) (D:Df) (f:Addr) (d:bo) (vs:List V) (us:List Value):Prop where
 F:∃dV,FunD K D.x D.q D.st f d dV
 b:∀j,j<=vs.length->Binds K d D.ps (us.drop j)
 w:Vals vs us
 i:cU K (.ref f)=true
theorem ini0 {D:Df}{f:Addr}{oc:Value}{od an:Option Addr}{osl:Array (Option Value)}{kV doc pm θ ct:Value}(b:We D)(l:K.lookup f=some ⟨oc,od,.func (cr D.x D.q (B0 D.st) (A3 D.st) (Ak D.st) .none kV doc pm an θ ct),osl⟩)(c:dq K θ D.q=true)(k:bh K (.ref f)=true)(i:cU K (.ref f)=true):∃d,Jk K D f d [] []:=
 ⟨_,⟨_,(Pk l c k).toD⟩,λj _=>by rw[List.drop_nil];exact (Pk l c k).binds b,.nil,i⟩
noncomputable def a28(D:Df)(ds:List Value):Prop:=∀(T:Addr)(kV doc pm:Value)(an:Option Addr)(θ ct:Value)(us:List Value),us.length+ds.length=D.ps.length -> ∃k:Option (Array Value)->Sem (List (Str×Value)),iq (cr D.x D.q (B0 D.st) (A3 D.st) (Ak D.st) (.ref T) kV doc pm an θ ct) ⟨us,[]⟩=seqItems? (.ref T) >>= k/\k (some #[.none])=pure (D.ps.zip (us++ds))
theorem ini1 {D:Df}{f T:Addr}{oc tc:Value}{od an td:Option Addr}{osl ts:Array (Option Value)}{tn:Nat}{kV doc pm θ ct:Value}(b0:a28 D [])(b1:a28 D [.none])(hm:0<D.np/\D.np<=D.N.length)(l:K.lookup f=some ⟨oc,od,.func (cr D.x D.q (B0 D.st) (A3 D.st) (Ak D.st) (.ref T) kV doc pm an θ ct),osl⟩)(c:dq K θ D.q=true)(k:bh K (.ref f)=true)(i:cU K (.ref f)=true)(ld:K.lookup T=some ⟨tc,td,.seq #[.none] tn,ts⟩):∃d,Jk K D f d [.non] [.none]:=by
 have hl:D.ps.length=D.np:=by unfold Df.ps;rw[aC];omega
 refine⟨_,⟨_,av2 l c k⟩,λj hj=>?_,.cons rfl .nil,i⟩
 match j,hj with
 |0,_=>exact Ja (D.np - 1) rfl ld rfl (by rw[hl,List.drop_zero,c7];omega) λus e=>b1 T _ _ _ _ _ _ us (by rw[hl,c7];omega)
 |1,_=>exact Ja D.np rfl ld rfl (by rw[hl];rfl) λus e=>b0 T _ _ _ _ _ _ us (by rw[hl];exact e)
theorem Ty {x:Str}{c:Addr}{D:Df}{f:Addr}{d:bo}{vs:List V}{us:List Value}{s:Sp}{h:Heap}(X:K.In h)(G:h.Ns mainGlobals mg)(o:Ra K x c f)(i:Jk K D f d vs us)(ok:OkD K D es bl f d s)(T:Gy P w K mg base es bl (D.lv+1)):ClsIn P w K mg base (D.lv+1) x c (some ⟨f,d,D.ps,D.lv,s,vs,us⟩):=
 let ⟨_,F⟩:=i.F
 ⟨fL X G o.a,o.kp,o.mm,o.i,i.i,⟨F.kp,⟨CX0,λX' _ _=>Hc X',ok _ _ _ _ _ F λm h=>T m (du h)⟩,dm _,i.b,i.w⟩,ag _⟩
noncomputable def ag6(c:Addr)(f:Nat->Addr)(d:Nat->bo):Nat->List (Df×Sp)->List Ent
 |_,[]=>[]
 |k,p::r=>⟨p.1.lv, "", .met p.1.x [⟨c,Du p.1 (f k) (d k) p.2⟩]⟩::ag6 c f d (k+1) r
noncomputable def OkM(K:ac)(D:Df)(es:List Ent)(bl:List Str)(f:Addr)(d:bo)(s:Sp):Prop:=∀(P:ba)(w:bL)(mg:Str->Option Value)(base:Heap)(dV:Value),FunD K D.x D.q D.st f d dV->Gy P w K mg base es bl D.lv -> ∃C,(∀X':Cx,X'.prog=P->X'.w=w->Iy C X')/\FnOk P w K mg base C D.lv f d D.ps s
theorem OkD.m(h:OkD K D es bl a e s):OkM K D es bl a e s:=λP w mg base dV F T=>⟨CX0,λX' _ _=>Hc X',h P w mg base dV F T⟩
theorem OkX.m(h:OkX K D es bl a e s):OkM K D es bl a e s:=λP w mg base dV F T=>⟨CXE P w,λX' e1 e2=>e1▸e2▸ai8 X',h P w mg base dV F T⟩
noncomputable def Zs(K:ac)(es:List Ent)(bl:List Str)(f:Nat->Addr)(d:Nat->bo):Nat->List (Df×Sp)->Prop
 |_,[]=>True
 |k,p::r=>OkM K p.1 es bl (f k) (d k) p.2/\Zs K es bl f d (k+1) r
theorem bb5(cl:Cls K c)(g:MOk K D.x D.q D.st a e D.ps/\Q8 K c D.x a)(ok:OkM K D es bl a e s)(h:D.lv<=n)(T:Gy P w K mg base es bl n):MetIn P w K mg base n D.x ⟨c,Du D a e s⟩:=⟨cl,g.2,g.1.F.kp,ok _ _ _ _ _ g.1.F λm q=>T m (aP q h),h,br3 rfl g.1.b,.nil⟩
theorem Gz(cl:Cls K c):∀ {L:List (Df×Sp)} {k:Nat},AllM K c f d k (L.map (·.1))->Zs K es bl f d k L->AllE P w K mg base es bl (ag6 c f d k L)
 |[],_,_,_=>aQ
 |_::_,_,g,o=>⟨λT=>one (bb5 cl g.1 o.1 (ag _) T),Gz cl g.2 o.2⟩
theorem Wc(X:K.In h)(G:h.Ns mainGlobals mg)(a:bT K mainGlobals x=some (some (.ref c))):GBIn P w K mg base n x (.val (.ref c) (.ref c)):=⟨fL X G a,rfl⟩
noncomputable def AllN(K:ac)(c:Addr):List Str->Prop
 |[]=>True
 |x::r=>bg K (.ref c) x=some none/\AllN K c r
theorem AllN.all:∀ {L:List Str},AllN K c L -> ∀x∈L,NoAttr K c x
 |[],_,_,hx=>by cases hx
 | _::_,z,x,hx=>by
  rcases List.mem_cons.mp hx with rfl|hx
  .exact z.1
  .exact AllN.all z.2 x hx
structure a72 (K:ac) (x:Str) (c f:Addr) (bm:List Value):Prop where
 a:bT K mainGlobals x=some (some (.ref c))
 i:bg K (.ref c) "__init__"=some (some (.ref f))
 kp:bh K (.ref c)=true
 x:XC K c bm
theorem a90 {x:Str}{c:Addr}{bm:List Value}{D:Df}{f:Addr}{d:bo}{vs:List V}{us:List Value}{s:Sp}{h:Heap}(X:K.In h)(G:h.Ns mainGlobals mg)(o:a72 K x c f bm)(e:ECls K c)(i:Jk K D f d vs us)(ok:OkD K D es bl f d s)(T:Gy P w K mg base es bl (D.lv+1)):ExcIn P w K mg base (D.lv+1) x c (some ⟨f,d,D.ps,D.lv,s,vs,us⟩):=
 let ⟨_,F⟩:=i.F
 ⟨fL X G o.a,o.kp,e,o.i,i.i,F.kp,⟨CX0,λX' _ _=>Hc X',ok _ _ _ _ _ F λm h=>T m (du h)⟩,ag _,i.b,i.w⟩
end
section
variable {P:List Value->Prop}
@[elab_as_elim] theorem len1 (h:∀a,P [a]):∀us:List Value,us.length=1->P us
 |[a],_=>h a
@[elab_as_elim] theorem len2 (h:∀a b,P [a,b]):∀us:List Value,us.length=2->P us
 |[a,b],_=>h a b
@[elab_as_elim] theorem len3 (h:∀a b c,P [a,b,c]):∀us:List Value,us.length=3->P us
 |[a,b,c],_=>h a b c
@[elab_as_elim] theorem av9 (h:∀a b c d,P [a,b,c,d]):∀us:List Value,us.length=4->P us
 |[a,b,c,d],_=>h a b c d
@[elab_as_elim] theorem aw0 (h:∀a b c d e f,P [a,b,c,d,e,f]):∀us:List Value,us.length=6->P us
 |[a,b,c,d,e,f],_=>h a b c d e f
end
end L2
namespace K32
open PySem L2
set_option genInjectivity false in
set_option genSizeOfSpec false in
structure Adr where
 f:Nat->Addr
 d:Nat->bo
 u:Nat->Value
 f_zae:Addr
 d_zae:bo
 f_zai:Addr
 d_zai:bo
 f_zab:Addr
 d_zab:bo
 f_zk:Addr
 d_zk:bo
 c_zbv:Addr
 m_zbv:Nat->Addr
 e_zbv:Nat->bo
 c_zbw:Addr
 m_zbw:Nat->Addr
 e_zbw:Nat->bo
 c_zbu:Addr
 m_zbu:Nat->Addr
 e_zbu:Nat->bo
 c_zbr:Addr
 c_zbq:Addr
 c_zbt:Addr
 c_zbs:Addr
end K32
namespace K32
open PySem L2 Pn
structure a74 (K:ac) (C:Addr):Prop where
 cl:Cls K C
 na:∀f∈(["settings", "tuples", "numbers", "sets", "kept_rules", "bars", "free"]:List Str),NoAttr K C f
noncomputable def Lj(K:ac)(f:Addr):Bool:=match K.lookup f with
 | some ⟨_,_,.func fn,_⟩=>(match fn.code with
  |.ref c=>dJ K c 315
  |_=>false)
 |_=>false
structure An (K:ac) (t:Adr):Prop where
 pf:a74 K t.c_zbu
 pc:Cls K t.c_zbv
 pr:NoAttr K t.c_zbv "records"
 bc:Cls K t.c_zbw
 bp:NoAttr K t.c_zbw "panel"
 bk:NoAttr K t.c_zbw "kept"
 ec:ECls K t.c_zbt
 n1:NoAttr K t.c_zbt "part"
 n2:NoAttr K t.c_zbt "choice"
 me:gG K t.c_zbt (.ref t.c_zbt)=some true
 k1:dR K (.ref t.c_zbt) (.ref t.c_zbq)=some true
 k2:dR K (.ref t.c_zbt) (.ref t.c_zbs)=some false
 lam:Lj K (t.f 17)=true
noncomputable def Cf(ns:List Int)(k:Nat):Int:=ns.getD k 0
noncomputable def Bq(c k:Int):Int:=
 if c % 2=0/\c / 2 ^ (27 * k+1).toNat≠0/\c / 2 ^ (27 * k+1).toNat ≠ -1 then cu (c / 2 ^ (27 * k+1).toNat) 134217727
 else
  let n:=(c+7919 * k) * 48271 % 2147483647
  let m:=n * n % 2147483629
  m * (m+3) % 2147483587 / 32
noncomputable def okB(sw rule:Sw):Prop:=(rule.map (·.1)).Nodup/\∀e∈rule,Ik sw e
noncomputable abbrev nO(l:List Nat):HO:=.lst (l.map λn:Nat=>V.int (n:Int))
noncomputable def Mq:List Nat->Nat->List Nat
 |[],_=>[]
 |s::r,n=>Mq r (n / s)++[n % s]
noncomputable def Pg(sw:Sw)(n:Nat):List Nat:=Mq (sw.map (·.2.length)).reverse n
noncomputable def Hv(sw:Sw)(ζ:List Sw)(n:Nat):Bool:=ζ.any λr=>(Fy sw r).testBit n
noncomputable def Aw(sw:Sw)(ζ:List Sw):List Nat:=(ay (Al sw).length).filter λn=>!Hv sw ζ n
noncomputable def a25(sg:Str)(lo:Nat)(ws:List Str):Prop:=ws.Nodup/\∀z∈ws,1<=z.length/\z.length<=lo/\∀c∈z.cps.toList,c∈sg.cps.toList
structure Rc where
 k:Str
 p:Str
 r:Int
 c:TK
noncomputable def rcT(x:Rc):TK:=.tup [.at_ (.inr x.k),.at_ (.inr x.p),.at_ (.inl x.r),x.c]
noncomputable abbrev Tr:=List (Str×Rc)
noncomputable def RcAt(H:Hp)(a:Addr)(x:Rc):Prop:=∃v,H a=some (.tup [.str x.k,.str x.p,.int x.r,v])/\TkAt H x.c v
noncomputable def okC(x:TK):Prop:=Aq x<=2/\∀i,x≠.at_ (.inl i)
noncomputable def Cb(T:Tr):Prop:=(T.map (·.1)).Nodup/\T.length<=8/\∀x∈T,okC x.2.c
noncomputable abbrev kT(e:(Str×Rc)×Addr):Key×V:=(.inr e.1.1,.ref e.2)
noncomputable def TrAt(ok:Addr->Prop)(H:Hp)(d:Addr)(T:Tr):Prop:=∃es:List ((Str×Rc)×Addr),es.map (·.1)=T/\Own ok H d (.dK (es.map kT))/\∀e∈es,RcAt H e.2 e.1.2
noncomputable def PlAt(C:Addr)(ok:Addr->Prop)(H:Hp)(p:Addr)(T:Tr):Prop:=∃dx d,Own ok H p (.ins C dx [("records", .ref d)])/\TrAt ok H d T
noncomputable def Vb(T:Tr)(n:Str):TK:=((T.lookup n).map rcT).getD (.tup [])
noncomputable def vkT(T:Tr):TK:=.tup ((Fm (T.map (·.1))).map λn=>.tup [.at_ (.inr n),Vb T n])
noncomputable abbrev Gp:=TK×Nat×Nat
noncomputable def Gg(gs:List Gp)(k:TK)(n:Nat):List Gp:=if k∈gs.map (·.1) then gs.map λg=>if g.1=k then (g.1,g.2.1,g.2.2 ||| 2 ^ n) else g else gs++[(k,n,2 ^ n)]
noncomputable def B3(f:Nat->TK)(ns:List Nat):List Gp:=ns.foldl (λgs n=>Gg gs (f n) n) []
structure Ou (H:Hp) (W:Addr) (sw:Sw) (ζ:List Sw) (l k f:Addr):Prop where
 at_:H W=some (.lst [.ref l,.ref k,.ref f])
 sws:SwIn any H l sw
 ok:okSw sw
 rl:RulesAt any H k ζ
 rok:∀r∈ζ,Et sw r
 few:ζ.length<=8
 fr:H f=some (nO (Aw sw ζ))
 ne:Aw sw ζ≠[]
noncomputable abbrev kF(g:Nat->Addr)(n:Nat):Key×V:=(.inl (n:Int),.ref (g n))
structure FoundAt (H:Hp) (F:Addr) (ns:List Nat) (g:Nat->Addr) (tr:Nat->Tr):Prop where
 at_:H F=some (.dK (ns.map (kF g)))
 one:∀n∈ns,TrAt any H (g n) (tr n)/\Cb (tr n)
 few:∃Ts:List Tr,Ts.length<=4/\∀n∈ns,tr n∈Ts
structure a30 (C:Addr) (H:Hp) (l:Addr) (ns:List Nat) (tr:Nat->Tr) (rs:List (Nat×Addr×Addr)):Prop where
 nms:rs.map (·.1)=ns
 at_:H l=some (.lst (rs.map λr=>.ref r.2.1))
 one:∀r∈rs,H r.2.1=some (.tup [.int ((2 ^ r.1:Nat):Int),.ref r.2.2])/\PlAt C any H r.2.2 (tr r.1)
noncomputable def stT(T:Tr)(n:Str):Option TK:=(T.lookup n).map rcT
noncomputable def bo2(H:Hp):Option TK->V->Prop
 |none,v=>v=.non
 |some x,v=>(∃a,v=.ref a)/\TkAt H x v
noncomputable def ab5(C:Addr)(H:Hp)(l:Addr)(rs:List ((Nat×Tr)×Addr×Addr)):Prop:=H l=some (.lst (rs.map λr=>.ref r.2.2))/\∀r∈rs,H r.2.2=some (.tup [.int (r.1.1:Int),.ref r.2.1])/\PlAt C any H r.2.1 r.1.2/\Cb r.1.2
noncomputable def a29(C:Addr)(H:Hp)(D:Addr)(gs:List Gp):Prop:=∃es:List ((Gp×Tr)×Addr×Addr),es.map (·.1.1)=gs/\H D=some (.lst (es.map λe=>.ref e.2.2))/\∀e∈es,H e.2.2=some (.tup [.int (e.1.1.2.2:Int),.ref e.2.1])/\PlAt C any H e.2.1 e.1.2/\Cb e.1.2/\vkT e.1.2=e.1.1.1
noncomputable def BookAt(t:Adr)(H:Hp)(b:Addr)(sw:Sw)(ζ:List Sw)(gs:List Gp):Prop:=∃dx p l,H b=some (.ins t.c_zbw dx [("panel", .ref p),("kept", .ref l)])/\PanelAt t.c_zbu any H p sw ζ/\a29 t.c_zbv H l gs
noncomputable def Yh(k:TK)(n:Str):Prop:=∃T,Cb T/\vkT T=k/\(stT T n).isSome=true
structure Bk (ns:List Nat) (tr:Nat->Tr) (gs:List Gp):Prop where
 ge:gs=B3 (λn=>vkT (tr n)) ns
 asc:ns.Pairwise (· < ·)
 ok:∀n∈ns,Cb (tr n)/\n<256
 few:gs.length<=4
noncomputable def b25:Option Nat->V
 |none=>.non
 |some n=>.int (n:Int)
noncomputable def thT(b:Bool)(T:Tr)(n:Str):TK:=match T.lookup n with
 |some x=>if b=true then x.c else .tup [.at_ (.inr x.k),.at_ (.inr x.p),.at_ (.inl x.r)]
 |none=>.tup []
noncomputable abbrev Mk:=TK×Nat
noncomputable def Gh(gs:List Mk)(p:Mk):List Mk:=if p.1∈gs.map (·.1) then gs.map λg=>if g.1=p.1 then (g.1,g.2 ||| p.2) else g else gs++[p]
noncomputable def F4:List Mk->List Mk
 |[]=>[]
 |p::r=>Gh (F4 r) p
noncomputable def PrsAt(H:Hp)(D:Addr)(gs:List Mk):Prop:=∃es:List (Mk×V×Addr),es.map (·.1)=gs/\H D=some (.lst (es.map λe=>.ref e.2.2))/\∀e∈es,H e.2.2=some (.tup [.int (e.1.2:Int),e.2.1])/\TkAt H e.1.1 e.2.1
noncomputable def hvL(ns:List Nat)(tr:Nat->Tr)(n:Str):List Nat:=ns.filter λj=>(stT (tr j) n).isSome
noncomputable def El(b:Bool)(ns:List Nat)(tr:Nat->Tr)(n:Str):List Mk:=F4 ((hvL ns tr n).map λj=>(thT b (tr j) n,2 ^ j)).reverse
noncomputable def hsB(n:Str)(g:Gp):Bool:=@decide (Yh g.1 n) (bQ _)
noncomputable def FxAt(C:Addr)(H:Hp)(a:Addr)(fs:List (Str×V)):Prop:=∃dx,dx≠a/\H a=some (flO a C (some dx))/\H dx=some (xdO dx fs)
noncomputable def Bad(C:Addr)(fs:List (Str×V))(H:Hp)(E:XK):Prop:=∀H' a,Same H H'->FxAt C H' a fs->E (.ref a) none H'
noncomputable abbrev St0(H:Hp):Prop:=ab6 H 315 4
section
noncomputable def V3(K:ac)(t:Adr):Sp:=λvs H Q _=>∃(a:Addr)(ns:List Nat),vs=[.ref a]/\SqL K H a (ns.map λn:Nat=>V.int (n:Int))/\(∀n∈ns,n<=1000)/\Q (.int (Zf ns)) H
noncomputable def Iq(K:ac)(t:Adr):Sp:=λvs H Q _=>∃(a:Addr)(ms:List Int),vs=[.ref a]/\SqL K H a (ms.map V.int)/\Q (.int (Gr ms)) H
noncomputable def Vl(K:ac)(t:Adr):Sp:=λvs H Q _=>∃(z:Str)(lo hi:Int),vs=[.str z,.int lo,.int hi]/\z.length<=1000/\Q (.bl (decide (lo<=(z.length:Int))&&decide ((z.length:Int)<=hi))) H
noncomputable def Vq(K:ac)(t:Adr):Sp:=λvs H Q _=>∃c,vs=[.str ⟨#[c]⟩]/\Q (.bl (Kk c)) H
noncomputable def Ql(K:ac)(t:Adr):Sp:=λvs H Q _=>∃z,vs=[.str z]/\okW z/\∀H',Same H H'->Q (.bl true) H'
noncomputable def Xq(K:ac)(t:Adr):Sp:=λvs H Q _=>∃(a:Addr)(l:List Str),vs=[.ref a]/\SqL K H a (l.map V.str)/\okL l/\∀H',Same H H'->Q (.bl true) H'
noncomputable def Vr(K:ac)(t:Adr):Sp:=λvs H Q _=>∃(a b:Addr)(w:Str)(l:List Str),vs=[.ref a]/\H a=some (.tup [.str w,.ref b])/\H b=some (Bb l)/\okW w/\F9 l/\∀H',Same H H'->Q (.bl true) H'
noncomputable def ao7(K:ac)(t:Adr):Sp:=λvs H Q _=>∃(a:Addr)(sw:Sw),vs=[.ref a]/\SwIn any H a sw/\okSw sw/\∀H' d,Same H H'->SwAt (fresh H) H' d sw->Q (.ref d) H'
noncomputable def an7(K:ac)(t:Adr):Sp:=λvs H Q _=>∃(d:Addr)(sw:Sw),vs=[.ref d]/\SwAt any H d sw/\okSw sw/\∀H' l,Same H H'->TupsAt (fresh H) H' l (Al sw)->Q (.ref l) H'
noncomputable def an3(K:ac)(t:Adr):Sp:=λvs H Q _=>∃(l:Addr)(rows:List (List Str)),vs=[.ref l]/\TupsAt any H l rows/\rows.Nodup/\rows.length<=256/\∀H' n,Same H H'->NumAt (fresh H) H' n rows->Q (.ref n) H'
noncomputable def ao1(K:ac)(t:Adr):Sp:=λvs H Q _=>∃(d l:Addr)(sw:Sw),vs=[.ref d,.ref l]/\SwAt any H d sw/\TupsAt any H l (Al sw)/\okSw sw/\∀H' s,Same H H'->SetsAt (fresh H) H' s sw->Q (.ref s) H'
noncomputable def ap4(K:ac)(t:Adr):Sp:=λvs H Q _=>∃(r:Addr)(rule:Sw),vs=[.ref r]/\RuleAt any H r rule/\(rule.map (·.1)).Nodup/\rule.length<=100/\∀H' c,Same H H'->RuleAt (fresh H) H' c rule->Q (.ref c) H'
noncomputable def Vj(K:ac)(t:Adr):Sp:=λvs H Q _=>∃(p l s:Addr)(sw:Sw),vs=[.ref p]/\SelfAt t.c_zbu any H p l s/\TupsAt any H l (Al sw)/\Q (.int (Al sw).length) H
noncomputable def an8(K:ac)(t:Adr):Sp:=λvs H Q _=>∃(p l s:Addr)(sw:Sw),vs=[.ref p]/\SelfAt t.c_zbu any H p l s/\TupsAt any H l (Al sw)/\(Al sw).length<=256/\Q (.int (Ov sw)) H
noncomputable def Vk(K:ac)(t:Adr):Sp:=λvs H Q _=>∃(p a l s:Addr)(w:Str)(ss:List Str)(sw:Sw),vs=[.ref p,.str w,.ref a]/\SelfAt t.c_zbu any H p l s/\SetsAt any H s sw/\okSw sw/\H a=some (Bb ss)/\Ik sw (w,ss)/\∀H',Same H H'->Q (.int (Jj sw (w,ss))) H'
noncomputable def ao2(K:ac)(t:Adr):Sp:=λvs H Q _=>∃(p r l s:Addr)(sw rule:Sw),vs=[.ref p,.ref r]/\SelfAt t.c_zbu (· ≠ r) H p l s/\TupsAt (· ≠ r) H l (Al sw)/\SetsAt (· ≠ r) H s sw/\okSw sw/\RuleAt any H r rule/\Et sw rule/\∀H' c,Same H H'->RuleAt (fresh H) H' c rule->Q (.ref c) H'
noncomputable def Ot(ok:Addr->Prop)(H:Hp)(v:V)(ζ:List Sw):Prop:=(v=.non/\ζ=[]) \/ ∃k,v=.ref k/\RulesAt ok H k ζ
noncomputable def an9(K:ac)(t:Adr):Sp:=λvs H Q _=>∃(p l s:Addr)(ok:Addr->Prop)(v:V)(sw:Sw)(ζ:List Sw),vs=[.ref p,v]/\SelfAt t.c_zbu ok H p l s/\TupsAt ok H l (Al sw)/\SetsAt ok H s sw/\okSw sw /\
 Ot (λa=>¬ ok a) H v ζ/\(∀r∈ζ,Et sw r)/\ζ.length<=8/\∀H' k,Same H H'->RulesAt (fresh H) H' k ζ->Q (.ref k) H'
noncomputable def an4(K:ac)(t:Adr):Sp:=λvs H Q _=>∃(p a dx:Addr)(v:V)(sw:Sw)(ζ:List Sw),vs=[.ref p,.ref a,v]/\H p=some (.ins t.c_zbu dx [])/\SwIn (· ≠ p) H a sw/\okSw sw/\Ot (· ≠ p) H v ζ/\(∀r∈ζ,Et sw r)/\ζ.length<=8/\K7 sw ζ≠0 /\
 ∀H',(∀b o,b≠p->H b=some o->H' b=some o)->PanelAt t.c_zbu (λb=>b=p\/H b=none) H' p sw ζ->Q .non H'
noncomputable def Vn(K:ac)(t:Adr):Sp:=λvs H Q _=>∃(p r l s:Addr)(sw rule:Sw),vs=[.ref p,.ref r]/\SelfAt t.c_zbu (· ≠ r) H p l s/\TupsAt (· ≠ r) H l (Al sw)/\SetsAt (· ≠ r) H s sw/\okSw sw/\RuleAt any H r rule/\okB sw rule/\∀H',Same H H'->Q (.int (ac3 sw rule)) H'
noncomputable def ao6(K:ac)(t:Adr):Sp:=λvs H Q _=>∃(p:Addr)(sw:Sw)(ζ:List Sw),vs=[.ref p]/\PanelAt t.c_zbu any H p sw ζ/\Q (.int (K7 sw ζ)) H
noncomputable def an5(K:ac)(t:Adr):Sp:=λvs H Q _=>∃p dx,vs=[.ref p]/\H p=some (.ins t.c_zbv dx [])/\∀d,H d=none->d≠p->Q .non (upd (upd H d (.dK [])) p (.ins t.c_zbv dx [("records", .ref d)]))
noncomputable def Vp(K:ac)(t:Adr):Sp:=λvs H Q _=>∃(p dx d:Addr)(kvs:List (Key×V))(n k q:Str)(r:Int)(v:V),vs=[.ref p,.str n,.str k,.str q,.int r,v]/\H p=some (.ins t.c_zbv dx [("records", .ref d)])/\H d=some (.dK kvs)/\kvs.length<=8/\∀a,H a=none->Q .non (upd (upd H a (.tup [.str k,.str q,.int r,v])) d (.dK (B7 kvs (.inr n) (.ref a))))
noncomputable def ap2(K:ac)(t:Adr):Sp:=λvs H Q _=>∃(p:Addr)(T:Tr),vs=[.ref p]/\PlAt t.c_zbv any H p T/\Cb T/\∀l,H l=none->Q (.ref l) (upd H l (Bb (Fm (T.map (·.1)))))
noncomputable def ao8(K:ac)(t:Adr):Sp:=λvs H Q _=>∃(p:Addr)(T:Tr),vs=[.ref p]/\PlAt t.c_zbv any H p T/\∀H' q,Same H H'->PlAt t.c_zbv any H' q T->Q (.ref q) H'
noncomputable def ao3(K:ac)(t:Adr):Sp:=λvs H Q _=>∃(p:Addr)(T:Tr),vs=[.ref p]/\PlAt t.c_zbv any H p T/\Cb T/\∀H' b,Same H H'->TkAt H' (vkT T) (.ref b)->Q (.ref b) H'
noncomputable def V2(K:ac)(t:Adr):Sp:=λvs H Q _=>∃c n:Nat,vs=[.int (c:Int),.int (n:Int)]/\Q (.bl (c.testBit n)) H
noncomputable def bb1(c:Nat):Option Nat->Prop
 |some n=>c.testBit n=true/\∀j,j<n->c.testBit j=false
 |none=>c=0
noncomputable def ap0(K:ac)(t:Adr):Sp:=λvs H Q _=>∃(c:Nat)(o:Option Nat),vs=[.int (c:Int)]/\bb1 c o/\c<2 ^ 1000/\Q (b25 o) H
noncomputable def Vy(K:ac)(t:Adr):Sp:=λvs H Q _=>∃(b:Addr)(es:List (Gp×V×Addr)),vs=[.ref b]/\St0 H/\H b=some (.lst (es.map λe=>.ref e.2.2))/\es.length<64/\(es.map (·.1.2.1)).Pairwise (· < ·)/\(∀e∈es,H e.2.2=some (.tup [.int (e.1.2.2:Int),e.2.1])/\e.1.2.2.testBit e.1.2.1=true/\(∀j,j<e.1.2.1->e.1.2.2.testBit j=false)/\e.1.2.2<2 ^ 1000)/\∀H' D,Q9 315 H H'->H' D=some (.lst (es.map λe=>.ref e.2.2))->Q (.ref D) H'
noncomputable def Vs(K:ac)(t:Adr):Sp:=λvs H Q _=>∃(A:Nat)(l:Addr)(ns:List Nat)(tr:Nat->Tr)(rs:List (Nat×Addr×Addr)),vs=[.int (A:Int),.ref l]/\St0 H/\a30 t.c_zbv H l ns tr rs/\(∀n∈ns,Cb (tr n)/\A.testBit n=true/\n<256)/\ns.Pairwise (· < ·)/\(∃Ts:List Tr,Ts.length<=4/\∀n∈ns,tr n∈Ts)/\∀H' D,Q9 315 H H'->a29 t.c_zbv H' D (B3 (λn=>vkT (tr n)) ns)->Q (.ref D) H'
noncomputable def an6(K:ac)(t:Adr):Sp:=λvs H Q _=>∃(b p dx:Addr)(sw:Sw)(ζ:List Sw),vs=[.ref b,.ref p]/\H b=some (.ins t.c_zbw dx [])/\PanelAt t.c_zbu (· ≠ b) H p sw ζ/\∀H' l,(∀a o,a≠b->H a=some o->H' a=some o)->H' b=some (.ins t.c_zbw dx [("panel", .ref p),("kept", .ref l)])->Q .non H'
noncomputable def Vx(K:ac)(t:Adr):Sp:=λvs H Q _=>∃(p l:Addr)(sw:Sw)(ζ:List Sw)(ns:List Nat)(tr:Nat->Tr)(rs:List (Nat×Addr×Addr)),vs=[.ref p,.ref l]/\St0 H/\PanelAt t.c_zbu (· ≠ 315) H p sw ζ/\a30 t.c_zbv H l ns tr rs/\(∀n∈ns,Cb (tr n)/\(D9 sw ζ).testBit n=true/\n<256)/\ns.Pairwise (· < ·)/\(∃Ts:List Tr,Ts.length<=4/\∀n∈ns,tr n∈Ts)/\∀H' b,Q9 315 H H'->BookAt t H' b sw ζ (B3 (λn=>vkT (tr n)) ns)->Q (.ref b) H'
noncomputable def Eu(K:ac)(t:Adr):Sp:=λvs H Q _=>∃(a:Addr)(ns:List Int)(k:Nat),vs=[.ref a,.int k]/\SqL K H a (ns.map V.int)/\Q (.int (Cf ns k)) H
noncomputable def Br(K:ac)(t:Adr):Sp:=λvs H Q _=>∃c k:Int,vs=[.int c,.int k]/\0<=k/\Q (.int (Bq c k)) H
noncomputable def L8(K:ac)(t:Adr):Sp:=λvs H Q _=>∃(c:Int)(sg:Str)(lo m:Nat),vs=[.int c,.str sg,.int lo,.int m]/\1<=lo/\lo<=12/\m<=sg.length/\1<=sg.length/\sg.length<=100/\sg.cps.toList.Nodup/\∀H' l ws,Same H H'->H l=none->H' l=some (Bb ws)->ws.length=m->a25 sg lo ws->Q (.ref l) H'
noncomputable def ao9(K:ac)(t:Adr):Sp:=λvs H Q _=>∃(c:Int)(m:Nat),vs=[.int c,.int m]/\4<=m/\m<=256/\∀H' l sw,Same H H'->SwIn any H' l sw->okSw sw->Q (.ref l) H'
noncomputable def Qh(K:ac)(t:Adr):Sp:=λvs H Q _=>∃(l:Addr)(sw:Sw),vs=[.ref l]/\SwIn any H l sw/\okSw sw/\Q (.int (Al sw).length) H
noncomputable def Vv(K:ac)(t:Adr):Sp:=λvs H Q _=>∃(c:Int)(l:Addr)(sw:Sw),vs=[.int c,.ref l]/\SwIn any H l sw/\okSw sw/\∀H' k ζ,Same H H'->RulesAt any H' k ζ->(∀r∈ζ,Et sw r)->ζ.length<=3->Q (.ref k) H'
noncomputable def Qf(K:ac)(t:Adr):Sp:=λvs H Q _=>∃(l:Addr)(n:Nat)(sw:Sw),vs=[.ref l,.int (n:Int)]/\SwIn any H l sw/\okSw sw/\∀H' r,Same H H'->H' r=some (nO (Pg sw n))->Q (.ref r) H'
noncomputable def Vm(K:ac)(t:Adr):Sp:=λvs H Q _=>∃(l k:Addr)(n:Nat)(sw:Sw)(ζ:List Sw),vs=[.ref l,.ref k,.int (n:Int)]/\SwIn any H l sw/\okSw sw/\RulesAt any H k ζ/\(∀r∈ζ,Et sw r)/\n<(Al sw).length/\∀H',Same H H'->Q (.bl (Hv sw ζ n)) H'
noncomputable def Vw(K:ac)(t:Adr):Sp:=λvs H Q _=>∃(c:Int)(m:Nat),vs=[.int c,.int m]/\4<=m/\m<=256/\∀H' W sw ζ l k f,Same H H'->Ou H' W sw ζ l k f->Q (.ref W) H'
noncomputable def Qj(K:ac)(t:Adr):Sp:=λvs H Q _=>∃c:Int,vs=[.int c]/\∀H' (z:Str),Same H H'->z.length<=60->Q (.str z) H'
noncomputable def ap5(K:ac)(t:Adr):Sp:=λvs H Q _=>∃(k:Str)(c:Int),vs=[.str k,.int c]/\∀H' x v,Same H H'->TkAt H' x v->okC x->Q v H'
noncomputable def V1(K:ac)(t:Adr):Sp:=λvs H Q _=>∃(c:Int)(v:Nat)(l:Addr)(ws:List Str),vs=[.int c,.int (v:Int),.ref l]/\H l=some (Bb ws)/\ws.Nodup/\ws.length<=8/\∀H' d T,Same H H'->TrAt any H' d T->Cb T->Q (.ref d) H'
noncomputable def Vt(K:ac)(t:Adr):Sp:=λvs H Q _=>∃(c:Int)(m:Nat),vs=[.int c,.int m]/\m<=8/\∀H' l ws,Same H H'->H' l=some (Bb ws)->ws.length=m->ws.Nodup->(∀z∈ws,z.length<=12)->Q (.ref l) H'
noncomputable def ap8(K:ac)(t:Adr):Sp:=λvs H Q _=>∃(c:Int)(l:Addr)(sw:Sw)(n m:Nat),vs=[.int c,.ref l,.int (n:Int),.int (m:Int)]/\SwIn any H l sw/\okSw sw/\1<=m/\∀H' (v:Nat),Same H H'->v<m->Q (.int (v:Int)) H'
noncomputable def V0(K:ac)(t:Adr):Sp:=λvs H Q _=>∃(a:Addr)(ns:List Int)(b:Bool),vs=[.ref a,.bl b]/\SqL K H a (ns.map V.int)/\∀H' L W nm F sw ζ l k f ws g tr,Same H H'->H' L=some (.lst [.ref W,.ref nm,.ref F])->H' nm=some (Bb ws)->1<=ws.length/\ws.length<=8/\(∀z∈ws,z.length<=12)->Ou H' W sw ζ l k f->FoundAt H' F (Aw sw ζ) g tr->Q (.ref L) H'
noncomputable def Vu(K:ac)(t:Adr):Sp:=λvs H Q _=>∃(d:Addr)(T:Tr),vs=[.ref d]/\TrAt any H d T/\Cb T/\∀H' p,Same H H'->PlAt t.c_zbv any H' p T->Q (.ref p) H'
noncomputable def Vz(K:ac)(t:Adr):Sp:=λvs H Q _=>∃(W F l k f:Addr)(sw:Sw)(ζ:List Sw)(g:Nat->Addr)(tr:Nat->Tr),vs=[.ref W,.ref F]/\St0 H/\Ou H W sw ζ l k f/\FoundAt H F (Aw sw ζ) g tr/\∀H' b,Q9 315 H H'->BookAt t H' b sw ζ (B3 (λn=>vkT (tr n)) (Aw sw ζ))->Q (.ref b) H'
noncomputable def Vo(K:ac)(t:Adr):Sp:=λvs H Q _=>∃(p:Addr)(T:Tr)(n:Str),vs=[.ref p,.str n]/\PlAt t.c_zbv any H p T/\Cb T/\Q (.bl (stT T n).isSome) H
noncomputable def a50(K:ac)(t:Adr):Sp:=λvs H Q _=>∃(H0:Hp)(a:Addr)(x y:V),vs=[.ref a,x,y]/\H0 a=none/\H=upd H0 a (G7 a t.c_zbt none)/\∀H' dx,Same H0 H'->dx≠a->H' a=some (G7 a t.c_zbt (some dx))->H' dx=some (xdO dx [("part", x),("choice", y)])->Q .non H'
noncomputable def ap3(K:ac)(t:Adr):Sp:=λvs H Q _=>∃(p:Addr)(T:Tr)(n:Str),vs=[.ref p,.str n]/\PlAt t.c_zbv any H p T/\Cb T/\(stT T n).isSome=true/\∀v,bo2 H (stT T n) v->Q v H
noncomputable def NoN(t:Adr)(n:Str)(H:Hp)(E:XK):Prop:=Bad t.c_zbt [("part", .str n),("choice", .non)] H E
noncomputable def ao4(K:ac)(t:Adr):Sp:=λvs H Q E=>∃(b:Addr)(n:Str)(sw:Sw)(ζ:List Sw)(gs:List Gp),vs=[.ref b,.str n]/\BookAt t H b sw ζ gs/\gs.length<=4/\((gs.filter (hsB n)≠[]/\∀H' l rs,Same H H'->ab5 t.c_zbv H' l rs->rs.length<=4->(∀r∈rs,(stT r.1.2 n).isSome=true)->(rs.map λr=>(vkT r.1.2,r.1.1))=(gs.filter (hsB n)).map (λg=>(g.1,g.2.2))->Q (.ref l) H')\/(gs.filter (hsB n)=[]/\NoN t n H E))
noncomputable def Vi(K:ac)(t:Adr):Sp:=λvs H Q E=>∃(b:Addr)(n:Str)(sw:Sw)(ζ:List Sw)(gs:List Gp)(ns:List Nat)(tr:Nat->Tr),vs=[.ref b,.str n]/\BookAt t H b sw ζ gs/\Bk ns tr gs/\((hvL ns tr n≠[]/\∀H',Same H H'->Q (.int (Jp (hvL ns tr n):Nat)) H')\/(hvL ns tr n=[]/\NoN t n H E))
noncomputable def bw4(t:Adr)(x:Bool):Sp:=λvs H Q E=>∃(b:Addr)(n:Str)(sw:Sw)(ζ:List Sw)(gs:List Gp)(ns:List Nat)(tr:Nat->Tr),vs=[.ref b,.str n]/\BookAt t H b sw ζ gs/\Bk ns tr gs/\((hvL ns tr n≠[]/\∀H' D,Same H H'->H D=none->PrsAt H' D (El x ns tr n)->Q (.ref D) H')\/(hvL ns tr n=[]/\NoN t n H E))
noncomputable def ap1(K:ac)(t:Adr):Sp:=bw4 t false
noncomputable def ao5(K:ac)(t:Adr):Sp:=bw4 t true
noncomputable def ao0(K:ac)(t:Adr):Sp:=λvs H Q _=>∃(p:Addr)(T:Tr)(n:Str),vs=[.ref p,.str n]/\PlAt t.c_zbv any H p T/\Cb T/\(stT T n).isSome=true/\∀v,TkAt H (thT true T n) v->Q v H
noncomputable def Qk(K:ac)(t:Adr):Sp:=λvs H Q _=>∃(l:Addr)(qs:List Mk),vs=[.ref l]/\PrsAt H l qs/\qs.length<=4/\(∀q∈qs,okC q.1)/\∀H' D,Same H H'->H D=none->PrsAt H' D (F4 qs.reverse)->Q (.ref D) H'
noncomputable def Qi(K:ac)(t:Adr):Sp:=λvs H Q _=>∃i:Int,vs=[.int i]/\Q (.bl true) H
noncomputable def Xr(K:ac)(t:Adr):Sp:=λvs H Q _=>∃(F:Addr)(n:Str)(b:Bool)(ns:List Nat)(g:Nat->Addr)(tr:Nat->Tr),vs=[.ref F,.str n,.bl b]/\FoundAt H F ns g tr/\ns.Pairwise (· < ·)/\(∀m∈ns,m<256)/\∀H' D,Same H H'->PrsAt H' D (El b ns tr n)->Q (.ref D) H'
noncomputable def Qg(K:ac)(t:Adr):Sp:=λvs H Q _=>∃(a d:Addr)(gs:List Mk),vs=[.ref a,.ref d]/\PrsAt H a gs/\PrsAt H d gs/\gs.length<=256/\(∀g∈gs,okC g.1)/\∀H',(∀x o,x≠a->H x=some o->H' x=some o)->Q (.bl true) H'
noncomputable def ap7(K:ac)(t:Adr):Sp:=λvs H Q _=>∃(b F:Addr)(n:Str)(sw:Sw)(ζ:List Sw)(gs:List Gp)(ns:List Nat)(g:Nat->Addr)(tr:Nat->Tr),vs=[.ref b,.ref F,.str n]/\BookAt t H b sw ζ gs/\Bk ns tr gs/\FoundAt H F ns g tr/\hvL ns tr n≠[]/\∀H',Same H H'->Q (.bl true) H'
noncomputable def ap6(K:ac)(t:Adr):Sp:=λvs H Q _=>∃(b:Addr)(n:Str)(w:Nat)(sw:Sw)(ζ:List Sw)(gs:List Gp)(ns:List Nat)(tr:Nat->Tr),vs=[.ref b,.str n,.int (w:Int)]/\w<3/\BookAt t H b sw ζ gs/\Bk ns tr gs/\hvL ns tr n=[]/\∀H',Same H H'->Q (.bl true) H'
noncomputable def Qm(K:ac)(t:Adr):Sp:=λvs H Q _=>∃(a:Addr)(ns:List Int),vs=[.ref a]/\SqL K H a (ns.map V.int)/\ns.length<=63/\St0 H/\∀H',Q (.bl true) H'
end
end K32
namespace K32
open PySem L2
noncomputable def top(i:Nat):Stmt:=PySem.Challenge.pw_manyleaf_k32_places_and_contents.main.body.getD i (.Pass ⟨0,0,0,0⟩)
noncomputable def bl:List Str:=["all", "bool", "dict", "enumerate", "int", "isinstance", "len", "list", "range", "reversed", "set", "sorted", "str", "sum", "tuple"]
noncomputable abbrev aa2:Df:=⟨"_law_cell", "_law_cell", top 42,["_law_script", "_law_k"],2,1⟩
noncomputable abbrev aa9:Df:=⟨"_law_mix", "_law_mix", top 43,["_law_cell_here", "_law_k", "_law_left", "_law_number"],2,1⟩
noncomputable abbrev Z6:Df:=⟨"_law_spelt", "_law_spelt", top 44,["_law_cell_here", "_law_signs", "_law_longest", "_law_many", "_law_word", "_law_k", "_law_long", "_law_at", "_law_words", "_law_steps"],4,2⟩
noncomputable abbrev a65:Df:=⟨"_law_switches", "_law_switches", top 45,["_law_cell_here", "_law_most", "_law_letters", "_law_words", "_law_switches_here", "_law_total_here", "_law_k", "_law_size"],2,3⟩
noncomputable abbrev Z7:Df:=⟨"_law_total", "_law_total", top 47,["_law_switches_here", "_law_total_here", "_law_word", "_law_settings"],1,1⟩
noncomputable abbrev Z5:Df:=⟨"_law_rules", "_law_rules", top 48,["_law_cell_here", "_law_switches_here", "_law_rules_here", "_law_j", "_law_rule", "_law_k", "_law_word", "_law_settings", "_law_bits", "_law_some"],2,2⟩
noncomputable abbrev Zy:Df:=⟨"_law_digits", "_law_digits", top 46,["_law_switches_here", "_law_number", "_law_found", "_law_word", "_law_settings"],2,1⟩
noncomputable abbrev Zx:Df:=⟨"_law_barred", "_law_barred", top 49,["_law_switches_here", "_law_rules_here", "_law_number", "_law_digits_here", "_law_rule", "_law_inside"],3,2⟩
noncomputable abbrev Z9:Df:=⟨"_law_world", "_law_world", top 50,["_law_cell_here", "_law_most", "_law_switches_here", "_law_rules_here", "_law_free"],2,4⟩
noncomputable abbrev aa4:Df:=⟨"_law_text", "_law_text", top 51,["_law_cell_here", "_law_signs", "_law_long"],1,2⟩
noncomputable abbrev a68:Df:=⟨"_law_content", "_law_content", top 52,["_law_kind", "_law_cell_here", "_law_wide", "_law_rows", "_law_row"],2,3⟩
noncomputable abbrev aa5:Df:=⟨"_law_tree", "_law_tree", top 53,["_law_cell_here", "_law_variant_here", "_law_names_here", "_law_tree_here", "_law_k", "_law_name", "_law_number", "_law_kind", "_law_holders", "_law_rank"],3,4⟩
noncomputable abbrev Z2:Df:=⟨"_law_names", "_law_names", top 54,["_law_cell_here", "_law_many"],2,3⟩
noncomputable abbrev a71:Df:=⟨"_law_variant", "_law_variant", top 55,["_law_cell_here", "_law_switches_here", "_law_number", "_law_many"],4,2⟩
noncomputable abbrev aa3:Df:=⟨"_law_made", "_law_made", top 57,["_law_script", "_law_much", "_law_world_here", "_law_names_here", "_law_many", "_law_trees", "_law_found", "_law_number"],2,5⟩
noncomputable abbrev D_zae:Df:=⟨"__init__", "Plain.__init__", A9 (top 10) 0,["self"],1,1⟩
noncomputable abbrev as8:Df:=⟨"allowed", "Panel.allowed", A9 (top 33) 10,["self"],1,1⟩
noncomputable abbrev D_zai:Df:=⟨"__init__", "Book.__init__", A9 (top 24) 0,["self", "panel"],2,3⟩
noncomputable abbrev as9:Df:=⟨"copied", "Plain.copied", A9 (top 10) 19,["self", "twin"],1,3⟩
noncomputable abbrev at2:Df:=⟨"names", "Plain.names", A9 (top 10) 8,["self"],1,1⟩
noncomputable abbrev as5:Df:=⟨"value_key", "Plain.value_key", A9 (top 10) 21,["self"],1,3⟩
noncomputable abbrev ab0:Df:=⟨"in_set", "in_set", top 12,["choices", "number"],2,1⟩
noncomputable abbrev a66:Df:=⟨"least_choice", "least_choice", top 13,["choices", "number"],1,2⟩
noncomputable abbrev D_zay:Df:=⟨"in_order", "in_order", top 17,["pairs"],1,6⟩
noncomputable abbrev Z1:Df:=⟨"kept_rows", "kept_rows", top 26,["allowed", "rows", "sets", "plains", "choices", "plain", "key"],2,7⟩
noncomputable abbrev aa0:Df:=⟨"gathered", "gathered", top 25,["panel", "rows", "book"],2,8⟩
noncomputable abbrev aa6:Df:=⟨"union_of", "union_of", top 15,["sets", "choices", "one"],1,1⟩
noncomputable abbrev Wg:Df:=⟨"many", "Panel.many", A9 (top 33) 3,["self"],1,1⟩
noncomputable abbrev as1:Df:=⟨"all_choices", "Panel.all_choices", A9 (top 33) 9,["self"],1,2⟩
noncomputable abbrev Zw:Df:=⟨"has_length", "has_length", top 21,["thing", "least", "greatest"],3,1⟩
noncomputable abbrev Zz:Df:=⟨"is_letter", "is_letter", top 22,["sign"],1,1⟩
noncomputable abbrev aa8:Df:=⟨"is_word", "is_word", top 20,["thing"],1,2⟩
noncomputable abbrev a61:Df:=⟨"are_unlike_words", "are_unlike_words", top 34,["things"],1,3⟩
noncomputable abbrev Wh:Df:=⟨"term", "Panel.term", A9 (top 33) 12,["self", "word", "settings"],3,4⟩
noncomputable abbrev Wi:Df:=⟨"box", "Panel.box", A9 (top 33) 11,["self", "terms", "choices", "word"],2,5⟩
noncomputable abbrev a67:Df:=⟨"copied_rule", "copied_rule", top 40,["rule", "copied", "word"],1,1⟩
noncomputable abbrev as4:Df:=⟨"read_rule", "Panel.read_rule", A9 (top 33) 2,["self", "rule"],2,6⟩
noncomputable abbrev as2:Df:=⟨"read_rules", "Panel.read_rules", A9 (top 33) 1,["self", "rules"],2,7⟩
noncomputable abbrev Z0:Df:=⟨"is_switch", "is_switch", top 36,["switch"],1,4⟩
noncomputable abbrev a64:Df:=⟨"read_switches", "read_switches", top 35,["switches", "settings", "many", "switch"],1,5⟩
noncomputable abbrev a60:Df:=⟨"settings_of_choices", "settings_of_choices", top 37,["settings", "tuples", "word", "longer", "ahead"],1,1⟩
noncomputable abbrev a59:Df:=⟨"numbers_by_settings", "numbers_by_settings", top 38,["tuples", "numbers", "number", "told"],1,1⟩
noncomputable abbrev ab1:Df:=⟨"set_of", "set_of", top 14,["numbers", "choices", "number"],1,1⟩
noncomputable abbrev a62:Df:=⟨"sets_of_settings", "sets_of_settings", top 39,["settings", "tuples", "sets", "place", "word", "setting", "having"],2,2⟩
noncomputable abbrev D_zab:Df:=⟨"__init__", "Panel.__init__", A9 (top 33) 0,["self", "switches", "rules"],3,8⟩
noncomputable abbrev Wk:Df:=⟨"lay", "Plain.lay", A9 (top 10) 17,["self", "name", "kind", "parent", "rank", "content"],6,1⟩
noncomputable abbrev Z4:Df:=⟨"_law_plain", "_law_plain", top 56,["_law_tree_here", "_law_plain_here", "_law_name", "_law_kind", "_law_parent", "_law_rank", "_law_content_here"],1,3⟩
noncomputable abbrev aa1:Df:=⟨"_law_book", "_law_book", top 58,["_law_world_here", "_law_found", "_law_switches_here", "_law_rules_here", "_law_free", "_law_panel", "_law_rows", "_law_number"],2,10⟩
noncomputable abbrev D_zk:Df:=⟨"__init__", "EditError.__init__", A9 (top 6) 0,["self", "part", "choice"],3,1⟩
noncomputable abbrev Wj:Df:=⟨"has", "Plain.has", A9 (top 10) 1,["self", "name"],2,1⟩
noncomputable abbrev as6:Df:=⟨"rows_with", "Book.rows_with", A9 (top 24) 2,["self", "name", "rows"],2,3⟩
noncomputable abbrev Wf:Df:=⟨"where", "Book.where", A9 (top 24) 4,["self", "name"],2,4⟩
noncomputable abbrev at3:Df:=⟨"state", "Plain.state", A9 (top 10) 2,["self", "name"],2,3⟩
noncomputable abbrev aa7:Df:=⟨"grouped", "grouped", top 16,["pairs", "sets", "choices", "thing"],1,1⟩
noncomputable abbrev at1:Df:=⟨"places", "Book.places", A9 (top 24) 5,["self", "name"],2,4⟩
noncomputable abbrev as3:Df:=⟨"content_of", "Plain.content_of", A9 (top 10) 7,["self", "name"],2,4⟩
noncomputable abbrev as7:Df:=⟨"contents", "Book.contents", A9 (top 24) 6,["self", "name"],2,5⟩
noncomputable abbrev Z8:Df:=⟨"_law_whole", "_law_whole", top 59,["_law_found"],1,1⟩
noncomputable abbrev a63:Df:=⟨"_law_sorted_out", "_law_sorted_out", top 60,["_law_found", "_law_name", "_law_content_here", "_law_pairs_here", "_law_number", "_law_thing", "_law_there"],3,1⟩
noncomputable abbrev Z3:Df:=⟨"_law_pairs", "_law_pairs", top 61,["_law_told", "_law_due", "_law_pair"],2,2⟩
noncomputable abbrev a70:Df:=⟨"_law_told_of", "_law_told_of", top 62,["_law_book_here", "_law_found", "_law_name", "_law_due", "_law_told", "_law_turn"],3,6⟩
noncomputable abbrev a69:Df:=⟨"_law_refused", "_law_refused", top 63,["_law_book_here", "_law_name", "_law_way", "_law_told", "e"],3,6⟩
noncomputable abbrev D_zbk:Df:=⟨"law", "law", top 64,["_law_script", "_law_world_here", "_law_names_here", "_law_found", "_law_book_here", "_law_strangers", "_law_name", "_law_way"],1,11⟩
section
variable (K:ac) (t:Adr)
noncomputable abbrev bq1:FI:=Du as3 (t.m_zbv 0) (t.e_zbv 0) (ao0 K t)
noncomputable abbrev bq4:FI:=Du as9 (t.m_zbv 1) (t.e_zbv 1) (ao8 K t)
noncomputable abbrev a38:FI:=Du Wj (t.m_zbv 2) (t.e_zbv 2) (Vo K t)
noncomputable abbrev a39:FI:=Du Wk (t.m_zbv 3) (t.e_zbv 3) (Vp K t)
noncomputable abbrev bq5:FI:=Du at2 (t.m_zbv 4) (t.e_zbv 4) (ap2 K t)
noncomputable abbrev ba0:FI:=Du at3 (t.m_zbv 5) (t.e_zbv 5) (ap3 K t)
noncomputable abbrev bq3:FI:=Du as5 (t.m_zbv 6) (t.e_zbv 6) (ao3 K t)
noncomputable abbrev a97:FI:=Du as7 (t.m_zbw 0) (t.e_zbw 0) (ao5 K t)
noncomputable abbrev a99:FI:=Du at1 (t.m_zbw 1) (t.e_zbw 1) (ap1 K t)
noncomputable abbrev av4:FI:=Du as6 (t.m_zbw 2) (t.e_zbw 2) (ao4 K t)
noncomputable abbrev af4:FI:=Du Wf (t.m_zbw 3) (t.e_zbw 3) (Vi K t)
noncomputable abbrev a96:FI:=Du as1 (t.m_zbu 0) (t.e_zbu 0) (an8 K t)
noncomputable abbrev a98:FI:=Du as8 (t.m_zbu 1) (t.e_zbu 1) (ao6 K t)
noncomputable abbrev af5:FI:=Du Wi (t.m_zbu 2) (t.e_zbu 2) (Vn K t)
noncomputable abbrev a36:FI:=Du Wg (t.m_zbu 3) (t.e_zbu 3) (Vj K t)
noncomputable abbrev bq2:FI:=Du as4 (t.m_zbu 4) (t.e_zbu 4) (ao2 K t)
noncomputable abbrev bq0:FI:=Du as2 (t.m_zbu 5) (t.e_zbu 5) (an9 K t)
noncomputable abbrev a37:FI:=Du Wh (t.m_zbu 6) (t.e_zbu 6) (Vk K t)
noncomputable def i_zae:FI:=⟨t.f_zae,t.d_zae,D_zae.ps,1,an5 K t,[],[]⟩
noncomputable def i_zai:FI:=⟨t.f_zai,t.d_zai,D_zai.ps,3,an6 K t,[],[]⟩
noncomputable def i_zab:FI:=⟨t.f_zab,t.d_zab,D_zab.ps,8,an4 K t,[.non],[.none]⟩
noncomputable def i_zk:FI:=⟨t.f_zk,t.d_zk,D_zk.ps,1,a50 K t,[.non],[.none]⟩
noncomputable def Fi:List MI:=[⟨t.c_zbu,a96 K t⟩]
noncomputable def Ln:List MI:=[⟨t.c_zbu,a98 K t⟩]
noncomputable def ah2:List MI:=[⟨t.c_zbu,af5 K t⟩]
noncomputable def Ms:List MI:=[⟨t.c_zbv,bq1 K t⟩]
noncomputable def Je:List MI:=[⟨t.c_zbw,a97 K t⟩]
noncomputable def Ys:List MI:=[⟨t.c_zbv,bq4 K t⟩]
noncomputable def bb6:List MI:=[⟨t.c_zbv,a38 K t⟩]
noncomputable def bb7:List MI:=[⟨t.c_zbv,a39 K t⟩]
noncomputable def aw6:List MI:=[⟨t.c_zbu,a36 K t⟩]
noncomputable def ah5:List MI:=[⟨t.c_zbv,bq5 K t⟩]
noncomputable def Od:List MI:=[⟨t.c_zbw,a99 K t⟩]
noncomputable def Ps:List MI:=[⟨t.c_zbu,bq2 K t⟩]
noncomputable def Mt:List MI:=[⟨t.c_zbu,bq0 K t⟩]
noncomputable def Er:List MI:=[⟨t.c_zbw,av4 K t⟩]
noncomputable def R0:List MI:=[⟨t.c_zbv,ba0 K t⟩]
noncomputable def aw7:List MI:=[⟨t.c_zbu,a37 K t⟩]
noncomputable def Pu:List MI:=[⟨t.c_zbv,bq3 K t⟩]
noncomputable def R1:List MI:=[⟨t.c_zbw,af4 K t⟩]
noncomputable def cons:List (Str×V):=[("__builtins__", .ref 4),("MOST_SWITCHES", (.int 5)),("LEAST_SETTINGS", (.int 2)),("MOST_SETTINGS", (.int 4)),("MOST_CHOICES", (.int 256)),("MOST_RULES", (.int 8))]
noncomputable def fns:List (Df×Sp):=[(aa2,Eu K t),(aa9,Br K t),(Z6,L8 K t),(a65,ao9 K t),(Z7,Qh K t),(Z5,Vv K t),(Zy,Qf K t),(Zx,Vm K t),(Z9,Vw K t),(aa4,Qj K t),(a68,ap5 K t),(aa5,V1 K t),(Z2,Vt K t),(a71,ap8 K t),(aa3,V0 K t),(ab0,V2 K t),(a66,ap0 K t),(D_zay,Vy K t),(Z1,Vs K t),(aa0,Vx K t),(aa6,Iq K t),(Zw,Vl K t),(Zz,Vq K t),(aa8,Ql K t),(a61,Xq K t),(a67,ap4 K t),(Z0,Vr K t),(a64,ao7 K t),(a60,an7 K t),(a59,an3 K t),(ab1,V3 K t),(a62,ao1 K t),(Z4,Vu K t),(aa1,Vz K t),(aa7,Qk K t),(Z8,Qi K t),(a63,Xr K t),(Z3,Qg K t),(a70,ap7 K t),(a69,ap6 K t)]
noncomputable def bb3:List (Df×Sp):=[(as3,ao0 K t),(as9,ao8 K t),(Wj,Vo K t),(Wk,Vp K t),(at2,ap2 K t),(at3,ap3 K t),(as5,ao3 K t)]
noncomputable def bb4:List (Df×Sp):=[(as7,ao5 K t),(at1,ap1 K t),(as6,ao4 K t),(Wf,Vi K t)]
noncomputable def bb2:List (Df×Sp):=[(as1,an8 K t),(as8,ao6 K t),(Wi,Vn K t),(Wg,Vj K t),(as4,ao2 K t),(as2,an9 K t),(Wh,Vk K t)]
noncomputable def Az:List Ent:=[⟨2, "Plain", .cls t.c_zbv (some (i_zae K t))⟩,⟨4, "Book", .cls t.c_zbw (some (i_zai K t))⟩,⟨9, "Panel", .cls t.c_zbu (some (i_zab K t))⟩,⟨0, "LeafError", .val (.ref t.c_zbr) (.ref t.c_zbr)⟩,⟨0, "EditError", .val (.ref t.c_zbq) (.ref t.c_zbq)⟩,⟨2, "NoPart", .exc t.c_zbt (some (i_zk K t))⟩,⟨0, "Doubled", .val (.ref t.c_zbs) (.ref t.c_zbs)⟩]++(a81 t.u 0 cons++(ag6 t.c_zbv t.m_zbv t.e_zbv 0 (bb3 K t)++(ag6 t.c_zbw t.m_zbw t.e_zbw 0 (bb4 K t)++(ag6 t.c_zbu t.m_zbu t.e_zbu 0 (bb2 K t)++(fnE t.f t.d 0 (fns K t))))))
end
noncomputable abbrev v0_:DE:=Aa 0
noncomputable abbrev v1_:DE:=Aa 1
noncomputable abbrev v2_:DE:=Aa 2
noncomputable abbrev v3_:DE:=Aa 3
noncomputable abbrev v4_:DE:=Aa 4
noncomputable abbrev v5_:DE:=Aa 5
noncomputable abbrev v6_:DE:=Aa 6
noncomputable abbrev v7_:DE:=Aa 7
noncomputable abbrev v8_:DE:=Aa 8
noncomputable abbrev v9_:DE:=Aa 9
noncomputable abbrev m_(i:Int):DE:=dC (.int i)
noncomputable abbrev n_(a:DE):DA:=Ac a Ag
noncomputable abbrev o_(a b:DE):DA:=Ac a (n_ b)
noncomputable abbrev p_(a b c:DE):DA:=Ac a (o_ b c)
noncomputable abbrev q_(s:Sp)(a:DA):DE:=dFn (spE s []) a
noncomputable abbrev r_(r:RF)(a:DA):DE:=dFn (λvs H Q _=>r vs H Q) a
noncomputable def bz5(K:ac)(t:Adr):DS:=(Ae (dIf (Bf (Ah bl6 v1_ (r_  (Dp K) (n_ v0_)))) (Ae (Ar (Ah (Ax K) v0_ v1_)) Af) Af) (Ae (Ar (m_ 0)) Af))
noncomputable def Td(K:ac)(t:Adr):DS:=(Ae (Ap 3 (Ah Bh (Ah (C6 K) v3_ v3_) (m_ 2147483629))) (Ae (Ar (Ah Dl (Ah Bh (Ah (C6 K) v3_ (Ah (Ba K) v3_ (m_ 3))) (m_ 2147483587)) (m_ 32))) Af))
noncomputable def Te(K:ac)(t:Adr):DS:=(Ae (dIf (T7 (Bf (Ah (Bz K false) (Ah Bh v0_ (m_ 2)) (m_ 0))) (T7 (Bf (Ah (Bz K true) v2_ (m_ 0))) (Bf (Ah (Bz K true) v2_ (dUn Xg (m_ 1)))))) (Ae (Ar (Ah Jg v2_ (m_ 134217727))) Af) Af) (Ae (Ap 3 (Ah Bh (Ah (C6 K) (Ah (Ba K) v0_ (Ah (C6 K) (m_ 7919) v1_)) (m_ 48271)) (m_ 2147483647))) (Td K t)))
noncomputable def b02(K:ac)(t:Adr):DS:=(Ae (Ap 2 (Ah Xh v0_ (Ah (Ba K) (Ah (C6 K) (m_ 27) v1_) (m_ 1)))) (Te K t))
noncomputable def Na(K:ac)(t:Adr):DS:=(Ae (Ap 4 (dMt (rMt K [⟨"str", "str.join", Oi K⟩]) (dC (.str "")) (n_ (Be [none,some 0,some 1] (F7 (n_ v2_)) (gdN 0) B6 (Ah (Ax K) v2_ (Ah Bh (q_ (Br K t) (o_ v1_ (Ah (Ba K) (m_ 2) v0_))) (r_  (Dp K) (n_ v2_)))))))) (Ae (Ar (Be [none,some 2,some 4] (F7 (n_ v3_)) (gdN 0) B6 (dSl K v2_ Gc (Kz (Ah am5 v1_ v0_))))) Af))
noncomputable def Nb(K:ac)(t:Adr):DS:=(Ae (C9 (dMt (rMt K [⟨"list", "list.append", Db⟩]) v8_ (n_ (dMt (rMt K [⟨"str", "str.join", Oi K⟩]) (dC (.str "")) (n_ (Be [none,some 1] (Bt K v9_) (gdN 0) B6 (Ah (Ax K) v1_ (Ah Bh v0_ (r_  (Dp K) (n_ v1_)))))))))) Af)
noncomputable def Nc(K:ac)(t:Adr):DS:=(Ae (Ap 9 (Be [none,some 7,some 0,some 5] (F7 (n_ v6_)) (gdN 0) B6 (Ah (Ba K) (q_ (Br K t) (o_ v2_ (Ah (Ba K) (m_ 22) v0_))) (Ah (C6 K) v3_ (r_ Uz8 (n_ (Ah (Bz K false) v0_ v1_))))))) (Nb K t))
noncomputable def Nd(K:ac)(t:Adr):DS:=(Ae (Ap 7 (Ah Bh (q_ (Br K t) (o_ v0_ (m_ 21))) v6_)) (Ae (Ap 8 (Cm Ag)) (Ae (Ca (F7 (n_ v3_)) (gdN 5) (Nc K t)) (Ae (Ar v8_) Af))))
noncomputable def by8(K:ac)(t:Adr):DS:=(Ae (dIf (T7 (Bf (Ah (Bz K false) (Ah Bh (q_ (Br K t) (o_ v0_ (m_ 1))) (m_ 3)) (m_ 0))) (Bf (Ah Io v3_ v2_))) (Na K t) Af) (Ae (Ap 6 (Ah (Ba K) (m_ 1) (Ah Bh (q_ (Br K t) (o_ v0_ (m_ 20))) v2_))) (Nd K t)))
noncomputable def Ir(K:ac)(t:Adr):DS:=(Ae (C9 (dMt (rMt K [⟨"list", "list.append", Db⟩]) v4_ (n_ (Do (o_ (Ah (Ax K) v3_ v6_) (q_ (L8 K t) (Ac (Ah (Ba K) (Ah (Ba K) v0_ (m_ 1)) v6_) (p_ v2_ (m_ 8) v7_)))))))) Af)
noncomputable def Iv(K:ac)(t:Adr):DS:=(Ae (Ap 7 (Ah (Ba K) (m_ 2) (Ah Bh (q_ (Br K t) (o_ v0_ (Ah (Ba K) (m_ 41) v6_))) (m_ 3)))) (Ae (dIf (Bf (Ah Io (Ah (C6 K) v5_ v7_) v1_)) (Ae (Ap 5 (Ah (C6 K) v5_ v7_)) (Ir K t)) Af) Af))
noncomputable def Iw(K:ac)(t:Adr):DS:=(Ae (Ca (F7 (n_ (Ah (Ba K) (m_ 1) (Ah Bh (q_ (Br K t) (o_ v0_ (m_ 40))) (m_ 5))))) (gdN 6) (Iv K t)) (Ae (Ar v4_) Af))
noncomputable def Ix(K:ac)(t:Adr):DS:=(Ae (Ap 3 (q_ (L8 K t) (Ac v0_ (p_ v2_ (m_ 8) (m_ 5))))) (Ae (Ap 4 (Cm Ag)) (Ae (Ap 5 (m_ 1)) (Iw K t))))
noncomputable def b61(K:ac)(t:Adr):DS:=(Ae (Ap 2 (dC (.str "abcdefghijklmnopqrstuvwxyz"))) (Ix K t))
noncomputable def by9(K:ac)(t:Adr):DS:=(Ae (Ap 1 (m_ 1)) (Ae (Ca (Bt K v0_) (gdT K 2 [(gdN 2),(gdN 3)]) (Ae (Ap 1 (Ah (C6 K) v1_ (r_  (Dp K) (n_ v3_)))) Af)) (Ae (Ar v1_) Af)))
noncomputable def M6(K:ac)(t:Adr):DS:=(Ae (dIf (T7 (Bf (Ah (Bz K true) v9_ (Cm Ag))) (Bf (Ah Za (Ah Bh (Ah Dl v8_ (m_ 16)) (m_ 3)) (m_ 0)))) (Ae (Dz v9_ (Ci K v4_ v6_)) Af) Af) Af)
noncomputable def M7(K:ac)(t:Adr):DS:=(Ae (Ap 9 (Be [none,none,some 8] (iEn K (n_ v7_)) (gdT K 2 [(gdN 0),(gdN 1)]) (Bf (Ah (Bz K false) (Ah Jg (Ah Xh v2_ v0_) (m_ 1)) (m_ 1))) v1_)) (M6 K t))
noncomputable def M8(K:ac)(t:Adr):DS:=(Ae (Ca (iEn K (n_ v1_)) (gdT K 2 [(gdN 5),(gdT K 2 [(gdN 6),(gdN 7)])]) (Ae (Ap 8 (q_ (Br K t) (o_ v0_ (Ah (Ba K) (Ah (Ba K) (m_ 61) (Ah (C6 K) (m_ 8) v3_)) v5_)))) (M7 K t))) (Ae (dIf (Bf (Ah (Bz K true) v4_ De)) (Ae (C9 (dMt (rMt K [⟨"list", "list.append", Db⟩]) v2_ (n_ v4_))) Af) Af) Af))
noncomputable def M9(K:ac)(t:Adr):DS:=(Ae (Ca (F7 (n_ (Ah Bh (q_ (Br K t) (o_ v0_ (m_ 60))) (m_ 4)))) (gdN 3) (Ae (Ap 4 De) (M8 K t))) (Ae (Ar v2_) Af))
noncomputable def by7(K:ac)(t:Adr):DS:=(Ae (Ap 2 (Cm Ag)) (M9 K t))
noncomputable def Mg(K:ac)(t:Adr):DS:=(Ae (C9 (dMt (rMt K [⟨"list", "list.insert", Kq⟩]) v2_ (o_ (m_ 0) (Ah Bh v1_ (r_  (Dp K) (n_ v4_)))))) (Ae (Ap 1 (Ah Dl v1_ (r_  (Dp K) (n_ v4_)))) Af))
noncomputable def bx7(K:ac)(t:Adr):DS:=(Ae (Ap 2 (Cm Ag)) (Ae (Ca (a95 K v0_) (gdT K 2 [(gdN 3),(gdN 4)]) (Mg K t)) (Ae (Ar v2_) Af)))
noncomputable def Mf(K:ac)(t:Adr):DS:=(Ae (Ap 5 (Be [none,none,none,some 3,some 4] (iEn K (n_ v0_)) (gdT K 2 [(gdN 0),(gdT K 2 [(gdN 1),(gdN 2)])]) B6 (Ah (Jo K false) (Ah (Ax K) v2_ (Ah (Ax K) v3_ v0_)) (dMt (rMt K [⟨"dict", "dict.get", Lw⟩]) v4_ (o_ v1_ v2_))))) (Ae (dIf (Cu K (r_  (Sm K) (n_ v5_))) (Ae (Ar (dC (.bl true))) Af) Af) Af))
noncomputable def bx6(K:ac)(t:Adr):DS:=(Ae (Ap 3 (q_ (Qf K t) (o_ v0_ v2_))) (Ae (Ca (Bt K v1_) (gdN 4) (Mf K t)) (Ae (Ar (dC (.bl false))) Af)))
noncomputable def Nf(K:ac)(t:Adr):DS:=(Ae (dIf (Bf (Ah (Bz K false) v4_ (Cm Ag))) (Ae (Ap 3 (Cm Ag)) (Ae (Ap 4 (dUn Lx (q_ (Qh K t) (n_ v2_)))) Af)) Af) (Ae (Ar (Cm (p_ v2_ v3_ v4_))) Af))
noncomputable def Ng(K:ac)(t:Adr):DS:=(Ae (Ap 4 (Be [none,some 3,some 2] (F7 (n_ (q_ (Qh K t) (n_ v2_)))) (gdN 0) (Da (Cu K (q_ (Vm K t) (p_ v2_ v1_ v0_)))) v0_)) (Nf K t))
noncomputable def bz1(K:ac)(t:Adr):DS:=(Ae (Ap 2 (q_ (ao9 K t) (o_ v0_ v1_))) (Ae (Ap 3 (q_ (Vv K t) (o_ v0_ v2_))) (Ng K t)))
noncomputable def Qt(K:ac)(t:Adr):DS:=(Ae (Ar (dMt (rMt K [⟨"str", "str.join", Oi K⟩]) (dC (.str "")) (n_ (Be [none,some 0,some 1] (F7 (n_ v2_)) (gdN 0) B6 (Ah (Ax K) v2_ (Ah Bh (q_ (Br K t) (o_ v1_ (Ah (Ba K) (m_ 302) v0_))) (r_  (Dp K) (n_ v2_)))))))) Af)
noncomputable def Qu(K:ac)(t:Adr):DS:=(Ae (Ap 2 (Ah (Ax K) (Cm (Ac (m_ 0) (Ac (m_ 1) (p_ (m_ 2) (m_ 5) (m_ 60))))) (Ah Bh (q_ (Br K t) (o_ v0_ (m_ 301))) (m_ 5)))) (Qt K t))
noncomputable def bz7(K:ac)(t:Adr):DS:=(Ae (Ap 1 (dC (.str " !\"#$&'()*+,-./0123456789:;<=>?@ABCDEFGHIJKLMNOPQRSTUVWXYZ[\\]^_`"))) (Ae (Ap 1 (Ah (Ba K) v1_ (dC (.str "abcdefghijklmnopqrstuvwxyz{|}~")))) (Qu K t)))
noncomputable def Jr(K:ac)(t:Adr):DS:=(Ae (C9 (dMt (rMt K [⟨"list", "list.append", Db⟩]) v3_ (n_ (r_  (Gi K) (n_ (Be [none,some 1,some 4] (F7 (n_ v2_)) (gdN 0) B6 (dSl K (q_ (Qj K t) (n_ (Ah (Ba K) (Ah (Ba K) v1_ (Ah (C6 K) (m_ 5) v2_)) (Ah (C6 K) (m_ 17) v0_)))) Gc (Kz (m_ 3))))))))) Af)
noncomputable def Js(K:ac)(t:Adr):DS:=(Ae (Ca (F7 (n_ (Ah (Ba K) (m_ 1) (Ah Bh (q_ (Br K t) (o_ v1_ (m_ 311))) (m_ 3))))) (gdN 4) (Jr K t)) (Ae (Ar (r_  (Gi K) (n_ v3_))) Af))
noncomputable def Jt(K:ac)(t:Adr):DS:=(Ae (Ap 2 (Ah (Ba K) (m_ 1) (Ah Bh (q_ (Br K t) (o_ v1_ (m_ 310))) (m_ 3)))) (Ae (Ap 3 (Cm Ag)) (Js K t)))
noncomputable def b67(K:ac)(t:Adr):DS:=(Ae (dIf (Bf (Ah (Bz K true) v0_ (dC (.str "table")))) (Ae (Ar (q_ (Qj K t) (n_ v1_))) Af) Af) (Jt K t))
noncomputable def Qv(K:ac)(t:Adr):DS:=(Ae (Dz (Do (Ac v7_ (p_ (Ah (Ax K) v8_ (Ah Bh (Ah Dl v6_ (m_ 384)) (r_  (Dp K) (n_ v8_)))) v9_ (q_ (ap5 K t) (o_ v7_ (Ah Dl v6_ (m_ 96))))))) (Ci K v3_ v5_)) Af)
noncomputable def Qw(K:ac)(t:Adr):DS:=(Ae (Ap 9 (Ah (Ax K) (Cm (Ac (m_ 0) (p_ (m_ 1) (Ah a48 (m_ 10) (m_ 9)) (Ah Bh (Ah Dl v6_ (m_ 96)) (m_ 1000))))) (Ah Bh (Ah Dl v6_ (m_ 24)) (m_ 4)))) (Qv K t))
noncomputable def Qx(K:ac)(t:Adr):DS:=(Ae (Ap 8 (K0 (Ah (Ba K) (Cm (n_ (dC (.str "")))) (Be [none,some 3] (Bt K v3_) (gdN 0) (Bf (Ah (Bz K false) (Ah (Ax K) (Ah (Ax K) v1_ v0_) (m_ 0)) (dC (.str "chapter")))) v0_)))) (Qw K t))
noncomputable def Qy(K:ac)(t:Adr):DS:=(Ae (Ap 7 (Ah (Ax K) (Cm (Ac (dC (.str "chapter")) (p_ (dC (.str "para")) (dC (.str "table")) (dC (.str "chapter"))))) (Ah Bh (Ah Dl v6_ (m_ 6)) (m_ 4)))) (Qx K t))
noncomputable def Qz(K:ac)(t:Adr):DS:=(Ae (dIf (T7 (Bf (Ah Za v1_ (m_ 0))) (Bf (Ah (Bz K false) (Ah Bh (q_ (Br K t) (o_ v0_ (Ah (Ba K) (Ah (Ba K) (m_ 130) (Ah (C6 K) (m_ 40) v1_)) v4_))) (m_ 3)) (m_ 0)))) (Ae (Ap 6 (q_ (Br K t) (o_ v0_ (Ah (Ba K) (Ah (Ba K) (m_ 500) (Ah (C6 K) (m_ 40) v1_)) v4_)))) Af) Af) (Ae (dIf (Bf (Ah Za (Ah Bh v6_ (m_ 6)) (m_ 0))) (Qy K t) Af) Af))
noncomputable def Q0(K:ac)(t:Adr):DS:=(Ae (Ca (iEn K (n_ v2_)) (gdT K 2 [(gdN 4),(gdN 5)]) (Ae (Ap 6 (q_ (Br K t) (o_ v0_ (Ah (Ba K) (m_ 100) v4_)))) (Qz K t))) (Ae (Ar v3_) Af))
noncomputable def bz8(K:ac)(t:Adr):DS:=(Ae (Ap 3 De) (Q0 K t))
noncomputable def by4(K:ac)(t:Adr):DS:=(Ae (Ar (q_ (L8 K t) (Ac v0_ (p_ (dC (.str "abcdefghijklmnopqrstuvwxyz0123456789.")) (m_ 12) v1_)))) Af)
noncomputable def Jz(K:ac)(t:Adr):DS:=(Ae (Ar (Ah Bh (Ah (Ax K) (q_ (Qf K t) (o_ v1_ v2_)) (Ah Bh (q_ (Br K t) (o_ v0_ (m_ 71))) (r_  (Dp K) (n_ v1_)))) v3_)) Af)
noncomputable def b70(K:ac)(t:Adr):DS:=(Ae (dIf (Bf (Ah (Bz K false) (Ah Bh (q_ (Br K t) (o_ v0_ (m_ 70))) (m_ 2)) (m_ 0))) (Jz K t) Af) (Ae (Ar (Ah Bh (q_ (Br K t) (o_ v0_ (Ah (Ba K) (m_ 700) v2_))) v3_)) Af))
noncomputable def Qq(K:ac)(t:Adr):DS:=(Ae (Dz (Ah (Ax K) v5_ (q_ (ap8 K t) (Ac (q_ (Eu K t) (o_ v0_ (m_ 4))) (p_ (Ah (Ax K) v2_ (m_ 0)) v7_ v4_)))) (Ci K v6_ v7_)) Af)
noncomputable def Qr(K:ac)(t:Adr):DS:=(Ae (Ap 5 (Be [none,some 3,some 0] (F7 (n_ v4_)) (gdN 0) B6 (q_ (V1 K t) (p_ (q_ (Eu K t) (o_ v2_ (m_ 3))) v0_ v1_)))) (Ae (Ap 6 De) (Ae (Ca (Bt K (Ah (Ax K) v2_ (m_ 2))) (gdN 7) (Qq K t)) (Ae (Ar (Cm (p_ v2_ v3_ v6_))) Af))))
noncomputable def Qs(K:ac)(t:Adr):DS:=(Ae (Ap 3 (q_ (Vt K t) (o_ (q_ (Eu K t) (o_ v0_ (m_ 1))) (Ah (Ba K) (m_ 1) (Ah Bh (q_ (Eu K t) (o_ v0_ (m_ 2))) (Ah (Ax K) (Cm (o_ (m_ 8) (m_ 3))) (r_ Uz8 (n_ v1_)))))))) (Ae (Ap 4 (Ah (Ba K) (m_ 1) (Ah Bh (Ah Dl (q_ (Eu K t) (o_ v0_ (m_ 2))) (m_ 8)) (m_ 4)))) (Qr K t)))
noncomputable def bz6(K:ac)(t:Adr):DS:=(Ae (Ap 2 (q_ (Vw K t) (o_ (Ah Dl (q_ (Eu K t) (o_ v0_ (m_ 0))) (m_ 8)) (Ah (Ax K) (Cm (o_ (m_ 24) (m_ 256))) (r_ Uz8 (n_ v1_)))))) (Qs K t))
noncomputable def bx4(K:ac)(t:Adr):DS:=(Ae (F0 K "records" v0_ De) Af)
noncomputable def b58(K:ac)(t:Adr):DS:=(Ae (Ar (dUn (By K "free") v0_)) Af)
noncomputable def bx8(K:ac)(t:Adr):DS:=(Ae (F0 K "panel" v0_ v1_) (Ae (F0 K "kept" v0_ (Cm (n_ (Do (o_ (Ck "allowed" 0 (Ln K t) v1_ Ag) (dFn (mkC t.c_zbv (some (i_zae K t)) 0) Ag)))))) Af))
noncomputable def b60(K:ac)(t:Adr):DS:=(Ae (Ap 1 (dFn (mkC t.c_zbv (some (i_zae K t)) 0) Ag)) (Ae (F0 K "records" v1_ (r_ Qa (n_ (dUn (By K "records") v0_)))) (Ae (Ar v1_) Af)))
noncomputable def b64(K:ac)(t:Adr):DS:=(Ae (Ar (r_  (Va K true) (n_ (dUn (By K "records") v0_)))) Af)
noncomputable def b53(K:ac)(t:Adr):DS:=(Ae (Ar (r_  (Gi K) (n_ (Be [none,some 0] (Bt K (Ck "names" 0 (ah5 K t) v0_ Ag)) (gdN 0) B6 (Do (o_ v0_ (Ah (Ax K) (dUn (By K "records") v1_) v0_))))))) Af)
noncomputable def b03(K:ac)(t:Adr):DS:=(Ae (Ar (Ah (Bz K false) (Ah Jg (Ah Xh v0_ v1_) (m_ 1)) (m_ 1))) Af)
noncomputable def b62(K:ac)(t:Adr):DS:=(Ae (Ca (F7 (n_ (dMt (rMt K [⟨"int", "int.bit_length", al8⟩]) v0_ Ag))) (gdN 1) (Ae (dIf (Cu K (q_ (V2 K t) (o_ v0_ v1_))) (Ae (Ar v1_) Af) Af) Af)) (Ae (Ar (dC .non)) Af))
noncomputable def bz3(K:ac)(t:Adr):DE:=
 (dFn (spE (ap0 K t) []) (Ac (Ah (Ax K) (Aa 0) (dC (.int 0))) Ag))
noncomputable def M0(K:ac)(t:Adr):DS:=(Ae (Dz (Ah am0 (dMt (rMt K [⟨"dict", "dict.get", Lw⟩]) v2_ (o_ v6_ (m_ 0))) (Ah Jg v4_ v0_)) (Ci K v2_ v6_)) (Ae (Dz v5_ (Ci K v3_ v6_)) Af))
noncomputable def M1(K:ac)(t:Adr):DS:=(Ae (Ar (q_ (Vy K t) (n_ (Be [none,some 3,some 2] (Bt K v2_) (gdN 0) B6 (Do (o_ (Ah (Ax K) v2_ v0_) (Ck "copied" 0 (Ys K t) (Ah (Ax K) v1_ v0_) Ag))))))) Af)
noncomputable def M2(K:ac)(t:Adr):DS:=(Ae (Ca (Bt K v1_) (gdT K 2 [(gdN 4),(gdN 5)]) (Ae (dIf (Bf (Ah (Bz K true) (Ah Jg v4_ v0_) (m_ 0))) (Ae (Ap 6 (Ck "value_key" 0 (Pu K t) v5_ Ag)) (M0 K t)) Af) Af)) (M1 K t))
noncomputable def by3(K:ac)(t:Adr):DS:=(Ae (Ap 2 De) (Ae (Ap 3 De) (M2 K t)))
noncomputable def bz2(K:ac)(t:Adr):DS:=(Ae (Ap 2 (dFn (mkC t.c_zbw (some (i_zai K t)) 0) (n_ v0_))) (Ae (F0 K "kept" v2_ (q_ (Vs K t) (o_ (Ck "allowed" 0 (Ln K t) v0_ Ag) v1_))) (Ae (Ar v2_) Af)))
noncomputable def bz9(K:ac)(t:Adr):DS:=(Ae (Ap 1 (m_ 0)) (Ae (Ca (Bt K v0_) (gdN 2) (Ae (Ap 1 (Ah am0 v1_ v2_)) Af)) (Ae (Ar v1_) Af)))
noncomputable def bx2(K:ac)(t:Adr):DS:=(Ae (Ar (r_  (Dp K) (n_ (dUn (By K "tuples") v0_)))) Af)
noncomputable def b47(K:ac)(t:Adr):DS:=(Ae (Ar (Ah am5 (Ah Jh (m_ 1) (Ck "many" 0 (aw6 K t) v0_ Ag)) (m_ 1))) Af)
noncomputable def bx5(K:ac)(t:Adr):DS:=(Ae (Ar (Nr K (r_  (Fj K) (o_ v0_ (dC (.ty "str")))) (Ek Io Io v1_ (r_  (Dp K) (n_ v0_)) v2_))) Af)
noncomputable def a53(K:ac)(t:Adr):DS:=(Ae (Ar (Ek Io Io (dC (.str "a")) v0_ (dC (.str "z")))) Af)
noncomputable def b01(K:ac)(t:Adr):DS:=(Ae (Ar (Nr K (q_ (Vl K t) (p_ v0_ (m_ 1) (m_ 8))) (r_  (Sm K) (n_ (Be [none] (Bt K v0_) (gdN 0) B6 (q_ (Vq K t) (n_ v0_))))))) Af)
noncomputable def b50(K:ac)(t:Adr):DS:=(Ae (dIf (dOr (Da (Cu K (r_  (Fj K) (o_ v0_ (dC (.ty "list")))))) (Da (Cu K (r_  (Sm K) (n_ (Be [none] (Bt K v0_) (gdN 0) B6 (q_ (Ql K t) (n_ v0_)))))))) (Ae (Ar (dC (.bl false))) Af) Af) (Ae (Ar (Ah (Bz K false) (dUn (Kr K) v0_) (r_  (Dp K) (n_ v0_)))) Af))
noncomputable def Mc(K:ac)(t:Adr):DS:=(Ae (Ar (q_ (Iq K t) (n_ (Be [none,some 0,some 1] (Bt K v2_) (gdN 0) B6 (Ah (Ax K) (Ah (Ax K) (dUn (By K "sets") v1_) v2_) v0_))))) Af)
noncomputable def Md(K:ac)(t:Adr):DS:=(Ae (dIf (Da (Cu K (r_  (Sm K) (n_ (Be [none,some 0,some 1] (Bt K v2_) (gdN 0) B6 (Ah (Jo K false) v0_ (Ah (Ax K) (dUn (By K "sets") v1_) v2_))))))) (Ae (Co K dNo) Af) Af) (Mc K t))
noncomputable def Me(K:ac)(t:Adr):DS:=(Ae (dIf (dOr (Da (Cu K (q_ (Xq K t) (n_ v2_)))) (Bf (Ah (Bz K false) v2_ (Cm Ag)))) (Ae (Co K dNo) Af) Af) (Md K t))
noncomputable def bx3(K:ac)(t:Adr):DS:=(Ae (dIf (dOr (Da (Cu K (r_  (Fj K) (o_ v1_ (dC (.ty "str")))))) (Bf (Ah (Jo K true) v1_ (dUn (By K "sets") v0_)))) (Ae (Co K dNo) Af) Af) (Me K t))
noncomputable def Mx(K:ac)(t:Adr):DS:=(Ae (Ca (Bt K v1_) (gdN 3) (Ae (Ap 2 (Ah Jg v2_ (Ck "term" 2 (aw7 K t) v0_ (o_ v3_ (Ah (Ax K) v1_ v3_))))) Af)) (Ae (Ar v2_) Af))
noncomputable def bx9(K:ac)(t:Adr):DS:=(Ae (dIf (Da (Cu K (r_  (Fj K) (o_ v1_ (dC (.ty "dict")))))) (Ae (Co K dNo) Af) Af) (Ae (Ap 2 (Ck "all_choices" 0 (Fi K t) v0_ Ag)) (Mx K t)))
noncomputable def Jq(K:ac)(t:Adr):DS:=(Ae (Ca (Bt K v0_) (gdN 2) (Ae (Dz (r_  (Qb K true) (n_ (Ah (Ax K) v0_ v2_))) (Ci K v1_ v2_)) Af)) (Ae (Ar v1_) Af))
noncomputable def b66(K:ac)(t:Adr):DS:=(Ae (Ap 1 De) (Jq K t))
noncomputable def b52(K:ac)(t:Adr):DS:=(Ae (dIf (dOr (Da (Cu K (r_  (Fj K) (o_ v1_ (dC (.ty "dict")))))) (Bf (Ah (Bz K false) (r_  (Dp K) (n_ v1_)) (m_ 0)))) (Ae (Co K dNo) Af) Af) (Ae (au3 K (Ae (C9 (Ck "box" 1 (ah2 K t) v0_ (n_ v1_))) Af) []) (Ae (Ar (q_ (ap4 K t) (n_ v1_))) Af)))
noncomputable def Fn(K:ac)(t:Adr):DS:=(Ae (dIf (dOr (Da (Cu K (r_  (Fj K) (o_ v1_ (dC (.ty "list")))))) (Bf (Ah Za (r_  (Dp K) (n_ v1_)) (m_ 8)))) (Ae (Co K dNo) Af) Af) (Ae (Ar (Be [none,some 0] (Bt K v1_) (gdN 0) B6 (Ck "read_rule" 1 (Ps K t) v1_ (n_ v0_)))) Af))
noncomputable def b48(K:ac)(t:Adr):DS:=(Ae (dIf (Bf (Ah (bl5 false) v1_ (dC .non))) (Ae (Ar (Cm Ag)) Af) Af) (Fn K t))
noncomputable def Mz(K:ac)(t:Adr):DS:=(Ae (Ar (Nr K (q_ (Xq K t) (n_ (Ah (Ax K) v0_ (m_ 1)))) (Ek Io Io (m_ 2) (r_  (Dp K) (n_ (Ah (Ax K) v0_ (m_ 1)))) (m_ 4)))) Af)
noncomputable def by2(K:ac)(t:Adr):DS:=(Ae (dIf (dOr (Da (Cu K (r_  (Fj K) (o_ v0_ (dC (.ty "tuple")))))) (dOr (Bf (Ah (Bz K true) (r_  (Dp K) (n_ v0_)) (m_ 2))) (Da (Cu K (q_ (Ql K t) (n_ (Ah (Ax K) v0_ (m_ 0)))))))) (Ae (Ar (dC (.bl false))) Af) Af) (Mz K t))
noncomputable def Hk(K:ac)(t:Adr):DS:=(Ae (Dz (r_  (Gi K) (n_ (Ah (Ax K) v3_ (m_ 1)))) (Ci K v1_ (Ah (Ax K) v3_ (m_ 0)))) (Ae (Ap 2 (Ah (C6 K) v2_ (r_  (Dp K) (n_ (Ah (Ax K) v3_ (m_ 1)))))) Af))
noncomputable def Hl(K:ac)(t:Adr):DS:=(Ae (dIf (dOr (Da (Cu K (q_ (Vr K t) (n_ v3_)))) (Bf (Ah (Jo K false) (Ah (Ax K) v3_ (m_ 0)) v1_))) (Ae (Co K dNo) Af) Af) (Hk K t))
noncomputable def Hm(K:ac)(t:Adr):DS:=(Ae (Ap 2 (m_ 1)) (Ae (Ca (Bt K v0_) (gdN 3) (Hl K t)) (Ae (dIf (Bf (Ah Za v2_ (m_ 256))) (Ae (Co K dNo) Af) Af) (Ae (Ar v1_) Af))))
noncomputable def b59(K:ac)(t:Adr):DS:=(Ae (dIf (dOr (Da (Cu K (r_  (Fj K) (o_ v0_ (dC (.ty "list")))))) (Da (Bf (Ek Io Io (m_ 1) (r_  (Dp K) (n_ v0_)) (m_ 5))))) (Ae (Co K dNo) Af) Af) (Ae (Ap 1 De) (Hm K t)))
noncomputable def Eh(K:ac)(t:Adr):DS:=(Ae (C9 (dMt (rMt K [⟨"list", "list.extend", Ko⟩]) v3_ (n_ (Be [none,some 4] (Bt K (Ah (Ax K) v0_ v2_)) (gdN 0) B6 (Ah (Ba K) v1_ (Do (n_ v0_))))))) Af)
noncomputable def b46(K:ac)(t:Adr):DS:=(Ae (Ap 1 (Cm (n_ (Do Ag)))) (Ae (Ca (Bt K v0_) (gdN 2) (Ae (Ap 3 (Cm Ag)) (Ae (Ca (Bt K v1_) (gdN 4) (Eh K t)) (Ae (Ap 1 v3_) Af)))) (Ae (Ar v1_) Af)))
noncomputable def b45(K:ac)(t:Adr):DS:=(Ae (Ap 1 De) (Ae (Ca (iEn K (n_ v0_)) (gdT K 2 [(gdN 2),(gdN 3)]) (Ae (Dz v2_ (Ci K v1_ v3_)) Af)) (Ae (Ar v1_) Af)))
noncomputable def b04(K:ac)(t:Adr):DS:=(Ae (Ap 1 (m_ 0)) (Ae (Ca (Bt K v0_) (gdN 2) (Ae (Ap 1 (Ah am0 v1_ (Ah Jh (m_ 1) v2_))) Af)) (Ae (Ar v1_) Af)))
noncomputable def Fo(K:ac)(t:Adr):DS:=(Ae (Ap 6 (Be [none,none,some 3,some 5] (iEn K (n_ v1_)) (gdT K 2 [(gdN 0),(gdN 1)]) (Bf (Ah (Bz K false) (Ah (Ax K) v1_ v2_) v3_)) v0_)) (Ae (Dz (q_ (V3 K t) (n_ v6_)) (Ci K (Ah (Ax K) v2_ v4_) v5_)) Af))
noncomputable def Fp(K:ac)(t:Adr):DS:=(Ae (Ca (iEn K (n_ v0_)) (gdT K 2 [(gdN 3),(gdN 4)]) (Ae (Dz De (Ci K v2_ v4_)) (Ae (Ca (Bt K (Ah (Ax K) v0_ v4_)) (gdN 5) (Fo K t)) Af))) (Ae (Ar v2_) Af))
noncomputable def b51(K:ac)(t:Adr):DS:=(Ae (Ap 2 De) (Fp K t))
noncomputable def L9(K:ac)(t:Adr):DS:=(Ae (F0 K "free" v0_ (Ah Jg (Ck "all_choices" 0 (Fi K t) v0_ Ag) (dUn Xf (q_ (Iq K t) (n_ (dUn (By K "bars") v0_)))))) (Ae (dIf (Bf (Ah (Bz K false) (dUn (By K "free") v0_) (m_ 0))) (Ae (Co K dNo) Af) Af) Af))
noncomputable def Ma(K:ac)(t:Adr):DS:=(Ae (F0 K "kept_rules" v0_ (Ck "read_rules" 1 (Mt K t) v0_ (n_ v2_))) (Ae (F0 K "bars" v0_ (Be [none,some 0] (Bt K (dUn (By K "kept_rules") v0_)) (gdN 0) B6 (Ck "box" 1 (ah2 K t) v1_ (n_ v0_)))) (L9 K t)))
noncomputable def Mb(K:ac)(t:Adr):DS:=(Ae (F0 K "numbers" v0_ (q_ (an3 K t) (n_ (dUn (By K "tuples") v0_)))) (Ae (F0 K "sets" v0_ (q_ (ao1 K t) (o_ (dUn (By K "settings") v0_) (dUn (By K "tuples") v0_)))) (Ma K t)))
noncomputable def bx1(K:ac)(t:Adr):DS:=(Ae (F0 K "settings" v0_ (q_ (ao7 K t) (n_ v1_))) (Ae (F0 K "tuples" v0_ (q_ (an7 K t) (n_ (dUn (By K "settings") v0_)))) (Mb K t)))
noncomputable def by1(K:ac)(t:Adr):DS:=(Ae (Dz (Do (Ac v2_ (p_ v3_ v4_ v5_))) (Ci K (dUn (By K "records") v0_) v1_)) Af)
noncomputable def M5(K:ac)(t:Adr):DS:=(Ae (Dz (Ah (Ax K) v0_ v2_) (gdT K 4 [(gdN 3),(gdN 4),(gdN 5),(gdN 6)])) (Ae (C9 (Ck "lay" 5 (bb7 K t) v1_ (Ac v2_ (Ac v3_ (p_ v4_ v5_ v6_))))) Af))
noncomputable def by6(K:ac)(t:Adr):DS:=(Ae (Ap 1 (dFn (mkC t.c_zbv (some (i_zae K t)) 0) Ag)) (Ae (Ca (Bt K v0_) (gdN 2) (M5 K t)) (Ae (Ar v1_) Af)))
noncomputable def Qo(K:ac)(t:Adr):DS:=(Ae (C9 (dMt (rMt K [⟨"list", "list.append", Db⟩]) v6_ (n_ (Do (o_ (Ah Jh (m_ 1) v7_) (q_ (Vu K t) (n_ (Ah (Ax K) v1_ v7_)))))))) Af)
noncomputable def Qp(K:ac)(t:Adr):DS:=(Ae (Ap 5 (dFn (mkC t.c_zbu (some (i_zab K t)) 1) (o_ (Be [none,none] (Bt K v2_) (gdT K 2 [(gdN 0),(gdN 1)]) B6 (Do (o_ v0_ (r_  (Qb K true) (n_ v1_))))) v3_))) (Ae (Ap 6 (Cm Ag)) (Ae (Ca (Bt K v1_) (gdN 7) (Qo K t)) (Ae (Ar (q_ (Vx K t) (o_ v5_ v6_))) Af))))
noncomputable def bz4(K:ac)(t:Adr):DS:=(Ae (Dz v0_ (gdT K 3 [(gdN 2),(gdN 3),(gdN 4)])) (Qp K t))
noncomputable def b55(K:ac)(t:Adr):DS:=(Ae (F0 K "part" v0_ v1_) (Ae (F0 K "choice" v0_ v2_) Af))
noncomputable def by0(K:ac)(t:Adr):DS:=(Ae (Ar (Ah (Jo K false) v1_ (dUn (By K "records") v0_))) Af)
noncomputable def Gk(K:ac)(t:Adr):DS:=(Ae (dIf (Bf (Ah (Bz K false) v2_ (Cm Ag))) (Ae (Co K (dFn (λvs H Q E=>vs.length<=1000/\mkX t.c_zbt (some (i_zk K t)) 1 vs H Q E) (o_ v1_ (dC .non)))) Af) Af) (Ae (Ar v2_) Af))
noncomputable def b54(K:ac)(t:Adr):DS:=(Ae (Ap 2 (Be [none,none,some 1] (Bt K (dUn (By K "kept") v0_)) (gdT K 2 [(gdN 0),(gdN 1)]) (Cu K (Ck "has" 1 (bb6 K t) v1_ (n_ v2_))) (Do (o_ v0_ v1_)))) (Gk K t))
noncomputable def bx0(K:ac)(t:Adr):DS:=(Ae (Ar (q_ (Iq K t) (n_ (Be [none,none] (Bt K (Ck "rows_with" 1 (Er K t) v0_ (n_ v1_))) (gdT K 2 [(gdN 0),(gdN 1)]) B6 v0_)))) Af)
noncomputable def b65(K:ac)(t:Adr):DS:=(Ae (dIf (Bf (Ah (Jo K true) v1_ (dUn (By K "records") v0_))) (Ae (Co K (dFn (λvs H Q E=>vs.length<=1000/\mkX t.c_zbt (some (i_zk K t)) 0 vs H Q E) (n_ v1_))) Af) Af) (Ae (Ar (Ah (Ax K) (dUn (By K "records") v0_) v1_)) Af))
noncomputable def Tc(K:ac)(t:Adr):DS:=(Ae (Ca (Bt K v0_) (gdT K 2 [(gdN 2),(gdN 3)]) (Ae (Dz (Ah am0 (dMt (rMt K [⟨"dict", "dict.get", Lw⟩]) v1_ (o_ v3_ (m_ 0))) v2_) (Ci K v1_ v3_)) Af)) (Ae (Ar (Be [none,some 1] (Bt K v1_) (gdN 0) B6 (Do (o_ (Ah (Ax K) v1_ v0_) v0_)))) Af))
noncomputable def b00(K:ac)(t:Adr):DS:=(Ae (Ap 1 De) (Tc K t))
noncomputable def b63(K:ac)(t:Adr):DS:=(Ae (Ar (q_ (Qk K t) (n_ (Be [none,none,some 1] (Bt K (Ck "rows_with" 1 (Er K t) v0_ (n_ v1_))) (gdT K 2 [(gdN 0),(gdN 1)]) B6 (Do (o_ v0_ (dSl K (Ck "state" 1 (R0 K t) v1_ (n_ v2_)) Gc (Kz (m_ 3))))))))) Af)
noncomputable def b49(K:ac)(t:Adr):DS:=(Ae (Ar (Ah (Ax K) (Ck "state" 1 (R0 K t) v0_ (n_ v1_)) (m_ 3))) Af)
noncomputable def b57(K:ac)(t:Adr):DS:=(Ae (Ar (q_ (Qk K t) (n_ (Be [none,none,some 1] (Bt K (Ck "rows_with" 1 (Er K t) v0_ (n_ v1_))) (gdT K 2 [(gdN 0),(gdN 1)]) B6 (Do (o_ v0_ (Ck "content_of" 1 (Ms K t) v1_ (n_ v2_)))))))) Af)
noncomputable def bz0(K:ac)(t:Adr):DS:=(Ae (Ar (Nr K (r_  (Fj K) (o_ v0_ (dC (.ty "int")))) (ad4 K (r_  (Fj K) (o_ v0_ (dC (.ty "bool"))))))) Af)
noncomputable def Gm(K:ac)(t:Adr):DS:=(Ae (Dz (Do (o_ (Ah (Ba K) (Ah (Ax K) (Ah (Ax K) v3_ (Ah (Ax K) v6_ (m_ 0))) (m_ 0)) (Ah Jh (m_ 1) v4_)) v5_)) (Ci K v3_ (Ah (Ax K) v6_ (m_ 0)))) Af)
noncomputable def Gn(K:ac)(t:Adr):DS:=(Ae (dIf (Bf (Ah (Bz K false) v6_ (Cm Ag))) (Ae (C9 (dMt (rMt K [⟨"list", "list.append", Db⟩]) v3_ (n_ (Do (o_ (Ah Jh (m_ 1) v4_) v5_))))) Af) (Gm K t)) Af)
noncomputable def Ce(K:ac)(t:Adr):DS:=(Ae (Ap 6 (Be [none,none,some 5] (iEn K (n_ v3_)) (gdT K 2 [(gdN 0),(gdN 1)]) (Bf (Ah (Bz K false) (Ah (Ax K) v1_ (m_ 1)) v2_)) v0_)) (Gn K t))
noncomputable def Go(K:ac)(t:Adr):DS:=(Ae (Ap 5 (dSl K (Ah (Ax K) (Ah (Ax K) v0_ v4_) v1_) Gc (Kz (m_ 3)))) (Ae (dIf (Cu K v2_) (Ae (Ap 5 (Ah (Ax K) (Ah (Ax K) (Ah (Ax K) v0_ v4_) v1_) (m_ 3))) Af) Af) (Ce K t)))
noncomputable def Gq(K:ac)(t:Adr):DS:=(Ae (Ca (Bt K (r_  (Va K true) (n_ v0_))) (gdN 4) (Ae (dIf (Bf (Ah (Jo K false) v1_ (Ah (Ax K) v0_ v4_))) (Go K t) Af) Af)) (Ae (Ar v3_) Af))
noncomputable def b56(K:ac)(t:Adr):DS:=(Ae (Ap 3 (Cm Ag)) (Gq K t))
noncomputable def M3(K:ac)(t:Adr):DS:=(Ae (dIf (dOr (Da (Cu K (r_  (Fj K) (o_ v2_ (dC (.ty "tuple")))))) (Da (Cu K (q_ (Qi K t) (n_ (Ah (Ax K) v2_ (m_ 0))))))) (Ae (Ar (dC (.bl false))) Af) Af) Af)
noncomputable def M4(K:ac)(t:Adr):DS:=(Ae (Ca (Bt K v0_) (gdN 2) (M3 K t)) (Ae (C9 (dMt (rMt K [⟨"list", "list.clear", P9⟩]) v0_ Ag)) (Ae (Ar (dC (.bl true))) Af)))
noncomputable def by5(K:ac)(t:Adr):DS:=(Ae (dIf (dOr (Da (Cu K (r_  (Fj K) (o_ v0_ (dC (.ty "list")))))) (Bf (Ah (Bz K true) v0_ v1_))) (Ae (Ar (dC (.bl false))) Af) Af) (M4 K t))
noncomputable def Jw(K:ac)(t:Adr):DS:=(Ae (dIf (Da (Cu K (q_ (Qg K t) (o_ (Ck "contents" 1 (Je K t) v0_ (n_ v2_)) (q_ (Xr K t) (p_ v1_ v2_ (dC (.bl true)))))))) (Ae (Ar (dC (.bl false))) Af) Af) Af)
noncomputable def Jx(K:ac)(t:Adr):DS:=(Ae (dIf (Da (Cu K (q_ (Qg K t) (o_ (Ck "places" 1 (Od K t) v0_ (n_ v2_)) (q_ (Xr K t) (p_ v1_ v2_ (dC (.bl false)))))))) (Ae (Ar (dC (.bl false))) Af) Af) (Jw K t))
noncomputable def Jy(K:ac)(t:Adr):DS:=(Ae (dIf (dOr (Da (Cu K (q_ (Qi K t) (n_ v4_)))) (Bf (Ah (Bz K true) v4_ v3_))) (Ae (Ar (dC (.bl false))) Af) Af) (Ae (Ca (F7 (n_ (m_ 2))) (gdN 5) (Jx K t)) (Ae (Ar (dC (.bl true))) Af)))
noncomputable def b69(K:ac)(t:Adr):DS:=(Ae (Ap 3 (r_  (bl7 K) (n_ (K0 (Be [none,some 1,some 2] (Bt K v1_) (gdN 0) (Bf (Ah (Jo K false) v2_ (Ah (Ax K) v1_ v0_))) (Ah Jh (m_ 1) v0_)))))) (Ae (Ap 4 (Ck "where" 1 (R1 K t) v0_ (n_ v2_))) (Jy K t)))
noncomputable def Ju(K:ac)(t:Adr):DS:=(Ae (dIf (Bf (Ah (Bz K false) v2_ (m_ 1))) (Ae (C9 (Ck "places" 1 (Od K t) v0_ (n_ v1_))) Af) Af) (Ae (dIf (Bf (Ah (Bz K false) v2_ (m_ 2))) (Ae (C9 (Ck "contents" 1 (Je K t) v0_ (n_ v1_))) Af) Af) Af))
noncomputable def Jv(K:ac)(t:Adr):DS:=(Ae (au3 K (Ae (dIf (Bf (Ah (Bz K false) v2_ (m_ 0))) (Ae (C9 (Ck "where" 1 (R1 K t) v0_ (n_ v1_))) Af) Af) (Ju K t)) [(t.c_zbt,.as 4,(Ae (Ap 3 (Do (Ac (dUn (By K "part") (Aa 4)) (Ac (dUn (By K "choice") (Aa 4)) (Ac (dFn (λvs H Q _=>(Fj K) vs H Q) (Ac (Aa 4) (Ac (dC (.ref t.c_zbq)) Ag))) (Ac (dFn (λvs H Q _=>(Fj K) vs H Q) (Ac (Aa 4) (Ac (dC (.ref t.c_zbs)) Ag))) Ag))))))
  Af))]) (Ae (Ar (Ah (Bz K false) v3_ (Do (Ac v1_ (p_ (dC .non) (dC (.bl true)) (dC (.bl false))))))) Af))
noncomputable def b68(K:ac)(t:Adr):DS:=(Ae (Ap 3 (dC .non)) (Jv K t))
noncomputable def a19(K:ac)(t:Adr):DS:=(Ae (Ca (F7 (n_ (m_ 3))) (gdN 7) (Ae (dIf (Da (Cu K (q_ (ap6 K t) (p_ v4_ v6_ v7_)))) (Ae (Ar (dC (.bl false))) Af) Af) Af)) Af)
noncomputable def a20(K:ac)(t:Adr):DS:=(Ae (dIf (Bf (Ah (Bz K true) (K0 (Be [none,some 3,some 6] (Bt K v3_) (gdN 0) (Bf (Ah (Jo K false) v2_ (Ah (Ax K) v1_ v0_))) v0_)) (Cm Ag))) (Ae (dIf (Da (Cu K (q_ (ap7 K t) (p_ v4_ v3_ v6_)))) (Ae (Ar (dC (.bl false))) Af) Af) Af) (a19 K t)) Af)
noncomputable def a21(K:ac)(t:Adr):DS:=(Ae (Ap 5 (Cm (o_ (dC (.str "")) (Ah (Ba K) (Ah (Ax K) v2_ (m_ 0)) (Ah (C6 K) (dC (.str "x")) (r_ Uz8 (n_ (Ah bl6 (r_  (Dp K) (n_ (Ah (Ax K) v2_ (m_ 0)))) (m_ 12))))))))) (Ae (Ca (Bt K (Ah (Ba K) v2_ v5_)) (gdN 6) (a20 K t)) (Ae (Ar (dC (.bl true))) Af)))
noncomputable def b05(K:ac)(t:Adr):DS:=(Ae (Dz (q_ (V0 K t) (o_ v0_ (Ah (Bz K false) (Ah Bh (q_ (Eu K t) (o_ v0_ (m_ 0))) (m_ 8)) (m_ 1)))) (gdT K 3 [(gdN 1),(gdN 2),(gdN 3)])) (Ae (Ap 4 (q_ (Vz K t) (o_ v1_ v3_))) (a21 K t)))
end K32
namespace K32
open PySem L2 Pn
theorem Sz {α:Type} [DecidableEq α]{l:List α}{x:List α}(nd:l.Nodup)(h:∀z∈l,z∈x):l.length<=x.length:=by
 induction l generalizing x with
 |nil=>exact bC _
 |cons a l ih=>
  obtain⟨na,nd⟩:=List.nodup_cons.mp nd
  have ha:=h a aJ
  have:=ih (x:=x.erase a) nd λz hz=>(List.mem_erase_of_ne (λe:z=a=>na (e▸hz))).mpr (h z (ax _ hz))
  rw[List.length_erase_of_mem ha] at this
  have:0<x.length:=List.length_pos_of_mem ha
  rw[aN]
  omega
theorem Uz3(h:a<2 ^ n):a ||| 2 ^ n=a+2 ^ n:=by
 have:=Nat.two_pow_add_eq_or_of_lt h 1
 rw[Nat.mul_one] at this
 rw[Nat.or_comm,<- this,lF]
theorem Tb:∀l:List Nat,(l.map λn:Nat=>(1 * 2 ^ ((n:Int)).toNat:Int)).sum=(((l.map λi=>2 ^ i).sum:Nat):Int)
 |[]=>rfl
 | n::l=>by
  rw[aS,kO,Tb l,aS,kO,ix,aY,Dm,Int.natCast_add]
theorem av0(sw:Sw)(ζ:List Sw):Aw sw ζ=(ay (Al sw).length).filter λi=>(D9 sw ζ).testBit i:=by
 unfold Aw
 refine gT λi hi=>?_
 rw[Ye,decide_eq_true (List.mem_range.mp hi),jj]
 rfl
theorem Fb(h:n∈Aw sw ζ):n<(Al sw).length/\(D9 sw ζ).testBit n=true:=by
 rw[av0,bz,cw] at h
 exact h
theorem K8(sw:Sw)(ζ:List Sw):(Aw sw ζ).Pairwise (· < ·):=List.Pairwise.filter _ List.pairwise_lt_range
theorem av1(h:Aw sw ζ≠[]):K7 sw ζ≠0:=by
 obtain⟨n,hn⟩:=List.exists_mem_of_ne_nil _ h
 have:=(Fb hn).2
 rw[Ib]
 intro e
 have e:D9 sw ζ=0:=by omega
 rw[e,fY] at this
 cases this
theorem Rr {α β:Type}(f:α->List β)(hs:0<s):∀(l:List α),(∀a∈l,(f a).length=s) -> ∀n,(l.flatMap f)[n]?=(l[n / s]?).bind λa=>(f a)[n % s]?
 |[],_,n=>by simp
 | a::l,h,n=>by
  have ha:=h a aJ
  rw[i5]
  by_cases hn:n<s
  .rw[bK (by rw[ha];exact hn),Nat.div_eq_of_lt hn,Nat.mod_eq_of_lt hn];rfl
  .rw[bA (by rw[ha];omega),ha,Rr f hs l (λb hb=>h b (ax _ hb)),Nat.div_eq_sub_div (a:=n) hs (by omega),bI,Nat.mod_eq_sub_mod (a:=n) (by omega)]
theorem D0:∀(l:List Nat)(n:Nat),(Mq l n).length=l.length
 |[],_=>rfl
 |s::r,n=>by rw[Mq,aU,D0 r];rfl
theorem Xk:∀(L:Sw),(∀x∈L,F9 x.2) -> ∀(n:Nat)(r:List Str),(Al L.reverse)[n]?=some r -> ∀(i:Nat)(x:Str×List Str),L.reverse[i]?=some x -> ∃d,(Mq (L.map (·.2.length)) n)[i]?=some d/\d<x.2.length/\r[i]?=x.2[d]?
 |[],_,n,r,_,i,x,hx=>by simp at hx
 | y::L,h,n,r,hr,i,x,hx=>by
  have oy:=h y aJ
  have h2:∀x∈L,F9 x.2:=λx hx=>h x (ax _ hx)
  have pos:0<y.2.length:=by have:=oy.2.1;omega
  have e:Al (y::L).reverse=Eg (Al L.reverse) y:=by unfold Al;rw[List.reverse_cons,fJ];rfl
  rw[e] at hr
  unfold Eg at hr
  rw[Rr _ pos _ (λa _=>ae _)] at hr
  obtain⟨a,ha,hb⟩:=Option.bind_eq_some_iff.mp hr
  rw[al] at hb
  obtain⟨z,hz,rfl⟩:=Option.map_eq_some_iff.mp hb
  have la:a.length=L.length:=by
   have:=(Hh (sw:=L.reverse) λx hx=>h2 x (List.mem_reverse.mp hx)).2.1 a (ak ha)
   rwa[bx] at this
  rw[List.reverse_cons] at hx
  rw[aS,Mq]
  by_cases hi:i<L.length
  .rw[bK (by rw[bx];exact hi)] at hx
   obtain⟨d,h3,h4,h5⟩:=Xk L h2 (n / y.2.length) a ha i x hx
   refine⟨d,?_,h4,?_⟩
   .rw[bK (by rw[D0,ae];exact hi)];exact h3
   .rw[bK (by omega)];exact h5
  .have hi2:i=L.length:=by
    have:=Aj hx
    rw[aU,bx] at this
    have:i<L.length+1:=this
    omega
   subst hi2
   rw[bA (by rw[bx];exact ag _),bx,gh] at hx
   cases hx
   refine⟨n % y.2.length,?_,Nat.mod_lt _ pos,?_⟩
   .rw[bA (by rw[D0,ae];exact ag _),D0,ae,gh];rfl
   .rw[bA (by omega),la,gh,hz];rfl
theorem a84 {sw:Sw}{n i:Nat}{r:List Str}{x:Str×List Str}(hw:okSw sw)(hn:(Al sw)[n]?=some r)(hx:sw[i]?=some x):∃d,(Pg sw n)[i]?=some d/\d<x.2.length/\r[i]?=x.2[d]?:=by
 have:=Xk sw.reverse (λx hx=>hw.sets x (List.mem_reverse.mp hx)) n r (by rw[j8];exact hn) i x (by rw[j8];exact hx)
 unfold Pg
 rwa[dI] at this
theorem K2(sw:Sw)(n:Nat):(Pg sw n).length=sw.length:=by unfold Pg;rw[D0,bx,ae]
structure GInv (n:Nat) (gs:List Gp):Prop where
 nd:(gs.map (·.1)).Nodup
 asc:(gs.map (·.2.1)).Pairwise (· < ·)
 one:∀g∈gs,g.2.1<n/\g.2.2<2 ^ n/\g.2.2.testBit g.2.1=true/\∀j,j<g.2.1->g.2.2.testBit j=false
theorem GInv.mono(h:GInv n gs)(hm:n<=m):GInv m gs:=⟨h.nd,h.asc,λg hg=>let ⟨a,b,c⟩:=h.one g hg;⟨by omega,aP b (ij (by decide) hm),c⟩⟩
theorem GInv.put(k:TK)(h:GInv n gs):GInv (n+1) (Gg gs k n):=by
 have h1:=h.mono (dm n)
 unfold Gg
 split
 .refine⟨?_,?_,λg hg=>?_⟩
  .have:(gs.map λg=>if g.1=k then (g.1,g.2.1,g.2.2 ||| 2 ^ n) else g).map (·.1)=gs.map (·.1):=by
    rw[aw]
    exact bu λg _=>by show (if _ then _ else _:Gp).1=_;split <;> rfl
   rw[this];exact h.nd
  .have:(gs.map λg=>if g.1=k then (g.1,g.2.1,g.2.2 ||| 2 ^ n) else g).map (·.2.1)=gs.map (·.2.1):=by
    rw[aw]
    exact bu λg _=>by show (if _ then _ else _:Gp).2.1=_;split <;> rfl
   rw[this];exact h.asc
  .obtain⟨g,hg0,rfl⟩:=List.mem_map.mp hg
   clear hg
   split
   .obtain⟨a,b,c,d⟩:=h.one g hg0
    refine⟨du a,?_,?_,λj hj=>?_⟩
    .show g.2.2 ||| 2 ^ n<2 ^ (n+1)
     rw[Uz3 b,Nat.pow_succ];omega
    .show (g.2.2 ||| 2 ^ n).testBit g.2.1=true
     rw[fc,c];rfl
    .show (g.2.2 ||| 2 ^ n).testBit j=false
     rw[fc,d j hj,ce]
     exact decide_eq_false (by have:j<g.2.1:=hj;omega)
   .exact h1.one g hg0
 .rename_i hk
  refine⟨?_,?_,λg hg=>?_⟩
  .rw[ar]
   refine List.nodup_append.mpr ⟨h.nd,by simp,λa ha b hb e=>?_⟩
   have:b=k:=by simpa using hb
   exact hk (by rw[<- this,<- e];exact ha)
  .rw[ar]
   refine List.pairwise_append.mpr ⟨h.asc,by simp,λa ha b hb=>?_⟩
   have:b=n:=by simpa using hb
   obtain⟨g,hg,rfl⟩:=List.mem_map.mp ha
   rw[this]
   exact (h.one g hg).1
  .rcases List.mem_append.mp hg with hg|hg
   .exact h1.one g hg
   .obtain rfl:g=(k,n,2 ^ n):=by simpa using hg
    refine⟨cy n,?_,?_,λj hj=>?_⟩
    .show 2 ^ n<2 ^ (n+1)
     exact Nat.pow_lt_pow_right (by decide) (cy n)
    .show (2 ^ n).testBit n=true
     rw[ce];exact decide_eq_true rfl
    .show (2 ^ n).testBit j=false
     rw[ce];exact decide_eq_false (by have:j<n:=hj;omega)
theorem Fd {f:Nat->TK}{ns:List Nat}{i n:Nat}(h:ns[i]?=some n):B3 f (ns.take (i+1))=Gg (B3 f (ns.take i)) (f n) n:=Cd h _ _
theorem Kt {ns:List Nat}(asc:ns.Pairwise (· < ·)){i n:Nat}(h:ns[i]?=some n):∀m∈ns.take i,m<n:=λm hm=>by
 obtain⟨j,hj,rfl⟩:=List.mem_iff_getElem.mp hm
 rw[aC] at hj
 have hi:=Aj h
 have e:ns[i]=n:=aG ((aj hi).symm.trans h)
 rw[i6,<- e]
 exact List.pairwise_iff_getElem.mp asc j i (by omega) hi (by omega)
theorem G8 {f:Nat->TK}{ns:List Nat}(asc:ns.Pairwise (· < ·)):∀(i n:Nat),(∀m∈ns.take i,m<n)->GInv n (B3 f (ns.take i))
 |0,n,_=>⟨iQ,i0,λg hg=>by cases hg⟩
 | i+1,n,h=>by
  cases e:ns[i]? with
  |none=>
   have e2:ns.take (i+1)=ns.take i:=by rw[aR,e];simp
   rw[e2] at h ⊢
   exact G8 asc i n h
  |some m=>
   rw[Fd e]
   have hm:m<n:=h m (by rw[aR,e];simp)
   exact ((G8 asc i m (Kt asc e)).put (f m)).mono hm
theorem ak2(h:g∈Gg gs k n):g.1=k\/g.1∈gs.map (·.1):=by
 unfold Gg at h
 split at h
 .obtain⟨g',hg,rfl⟩:=List.mem_map.mp h
  split
  .exact .inl ‹_›
  .exact .inr (bF hg)
 .rcases List.mem_append.mp h with h|h
  .exact .inr (bF h)
  .obtain rfl:g=(k,n,2 ^ n):=by simpa using h
   exact .inl rfl
theorem Lb {f:Nat->TK}{ns:List Nat}:∀(i:Nat) {g:Gp},g∈B3 f (ns.take i) -> ∃n∈ns,g.1=f n
 |0,g,h=>by cases h
 | i+1,g,h=>by
  cases e:ns[i]? with
  |none=>
   have e2:ns.take (i+1)=ns.take i:=by rw[aR,e];simp
   rw[e2] at h
   exact Lb i h
  |some m=>
   rw[Fd e] at h
   rcases ak2 h with h|h
   .exact⟨m,ak e,h⟩
   .obtain⟨g',hg,e3⟩:=List.mem_map.mp h
    obtain⟨n,hn,q⟩:=Lb i hg
    exact⟨n,hn,by rw[<- e3];exact q⟩
theorem bnd:∀l:List Nat,∃N,∀m∈l,m<N
 |[]=>⟨0,λ_ h=>by cases h⟩
 | n::l=>by
  obtain⟨N,h⟩:=bnd l
  exact⟨N+n+1,λm hm=>by rcases List.mem_cons.mp hm with rfl|hm;omega;have:=h m hm;omega⟩
theorem Wz {tr:Nat->Tr}{ns:List Nat}(asc:ns.Pairwise (· < ·))(h:∃Ts:List Tr,Ts.length<=4/\∀n∈ns,tr n∈Ts)(i:Nat):(B3 (λn=>vkT (tr n)) (ns.take i)).length<=4:=by
 obtain⟨Ts,h4,hm⟩:=h
 obtain⟨N,hN⟩:=bnd (ns.take i)
 have:=Sz (x:=Ts.map vkT) (G8 (f:=λn=>vkT (tr n)) asc i N hN).nd λz hz=>by
  obtain⟨g,hg,rfl⟩:=List.mem_map.mp hz
  obtain⟨n,hn,e⟩:=Lb i hg
  rw[e]
  exact bF (hm n hn)
 rw[ae,ae] at this
 omega
theorem ay7(h:¬ k∈gs.map (·.1)):Gg gs k n=gs++[(k,n,2 ^ n)]:=by unfold Gg;rw[if_neg h]
mutual
noncomputable def tkD:TK->Dt
 |.at_ k=>.at_ (kV k)
 |.tup l=>.tup (Ho l)
noncomputable def Ho:List TK->List Dt
 |[]=>[]
 |k::ks=>tkD k::Ho ks
end
theorem V5(x:TK):∀ {v:V},TkAt H x v->At K H (tkD x) v:=by
 refine TK.rec (motive_1:=λx=>∀ {v:V},TkAt H x v->At K H (tkD x) v) (motive_2:=λl=>∀ {vs:List V},Ao H l vs->AtL K H (Ho l) vs) ?_ ?_ ?_ ?_ x
 .intro k v h;unfold TkAt at h;unfold tkD At;exact⟨h,Pp k⟩
 .intro l ih v h;unfold TkAt at h;obtain⟨a,xs,e,q,i⟩:=h;unfold tkD At;exact⟨a,xs,e,SqT.of q,ih i⟩
 .intro vs h;unfold Ao at h;unfold Ho AtL;exact h
 .intro x l h1 h2 vs h;unfold Ao at h;obtain⟨v,r,e,q1,q2⟩:=h;unfold Ho AtL;exact⟨v,r,e,h1 q1,h2 q2⟩
theorem Xv(x:TK):dep (tkD x)=Aq x:=by
 refine TK.rec (motive_1:=λx=>dep (tkD x)=Aq x) (motive_2:=λl=>E2 (Ho l)=B8 l) ?_ ?_ ?_ ?_ x
 .intro k;unfold tkD dep Aq;rfl
 .intro l ih;unfold tkD dep Aq;rw[ih]
 .unfold Ho E2 B8;rfl
 .intro x l h1 h2;unfold Ho E2 B8;rw[h1,h2]
theorem bm6(x:TK):∀y,deq (tkD x) (tkD y)=decide (x=y):=by
 refine TK.rec (motive_1:=λx=>∀y,deq (tkD x) (tkD y)=decide (x=y)) (motive_2:=λl=>∀l',E3 (Ho l) (Ho l')=decide (l=l')) ?_ ?_ ?_ ?_ x
 .intro k y
  cases y with
  |at_ k'=>unfold tkD deq;exact (ac1 k k').symm
  |tup l=>unfold tkD deq;exact (decide_eq_false λe=>by cases e).symm
 .intro l ih y
  cases y with
  |at_ k'=>unfold tkD deq;exact (decide_eq_false λe=>by cases e).symm
  |tup l'=>unfold tkD deq;rw[ih l'];exact decide_eq_decide.mpr ⟨λe=>by rw[e],λe=>by injection e⟩
 .intro l'
  cases l' with
  |nil=>unfold Ho E3;exact (decide_eq_true rfl).symm
  |cons _ _=>unfold Ho E3;exact (decide_eq_false λe=>by cases e).symm
 .intro x l h1 h2 l'
  cases l' with
  |nil=>unfold Ho E3;exact (decide_eq_false λe=>by cases e).symm
  |cons y l'=>
   unfold Ho E3
   rw[h1,h2,<- Bool.decide_and]
   exact decide_eq_decide.mpr ⟨fun⟨a,b⟩=>by rw[a,b],λe=>by injection e with a b;exact⟨a,b⟩⟩
theorem RcAt.tk(h:RcAt H a x):TkAt H (rcT x) (.ref a):=by
 obtain⟨v,e,q⟩:=h
 unfold rcT TkAt
 refine⟨a,_,rfl,e,?_⟩
 unfold Ao;refine⟨_,_,rfl,by unfold TkAt;rfl,?_⟩
 unfold Ao;refine⟨_,_,rfl,by unfold TkAt;rfl,?_⟩
 unfold Ao;refine⟨_,_,rfl,by unfold TkAt;rfl,?_⟩
 unfold Ao;refine⟨_,_,rfl,q,?_⟩
 unfold Ao;rfl
theorem RcAt.up(h:∀b ys,H b=some (.tup ys)->H' b=some (.tup ys))(q:RcAt H a x):RcAt H' a x:=let ⟨v,e,q⟩:=q;⟨v,h _ _ e,q.up h⟩
theorem Kl:∀ {T:Tr} {n:Str} {x:Rc},T.lookup n=some x->(n,x)∈T
 |[],_,_,h=>by cases h
 | (m,y)::T,n,x,h=>by
  rw[jx] at h
  split at h
  .rename_i e
   cases h
   rw[cf e]
   exact aJ
  .exact ax _ (Kl h)
theorem Uq:∀ {T:Tr} {n:Str} {x:Rc},(T.map (·.1)).Nodup->(n,x)∈T->T.lookup n=some x
 | (m,y)::T,n,x,nd,h=>by
  rw[aS,cP] at nd
  rw[jx]
  rcases List.mem_cons.mp h with e|h
  .cases e
   rw[beq_self_eq_true]
  .have:(n==m)=false:=beq_false_of_ne λe=>nd.1 (by rw[<- e];exact List.mem_map.mpr ⟨(n,x),h,rfl⟩)
   rw[this]
   exact Uq nd.2 h
theorem Cy:∀ {l:List TK},(∀k∈l,Aq k<=n)->B8 l<=n
 |[],_=>by unfold B8;exact bC _
 |d::ds,h=>by unfold B8;exact Nat.max_le.mpr ⟨h d aJ,Cy λx hx=>h x (ax _ hx)⟩
theorem Ga(k:Key)(n:Nat):Aq (.at_ k)<=n:=by unfold Aq;exact bC _
theorem a05(h:Aq x.c<=2):Aq (rcT x)<=3:=by
 unfold rcT Aq
 refine cz (Cy λk hk=>?_)
 simp only[aO,cS,or_false] at hk
 rcases hk with rfl|rfl|rfl|rfl
 .exact Ga _ _
 .exact Ga _ _
 .exact Ga _ _
 .exact h
theorem bn3(o:Cb T):Aq (vkT T)<=8:=by
 unfold vkT Aq
 refine cz (a9 (Cy (n:=4) λk hk=>?_) (by decide))
 obtain⟨n,_,rfl⟩:=List.mem_map.mp hk
 unfold Aq
 refine cz (Cy λk hk=>?_)
 simp only[aO,cS,or_false] at hk
 rcases hk with rfl|rfl
 .exact Ga _ _
 .unfold Vb
  cases e:T.lookup n with
  |none=>unfold Option.map Option.getD Aq B8;decide
  |some x=>exact a05 (o.2.2 (n,x) (Kl e)).1
theorem J6:∀ {ds:List Dt},(∀d∈ds,dep d<=n)->E2 ds<=n
 |[],_=>by unfold E2;exact bC _
 |d::ds,h=>by unfold E2;exact Nat.max_le.mpr ⟨h d aJ,J6 λx hx=>h x (ax _ hx)⟩
theorem Rv {α β:Type}{F G:α->β}(h:∀a b,F a=G b->a=b):∀ {l m:List α},l.map F=m.map G->l=m
 |[],[],_=>rfl
 |[],_::_,e=>by cases e
 |_::_,[],e=>by cases e
 | a::l,b::m,e=>by
  rw[aS,aS] at e
  injection e with e1 e2
  rw[h a b e1,Rv h e2]
theorem Vc(h:T.lookup n=some x):Vb T n=rcT x:=by unfold Vb;rw[h];rfl
theorem Pr {T:Tr}{n:Str}(h:¬ n∈T.map (·.1)):T.lookup n=none:=by
 cases e:T.lookup n with
 |none=>rfl
 |some x=>exact absurd (List.mem_map.mpr ⟨(n,x),Kl e,rfl⟩) h
theorem Up(o:Cb T)(h:n∈T.map (·.1)):∃x,T.lookup n=some x/\(n,x)∈T:=by
 obtain⟨⟨m,x⟩,hx,rfl⟩:=List.mem_map.mp h
 exact⟨x,Uq o.1 hx,hx⟩
theorem a51 {T T':Tr}(o:Cb T)(o':Cb T')(e:vkT T=vkT T')(n:Str):stT T n=stT T' n:=by
 unfold vkT at e
 injection e with e
 have en:Fm (T.map (·.1))=Fm (T'.map (·.1)):=Rv (λa b z=>by injection z with z;injection z with z _;injection z with z;injection z) e
 have mm:∀n,n∈T.map (·.1) ↔ n∈T'.map (·.1):=λn=>by rw[<- (Ef (T.map (·.1))).mem_iff,en,(Ef _).mem_iff]
 by_cases h:n∈T.map (·.1)
 .obtain⟨x,ex,_⟩:=Up o h
  obtain⟨y,ey,_⟩:=Up o' ((mm n).mp h)
  rw[<- en] at e
  have:=List.map_inj_left.mp e n ((Ef _).mem_iff.mpr h)
  injection this with this
  injection this with _ this
  injection this with this _
  rw[Vc ex,Vc ey] at this
  unfold stT
  rw[ex,ey,cF,cF,this]
 .unfold stT
  rw[Pr h,Pr λz=>h ((mm n).mpr z)]
theorem Kd(o:Cb T)(n:Str):Yh (vkT T) n ↔ (stT T n).isSome=true:=⟨fun⟨T',o',e,h⟩=>by rw[<- a51 o' o e];exact h,λh=>⟨T,o,rfl,h⟩⟩
theorem Kc {f:Nat->TK}{ns:List Nat}:∀(i:Nat),∀n∈ns.take i,∃g∈B3 f (ns.take i),g.1=f n
 |0,n,h=>by cases h
 | i+1,n,h=>by
  cases e:ns[i]? with
  |none=>
   have e2:ns.take (i+1)=ns.take i:=by rw[aR,e];simp
   rw[e2] at h ⊢
   exact Kc i n h
  |some m=>
   have km:∀k,k∈(B3 f (ns.take i)).map (·.1)\/k=f m -> ∃g∈B3 f (ns.take (i+1)),g.1=k:=λk hk=>by
    have:k∈(B3 f (ns.take (i+1))).map (·.1):=by
     rw[Fd e]
     unfold Gg
     split
     .rename_i hh
      have q:((B3 f (ns.take i)).map λg=>if g.1=f m then (g.1,g.2.1,g.2.2 ||| 2 ^ m) else g).map (·.1)=(B3 f (ns.take i)).map (·.1):=by
       rw[aw]
       exact bu λg _=>by show (if _ then _ else _:Gp).1=_;split <;> rfl
      rw[q]
      rcases hk with hk|rfl
      .exact hk
      .exact hh
     .rw[ar]
      rcases hk with hk|rfl
      .exact bX _ hk
      .exact aL _ (by simp)
    obtain⟨g,hg,q⟩:=List.mem_map.mp this
    exact⟨g,hg,q⟩
   rw[aR,e] at h
   rcases List.mem_append.mp h with h|h
   .obtain⟨g,hg,q⟩:=Kc i n h
    exact km _ (.inl (List.mem_map.mpr ⟨g,hg,q⟩))
   .obtain rfl:n=m:=by simpa using h
    exact km _ (.inr rfl)
theorem Kb {f:Nat->TK}{ns:List Nat}:∀(i:Nat) {g:Gp},g∈B3 f (ns.take i) -> ∀n,g.2.2.testBit n=true ↔ n∈ns.take i/\f n=g.1
 |0,g,h=>by cases h
 | i+1,g,h=>by
  intro n
  cases e:ns[i]? with
  |none=>
   have e2:ns.take (i+1)=ns.take i:=by rw[aR,e];simp
   rw[e2] at h ⊢
   exact Kb i h n
  |some m=>
   have mt:n∈ns.take (i+1) ↔ n∈ns.take i\/n=m:=by rw[aR,e];simp
   rw[Fd e] at h
   unfold Gg at h
   rw[mt]
   split at h
   .obtain⟨g,hg,rfl⟩:=List.mem_map.mp h
    have ih:=Kb i hg n
    split
    .rename_i ek
     show (g.2.2 ||| 2 ^ m).testBit n=true ↔ _
     rw[fc,ce,cM,decide_eq_true_iff,ih]
     refine⟨λq=>q.elim (fun⟨a,b⟩=>⟨.inl a,b⟩) λz=>⟨.inr z.symm,by rw[<- z];exact ek.symm⟩,fun⟨a,b⟩=>a.elim (λa=>.inl ⟨a,b⟩) λz=>.inr z.symm⟩
    .rename_i ek
     rw[ih]
     refine⟨fun⟨a,b⟩=>⟨.inl a,b⟩,fun⟨a,b⟩=>a.elim (λa=>⟨a,b⟩) λz=>absurd (by rw[<- b,z]) ek⟩
   .rename_i hk
    rcases List.mem_append.mp h with h|h
    .rw[Kb i h n]
     refine⟨fun⟨a,b⟩=>⟨.inl a,b⟩,fun⟨a,b⟩=>a.elim (λa=>⟨a,b⟩) λz=>absurd (List.mem_map.mpr ⟨g,h,by rw[<- b,z]⟩) hk⟩
    .obtain rfl:g=(f m,m,2 ^ m):=by simpa using h
     show (2 ^ m).testBit n=true ↔ _
     rw[ce,decide_eq_true_iff]
     refine⟨λz=>⟨.inr z.symm,by rw[z]⟩,fun⟨a,b⟩=>a.elim (λa=>?_) λz=>z.symm⟩
     obtain⟨g,hg,q⟩:=Kc (f:=f) i n a
     exact absurd (List.mem_map.mpr ⟨g,hg,q.trans b⟩) hk
theorem a11(asc:l.Pairwise (· < ·)):(l.map λi=>2 ^ i).sum=Jp l:=by
 have:∀i,((l.take i).map λi=>2 ^ i).sum=Jp (l.take i):=λi=>by
  induction i with
  |zero=>rfl
  |succ i ih=>
   cases e:l[i]? with
   |none=>
    have e2:l.take (i+1)=l.take i:=by rw[aR,e];simp
    rw[e2];exact ih
   |some n=>
    have st:Jp (l.take (i+1))=Jp (l.take i) ||| 2 ^ n:=Cd e _ _
    rw[Bl e,List.sum_append,ih,st,Uz3 (iR _ λj hj=>by
     rw[Ly]
     exact decide_eq_false λz=>by have:=Kt asc e j z;omega)]
    simp
 have:=this l.length
 rwa[aA] at this
section
theorem Bk.bits(S:Bk ns tr gs){g:Gp}(hg:g∈gs)(n:Nat):g.2.2.testBit n=true ↔ n∈ns/\vkT (tr n)=g.1:=by
 have:=Kb (f:=λn=>vkT (tr n)) (ns:=ns) ns.length (g:=g) (by rw[aA,<- S.ge];exact hg) n
 rwa[aA] at this
theorem Bk.get(S:Bk ns tr gs){n:Nat}(h:n∈ns):∃g∈gs,g.1=vkT (tr n)/\g.2.2.testBit n=true:=by
 obtain⟨g,hg,e⟩:=Kc (f:=λn=>vkT (tr n)) (ns:=ns) ns.length n (by rw[aA];exact h)
 rw[aA,<- S.ge] at hg
 exact⟨g,hg,e,(S.bits hg n).mpr ⟨h,e.symm⟩⟩
end
section
theorem be9(Z:An K t):OkD K aa6 (Az K t) bl (t.f 20) (t.d 20) (Iq K t):=by
 refine A7 (bz9 K t) λvs H Q E h=>?_
 .obtain⟨a,ms,rfl,hS,k⟩:=h;refine⟨rfl,?_⟩
  refine .inl ⟨⟨_,hS⟩,?_⟩
  refine Bc (A5 (ms.map V.int)) (λi U H'=>(∃v2,U=[some (.ref a),some (.int (Gr (ms.take i))),v2])/\H'=H) ⟨⟨_,rfl⟩,rfl⟩ (λi U H' _ q=>q.2▸hS) ?_ ?_
  .rintro i x U H' hx ⟨⟨v2,rfl⟩,rfl⟩
   obtain⟨m,hm,rfl⟩:=Am hx
   have e:Gr (ms.take (i+1))=cN (Gr (ms.take i)) m:=Cd hm _ _
   exact⟨⟨_,congrArg (λz=>[some (V.ref a),some (V.int z),some (V.int m)]) e.symm⟩,rfl⟩
  .rintro U H' ⟨⟨v2,rfl⟩,rfl⟩
   rw[ae,aA]
   exact .inl k
theorem bf4(Z:An K t):OkD K ab1 (Az K t) bl (t.f 30) (t.d 30) (V3 K t):=by
 refine A7 (b04 K t) λvs H Q E h=>?_
 .obtain⟨a,ms,rfl,hS,hb,k⟩:=h;refine⟨rfl,?_⟩
  refine .inl ⟨⟨_,hS⟩,?_⟩
  refine Bc (A5 (ms.map λn:Nat=>V.int (n:Int))) (λi U H'=>(∃v2,U=[some (.ref a),some (.int (Zf (ms.take i))),v2])/\H'=H) ⟨⟨_,rfl⟩,rfl⟩ (λi U H' _ q=>q.2▸hS) ?_ ?_
  .rintro i x U H' hx ⟨⟨v2,rfl⟩,rfl⟩
   obtain⟨m,hm,rfl⟩:=Am hx
   have e:Zf (ms.take (i+1))=cN (Zf (ms.take i)) (1 * 2 ^ ((m:Int)).toNat):=by
    rw[ix,aY]
    exact Cd hm _ _
   have hm2:=hb m (ak hm)
   refine⟨⟨by omega,by omega,by decide⟩,?_⟩
   exact⟨⟨_,congrArg (λz=>[some (V.ref a),some (V.int z),some (V.int (m:Int))]) e.symm⟩,rfl⟩
  .rintro U H' ⟨⟨v2,rfl⟩,rfl⟩
   rw[ae,aA]
   exact .inl k
theorem bc1(Z:An K t):OkD K Wg (Az K t) bl (t.m_zbu 3) (t.e_zbu 3) (Vj K t):=by
 refine A7 (bx2 K t) λvs H Q E h=>?_
 .obtain⟨p,l,s,sw,rfl,⟨dx,fs,⟨_,hp⟩,hl,hs,hm⟩,⟨ds,e,⟨_,o⟩,_⟩,k⟩:=h;refine⟨rfl,?_⟩
  refine gy ⟨_,_,_,_,hp,Z.pf.cl,(Z.pf.na _ (by simp)),hl,(.inl ⟨_,.inl (SqL.of o),?_⟩)⟩
  have el:(ds.map λx=>V.ref x.2).length=(Al sw).length:=by rw[<- e];simp
  rw[el]
  exact k
theorem br7(Z:An K t):OkD K as1 (Az K t) bl (t.m_zbu 0) (t.e_zbu 0) (an8 K t):=by
 refine A7 (b47 K t) λvs H Q E h=>?_
 .obtain⟨p,l,s,sw,rfl,hs,ht,hn,k⟩:=h;refine⟨rfl,?_⟩
  obtain⟨dx,fs,⟨_,hp⟩,_,_,hm⟩:=id hs
  refine⟨p,dx,fs,⟨t.c_zbu,a36 K t⟩,rfl,.head _,hp,hm _ (by decide),⟨aM rfl,aM rfl⟩,?_⟩
  refine⟨p,l,s,sw,rfl,hs,ht,⟨by omega,by omega,by decide⟩,?_⟩
  have e:1 * 2 ^ (((Al sw).length:Int)).toNat - 1=Ov sw:=by rw[ix,aY];rfl
  show Q (.int (1 * 2 ^ (((Al sw).length:Int)).toNat - 1)) H
  rw[e]
  exact k
theorem bc4(Z:An K t):OkD K Zw (Az K t) bl (t.f 21) (t.d 21) (Vl K t):=by
 refine A7 (bx5 K t) λvs H Q E h=>?_
 .obtain⟨z,lo,hi,rfl,hz,k⟩:=h;refine⟨rfl,?_⟩
  exact⟨rfl,a9 hz (by decide),Nn k⟩
theorem bd1(Z:An K t):OkD K Zz (Az K t) bl (t.f 22) (t.d 22) (Vq K t):=by
 refine A7 (a53 K t) λvs H Q E h=>?_
 .obtain⟨c,rfl,k⟩:=h;refine⟨rfl,?_⟩
  dsimp only[a53,Ae,Ar]
  exact au5 (s1 := "a") (s2 := "z") (c:=c) (i:=0) (a:=97) (b:=122) (by decide +kernel) (by decide +kernel) (by rfl) k
theorem bf1(Z:An K t):OkD K aa8 (Az K t) bl (t.f 23) (t.d 23) (Ql K t):=by
 refine A7 (b01 K t) λvs H Q E h=>?_
 .obtain⟨z,rfl,hz,k⟩:=h;refine⟨rfl,?_⟩
  have hl:z.length<=1000:=a9 hz.2.1 (by decide)
  refine⟨z,1,8,rfl,hl,?_⟩
  have e:(decide (1<=(z.length:Int))&&decide ((z.length:Int)<=8))=true:=by
   have h1:=hz.1
   have h2:=hz.2.1
   simp
   omega
  refine N4 e ?_
  refine X4 (p:=Kk) hl (λc U H1 Q1 hU q=>?_) λH' S=>?_
  .match U,hU with
   |[_],_=>exact⟨c,rfl,q⟩
  .rw[hz.2.2];exact k H' S
theorem bs0(Z:An K t):OkD K a61 (Az K t) bl (t.f 24) (t.d 24) (Xq K t):=by
 refine A7 (b50 K t) λvs H Q E h=>?_
 .obtain⟨a,l,rfl,hS,hl,k⟩:=h;refine⟨rfl,?_⟩
  refine⟨_,true,.sqL rfl hS rfl,rfl,?_⟩
  refine .inl ⟨⟨_,hS⟩,?_⟩
  refine Rh (K:=K) (U:=[none]) (A5 (l.map V.str)) (λU=>U.length=1) (λH1 S=>S.seqL hS) ?_ rfl (λU x hU=>by rw[iA];exact hU) ?_ λD1 H1 S1 q1=>⟨_,q1,?_⟩
  .rw[ae];exact bb hl.2.2 (by decide)
  .intro x U H1 Q1 hx hU S q
   obtain⟨z,hz,rfl⟩:=List.mem_map.mp hx
   match U,hU with
   |[_],_=>exact⟨z,rfl,hl.1 z hz,q⟩
  .rw[Ws]
   refine⟨l,S1.seqL hS,bb hl.2.2 (by decide),.inl ⟨_,.inl (S1.seqL hS),?_⟩⟩
   rw[aw2 hl.2.1,ae]
   have e:decide ((l.length:Int)=(l.length:Int))=true:=by simp
   show Q (.bl (decide ((l.length:Int)=(l.length:Int)))) H1
   rw[e]
   exact k H1 S1
end
section
theorem bd2(Z:An K t):OkD K Z0 (Az K t) bl (t.f 26) (t.d 26) (Vr K t):=by
 refine A7 (by2 K t) λvs H Q E h=>?_
 .obtain⟨a,b,wd,l,rfl,ha,hb,hw,hl,k⟩:=h;refine⟨rfl,?_⟩
  have qa:=SqT.of (K:=K) ha
  have qb:=SqL.of (K:=K) hb
  refine⟨_,true,.sqT rfl qa rfl,rfl,?_⟩
  refine .inl ⟨_,.inr qa,?_⟩
  refine⟨_,_,.inr qa,rfl,?_⟩
  refine⟨wd,rfl,hw,λH1 S1=>?_⟩
  refine⟨_,_,.inr (S1.seqT qa),rfl,?_⟩
  refine⟨b,l,rfl,S1.seqL qb,hl.1,λH2 S2=>?_⟩
  have S:=S1.trans S2
  refine⟨_,_,.inr (S.seqT qa),rfl,.inl ⟨_,.inl (S.seqL qb),?_⟩⟩
  rw[ae]
  have e:(decide (2<=(l.length:Int))&&decide ((l.length:Int)<=4))=true:=by
   have h1:=hl.2.1
   have h2:=hl.2.2
   simp
   omega
  exact Nn (e▸k H2 S)
theorem Pw {es:List ((Str×List Str)×Addr)}{sw:Sw}{i:Nat}{e:Str×List Str}(he:es.map (·.1)=sw.take i)(hi:sw[i]?=some e)(nd:(sw.map (·.1)).Nodup):Bv (es.map kR) (.inr e.1)=none:=by
 refine B4 ?_
 rw[Ki,he]
 intro hm
 obtain⟨w,hw,e2⟩:=List.mem_map.mp hm
 cases e2
 have h1:(sw.map (·.1))[i]?=some e.1:=by rw[al,hi];rfl
 rw[jo] at hw
 obtain⟨j,hj,e3⟩:=List.mem_iff_getElem.mp hw
 rw[aC] at hj
 rw[i6] at e3
 have hi2:=Aj h1
 have e4:(sw.map (·.1))[i]=e.1:=by
  have:=aj hi2
  rw[this] at h1
  exact aG h1
 have:=(dH (i:=j) (j:=i) (h₀:=by omega) (h₁:=hi2) nd).mp (by rw[e3,e4])
 omega
theorem Kh {es:List ((Str×List Str)×Addr)}{e:Str×List Str}{a:Addr}(h:Bv (es.map kR) (.inr e.1)=none):B7 (es.map kR) (.inr e.1) (.ref a)=(es++[(e,a)]).map kR:=by
 rw[C5 _ h,ar]
 rfl
theorem Uc {α β:Type}{es:List (α×β)}{sw:List α}{i:Nat}(h:es.map (·.1)=sw.take i):es.length<=sw.length:=by
 have:=congrArg dj h
 rw[ae,aC] at this
 omega
theorem G6 {α β:Type}{es:List (α×β)}{sw:List α}{i:Nat}{e:α}{a:β}(h:es.map (·.1)=sw.take i)(hi:sw[i]?=some e):(es++[(e,a)]).map (·.1)=sw.take (i+1):=by
 rw[ar,h,aR,hi]
 rfl
theorem bs9(Z:An K t):OkD K a64 (Az K t) bl (t.f 27) (t.d 27) (ao7 K t):=by
 refine A7 (b59 K t) λvs H Q E h=>?_
 .obtain⟨a,sw,rfl,⟨ds,ed,⟨_,oa⟩,hd⟩,hw,k⟩:=h;refine⟨rfl,?_⟩
  have ql:=SqL.of (K:=K) oa
  have el:(ds.map λx=>V.ref x.2).length=sw.length:=by rw[<- ed];simp
  refine⟨_,true,.sqL rfl ql rfl,rfl,?_⟩
  refine .inl ⟨_,.inl ql,?_⟩
  rw[el]
  have e1:decide (1<=(sw.length:Int))=true:=by have:=hw.1;simp;omega
  have e2:decide ((sw.length:Int)<=5)=true:=by have:=hw.2.1;simp;omega
  refine N4 e1 (F8 (by rw[e2];rfl) ?_)
  intro d hd0
  refine .inl (.inl ⟨⟨_,(Same.upd hd0).seqL ql⟩,?_⟩)
  refine Bc (A5 (ds.map λx=>V.ref x.2)) (λi U H'=>(∃v3,U=[some (.ref a),some (.ref d),some (.int (B5 (sw.take i):Nat)),v3])/\Same H H' /\
    ∃es:List ((Str×List Str)×Addr),es.map (·.1)=sw.take i/\H' d=some (.dK (es.map kR))/\∀x∈es,H x.2=none/\H' x.2=some (Dc x.1.2))
   ⟨⟨_,rfl⟩,Same.upd hd0,[],rfl,Ab,λx hx=>by cases hx⟩ (λi U H' _ q=>q.2.1.seqL ql) ?_ ?_
  .rintro i x U H1 hx ⟨⟨v3,rfl⟩,S1,es,ee,e1d,he⟩
   obtain⟨⟨⟨e,la⟩,ta⟩,hi,rfl⟩:=Am hx
   have hi2:sw[i]?=some e:=by rw[<- ed,al,hi];rfl
   obtain⟨⟨_,h1⟩,_,h2⟩:=hd _ (ak hi)
   have hok:=hw.2.2.2.1 e (ak hi2)
   have nk:=Pw ee hi2 hw.2.2.1
   refine⟨ta,la,e.1,e.2,rfl,S1 _ _ h1,S1 _ _ h2,hok.1,hok.2,λH2 S2=>?_⟩
   have S:=S1.trans S2
   have qt:=SqT.of (K:=K) (S _ _ h1)
   have qa:=SqL.of (K:=K) (S _ _ h2)
   refine⟨_,_,.inr qt,rfl,.inr ⟨_,.inl ⟨_,.inr e.1,.inl (S2 _ _ e1d),rfl,rfl⟩,?_⟩⟩
   rw[nk]
   refine⟨_,_,.inr qt,rfl,_,.inl ⟨qa,λtp htp=>?_⟩⟩
   have S3:=Same.upd (o:=Dc e.2) htp
   have et:upd H2 tp (Dc e.2) tp=some (Dc e.2):=Ab
   show Ci K (Aa 1) (Ah (Ax K) (Aa 3) (dC (.int 0))) (.ref tp) [some (.ref a),some (.ref d),some (.int (B5 (sw.take i):Nat)),some (.ref ta)] (upd H2 tp (Dc e.2)) _
   have hft:H tp=none:=S.free htp
   generalize upd H2 tp (Dc e.2)=H3 at S3 et ⊢
   have Sa:=S.trans S3
   have e3d:=S3 _ _ (S2 _ _ e1d)
   have ndt:d≠tp:=Ai (S2 _ _ e1d) htp
   refine⟨_,_,.inr (S3.seqT qt),rfl,_,DPut.k (k:=.inr e.1) e3d ?_,?_⟩
   .rw[ae]
    have:=Uc ee
    have:=hw.2.1
    exact bb (show es.length<=5 by omega) (by decide)
   rw[Kh nk]
   have Sb:Same H (upd H3 d (.dK ((es++[(e,tp)]).map kR))):=Sa.set hd0
   have keep:∀b,b≠d->upd H3 d (.dK ((es++[(e,tp)]).map kR)) b=H3 b:=λb hb=>Ad hb
   have ebd:upd H3 d (.dK ((es++[(e,tp)]).map kR)) d=some (.dK ((es++[(e,tp)]).map kR)):=Ab
   generalize upd H3 d (.dK ((es++[(e,tp)]).map kR))=H4 at Sb keep ebd ⊢
   refine⟨_,_,.inr (SqT.of (Sb _ _ h1)),rfl,.inl ⟨_,.inl (SqL.of (Sb _ _ h2)),?_⟩⟩
   rw[ae]
   have pm:((B5 (sw.take i):Nat):Int) * (e.2.length:Int)=((B5 (sw.take (i+1)):Nat):Int):=by
    unfold B5
    rw[Cd hi2,jO]
   have hb4:=hok.2.2.2
   refine⟨.inr ⟨show -(2 ^ 64)<(e.2.length:Int) by omega,show (e.2.length:Int)<2 ^ 64 by omega⟩,?_⟩
   refine⟨⟨_,congrArg (λz=>[some (V.ref a),some (V.ref d),some (V.int z),some (V.ref ta)]) pm⟩,Sb,es++[(e,tp)],G6 ee hi2,ebd,?_⟩
   intro x hx
   rcases List.mem_append.mp hx with hx|hx
   .obtain⟨a1,a2⟩:=he x hx
    refine⟨a1,?_⟩
    rw[keep x.2 (λz=>by rw[z,e1d] at a2;cases a2)]
    exact S3 _ _ (S2 _ _ a2)
   .have:x=(e,tp):=by simpa using hx
    subst this
    exact⟨hft,by rw[keep _ (cA ndt)];exact et⟩
  .rintro U H1 ⟨⟨v3,rfl⟩,S1,es,ee,e1d,he⟩
   rw[el,aA] at ee
   rw[el,aA]
   refine .inl (F8 ?_ ?_)
   .have:=hw.2.2.2.2
    simp
    omega
   .exact k H1 d S1 ⟨es,ee,⟨hd0,e1d⟩,he⟩
theorem bt6(Z:An K t):OkD K a67 (Az K t) bl (t.f 25) (t.d 25) (ap4 K t):=by
 refine A7 (b66 K t) λvs H Q E h=>?_
 .obtain⟨r,rule,rfl,⟨ds,ed,⟨_,od⟩,hd⟩,nd,hl,k⟩:=h;refine⟨rfl,?_⟩
  intro c hc
  have ncr:r≠c:=Ai od hc
  have od1:upd H c (.dK []) r=some (.dK (ds.map kR)):=by rw[Ad ncr];exact od
  refine .inl (.inr (.inr (.inl (.inl ⟨_,od1,λo=>?_⟩))))
  have Hf:∀b u,b≠r->H b=some u->upd (upd H c (.dK [])) r (.frz o (.dK (ds.map kR))) b=some u:=λb u hb e=>by
   rw[Ad hb,Ad (Ai e hc)];exact e
  have ef:upd (upd H c (.dK [])) r (.frz o (.dK (ds.map kR))) r=some (.frz o (.dK (ds.map kR))):=Ab
  have ec:upd (upd H c (.dK [])) r (.frz o (.dK (ds.map kR))) c=some (.dK []):=by rw[Ad (cA ncr),Ab]
  have len:ds.length=rule.length:=by rw[<- ed];simp
  generalize upd (upd H c (.dK [])) r (.frz o (.dK (ds.map kR)))=H0 at Hf ef ec ⊢
  refine Bc (Ew (ds.map kR)) (λi U H'=>(∃v2,U=[some (.ref r),some (.ref c),v2])/\(∀b u,b≠r->H b=some u->H' b=some u)/\H' r=some (.frz o (.dK (ds.map kR))) /\
    ∃es:List ((Str×List Str)×Addr),es.map (·.1)=rule.take i/\H' c=some (.dK (es.map kR))/\∀x∈es,H x.2=none/\H' x.2=some (Bb x.1.2))
   ⟨⟨_,rfl⟩,Hf,ef,[],rfl,ec,λx hx=>by cases hx⟩ (λi U H' _ q=>q.2.2.1) ?_ ?_
  .rintro i x U H1 hx ⟨⟨v2,rfl⟩,S1,f1,es,ee,e1c,he⟩
   obtain⟨kv,hi0,rfl⟩:=Am hx
   obtain⟨⟨e,la⟩,hi,rfl⟩:=Am hi0
   have hi2:rule[i]?=some e:=by rw[<- ed,al,hi];rfl
   obtain⟨_,h2⟩:=hd _ (ak hi)
   have nla:la≠r:=λz=>by rw[z,od] at h2;cases h2
   have nk:=Pw ee hi2 nd
   have hv:Bv (ds.map kR) (.inr e.1)=some (.ref la):=Bn (Eo ed nd) hi0
   refine⟨.ref la,.inl ⟨_,.inr e.1,.inr ⟨o,f1⟩,rfl,hv.symm⟩,.inl ⟨_,.inl (SqL.of (S1 _ _ nla h2)),λlc hlc=>?_⟩⟩
   have S3:=Same.upd (o:=Bb e.2) hlc
   have et:upd H1 lc (Bb e.2) lc=some (Bb e.2):=Ab
   have nlr:lc≠r:=(Ai f1 hlc).symm
   have hft:H lc=none:=by
    cases q:H lc with
    |none=>rfl
    |some u=>rw[S1 _ _ nlr q] at hlc;cases hlc
   have ndt:c≠lc:=Ai e1c hlc
   show Ci K (Aa 1) (Aa 2) (.ref lc) [some (.ref r),some (.ref c),some (.str e.1)] (upd H1 lc (Bb e.2)) _
   generalize upd H1 lc (Bb e.2)=H3 at S3 et ⊢
   refine⟨_,DPut.k (k:=.inr e.1) (S3 _ _ e1c) ?_,?_⟩
   .rw[ae]
    have:=Uc ee
    exact bb (show es.length<=100 by omega) (by decide)
   rw[Kh nk]
   refine⟨⟨_,rfl⟩,λb u hb e4=>?_,?_,es++[(e,lc)],G6 ee hi2,Ab,?_⟩
   .rw[Ad (Ai e4 hc)];exact S3 _ _ (S1 _ _ hb e4)
   .rw[Ad ncr];exact S3 _ _ f1
   .intro x hx
    rcases List.mem_append.mp hx with hx|hx
    .obtain⟨a1,a2⟩:=he x hx
     refine⟨a1,?_⟩
     rw[Ad (λz=>by rw[z,e1c] at a2;cases a2)]
     exact S3 _ _ a2
    .have:x=(e,lc):=by simpa using hx
     subst this
     exact⟨hft,by rw[Ad (cA ndt)];exact et⟩
  .rintro U H1 ⟨⟨v2,rfl⟩,S1,f1,es,ee,e1c,he⟩
   rw[ae,ae,len,aA] at ee
   refine .inr ⟨r,o,_,od1,f1,?_⟩
   refine k _ c (λb u e4=>?_) ⟨es,ee,⟨hc,?_⟩,λx hx=>⟨(he x hx).1,?_⟩⟩
   .by_cases hb:b=r
    .subst hb;rw[Ab,<- od,e4]
    .rw[Ad hb];exact S1 _ _ hb e4
   .rw[Ad (cA ncr)];exact e1c
   .rw[Ad (λz=>by have:=(he x hx).1;rw[z,od] at this;cases this)];exact (he x hx).2
theorem Of:∀(a:List (List Str))(r:List Str)(k:Nat),Lr k (a++[r])=Lr k a++[(Mu r,.int ((k+a.length:Nat):Int))]
 |[],r,k=>rfl
 | b::a,r,k=>by
  rw[e_,Lr,Of a r (k+1),Lr,aN,e_,show k+1+a.length=k+(a.length+1) by omega]
theorem Oe:∀(a:List (List Str))(k:Nat),(Lr k a).map (·.1)=a.map Mu
 |[],_=>rfl
 |b::a,k=>by rw[Lr,aS,aS,Oe a]
theorem R7:∀(a:List (List Str))(k:Nat),(Lr k a).length=a.length
 |[],_=>rfl
 |b::a,k=>by rw[Lr,aN,aN,R7 a]
theorem ai1(h:Mu a=Mu b):a=b:=by
 unfold Mu at h
 injection h with h
 exact (List.map_inj_right (λx y e=>by injection e with e;injection e)).mp h
theorem Kn:∀r:List Str,Ao H (r.map λz=>.at_ (.inr z)) (r.map V.str)/\B8 (r.map λz=>.at_ (.inr z))=0
 |[]=>⟨by unfold Ao;rfl,rfl⟩
 |z::r=>⟨by rw[aS];unfold Ao;exact⟨_,_,rfl,by unfold TkAt;rfl,(Kn r).1⟩,by rw[aS,B8,(Kn (H:=H) r).2];rfl⟩
theorem bb8(h:H b=some (Dc r)):Aq (Mu r)<=8/\TkAt H (Mu r) (.ref b):=by
 refine⟨?_,?_⟩
 .unfold Mu Aq;rw[(Kn (H:=H) r).2];decide
 .unfold Mu TkAt;exact⟨b,_,rfl,h,(Kn r).1⟩
theorem Ei {α:Type}{l:List α}{i:Nat}{x:α}(nd:l.Nodup)(h:l[i]?=some x):¬ x∈l.take i:=by
 intro hm
 obtain⟨j,hj,e⟩:=List.mem_iff_getElem.mp hm
 rw[aC] at hj
 rw[i6] at e
 have hi:=Aj h
 rw[aj hi] at h
 have:=(dH (i:=j) (j:=i) (h₀:=by omega) (h₁:=hi) nd).mp (by rw[e];exact (aG h).symm)
 omega
theorem br5(Z:An K t):OkD K a59 (Az K t) bl (t.f 29) (t.d 29) (an3 K t):=by
 refine A7 (b45 K t) λvs H Q E h=>?_
 .obtain⟨l,rows,rfl,⟨ds,ed,⟨_,ol⟩,hd⟩,nd,hl,k⟩:=h;refine⟨rfl,?_⟩
  intro n hn
  have ql:=SqL.of (K:=K) ol
  have len:(D6 0 (ds.map λx=>V.ref x.2)).length=rows.length:=by rw[Bj,<- ed];simp
  refine .inr (.inl ⟨⟨_,(Same.upd hn).seqL ql⟩,?_⟩)
  refine J8 (Ey (ds.map λx=>V.ref x.2)) (λi U H'=>(∃v2 v3,U=[some (.ref l),some (.ref n),v2,v3])/\Same H H'/\H' n=some (.dT (Lr 0 (rows.take i))))
   ⟨⟨_,_,rfl⟩,Same.upd hn,Ab⟩ (λi U H' _ q=>q.2.1.seqL ql) ?_ ?_
  .rintro i x y T U H1 hxy hT ⟨⟨v2,v3,rfl⟩,S1,e1⟩
   have hi':=Aj hxy
   rw[Bj,ae] at hi'
   obtain⟨⟨r,b⟩,hi⟩:∃z,ds[i]?=some z:=⟨_,aj hi'⟩
   have:=Cv (k:=0) (xs:=ds.map λx=>V.ref x.2) (i:=i) (x:=.ref b) (by rw[al,hi];rfl)
   rw[this] at hxy
   obtain⟨rfl,rfl⟩:V.int ((0+i:Nat):Int)=x/\V.ref b=y:=by simpa using hxy
   have hi2:rows[i]?=some r:=by rw[<- ed,al,hi];rfl
   have hb:=(hd _ (ak hi)).2
   have ST:=Same.upd (o:=.tup [.int ((0+i:Nat):Int),.ref b]) hT
   refine⟨_,.inl (SqT.of Ab),rfl,?_⟩
   generalize upd H1 T (.tup [.int ((0+i:Nat):Int),.ref b])=H2 at ST ⊢
   have S2:=S1.trans ST
   have hb2:=S2 _ _ hb
   refine⟨_,DPut.t (ST _ _ e1) (bb8 hb2) ?_,⟨_,_,rfl⟩,S2.set hn,?_⟩
   .rw[R7,aC]
    exact bb (show min i rows.length<=256 by omega) (by decide)
   .rw[Ab,C5,aR,hi2,cQ,Of,aC,Nat.min_eq_left (dM (Aj hi2))]
    refine B4 ?_
    rw[Oe]
    intro hm
    obtain⟨r2,h1,h2⟩:=List.mem_map.mp hm
    rw[ai1 h2] at h1
    exact Ei nd hi2 h1
  .rintro U H1 ⟨⟨v2,v3,rfl⟩,S1,e1⟩
   rw[len,aA] at e1
   exact .inl (k H1 n S1 ⟨hn,e1⟩)
end
section
theorem b17(ha:H aa=some (Dc a))(hp:H p=some (.tup [.str z]))(hl:a.length<=100)(k:∀q H',Same H H'->H' q=some (Dc (a++[z]))->(H q=none\/q=p)->Q (.ref q) H'):Ba K (.ref aa) (.ref p) H Q:=by
 cases a with
 |nil=>exact .inr (.inr ⟨aa,p,_,rfl,rfl,SqT.of ha,SqT.of hp,k p H (Same.refl _) hp (.inr rfl)⟩)
 |cons y a=>
  refine .inr (.inl ⟨aa,p,_,_,rfl,rfl,SqT.of ha,SqT.of hp,by simp,?_,(λe=>by cases e),λ_ q hq=>?_⟩)
  .rw[ae]
   exact a9 (show (y::a).length+1<=101 by omega) (by decide)
  .refine k q _ (Same.upd hq) ?_ (.inl hq)
   rw[Ab,Dc,ar]
   rfl
theorem Yc {α:Type}{ok:Addr->Prop}{H:Hp}{f:α->HO}{es:List (α×Addr)}{e:α}{a:Addr}(h:∀x∈es,ok x.2/\H x.2=some (f x.1))(h1:ok a)(h2:H a=some (f e)):∀x∈es++[(e,a)],ok x.2/\H x.2=some (f x.1):=by
 intro x hx
 rcases List.mem_append.mp hx with hx|hx
 .exact h x hx
 .have:x=(e,a):=by simpa using hx
  subst this
  exact⟨h1,h2⟩
theorem au7 {α:Type}{ok:Addr->Prop}{H H':Hp}{f:α->HO}{es:List (α×Addr)}(S:Same H H')(h:∀x∈es,ok x.2/\H x.2=some (f x.1)):∀x∈es,ok x.2/\H' x.2=some (f x.1):=λx hx=>⟨(h x hx).1,S _ _ (h x hx).2⟩
theorem Zi {rows:List (List Str)}{j:Nat}{r:List Str}{x:Str×List Str}(h:rows[j]?=some r):Eg (rows.take (j+1)) x=Eg (rows.take j) x++x.2.map λz=>r++[z]:=by
 unfold Eg
 rw[aR,h,cQ,List.flatMap_append]
 simp
theorem Ur {E:EK}{H0 H:Hp}{aa ta:Addr}{a:List Str}{l:List Str}{U:St}{R:Hp->Addr->Prop}(hU:∃v,U=[v,some (.ref aa)])(S0:Same H0 H)(ha:H aa=some (Dc a))(ht:H ta=some (Dc l))(hl:a.length<=100)(hl2:l.length<=8)(k:∀D H',Same H H'->H D=none -> ∀fs:List (List Str×Addr),fs.map (·.1)=l.map (λz=>a++[z])->H' D=some (.lst (fs.map λx=>.ref x.2))->(∀x∈fs,H0 x.2=none/\H' x.2=some (Dc x.1))->R H' D) :
  ∀D,H D=none->Dx (Itt K ta) (gdN 0) B6 (Ah (Ba K) (Aa 1) (Do (Ac (Aa 0) Ag))) D (λH'=>R H' D) U (upd H D (.lst [])) E:=by
 intro D hD
 refine C7 (ar9 (l.map V.str)) (λm U H'=>(∃v,U=[v,some (.ref aa)])/\Same H H'/\∃fs:List (List Str×Addr),fs.map (·.1)=(l.take m).map (λz=>a++[z])/\H' D=some (.lst (fs.map λx=>.ref x.2))/\∀x∈fs,H0 x.2=none/\H' x.2=some (Dc x.1))
  ⟨hU,Same.upd hD,[],rfl,Ab,λx hx=>by cases hx⟩ (λm U H' _ q=>q.2.1.seqT (SqT.of ht)) ?_ ?_
 .rintro m x U H1 hx ⟨⟨v,rfl⟩,S1,fs,ef,eD,hf⟩
  obtain⟨z,hz,rfl⟩:=Am hx
  refine⟨(show 1<=sizeLine by decide),λp hp=>?_⟩
  have Sp:=Same.upd (o:=.tup [.str z]) hp
  have ep:upd H1 p (.tup [.str z]) p=some (.tup [.str z]):=Ab
  show Ba K (.ref aa) (.ref p) (upd H1 p (.tup [.str z])) _
  generalize upd H1 p (.tup [.str z])=H2 at Sp ep ⊢
  refine b17 (Sp _ _ (S1 _ _ ha)) ep hl λq H3 S3 eq nq=>?_
  have S03:=S0.trans (S1.trans (Sp.trans S3))
  have hq0:H0 q=none:=by
   rcases nq with nq|rfl
   .exact (S0.trans (S1.trans Sp)).free nq
   .exact (S0.trans S1).free hp
  have qD:q≠D:=by
   rcases nq with nq|rfl
   .exact (Ai (Sp _ _ eD) nq).symm
   .exact (Ai eD hp).symm
  have eD3:=S3 _ _ (Sp _ _ eD)
  refine⟨_,eD3,?_,⟨_,rfl⟩,(S1.trans (Sp.trans S3)).set hD,fs++[(a++[z],q)],?_,?_,?_⟩
  .rw[ae]
   have:=congrArg dj ef
   rw[ae,ae,aC] at this
   exact bb (show fs.length<=8 by omega) (by decide)
  .rw[ar,ef,Bl hz];rfl
  .rw[Ab,ar];rfl
  .have hf3:∀x∈fs++[(a++[z],q)],H0 x.2=none/\H3 x.2=some (Dc x.1):=Yc (ok:=λa=>H0 a=none) (f:=Dc) (au7 (ok:=λa=>H0 a=none) (f:=Dc) (Sp.trans S3) hf) hq0 eq
   intro x hx
   refine⟨(hf3 x hx).1,?_⟩
   rw[Ad (λe=>by have:=(hf3 x hx).2;rw[e,eD3] at this;cases this)]
   exact (hf3 x hx).2
 .rintro U H1 ⟨_,S1,fs,ef,eD,hf⟩
  rw[ae,aA] at ef
  exact k D H1 S1 hD fs ef eD hf
theorem br6(Z:An K t):OkD K a60 (Az K t) bl (t.f 28) (t.d 28) (an7 K t):=by
 refine A7 (b46 K t) λvs H Q E h=>?_
 .obtain⟨d,sw,rfl,⟨ds,ed,⟨_,od⟩,hd⟩,hw,k⟩:=h;refine⟨rfl,?_⟩
  refine⟨(show 0<=sizeLine by decide),λt0 h0=>⟨(show 1<=sizeLine by decide),λl0 hl0=>?_⟩⟩
  have St:=Same.upd (o:=.tup []) h0
  have Sl:=Same.upd (o:=.lst [.ref t0]) hl0
  have ft:H t0=none:=h0
  have fl:H l0=none:=St.free hl0
  have et:upd (upd H t0 (.tup [])) l0 (.lst [.ref t0]) t0=some (Dc []):=Sl _ _ Ab
  have el:upd (upd H t0 (.tup [])) l0 (.lst [.ref t0]) l0=some (.lst [.ref t0]):=Ab
  have S0:=St.trans Sl
  generalize upd (upd H t0 (.tup [])) l0 (.lst [.ref t0])=H0 at S0 et el ⊢
  have od0:=S0 _ _ od
  refine .inr (.inr (.inl (.inl ⟨_,od0,λo=>?_⟩)))
  have len:ds.length=sw.length:=by rw[<- ed];simp
  have kf:Kp (fresh H) H0 (fresh H) (upd H0 d (.frz o (.dK (ds.map kR)))):=Kp.off (Fx od)
  have ef:upd H0 d (.frz o (.dK (ds.map kR))) d=some (.frz o (.dK (ds.map kR))):=Ab
  have ht0:∀x∈ds,upd H0 d (.frz o (.dK (ds.map kR))) x.2=some (Dc x.1.2):=λx hx=>by
   rw[Ad (λe=>by have:=(hd x hx).2;rw[e,od] at this;cases this)]
   exact S0 _ _ (hd x hx).2
  have T0:TupsAt (fresh H) (upd H0 d (.frz o (.dK (ds.map kR)))) l0 (Al (sw.take 0)):=⟨[([],t0)],rfl,kf _ _ ⟨fl,el⟩,λx hx=>by
   have:x=([],t0):=by simpa using hx
   subst this
   exact kf _ _ ⟨ft,et⟩⟩
  have frees:∀ {H':Hp} {b:Addr},Same (upd H0 d (.frz o (.dK (ds.map kR)))) H'->H' b=none->H b=none:=λ{H' b} S e=>by
   have e1:=S.free e
   have nb:b≠d:=λz=>by rw[z,ef] at e1;cases e1
   rw[Ad nb] at e1
   exact S0.free e1
  generalize hHf:upd H0 d (.frz o (.dK (ds.map kR)))=Hf at kf ef ht0 T0 frees ⊢
  refine Bc (Ew (ds.map kR)) (λi U H'=>(∃l v2 v3 v4,U=[some (.ref d),some (.ref l),v2,v3,v4]/\TupsAt (fresh H) H' l (Al (sw.take i)))/\Same Hf H') ⟨⟨_,_,_,_,rfl,T0⟩,Same.refl _⟩ (λi U H' _ q=>q.2 _ _ ef) ?_ ?_
  .rintro i x U H1 hx ⟨⟨l,v2,v3,v4,rfl,⟨es,ee,⟨fl1,el1⟩,he⟩⟩,S1⟩
   obtain⟨kv,hi0,rfl⟩:=Am hx
   obtain⟨⟨e,ta⟩,hi,rfl⟩:=Am hi0
   have hi2:sw[i]?=some e:=by rw[<- ed,al,hi];rfl
   have hta:=ht0 _ (ak hi)
   have hoke:=hw.sets e (ak hi2)
   have hv:Bv (ds.map kR) (.inr e.1)=some (.ref ta):=Bn (Eo ed hw.2.2.1) hi0
   refine⟨by decide,λl2 hl2=>.inl ⟨⟨_,(Same.upd hl2).seqL (SqL.of el1)⟩,?_⟩⟩
   have f2:H l2=none:=frees S1 hl2
   have Sl2:=Same.upd (o:=.lst []) hl2
   have rl:∀r∈Al (sw.take i),r.length<=100:=λr hr=>by
    have h1:=(Hh (sw:=sw.take i) (λx hx=>hw.sets x (dW hx))).2.1 r hr
    rw[h1,aC]
    have:=hw.2.1
    omega
   have lenr:es.length=(Al (sw.take i)).length:=by rw[<- ee];simp
   have few:(Al (sw.take i)).length<=256:=by rw[Hd];exact a9 (Y5 hw i) hw.2.2.2.2
   refine Bc (A5 (es.map λx=>V.ref x.2)) (λj U H'=>(∃v4,U=[some (.ref d),some (.ref l),some (.str e.1),some (.ref l2),v4])/\Same H1 H'/\∃fs:List (List Str×Addr),fs.map (·.1)=Eg ((Al (sw.take i)).take j) e /\
     H' l2=some (.lst (fs.map λx=>.ref x.2))/\∀x∈fs,H x.2=none/\H' x.2=some (Dc x.1))
    ⟨⟨_,rfl⟩,Sl2,[],rfl,Ab,λx hx=>by cases hx⟩ (λj U H' _ q=>q.2.1.seqL (SqL.of el1)) ?_ ?_
   .rintro j y U H2 hy ⟨⟨v4,rfl⟩,S2,fs,efs,e2l,hf⟩
    obtain⟨⟨r,ra⟩,hj,rfl⟩:=Am hy
    have hj2:(Al (sw.take i))[j]?=some r:=by rw[<- ee,al,hj];rfl
    obtain⟨_,hra⟩:=he _ (ak hj)
    have S12:=S1.trans S2
    refine⟨.inl ⟨rfl,_,SqL.of e2l⟩,.ref ta,.inl ⟨_,.inr e.1,.inr ⟨o,S12 _ _ ef⟩,rfl,hv.symm⟩,.inr (.inl ⟨⟨_,SqT.of (S12 _ _ hta)⟩,?_⟩)⟩
    refine Ur (H0:=H1) ⟨_,rfl⟩ S2 (S2 _ _ hra) (S12 _ _ hta) (rl r (ak hj2)) (a9 hoke.2.2 (by decide)) λD H3 S3 hD gs eg eD hg=>?_
    have e3l:=S3 _ _ e2l
    have lfs:fs.length<=1024:=by
     have:=congrArg dj efs
     rw[ae,Om,aC] at this
     have h4:=hoke.2.2
     have:min j (Al (sw.take i)).length * e.2.length<=256 * 4:=Nat.mul_le_mul (by omega) h4
     omega
    have lgs:gs.length<=4:=by
     have h1:gs.length=e.2.length:=by simpa using congrArg dj eg
     have h2:e.2.length<=4:=hoke.2.2
     omega
    refine⟨l2,D,_,_,rfl,rfl,e3l,eD,?_,⟨_,rfl⟩,(S2.trans S3).set hl2,fs++gs,?_,?_,?_⟩
    .rw[ae,ae]
     exact a9 (show fs.length+gs.length<=1028 by omega) (by decide)
    .rw[ar,efs,eg,Zi hj2]
    .rw[Ab,ar]
    .have h3:∀x∈fs++gs,H x.2=none/\H3 x.2=some (Dc x.1):=λx hx=>by
      rcases List.mem_append.mp hx with hx|hx
      .exact⟨(hf x hx).1,S3 _ _ (hf x hx).2⟩
      .exact⟨frees S1 (hg x hx).1,(hg x hx).2⟩
     intro x hx
     refine⟨(h3 x hx).1,?_⟩
     rw[Ad (λe=>by have:=(h3 x hx).2;rw[e,e3l] at this;cases this)]
     exact (h3 x hx).2
   .rintro U H2 ⟨⟨v4,rfl⟩,S2,fs,efs,e2l,hf⟩
    rw[ae,lenr,aA] at efs
    refine .inl ⟨⟨_,_,_,_,rfl,fs,?_,⟨f2,e2l⟩,hf⟩,S1.trans S2⟩
    rw[efs]
    exact (Cd hi2 _ _).symm
  .rintro U H1 ⟨⟨l,v2,v3,v4,rfl,T1⟩,S1⟩
   rw[ae,ae,len,aA] at T1
   refine .inr ⟨d,o,_,od0,S1 _ _ ef,?_⟩
   exact k _ l (S0.trans (Same.thaw od0 (hHf▸S1))) (T1.mono (Kp.off (Fx od)))
end
section
noncomputable def Off(d:Addr)(H H':Hp):Prop:=∀b u,b≠d->H b=some u->H' b=some u
theorem Off.up {d:Addr}{H H1 H2:Hp}(h:Off d H H1)(S:Same H1 H2):Off d H H2:=λb u n e=>S _ _ (h b u n e)
theorem Off.set {d a:Addr}{o:HO}{H H1:Hp}(h:Off d H H1)(e:H a=none):Off d H (upd H1 a o):=λb u n q=>by rw[Ad (Ai q e)];exact h b u n q
theorem Off.free {d b:Addr}{H H1:Hp}(h:Off d H H1)(n:b≠d)(e:H1 b=none):H b=none:=by
 cases q:H b with
 |none=>rfl
 |some u=>rw[h b u n q] at e;cases e
theorem Off.thaw {d:Addr}{kvs:List (Key×V)}{H H1:Hp}(h:Off d H H1)(e:H d=some (.dK kvs)):Same H (upd H1 d (.dK kvs)):=λb u q=>by
 by_cases n:b=d
 .subst n;rw[Ab,<- e,q]
 .rw[Ad n];exact h b u n q
theorem N0(p:Nat)(z:Str):∀(a:List (List Str))(r:List Str)(k:Nat),Dj p z k (a++[r])=Dj p z k a++(if r[p]?=some z then [k+a.length] else [])
 | [],r,k=>by
  rw[List.nil_append,Dj,Dj,Dj,List.nil_append]
  rfl
 | b::a,r,k=>by
  rw[e_,Dj,Dj,N0 p z a r (k+1),aN,show k+1+a.length=k+(a.length+1) by omega]
  split <;> simp
theorem Pl(p:Nat)(z:Str):∀(a:List (List Str))(k n:Nat),n∈Dj p z k a->n<k+a.length
 |[],k,n,h=>by cases h
 | b::a,k,n,h=>by
  rw[Dj] at h
  rw[aN]
  split at h
  .rcases List.mem_cons.mp h with h|h
   .omega
   .have:=Pl p z a (k+1) n h;omega
  .have:=Pl p z a (k+1) n h;omega
theorem Lc(p:Nat)(z:Str):∀(a:List (List Str))(k:Nat),(Dj p z k a).length<=a.length
 |[],k=>ag _
 | b::a,k=>by
  rw[Dj,aN]
  split
  .rw[aN];have:=Lc p z a (k+1);omega
  .have:=Lc p z a (k+1);omega
theorem Ph {α:Type}{ds:List (α×Addr)}{i:Nat}{x y:V}(h:(D6 0 (ds.map λx=>V.ref x.2))[i]?=some (x,y)):∃z,ds[i]?=some z/\x=.int (i:Int)/\y=.ref z.2:=by
 have hi:=Aj h
 rw[Bj,ae] at hi
 refine⟨_,aj hi,?_⟩
 have:=Cv (k:=0) (xs:=ds.map λx=>V.ref x.2) (i:=i) (x:=.ref ds[i].2) (by rw[al,aj hi];rfl)
 rw[this,cT] at h
 obtain⟨rfl,rfl⟩:V.int (i:Int)=x/\V.ref ds[i].2=y:=by simpa using h
 exact⟨rfl,rfl⟩
theorem a93 {E:EK}{H:Hp}{l:Addr}{ds:List (List Str×Addr)}{rows:List (List Str)}{i:Nat}{z:Str}{R:Hp->Addr->Prop}(ed:ds.map (·.1)=rows)(ol:H l=some (.lst (ds.map λx=>.ref x.2)))(hd:∀x∈ds,H x.2=some (Dc x.1))(hr:∀r∈rows,i<r.length)(few:rows.length<=256)(k:∀D H',Same H H'->H D=none->H' D=some (.lst ((Dj i z 0 rows).map λn:Nat=>V.int (n:Int)))->R H' D) :
  ∀D,H D=none->Dx (Ite K l) (gdT K 2 [gdN 0,gdN 1]) (Bf (Ah (Bz K false) (Ah (Ax K) (Aa 1) (Aa 2)) (Aa 3))) (Aa 0) D (λH'=>R H' D) [none,none,some (.int (i:Int)),some (.str z)] (upd H D (.lst [])) E:=by
 intro D hD
 have len:(D6 0 (ds.map λx=>V.ref x.2)).length=rows.length:=by rw[Bj,<- ed];simp
 refine J2 (Ey (ds.map λx=>V.ref x.2)) (λm U H'=>(∃v0 v1,U=[v0,v1,some (.int (i:Int)),some (.str z)])/\Same H H'/\H' D=some (.lst ((Dj i z 0 (rows.take m)).map λn:Nat=>V.int (n:Int))))
  ⟨⟨_,_,rfl⟩,Same.upd hD,Ab⟩ (λm U H' _ q=>q.2.1.seqL (SqL.of ol)) ?_ ?_
 .rintro m x y T U H1 hxy hT ⟨⟨v0,v1,rfl⟩,S1,eD⟩
  obtain⟨⟨r,b⟩,hm,rfl,rfl⟩:=Ph hxy
  have hm2:rows[m]?=some r:=by rw[<- ed,al,hm];rfl
  have hb:=hd _ (ak hm)
  have hi:=hr r (ak hm2)
  have ST:=Same.upd (o:=.tup [.int (m:Int),.ref b]) hT
  refine⟨_,.inl (SqT.of Ab),rfl,?_⟩
  show Bf _ [some (.int (m:Int)),some (.ref b),some (.int (i:Int)),some (.str z)] (upd H1 T (.tup [.int (m:Int),.ref b])) _ _
  generalize upd H1 T (.tup [.int (m:Int),.ref b])=H2 at ST ⊢
  have S2:=S1.trans ST
  have eD2:=ST _ _ eD
  have mm:min m rows.length=m:=Nat.min_eq_left (dM (Aj hm2))
  have he:Dj i z 0 (rows.take (m+1))=Dj i z 0 (rows.take m)++(if r[i]?=some z then [m] else []):=by
   rw[aR,hm2,cQ,N0,aC,mm,cT]
  refine⟨_,_,.inr (SqT.of (S2 _ _ hb)),Bw (j:=i) (by rw[al,aj hi];rfl),?_⟩
  rw[aj hi] at he
  show if decide (r[i]=z)=true then _ else _
  refine Lg (λe=>?_) (λe=>?_)
  .have e:r[i]=z:=by simpa using e
   rw[if_pos (by rw[e])] at he
   refine⟨_,eD2,?_,⟨_,_,rfl⟩,S2.set hD,?_⟩
   .rw[ae]
    have h1:=Lc i z (rows.take m) 0
    rw[aC] at h1
    exact bb (show (Dj i z 0 (rows.take m)).length<=256 by omega) (by decide)
   .rw[Ab,he,ar];rfl
  .have e:¬ r[i]=z:=by simpa using e
   rw[if_neg (by simpa using e),bS] at he
   exact⟨⟨_,_,rfl⟩,S2,by rw[he];exact eD2⟩
 .rintro U H1 ⟨_,S1,eD⟩
  rw[len,aA] at eD
  exact k D H1 S1 hD eD
theorem Zg {rows:List (List Str)}{i m:Nat}{l:List Str}{z:Str}(hz:l[m]?=some z)(nd:l.Nodup) :
  B7 ((l.take m).map λz=>((.inr z:Key),V.int (Eb rows i z))) (.inr z) (.int (Eb rows i z))=(l.take (m+1)).map λz=>((.inr z:Key),V.int (Eb rows i z)):=by
 rw[C5,Bl hz]
 refine B4 ?_
 rw[aw]
 intro hm
 obtain⟨y,hy,e⟩:=List.mem_map.mp hm
 have e:y=z:=by injection e
 subst e
 exact Ei nd hz hy
theorem bs1(Z:An K t):OkD K a62 (Az K t) bl (t.f 31) (t.d 31) (ao1 K t):=by
 refine A7 (b51 K t) λvs H Q E h=>?_
 .obtain⟨d,l,sw,rfl,⟨ds,ed,⟨_,od⟩,hd⟩,⟨ts,et,⟨_,ol⟩,htp⟩,hw,k⟩:=h;refine⟨rfl,?_⟩
  intro s hs
  have nds:d≠s:=Ai od hs
  have nld:l≠d:=λe=>by rw[e,od] at ol;cases ol
  have od1:upd H s (.dK []) d=some (.dK (ds.map kR)):=by rw[Ad nds];exact od
  refine .inl (.inr (.inl ⟨_,od1,λo=>?_⟩))
  have O0:Off d H (upd (upd H s (.dK [])) d (.frz o (.dK (ds.map kR)))):=λb u n e=>by rw[Ad n,Ad (Ai e hs)];exact e
  have ef:upd (upd H s (.dK [])) d (.frz o (.dK (ds.map kR))) d=some (.frz o (.dK (ds.map kR))):=Ab
  have es0:upd (upd H s (.dK [])) d (.frz o (.dK (ds.map kR))) s=some (.dK []):=by rw[Ad (cA nds),Ab]
  have len:(D6 0 ((ds.map kR).map λkv=>kV kv.1)).length=sw.length:=by rw[Bj,<- ed];simp
  have few:=hw.len
  have rlen:=(Hh hw.sets).2.1
  show Gx (ab3 d o (ds.map kR)) _ _ _ [some (.ref d),some (.ref l),some (.ref s),none,none,none,none] _
  generalize upd (upd H s (.dK [])) d (.frz o (.dK (ds.map kR)))=H0 at O0 ef es0 ⊢
  refine J8 (ar8 (ds.map kR)) (λi U H'=>(∃v3 v4 v5 v6,U=[some (.ref d),some (.ref l),some (.ref s),v3,v4,v5,v6])/\Off d H H'/\H' d=some (.frz o (.dK (ds.map kR))) /\
    ∃es:List ((Str×List Str)×Addr),es.map (·.1)=sw.take i/\H' s=some (.dK (es.map kR))/\∀j x,es[j]?=some x->H x.2=none/\H' x.2=some (Vg (Al sw) j x.1.2))
   ⟨⟨_,_,_,_,rfl⟩,O0,ef,[],rfl,es0,λj x hx=>by simp at hx⟩ (λi U H' _ q=>q.2.2.1) ?_ ?_
  .rintro i x y T U H1 hxy hT ⟨⟨v3,v4,v5,v6,rfl⟩,O1,f1,es,ee,e1s,he⟩
   have hi':=Aj hxy
   rw[len] at hi'
   have hids:i<ds.length:=by rw[<- ed,ae] at hi';exact hi'
   obtain⟨⟨e,ta⟩,hi⟩:∃z,ds[i]?=some z:=⟨_,aj hids⟩
   have hxy2:=Cv (k:=0) (xs:=(ds.map kR).map λkv=>kV kv.1) (i:=i) (x:=.str e.1) (by rw[al,al,hi];rfl)
   rw[hxy2,cT] at hxy
   obtain⟨rfl,rfl⟩:V.int (i:Int)=x/\V.str e.1=y:=by simpa using hxy
   have hi2:sw[i]?=some e:=by rw[<- ed,al,hi];rfl
   have hta:=(hd _ (ak hi)).2
   have nta:ta≠d:=λz=>by rw[z,od] at hta;cases hta
   have hoke:=hw.sets e (ak hi2)
   have hv:Bv (ds.map kR) (.inr e.1)=some (.ref ta):=Bn (Eo ed hw.2.2.1) (by rw[al,hi];rfl)
   have nk:=Pw ee hi2 hw.2.2.1
   have les:es.length=i:=by
    have:=congrArg dj ee
    rw[ae,aC] at this
    omega
   have ST:=Same.upd (o:=.tup [.int (i:Int),.str e.1]) hT
   refine⟨_,.inl (SqT.of Ab),rfl,?_⟩
   show Ae _ _ _ [some (.ref d),some (.ref l),some (.ref s),some (.int (i:Int)),some (.str e.1),v5,v6] (upd H1 T (.tup [.int (i:Int),.str e.1]))
   generalize upd H1 T (.tup [.int (i:Int),.str e.1])=H2 at ST ⊢
   have O2:=O1.up ST
   have f2:=ST _ _ f1
   have e2s:=ST _ _ e1s
   intro q hq
   have nqd:q≠d:=(Ai f2 hq).symm
   have nqs:q≠s:=(Ai e2s hq).symm
   have fq:H q=none:=O2.free nqd hq
   have Sq:=Same.upd (o:=.dK []) hq
   have eq:upd H2 q (.dK []) q=some (.dK []):=Ab
   refine .inl ?_
   show Ci K (Aa 2) (Aa 4) (.ref q) [some (.ref d),some (.ref l),some (.ref s),some (.int (i:Int)),some (.str e.1),v5,v6] (upd H2 q (.dK [])) _
   generalize upd H2 q (.dK [])=H3 at Sq eq ⊢
   refine⟨_,DPut.k (k:=.inr e.1) (Sq _ _ e2s) ?_,?_⟩
   .rw[ae]
    have:=hw.2.1
    exact bb (show es.length<=5 by omega) (by decide)
   rw[Kh nk]
   have O4:Off d H (upd H3 s (.dK ((es++[(e,q)]).map kR))):=(O2.up Sq).set hs
   have f4:upd H3 s (.dK ((es++[(e,q)]).map kR)) d=some (.frz o (.dK (ds.map kR))):=by rw[Ad nds];exact Sq _ _ f2
   have e4s:upd H3 s (.dK ((es++[(e,q)]).map kR)) s=some (.dK ((es++[(e,q)]).map kR)):=Ab
   have e4q:upd H3 s (.dK ((es++[(e,q)]).map kR)) q=some (Vg (Al sw) i (e.2.take 0)):=by rw[Ad nqs];exact eq
   have he4:∀j x,es[j]?=some x->H x.2=none/\upd H3 s (.dK ((es++[(e,q)]).map kR)) x.2=some (Vg (Al sw) j x.1.2)/\x.2≠q/\x.2≠s:=λj x hx=>by
    obtain⟨a1,a2⟩:=he j x hx
    have b1:=Ai (ST _ _ a2) hq
    have b2:x.2≠s:=λz=>by
     rw[z,e1s] at a2
     unfold Vg at a2
     have a3:es.map kR=x.1.2.map λz=>((.inr z:Key),V.int (Eb (Al sw) j z)):=by injection (aG a2)
     have m1:kR x∈es.map kR:=bF (ak hx)
     rw[a3] at m1
     obtain⟨y,_,hy⟩:=List.mem_map.mp m1
     injection hy with _ hy
     cases hy
    refine⟨a1,?_,b1,b2⟩
    rw[Ad b2];exact Sq _ _ (ST _ _ a2)
   generalize upd H3 s (.dK ((es++[(e,q)]).map kR))=H4 at O4 f4 e4s e4q he4 ⊢
   have nd4:(((es++[(e,q)]).map kR).map (·.1)).Nodup:=Eo (G6 ee hi2) (by rw[jo];exact hw.2.2.1.sublist (d7 _ _))
   have hq4:Bv ((es++[(e,q)]).map kR) (.inr e.1)=some (.ref q):=Bn (i:=es.length) nd4 (by rw[al,bA (ag _),gh];rfl)
   refine⟨.ref ta,.inl ⟨_,.inr e.1,.inr ⟨o,f4⟩,rfl,hv.symm⟩,.inr (.inl ⟨⟨_,SqT.of (O4 _ _ nta hta)⟩,?_⟩)⟩
   refine Bc (ar9 (e.2.map V.str)) (λm U H'=>(∃v5 v6,U=[some (.ref d),some (.ref l),some (.ref s),some (.int (i:Int)),some (.str e.1),v5,v6])/\Off d H H'/\H' d=some (.frz o (.dK (ds.map kR)))/\H' s=some (.dK ((es++[(e,q)]).map kR)) /\
     H' q=some (Vg (Al sw) i (e.2.take m))/\∀j x,es[j]?=some x->H' x.2=some (Vg (Al sw) j x.1.2))
    ⟨⟨_,_,rfl⟩,O4,f4,e4s,e4q,λj x hx=>(he4 j x hx).2.1⟩ (λm U H' _ q=>SqT.of (q.2.1 _ _ nta hta)) ?_ ?_
   .rintro m x U H5 hx ⟨⟨v5,v6,rfl⟩,O5,f5,e5s,e5q,he5⟩
    obtain⟨z,hz,rfl⟩:=Am hx
    refine .inl ⟨⟨_,SqL.of (O5 _ _ nld ol)⟩,?_⟩
    refine a93 et (O5 _ _ nld ol) (λx hx=>O5 _ _ (λe=>by have:=(htp x hx).2;rw[e,od] at this;cases this) (htp x hx).2) (λr hr=>by rw[rlen r hr];exact hi') few λD H6 S6 hD eD=>?_
    refine⟨D,_,rfl,SqL.of eD,(λn hn=>?_),?_⟩
    .have:=Pl i z (Al sw) 0 n hn
     omega
    show Ci K (Ah (Ax K) (Aa 2) (Aa 4)) (Aa 5) (.int (Eb (Al sw) i z)) [some (.ref d),some (.ref l),some (.ref s),some (.int (i:Int)),some (.str e.1),some (.str z),some (.ref D)] H6 _
    refine⟨.ref q,.inl ⟨_,.inr e.1,.inl (S6 _ _ e5s),rfl,hq4.symm⟩,_,DPut.k (k:=.inr z) (S6 _ _ e5q) ?_,?_⟩
    .rw[ae,aC]
     have:=hoke.2.2
     exact bb (show min m e.2.length<=4 by omega) (by decide)
    rw[Zg hz hoke.1.2.1]
    refine⟨⟨_,_,rfl⟩,(O5.up S6).set fq,?_,?_,Ab,λj x hx=>?_⟩
    .rw[Ad (cA nqd)];exact S6 _ _ f5
    .rw[Ad (cA nqs)];exact S6 _ _ e5s
    .rw[Ad (he4 j x hx).2.2.1];exact S6 _ _ (he5 j x hx)
   .rintro U H5 ⟨⟨v5,v6,rfl⟩,O5,f5,e5s,e5q,he5⟩
    rw[ae,aA] at e5q
    refine .inl ⟨⟨_,_,_,_,rfl⟩,O5,f5,es++[(e,q)],G6 ee hi2,e5s,λj x hx=>?_⟩
    by_cases hj:j<es.length
    .rw[bK hj] at hx
     exact⟨(he4 j x hx).1,he5 j x hx⟩
    .have hj2:=Aj hx
     rw[aU] at hj2
     have hj3:j=es.length:=by have:[(e,q)].length=1:=rfl;omega
     subst hj3
     rw[bA (ag _),gh] at hx
     have:(e,q)=x:=by simpa using hx
     subst this
     rw[les]
     exact⟨fq,e5q⟩
  .rintro U H1 ⟨⟨v3,v4,v5,v6,rfl⟩,O1,f1,es,ee,e1s,he⟩
   rw[len,aA] at ee
   refine .inr ⟨d,o,_,od1,f1,?_⟩
   refine k _ s (O1.thaw od) ⟨es,ee,⟨hs,?_⟩,λj x hx=>⟨(he j x hx).1,?_⟩⟩
   .rw[Ad (cA nds)];exact e1s
   .rw[Ad (λz=>by have:=(he j x hx).1;rw[z,od] at this;cases this)];exact (he j x hx).2
end
section
theorem Ft(l:List Str):(l.map V.str).all B1=true:=by rw[hJ,bn];exact λ_ _=>rfl
theorem Lu(h:sw[i]?=some x)(nd:(sw.map (·.1)).Nodup):Gf sw x.1=i:=by
 have hi:=Aj h
 have ex:sw[i]=x:=by rw[aj hi] at h;exact aG h
 unfold Gf
 rw[List.findIdx_eq hi]
 refine⟨by rw[ex];simp,λj hj=>?_⟩
 have hj2:j<sw.length:=by omega
 refine decide_eq_false λe=>?_
 have:=(dH (i:=j) (j:=i) (h₀:=by rw[ae];exact hj2) (h₁:=by rw[ae];exact hi) nd).mp (by rw[c_,c_,e,ex])
 omega
theorem Tj {rows:List (List Str)}{i:Nat}{l:List Str}{z:Str}(nd:l.Nodup)(h:z∈l):Bv (l.map λz=>((.inr z:Key),V.int (Eb rows i z))) (.inr z)=some (.int (Eb rows i z)):=by
 obtain⟨j,hj,e⟩:=List.mem_iff_getElem.mp h
 refine Bn (i:=j) ?_ ?_
 .rw[aw];exact Ij nd
 .rw[al,aj hj,e];rfl
theorem bc2(Z:An K t):OkD K Wh (Az K t) bl (t.m_zbu 6) (t.e_zbu 6) (Vk K t):=by
 refine A7 (bx3 K t) λvs H Q E h=>?_
 .obtain⟨p,a,l,s,wd,ss,sw,rfl,⟨dx,fs,⟨_,hp⟩,hl,hs,hm⟩,⟨ds,ed,⟨_,os⟩,hd⟩,hw,ha,⟨ne,hL,x,hx,ex,hin⟩,k⟩:=h;refine⟨rfl,?_⟩
  have ex:x.1=wd:=ex
  have ne:ss≠[]:=ne
  have hL:okL ss:=hL
  have hin:∀z∈ss,z∈x.2:=hin
  subst ex
  obtain⟨i,hi2⟩:=List.mem_iff_getElem?.mp hx
  have hids:i<ds.length:=by have:=Aj hi2;rw[<- ed,ae] at this;exact this
  obtain⟨⟨x',q⟩,hi⟩:∃z,ds[i]?=some z:=⟨_,aj hids⟩
  have:x'=x:=by
   rw[<- ed,al,hi] at hi2
   exact aG hi2
  subst this
  have oq:=(hd i _ hi).2
  have hok:=hw.sets x' hx
  have hv:Bv (ds.map kR) (.inr x'.1)=some (.ref q):=Bn (Eo ed hw.2.2.1) (by rw[al,hi];rfl)
  have pl:=Lu hi2 hw.2.2.1
  have cl:=Z.pf.cl
  have na:NoAttr K t.c_zbu "sets" := Z.pf.na _ (by simp)
  have gq:∀ {H'},Same H H'->DGet H' s (.str x'.1) (some (.ref q)):=λS=>.inl ⟨_,.inr x'.1,.inl (S _ _ os),rfl,hv.symm⟩
  refine⟨rfl,?_⟩
  refine gy ⟨_,_,_,_,hp,cl,na,hs,?_⟩
  refine .inr ⟨_,.inl ⟨_,.inr x'.1,.inl os,rfl,hv.symm⟩,?_⟩
  refine⟨a,ss,rfl,SqL.of ha,hL,λH1 S1=>⟨by decide,λe he=>.inl ⟨a,e,_,_,rfl,rfl,(S1.trans (Same.upd he)).seqL (SqL.of ha),SqL.of Ab,Ft ss,rfl,F8 ?_ ?_⟩⟩⟩
  .exact Fa (by rw[ae];intro z;exact ne (List.length_eq_zero_iff.mp z))
  have S2:=S1.trans (Same.upd (o:=.lst []) he)
  generalize upd H1 e (.lst [])=H2 at S2 ⊢
  refine .inl ⟨⟨_,S2.seqL (SqL.of ha)⟩,?_⟩
  refine Rh (K:=K) (U:=[none,some (.ref p),some (.str x'.1)]) (A5 (ss.map V.str)) (λU=>∃v,U=[v,some (.ref p),some (.str x'.1)]) (λH3 S3=>(S2.trans S3).seqL (SqL.of ha)) ?_ ⟨_,rfl⟩ (λU x ⟨v,e⟩=>⟨some x,by rw[e];rfl⟩) ?_ λD3 H3 S3 q3=>⟨_,q3,?_⟩
  .rw[ae];exact bb hL.2.2 (by decide)
  .rintro y U H3 Q1 hy ⟨v,rfl⟩ S3 q1
   obtain⟨z,hz,rfl⟩:=List.mem_map.mp hy
   have S:=S2.trans S3
   refine gy ⟨_,_,_,_,(S _ _ hp),cl,na,hs,⟨.ref q,gq S,.inr ⟨_,.inl ⟨_,.inr z,.inl (S _ _ oq),rfl,rfl⟩,?_⟩⟩⟩
   rw[Tj hok.1.2.1 (hin z hz)]
   exact q1 H3 (Same.refl _)
  .rw[Ws]
   have S:=S2.trans S3
   refine .inl ⟨⟨_,S.seqL (SqL.of ha)⟩,λD hD=>?_⟩
   refine Pa (A5 (ss.map V.str)) (λU=>∃v,U=[v,some (.ref p),some (.str x'.1)]) (λ_=>true) (λv=>match v with | .str z=>.int (Eb (Al sw) i z)|_=>.non) hD (λH4 S4=>(S.trans S4).seqL (SqL.of ha)) ?_ ⟨_,rfl⟩ ?_ ?_
   .rw[ae];exact bb hL.2.2 (by decide)
   .rintro y U H4 hy ⟨v,rfl⟩ S4 Fin Skip hF hK
    obtain⟨z,hz,rfl⟩:=List.mem_map.mp hy
    have S5:=S.trans S4
    refine (gy ⟨_,_,_,_,(S5 _ _ hp),cl,na,hs,⟨.ref q,gq S5,.int (Eb (Al sw) i z),.inl ⟨_,.inr z,.inl (S5 _ _ oq),rfl,?_⟩,?_⟩⟩)
    .rw[Tj hok.1.2.1 (hin z hz)]
    .exact hF _ _ _ ⟨_,rfl⟩ (Same.refl _) rfl rfl
   .intro H4 S4 eD
    refine⟨D,ss.map (Eb (Al sw) i),rfl,SqL.of (eD.trans ?_),?_⟩
    .rw[List.filter_eq_self.mpr (λ_ _=>rfl),aw,aw];rfl
    .have:=k H4 (S.trans S4)
     unfold Jj at this
     rw[pl] at this
     exact this
theorem bc8(Z:An K t):OkD K Wi (Az K t) bl (t.m_zbu 2) (t.e_zbu 2) (Vn K t):=by
 refine A7 (bx9 K t) λvs H Q E h=>?_
 .obtain⟨p,r,l,s,sw,rule,rfl,hs,ht,hse,hw,⟨ds,ed,⟨_,od⟩,hd⟩,hr,k⟩:=h;refine⟨rfl,?_⟩
  obtain⟨dx,fs,⟨np,hp⟩,_,_,hm⟩:=id hs
  have len:ds.length=rule.length:=by rw[<- ed];simp
  refine⟨_,true,.of (.dK od),rfl,⟨p,dx,fs,⟨t.c_zbu,a96 K t⟩,rfl,.head _,hp,hm _ (by decide),⟨aM rfl,aM rfl⟩,p,l,s,sw,rfl,hs.mono Kp.any,ht.mono Kp.any,hw.len,?_⟩⟩
  refine .inr (.inr (.inl (.inl ⟨_,od,λo=>?_⟩)))
  have kf:Kp (· ≠ r) H (· ≠ r) (upd H r (.frz o (.dK (ds.map kR)))):=Kp.off (λe=>e rfl)
  have ef:upd H r (.frz o (.dK (ds.map kR))) r=some (.frz o (.dK (ds.map kR))):=Ab
  have hd2:∀x∈ds,upd H r (.frz o (.dK (ds.map kR))) x.2=some (Bb x.1.2):=λx hx=>by
   rw[Ad (λe=>by have:=(hd x hx).2;rw[e,od] at this;cases this)]
   exact (hd x hx).2
  show Gx (Itd r o (ds.map kR)) _ _ _ [some (.ref p),some (.ref r),some (.int (Ov sw)),none] _
  generalize hHf:upd H r (.frz o (.dK (ds.map kR)))=Hf at kf ef hd2 ⊢
  refine Bc (Ew (ds.map kR)) (λi U H'=>(∃v3,U=[some (.ref p),some (.ref r),some (.int ((rule.take i).foldl (λc e=>cu c (Jj sw e)) (Ov sw))),v3])/\Same Hf H') ⟨⟨_,rfl⟩,Same.refl _⟩ (λi U H' _ q=>q.2 _ _ ef) ?_ ?_
  .rintro i x U H1 hx ⟨⟨v3,rfl⟩,S1⟩
   obtain⟨kv,hi0,rfl⟩:=Am hx
   obtain⟨⟨e,la⟩,hi,rfl⟩:=Am hi0
   have hi2:rule[i]?=some e:=by rw[<- ed,al,hi];rfl
   have hv:Bv (ds.map kR) (.inr e.1)=some (.ref la):=Bn (Eo ed hr.1) hi0
   have kn:Kp (· ≠ r) H any H1:=(kf.trans (Kp.same S1)).trans Kp.any
   refine⟨p,dx,fs,⟨t.c_zbu,a37 K t⟩,rfl,.head _,(kn _ _ ⟨np,hp⟩).2,hm _ (by decide),⟨aM rfl,aM rfl⟩,.ref la,.inl ⟨_,.inr e.1,.inr ⟨o,S1 _ _ ef⟩,rfl,hv.symm⟩,?_⟩
   refine⟨p,la,l,s,e.1,e.2,sw,rfl,hs.mono kn,hse.mono kn,hw,S1 _ _ (hd2 _ (ak hi)),hr.2 e (ak hi2),λH2 S2=>?_⟩
   exact⟨⟨_,congrArg (λz=>[some (V.ref p),some (V.ref r),some (V.int z),some (V.str e.1)]) (Cd hi2 (λc e=>cu c (Jj sw e)) (Ov sw)).symm⟩,S1.trans S2⟩
  .rintro U H1 ⟨⟨v3,rfl⟩,S1⟩
   rw[ae,ae,len,aA]
   exact .inr ⟨r,o,_,od,S1 _ _ ef,k _ (Same.thaw od (hHf▸S1))⟩
theorem bs2(Z:An K t):OkD K as4 (Az K t) bl (t.m_zbu 4) (t.e_zbu 4) (ao2 K t):=by
 refine A7 (b52 K t) λvs H Q E h=>?_
 .obtain⟨p,r,l,s,sw,rule,rfl,hs,ht,hse,hw,hrl,hr,k⟩:=h;refine⟨rfl,?_⟩
  obtain⟨ds,ed,⟨_,od⟩,hd⟩:=id hrl
  obtain⟨dx,fs,⟨np,hp⟩,_,_,hm⟩:=id hs
  have len:ds.length=rule.length:=by rw[<- ed];simp
  have pos:0<rule.length:=List.length_pos_iff.mpr hr.1
  refine⟨_,true,.of (.dK od),rfl,(.inr ⟨_,.inl od,F8 ?_ ?_⟩)⟩
  .refine decide_eq_false λe=>?_
   rw[ae] at e
   omega
  refine⟨p,dx,fs,⟨t.c_zbu,af5 K t⟩,rfl,.head _,hp,hm _ (by decide),⟨aM rfl,aM rfl⟩,p,r,l,s,sw,rule,rfl,hs,ht,hse,hw,hrl,⟨hr.2.2.1,hr.2.2.2⟩,λH1 S1=>?_⟩
  exact⟨r,rule,rfl,hrl.mono (Kp.same S1),hr.2.2.1,hr.2.1,λH2 c S2 R2=>k H2 c (S1.trans S2) (R2.mono (Kp.fresh S1))⟩
theorem br8(Z:An K t):OkD K as2 (Az K t) bl (t.m_zbu 5) (t.e_zbu 5) (an9 K t):=by
 refine A7 (b48 K t) λvs H Q E h=>?_
 .obtain⟨p,l,s,ok,v,sw,ζ,rfl,hs,ht,hse,hw,hv,hr,h8,k⟩:=h;refine⟨rfl,?_⟩
  rcases hv with ⟨rfl,rfl⟩|⟨kk,rfl,ds,ed,⟨nk,ok1⟩,hd⟩
  .refine⟨by decide,λq hq=>k _ q (Same.upd hq) ⟨[],rfl,⟨hq,Ab⟩,λx hx=>by cases hx⟩⟩
  .obtain⟨dx,fs,⟨op,hp⟩,_,_,hm⟩:=id hs
   have len:(ds.map λx=>V.ref x.2).length=ζ.length:=by rw[<- ed];simp
   refine⟨_,true,.sqL rfl (SqL.of ok1) rfl,rfl,(.inl ⟨_,.inl (SqL.of ok1),F8 ?_ ?_⟩)⟩
   .refine decide_eq_false λe=>?_
    rw[len] at e
    omega
   refine .inl ⟨⟨_,SqL.of ok1⟩,λD hD=>?_⟩
   refine C7 (A5 (ds.map λx=>V.ref x.2)) (λm U H'=>(∃v,U=[v,some (.ref p)])/\Same H H'/\∃fs:List (Sw×Addr),fs.map (·.1)=ζ.take m/\H' D=some (.lst (fs.map λx=>.ref x.2))/\∀x∈fs,RuleAt (λa=>H a=none/\a≠D) H' x.2 x.1)
    ⟨⟨_,rfl⟩,Same.upd hD,[],rfl,Ab,λx hx=>by cases hx⟩ (λm U H' _ q=>q.2.1.seqL (SqL.of ok1)) ?_ ?_
   .rintro m x U H1 hx ⟨⟨v,rfl⟩,S1,gs,eg,eD,hg⟩
    obtain⟨⟨rule,r⟩,hm2,rfl⟩:=Am hx
    have hm3:ζ[m]?=some rule:=by rw[<- ed,al,hm2];rfl
    have hrl:=hd _ (ak hm2)
    have nr:¬ ok r:=by obtain⟨_,_,o,_⟩:=hrl;exact o.1
    have kw:Kp ok H (· ≠ r) H1:=(Kp.same S1).trans (Kp.weak λa h e=>nr (e▸h))
    refine⟨p,dx,fs,⟨t.c_zbu,bq2 K t⟩,rfl,.head _,S1 _ _ hp,hm _ (by decide),⟨aM rfl,aM rfl⟩,p,r,l,s,sw,rule,rfl,hs.mono kw,ht.mono kw,hse.mono kw,hw,hrl.mono ((Kp.same S1).trans Kp.any),hr rule (ak hm3),λH2 c S2 R2=>?_⟩
    have eD2:=S2 _ _ eD
    refine⟨_,eD2,?_,⟨_,rfl⟩,(S1.trans S2).set hD,gs++[(rule,c)],G6 eg hm3,?_,?_⟩
    .rw[ae]
     have:=Uc eg
     exact bb (show gs.length<=8 by omega) (by decide)
    .rw[Ab,ar];rfl
    .have ko:Kp (λa=>H a=none/\a≠D) H2 (λa=>H a=none/\a≠D) (upd H2 D (.lst ((gs.map λx=>V.ref x.2)++[.ref c]))):=Kp.off (λe=>e.2 rfl)
     intro x hx
     rcases List.mem_append.mp hx with hx|hx
     .exact (hg x hx).mono ((Kp.same S2).trans ko)
     .have:x=(rule,c):=by simpa using hx
      subst this
      exact R2.mono ((Kp.weak λa h=>⟨S1.free h,(Ai eD h).symm⟩).trans ko)
   .rintro U H1 ⟨_,S1,gs,eg,eD,hg⟩
    rw[len,aA] at eg
    exact k H1 D S1 ⟨gs,eg,⟨hD,eD⟩,λx hx=>(hg x hx).mono (Kp.weak λa h=>h.1)⟩
end
section
theorem Gd {f:Str}{p C dx:Addr}{fs fs':List (Str×V)}{y:V}{H:Hp}{N:Hp->Prop}(hp:H p=some (.ins C dx fs))(c:Cls K C)(n:NoAttr K C f)(l:fs.length<1000)(e:Dv f y fs=fs')(k:∀H',(∀b,b≠p->H' b=H b)->H' p=some (.ins C dx fs')->N H'):am1 K f (.ref p) y H N:=
 .inl ⟨C,dx,fs,hp,c,n,l,k _ (λb hb=>Ad hb) (by rw[Ab,e])⟩
theorem Kp.but {ok:Addr->Prop}{p:Addr}{H H':Hp}(h:∀b,b≠p->H' b=H b)(n:¬ ok p):Kp ok H ok H':=λa o q=>⟨q.1,by rw[h a (λe=>n (e▸q.1))];exact q.2⟩
theorem Off.but {p:Addr}{H H1 H2:Hp}(h:Off p H H1)(e:∀b,b≠p->H2 b=H1 b):Off p H H2:=λb u n q=>by rw[e b n];exact h b u n q
theorem Off.fr {p:Addr}{u:HO}{H H1:Hp}(h:Off p H H1)(e:H1 p=some u):∀b,H1 b=none->H b=none:=λb q=>h.free (λz=>by rw[z,e] at q;cases q) q
structure Pc (ok:Addr->Prop) (H:Hp) (d l n s:Addr) (sw:Sw):Prop where
 sws:SwAt ok H d sw
 tps:TupsAt ok H l (Al sw)
 nms:NumAt ok H n (Al sw)
 sts:SetsAt ok H s sw
theorem Pc.mono {ok ok':Addr->Prop}{H H':Hp}{d l n s:Addr}{sw:Sw}(h:Pc ok H d l n s sw)(k:Kp ok H ok' H'):Pc ok' H' d l n s sw:=⟨h.sws.mono k,h.tps.mono k,h.nms.mono k,h.sts.mono k⟩
noncomputable abbrev fl1(d:Addr):List (Str×V):=[("settings", .ref d)]
noncomputable abbrev fl2(d l:Addr):List (Str×V):=[("settings", .ref d),("tuples", .ref l)]
noncomputable abbrev fl3(d l n:Addr):List (Str×V):=[("settings", .ref d),("tuples", .ref l),("numbers", .ref n)]
noncomputable abbrev fl4(d l n s:Addr):List (Str×V):=[("settings", .ref d),("tuples", .ref l),("numbers", .ref n),("sets", .ref s)]
noncomputable abbrev fl5(d l n s k:Addr):List (Str×V):=[("settings", .ref d),("tuples", .ref l),("numbers", .ref n),("sets", .ref s),("kept_rules", .ref k)]
noncomputable abbrev fl6(d l n s k b:Addr):List (Str×V):=[("settings", .ref d),("tuples", .ref l),("numbers", .ref n),("sets", .ref s),("kept_rules", .ref k),("bars", .ref b)]
theorem Py {fs:List (Str×V)}(h:fs.lookup ("all_choices" : Str)=none/\fs.lookup ("box" : Str)=none/\fs.lookup ("many" : Str)=none/\fs.lookup ("term" : Str)=none/\fs.lookup ("read_rule" : Str)=none/\fs.lookup ("read_rules" : Str)=none):∀m∈(["all_choices", "box", "many", "term", "read_rule", "read_rules"]:List Str),fs.lookup m=none:=by
 intro m hm
 simp only[aO,cS,or_false] at hm
 rcases hm with rfl|rfl|rfl|rfl|rfl|rfl
 .exact h.1
 .exact h.2.1
 .exact h.2.2.1
 .exact h.2.2.2.1
 .exact h.2.2.2.2.1
 .exact h.2.2.2.2.2
theorem bc0(Z:An K t):OkD K D_zab (Az K t) bl t.f_zab t.d_zab (an4 K t):=by
 refine A7 (bx1 K t) λvs H Q E h=>?_
 .obtain⟨p,a,dx,v,sw,ζ,rfl,hp,hsw,hw,hrl,hr,h8,hf,k⟩:=h;refine⟨rfl,?_⟩
  have cl:=Z.pf.cl
  have na:=Z.pf.na
  have nf:¬ fresh H p:=(Fx hp)
  refine⟨a,sw,rfl,hsw.mono Kp.any,hw,λH1 d S1 A1=>?_⟩
  refine Gd (S1 _ _ hp) cl (na _ (by simp)) (aM rfl) (fs':=fl1 d) rfl λH2 b2 p2=>?_
  have O2:Off p H H2:=λb u n e=>by rw[b2 b n];exact S1 _ _ e
  have A2:=A1.mono (Kp.but b2 nf)
  refine gy ⟨_,_,_,_,p2,cl,(na _ (by simp)),rfl,⟨d,sw,rfl,A2.mono Kp.any,hw,λH3 l S3 T3=>?_⟩⟩
  refine Gd (S3 _ _ p2) cl (na _ (by simp)) (aM rfl) (fs':=fl2 d l) rfl λH4 b4 p4=>?_
  have O4:=(O2.up S3).but b4
  have A4:=A2.mono ((Kp.same S3).trans (Kp.but b4 nf))
  have T4:=T3.mono ((Kp.weak (O2.fr p2)).trans (Kp.but b4 nf))
  refine gy ⟨_,_,_,_,p4,cl,(na _ (by simp)),rfl,⟨l,Al sw,rfl,T4.mono Kp.any,(Hh hw.sets).1,hw.len,λH5 n S5 N5=>?_⟩⟩
  refine Gd (S5 _ _ p4) cl (na _ (by simp)) (aM rfl) (fs':=fl3 d l n) rfl λH6 b6 p6=>?_
  have O6:=(O4.up S5).but b6
  have A6:=A4.mono ((Kp.same S5).trans (Kp.but b6 nf))
  have T6:=T4.mono ((Kp.same S5).trans (Kp.but b6 nf))
  have N6:=N5.mono ((Kp.weak (O4.fr p4)).trans (Kp.but b6 nf))
  refine gy ⟨_,_,_,_,p6,cl,(na _ (by simp)),rfl,(gy ⟨_,_,_,_,p6,cl,(na _ (by simp)),rfl,⟨d,l,sw,rfl,A6.mono Kp.any,T6.mono Kp.any,hw,λH7 s S7 E7=>?_⟩⟩)⟩
  refine Gd (S7 _ _ p6) cl (na _ (by simp)) (aM rfl) (fs':=fl4 d l n s) rfl λH8 b8 p8=>?_
  have O8:=(O6.up S7).but b8
  have k78:=(Kp.same (ok:=fresh H) S7).trans (Kp.but b8 nf)
  have P8:Pc (fresh H) H8 d l n s sw:=⟨A6.mono k78,T6.mono k78,N6.mono k78,E7.mono ((Kp.weak (O6.fr p6)).trans (Kp.but b8 nf))⟩
  have P8':Pc (λb=>H b=none/\H8 b≠none) H8 d l n s sw:=P8.mono λb o q=>⟨⟨q.1,by rw[q.2];exact λz=>nomatch z⟩,q.2⟩
  have w8:Kp (fresh H) H8 (λb=>b=p\/H b=none) H8:=Kp.weak λb e=>.inr e
  have RI:Ot (λb=>¬ (b=p\/H b=none)) H8 v ζ:=by
   rcases hrl with h|⟨kk,e,R⟩
   .exact .inl h
   .refine .inr ⟨kk,e,R.mono λb o q=>⟨λz=>?_,O8 _ _ q.1 q.2⟩⟩
    rcases z with z|z
    .exact q.1 z
    .have:=q.2;rw[z] at this;cases this
  refine⟨p,dx,_,⟨t.c_zbu,bq0 K t⟩,rfl,.head _,p8,rfl,⟨aM rfl,aM rfl⟩,p,l,s,(λb=>b=p\/H b=none),v,sw,ζ,rfl,⟨dx,_,⟨.inl rfl,p8⟩,rfl,rfl,Py ⟨rfl,rfl,rfl,rfl,rfl,rfl⟩⟩,P8.tps.mono w8,P8.sts.mono w8,hw,RI,hr,h8,λH9 kk S9 R9=>?_⟩
  refine Gd (S9 _ _ p8) cl (na _ (by simp)) (aM rfl) (fs':=fl5 d l n s kk) rfl λH10 b10 p10=>?_
  have O10:=(O8.up S9).but b10
  have n8:¬ fresh H8 p:=(Fx p8)
  have R10:=R9.mono (Kp.but b10 n8)
  have P10:Pc (λb=>H b=none/\H8 b≠none) H10 d l n s sw:=P8'.mono ((Kp.same S9).trans (Kp.but b10 (λe=>nf e.1)))
  obtain⟨rs,er,⟨fk,ok⟩,hrs⟩:=id R10
  have lenr:(rs.map λx=>V.ref x.2).length=ζ.length:=by rw[<- er];simp
  refine gy ⟨_,_,_,_,p10,cl,(na _ (by simp)),rfl,(.inl ⟨⟨_,SqL.of ok⟩,λD hD=>?_⟩)⟩
  have fD:H D=none:=O10.fr p10 D hD
  refine C7 (A5 (rs.map λx=>V.ref x.2)) (λm U H'=>(∃v,U=[v,some (.ref p)])/\Same H10 H'/\H' D=some (.lst ((Iz sw (ζ.take m)).map V.int))) ⟨⟨_,rfl⟩,Same.upd hD,Ab⟩ (λm U H' _ q=>q.2.1.seqL (SqL.of ok)) ?_ ?_
  .rintro m x U H11 hx ⟨⟨v,rfl⟩,S11,eD⟩
   obtain⟨⟨rule,r⟩,hm2,rfl⟩:=Am hx
   have hm3:ζ[m]?=some rule:=by rw[<- er,al,hm2];rfl
   have hrl2:=hrs _ (ak hm2)
   have nr:H8 r=none:=by obtain⟨_,_,o,_⟩:=hrl2;exact o.1
   have npr:p≠r:=Ai p8 nr
   have kw:Kp (λb=>H b=none/\H8 b≠none) H10 (· ≠ r) H11:=(Kp.same S11).trans (Kp.weak λb h e=>h.2 (e▸nr))
   refine⟨p,dx,_,⟨t.c_zbu,af5 K t⟩,rfl,.head _,S11 _ _ p10,rfl,⟨aM rfl,aM rfl⟩,p,r,l,s,sw,rule,rfl,⟨dx,_,⟨npr,S11 _ _ p10⟩,rfl,rfl,Py ⟨rfl,rfl,rfl,rfl,rfl,rfl⟩⟩,P10.tps.mono kw,P10.sts.mono kw,hw,hrl2.mono ((Kp.same S11).trans Kp.any),(hr rule (ak hm3)).2.2,λH12 S12=>?_⟩
   refine⟨_,S12 _ _ eD,?_,⟨_,rfl⟩,(S11.trans S12).set hD,?_⟩
   .rw[ae]
    unfold Iz
    rw[ae,aC]
    exact bb (show min m ζ.length<=8 by omega) (by decide)
   .rw[Ab]
    unfold Iz
    rw[Bl hm3,ar]
    rfl
  rintro U H11 ⟨_,S11,eD⟩
  rw[lenr,aA] at eD
  refine Gd (S11 _ _ p10) cl (na _ (by simp)) (aM rfl) (fs':=fl6 d l n s kk D) rfl λH12 b12 p12=>?_
  have O12:=(O10.up S11).but b12
  have nDp:D≠p:=(Ai p10 hD).symm
  have B12:H12 D=some (.lst ((Iz sw ζ).map V.int)):=by rw[b12 D nDp];exact eD
  have k12:∀ {ok:Addr->Prop},¬ ok p->Kp ok H10 ok H12:=λh=>(Kp.same S11).trans (Kp.but b12 h)
  have P12:=P10.mono (k12 λe=>nf e.1)
  have R12:=R10.mono (k12 n8)
  refine⟨p,dx,_,⟨t.c_zbu,a96 K t⟩,rfl,.head _,p12,rfl,⟨aM rfl,aM rfl⟩,p,l,s,sw,rfl,⟨dx,_,⟨trivial,p12⟩,rfl,rfl,Py ⟨rfl,rfl,rfl,rfl,rfl,rfl⟩⟩,P12.tps.mono Kp.any,hw.len,gy ⟨_,_,_,_,p12,cl,(na _ (by simp)),rfl,⟨D,Iz sw ζ,rfl,SqL.of B12,?_⟩⟩⟩
  refine Gd p12 cl (na _ (by simp)) (aM rfl) (fs':=bp6 d l n s kk D (K7 sw ζ)) rfl λH14 b14 p14=>?_
  refine gy ⟨_,_,_,_,p14,cl,(na _ (by simp)),rfl,(F8 (decide_eq_false hf) ?_)⟩
  have kk14:∀ {ok:Addr->Prop},¬ ok p->(∀b,ok b->H b=none)->Kp ok H12 (λb=>b=p\/H b=none) H14:=λh g=>(Kp.but b14 h).trans (Kp.weak λb e=>.inr (g b e))
  have P14:=P12.mono (kk14 (λe=>nf e.1) λb e=>e.1)
  refine k H14 ((O12.but b14)) ⟨dx,d,l,n,s,kk,D,⟨.inl rfl,p14⟩,P14.sws,P14.tps,P14.nms,P14.sts,R12.mono (kk14 n8 (O8.fr p8)),⟨.inr fD,?_⟩⟩
  rw[b14 D nDp];exact B12
end
theorem ab8 {a b:Bool}{A B:Prop}(hB:¬ (a=true/\b=true)->B)(hA:a=true->b=true->A):if a=true then (if b=true then A else B) else B:=by
 cases a with
 |false=>exact hB λz=>by cases z.1
 | true=>cases b with
  |false=>exact hB λz=>by cases z.2
  |true=>exact hA rfl rfl
theorem at6 {A B:Prop}(hB:¬ (a=true/\b=true/\c=true)->B)(hA:a=true->b=true->c=true->A):if a=true then (if b=true then (if c=true then A else B) else B) else B:=by
 cases a with
 |false=>exact hB λz=>by cases z.1
 |true=>exact Yl (ab8 (λz=>hB λy=>z y.2) (hA rfl))
noncomputable def NL(H H':Hp):Prop:=∀a o,(∀l,o≠.lst l)->H a=some o->H' a=some o
theorem NL.same(S:Same H H'):NL H H':=λa o _ e=>S a o e
theorem NL.tup(S:NL H H'):∀b ys,H b=some (.tup ys)->H' b=some (.tup ys):=λb ys=>S b _ λ_ z=>by cases z
theorem NL.upd {H:Hp}{D:Addr}{l m:List V}(h:H D=some (.lst l)):NL H (upd H D (.lst m)):=λa o n e=>by rw[Ad λz=>by rw[z,h] at e;cases e;exact n _ rfl];exact e
theorem J3 {J:It}{χ:List V}{ok:Hp->Prop}{te:DE}{rest:St}{H:Hp}{R:Hp->Addr->Prop}{E:EK}{P:Nat->V->Hp->Prop}(up:∀i v H1 H2,NL H1 H2->P i v H1->P i v H2)(Y:Ct J χ ok)(hok:∀H1,Same H H1->ok H1)(hn:χ.length<=1000)(he:∀i x H1 Q1,χ[i]?=some x->Same H H1->(∀v H2,Same H1 H2->P i v H2->Q1 v H2)->te (some x::rest) H1 Q1 E)(k:∀D H' vs,Same H H'->H D=none->H' D=some (.lst vs)->vs.length=χ.length->(∀(i:Nat) v,vs[i]?=some v->P i v H')->R H' D) :
  ∀D,H D=none->Dx J (gdN 0) B6 te D (λH'=>R H' D) (none::rest) (upd H D (.lst [])) E:=by
 intro D hD
 refine C7 Y (λi U H'=>(∃v,U=v::rest)/\Same H H'/\∃vs:List V,H' D=some (.lst vs)/\vs.length=i/\∀(i:Nat) v,vs[i]?=some v->P i v H') ⟨⟨_,rfl⟩,Same.upd hD,[],Ab,rfl,λi v h=>by simp at h⟩ (λ_ _ H' _ q=>hok H' q.2.1) ?_ ?_
 .rintro i x U H1 hx ⟨⟨v,rfl⟩,S1,vs,eD,lv,hv⟩
  have hi:=Aj hx
  have big:(1000:Nat)<sizeLine:=by decide
  refine he i x H1 _ hx S1 λv H2 S2 pv=>⟨vs,S2 _ _ eD,by omega,⟨_,rfl⟩,(S1.trans S2).set hD,vs++[v],Ab,by rw[aU,lv];rfl,λj u hj=>?_⟩
  have nl:=NL.upd (m:=vs++[v]) (S2 _ _ eD)
  by_cases hj2:j<vs.length
  .rw[bK hj2] at hj
   exact up _ _ _ _ nl (up _ _ _ _ (NL.same S2) (hv j u hj))
  .have hj3:=Aj hj
   rw[aU] at hj3
   have hj4:j=vs.length:=by have:j<vs.length+1:=hj3;omega
   subst hj4
   rw[bA (ag _),gh] at hj
   cases hj
   rw[lv]
   exact up _ _ _ _ nl pv
 .rintro U H1 ⟨_,S1,vs,eD,lv,hv⟩
  exact k D H1 vs S1 hD eD lv hv
theorem Ky {J:It}{χ:List V}{ok:Hp->Prop}{te:DE}{rest:St}{H:Hp}{R:Hp->Addr->Prop}{E:EK}{f:Nat->V}(Y:Ct J χ ok)(hok:∀H1,Same H H1->ok H1)(hn:χ.length<=1000)(he:∀i x H1 Q1,χ[i]?=some x->Same H H1->(∀H2,Same H1 H2->Q1 (f i) H2)->te (some x::rest) H1 Q1 E)(k:∀D H',Same H H'->H D=none->H' D=some (.lst ((ay χ.length).map f))->R H' D) :
  ∀D,H D=none->Dx J (gdN 0) B6 te D (λH'=>R H' D) (none::rest) (upd H D (.lst [])) E:=
 J3 (P:=λi v _=>v=f i) (λ_ _ _ _ _ h=>h) Y hok hn (λi x H1 Q1 hx S q=>he i x H1 Q1 hx S λH2 S2=>q _ H2 S2 rfl) λD H' vs S hD eD lv hv=>k D H' S hD (by
  rw[eD]
  congr 2
  refine i4 λi=>?_
  rw[al]
  by_cases hi:i<χ.length
  .rw[f7 hi,aj (by omega)]
   exact congrArg some (hv i _ (aj (by omega)))
  .rw[fB (by omega),fB (by rw[bi];omega)]
   rfl)
section
theorem be5(Z:An K t):OkD K aa2 (Az K t) bl (t.f 0) (t.d 0) (Eu K t):=by
 refine A7 (bz5 K t) λvs H Q E h=>?_
 .obtain⟨a,ns,k,rfl,hS,q⟩:=h;refine⟨rfl,?_⟩
  refine .inl ⟨_,.inl hS,?_⟩
  refine Lg (λe=>?_) (λe=>?_)
  .have e:(k:Int)<((ns.map V.int).length:Int):=by simpa using e
   have hk:k<ns.length:=by rw[ae] at e;omega
   have:Cf ns k=ns[k]:=by unfold Cf;rw[az,aj hk];rfl
   rw[this] at q
   exact⟨_,_,.inl hS,Bw (j:=k) (by rw[al,aj hk];rfl),q⟩
  .have e:¬ (k:Int)<((ns.map V.int).length:Int):=by simpa using e
   have hk:ns.length<=k:=by rw[ae] at e;omega
   have:Cf ns k=0:=by unfold Cf;rw[az,fB hk];rfl
   rw[this] at q
   exact q
theorem bf2(Z:An K t):OkD K aa9 (Az K t) bl (t.f 1) (t.d 1) (Br K t):=by
 refine A7 (b02 K t) λvs H Q E h=>?_
 .obtain⟨c,k,rfl,hk,q⟩:=h;refine⟨rfl,?_⟩
  unfold Bq at q
  refine⟨.inl ⟨by decide,by decide⟩,by omega,by decide,at6 (λhn=>?_) (λe1 e2 e3=>?_)⟩
  .rw[if_neg (λz=>hn ⟨decide_eq_true z.1,by simp[z.2.1],by simp[z.2.2]⟩)] at q
   have b1:0<=(c+7919 * k) * 48271 % 2147483647/\(c+7919 * k) * 48271 % 2147483647<2147483647:=⟨cZ _ (by decide),cC _ (by decide)⟩
   refine⟨.inl ⟨by decide,by decide⟩,.inr ⟨by decide,by decide⟩,by decide,?_⟩
   dsimp only at q
   generalize (c+7919 * k) * 48271 % 2147483647=n at b1 q ⊢
   have b2:0<=n * n % 2147483629/\n * n % 2147483629<2147483629:=⟨cZ _ (by decide),cC _ (by decide)⟩
   refine⟨.inl ⟨by omega,by omega⟩,by decide,?_⟩
   generalize n * n % 2147483629=m at b2 q ⊢
   exact⟨.inl ⟨by omega,by omega⟩,by decide,⟨by decide,by decide⟩,q⟩
  .rw[if_pos ⟨of_decide_eq_true e1,by simpa using e2,by simpa using e3⟩] at q
   exact q
theorem En(l:List Nat):Txt.join (cV "") (l.map λk=>(⟨#[k]⟩:Str))=⟨l.toArray⟩:=by
 show Builtin.Str.glued (cV "") _=_
 rw[StrLaws.glued_eq_join,show cV ""=(⟨#[]⟩:Str) from by decide +kernel]
 exact PyProof.Rows.join_ones l
theorem Fl(l:List Nat):((l.map λk=>(⟨#[k]⟩:Str)).map (·.length)).sum+(l.map λk=>(⟨#[k]⟩:Str)).length * (cV "").length=l.length:=by
 rw[show (cV "").length=0 from by decide +kernel,Nat.mul_zero,Nat.add_zero]
 induction l with
 |nil=>rfl
 |cons a l ih=>rw[aS,aS,kO,ih,aN,show (⟨#[a]⟩:Str).length=1 from rfl,lF]
noncomputable def sgC(sg:Str)(x:Int):Nat:=sg.cps.toList.getD (x % (sg.length:Int)).toNat 0
theorem an1 {sg:Str}(x:Int)(h:1<=sg.length):atI sg.cps.toList (x % (sg.length:Int))=some (sgC sg x):=by
 have h0:=cZ x (show (sg.length:Int)≠0 by omega)
 have h1:=cC x (show 0<(sg.length:Int) by omega)
 have e:x % (sg.length:Int)=(((x % (sg.length:Int)).toNat:Nat):Int):=by omega
 have hl:(x % (sg.length:Int)).toNat<sg.cps.toList.length:=by rw[Hj];omega
 unfold sgC
 rw[e,aY]
 exact Bw (by rw[az,aj hl];rfl)
theorem Xn {sg:Str}(x:Int)(h:1<=sg.length):sgC sg x∈sg.cps.toList:=by
 have h1:=cC x (show 0<(sg.length:Int) by omega)
 have hl:(x % (sg.length:Int)).toNat<sg.cps.toList.length:=by
  rw[Hj]
  have h0:=cZ x (show (sg.length:Int)≠0 by omega)
  omega
 unfold sgC
 rw[az,aj hl]
 exact df hl
theorem a12 {sg:Str}{x:Int}{i j:Nat}(nd:sg.cps.toList.Nodup)(hi:i<sg.length)(hj:j<sg.length)(e:sgC sg (x+i)=sgC sg (x+j)):i=j:=by
 have hp:0<(sg.length:Int):=by omega
 have a0:=cZ (x+i) (show (sg.length:Int)≠0 by omega)
 have a1:=cC (x+i) hp
 have b0:=cZ (x+j) (show (sg.length:Int)≠0 by omega)
 have b1:=cC (x+j) hp
 unfold sgC at e
 have l1:((x+i) % (sg.length:Int)).toNat<sg.cps.toList.length:=by rw[Hj];omega
 have l2:((x+j) % (sg.length:Int)).toNat<sg.cps.toList.length:=by rw[Hj];omega
 rw[az,az,aj l1,aj l2] at e
 have e2:=(dH nd).mp (show _=_ from e)
 have e3:(x+i) % (sg.length:Int)=(x+j) % (sg.length:Int):=by omega
 have e4:=Int.emod_emod_of_dvd (m:=(sg.length:Int)) (k:=(sg.length:Int))
 have d1:=jN (x+i) (sg.length:Int)
 have d2:=jN (x+j) (sg.length:Int)
 rw[e3] at d1
 generalize (x+i) / (sg.length:Int)=q1 at d1
 generalize (x+j) / (sg.length:Int)=q2 at d2
 have d3:(sg.length:Int) * q1 - (sg.length:Int) * q2=(i:Int) - j:=by omega
 rw[<- Int.mul_sub] at d3
 have:q1 - q2=0:=by
  by_cases z:q1 - q2=0
  .exact z
  .exfalso
   have:1<=q1 - q2\/q1 - q2 <= -1:=by omega
   rcases this with z|z
   .have:=ib z (Int.le_of_lt hp);omega
   .have:=ib z (Int.le_of_lt hp);omega
 rw[this,Int.mul_zero] at d3
 omega
noncomputable def wA(g:Nat->Nat)(lo k:Nat):Str:=⟨(((ay lo).map g).take (lo - k)).toArray⟩
noncomputable def wB(g:Nat->Nat)(n:Nat):Str:=⟨((ay n).map g).toArray⟩
theorem Wd(g:Nat->Nat)(lo k:Nat):(wA g lo k).length=lo - k:=by
 show (((ay lo).map g).take (lo - k)).toArray.size=_
 rw[aq,aC,ae,bi]
 omega
theorem Q6(g:Nat->Nat)(n:Nat):(wB g n).length=n:=by
 show ((ay n).map g).toArray.size=_
 rw[aq,ae,bi]
theorem R4 {α:Type}{f:Nat->α}{m:Nat}(h:∀i j,i<m->j<m->f i=f j->i=j):((ay m).map f).Nodup:=by
 refine List.pairwise_iff_getElem.mpr λi j hi hj hij=>?_
 rw[ae,bi] at hi hj
 rw[c_,c_,kN,kN]
 intro e
 have:=h i j hi hj e
 omega
theorem Qe(g:Nat->Nat)(n:Nat):(ay n).map (λj=>V.str ⟨#[g j]⟩)=(((ay n).map g).map λc=>(⟨#[c]⟩:Str)).map V.str:=by rw[aw,aw];rfl
theorem bd8(Z:An K t):OkD K Z6 (Az K t) bl (t.f 2) (t.d 2) (L8 K t):=by
 refine A7 (by8 K t) λvs H Q E h=>?_
 .obtain⟨c,sg,lo,m,rfl,h1,h12,hm,s1,s100,nd,k⟩:=h;refine⟨rfl,?_⟩
  have big:(1000:Nat)<sizeLine:=by decide
  refine⟨c,1,rfl,by decide,by decide,ab8 (λ_=>?_) (λ_ e2=>?_)⟩
  .have b1:1<=1+Bq c 20 % (lo:Int)/\1+Bq c 20 % (lo:Int)<=lo:=by
    have:=cZ (Bq c 20) (show (lo:Int)≠0 by omega)
    have:=cC (Bq c 20) (show 0<(lo:Int) by omega)
    omega
   refine⟨c,20,rfl,by decide,by omega,c,21,rfl,by decide,by omega,by decide,λD hD=>⟨⟨by omega,by omega⟩,?_⟩⟩
   show Gx (Itr 0 ((m:Int)).toNat) _ _ _ [some (.int c),some (.str sg),some (.int (lo:Int)),some (.int (m:Int)),none,none,some (.int (1+Bq c 20 % (lo:Int))),some (.int (Bq c 21 % (1+Bq c 20 % (lo:Int)))),some (.ref D),none] _
   obtain⟨n,en⟩:∃n:Nat,1+Bq c 20 % (lo:Int)=(n:Int):=⟨(1+Bq c 20 % (lo:Int)).toNat,by omega⟩
   rw[en] at b1 ⊢
   have b2:0<=Bq c 21 % (n:Int)/\Bq c 21 % (n:Int)<n:=⟨cZ _ (by omega),cC _ (by omega)⟩
   obtain⟨a,ea⟩:∃a:Nat,Bq c 21 % (n:Int)=(a:Int):=⟨(Bq c 21 % (n:Int)).toNat,by omega⟩
   rw[ea] at b2 ⊢
   let gB:Nat->Nat->Nat:=λi j=>sgC sg (Bq c (22+(j:Int))+(i:Int) * (if decide ((j:Int)=(a:Int))=true then 1 else 0))
   rw[aY]
   refine Bc (Bo 0 m) (λi U H'=>(∃v5 v9,U=[some (.int c),some (.str sg),some (.int (lo:Int)),some (.int (m:Int)),none,v5,some (.int (n:Int)),some (.int (a:Int)),some (.ref D),v9])/\Same H H'/\H' D=some (Bb ((ay i).map λi=>wB (gB i) n))) ⟨⟨_,_,rfl⟩,Same.upd hD,Ab⟩ (λ_ _ _ _ _=>aQ) ?_ ?_
   .rintro i x U H2 hx ⟨⟨v5,v9,rfl⟩,S2,eL⟩
    obtain⟨hi,rfl⟩:=Cw hx
    refine⟨⟨by omega,by omega⟩,?_⟩
    show ∀D,H2 D=none->Dx (Itr 0 ((n:Int)).toNat) _ _ _ D _ _ _ _
    rw[aY]
    refine Ky (f:=λj=>.int (Bq c (22+(j:Int))+(i:Int) * (if decide ((j:Int)=(a:Int))=true then 1 else 0))) (rest:=[some (.int (a:Int)),some (.int c),some (.int (i:Int))]) (Bo 0 n) (λ_ _=>aQ) (by rw[A0];omega) (λj x H3 Q1 hj _ q=>?_) λD1 H3 S3 hD1 eD1=>?_
    .obtain⟨hj,rfl⟩:=Cw hj
     exact⟨c,22+(j:Int),rfl,by omega,.inl ⟨by omega,by omega⟩,q _ (Same.refl _)⟩
    .rw[A0] at eD1
     refine⟨.inl ⟨rfl,_,SqL.of (S3 _ _ eL)⟩,rfl,.inl ⟨⟨_,SqL.of eD1⟩,?_⟩⟩
     refine Ky (f:=λj=>.str ⟨#[gB i j]⟩) (rest:=[some (.str sg)]) (A5 _) (λH4 S4=>S4.seqL (SqL.of eD1)) (by rw[ae,bi];omega) (λj x H4 Q1 hj _ q=>?_) λD2 H4 S4 hD2 eD2=>?_
     .obtain⟨j',hj',rfl⟩:=Am hj
      obtain rfl:j'=j:=by
       have:=Aj hj'
       rw[bi] at this
       rw[f7 this] at hj'
       exact (aG hj').symm
      exact⟨by omega,by omega,by omega,_,an1 _ s1,q _ (Same.refl _)⟩
     .rw[ae,bi,Qe] at eD2
      have S34:=S3.trans S4
      refine⟨_,D2,_,rfl,rfl,.inl (SqL.of eD2),?_,?_⟩
      .rw[Fl,ae,bi];omega
      rw[En]
      refine⟨D,_,_,rfl,rfl,S34 _ _ eL,?_,⟨_,_,rfl⟩,(S2.trans S34).set hD,?_⟩
      .rw[ae,ae,bi]
       omega
      .rw[Ab,Bb,fC,ar,ar]
       rfl
   .rintro U H2 ⟨⟨v5,v9,rfl⟩,S2,eL⟩
    rw[A0] at eL
    refine .inl (k H2 D _ S2 hD eL (by simp) ⟨R4 λi j hi hj e=>?_,λz hz=>?_⟩)
    .have h:(ay n).map (gB i)=(ay n).map (gB j):=congrArg (λz:Str=>z.cps.toList) e
     have h2:=congrArg (λl:List Nat=>l[a]?) h
     have ha:a<n:=by omega
     simp only[al,f7 ha,cF,gX] at h2
     have h3:sgC sg (Bq c (22+(a:Int))+(i:Int))=sgC sg (Bq c (22+(a:Int))+(j:Int)):=by
      have e1:∀x:Nat,gB x a=sgC sg (Bq c (22+(a:Int))+(x:Int)):=λx=>by
       show sgC sg (_+(x:Int) * (if decide ((a:Int)=(a:Int))=true then 1 else 0))=_
       rw[decide_eq_true rfl,if_pos rfl,Int.mul_one]
      rw[<- e1,<- e1];exact h2
     exact a12 nd (by omega) (by omega) h3
    .obtain⟨i,_,rfl⟩:=List.mem_map.mp hz
     rw[Q6]
     refine⟨by omega,by omega,λx hx=>?_⟩
     have hx:x∈(ay n).map (gB i):=hx
     obtain⟨j,_,rfl⟩:=List.mem_map.mp hx
     exact Xn _ s1
  .have e2:m<=lo:=by
    have e2:(m:Int)<=(lo:Int):=of_decide_eq_true e2
    omega
   let gA:Nat->Nat:=λj=>sgC sg (Bq c (2+(j:Int)))
   refine⟨rfl,⟨by omega,by omega⟩,?_⟩
   show ∀D,H D=none->Dx (Itr 0 ((lo:Int)).toNat) _ _ _ D _ _ _ _
   rw[aY]
   refine Ky (f:=λj=>.str ⟨#[gA j]⟩) (rest:=[some (.int c),some (.str sg)]) (Bo 0 lo) (λ_ _=>aQ) (by rw[A0];omega) (λj x H2 Q1 hj _ q=>?_) λD H2 S2 hD eD=>?_
   .obtain⟨hj,rfl⟩:=Cw hj
    exact⟨c,2+(j:Int),rfl,by omega,by omega,by omega,by omega,_,an1 _ s1,q _ (Same.refl _)⟩
   .rw[A0,Qe] at eD
    refine⟨_,D,_,rfl,rfl,.inl (SqL.of eD),?_,?_⟩
    .rw[Fl,ae,bi];omega
    rw[En]
    refine⟨⟨by omega,by omega⟩,?_⟩
    show ∀D,H2 D=none->Dx (Itr 0 ((m:Int)).toNat) _ _ _ D _ _ _ _
    rw[aY]
    refine Ky (f:=λk=>.str (wA gA lo k)) (rest:=[some (.int (lo:Int)),some (.str ⟨((ay lo).map gA).toArray⟩)]) (Bo 0 m) (λ_ _=>aQ) (by rw[A0];omega) (λj x H3 Q1 hj _ q=>?_) λD3 H3 S3 hD3 eD3=>?_
    .obtain⟨hj,rfl⟩:=Cw hj
     have es:Txt.slice ⟨((ay lo).map gA).toArray⟩ none (some ((lo:Int) - (j:Int)))=wA gA lo j:=by
      have hl:((⟨((ay lo).map gA).toArray⟩:Str).length:Int)=lo:=by
       have:=Q6 gA lo
       unfold wB at this
       rw[this]
      have e:=cf (PyProof.Rows.slice_closes_to (x:=⟨((ay lo).map gA).toArray⟩) (j:=(lo:Int) - (j:Int)) ⟨by omega,by rw[Hj,hl];omega⟩)
      rw[e,Int.sub_zero,show ((lo:Int) - (j:Int)).toNat=lo - j by omega]
      unfold wA
      simp
     refine⟨?_,?_⟩
     .have:=Q6 gA lo
      unfold wB at this
      rw[this]
      omega
     .rw[es];exact q _ (Same.refl _)
    .rw[A0] at eD3
     refine k H3 D3 ((ay m).map (wA gA lo)) (S2.trans S3) (S2.free hD3) (by rw[eD3,Bb,aw];rfl) (by simp) ⟨R4 λi j hi hj e=>?_,λz hz=>?_⟩
     .have h:=congrArg Str.length e
      rw[Wd,Wd] at h
      omega
     .obtain⟨i,hi,rfl⟩:=List.mem_map.mp hz
      have hi:=List.mem_range.mp hi
      rw[Wd]
      refine⟨by omega,by omega,λx hx=>?_⟩
      have hx:x∈((ay lo).map gA).take (lo - i):=hx
      obtain⟨j,_,rfl⟩:=List.mem_map.mp (dW hx)
      exact Xn _ s1
theorem bd4(Z:An K t):OkD K Z2 (Az K t) bl (t.f 12) (t.d 12) (Vt K t):=by
 refine A7 (by4 K t) λvs H Q E h=>?_
 .obtain⟨c,m,rfl,hm,k⟩:=h;refine⟨rfl,?_⟩
  have l37:(cV "abcdefghijklmnopqrstuvwxyz0123456789.").length=37:=by decide +kernel
  exact⟨c,_,12,m,rfl,by decide,by decide,by rw[l37];omega,by rw[l37];decide,by rw[l37];decide,by decide +kernel,λH' l ws S _ e hl hw=>k H' l ws S e hl hw.1 λz h=>(hw.2 z h).2.1⟩
end
section
theorem K5 {xs:List V}{i:Nat}{x y:V}(h:(D6 0 xs)[i]?=some (x,y)):x=.int (i:Int)/\xs[i]?=some y:=by
 have hi:=Aj h
 rw[Bj] at hi
 have:=Cv (k:=0) (aj hi)
 rw[h] at this
 injection this with e
 injection e with e1 e2
 rw[cT] at e1
 exact⟨e1,by rw[e2,aj hi]⟩
structure SwL (H':Hp) (ls:Addr) (ds:List (((Str×List Str)×Addr)×Addr)):Prop where
 at_:H' ls=some (.lst (ds.map λx=>.ref x.2))
 tup:∀x∈ds,H' x.2=some (.tup [.str x.1.1.1,.ref x.1.2])
 lst:∀x∈ds,H' x.1.2=some (Bb x.1.1.2)/\x.1.2≠ls
theorem SwL.up(h:SwL H1 ls ds)(S:Same H1 H2):SwL H2 ls ds:=⟨S _ _ h.at_,λx hx=>S _ _ (h.tup x hx),λx hx=>⟨S _ _ (h.lst x hx).1,(h.lst x hx).2⟩⟩
theorem SwL.snoc(h:SwL H1 ls ds)(ht:H1 ta=some (.tup [.str e.1,.ref la]))(hl:H1 la=some (Bb e.2))(nl:la≠ls) :
  SwL (upd H1 ls (.lst ((ds.map λx=>V.ref x.2)++[.ref ta]))) ls (ds++[((e,la),ta)]):=by
 have nt:∀ {a:Addr} {xs:List V},H1 a=some (.tup xs)->a≠ls:=λq z=>by rw[z,h.at_] at q;cases q
 refine⟨by rw[Ab,ar];rfl,λx hx=>?_,λx hx=>?_⟩
 .rcases List.mem_append.mp hx with hx|hx
  .rw[Ad (nt (h.tup x hx))];exact h.tup x hx
  .obtain rfl:x=((e,la),ta):=by simpa using hx
   rw[Ad (nt ht)];exact ht
 .rcases List.mem_append.mp hx with hx|hx
  .rw[Ad (h.lst x hx).2];exact h.lst x hx
  .obtain rfl:x=((e,la),ta):=by simpa using hx
   rw[Ad nl];exact⟨hl,nl⟩
theorem Lv(sw:Sw)(e:Str×List Str):B5 (sw++[e])=B5 sw * e.2.length:=by unfold B5;rw[fJ];rfl
noncomputable abbrev lettersS:Str := "abcdefghijklmnopqrstuvwxyz"
theorem ai3(h:1<=z.length/\z.length<=8/\∀c∈z.cps.toList,c∈lettersS.cps.toList):okW z:=⟨h.1,h.2.1,by
 rw[bn]
 intro c hc
 have:=h.2.2 c hc
 rw[show lettersS.cps.toList=(ay 26).map (97 + ·) by decide +kernel] at this
 obtain⟨i,hi,rfl⟩:=List.mem_map.mp this
 have:=List.mem_range.mp hi
 unfold Kk
 simp
 omega⟩
theorem bt1(Z:An K t):OkD K a65 (Az K t) bl (t.f 3) (t.d 3) (ao9 K t):=by
 refine A7 (b61 K t) λvs H Q E h=>?_
 .obtain⟨c,m,rfl,hm,hm2,k⟩:=h;refine⟨rfl,?_⟩
  have l26:lettersS.length=26:=by decide +kernel
  have nd26:lettersS.cps.toList.Nodup:=by decide +kernel
  refine⟨c,lettersS,8,5,rfl,by decide,by decide,by rw[l26];decide,by rw[l26];decide,by rw[l26];decide,nd26,λH1 lw ws S1 _ elw lws okw=>⟨by decide,λls hls=>?_⟩⟩
  have fls:=S1.free hls
  have nwl:lw≠ls:=Ai elw hls
  have S2:=S1.trans (Same.upd (o:=.lst []) hls)
  have elw2:upd H1 ls (.lst []) lw=some (Bb ws):=by rw[Ad nwl];exact elw
  have L2:SwL (upd H1 ls (.lst [])) ls []:=⟨Ab,λx hx=>(by cases hx),λx hx=>(by cases hx)⟩
  generalize upd H1 ls (.lst [])=H2 at S2 elw2 L2 ⊢
  refine⟨c,40,rfl,by decide,by decide,⟨by omega,by omega⟩,?_⟩
  have hN:1<=(1+Bq c 40 % 5).toNat/\(1+Bq c 40 % 5).toNat<=5:=by omega
  refine Bc (Bo 0 (1+Bq c 40 % 5).toNat) (λi U H'=>∃ds:List (((Str×List Str)×Addr)×Addr),(∃v6 v7,U=[some (.int c),some (.int (m:Int)),some (.str lettersS),some (.ref lw),some (.ref ls),some (.int (B5 (ds.map (·.1.1)):Nat)),v6,v7])/\Same H H'/\H' lw=some (Bb ws)/\SwL H' ls ds /\
    (ds.map (·.1.1.1)).Sublist (ws.take i)/\(∀x∈ds,F9 x.1.1.2)/\B5 (ds.map (·.1.1))<=m/\(i=0->ds=[])/\(1<=i->ds≠[]))
   ⟨[],⟨_,_,rfl⟩,S2,elw2,L2,dZ _,λx hx=>(by cases hx),(show 1<=m by omega),λ_=>rfl,λh=>(by omega)⟩ (λ_ _ _ _ _=>aQ) ?_ ?_
  .rintro i x U H5 hx ⟨ds,⟨v6,v7,rfl⟩,S45,elw5,L5,sub,oks,pm,z0,z1⟩
   obtain⟨hi,rfl⟩:=Cw hx
   have hs:2<=2+Bq c (41+(i:Int)) % 3/\2+Bq c (41+(i:Int)) % 3<=4:=by omega
   obtain⟨sz,esz⟩:∃sz:Nat,2+Bq c (41+(i:Int)) % 3=(sz:Int):=⟨(2+Bq c (41+(i:Int)) % 3).toNat,by omega⟩
   refine⟨c,41+(i:Int),rfl,by omega,by decide,?_⟩
   refine⟨.inr ⟨by omega,by omega⟩,Lg (λe=>⟨.inr ⟨by omega,by omega⟩,?_⟩) (λe=>?_)⟩
   .have e:((B5 (ds.map (·.1.1)):Nat):Int) * (2+Bq c (41+(i:Int)) % 3)<=m:=of_decide_eq_true e
    have hiw:i<ws.length:=by omega
    refine⟨.inl ⟨rfl,_,SqL.of L5.at_⟩,_,_,.inl (SqL.of elw5),Bw (j:=i) (by rw[al,aj hiw];rfl),?_⟩
    refine⟨c+1+(i:Int),lettersS,8,sz,by rw[<- esz];rfl,by decide,by decide,by rw[l26];omega,by rw[l26];decide,by rw[l26];decide,nd26,λH6 la ss S6 fla ela lss okss=>⟨(show 2<=sizeLine by decide),λta hta=>?_⟩⟩
    have nla:la≠ls:=(Ai L5.at_ fla).symm
    have ST:=Same.upd (o:=.tup [.str ws[i],.ref la]) hta
    have et:upd H6 ta (.tup [.str ws[i],.ref la]) ta=some (.tup [.str ws[i],.ref la]):=Ab
    generalize upd H6 ta (.tup [.str ws[i],.ref la])=H7 at ST et ⊢
    have L7:=L5.up (S6.trans ST)
    have lds:ds.length<=5:=by
     have:=sub.length_le
     rw[ae,aC] at this
     omega
    refine⟨ls,_,_,rfl,rfl,L7.at_,?_,?_⟩
    .rw[ae];exact bb lds (by decide)
    have pe:((B5 ((ds++[(((ws[i],ss),la),ta)]).map (·.1.1)):Nat):Int)=(B5 (ds.map (·.1.1)):Nat) * (2+Bq c (41+(i:Int)) % 3):=by
     rw[ar,show [(((ws[i],ss),la),ta)].map (λx:((Str×List Str)×Addr)×Addr=>x.1.1)=[(ws[i],ss)] from rfl,Lv,jO,lss,esz]
    refine⟨ds++[(((ws[i],ss),la),ta)],⟨_,_,congrArg (λz=>[some (V.int c),some (V.int (m:Int)),some (V.str lettersS),some (V.ref lw),some (V.ref ls),some (V.int z),some (V.int (i:Int)),some (V.int (2+Bq c (41+(i:Int)) % 3))]) pe.symm⟩,(S45.trans (S6.trans ST)).set fls,?_,L7.snoc et (ST _ _ ela) nla,?_,?_,by omega,λh=>(by omega),λ_ h=>by simp at h⟩
    .rw[Ad nwl];exact (S6.trans ST) _ _ elw5
    .rw[ar,aR,aj hiw]
     exact sub.append (dZ _)
    .intro x hx
     rcases List.mem_append.mp hx with hx|hx
     .exact oks x hx
     .obtain rfl:x=(((ws[i],ss),la),ta):=by simpa using hx
      exact⟨⟨λz hz=>ai3 (okss.2 z hz),okss.1,by rw[lss];omega⟩,by rw[lss];omega,by rw[lss];omega⟩
   .have e:¬ ((B5 (ds.map (·.1.1)):Nat):Int) * (2+Bq c (41+(i:Int)) % 3)<=m:=of_decide_eq_false (by simpa using e)
    have hi0:i≠0:=λz=>e (by
     rw[z0 z]
     show ((1:Nat):Int) * _<=_
     omega)
    exact⟨ds,⟨_,_,rfl⟩,S45,elw5,L5,sub.trans (dy (by omega)),oks,pm,λh=>(by omega),λ_=>z1 (by omega)⟩
  .rintro U H4 ⟨ds,⟨v5,v6,rfl⟩,S4,elw4,L4,sub,oks,pm,z0,z1⟩
   rw[A0] at sub z0 z1
   have sub2:=sub.trans (d7 _ ws)
   have hl:=sub2.length_le
   rw[ae] at hl
   have e1:(ds.map (·.1.1)).map (·.1)=ds.map (·.1.1.1):=by rw[aw];rfl
   refine .inl (k H4 ls (ds.map (·.1.1)) S4 ⟨ds,rfl,⟨trivial,L4.at_⟩,λx hx=>⟨⟨trivial,L4.tup x hx⟩,trivial,(L4.lst x hx).1⟩⟩ ⟨?_,?_,?_,?_,?_⟩)
   .rw[ae]
    exact List.length_pos_iff.mpr (z1 hN.1)
   .rw[ae];omega
   .rw[e1];exact okw.1.sublist sub2
   .intro y hy
    obtain⟨x,hx,rfl⟩:=List.mem_map.mp hy
    exact⟨ai3 (okw.2 _ (sub2.subset (List.mem_map.mpr ⟨x,hx,rfl⟩))),oks x hx⟩
   .omega
end
section
theorem bd9(Z:An K t):OkD K Z7 (Az K t) bl (t.f 4) (t.d 4) (Qh K t):=by
 refine A7 (by9 K t) λvs H Q E h=>?_
 .obtain⟨l,sw,rfl,⟨ds,ed,⟨_,ol⟩,hd⟩,hw,k⟩:=h;refine⟨rfl,?_⟩
  have len:ds.length=sw.length:=by rw[<- ed];simp
  refine .inl ⟨⟨_,SqL.of ol⟩,?_⟩
  refine Bc (A5 (ds.map λx=>V.ref x.2)) (λi U H'=>(∃v2 v3,U=[some (.ref l),some (.int (B5 (sw.take i):Nat)),v2,v3])/\H'=H) ⟨⟨_,_,rfl⟩,rfl⟩ (λ_ _ H' _ q=>q.2▸SqL.of ol) ?_ ?_
  .rintro i x U H' hx ⟨⟨v2,v3,rfl⟩,rfl⟩
   obtain⟨⟨⟨x',la⟩,ta⟩,hi,rfl⟩:=Am hx
   have hi2:sw[i]?=some x':=by rw[<- ed,al,hi];rfl
   obtain⟨⟨_,h1⟩,_,h2⟩:=hd _ (ak hi)
   have h2:H' la=some (Bb x'.2):=h2
   have o4:=(hw.sets x' (ak hi2)).2.2
   refine⟨_,.inl (SqT.of h1),rfl,.inl ⟨_,.inl (SqL.of h2),?_⟩⟩
   have e:((B5 (sw.take (i+1)):Nat):Int)=(B5 (sw.take i):Nat) * ((x'.2.map V.str).length:Nat):=by
    rw[aR,hi2,cQ,Lv,jO,ae]
   exact⟨.inr ⟨by rw[ae];omega,by rw[ae];omega⟩,⟨_,_,congrArg (λz=>[some (V.ref l),some (V.int z),some (V.str x'.1),some (V.ref la)]) e.symm⟩,rfl⟩
  .rintro U H' ⟨⟨v2,v3,rfl⟩,rfl⟩
   rw[ae,len,aA]
   rw[Hd] at k
   exact .inl k
theorem bn4(xs:List V):Ct (Tl K a xs.length) xs.reverse (λH=>SqL K H a xs):=by
 refine⟨λi H q h=>⟨by rw[bx] at h;exact h,xs,q,rfl⟩,λH q=>by show xs.length<=xs.reverse.length;rw[bx];exact ag _,λi H x H' q hi h=>?_⟩
 obtain⟨h1,h2⟩:=h
 rw[bx] at hi
 refine⟨h1,?_⟩
 rw[List.getElem?_reverse hi]
 exact h2 xs q
noncomputable def Lk:List Nat->Nat->Nat
 |[],n=>n
 |s::r,n=>Lk r (n / s)
theorem N9:∀(l:List Nat)(s n:Nat),Lk (l++[s]) n=Lk l n / s
 |[],_,_=>rfl
 |a::l,s,n=>N9 l s (n / a)
theorem Rn:∀(l:List Nat)(s n:Nat),Mq (l++[s]) n=(Lk l n % s)::Mq l n
 |[],_,_=>rfl
 | a::l,s,n=>by
  show Mq (l++[s]) (n / a)++[n % a]=_
  rw[Rn l s (n / a)]
  rfl
theorem bc6(Z:An K t):OkD K Zy (Az K t) bl (t.f 6) (t.d 6) (Qf K t):=by
 refine A7 (bx7 K t) λvs H Q E h=>?_
 .obtain⟨l,n,sw,rfl,⟨ds,ed,⟨_,ol⟩,hd⟩,hw,k⟩:=h;refine⟨rfl,?_⟩
  refine⟨(show 0<=sizeLine by decide),λD hD=>?_⟩
  have S0:=Same.upd (o:=.lst []) hD
  have e0:upd H D (.lst []) D=some (nO []):=Ab
  generalize upd H D (.lst [])=H0 at S0 e0 ⊢
  refine⟨_,SqL.of (S0 _ _ ol),?_⟩
  have big:(1000:Nat)<sizeLine:=by decide
  have rv:(ds.map λx=>V.ref x.2).reverse=(ds.reverse).map λx=>V.ref x.2:=List.map_reverse.symm
  have es:(ds.reverse.map λx=>x.1.1.2.length)=(sw.map (·.2.length)).reverse:=by rw[<- ed,aw,dI];rfl
  have ld:ds.reverse.length<=5:=by
   have:=hw.2.1
   rw[<- ed,ae] at this
   rw[bx];exact this
  refine Bc (bn4 (ds.map λx=>V.ref x.2)) (λi U H'=>(∃v3 v4,U=[some (.ref l),some (.int (Lk ((ds.reverse.take i).map λx=>x.1.1.2.length) n:Nat)),some (.ref D),v3,v4])/\Same H H'/\H' D=some (nO (Mq ((ds.reverse.take i).map λx=>x.1.1.2.length) n)))
   ⟨⟨_,_,rfl⟩,S0,e0⟩ (λ_ _ H' _ q=>q.2.1.seqL (SqL.of ol)) ?_ ?_
  .rintro i x U H1 hx ⟨⟨v3,v4,rfl⟩,S1,e1⟩
   rw[rv] at hx
   obtain⟨⟨⟨x',la⟩,ta⟩,hi,rfl⟩:=Am hx
   have hm:((x',la),ta)∈ds:=List.mem_reverse.mp (ak hi)
   have o2:=(hw.sets x' (by rw[<- ed];exact List.mem_map.mpr ⟨_,hm,rfl⟩)).2
   obtain⟨⟨_,h1⟩,_,h2⟩:=hd _ hm
   have h2:H la=some (Bb x'.2):=h2
   have tk:=Bl hi λx=>x.1.1.2.length
   have li:=Aj hi
   refine⟨_,.inl (SqT.of (S1 _ _ h1)),rfl,.inl ⟨rfl,_,SqL.of e1⟩,.inl ⟨_,.inl (SqL.of (S1 _ _ h2)),?_⟩⟩
   have cl:(((x'.2.map V.str).length:Nat):Int)=(x'.2.length:Int):=by rw[ae]
   have md:∀a:Nat,(a:Int) % (x'.2.length:Int)=((a % x'.2.length:Nat):Int):=λa=>(Int.natCast_emod a _).symm
   have el:((Lk ((ds.reverse.take (i+1)).map λx=>x.1.1.2.length) n:Nat):Int)=(Lk ((ds.reverse.take i).map λx=>x.1.1.2.length) n:Nat) / (((x'.2.map V.str).length:Nat):Int):=by
    rw[tk,N9,cl];exact Int.natCast_ediv _ _
   refine⟨by omega,D,_,_,0,rfl,rfl,e1,bC _,?_,.inl ⟨_,.inl (SqL.of ((S1.set hD) _ _ h2)),⟨by omega,by omega⟩,⟨_,_,congrArg (λz=>[some (V.ref l),some (V.int z),some (V.ref D),some (V.str x'.1),some (V.ref la)]) el.symm⟩,S1.set hD,?_⟩⟩
   .rw[ae,D0,ae,aC];omega
   .rw[Ab,nO,tk,Rn,cl,md]
    rfl
  .rintro U H1 ⟨⟨v3,v4,rfl⟩,S1,e1⟩
   rw[bx,ae,<- bx,aA,es] at e1
   exact .inl (k H1 D S1 e1)
end
section
theorem a87(hw:okSw sw)(hx:x∈sw)(h:e.1=x.1/\e.2≠[]/\e.2.Sublist x.2):Ik sw e:=by
 have ox:=hw.sets x hx
 refine⟨h.2.1,⟨λz hz=>ox.1.1 z (h.2.2.subset hz),ox.1.2.1.sublist h.2.2,?_⟩,x,hx,h.1.symm,λz hz=>h.2.2.subset hz⟩
 have:=h.2.2.length_le
 have:=ox.2.2
 omega
theorem bd7(Z:An K t):OkD K Z5 (Az K t) bl (t.f 5) (t.d 5) (Vv K t):=by
 refine A7 (by7 K t) λvs H Q E h=>?_
 .obtain⟨c,l,sw,rfl,⟨ds,ed,⟨_,ol⟩,hd⟩,hw,k⟩:=h;refine⟨rfl,?_⟩
  have len:ds.length=sw.length:=by rw[<- ed];simp
  have l5:=hw.2.1
  have big:(1000:Nat)<sizeLine:=by decide
  refine⟨(show 0<=sizeLine by decide),λkk hkk=>?_⟩
  have S0:=Same.upd (o:=.lst []) hkk
  have ek0:upd H kk (.lst []) kk=some (.lst []):=Ab
  generalize upd H kk (.lst [])=H0 at S0 ek0 ⊢
  refine⟨c,60,rfl,by decide,by decide,⟨by omega,by omega⟩,?_⟩
  refine Bc (Bo 0 (Bq c 60 % 4).toNat) (λi U H'=>∃gs:List (Sw×Addr),(∃v3 v4 v5 v6 v7 v8 v9,U=[some (.int c),some (.ref l),some (.ref kk),v3,v4,v5,v6,v7,v8,v9])/\Same H H'/\H' kk=some (.lst (gs.map λx=>.ref x.2))/\(∀x∈gs,RuleAt (· ≠ kk) H' x.2 x.1)/\(∀r∈gs.map (·.1),Et sw r)/\gs.length<=i)
   ⟨[],⟨_,_,_,_,_,_,_,rfl⟩,S0,ek0,(λx hx=>by cases hx),(λx hx=>by cases hx),ag _⟩ (λ_ _ _ _ _=>aQ) ?_ ?_
  .rintro i x U H1 hx ⟨gs,⟨v3,v4,v5,v6,v7,v8,v9,rfl⟩,S1,ek,hg,okg,gl⟩
   obtain⟨hi,rfl⟩:=Cw hx
   intro d hd0
   refine .inl (.inl ⟨⟨_,(S1.trans (Same.upd hd0)).seqL (SqL.of ol)⟩,?_⟩)
   have Sd:=Same.upd (o:=.dK []) hd0
   have e0:upd H1 d (.dK []) d=some (.dK (([]:List ((Str×List Str)×Addr)).map kR)):=Ab
   have ndk:d≠kk:=(Ai ek hd0).symm
   show Gx (Ite K l) _ _ _ [some (.int c),some (.ref l),some (.ref kk),some (.int (i:Int)),some (.ref d),v5,v6,v7,v8,v9] (upd H1 d (.dK []))
   generalize upd H1 d (.dK [])=H2 at Sd e0 ⊢
   refine J8 (Ey (ds.map λx=>V.ref x.2)) (λj U H'=>(∃v5 v6 v7 v8 v9,U=[some (.int c),some (.ref l),some (.ref kk),some (.int (i:Int)),some (.ref d),v5,v6,v7,v8,v9])/\Same H1 H'/\∃es:List ((Str×List Str)×Addr),H' d=some (.dK (es.map kR))/\(∀e∈es,H1 e.2=none/\e.2≠d/\H' e.2=some (Bb e.1.2))/\((es.map (·.1)).map (·.1)).Sublist ((sw.take j).map (·.1))/\∀e∈es,Ik sw e.1)
    ⟨⟨_,_,_,_,_,rfl⟩,Sd,[],e0,(λe he=>by cases he),dZ _,(λe he=>by cases he)⟩ (λ_ _ H' _ q=>(S1.trans q.2.1).seqL (SqL.of ol)) ?_ ?_
   .rintro j x y T U H3 hx3 hT ⟨⟨v5,v6,v7,v8,v9,rfl⟩,S3,es,ed3,he,sub,oke⟩
    obtain⟨⟨⟨x',la⟩,ta⟩,hj,rfl,rfl⟩:=Ph hx3
    have hj2:sw[j]?=some x':=by rw[<- ed,al,hj];rfl
    have jl:=Aj hj2
    obtain⟨⟨_,h1⟩,_,h2⟩:=hd _ (ak hj)
    have h2:H la=some (Bb x'.2):=h2
    have o4:=(hw.sets x' (ak hj2)).2.2
    have ST:=Same.upd (o:=.tup [.int (j:Int),.ref ta]) hT
    refine⟨_,.inl (SqT.of Ab),rfl,?_⟩
    generalize upd H3 T (.tup [.int (j:Int),.ref ta])=H4 at ST ⊢
    have S14:=S3.trans ST
    have S04:=S1.trans S14
    refine⟨_,.inl (SqT.of (S04 _ _ h1)),rfl,⟨.inl ⟨by decide,by decide⟩,c,61+8 * (i:Int)+(j:Int),rfl,by omega,?_⟩⟩
    refine .inl ⟨⟨_,SqL.of (S04 _ _ h2)⟩,λD hD=>?_⟩
    refine J2 (Ey (x'.2.map V.str)) (λm U H'=>(∃v0 v1,U=[v0,v1,some (.int (Bq c (61+8 * (i:Int)+(j:Int))))])/\Same H4 H'/\∃ss,H' D=some (Bb ss)/\ss.Sublist (x'.2.take m)) ⟨⟨_,_,rfl⟩,Same.upd hD,[],Ab,List.nil_sublist _⟩ (λm U H' _ q=>(S04.trans q.2.1).seqL (SqL.of h2)) ?_ ?_
    .rintro m u y T2 U H5 hx5 hT2 ⟨⟨v0,v1,rfl⟩,S5,ss,eD,sb⟩
     obtain⟨rfl,hy⟩:=K5 hx5
     obtain⟨z,hz,rfl⟩:=Am hy
     have ST2:=Same.upd (o:=.tup [.int (m:Int),.str z]) hT2
     refine⟨_,.inl (SqT.of Ab),rfl,by omega,?_⟩
     have pl:ss.length<=4:=by
      have:=sb.length_le
      rw[aC] at this
      omega
     refine Lg (λ_=>?_) (λ_=>?_)
     .refine⟨_,ST2 _ _ eD,by rw[ae];omega,⟨_,_,rfl⟩,(S5.trans ST2).set hD,ss++[z],by rw[Ab,Bb,ar];rfl,?_⟩
      rw[aR,hz]
      exact sb.append (dZ _)
     .exact⟨⟨_,_,rfl⟩,S5.trans ST2,ss,ST2 _ _ eD,sb.trans (dy (by omega))⟩
    .rintro U H5 ⟨_,S5,ss,eD,sb⟩
     have sb2:ss.Sublist x'.2:=sb.trans (d7 _ _)
     have S15:=S14.trans S5
     refine⟨(show 0<=sizeLine by decide),λq hq=>.inl ⟨D,q,_,_,rfl,rfl,SqL.of ((Same.upd hq) _ _ eD),SqL.of Ab,Ft _,rfl,?_⟩⟩
     have Sq:=Same.upd (o:=.lst []) hq
     generalize upd H5 q (.lst [])=H6 at Sq ⊢
     have S16:=S15.trans Sq
     have stay:(∃v5 v6 v7 v8 v9,[some (V.int c),some (.ref l),some (.ref kk),some (.int (i:Int)),some (.ref d),some (.int (j:Int)),some (.str x'.1),some (.ref la),some (.int (Bq c (61+8 * (i:Int)+(j:Int)))),some (.ref D)]=[some (V.int c),some (.ref l),some (.ref kk),some (.int (i:Int)),some (.ref d),v5,v6,v7,v8,v9])/\Same H1 H6/\∃es:List ((Str×List Str)×Addr),H6 d=some (.dK (es.map kR))/\(∀e∈es,H1 e.2=none/\e.2≠d/\H6 e.2=some (Bb e.1.2))/\((es.map (·.1)).map (·.1)).Sublist ((sw.take (j+1)).map (·.1))/\∀e∈es,Ik sw e.1:=
      ⟨⟨_,_,_,_,_,rfl⟩,S16,es,(ST.trans (S5.trans Sq)) _ _ ed3,λe h=>⟨(he e h).1,(he e h).2.1,(ST.trans (S5.trans Sq)) _ _ (he e h).2.2⟩,sub.trans ((dy (by omega)).map _),oke⟩
     by_cases hp:ss=[]
     .subst hp
      exact stay
     .refine N4 (by rw[Fa (by rw[ae];intro z;exact hp (List.length_eq_zero_iff.mp z))];rfl) ?_
      refine⟨⟨by decide,by decide⟩,by decide,Lg (λ_=>?_) (λ_=>stay)⟩
      have nk:Bv (es.map kR) (.inr x'.1)=none:=by
       refine B4 λq=>?_
       rw[Ki] at q
       obtain⟨y,hy,e⟩:=List.mem_map.mp q
       cases e
       have hm:=sub.subset hy
       rw[jo] at hm
       exact Ei hw.2.2.1 (show (sw.map (·.1))[j]?=some x'.1 by rw[al,hj2];rfl) hm
      have el:es.length<=5:=by
       have:=sub.length_le
       rw[ae,ae,ae,aC] at this
       omega
      have e6D:=Sq _ _ eD
      have e6d:=(ST.trans (S5.trans Sq)) _ _ ed3
      have ndD:D≠d:=λz=>by rw[z,e6d] at e6D;cases e6D
      refine⟨_,DPut.k (k:=.inr x'.1) e6d (by rw[ae];omega),?_⟩
      rw[Kh (e:=(x'.1,ss)) nk]
      refine⟨⟨_,_,_,_,_,rfl⟩,S16.set hd0,es++[((x'.1,ss),D)],Ab,λx hx=>?_,?_,λx hx=>?_⟩
      .rcases List.mem_append.mp hx with hx|hx
       .obtain⟨a1,a2,a3⟩:=he x hx
        exact⟨a1,a2,by rw[Ad a2];exact (ST.trans (S5.trans Sq)) _ _ a3⟩
       .obtain rfl:x=((x'.1,ss),D):=by simpa using hx
        exact⟨S14.free hD,ndD,by rw[Ad ndD];exact e6D⟩
      .rw[ar,ar,aR,hj2,ar]
       exact sub.append (dZ _)
      .rcases List.mem_append.mp hx with hx|hx
       .exact oke x hx
       .obtain rfl:x=((x'.1,ss),D):=by simpa using hx
        exact a87 hw (ak hj2) ⟨rfl,hp,sb2⟩
   .rintro U H3 ⟨⟨v5,v6,v7,v8,v9,rfl⟩,S3,es,ed3,he,sub,oke⟩
    rw[Bj,ae,len,aA] at sub
    refine .inl ?_
    intro q hq
    refine .inl (.inr (.inr (.inl (.inr (.inl ⟨_,.inl ((Same.upd hq) _ _ ed3),.inl Ab,?_⟩)))))
    have Sq:=Same.upd (o:=.dK []) hq
    generalize upd H3 q (.dK [])=H4 at Sq ⊢
    have S14:=S3.trans Sq
    have ek4:=S14 _ _ ek
    have hg4:∀x∈gs,RuleAt (· ≠ kk) H4 x.2 x.1:=λx hx=>(hg x hx).mono (Kp.same S14)
    cases es with
    |nil=>exact⟨gs,⟨_,_,_,_,_,_,_,rfl⟩,S1.trans S14,ek4,hg4,okg,gW gl⟩
    |cons e0 es0=>
     refine Yl ?_
     refine⟨.inl ⟨rfl,_,SqL.of ek4⟩,kk,_,_,rfl,rfl,ek4,by rw[ae];omega,?_⟩
     refine⟨gs++[((e0::es0).map (·.1),d)],⟨_,_,_,_,_,_,_,rfl⟩,(S1.trans S14).set hkk,by rw[Ab,ar];rfl,λx hx=>?_,λr hr=>?_,by rw[aU];exact cz gl⟩
     .refine RuleAt.mono (H:=H4) (ok:=(· ≠ kk)) ?_ (Kp.off λz=>z rfl)
      rcases List.mem_append.mp hx with hx|hx
      .exact hg4 x hx
      .obtain rfl:x=((e0::es0).map (·.1),d):=by simpa using hx
       exact⟨e0::es0,rfl,⟨ndk,Sq _ _ ed3⟩,λx hx=>⟨(Ai ek (he x hx).1).symm,Sq _ _ (he x hx).2.2⟩⟩
     .rw[ar] at hr
      rcases List.mem_append.mp hr with hr|hr
      .exact okg r hr
      .obtain rfl:r=(e0::es0).map (·.1):=by simpa using hr
       have sl:=sub.length_le
       rw[ae,ae,ae] at sl
       refine⟨by simp,by rw[ae];omega,hw.2.2.1.sublist sub,λe h=>?_⟩
       obtain⟨x,hx,rfl⟩:=List.mem_map.mp h
       exact oke x hx
  .rintro U H1 ⟨gs,⟨v3,v4,v5,v6,v7,v8,v9,rfl⟩,S1,ek,hg,okg,gl⟩
   rw[A0] at gl
   exact .inl (k H1 kk (gs.map (·.1)) S1 ⟨gs,rfl,⟨trivial,ek⟩,λx hx=>(hg x hx).mono Kp.any⟩ okg (by rw[ae];omega))
end
section
theorem Rs(z:Str)(l:List Str):inV (.str z) (l.map V.str)=decide (z∈l):=by
 unfold inV
 rw[lE,bO,decide_eq_true_iff,dG]
 constructor
 .rintro⟨y,hy,e⟩
  have e:(y==z)=true:=e
  rw[<- cf e]
  exact hy
 .intro h
  exact⟨z,h,beq_self_eq_true z⟩
noncomputable def inE(rule:Sw)(x z:Str):Bool:=rule.all λe=>!decide (e.1=x)||decide (z∈e.2)
noncomputable def Yj(sw rule:Sw)(r:List Str)(j:Nat):Bool:=inE rule ((sw.map (·.1)).getD j h_) (r.getD j h_)
theorem Ka {α:Type}{l:List α}{i:Nat}{x d:α}(h:l[i]?=some x):l.getD i d=x:=by rw[az,h];rfl
theorem a80 {sw rule:Sw}{n:Nat}{r:List Str}(hw:okSw sw)(hb:Et sw rule)(hn:(Al sw)[n]?=some r):((ay sw.length).all (Yj sw rule r))=(Fy sw rule).testBit n:=by
 have rl:r.length=sw.length:=(Hh hw.sets).2.1 r (ak hn)
 have nm:∀ {j:Nat} {x:Str×List Str},sw[j]?=some x->(sw.map (·.1)).getD j h_=x.1:=λh=>Ka (by rw[al,h];rfl)
 have hz:∀ {j:Nat},j<sw.length->r[j]?=some (r.getD j h_):=λh=>by rw[az,aj (by omega)];rfl
 rw[ac5,decide_eq_true (Aj hn),jj,bO,bn,bn]
 constructor
 .intro h e he
  obtain⟨_,_,x,hx,ex,_⟩:=hb.2.2.2 e he
  obtain⟨j,hj⟩:=List.mem_iff_getElem?.mp hx
  have jl:=Aj hj
  have:=List.all_eq_true.mp (h j (List.mem_range.mpr jl)) e he
  rw[nm hj,ex,decide_eq_true rfl,kL,ji,decide_eq_true_iff] at this
  refine List.any_eq_true.mpr ⟨_,this,?_⟩
  unfold Ui
  rw[hn,<- ex,Lu hj hw.2.2.1]
  exact decide_eq_true (hz jl)
 .intro h j hj
  have jl:=List.mem_range.mp hj
  have hx:sw[j]?=some sw[j]:=aj jl
  refine List.all_eq_true.mpr λe he=>?_
  rw[nm hx]
  by_cases c:e.1=sw[j].1
  .obtain⟨z,hz1,hz2⟩:=List.any_eq_true.mp (h e he)
   unfold Ui at hz2
   have hz2:=of_decide_eq_true hz2
   rw[hn,c,Lu hx hw.2.2.1] at hz2
   have hz2:r[j]?=some z:=hz2
   rw[Ka hz2,decide_eq_true hz1,f_]
  .rw[decide_eq_false c];rfl
theorem a78(f:Nat->Bool)(n:Nat):(((ay n).map f).all λb=>b)=(ay n).all f:=by rw[hJ];rfl
theorem bc5(Z:An K t):OkD K Zx (Az K t) bl (t.f 7) (t.d 7) (Vm K t):=by
 refine A7 (bx6 K t) λvs H Q E h=>?_
 .obtain⟨l,kk,n,sw,ζ,rfl,hsw,hw,⟨gs,eg,⟨_,ok⟩,hg⟩,hr,hn,k⟩:=h;refine⟨rfl,?_⟩
  have big:(1000:Nat)<sizeLine:=by decide
  have l5:=hw.2.1
  refine⟨l,n,sw,rfl,hsw,hw,λH1 r S1 er=>?_⟩
  obtain⟨ds,ed,⟨_,ol⟩,hd⟩:=hsw
  have len:ds.length=sw.length:=by rw[<- ed];simp
  have hrow:(Al sw)[n]?=some (Al sw)[n]:=aj hn
  generalize (Al sw)[n]=row at hrow
  refine .inl ⟨⟨_,SqL.of (S1 _ _ ok)⟩,?_⟩
  refine Bc (A5 (gs.map λx=>V.ref x.2)) (λi U H'=>(∃v4 v5,U=[some (.ref l),some (.ref kk),some (.int (n:Int)),some (.ref r),v4,v5])/\Same H1 H'/\∀q∈ζ.take i,(Fy sw q).testBit n=false) ⟨⟨_,_,rfl⟩,Same.refl _,λq hq=>(by cases hq)⟩ (λ_ _ H' _ q=>(S1.trans q.2.1).seqL (SqL.of ok)) ?_ ?_
  .rintro i x U H2 hx ⟨⟨v4,v5,rfl⟩,S2,pre⟩
   obtain⟨⟨rule,ra⟩,hi,rfl⟩:=Am hx
   have hi2:ζ[i]?=some rule:=by rw[<- eg,al,hi];rfl
   obtain⟨es,ee,⟨_,oe⟩,he⟩:=hg _ (ak hi)
   have ee:es.map (·.1)=rule:=ee
   have oe:H ra=some (.dK (es.map kR)):=oe
   have okr:=hr rule (ak hi2)
   have S02:=S1.trans S2
   refine .inl ⟨⟨_,SqL.of (S02 _ _ ol)⟩,λD hD=>?_⟩
   refine J2 (Ey (ds.map λx=>V.ref x.2)) (λm U H'=>(∃v0 v1 v2,U=[v0,v1,v2,some (.ref r),some (.ref ra)])/\Same H2 H'/\H' D=some (.lst (((ay m).map (Yj sw rule row)).map V.bl))) ⟨⟨_,_,_,rfl⟩,Same.upd hD,Ab⟩ (λm U H' _ q=>(S02.trans q.2.1).seqL (SqL.of ol)) ?_ ?_
   .rintro j x y T U H3 hx3 hT ⟨⟨v0,v1,v2,rfl⟩,S3,eD⟩
    obtain⟨⟨⟨x',la⟩,ta⟩,hj,rfl,rfl⟩:=Ph hx3
    have hj2:sw[j]?=some x':=by rw[<- ed,al,hj];rfl
    have jl:=Aj hj2
    obtain⟨⟨_,h1⟩,_,h2⟩:=hd _ (ak hj)
    have h2:H la=some (Bb x'.2):=h2
    have ST:=Same.upd (o:=.tup [.int (j:Int),.ref ta]) hT
    refine⟨_,.inl (SqT.of Ab),rfl,?_⟩
    generalize upd H3 T (.tup [.int (j:Int),.ref ta])=H4 at ST ⊢
    have S24:=S3.trans ST
    have S04:=S02.trans S24
    obtain⟨dg,hd1,hd2,hd3⟩:=a84 hw hrow hj2
    have hz:x'.2[dg]?=some x'.2[dg]:=aj hd2
    rw[hz] at hd3
    generalize x'.2[dg]=z at hz hd3
    refine⟨_,.inl (SqT.of (S04 _ _ h1)),rfl,?_⟩
    refine⟨_,.int (dg:Int),.inl (SqL.of ((S2.trans S24) _ _ er)),Bw (j:=j) (by rw[al,hd1];rfl),_,.str z,.inl (SqL.of (S04 _ _ h2)),Bw (j:=dg) (by rw[al,hz];rfl),?_⟩
    refine⟨.inr (.inr (.inl ⟨rfl,.inl ⟨_,S04 _ _ oe⟩⟩)),_,DGet.k (k:=.inr x'.1) (S04 _ _ oe),?_⟩
    have fin:∀b:Bool,b=Yj sw rule row j -> ∃ys,H4 D=some (.lst ys)/\ys.length<sizeLine/\(∃v0 v1 v2,[some (V.int (j:Int)),some (.str x'.1),some (.ref la),some (.ref r),some (.ref ra)]=[v0,v1,v2,some (.ref r),some (.ref ra)])/\Same H2 (upd H4 D (.lst (ys++[.bl b])))/\upd H4 D (.lst (ys++[.bl b])) D=some (.lst (((ay (j+1)).map (Yj sw rule row)).map V.bl)):=λb hb=>
     ⟨_,ST _ _ eD,by rw[ae,ae,bi];omega,⟨_,_,_,rfl⟩,S24.set hD,by rw[Ab,hb,fC,ar,ar];rfl⟩
    have ins:Yj sw rule row j=inE rule x'.1 z:=by unfold Yj;rw[Ka hd3,Ka (x:=x'.1) (by rw[al,hj2];rfl)]
    by_cases hin:x'.1∈rule.map (·.1)
    .obtain⟨e,hee,en⟩:=List.mem_map.mp hin
     rw[<- ee] at hee
     obtain⟨⟨e',le⟩,hes,rfl⟩:=List.mem_map.mp hee
     obtain⟨a,ha⟩:=List.mem_iff_getElem?.mp hes
     have hv:Bv (es.map kR) (.inr x'.1)=some (.ref le):=by
      rw[<- en]
      exact Bn (Eo ee okr.2.2.1) (by rw[al,ha];rfl)
     rw[hv]
     refine .inl ⟨le,_,rfl,.inl (SqL.of (S04 _ _ (he _ hes).2)),rfl,Ft _,fin _ ?_⟩
     show inV (.str z) _=_
     rw[Rs,ins]
     have em:e'∈rule:=by rw[<- ee];exact hee
     unfold inE
     rw[bO,decide_eq_true_iff,bn]
     refine⟨λhz e he2=>?_,λh=>by simpa [show e'.1=x'.1 from en] using h e' em⟩
     by_cases c:e.1=x'.1
     .have:e=e':=by
       obtain⟨a1,q1⟩:=List.mem_iff_getElem?.mp he2
       obtain⟨a2,q2⟩:=List.mem_iff_getElem?.mp em
       have l1:=Aj q1
       have l2:=Aj q2
       rw[aj l1] at q1
       rw[aj l2] at q2
       have:=(dH (i:=a1) (j:=a2) (h₀:=by rw[ae];exact l1) (h₁:=by rw[ae];exact l2) okr.2.2.1).mp (by rw[c_,c_,aG q1,aG q2,c];exact en.symm)
       subst this
       exact (aG q1).symm.trans (aG q2)
      rw[this,decide_eq_true hz,f_]
     .rw[decide_eq_false c];rfl
    .have hv:Bv (es.map kR) (.inr x'.1)=none:=by
      refine B4 λq=>hin ?_
      rw[Ki,ee] at q
      obtain⟨y,hy,e⟩:=List.mem_map.mp q
      cases e
      exact hy
     rw[hv]
     refine .inl ⟨la,_,rfl,.inl (SqL.of (S04 _ _ h2)),rfl,Ft _,fin _ ?_⟩
     show inV (.str z) _=_
     rw[Rs,ins,decide_eq_true (ak hz)]
     refine (List.all_eq_true.mpr λe he2=>?_).symm
     rw[decide_eq_false λc=>hin (List.mem_map.mpr ⟨e,he2,c⟩)];rfl
   .rintro U H3 ⟨_,S3,eD⟩
    rw[Bj,ae,len] at eD
    refine⟨_,SqL.of eD,?_⟩
    rw[a78,a80 hw okr hrow]
    cases hc:(Fy sw rule).testBit n with
    |true=>
     have:=k H3 (S02.trans S3)
     have hb:Hv sw ζ n=true:=List.any_eq_true.mpr ⟨rule,ak hi2,hc⟩
     rw[hb] at this
     exact this
    |false=>
     refine⟨⟨_,_,rfl⟩,S2.trans S3,λq hq=>?_⟩
     rw[aR,hi2] at hq
     rcases List.mem_append.mp hq with hq|hq
     .exact pre q hq
     .obtain rfl:q=rule:=by simpa using hq
      exact hc
  .rintro U H2 ⟨⟨v4,v5,rfl⟩,S2,pre⟩
   rw[ae,<- ae (f:=Prod.fst) (as:=gs),eg,aA] at pre
   have hb:Hv sw ζ n=false:=by
    unfold Hv
    rw[i3]
    exact λq hq z=>by rw[pre q hq] at z;cases z
   have:=k H2 (S1.trans S2)
   rw[hb] at this
   exact .inl this
end
section
theorem Ia(l:List Nat):(l.map λn:Nat=>V.int (n:Int)).all B1=true:=by rw[hJ,bn];exact λ_ _=>rfl
theorem be1(Z:An K t):OkD K Z9 (Az K t) bl (t.f 8) (t.d 8) (Vw K t):=by
 refine A7 (bz1 K t) λvs H Q E h=>?_
 .obtain⟨c,m,rfl,hm,hm2,k⟩:=h;refine⟨rfl,?_⟩
  have big:(1000:Nat)<sizeLine:=by decide
  refine⟨c,m,rfl,hm,hm2,λH1 l sw S1 hsw hw=>⟨c,l,sw,rfl,hsw,hw,λH2 kk ζ S2 hr okr lr=>?_⟩⟩
  have few:=hw.len
  have S02:=S1.trans S2
  have hsw2:=hsw.mono (Kp.same S2)
  refine⟨l,sw,rfl,hsw2,hw,⟨by omega,by omega⟩,λD hD=>?_⟩
  rw[aY]
  refine C7 (Bo 0 (Al sw).length) (λi U H'=>(∃v,U=[v,some (.ref kk),some (.ref l)])/\Same H2 H'/\H' D=some (nO ((ay i).filter λn=>!Hv sw ζ n))) ⟨⟨_,rfl⟩,Same.upd hD,Ab⟩ (λ_ _ _ _ _=>aQ) ?_ ?_
  .rintro i x U H3 hx ⟨⟨v,rfl⟩,S3,eD⟩
   obtain⟨hi,rfl⟩:=Cw hx
   refine⟨l,kk,i,sw,ζ,rfl,hsw2.mono (Kp.same S3),hw,hr.mono (Kp.same S3),okr,hi,λH4 S4=>?_⟩
   have S34:=S3.trans S4
   have fs:(ay (i+1)).filter (λn=>!Hv sw ζ n)=(ay i).filter (λn=>!Hv sw ζ n)++(if (!Hv sw ζ i)=true then [i] else []):=by
    rw[fC,c8,List.filter_cons,List.filter_nil]
   cases hc:Hv sw ζ i with
   |true=>
    rw[hc,if_neg (by decide),bS] at fs
    exact⟨⟨_,rfl⟩,S34,by rw[fs];exact S4 _ _ eD⟩
   |false=>
    rw[hc,if_pos (by decide)] at fs
    refine⟨_,S4 _ _ eD,?_,⟨_,rfl⟩,S34.set hD,?_⟩
    .rw[ae]
     have:=cI (λn=>!Hv sw ζ n) (ay i)
     rw[bi] at this
     omega
    .rw[Ab,fs,nO,ar];rfl
  .rintro U H3 ⟨_,S3,eD⟩
   rw[A0] at eD
   have eD:H3 D=some (nO (Aw sw ζ)):=eD
   refine⟨(show 0<=sizeLine by decide),λq hq=>.inl ⟨D,q,_,_,rfl,rfl,SqL.of ((Same.upd hq) _ _ eD),SqL.of Ab,Ia _,rfl,?_⟩⟩
   have Sq:=Same.upd (o:=.lst []) hq
   generalize upd H3 q (.lst [])=H4 at Sq ⊢
   have S24:=S3.trans Sq
   have S04:=S02.trans S24
   by_cases hf:Aw sw ζ=[]
   .rw[hf]
    refine Yl ?_
    refine⟨(show 0<=sizeLine by decide),λk2 hk2=>?_⟩
    have S5:=Same.upd (o:=.lst []) hk2
    have e5:upd H4 k2 (.lst []) k2=some (.lst []):=Ab
    generalize upd H4 k2 (.lst [])=H5 at S5 e5 ⊢
    refine⟨l,sw,rfl,hsw2.mono (Kp.same (S24.trans S5)),hw,by omega,by omega,λD2 hD2=>?_⟩
    rw[aY]
    have S6:=Same.upd (o:=nO (ay (Al sw).length)) hD2
    have e6:upd H5 D2 (nO (ay (Al sw).length)) D2=some (nO (ay (Al sw).length)):=Ab
    show Ae _ _ _ _ (upd H5 D2 (nO (ay (Al sw).length)))
    generalize upd H5 D2 (nO (ay (Al sw).length))=H6 at S6 e6 ⊢
    refine⟨(show 3<=sizeLine by decide),λW hW=>?_⟩
    have S7:=Same.upd (o:=.lst [.ref l,.ref k2,.ref D2]) hW
    have f0:Aw sw []=ay (Al sw).length:=List.filter_eq_self.mpr λ_ _=>rfl
    refine k _ W sw [] l k2 D2 (S04.trans (S5.trans (S6.trans S7))) ⟨Ab,hsw2.mono (Kp.same (S24.trans (S5.trans (S6.trans S7)))),hw,⟨[],rfl,⟨trivial,(S6.trans S7) _ _ e5⟩,λx hx=>by cases hx⟩,λr hr=>(by cases hr),bC _,by rw[f0];exact S7 _ _ e6,?_⟩
    rw[f0]
    intro z
    have:=congrArg dj z
    rw[bi,jQ] at this
    have:=hw.pos
    omega
   .refine F8 (Fa (by rw[ae];intro z;exact hf (List.length_eq_zero_iff.mp z))) ?_
    refine⟨(show 3<=sizeLine by decide),λW hW=>?_⟩
    have S7:=Same.upd (o:=.lst [.ref l,.ref kk,.ref D]) hW
    exact k _ W sw ζ l kk D (S04.trans S7) ⟨Ab,hsw2.mono (Kp.same (S24.trans S7)),hw,hr.mono (Kp.same (S24.trans S7)),okr,by omega,(Sq.trans S7) _ _ eD,hf⟩
theorem G4(x:Int)(h:1<=m):∃v:Nat,v<m/\x % (m:Int)=(v:Int):=by
 have h0:=cZ x (show (m:Int)≠0 by omega)
 have h1:=cC x (show 0<(m:Int) by omega)
 exact⟨(x % (m:Int)).toNat,by omega,by omega⟩
theorem bu0(Z:An K t):OkD K a71 (Az K t) bl (t.f 13) (t.d 13) (ap8 K t):=by
 refine A7 (b70 K t) λvs H Q E h=>?_
 .obtain⟨c,l,sw,n,m,rfl,hsw,hw,hm,k⟩:=h;refine⟨rfl,?_⟩
  obtain⟨ds,ed,⟨_,ol⟩,hd⟩:=id hsw
  have len:ds.length=sw.length:=by rw[<- ed];simp
  have l1:=hw.1
  refine⟨c,70,rfl,by decide,by decide,Lg (λ_=>?_) (λ_=>?_)⟩
  .refine⟨l,n,sw,rfl,hsw,hw,λH1 r S1 er=>⟨c,71,rfl,by decide,.inl ⟨_,.inl (SqL.of (S1 _ _ ol)),?_⟩⟩⟩
   rw[ae,len]
   obtain⟨j,hj,ej⟩:=G4 (Bq c 71) l1
   have hd2:(Pg sw n)[j]?=some ((Pg sw n)[j]'(by rw[K2];exact hj)):=aj _
   refine⟨by omega,_,.int ((Pg sw n)[j]'(by rw[K2];exact hj):Nat),.inl (SqL.of er),?_,by omega,?_⟩
   .rw[ej];exact Bw (by rw[al,hd2];rfl)
   .obtain⟨v,hv,ev⟩:=G4 (((Pg sw n)[j]'(by rw[K2];exact hj):Nat):Int) hm
    rw[ev]
    exact k H1 v S1 hv
  .obtain⟨v,hv,ev⟩:=G4 (Bq c (700+(n:Int))) hm
   refine⟨c,700+(n:Int),rfl,by omega,by omega,?_⟩
   rw[ev]
   exact k H v (Same.refl _) hv
noncomputable def textS:Str := " !\"#$&'()*+,-./0123456789:;<=>?@ABCDEFGHIJKLMNOPQRSTUVWXYZ[\\]^_`" ++ "abcdefghijklmnopqrstuvwxyz{|}~"
theorem b19(x:Int)(h0:0<=x)(h:x<5):∃L:Nat,L<=60/\atI [V.int 0,.int 1,.int 2,.int 5,.int 60] x=some (.int (L:Int)):=by
 have:x=0\/x=1\/x=2\/x=3\/x=4:=by omega
 rcases this with rfl|rfl|rfl|rfl|rfl
 .exact⟨0,by decide,rfl⟩
 .exact⟨1,by decide,rfl⟩
 .exact⟨2,by decide,rfl⟩
 .exact⟨5,by decide,rfl⟩
 .exact⟨60,by decide,rfl⟩
theorem be7(Z:An K t):OkD K aa4 (Az K t) bl (t.f 9) (t.d 9) (Qj K t):=by
 refine A7 (bz7 K t) λvs H Q E h=>?_
 .obtain⟨c,rfl,k⟩:=h;refine⟨rfl,?_⟩
  have ts:1<=textS.length/\textS.length<=1000:=by decide +kernel
  have big:(1000:Nat)<sizeLine:=by decide
  refine⟨by decide +kernel,(show 5<=sizeLine by decide),λq hq=>⟨c,301,rfl,by decide,by decide,?_⟩⟩
  have S1:=Same.upd (o:=.lst [.int 0,.int 1,.int 2,.int 5,.int 60]) hq
  obtain⟨L,hL,eL⟩:=b19 (Bq c 301 % 5) (by omega) (by omega)
  refine⟨_,_,.inl (SqL.of Ab),eL,?_⟩
  show Ae _ _ _ _ (upd H q (.lst [.int 0,.int 1,.int 2,.int 5,.int 60]))
  generalize upd H q (.lst [.int 0,.int 1,.int 2,.int 5,.int 60])=H1 at S1 ⊢
  refine⟨rfl,⟨by omega,by omega⟩,?_⟩
  show ∀D,H1 D=none->Dx (Itr 0 ((L:Int)).toNat) _ _ _ D _ _ _ _
  rw[aY]
  refine Ky (f:=λj=>.str ⟨#[sgC textS (Bq c (302+(j:Int)))]⟩) (rest:=[some (.int c),some (.str textS)]) (Bo 0 L) (λ_ _=>aQ) (by rw[A0];omega) (λj x H2 Q1 hj _ q=>?_) λD H2 S2 hD eD=>?_
  .obtain⟨hj,rfl⟩:=Cw hj
   exact⟨c,302+(j:Int),rfl,by omega,by omega,by omega,by omega,_,an1 _ ts.1,q _ (Same.refl _)⟩
  .rw[A0,Qe] at eD
   refine⟨_,D,_,rfl,rfl,.inl (SqL.of eD),?_,?_⟩
   .rw[Fl,ae,bi];omega
   rw[En]
   exact k H2 _ (S1.trans S2) (by have:=Q6 (λj=>sgC textS (Bq c (302+(j:Int)))) L;unfold wB at this;rw[this];exact hL)
theorem Th(hx:TkAt H x v):∀ {l:List TK} {vs:List V},Ao H l vs->Ao H (l++[x]) (vs++[v])
 |[],vs,h=>by unfold Ao at h;subst h;show Ao H [x] [v];unfold Ao;exact⟨v,[],rfl,hx,by unfold Ao;rfl⟩
 |y::l,vs,h=>by unfold Ao at h;obtain⟨u,r,rfl,h1,h2⟩:=h;show Ao H (y::(l++[x])) _;unfold Ao;exact⟨u,_,rfl,h1,Th hx h2⟩
theorem Q4(hs:∀b ys,H b=some (.tup ys)->H' b=some (.tup ys)):∀ {l:List TK} {vs:List V},Ao H l vs->Ao H' l vs
 |[],vs,h=>by unfold Ao at h ⊢;exact h
 |y::l,vs,h=>by unfold Ao at h ⊢;obtain⟨u,r,e,h1,h2⟩:=h;exact⟨u,r,e,h1.up hs,Q4 hs h2⟩
theorem Ta:∀ {vs:List V},(∀v∈vs,∃z,v=.str z) -> ∃l:List TK,Ao H l vs/\∀k∈l,Aq k<=0
 |[],_=>⟨[],by unfold Ao;rfl,λk hk=>by cases hk⟩
 | v::vs,h=>by
  obtain⟨l,h1,h2⟩:=Ta (H:=H) λu hu=>h u (ax _ hu)
  obtain⟨z,rfl⟩:=h v aJ
  refine⟨.at_ (.inr z)::l,by unfold Ao;exact⟨_,_,rfl,by unfold TkAt;rfl,h1⟩,λk hk=>?_⟩
  rcases List.mem_cons.mp hk with rfl|hk
  .exact Ga _ _
  .exact h2 k hk
theorem bt7(Z:An K t):OkD K a68 (Az K t) bl (t.f 10) (t.d 10) (ap5 K t):=by
 refine A7 (b67 K t) λvs H Q E h=>?_
 .obtain⟨kd,c,rfl,k⟩:=h;refine⟨rfl,?_⟩
  have big:(1000:Nat)<sizeLine:=by decide
  refine Lg (λ_=>?_) (λ_=>?_)
  .exact⟨c,rfl,λH' z S hz=>k H' (.at_ (.inr z)) (.str z) S (by unfold TkAt;rfl) ⟨Ga _ _,λi z=>by cases z⟩⟩
  .refine⟨c,310,rfl,by decide,by decide,(show 0<=sizeLine by decide),λR hR=>?_⟩
   have S0:=Same.upd (o:=.lst []) hR
   have e0:upd H R (.lst []) R=some (.lst []):=Ab
   show Ae _ _ _ _ (upd H R (.lst []))
   generalize upd H R (.lst [])=H0 at S0 e0 ⊢
   refine⟨c,311,rfl,by decide,by decide,⟨by omega,by omega⟩,?_⟩
   refine Bc (Bo 0 (1+Bq c 311 % 3).toNat) (λi U H'=>(∃v4,U=[some (.str kd),some (.int c),some (.int (1+Bq c 310 % 3)),some (.ref R),v4])/\Same H H'/\∃(ks:List TK)(vs:List V),H' R=some (.lst vs)/\Ao H' ks vs/\(∀k∈ks,Aq k<=1)/\vs.length=i)
    ⟨⟨_,rfl⟩,S0,[],[],e0,(by unfold Ao;rfl),(λk hk=>by cases hk),rfl⟩ (λ_ _ _ _ _=>aQ) ?_ ?_
   .rintro i x U H1 hx ⟨⟨v4,rfl⟩,S1,ks,vs,eR,tk,dp,lv⟩
    obtain⟨hi,rfl⟩:=Cw hx
    refine⟨.inl ⟨rfl,_,SqL.of eR⟩,⟨by omega,by omega⟩,?_⟩
    refine J3 (P:=λ_ v _=>∃z,v=.str z) (rest:=[some (.int c),some (.int (i:Int))]) (λ_ _ _ _ _ h=>h) (Bo 0 (1+Bq c 310 % 3).toNat) (λ_ _=>aQ) (by rw[A0];omega) (λj x H2 Q1 hj _ q=>?_) λD H2 us S2 hD eD lu hu=>?_
    .obtain⟨hj,rfl⟩:=Cw hj
     exact⟨.inl ⟨by decide,by decide⟩,.inl ⟨by decide,by decide⟩,_,rfl,λH3 z S3 hz=>⟨by omega,q _ H3 S3 ⟨_,rfl⟩⟩⟩
    .refine⟨_,.inl ⟨SqL.of eD,λT hT=>?_⟩⟩
     have ST:=Same.upd (o:=.tup us) hT
     have eT:upd H2 T (.tup us) T=some (.tup us):=Ab
     generalize upd H2 T (.tup us)=H3 at ST eT ⊢
     have S13:=S2.trans ST
     obtain⟨l,tl,dl⟩:=Ta (H:=H3) λv hv=>by
      obtain⟨j,hj⟩:=List.mem_iff_getElem?.mp hv
      exact hu j v hj
     have e3:=S13 _ _ eR
     have nl:=NL.upd (m:=vs++[.ref T]) e3
     refine⟨R,_,_,rfl,rfl,e3,by omega,⟨_,rfl⟩,(S1.trans S13).set hR,ks++[.tup l],_,Ab,?_,λk hk=>?_,by rw[aU,lv];rfl⟩
     .refine Q4 nl.tup (Th ?_ (Q4 (NL.same S13).tup tk))
      unfold TkAt
      exact⟨T,us,rfl,eT,tl⟩
     .rcases List.mem_append.mp hk with hk|hk
      .exact dp k hk
      .obtain rfl:k=.tup l:=by simpa using hk
       unfold Aq
       exact cz (Cy dl)
   .rintro U H1 ⟨⟨v4,rfl⟩,S1,ks,vs,eR,tk,dp,lv⟩
    refine .inl ⟨_,.inl ⟨SqL.of eR,λT hT=>?_⟩⟩
    have ST:=Same.upd (o:=.tup vs) hT
    refine k _ (.tup ks) (.ref T) (S1.trans ST) ?_ ?_
    .unfold TkAt
     exact⟨T,vs,rfl,Ab,Q4 (NL.same ST).tup tk⟩
    .refine⟨?_,λi z=>by cases z⟩
     unfold Aq
     exact cz (Cy dp)
end
section
theorem ar0 {S:St->Prop}{C:St->Hp->Prop}{H:Hp}{G:Prop}(use:(∀U,S U->C U H)->G)(h:∀U,S U->C U H):G:=use h
theorem To {xs:List V}(x:Int){n:Int}(hn:n=xs.length)(h:0<xs.length):∃v∈xs,atI xs (x % n)=some v:=by
 obtain⟨j,hj,e⟩:=G4 x (show 1<=xs.length from h)
 subst hn
 rw[e]
 exact⟨xs[j],df hj,Bw (aj hj)⟩
theorem Kj(es:List ((Str×Rc)×Addr)):(es.map kT).map (·.1)=(es.map (·.1.1)).map (ie:Str->Key):=by simp[aw,Function.comp_def]
theorem bq8 {es:List ((Str×Rc)×Addr)}(h:(es.map (·.1.1)).Nodup):((es.map kT).map (·.1)).Nodup:=by rw[Kj];exact Ij h
theorem Po {es:List ((Str×Rc)×Addr)}(h:(es.map (·.1.1)).Nodup){i:Nat}{e:(Str×Rc)×Addr}(hi:es[i]?=some e):Bv (es.map kT) (.inr e.1.1)=some (.ref e.2):=Bn (bq8 h) (by rw[al,hi];rfl)
theorem af7 {es:List ((Str×Rc)×Addr)}{n:Str}(h:¬ n∈es.map (·.1.1)):Bv (es.map kT) (.inr n)=none:=by
 refine B4 λq=>h ?_
 rw[Kj] at q
 obtain⟨y,hy,e⟩:=List.mem_map.mp q
 cases e
 exact hy
theorem W2 {es:List ((Str×Rc)×Addr)}{e:Str×Rc}{a:Addr}(h:¬ e.1∈es.map (·.1.1)):B7 (es.map kT) (.inr e.1) (.ref a)=(es++[(e,a)]).map kT:=by rw[C5 _ (af7 h),ar];rfl
theorem K4 {H:Hp}{d:Addr}{kvs:List (Key×V)}{o:HO}(h:H d=some (.dK kvs) \/ ∃x,H d=some (.frz x (.dK kvs))):∀b ys,H b=some (.tup ys)->upd H d o b=some (.tup ys):=λb ys e=>by
 rw[Ad λz=>?_];exact e
 rcases h with h|⟨x,h⟩ <;> (rw[z,h] at e;cases e)
noncomputable def kdsL:List Str:=["chapter", "para", "table", "chapter"]
theorem be8(Z:An K t):OkD K aa5 (Az K t) bl (t.f 11) (t.d 11) (V1 K t):=by
 refine A7 (bz8 K t) λvs H Q E h=>?_
 .obtain⟨c,v,l,ws,rfl,hl,nd,few,k⟩:=h;refine⟨rfl,?_⟩
  have big:(1000:Nat)<sizeLine:=by decide
  intro d hd0
  refine .inl (.inl ⟨⟨_,(Same.upd hd0).seqL (SqL.of hl)⟩,?_⟩)
  have Sd:=Same.upd (o:=.dK []) hd0
  have e0:upd H d (.dK []) d=some (.dK (([]:List ((Str×Rc)×Addr)).map kT)):=Ab
  show Gx (Ite K l) _ _ _ [some (.int c),some (.int (v:Int)),some (.ref l),some (.ref d),none,none,none,none,none,none] (upd H d (.dK []))
  generalize upd H d (.dK [])=H0 at Sd e0 ⊢
  refine J8 (Ey (ws.map V.str)) (λi U H'=>(∃v4 v5 v6 v7 v8 v9,U=[some (.int c),some (.int (v:Int)),some (.ref l),some (.ref d),v4,v5,v6,v7,v8,v9])/\Same H H'/\∃es:List ((Str×Rc)×Addr),H' d=some (.dK (es.map kT))/\(∀e∈es,RcAt H' e.2 e.1.2/\okC e.1.2.c)/\(es.map (·.1.1)).Sublist (ws.take i))
   ⟨⟨_,_,_,_,_,_,rfl⟩,Sd,[],e0,(λe he=>by cases he),List.nil_sublist _⟩ (λ_ _ H' _ q=>q.2.1.seqL (SqL.of hl)) ?_ ?_
  .rintro i x y T U H1 hx hT ⟨⟨v4,v5,v6,v7,v8,v9,rfl⟩,S1,es,ed,he,sub⟩
   obtain⟨rfl,hy⟩:=K5 hx
   obtain⟨n,hn,rfl⟩:=Am hy
   have il:=Aj hn
   have ST:=Same.upd (o:=.tup [.int (i:Int),.str n]) hT
   refine⟨_,.inl (SqT.of Ab),rfl,?_⟩
   generalize upd H1 T (.tup [.int (i:Int),.str n])=H2 at ST ⊢
   have S2:=S1.trans ST
   have ed2:=ST _ _ ed
   have he2:∀e∈es,RcAt H2 e.2 e.1.2/\okC e.1.2.c:=λe h=>⟨(he e h).1.up (NL.same ST).tup,(he e h).2⟩
   clear he ed
   have sub1:(es.map (·.1.1)).Sublist (ws.take (i+1)):=sub.trans (dy (by omega))
   refine⟨c,100+(i:Int),rfl,by omega,?_⟩
   show Ae _ _ _ _ _
   refine' ar0 (S:=λU=>∃N:Int,U=[some (.int c),some (.int (v:Int)),some (.ref l),some (.ref d),some (.int (i:Int)),some (.str n),some (.int N),v7,v8,v9]) (H:=H2) (λrest=>?u) ?v
   case u=>
    refine Lg (λ_=>?_) (λ_=>av5 (rest _ ⟨_,rfl⟩))
    exact⟨.inl ⟨by decide,by decide⟩,c,130+40 * (v:Int)+(i:Int),rfl,by omega,by decide,Lg (λ_=>⟨.inl ⟨by decide,by decide⟩,c,500+40 * (v:Int)+(i:Int),rfl,by omega,rest _ ⟨_,rfl⟩⟩) (λ_=>rest _ ⟨_,rfl⟩)⟩
   case v=>
    rintro U ⟨N,rfl⟩
    refine⟨by decide,Lg (λ_=>?_) (λ_=>⟨⟨_,_,_,_,_,_,rfl⟩,S2,es,ed2,he2,sub1⟩)⟩
    refine⟨(show 4<=sizeLine by decide),λq1 hq1=>⟨⟨by decide,by decide⟩,by decide,?_⟩⟩
    have S3:=Same.upd (o:=.lst (kdsL.map V.str)) hq1
    obtain⟨kv,hkv,ekv⟩:=To (xs:=kdsL.map V.str) (N / 6) (n:=4) rfl (by decide)
    obtain⟨kd,_,rfl⟩:=List.mem_map.mp hkv
    refine⟨_,_,.inl (SqL.of Ab),ekv,?_⟩
    show Ae _ _ _ _ (upd H2 q1 (.lst (kdsL.map V.str)))
    generalize upd H2 q1 (.lst (kdsL.map V.str))=H3 at S3 ⊢
    have ed3:=S3 _ _ ed2
    refine⟨(show 1<=sizeLine by decide),λb1 hb1=>?_⟩
    have S4:=Same.upd (o:=.lst [.str ""]) hb1
    have e4:upd H3 b1 (.lst [.str ""]) b1=some (.lst [.str ""]):=Ab
    generalize upd H3 b1 (.lst [.str ""])=H4 at S4 e4 ⊢
    have ed4:=S4 _ _ ed3
    have he4:∀e∈es,RcAt H4 e.2 e.1.2/\okC e.1.2.c:=λe h=>⟨(he2 e h).1.up (NL.same (S3.trans S4)).tup,(he2 e h).2⟩
    have nde:(es.map (·.1.1)).Nodup:=nd.sublist (sub.trans (d7 _ _))
    refine .inr (.inr (.inl (.inl ⟨_,ed4,λo L hL=>?_⟩)))
    have ef:upd H4 d (.frz o (.dK (es.map kT))) d=some (.frz o (.dK (es.map kT))):=Ab
    have tf:=K4 (o:=.frz o (.dK (es.map kT))) (.inl ed4)
    have e4f:upd H4 d (.frz o (.dK (es.map kT))) b1=some (.lst [.str ""]):=by rw[Ad λz=>by rw[z,ed4] at e4;cases e4];exact e4
    have th:∀H',Same (upd H4 d (.frz o (.dK (es.map kT)))) H'->Same H4 (upd H' d (.dK (es.map kT))):=λH' S=>Same.thaw ed4 S
    generalize upd H4 d (.frz o (.dK (es.map kT)))=Hf at ef tf e4f th hL ⊢
    refine C7 (Ew (es.map kT)) (λi U' H'=>(∃v,U'=[v,some (.ref d)])/\Same Hf H'/\∃ps:List Str,H' L=some (Bb ps)/\ps.length<=i) ⟨⟨_,rfl⟩,Same.upd hL,[],Ab,ag _⟩ (λ_ _ H' _ q=>q.2.1 _ _ ef) ?_ ?_
    .rintro j x U' H5 hx ⟨⟨vv,rfl⟩,S5,ps,eL,lp⟩
     rw[aw] at hx
     obtain⟨e,hj,rfl⟩:=Am hx
     obtain⟨cv,er,_⟩:=(he4 e (ak hj)).1
     have jl:=Aj hj
     have sl:=sub.length_le
     rw[ae,aC] at sl
     refine⟨.ref e.2,.inl ⟨_,.inr e.1.1,.inr ⟨o,S5 _ _ ef⟩,rfl,(Po nde hj).symm⟩,_,_,.inr (SqT.of (S5 _ _ (tf _ _ er))),rfl,Lg (λ_=>?_) (λ_=>?_)⟩
     .exact⟨_,eL,by rw[ae];omega,⟨_,rfl⟩,S5.set hL,ps++[e.1.1],by rw[Ab,Bb,ar];rfl,by rw[aU];exact cz lp⟩
     .exact⟨⟨_,rfl⟩,S5,ps,eL,gW lp⟩
    .rintro U' H5 ⟨_,S5,ps,eL,lp⟩
     rw[ae,ae] at lp
     have sl:=sub.length_le
     rw[ae,aC] at sl
     refine .inl ⟨b1,L,_,_,rfl,rfl,S5 _ _ e4f,eL,by rw[ae,c7];omega,λM hM=>?_⟩
     have S6:=S5.trans (Same.upd (o:=.lst ([.str ""]++ps.map V.str)) hM)
     have eM:upd H5 M (.lst ([.str ""]++ps.map V.str)) M=some (Bb (("" : Str)::ps)):=Ab
     generalize upd H5 M (.lst ([.str ""]++ps.map V.str))=H6 at S6 eM ⊢
     refine .inr ⟨d,o,_,ed3,S6 _ _ ef,?_⟩
     have S7:=S4.trans (th _ S6)
     have eM7:upd H6 d (.dK (es.map kT)) M=some (Bb (("" : Str)::ps)):=by rw[Ad λz=>by rw[z,S6 _ _ ef] at eM;cases eM];exact eM
     generalize upd H6 d (.dK (es.map kT))=H7 at S7 eM7 ⊢
     refine⟨⟨by decide,by decide,by decide⟩,⟨by decide,by decide⟩,by decide,(show 4<=sizeLine by decide),λb2 hb2=>⟨⟨by decide,by decide⟩,by decide,?_⟩⟩
     obtain⟨v2,hv2,ev2⟩:=To (xs:=[(0:Int),1,10 ^ lS 9,N / 96 % 1000].map V.int) (N / 24) (n:=4) rfl (by simp)
     obtain⟨rk,_,rfl⟩:=List.mem_map.mp hv2
     refine⟨_,_,.inl (SqL.of Ab),ev2,?_⟩
     have S8:=Same.upd (o:=.lst ([(0:Int),1,10 ^ lS 9,N / 96 % 1000].map V.int)) hb2
     show Ae _ _ _ _ (upd H7 b2 (.lst ([(0:Int),1,10 ^ lS 9,N / 96 % 1000].map V.int)))
     generalize upd H7 b2 (.lst ([(0:Int),1,10 ^ lS 9,N / 96 % 1000].map V.int))=H8 at S8 ⊢
     obtain⟨v3,hv3,ev3⟩:=To (xs:=(("" : Str)::ps).map V.str) (N / 384) rfl (by simp)
     obtain⟨pr,_,rfl⟩:=List.mem_map.mp hv3
     have eM8:=S8 _ _ eM7
     refine⟨⟨by decide,by decide⟩,.inl ⟨_,.inl (SqL.of eM8),by rw[ae,aN];omega,_,_,.inl (SqL.of eM8),ev3,?_⟩⟩
     refine⟨⟨by decide,by decide⟩,kd,N / 96,rfl,λH9 x vv S9 tk dp=>⟨(show 4<=sizeLine by decide),λT2 hT2=>?_⟩⟩
     have S10:=S9.trans (Same.upd (o:=.tup [.str kd,.str pr,.int rk,vv]) hT2)
     have eT:upd H9 T2 (.tup [.str kd,.str pr,.int rk,vv]) T2=some (.tup [.str kd,.str pr,.int rk,vv]):=Ab
     have tk2:=tk.up (NL.same (Same.upd (o:=.tup [.str kd,.str pr,.int rk,vv]) hT2)).tup
     generalize upd H9 T2 (.tup [.str kd,.str pr,.int rk,vv])=H10 at S10 eT tk2 ⊢
     have S310:=S7.trans (S8.trans S10)
     have ed10:=S310 _ _ ed3
     have nn:¬ n∈es.map (·.1.1):=λz=>Ei nd hn (sub.subset z)
     refine⟨_,DPut.k (k:=.inr n) ed10 (by rw[ae];omega),?_⟩
     rw[W2 (e:=(n,⟨kd,pr,rk,x⟩)) nn]
     have tu:=K4 (o:=.dK ((es++[((n,(⟨kd,pr,rk,x⟩:Rc)),T2)]).map kT)) (.inl ed10)
     refine⟨⟨_,_,_,_,_,_,rfl⟩,(S2.trans (S3.trans S310)).set hd0,_,Ab,λe h=>?_,?_⟩
     .rcases List.mem_append.mp h with h|h
      .exact⟨((he2 e h).1.up (NL.same (S3.trans S310)).tup).up tu,(he2 e h).2⟩
      .obtain rfl:e=((n,(⟨kd,pr,rk,x⟩:Rc)),T2):=by simpa using h
       exact⟨RcAt.up (x:=⟨kd,pr,rk,x⟩) tu ⟨vv,eT,tk2⟩,dp⟩
     .rw[ar,aR,hn]
      exact sub.append (dZ _)
  .rintro U H1 ⟨⟨v4,v5,v6,v7,v8,v9,rfl⟩,S1,es,ed,he,sub⟩
   have sub2:=sub.trans (d7 _ ws)
   have e1:(es.map (·.1)).map (·.1)=es.map (·.1.1):=by rw[aw];rfl
   have sl:=sub2.length_le
   rw[ae] at sl
   refine .inl (k H1 d (es.map (·.1)) S1 ⟨es,rfl,⟨trivial,ed⟩,λe h=>(he e h).1⟩ ⟨by rw[e1];exact nd.sublist sub2,by rw[ae];omega,λx hx=>?_⟩)
   obtain⟨e,h,rfl⟩:=List.mem_map.mp hx
   exact (he e h).2
end
section
theorem TrAt.nl {H H':Hp}{d:Addr}{T:Tr}(h:TrAt any H d T)(S:NL H H'):TrAt any H' d T:=let ⟨es,e,⟨_,o⟩,q⟩:=h;⟨es,e,⟨trivial,S _ _ (λ_ z=>by cases z) o⟩,λx hx=>(q x hx).up S.tup⟩
theorem Xj {α:Type}{P:α->Addr->Prop}:∀ {vs:List V},(∀v∈vs,∃d T,v=.ref d/\P T d) -> ∃es:List (α×Addr),vs=es.map (λe=>.ref e.2)/\∀e∈es,P e.1 e.2
 |[],_=>⟨[],rfl,λe h=>by cases h⟩
 | v::vs,h=>by
  obtain⟨es,rfl,q⟩:=Xj λu hu=>h u (ax _ hu)
  obtain⟨d,T,rfl,p⟩:=h v aJ
  refine⟨(T,d)::es,rfl,λe he=>?_⟩
  rcases List.mem_cons.mp he with rfl|he
  .exact p
  .exact q e he
theorem Kg(g:Nat->Addr)(ns:List Nat):(ns.map (kF g)).map (·.1)=ns.map λn:Nat=>(.inl (n:Int):Key):=by rw[aw];rfl
theorem ba4 {g:Nat->Addr}{ns:List Nat}{n:Nat}(h:¬ n∈ns):Bv (ns.map (kF g)) (.inl (n:Int))=none:=by
 refine B4 λq=>h ?_
 rw[Kg] at q
 obtain⟨m,hm,e⟩:=List.mem_map.mp q
 injection e with e
 have:m=n:=by omega
 exact this▸hm
theorem aj2(b:Bool)(x y:V):atI [x,y] (if b=true then 1 else 0)=some (if b=true then y else x):=by cases b <;> rfl
theorem be6(Z:An K t):OkD K aa3 (Az K t) bl (t.f 14) (t.d 14) (V0 K t):=by
 refine A7 (bz6 K t) λvs H Q E h=>?_
 .obtain⟨a,ns,b,rfl,hS,k⟩:=h;refine⟨rfl,?_⟩
  have big:(1000:Nat)<sizeLine:=by decide
  refine⟨a,ns,0,rfl,hS,⟨by decide,by decide⟩,(show 2<=sizeLine by decide),λq hq=>⟨_,_,.inl (SqL.of Ab),aj2 b _ _,?_⟩⟩
  have S1:=Same.upd (o:=.lst [.int 24,.int 256]) hq
  generalize upd H q (.lst [.int 24,.int 256])=H1 at S1 ⊢
  refine⟨Cf ns 0 / 8,if b=true then 256 else 24,by cases b <;> rfl,by cases b <;> decide,by cases b <;> decide,λH2 W sw ζ l kk f S2 hW=>?_⟩
  have S02:=S1.trans S2
  refine⟨a,ns,1,rfl,S02.seqL hS,a,ns,2,rfl,S02.seqL hS,(show 2<=sizeLine by decide),λq2 hq2=>⟨_,_,.inl (SqL.of Ab),aj2 b _ _,?_⟩⟩
  have S3:=Same.upd (o:=.lst [.int 8,.int 3]) hq2
  generalize upd H2 q2 (.lst [.int 8,.int 3])=H3 at S3 ⊢
  obtain⟨m2,lm2,em2⟩:∃m:Nat,(1<=m/\m<=8)/\1+Cf ns 2 % (if b=true then 3 else 8)=(m:Int):=by
   cases b
   .exact⟨(1+Cf ns 2 % 8).toNat,by omega,by show 1+Cf ns 2 % 8=_;omega⟩
   .exact⟨(1+Cf ns 2 % 3).toNat,by omega,by show 1+Cf ns 2 % 3=_;omega⟩
  have ev:(if b=true then V.int 3 else V.int 8)=V.int (if b=true then 3 else 8):=by cases b <;> rfl
  rw[ev]
  refine⟨by cases b <;> decide,Cf ns 1,m2,by rw[<- em2];rfl,lm2.2,λH4 nm ws S4 enm lws ndw z12=>?_⟩
  have S04:=S02.trans (S3.trans S4)
  refine⟨a,ns,2,rfl,S04.seqL hS,⟨by decide,by decide⟩,by decide,⟨by omega,by omega⟩,?_⟩
  obtain⟨m4,l4,em4⟩:∃m:Nat,(1<=m/\m<=4)/\1+Cf ns 2 / 8 % 4=(m:Int):=⟨(1+Cf ns 2 / 8 % 4).toNat,by omega,by omega⟩
  have em5:(1+Cf ns 2 / 8 % 4).toNat=m4:=by omega
  refine J3 (P:=λ_ v H'=>∃d T,v=.ref d/\TrAt any H' d T/\Cb T) (rest:=[some (.ref nm),some (.ref a)]) (λ_ _ _ _ S ⟨d,T,e,h,o⟩=>⟨d,T,e,h.nl S,o⟩) (Bo 0 (1+Cf ns 2 / 8 % 4).toNat) (λ_ _=>aQ) (by rw[A0];omega) (λj x H5 Q1 hj S5 q=>?_) λD H5 vs S5 hD eD lv hv=>?_
  .obtain⟨hj,rfl⟩:=Cw hj
   exact⟨a,ns,3,rfl,(S04.trans S5).seqL hS,Cf ns 3,j,nm,ws,rfl,S5 _ _ enm,ndw,by omega,λH6 d T S6 hT okT=>q _ H6 S6 ⟨d,T,rfl,hT,okT⟩⟩
  rw[A0,em5] at lv
  obtain⟨es,rfl,he⟩:=Xj (P:=λT d=>TrAt any H5 d T/\Cb T) λv hm=>by
   obtain⟨j,hj⟩:=List.mem_iff_getElem?.mp hm
   exact hv j v hj
  rw[ae] at lv
  have hW5:=hW
  have S25:=S3.trans (S4.trans S5)
  intro F hF
  refine .inl ⟨_,_,.inl (SqL.of ((S25.trans (Same.upd hF)) _ _ hW.at_)),rfl,.inl ⟨⟨_,SqL.of ((S25.trans (Same.upd hF)) _ _ hW.fr)⟩,?_⟩⟩
  have S6:=Same.upd (o:=.dK []) hF
  have e6:upd H5 F (.dK []) F=some (.dK (([]:List Nat).map (kF λ_=>0))):=Ab
  show Gx (Itl K f) _ _ _ [some (.ref a),some (.bl b),some (.ref W),some (.ref nm),some (.int (1+Cf ns 2 / 8 % 4)),some (.ref D),some (.ref F),none] (upd H5 F (.dK []))
  generalize upd H5 F (.dK [])=H6 at S6 e6 ⊢
  have d0:Tr×Addr:=es[0]'(by omega)
  have asc:=K8 sw ζ
  have ndf:(Aw sw ζ).Nodup:=asc.imp λh=>aT h
  have le256:(Aw sw ζ).length<=256:=by
   have:=cI (λn=>!Hv sw ζ n) (ay (Al sw).length)
   rw[bi] at this
   exact a9 this hW.ok.len
  refine Bc (A5 ((Aw sw ζ).map λn:Nat=>V.int (n:Int))) (λi U H'=>(∃v7,U=[some (.ref a),some (.bl b),some (.ref W),some (.ref nm),some (.int (1+Cf ns 2 / 8 % 4)),some (.ref D),some (.ref F),v7])/\Same H5 H'/\∃u:Nat->Nat,(∀n∈(Aw sw ζ).take i,u n<es.length)/\H' F=some (.dK (((Aw sw ζ).take i).map (kF λn=>(es.getD (u n) d0).2))))
   ⟨⟨_,rfl⟩,S6,λ_=>0,(λn hn=>by cases hn),e6⟩ (λ_ _ H' _ q=>(S25.trans q.2.1).seqL (SqL.of hW.fr)) ?_ ?_
  .rintro i x U H7 hx ⟨⟨v7,rfl⟩,S7,u,hu,eF⟩
   obtain⟨n,hn,rfl⟩:=Am hx
   have S27:=S25.trans S7
   have S07:=S04.trans (S5.trans S7)
   refine⟨a,ns,4,rfl,S07.seqL hS,_,_,.inl (SqL.of (S27 _ _ hW.at_)),rfl,Cf ns 4,l,sw,n,m4,by rw[<- em4];rfl,hW.sws.mono (Kp.same S27),hW.ok,l4.1,λH8 v S8 hv2=>?_⟩
   have S78:=S7.trans S8
   have hv3:v<es.length:=by omega
   refine⟨_,_,.inl (SqL.of (S78 _ _ eD)),Bw (j:=v) (by rw[al,aj hv3];rfl),.inr ⟨_,DPut.k (k:=.inl (n:Int)) (S8 _ _ eF) ?_,?_⟩⟩
   .rw[ae,aC];omega
   have nn:¬ n∈(Aw sw ζ).take i:=Ei ndf hn
   rw[C5 _ (ba4 nn)]
   refine⟨⟨_,rfl⟩,S78.set hF,λm=>if m=n then v else u m,λm hm=>?_,?_⟩
   .show (if m=n then v else u m)<_
    rw[aR,hn] at hm
    rcases List.mem_append.mp hm with hm|hm
    .rw[if_neg (λz:m=n=>nn (z▸hm))];exact hu m hm
    .obtain rfl:m=n:=by simpa using hm
     rw[if_pos rfl];exact hv3
   .rw[Ab,Bl hn]
    congr 3
    .refine bu λm hm=>?_
     show (_,V.ref (es.getD (u m) d0).2)=(_,V.ref (es.getD (if m=n then v else u m) d0).2)
     rw[if_neg (λz:m=n=>nn (z▸hm))]
    .show [((.inl (n:Int):Key),V.ref es[v].2)]=[(_,V.ref (es.getD (if n=n then v else u n) d0).2)]
     rw[if_pos rfl,az,aj hv3];rfl
  .rintro U H7 ⟨⟨v7,rfl⟩,S7,u,hu,eF⟩
   rw[ae,aA] at hu eF
   refine .inl ⟨(show 3<=sizeLine by decide),λL hL=>?_⟩
   have S8:=Same.upd (o:=.lst [.ref W,.ref nm,.ref F]) hL
   have S28:=S25.trans (S7.trans S8)
   refine k _ L W nm F sw ζ l kk f ws (λn=>(es.getD (u n) d0).2) (λn=>(es.getD (u n) d0).1) (S04.trans (S5.trans (S7.trans S8))) Ab ((S5.trans (S7.trans S8)) _ _ enm) ⟨by omega,by omega,z12⟩ ⟨S28 _ _ hW.at_,hW.sws.mono (Kp.same S28),hW.ok,hW.rl.mono (Kp.same S28),hW.rok,hW.few,S28 _ _ hW.fr,hW.ne⟩ ⟨S8 _ _ eF,λn hn=>?_,es.map (·.1),by rw[ae];omega,λn hn=>?_⟩
   .have hg:es.getD (u n) d0=es[u n]'(hu n hn):=by rw[az,aj (hu n hn)];rfl
    have:=he _ (df (hu n hn))
    rw[hg]
    exact⟨this.1.nl (NL.same (S7.trans S8)),this.2⟩
   .have hg:es.getD (u n) d0=es[u n]'(hu n hn):=by rw[az,aj (hu n hn)];rfl
    show (es.getD (u n) d0).1∈_
    rw[hg]
    exact bF (df (hu n hn))
end
section
theorem bs8(Z:An K t):OkD K as8 (Az K t) bl (t.m_zbu 1) (t.e_zbu 1) (ao6 K t):=by
 refine A7 (b58 K t) λvs H Q E h=>?_
 .obtain⟨p,sw,ζ,rfl,⟨dx,d,l,n,s,kk,b,hp⟩,k⟩:=h;refine⟨rfl,?_⟩
  exact gy ⟨_,_,_,_,hp.ins.2,Z.pf.cl,(Z.pf.na _ (by simp)),rfl,k⟩
theorem bc3(Z:An K t):OkD K D_zae (Az K t) bl t.f_zae t.d_zae (an5 K t):=by
 refine A7 (bx4 K t) λvs H Q E h=>?_
 .obtain⟨a,dx,rfl,e,k⟩:=h;refine⟨rfl,?_⟩
  intro d hd
  have ne:a≠d:=λz=>by rw[z,hd] at e;cases e
  exact .inl (.inl ⟨t.c_zbv,dx,[],by rw[Ad ne];exact e,Z.pc,Z.pr,by decide,k d hd ne.symm⟩)
theorem bd0(Z:An K t):OkD K Wk (Az K t) bl (t.m_zbv 3) (t.e_zbv 3) (Vp K t):=by
 refine A7 (by1 K t) λvs H Q E h=>?_
 .obtain⟨p,dx,d,kvs,n,kd,q,r,v,rfl,e,ed,hl,k⟩:=h;refine⟨rfl,?_⟩
  refine⟨(show 4<=sizeLine by decide),λa ha=>?_⟩
  have n1:p≠a:=λz=>by rw[z,ha] at e;cases e
  have n2:d≠a:=λz=>by rw[z,ha] at ed;cases ed
  exact gy ⟨_,_,_,.ref d,(by rw[Ad n1];exact e),Z.pc,Z.pr,rfl,⟨_,DPut.k (k:=.inr n) (by rw[Ad n2];exact ed) (bb hl (by decide)),k a ha⟩⟩
theorem bt4(Z:An K t):OkD K at2 (Az K t) bl (t.m_zbv 4) (t.e_zbv 4) (ap2 K t):=by
 refine A7 (b64 K t) λvs H Q E h=>?_
 .obtain⟨p,T,rfl,⟨dx,d,⟨_,e⟩,es,et,⟨_,ed⟩,_⟩,o,k⟩:=h;refine⟨rfl,?_⟩
  have ek:(es.map kT).map (·.1)=(T.map (·.1)).map (ie:Str->Key):=by rw[Kj,<- et,aw];simp[aw,Function.comp_def]
  have l8:(T.map (·.1)).length<=8:=by rw[ae];exact o.2.1
  have nd:=o.1
  generalize T.map (·.1)=zs at ek k l8 nd
  exact gy ⟨_,_,_,.ref d,e,Z.pc,Z.pr,rfl,.inr ⟨rfl,.inl ⟨d,zs,rfl,.inr ⟨_,.inl ed,ek⟩,nd,by omega,k⟩⟩⟩
theorem TrAt.up(h:TrAt ok H d T)(S:Same H H'):TrAt ok H' d T:=let ⟨es,e,⟨q,o⟩,z⟩:=h;⟨es,e,⟨q,S _ _ o⟩,λx hx=>(z x hx).up (NL.same S).tup⟩
theorem PlAt.up(h:PlAt C ok H p T)(S:Same H H'):PlAt C ok H' p T:=let ⟨dx,d,⟨q,o⟩,z⟩:=h;⟨dx,d,⟨q,S _ _ o⟩,z.up S⟩
theorem ah7(ha:H a=none)(hdx:H dx=none)(ne:dx≠a)(hd0:upd (upd H dx (.own a)) a (.ins C dx []) d0=none) :
  H d0=none/\Same H (upd (upd (upd (upd H dx (.own a)) a (.ins C dx [])) d0 (.dK [])) a (.ins C dx [("records", .ref d0)]))/\upd (upd (upd (upd H dx (.own a)) a (.ins C dx [])) d0 (.dK [])) a (.ins C dx [("records", .ref d0)]) d0=some (.dK []):=by
 have n1:d0≠a:=λc=>by rw[c,Ab] at hd0;cases hd0
 have n2:d0≠dx:=λc=>by rw[c,Ad ne,Ab] at hd0;cases hd0
 have hd1:H d0=none:=by rw[Ad n1,Ad n2] at hd0;exact hd0
 exact⟨hd1,(((Same.upd hdx).set ha).set hd1).set ha,by rw[Ad n1,Ab]⟩
theorem bt0(Z:An K t):OkD K as9 (Az K t) bl (t.m_zbv 1) (t.e_zbv 1) (ao8 K t):=by
 refine A7 (b60 K t) λvs H Q E h=>?_
 .obtain⟨p,T,rfl,hP,k⟩:=h;refine⟨rfl,?_⟩
  intro a dx ha hdx ne
  refine⟨a,dx,rfl,Ab,λd0 hd0 _=>⟨rfl,?_⟩⟩
  obtain⟨_,S1,_⟩:=ah7 ha hdx ne hd0
  have ea:upd (upd (upd (upd H dx (.own a)) a (.ins t.c_zbv dx [])) d0 (.dK [])) a (.ins t.c_zbv dx [("records", .ref d0)]) a=some (.ins t.c_zbv dx [("records", .ref d0)]):=Ab
  generalize upd (upd (upd (upd H dx (.own a)) a (.ins t.c_zbv dx [])) d0 (.dK [])) a (.ins t.c_zbv dx [("records", .ref d0)])=H1 at S1 ea ⊢
  obtain⟨dx1,d,⟨_,e1⟩,es,et,⟨_,ed⟩,he⟩:=hP.up S1
  refine gy ⟨_,_,_,.ref d,e1,Z.pc,Z.pr,rfl,⟨d,_,rfl,.inl ed,λq hq=>?_⟩⟩
  have S2:=Same.upd (o:=.dK (es.map kT)) hq
  have eq:upd H1 q (.dK (es.map kT)) q=some (.dK (es.map kT)):=Ab
  have he2:∀e∈es,RcAt (upd H1 q (.dK (es.map kT))) e.2 e.1.2:=λe h=>(he e h).up (NL.same S2).tup
  generalize upd H1 q (.dK (es.map kT))=H2 at S2 eq he2 ⊢
  have ea2:=S2 _ _ ea
  refine .inl ⟨_,_,_,ea2,Z.pc,Z.pr,(show 1<1000 by decide),k _ a ((S1.trans S2).set ha) ⟨dx,q,⟨trivial,Ab⟩,es,et,⟨trivial,by rw[Ad λz=>by rw[z,ea2] at eq;cases eq];exact eq⟩,λe h=>(he2 e h).up λb ys e=>?_⟩⟩
  rw[Ad λz=>by rw[z,ea2] at e;cases e];exact e
theorem aq6:∀ {zs:List Str} {vs:List V},vs.length=zs.length->(∀(i:Nat) v z,vs[i]?=some v->zs[i]?=some z->TkAt H (F z) v)->Ao H (zs.map F) vs
 |[],[],_,_=>by rw[eG];unfold Ao;rfl
 |[],_::_,h,_=>by cases h
 |_::_,[],h,_=>by cases h
 |z::zs,v::vs,h,g=>by rw[aS];unfold Ao;exact⟨v,vs,rfl,g 0 v z rfl rfl,aq6 (by simpa using h) λi v z h1 h2=>g (i+1) v z h1 h2⟩
theorem bs3(Z:An K t):OkD K as5 (Az K t) bl (t.m_zbv 6) (t.e_zbv 6) (ao3 K t):=by
 refine A7 (b53 K t) λvs H Q E h=>?_
 .obtain⟨p,T,rfl,hP,o,k⟩:=h;refine⟨rfl,?_⟩
  have big:(1000:Nat)<sizeLine:=by decide
  obtain⟨dx,d,⟨_,e⟩,es,et,⟨_,ed⟩,he⟩:=id hP
  have nde:(es.map (·.1.1)).Nodup:=by have:=o.1;rw[<- et,aw] at this;exact this
  refine⟨p,dx,_,⟨t.c_zbv,bq5 K t⟩,rfl,.head _,e,rfl,⟨ag _,ag _⟩,⟨p,T,rfl,hP,o,λl hl=>?_⟩⟩
  have S1:=Same.upd (o:=Bb (Fm (T.map (·.1)))) hl
  have e1:upd H l (Bb (Fm (T.map (·.1)))) l=some (Bb (Fm (T.map (·.1)))):=Ab
  have pm:=Ef (T.map (·.1))
  have hm:∀n∈Fm (T.map (·.1)),n∈T.map (·.1):=λn hn=>pm.mem_iff.mp hn
  have lm:=pm.length_eq
  have hvk:vkT T=.tup ((Fm (T.map (·.1))).map λn=>.tup [.at_ (.inr n),Vb T n]):=rfl
  rw[hvk] at k
  rw[ae] at lm
  have l8:=o.2.1
  generalize Fm (T.map (·.1))=zs at S1 e1 hm lm k ⊢
  refine .inl ⟨⟨_,SqL.of e1⟩,?_⟩
  generalize upd H l (Bb zs)=H1 at S1 e1 ⊢
  refine J3 (P:=λi v H'=>∀z,zs[i]?=some z->TkAt H' (.tup [.at_ (.inr z),Vb T z]) v) (rest:=[some (.ref p)]) (λi v _ _ S q z hz=>(q z hz).up S.tup) (A5 (zs.map V.str)) (λH2 S2=>S2.seqL (SqL.of e1)) (by rw[ae];omega) (λi x H2 Q1 hx S2 q=>?_) λD H2 vs S2 hD eD lv hv=>?_
  .obtain⟨z,hz,rfl⟩:=Am hx
   have S02:=S1.trans S2
   obtain⟨⟨z',x⟩,hx1,hx2⟩:=List.mem_map.mp (hm z (ak hz))
   obtain rfl:z'=z:=hx2
   rw[<- et] at hx1
   obtain⟨e',he',ee⟩:=List.mem_map.mp hx1
   obtain⟨j,hj⟩:=List.mem_iff_getElem?.mp he'
   have hv:=Po nde hj
   have hr:=he e' he'
   rw[ee] at hv hr
   refine gy ⟨_,_,_,.ref d,S02 _ _ e,Z.pc,Z.pr,rfl,⟨.ref e'.2,.inl ⟨_,.inr z',.inl (S02 _ _ ed),rfl,hv.symm⟩,(show 2<=sizeLine by decide),λB hB=>q _ _ (Same.upd hB) λz2 hz2=>?_⟩⟩
   rw[hz] at hz2
   cases hz2
   have rt:Vb T z'=rcT x:=Vc (Uq o.1 (by rw[<- et];exact hx1))
   rw[rt]
   unfold TkAt
   refine⟨B,_,rfl,Ab,?_⟩
   unfold Ao;refine⟨_,_,rfl,by unfold TkAt;rfl,?_⟩
   unfold Ao;refine⟨_,_,rfl,hr.tk.up (NL.same (S02.trans (Same.upd hB))).tup,?_⟩
   unfold Ao;rfl
  .rw[ae] at lv
   refine⟨_,.inl ⟨SqL.of eD,λB hB=>k _ B (S1.trans (S2.trans (Same.upd hB))) ?_⟩⟩
   unfold TkAt
   exact⟨B,vs,rfl,Ab,aq6 lv λi v z h1 h2=>(hv i v h1 z h2).up (NL.same (Same.upd hB)).tup⟩
theorem a77(m n:Nat):decide (cu ((m:Int) / 2 ^ ((n:Int)).toNat) 1=1)=m.testBit n:=by
 rw[aY,Dm,<- Int.natCast_ediv,show (1:Int)=((1:Nat):Int) from rfl,Ej,Nat.and_one_is_mod,Nat.testBit_eq_decide_div_mod_eq]
 exact decide_eq_decide.mpr (by omega)
theorem bf3(Z:An K t):OkD K ab0 (Az K t) bl (t.f 15) (t.d 15) (V2 K t):=by
 refine A7 (b03 K t) λvs H Q E h=>?_
 .obtain⟨c,n,rfl,k⟩:=h;refine⟨rfl,?_⟩
  rw[<- a77] at k
  exact⟨by omega,k⟩
noncomputable def bits(c:Nat):Nat:=iu (c:Int)
theorem au0(c:Nat):c<2 ^ bits c:=by
 have h:=(j_ (m:=bits c) (x:=(c:Int))).mp (ag _)
 simpa using h
theorem at9(h:c<2 ^ m):bits c<=m:=(j_ (m:=m) (x:=(c:Int))).mpr (by simpa using h)
theorem bt2(Z:An K t):OkD K a66 (Az K t) bl (t.f 16) (t.d 16) (ap0 K t):=by
 refine A7 (b62 K t) λvs H Q E h=>?_
 .obtain⟨c,o,rfl,ho,hc,k⟩:=h;refine⟨rfl,?_⟩
  have hbl:=at9 hc
  refine⟨rfl,_,rfl,rfl,⟨by show -(2 ^ 62)<=((bits c:Nat):Int);omega,by show ((bits c:Nat):Int)<2 ^ 62;omega⟩,?_⟩
  show Gx (Itr 0 (bits c)) _ _ _ [some (.int (c:Int)),none] _
  refine Bc (Bo 0 (bits c)) (λm U H'=>(∃v,U=[some (.int (c:Int)),v])/\H'=H/\∀n,o=some n->m<=n) ⟨⟨_,rfl⟩,rfl,λ_ _=>bC _⟩ (λ_ _ _ _ _=>aQ) ?_ ?_
  .rintro m x U H1 hx ⟨⟨v,rfl⟩,rfl,no⟩
   obtain⟨hm,rfl⟩:=Cw hx
   refine⟨c,m,rfl,?_⟩
   cases o with
   |none=>
    have ho:c=0:=ho
    have hz:c.testBit m=false:=by rw[ho];exact fY m
    rw[hz];exact⟨⟨_,rfl⟩,rfl,λ_ z=>by cases z⟩
   |some n=>
    obtain⟨hb,hn⟩:=ho
    rcases Nat.eq_or_lt_of_le (no n rfl) with rfl|h
    .rw[hb];exact k
    .rw[hn m h];exact⟨⟨_,rfl⟩,rfl,λ_ z=>by cases z;exact h⟩
  .rintro U H1 ⟨⟨v,rfl⟩,rfl,no⟩
   rw[A0] at no
   cases o with
   |none=>exact .inl k
   |some n=>
    obtain⟨hb,hn⟩:=ho
    rw[Nat.testBit_lt_two_pow (aP (au0 c) (ij (by decide) (no n rfl)))] at hb
    cases hb
theorem bd6(Z:An K t):OkD K Z4 (Az K t) bl (t.f 32) (t.d 32) (Vu K t):=by
 refine A7 (by6 K t) λvs H Q E h=>?_
 .obtain⟨d0,T,rfl,hT,oT,k⟩:=h;refine⟨rfl,?_⟩
  intro p dx hp0 hdx nep
  refine⟨p,dx,rfl,Ab,λd hd0 npd=>⟨rfl,?_⟩⟩
  obtain⟨hd,S1,e1d⟩:=ah7 hp0 hdx nep hd0
  have e1p:upd (upd (upd (upd H dx (.own p)) p (.ins t.c_zbv dx [])) d (.dK [])) p (.ins t.c_zbv dx [("records", .ref d)]) p=some (.ins t.c_zbv dx [("records", .ref d)]):=Ab
  generalize upd (upd (upd (upd H dx (.own p)) p (.ins t.c_zbv dx [])) d (.dK [])) p (.ins t.c_zbv dx [("records", .ref d)])=H1 at S1 e1d e1p ⊢
  obtain⟨es,et,⟨_,ed⟩,he⟩:=hT.up S1
  have nde:(es.map (·.1.1)).Nodup:=by have:=oT.1;rw[<- et,aw] at this;exact this
  have l8:=oT.2.1
  have le:es.length=T.length:=by rw[<- et,ae]
  have ndd:d≠d0:=λz=>by
   obtain⟨es2,_,⟨_,e2⟩,_⟩:=hT
   rw[<- z,hd] at e2;cases e2
  have npd0:p≠d0:=λz=>by rw[z,ed] at e1p;cases e1p
  refine .inr (.inr (.inl (.inl ⟨_,ed,λo=>?_⟩)))
  have ef:upd H1 d0 (.frz o (.dK (es.map kT))) d0=some (.frz o (.dK (es.map kT))):=Ab
  have tf:=K4 (o:=.frz o (.dK (es.map kT))) (.inl ed)
  have efd:upd H1 d0 (.frz o (.dK (es.map kT))) d=some (.dK []):=by rw[Ad ndd];exact e1d
  have efp:upd H1 d0 (.frz o (.dK (es.map kT))) p=some (.ins t.c_zbv dx [("records", .ref d)]):=by rw[Ad npd0];exact e1p
  have of:∀b u,b≠d0->H1 b=some u->upd H1 d0 (.frz o (.dK (es.map kT))) b=some u:=λb u nb e=>by rw[Ad nb];exact e
  show Gx (Itd d0 o (es.map kT)) _ _ _ [some (.ref d0),some (.ref p),none,none,none,none,none] _
  generalize upd H1 d0 (.frz o (.dK (es.map kT)))=Hf at ef tf efd efp of ⊢
  refine Bc (Ew (es.map kT)) (λi U H'=>(∃v2 v3 v4 v5 v6,U=[some (.ref d0),some (.ref p),v2,v3,v4,v5,v6])/\(∀a u,a≠d->Hf a=some u->H' a=some u)/\∃fs:List ((Str×Rc)×Addr),fs.map (·.1)=T.take i/\H' d=some (.dK (fs.map kT))/\∀e∈fs,RcAt H' e.2 e.1.2)
   ⟨⟨_,_,_,_,_,rfl⟩,(λ_ _ _ e=>e),[],rfl,efd,λe h=>by cases h⟩ (λ_ _ H' _ q=>q.2.1 _ _ ndd.symm ef) ?_ ?_
  .rintro i x U H2 hx ⟨⟨v2,v3,v4,v5,v6,rfl⟩,B2,fs,ft,e2d,hf⟩
   rw[aw] at hx
   obtain⟨e,hi,rfl⟩:=Am hx
   have tt:∀b ys,H1 b=some (.tup ys)->H2 b=some (.tup ys):=λb ys q=>B2 _ _ (λz=>by rw[z,e1d] at q;cases q) (tf _ _ q)
   obtain⟨v,er,tk⟩:=(he e (ak hi)).up tt
   have hiT:T[i]?=some e.1:=by rw[<- et,al,hi];rfl
   have nn:¬ e.1.1∈fs.map (·.1.1):=λz=>by
    have:e.1.1∈(T.take i).map (·.1):=by rw[<- ft,aw];exact z
    rw[jo] at this
    exact Ei oT.1 (show (T.map (·.1))[i]?=some e.1.1 by rw[al,hiT];rfl) this
   have lf:fs.length<=8:=by
    have:=congrArg dj ft
    rw[ae,aC] at this
    omega
   refine⟨.ref e.2,.inl ⟨_,.inr e.1.1,.inr ⟨o,B2 _ _ ndd.symm ef⟩,rfl,(Po nde hi).symm⟩,_,.inl (SqT.of er),rfl,?_⟩
   refine⟨p,dx,_,⟨t.c_zbv,a39 K t⟩,rfl,.head _,B2 _ _ (cA npd) efp,rfl,⟨ag _,ag _⟩,⟨p,dx,d,_,e.1.1,e.1.2.k,e.1.2.p,e.1.2.r,v,rfl,B2 _ _ (cA npd) efp,e2d,by rw[ae];exact lf,λa ha=>?_⟩⟩
   have nda:d≠a:=Ai e2d ha
   have Sa:=Same.upd (o:=.tup [.str e.1.2.k,.str e.1.2.p,.int e.1.2.r,v]) ha
   have ea:upd H2 a (.tup [.str e.1.2.k,.str e.1.2.p,.int e.1.2.r,v]) a=some (.tup [.str e.1.2.k,.str e.1.2.p,.int e.1.2.r,v]):=Ab
   generalize upd H2 a (.tup [.str e.1.2.k,.str e.1.2.p,.int e.1.2.r,v])=H3 at Sa ea ⊢
   have tu:=K4 (o:=.dK ((fs++[(e.1,a)]).map kT)) (.inl (Sa _ _ e2d))
   rw[W2 (e:=e.1) nn]
   refine⟨⟨_,_,_,_,_,rfl⟩,λb u nb q=>by rw[Ad nb];exact Sa _ _ (B2 b u nb q),_,?_,Ab,λf hf2=>?_⟩
   .rw[ar,ft,aR,hiT];rfl
   .rcases List.mem_append.mp hf2 with h|h
    .exact ((hf f h).up (NL.same Sa).tup).up tu
    .obtain rfl:f=(e.1,a):=by simpa using h
     exact RcAt.up (x:=e.1.2) tu ⟨v,ea,tk.up (NL.same Sa).tup⟩
  .rintro U H2 ⟨⟨v2,v3,v4,v5,v6,rfl⟩,B2,fs,ft,e2d,hf⟩
   rw[ae,ae,le,aA] at ft
   have e2f:=B2 _ _ ndd.symm ef
   refine .inr ⟨d0,o,_,ed,e2f,k _ p (λb u q=>?_) ⟨dx,d,⟨trivial,by rw[Ad npd0];exact B2 _ _ (cA npd) efp⟩,fs,ft,⟨trivial,by rw[Ad ndd];exact e2d⟩,λf h=>(hf f h).up (K4 (.inr ⟨o,e2f⟩))⟩⟩
   by_cases hb:b=d0
   .subst hb
    rw[Ab,<- ed,S1 _ _ q]
   .rw[Ad hb]
    exact B2 _ _ (λz=>by rw[z,hd] at q;cases q) (of _ _ hb (S1 _ _ q))
end
section
theorem be3(Z:An K t):OkD K D_zay (Az K t) bl (t.f 17) (t.d 17) (Vy K t):=by
 intro P w mg base dV F T
 obtain⟨oc,od,kV,doc,pm,an,θ,ct,osl,ef,lk,hcd⟩:=id F.ex
 have hl:(match (t.d 17).code with
  |.ref c=>dJ K c 315
  |_=>false)=true:=by
  have:=Z.lam
  unfold Lj at this
  rw[lk] at this
  exact this
 obtain⟨c,hcode,hc⟩:∃c,(t.d 17).code=.ref c/\dJ K c 315=true:=by
  cases e:(t.d 17).code with
  |ref c=>rw[e] at hl;exact⟨c,rfl,hl⟩
  |_=>rw[e] at hl;cases hl
 have T5:=T 5 (by decide)
 have T2:=T 2 (by decide)
 obtain⟨hb1,hb2⟩:=T5.1 "__builtins__" (.val (.ref 4) (t.u 0)) (List.mem_filterMap.mpr ⟨⟨0, "__builtins__", .val (.ref 4) (t.u 0)⟩,aL _ (bX _ aJ),rfl⟩)
 have hbm:mg "__builtins__"=some (.ref 4):=by rw[hb1];exact congrArg some hb2
 refine a92 (j:=2) (m:=40) (n:=40) (N:=D_zay.N) (N':=["pair"]) (dl:=bz3 K t) (da:=Aa 0) F (ScOk.fn (by decide +kernel)) (by decide +kernel) T5 T2 rfl (by decide +kernel) (T5.2 _ (by decide)) rfl hcode hc hbm (λ_=>rfl) (λ_=>rfl) (ScOk.fn (by decide +kernel)) (by decide +kernel) rfl (λ_ _ _ _ _=>rfl) (by kernel_rfl) (by kernel_rfl) (λvs H Q E h=>?_) (λvs H Q E h=>?_)
 .obtain⟨b,es,rfl,_⟩:=h;rfl
 .obtain⟨b,es,rfl,⟨hP,ob,u,hB,b1,b2,b3⟩,eb,l64,asc,one,k⟩:=h
  have e2:(es.map λe=>(((e.1.2.1:Nat):Int),V.ref e.2.2)).map (·.2)=es.map λe=>V.ref e.2.2:=by rw[aw];rfl
  refine⟨.ref b,rfl,b,ob,u,es.map λe=>(((e.1.2.1:Nat):Int),V.ref e.2.2),rfl,by rw[e2];exact SqL.of eb,by rw[ae];exact l64,?_,hP,hB,⟨b1,b2,b3⟩,λd hd H3 O3=>?_,λH' D O _ e=>k H' D O (by rw[e,e2])⟩
  .rw[aw]
   have:=fH (S:=λa b:Int=>a<b) (λn:Nat=>(n:Int)) (λa b h=>by omega) asc
   rw[aw] at this
   exact this
  .obtain⟨e,he,rfl⟩:=List.mem_map.mp hd
   obtain⟨h1,h2,h3,h4⟩:=one e he
   have e3:=O3 _ _ (λz=>by rw[z,hP] at h1;cases h1) h1
   exact⟨_,_,.inr (SqT.of e3),rfl,e.1.2.2,some e.1.2.1,rfl,⟨h2,h3⟩,h4,rfl,Same.refl _⟩
end
section
theorem ad0 {p:Addr}{o:Obj}{kvs:List (TK×V)}{g:DG}{tc:DT}{te:DE}{L:Addr}{R:Hp->Prop}{U:St}{H:Hp}{E:EK}(Pv:Nat->St->Hp->Prop)(h0:Pv 0 U H)(hok:∀i U H,Pv i U H->H p=some (.frz o (.dT kvs)))(hs:∀i k v b U H,kvs[i]?=some (k,v)->Aq k<=8/\TkAt H k b->Pv i U H->g b U H λU3 H3=>tc U3 H3 (λb H4=>if b=true then te U3 H4 (λv H5=>∃ys,H5 L=some (.lst ys)/\ys.length<sizeLine/\Pv (i+1) U3 (upd H5 L (.lst (ys++[v])))) E else Pv (i+1) U3 H4) E)(hd:∀U H,Pv kvs.length U H->R H):Dx (at4 p o kvs) g tc te L R U H E:=by
 refine⟨λi m U H=>m=kvs.length - i/\i<=kvs.length/\Pv i U H,⟨kvs.length,by simp,bC _,h0⟩,?_⟩
 rintro i m U H ⟨rfl,hi,q⟩
 by_cases hlt:i<kvs.length
 .refine .inr ⟨⟨hok i U H q,hlt⟩,Pv (i+1),λU' H' p'=>⟨kvs.length - (i+1),by omega,rfl,hlt,p'⟩,λx H' y=>?_⟩
  obtain⟨rfl,k,v,h1,h2,h3⟩:=y
  exact hs i k v x U _ h1 ⟨h2,h3⟩ q
 .have e:i=kvs.length:=by omega
  subst e
  exact .inl ⟨⟨hok _ U H q,ag _⟩,hd U H q⟩
noncomputable abbrev gK(g:Gp):TK×V:=(g.1,.int (g.2.2:Int))
theorem J9(gs:List Gp):(gs.map gK).map (·.1)=gs.map (·.1):=by rw[aw];rfl
theorem any_mem {κ:Type} [DecidableEq κ]{kvs:List (κ×V)}{k:κ}:(kvs.any λkv=>decide (kv.1=k))=true ↔ k∈kvs.map (·.1):=by
 rw[dG,am]
 exact⟨fun⟨x,h,e⟩=>⟨x,h,of_decide_eq_true e⟩,fun⟨x,h,e⟩=>⟨x,h,decide_eq_true e⟩⟩
theorem Y6 {κ:Type} [DecidableEq κ](kvs:List (κ×V))(k:κ)(v:V):(B7 kvs k v).map (·.1)=if k∈kvs.map (·.1) then kvs.map (·.1) else kvs.map (·.1)++[k]:=by
 unfold B7
 by_cases h:k∈kvs.map (·.1)
 .rw[if_pos (any_mem.mpr h),if_pos h,aw]
  exact bu λkv _=>by show (if _ then _ else _:κ×V).1=_;split <;> rfl
 .rw[if_neg (λz=>h (any_mem.mp z)),if_neg h,ar];rfl
theorem Oh(gs:List Gp)(k:TK)(n:Nat):(Gg gs k n).map (·.1)=if k∈gs.map (·.1) then gs.map (·.1) else gs.map (·.1)++[k]:=by
 unfold Gg
 by_cases h:k∈gs.map (·.1)
 .rw[if_pos h,if_pos h,aw]
  exact bu λg _=>by show (if _ then _ else _:Gp).1=_;split <;> rfl
 .rw[if_neg h,if_neg h,ar];rfl
theorem ak1 {κ:Type} [DecidableEq κ]{kvs:List (κ×V)}{k:κ}{v:V}{x:κ×V}(h:x∈B7 kvs k v):x∈kvs\/(x.1=k/\x.2=v):=by
 unfold B7 at h
 split at h
 .obtain⟨y,hy,rfl⟩:=List.mem_map.mp h
  split
  .exact .inr ⟨‹_›,rfl⟩
  .exact .inl hy
 .rcases List.mem_append.mp h with h|h
  .exact .inl h
  .obtain rfl:x=(k,v):=by simpa using h
   exact .inr ⟨rfl,rfl⟩
theorem ay8 {gs:List Gp}{n:Nat}(k:TK)(h:GInv n gs):∃old:Nat,(Bv (gs.map gK) k).getD (.int 0)=.int (old:Int)/\B7 (gs.map gK) k (.int ((old ||| 2 ^ n:Nat):Int))=(Gg gs k n).map gK:=by
 have nd:((gs.map gK).map (·.1)).Nodup:=by rw[J9];exact h.nd
 by_cases hk:k∈gs.map (·.1)
 .obtain⟨g,hg,rfl⟩:=List.mem_map.mp hk
  obtain⟨j,hj⟩:=List.mem_iff_getElem?.mp hg
  refine⟨g.2.2,by rw[Bn nd (i:=j) (k:=g.1) (v:=.int (g.2.2:Int)) (by rw[al,hj];rfl)];rfl,?_⟩
  unfold B7 Gg
  rw[if_pos (any_mem.mpr (by rw[J9];exact hk)),if_pos hk,aw,aw]
  refine bu λg' hg'=>?_
  show (if g'.1=g.1 then (g'.1,V.int ((g.2.2 ||| 2 ^ n:Nat):Int)) else gK g')=gK (if g'.1=g.1 then _ else g')
  split
  .rename_i e
   have:g'=g:=by
    obtain⟨i,hi⟩:=List.mem_iff_getElem?.mp hg'
    have l1:=Aj hi
    have l2:=Aj hj
    rw[aj l1] at hi
    rw[aj l2] at hj
    have:=(dH (i:=i) (j:=j) (h₀:=by rw[ae];exact l1) (h₁:=by rw[ae];exact l2) h.nd).mp (by rw[c_,c_,aG hi,aG hj,e])
    subst this
    exact (aG hi).symm.trans (aG hj)
   rw[this]
  .rfl
 .have hv:Bv (gs.map gK) k=none:=B4 (by rw[J9];exact hk)
  refine⟨0,by rw[hv];rfl,?_⟩
  rw[C5 _ hv,ay7 hk,ar,Nat.zero_or]
  rfl
theorem PlAt.keep {C:Addr}{H H':Hp}{p:Addr}{T:Tr}(h:PlAt C any H p T)(n:∀a o,(∀l,o≠.dT l)->H a=some o->H' a=some o):PlAt C any H' p T:=
 let ⟨dx,d,⟨_,o⟩,es,e,⟨_,q⟩,z⟩:=h
 ⟨dx,d,⟨trivial,n _ _ (λ_ z=>by cases z) o⟩,es,e,⟨trivial,n _ _ (λ_ z=>by cases z) q⟩,λx hx=>(z x hx).up λb ys=>n b _ λ_ z=>by cases z⟩
theorem Uy {H:Hp}{a:Addr}{l:List (TK×V)}{o:HO}(h:H a=some (.dT l)):∀b u,(∀l,u≠.dT l)->H b=some u->upd H a o b=some u:=λb u n e=>by rw[Ad λz=>by rw[z,h] at e;cases e;exact n _ rfl];exact e
theorem at7 {A n:Nat}(h:A.testBit n=true):cu ((2 ^ n:Nat):Int) (A:Int)=((2 ^ n:Nat):Int):=by
 rw[Ej]
 congr 1
 refine fS λj=>?_
 rw[fE,ce]
 by_cases e:n=j
 .subst e;rw[h,gr]
 .rw[decide_eq_false e];rfl
noncomputable def NB(H H':Hp):Prop:=∀a o,(∀x,o≠.tbl x)->H a=some o->H' a=some o
theorem NB.of {P:Addr}{H H':Hp}{x:Array Value}(O:Q9 P H H')(h:H P=some (.tbl x)):NB H H':=λa o n e=>O _ _ (λz=>by rw[z,h] at e;cases e;exact n _ rfl) e
theorem NB.tu {H H':Hp}(n:NB H H'){a:Addr}{xs:List V}(e:H a=some (.tup xs)):H' a=some (.tup xs):=n _ _ (λ_ z=>by cases z) e
theorem PlAt.nb {C:Addr}{H H':Hp}{p:Addr}{T:Tr}(h:PlAt C any H p T)(n:NB H H'):PlAt C any H' p T:=
 let ⟨dx,d,⟨_,o⟩,es,e,⟨_,q⟩,z⟩:=h
 ⟨dx,d,⟨trivial,n _ _ (λ_ z=>by cases z) o⟩,es,e,⟨trivial,n _ _ (λ_ z=>by cases z) q⟩,λx hx=>(z x hx).up λb ys=>n b _ λ_ z=>by cases z⟩
theorem PlAt.nl {C:Addr}{H H':Hp}{p:Addr}{T:Tr}(h:PlAt C any H p T)(n:NL H H'):PlAt C any H' p T:=
 let ⟨dx,d,⟨_,o⟩,z⟩:=h
 ⟨dx,d,⟨trivial,n _ _ (λ_ z=>by cases z) o⟩,z.nl n⟩
theorem bd3(Z:An K t):OkD K Z1 (Az K t) bl (t.f 18) (t.d 18) (Vs K t):=by
 refine A7 (by3 K t) λvs H Q E h=>?_
 .obtain⟨A,l,ns,tr,rs,rfl,hst,hR,hn,asc,few,k⟩:=h;refine⟨rfl,?_⟩
  have big:(1000:Nat)<sizeLine:=by decide
  have f4:=Wz asc few
  intro sx hsx
  refine .inr ?_
  have S1:=Same.upd (o:=.dT []) hsx
  have e1:upd H sx (.dT []) sx=some (.dT []):=Ab
  generalize upd H sx (.dT [])=H1 at S1 e1 ⊢
  intro px hpx
  refine .inr ?_
  have S2:=S1.trans (Same.upd (o:=.dT []) hpx)
  have fpx:=S1.free hpx
  have nsp:sx≠px:=Ai e1 hpx
  have e2s:upd H1 px (.dT []) sx=some (.dT (([]:List Gp).map gK)):=by rw[Ad nsp];exact e1
  have e2p:upd H1 px (.dT []) px=some (.dT []):=Ab
  generalize upd H1 px (.dT [])=H2 at S2 e2s e2p ⊢
  refine .inl ⟨⟨_,SqL.of (S2 _ _ hR.at_)⟩,?_⟩
  refine Bc (A5 (rs.map λr=>V.ref r.2.1)) (λi U H'=>(∃v4 v5 v6,U=[some (.int (A:Int)),some (.ref l),some (.ref sx),some (.ref px),v4,v5,v6])/\Same H H'/\H' sx=some (.dT ((B3 (λn=>vkT (tr n)) (ns.take i)).map gK))/\∃kp:List (TK×V),H' px=some (.dT kp)/\kp.map (·.1)=(B3 (λn=>vkT (tr n)) (ns.take i)).map (·.1)/\∀x∈kp,∃p T,x.2=.ref p/\PlAt t.c_zbv any H' p T/\Cb T/\vkT T=x.1)
   ⟨⟨_,_,_,rfl⟩,S2,e2s,[],e2p,rfl,λx hx=>by cases hx⟩ (λ_ _ H' _ q=>q.2.1.seqL (SqL.of hR.at_)) ?_ ?_
  .rintro i x U H3 hx ⟨⟨v4,v5,v6,rfl⟩,S3,e3s,kp,e3p,ek,hk⟩
   obtain⟨⟨n,T,p⟩,hi,rfl⟩:=Am hx
   have hi2:ns[i]?=some n:=by rw[<- hR.nms,al,hi];rfl
   obtain⟨eT,hP⟩:=hR.one _ (ak hi)
   obtain⟨okT,bt,_⟩:=hn n (ak hi2)
   have gi:=G8 (f:=λn=>vkT (tr n)) asc i n (Kt asc hi2)
   have st:=Fd (f:=λn=>vkT (tr n)) hi2
   have f4i:=f4 i
   generalize hgs:B3 (λn=>vkT (tr n)) (ns.take i)=gs at e3s ek gi st f4i
   have ab:=at7 bt
   refine⟨_,.inl (SqT.of (S3 _ _ eT)),rfl,?_⟩
   have pos:=Nat.two_pow_pos n
   refine N4 (by
    show (!decide (cu ((2 ^ n:Nat):Int) (A:Int)=0))=true
    rw[ab,decide_eq_false (by omega)];rfl) ?_
   have hP3:=PlAt.up hP S3
   obtain⟨dx,d,⟨_,ep⟩,_⟩:=id hP3
   refine⟨p,dx,_,⟨t.c_zbv,bq3 K t⟩,rfl,.head _,ep,rfl,⟨ag _,ag _⟩,⟨p,tr n,rfl,hP3,okT,λH4 b S4 tk=>?_⟩⟩
   have dk:Aq (vkT (tr n))<=8/\TkAt H4 (vkT (tr n)) (.ref b):=⟨bn3 okT,tk⟩
   obtain⟨old,ho,hp⟩:=ay8 (vkT (tr n)) gi
   refine⟨.inr (.inr (.inl ⟨rfl,.inr ⟨_,S4 _ _ e3s⟩⟩)),_,DGet.t (S4 _ _ e3s) dk,?_⟩
   rw[ho]
   show ∃H',DPut H4 sx (.ref b) (.int (cN (old:Int) (cu ((2 ^ n:Nat):Int) (A:Int)))) H'/\_
   rw[ab,Dy]
   refine⟨_,DPut.t (S4 _ _ e3s) dk (by rw[ae];omega),?_⟩
   rw[hp,<- st]
   have nt5:=Uy (o:=.dT ((B3 (λn=>vkT (tr n)) (ns.take (i+1))).map gK)) (S4 _ _ e3s)
   have e5s:upd H4 sx (.dT ((B3 (λn=>vkT (tr n)) (ns.take (i+1))).map gK)) sx=some (.dT ((B3 (λn=>vkT (tr n)) (ns.take (i+1))).map gK)):=Ab
   have e5p:upd H4 sx (.dT ((B3 (λn=>vkT (tr n)) (ns.take (i+1))).map gK)) px=some (.dT kp):=by rw[Ad nsp.symm];exact S4 _ _ e3p
   have S5:=(S3.trans S4).set (o:=.dT ((B3 (λn=>vkT (tr n)) (ns.take (i+1))).map gK)) hsx
   show Ae _ _ _ _ (upd H4 sx (.dT ((B3 (λn=>vkT (tr n)) (ns.take (i+1))).map gK)))
   generalize upd H4 sx (.dT ((B3 (λn=>vkT (tr n)) (ns.take (i+1))).map gK))=H5 at nt5 e5s e5p S5 ⊢
   have lk:kp.length<=4:=by
    have:=congrArg dj ek
    rw[ae,ae] at this
    omega
   refine⟨_,DPut.t e5p ⟨dk.1,dk.2.up λb ys=>nt5 b _ λ_ z=>by cases z⟩ (by omega),?_⟩
   have nt6:=Uy (o:=.dT (B7 kp (vkT (tr n)) (.ref p))) e5p
   refine⟨⟨_,_,_,rfl⟩,S5.set fpx,by rw[Ad nsp];exact e5s,_,Ab,?_,λx hx=>?_⟩
   .rw[Y6,ek,st,Oh]
   .rcases ak1 hx with hx|hx
    .obtain⟨p',T',e',h',o',v'⟩:=hk x hx
     exact⟨p',T',e',((h'.up S4).keep nt5).keep nt6,o',v'⟩
    .exact⟨p,tr n,hx.2,((hP3.up S4).keep nt5).keep nt6,okT,hx.1.symm⟩
  .rintro U H3 ⟨⟨v4,v5,v6,rfl⟩,S3,e3s,kp,e3p,ek,hk⟩
   have len:rs.length=ns.length:=by rw[<- hR.nms,ae]
   have ln:(rs.map λr=>V.ref r.2.1).length=ns.length:=by rw[ae,len]
   rw[ln] at e3s ek
   have gi:=G8 (f:=λn=>vkT (tr n)) asc ns.length 256 (λm hm=>(hn m (dW hm)).2.2)
   have f4n:=f4 ns.length
   have hms:B3 (λn=>vkT (tr n)) ns=B3 (λn=>vkT (tr n)) (ns.take ns.length):=by rw[aA]
   rw[hms] at k
   generalize B3 (λn=>vkT (tr n)) (ns.take ns.length)=gs at e3s ek gi f4n k
   refine .inl ?_
   refine .inr (.inr (.inr ⟨_,e3s,λo D hD=>?_⟩))
   have ef:upd H3 sx (.frz o (.dT (gs.map gK))) sx=some (.frz o (.dT (gs.map gK))):=Ab
   have ntf:=Uy (o:=.frz o (.dT (gs.map gK))) e3s
   have efp:upd H3 sx (.frz o (.dT (gs.map gK))) px=some (.dT kp):=by rw[Ad nsp.symm];exact e3p
   have Sf:Same H (upd H3 sx (.frz o (.dT (gs.map gK)))):=S3.set hsx
   generalize upd H3 sx (.frz o (.dT (gs.map gK)))=Hf at ef ntf efp Sf hD ⊢
   have hkf:∀x∈kp,∃p T,x.2=.ref p/\PlAt t.c_zbv any Hf p T/\Cb T/\vkT T=x.1:=λx hx=>let ⟨p,T,e,h,o⟩:=hk x hx;⟨p,T,e,h.keep ntf,o⟩
   have nd1:((gs.map gK).map (·.1)).Nodup:=by rw[J9];exact gi.nd
   have nd2:(kp.map (·.1)).Nodup:=by rw[ek];exact gi.nd
   refine ad0 (λi U H'=>(∃v,U=[v,some (.ref px),some (.ref sx)])/\Same Hf H'/\∃es:List (Gp×Tr×Addr×Addr),es.map (·.1)=gs.take i/\H' D=some (.lst (es.map λe=>.ref e.2.2.2))/\∀e∈es,H' e.2.2.2=some (.tup [.int (e.1.2.2:Int),.ref e.2.2.1])/\PlAt t.c_zbv any H' e.2.2.1 e.2.1/\Cb e.2.1/\vkT e.2.1=e.1.1) ⟨⟨_,rfl⟩,Same.upd hD,[],rfl,Ab,λe h=>by cases h⟩ (λ_ _ _ q=>q.2.1 _ _ ef) ?_ ?_
   .rintro i kk vv b U H4 hi dk ⟨⟨v,rfl⟩,S4,es,ee,eD,he⟩
    obtain⟨g,hg,eg⟩:=Am hi
    obtain⟨rfl,rfl⟩:kk=g.1/\vv=.int (g.2.2:Int):=by injection eg with a b;exact⟨a,b⟩
    have hj:(kp.map (·.1))[i]?=some g.1:=by rw[ek,al,hg];rfl
    obtain⟨⟨k2,v2⟩,hj2,e2⟩:=Am hj
    obtain rfl:g.1=k2:=e2
    obtain⟨p,T,ev,hP,oT,vT⟩:=hkf _ (ak hj2)
    obtain rfl:v2=.ref p:=ev
    have hP4:=hP.up S4
    obtain⟨b,_,rfl,_⟩:∃a xs,b=.ref a/\H4 a=some (.tup xs):=by
     have:=dk.2
     rw[<- vT] at this
     unfold vkT TkAt at this
     obtain⟨a,xs,e,q,_⟩:=this
     exact⟨a,xs,e,q⟩
    obtain⟨dx,d,⟨_,ep⟩,_⟩:=id hP4
    refine⟨.int (g.2.2:Int),.inr ⟨_,g.1,.inr ⟨o,S4 _ _ ef⟩,dk,(Bn nd1 hi).symm⟩,?_⟩
    refine⟨.ref p,.inr ⟨_,g.1,.inl (S4 _ _ efp),dk,(Bn nd2 hj2).symm⟩,?_⟩
    refine⟨p,dx,_,⟨t.c_zbv,bq4 K t⟩,rfl,.head _,ep,rfl,⟨ag _,ag _⟩,⟨p,T,rfl,hP4,λH5 q S5 hq5=>⟨(show 2<=sizeLine by decide),λB hB=>?_⟩⟩⟩
    have S6:=S5.trans (Same.upd (o:=.tup [.int (g.2.2:Int),.ref q]) hB)
    have e6:upd H5 B (.tup [.int (g.2.2:Int),.ref q]) B=some (.tup [.int (g.2.2:Int),.ref q]):=Ab
    have hq6:=hq5.up (Same.upd (o:=.tup [.int (g.2.2:Int),.ref q]) hB)
    generalize upd H5 B (.tup [.int (g.2.2:Int),.ref q])=H6 at S6 e6 hq6 ⊢
    have le:es.length<=4:=by
     have:=congrArg dj ee
     rw[ae,aC] at this
     omega
    have nl:=NL.upd (m:=(es.map λe=>V.ref e.2.2.2)++[.ref B]) (S6 _ _ eD)
    refine⟨_,S6 _ _ eD,by rw[ae];omega,⟨_,rfl⟩,(S4.trans S6).set hD,es++[(g,T,q,B)],?_,by rw[Ab,ar];rfl,λe h=>?_⟩
    .rw[ar,ee,aR,hg];rfl
    .rcases List.mem_append.mp h with h|h
     .exact⟨nl.tup _ _ (S6 _ _ (he e h).1),((he e h).2.1.up S6).nl nl,(he e h).2.2⟩
     .obtain rfl:e=(g,T,q,B):=by simpa using h
      exact⟨nl.tup _ _ e6,hq6.nl nl,oT,vT⟩
   .rintro U H4 ⟨_,S4,es,ee,eD,he⟩
    rw[ae,aA] at ee
    obtain⟨hP,ob,u,hB,b1,b2,b3⟩:=hst
    have S04:=Sf.trans S4
    have le:es.length=gs.length:=by rw[<- ee,ae]
    have em:(es.map λe=>(e.1,V.ref e.2.2.1,e.2.2.2)).map (λe=>V.ref e.2.2)=es.map λe=>V.ref e.2.2.2:=by rw[aw];rfl
    have e1:(es.map λe=>(e.1,V.ref e.2.2.1,e.2.2.2)).map (λe=>e.1.2.1)=gs.map (·.2.1):=by rw[<- ee,aw,aw];rfl
    refine⟨D,es.map λe=>(e.1,.ref e.2.2.1,e.2.2.2),rfl,⟨S04 _ _ hP,ob,u,S04 _ _ hB,b1,b2,b3⟩,by rw[em];exact eD,by rw[ae];omega,by rw[e1];exact gi.asc,λx hx=>?_,λH5 D5 O5 e5=>k H5 D5 (λb u nb q=>O5 _ _ nb (S04 _ _ q)) ⟨es.map λe=>((e.1,e.2.1),e.2.2.1,e.2.2.2),?_,?_,λx hx=>?_⟩⟩
    .obtain⟨e,h,rfl⟩:=List.mem_map.mp hx
     have:=gi.one e.1 (by rw[<- ee];exact bF h)
     exact⟨(he e h).1,this.2.2.1,this.2.2.2,aP this.2.1 (ij (by decide) (by decide))⟩
    .rw[<- ee,aw];rfl
    .rw[e5,em,aw];rfl
    .obtain⟨e,h,rfl⟩:=List.mem_map.mp hx
     have nb:=NB.of O5 (S04 _ _ hP)
     exact⟨nb.tu (he e h).1,(he e h).2.1.nb nb,(he e h).2.2⟩
end
section
theorem bc7(Z:An K t):OkD K D_zai (Az K t) bl t.f_zai t.d_zai (an6 K t):=by
 refine A7 (bx8 K t) λvs H Q E h=>?_
 .obtain⟨b,p,dx,sw,ζ,rfl,eb,hp,k⟩:=h;refine⟨rfl,?_⟩
  refine .inl ⟨_,_,_,eb,Z.bc,Z.bp,(show 0<1000 by decide),?_⟩
  have e1:upd H b (.ins t.c_zbw dx [("panel", .ref p)]) b=some (.ins t.c_zbw dx [("panel", .ref p)]):=Ab
  have O1:∀a o,a≠b->H a=some o->upd H b (.ins t.c_zbw dx [("panel", .ref p)]) a=some o:=λa o n e=>by rw[Ad n];exact e
  have hp1:=hp.mono (Kp.off (p:=b) (o:=.ins t.c_zbw dx [("panel", .ref p)]) λz=>z rfl)
  show Ae _ _ _ _ (upd H b (.ins t.c_zbw dx [("panel", .ref p)]))
  generalize upd H b (.ins t.c_zbw dx [("panel", .ref p)])=H1 at e1 O1 hp1 ⊢
  obtain⟨dxp,d,l,n,s,kk,br,h1⟩:=id hp1
  refine⟨p,dxp,_,⟨t.c_zbu,a98 K t⟩,rfl,.head _,h1.ins.2,rfl,⟨ag _,ag _⟩,⟨p,sw,ζ,rfl,hp1.mono Kp.any,?_⟩⟩
  intro a dxa ha hdx ne
  refine⟨a,dxa,rfl,Ab,λd0 hd0 _=>⟨rfl,?_⟩⟩
  obtain⟨_,S2,_⟩:=ah7 ha hdx ne hd0
  generalize upd (upd (upd (upd H1 dxa (.own a)) a (.ins t.c_zbv dxa [])) d0 (.dK [])) a (.ins t.c_zbv dxa [("records", .ref d0)])=H2 at S2 ⊢
  refine⟨(show 2<=sizeLine by decide),λT hT=>⟨(show 1<=sizeLine by decide),λL hL=>?_⟩⟩
  rw[Ib] at hL ⊢
  have S3:=Same.upd (o:=.tup [.int ((D9 sw ζ:Nat):Int),.ref a]) hT
  have e3:upd H2 T (.tup [.int ((D9 sw ζ:Nat):Int),.ref a]) T=some (.tup [.int ((D9 sw ζ:Nat):Int),.ref a]):=Ab
  generalize upd H2 T (.tup [.int ((D9 sw ζ:Nat):Int),.ref a])=H3 at S3 e3 hL ⊢
  have S4:=Same.upd (o:=.lst [.ref T]) hL
  have e4:upd H3 L (.lst [.ref T]) L=some (.lst [.ref T]):=Ab
  generalize upd H3 L (.lst [.ref T])=H4 at S4 e4 ⊢
  have S14:=S2.trans (S3.trans S4)
  have eb4:=S14 _ _ e1
  refine .inl ⟨_,_,_,eb4,Z.bc,Z.bk,(show 1<1000 by decide),?_⟩
  exact k _ L (λx o nx e=>by rw[Ad nx];exact S14 _ _ (O1 _ _ nx e)) Ab
theorem PlAt.ki(h:PlAt C any H p T)(n:∀a o,(∀C d fs,o=.ins C d fs->fs.lookup ("kept" : Str)=none)->H a=some o->H' a=some o):PlAt C any H' p T:=
 let ⟨dx,d,⟨_,o⟩,es,e,⟨_,q⟩,z⟩:=h
 ⟨dx,d,⟨trivial,n _ _ (λ_ _ _ z=>by cases z;rfl) o⟩,es,e,⟨trivial,n _ _ (λ_ _ _ z=>by cases z) q⟩,λx hx=>(z x hx).up λb ys=>n b _ λ_ _ _ z=>by cases z⟩
theorem be2(Z:An K t):OkD K aa0 (Az K t) bl (t.f 19) (t.d 19) (Vx K t):=by
 refine A7 (bz2 K t) λvs H Q E h=>?_
 .obtain⟨p,l,sw,ζ,ns,tr,rs,rfl,hst,hp,hR,hn,asc,few,k⟩:=h;refine⟨rfl,?_⟩
  intro b dx hb hdx ne
  have S1:Same H (upd (upd H dx (.own b)) b (.ins t.c_zbw dx [])):=(Same.upd hdx).set hb
  have e1:upd (upd H dx (.own b)) b (.ins t.c_zbw dx []) b=some (.ins t.c_zbw dx []):=Ab
  have K1:Kp (· ≠ 315) H (· ≠ b) (upd (upd H dx (.own b)) b (.ins t.c_zbw dx [])):=λa o q=>⟨λz=>(by have q2:=q.2;rw[z,hb] at q2;cases q2),S1 _ _ q.2⟩
  generalize upd (upd H dx (.own b)) b (.ins t.c_zbw dx [])=H1 at S1 e1 K1 ⊢
  refine⟨b,p,dx,sw,ζ,rfl,e1,hp.mono K1,λH2 l0 O2 e2=>⟨rfl,?_⟩⟩
  have S2:Same H H2:=λa o q=>O2 _ _ (λz=>by rw[z,hb] at q;cases q) (S1 _ _ q)
  have hp2:=hp.mono (Kp.same S2)
  obtain⟨dxp,d,l1,n,s,kk,br,h1⟩:=id hp2
  obtain⟨hP,ob,u,hB,b1,b2,b3⟩:=hst
  refine⟨p,dxp,_,⟨t.c_zbu,a98 K t⟩,rfl,.head _,h1.ins.2,rfl,⟨ag _,ag _⟩,⟨p,sw,ζ,rfl,hp2.mono Kp.any,?_⟩⟩
  rw[Ib]
  refine⟨D9 sw ζ,l,ns,tr,rs,rfl,⟨S2 _ _ hP,ob,u,S2 _ _ hB,b1,b2,b3⟩,⟨hR.nms,S2 _ _ hR.at_,λr hr=>⟨S2 _ _ (hR.one r hr).1,(hR.one r hr).2.up S2⟩⟩,hn,asc,few,λH3 D O3 hK=>?_⟩
  have nb:b≠315:=λz=>by rw[<- z,hb] at hP;cases hP
  have e3:=O3 _ _ nb e2
  refine .inl ⟨_,_,_,e3,Z.bc,Z.bk,(show 2<1000 by decide),?_⟩
  obtain⟨es,ee,eD,he⟩:=hK
  have ni:∀a o,(∀C d fs,o=.ins C d fs->fs.lookup ("kept" : Str)=none)->H3 a=some o->upd H3 b (.ins t.c_zbw dx (Dv "kept" (.ref D) [("panel", .ref p),("kept", .ref l0)])) a=some o:=λa o n e=>by rw[Ad λz=>by rw[z,e3] at e;cases e;have:=n _ _ _ rfl;cases this];exact e
  have fin:∀a o,a≠315->H a=some o->upd H3 b (.ins t.c_zbw dx (Dv "kept" (.ref D) [("panel", .ref p),("kept", .ref l0)])) a=some o:=λa o na q=>by rw[Ad λz=>by rw[z,hb] at q;cases q];exact O3 _ _ na (S2 _ _ q)
  exact k _ b fin ⟨dx,p,D,Ab,hp.mono λa o q=>⟨trivial,fin _ _ q.1 q.2⟩,es,ee,ni _ _ (λ_ _ _ z=>by cases z) eD,λe h=>⟨ni _ _ (λ_ _ _ z=>by cases z) (he e h).1,(he e h).2.1.ki ni,(he e h).2.2⟩⟩
end
section
theorem a17 {H:Hp}{l:Addr}{sw:Sw}{E:EK}{R:Hp->Addr->Prop}(h:SwIn any H l sw)(l5:sw.length<=5)(k:∀D H',Same H H'->SwIn any H' D sw->R H' D) :
  ∀D,H D=none->Dx (Itl K l) (gdT K 2 [gdN 0,gdN 1]) B6 (Do (Ac (Aa 0) (Ac (dFn (λvs H Q _=>(Qb K true) vs H Q) (Ac (Aa 1) Ag)) Ag))) D (λH'=>R H' D) [none,none] (upd H D (.lst [])) E:=by
 intro D hD
 obtain⟨ds,ed,⟨_,ol⟩,hd⟩:=h
 have len:ds.length=sw.length:=by rw[<- ed];simp
 have big:(1000:Nat)<sizeLine:=by decide
 refine C7 (A5 (ds.map λx=>V.ref x.2)) (λi U H'=>(∃v0 v1,U=[v0,v1])/\Same H H'/\∃fs:List (((Str×List Str)×Addr)×Addr),fs.map (·.1.1)=sw.take i/\SwL H' D fs) ⟨⟨_,_,rfl⟩,Same.upd hD,[],rfl,Ab,λx hx=>(by cases hx),λx hx=>(by cases hx)⟩ (λ_ _ H' _ q=>q.2.1.seqL (SqL.of ol)) ?_ ?_
 .rintro i x U H1 hx ⟨⟨v0,v1,rfl⟩,S1,fs,ef,L1⟩
  obtain⟨⟨⟨x',la⟩,ta⟩,hi,rfl⟩:=Am hx
  have hi2:sw[i]?=some x':=by rw[<- ed,al,hi];rfl
  have il:=Aj hi2
  obtain⟨⟨_,h1⟩,_,h2⟩:=hd _ (ak hi)
  have h2:H la=some (Bb x'.2):=h2
  refine⟨_,.inl (SqT.of (S1 _ _ h1)),rfl,.inl ⟨_,.inl (SqL.of (S1 _ _ h2)),λM hM=>⟨(show 2<=sizeLine by decide),λT hT=>?_⟩⟩⟩
  have S2:=Same.upd (o:=Bb x'.2) hM
  have e2:upd H1 M (Bb x'.2) M=some (Bb x'.2):=Ab
  have nM:M≠D:=(Ai L1.at_ hM).symm
  have L2:=L1.up S2
  show ∃ys,upd (upd H1 M (Bb x'.2)) T (.tup [.str x'.1,.ref M]) D=_/\_
  have hT:upd H1 M (Bb x'.2) T=none:=hT
  generalize upd H1 M (Bb x'.2)=H2 at S2 e2 L2 hT ⊢
  have S3:=Same.upd (o:=.tup [.str x'.1,.ref M]) hT
  have e3:upd H2 T (.tup [.str x'.1,.ref M]) T=some (.tup [.str x'.1,.ref M]):=Ab
  have L3:=L2.up S3
  generalize upd H2 T (.tup [.str x'.1,.ref M])=H3 at S3 e3 L3 ⊢
  have lf:fs.length<=5:=by
   have:=congrArg dj ef
   rw[ae,aC] at this
   omega
  refine⟨_,L3.at_,by rw[ae];omega,⟨_,_,rfl⟩,(S1.trans (S2.trans S3)).set hD,_,?_,L3.snoc (e:=x') e3 (S3 _ _ e2) nM⟩
  rw[ar,ef,aR,hi2];rfl
 .rintro U H1 ⟨_,S1,fs,ef,L1⟩
  rw[ae,len,aA] at ef
  exact k D H1 S1 ⟨fs,ef,⟨trivial,L1.at_⟩,λx hx=>⟨⟨trivial,L1.tup x hx⟩,trivial,(L1.lst x hx).1⟩⟩
theorem ai7 {H:Hp}{D k p dx:Addr}{sw:Sw}{ζ:List Sw}{R:Hp->Prop}{E:XK}{x:Array Value}(h6:H 315=some (.tbl x))(hp:H p=none)(hdx:H dx=none)(hs:SwIn any H D sw)(hw:okSw sw)(hr:RulesAt any H k ζ)(okr:∀r∈ζ,Et sw r)(few:ζ.length<=8)(ne:Aw sw ζ≠[])(q:∀H',Same H H'->PanelAt t.c_zbu (· ≠ 315) H' p sw ζ->R H') :
  (i_zab K t).sp (.ref p::([.ref D,.ref k]++List.drop 1 (i_zab K t).dfs)) (upd (upd H dx (.own p)) p (.ins t.c_zbu dx [])) (λv H2=>v=.non/\R H2) E:=by
 have S1:Same H (upd (upd H dx (.own p)) p (.ins t.c_zbu dx [])):=(Same.upd hdx).set hp
 have K1:Kp any H (· ≠ p) (upd (upd H dx (.own p)) p (.ins t.c_zbu dx [])):=λa o q=>⟨λz=>(by have q2:=q.2;rw[z,hp] at q2;cases q2),S1 _ _ q.2⟩
 refine⟨p,D,dx,.ref k,sw,ζ,rfl,Ab,hs.mono K1,hw,.inr ⟨k,rfl,hr.mono K1⟩,okr,few,av1 ne,λH2 O2 hP=>⟨rfl,q H2 (λb u e=>O2 _ _ (λz=>by rw[z,hp] at e;cases e) (S1 _ _ e)) (hP.mono (Kp.weak λa ha=>?_))⟩⟩
 rintro rfl
 rcases ha with z|z
 .rw[<- z,h6] at hp;cases hp
 .rw[S1 _ _ h6] at z;cases z
theorem Kf {H:Hp}{p:Addr}{n:Nat}{v:V}{Q:VK}(h:DGet H p (.int (n:Int)) (some v))(q:Q v H):Ax K (.ref p) (.int (n:Int)) H Q:=
 ⟨g9 (n+1) v,v,.dk λu e=>by
  rw[Bw (j:=n) (v:=v) (by rw[eU,if_pos (cy n)])] at e
  cases e
  exact h,Bw (by rw[eU,if_pos (cy n)]),q⟩
theorem af6 {g:Nat->Addr}{ns:List Nat}{i n:Nat}(nd:ns.Nodup)(h:ns[i]?=some n):Bv (ns.map (kF g)) (.inl (n:Int))=some (.ref (g n)):=by
 refine Bn (i:=i) ?_ (by rw[al,h];rfl)
 rw[Kg]
 exact fH _ (λa b ne e=>ne (by injection e with e;omega)) nd
theorem be4(Z:An K t):OkD K aa1 (Az K t) bl (t.f 33) (t.d 33) (Vz K t):=by
 refine A7 (bz4 K t) λvs H Q E h=>?_
 .obtain⟨W,F,l,kk,f,sw,ζ,g,tr,rfl,hst,hW,hF,k⟩:=h;refine⟨rfl,?_⟩
  have big:(1000:Nat)<sizeLine:=by decide
  refine⟨_,.inr (SqL.of hW.at_),rfl,?_⟩
  obtain⟨ds,_,⟨_,ol⟩,_⟩:=id hW.sws
  refine .inl ⟨⟨_,SqL.of ol⟩,a17 hW.sws hW.ok.2.1 λD H1 S1 hD=>?_⟩
  intro p dx hp hdx nep
  refine ai7 (S1 _ _ hst.1) hp hdx hD hW.ok (hW.rl.mono (Kp.same S1)) hW.rok hW.few hW.ne λH2 S2 hP=>?_
  have S02:=S1.trans S2
  refine⟨(show 0<=sizeLine by decide),λR hR=>?_⟩
  have S3:=Same.upd (o:=.lst []) hR
  have e3:upd H2 R (.lst []) R=some (.lst []):=Ab
  show Ae _ _ _ _ (upd H2 R (.lst []))
  generalize upd H2 R (.lst [])=H3 at S3 e3 ⊢
  have S03:=S02.trans S3
  have fR:=S02.free hR
  have eF:=S03 _ _ hF.at_
  have asc:=K8 sw ζ
  have ndf:(Aw sw ζ).Nodup:=asc.imp λh=>aT h
  refine .inr (.inr (.inl (.inl ⟨_,eF,λo=>?_⟩)))
  have ef:upd H3 F (.frz o (.dK ((Aw sw ζ).map (kF g)))) F=some (.frz o (.dK ((Aw sw ζ).map (kF g)))):=Ab
  have of:∀b u,b≠F->H3 b=some u->upd H3 F (.frz o (.dK ((Aw sw ζ).map (kF g)))) b=some u:=λb u nb e=>by rw[Ad nb];exact e
  show Gx (Itd F o ((Aw sw ζ).map (kF g))) _ _ _ [some (.ref W),some (.ref F),some (.ref l),some (.ref kk),some (.ref f),some (.ref p),some (.ref R),none] _
  generalize upd H3 F (.frz o (.dK ((Aw sw ζ).map (kF g))))=Hf at ef of ⊢
  have nRF:R≠F:=λz=>by rw[z,eF] at e3;cases e3
  refine Bc (Ew ((Aw sw ζ).map (kF g))) (λi U H'=>(∃v7,U=[some (.ref W),some (.ref F),some (.ref l),some (.ref kk),some (.ref f),some (.ref p),some (.ref R),v7])/\(∀a u,a≠R->Hf a=some u->H' a=some u)/\∃rs:List (Nat×Addr×Addr),rs.map (·.1)=(Aw sw ζ).take i/\H' R=some (.lst (rs.map λr=>.ref r.2.1))/\∀r∈rs,H' r.2.1=some (.tup [.int ((2 ^ r.1:Nat):Int),.ref r.2.2])/\PlAt t.c_zbv any H' r.2.2 (tr r.1))
   ⟨⟨_,rfl⟩,(λ_ _ _ e=>e),[],rfl,of _ _ nRF e3,λr h=>by cases h⟩ (λ_ _ H' _ q=>q.2.1 _ _ nRF.symm ef) ?_ ?_
  .rintro i x U H4 hx ⟨⟨v7,rfl⟩,O4,rs,er,e4R,h4⟩
   rw[aw] at hx
   obtain⟨n,hn,rfl⟩:=Am hx
   have hm:=ak hn
   obtain⟨nl,bt⟩:=Fb hm
   have l256:=hW.ok.len
   obtain⟨hT,okT⟩:=hF.one n hm
   have hT4:TrAt any H4 (g n) (tr n):=by
    obtain⟨es,ee,⟨_,e⟩,he⟩:=hT
    have ng:g n≠F:=λz=>by
     have e':=hF.at_
     rw[<- z,e] at e'
     injection e' with e'
     injection e' with e'
     have:=congrArg (jn Prod.fst) e'
     rw[Kj,Kg] at this
     have h0:(.inl (n:Int):Key)∈(Aw sw ζ).map λn:Nat=>(.inl (n:Int):Key):=List.mem_map.mpr ⟨n,hm,rfl⟩
     rw[<- this] at h0
     obtain⟨_,_,z⟩:=List.mem_map.mp h0
     cases z
    have kp:∀a o,a≠F->a≠R->H a=some o->H4 a=some o:=λa o n1 n2 e=>O4 _ _ n2 (of _ _ n1 (S03 _ _ e))
    refine⟨es,ee,⟨trivial,kp _ _ ng (λz=>by rw[z,fR] at e;cases e) e⟩,λx hx=>(he x hx).up λb ys q=>kp _ _ (λz=>by rw[z,hF.at_] at q;cases q) (λz=>by rw[z,fR] at q;cases q) q⟩
   refine⟨.inl ⟨rfl,_,SqL.of e4R⟩,⟨by omega,by omega,by decide⟩,Kf (.inl ⟨_,.inl (n:Int),.inr ⟨o,O4 _ _ nRF.symm ef⟩,rfl,(af6 ndf hn).symm⟩) ⟨g n,tr n,rfl,hT4,okT,λH5 pl S5 hPl=>⟨(show 2<=sizeLine by decide),λT hT=>?_⟩⟩⟩
   have e1:(1 * 2 ^ ((n:Int)).toNat:Int)=((2 ^ n:Nat):Int):=by rw[ix,aY,Dm]
   rw[e1]
   have S6:=S5.trans (Same.upd (o:=.tup [.int ((2 ^ n:Nat):Int),.ref pl]) hT)
   have e6:upd H5 T (.tup [.int ((2 ^ n:Nat):Int),.ref pl]) T=some (.tup [.int ((2 ^ n:Nat):Int),.ref pl]):=Ab
   have hPl6:=hPl.up (Same.upd (o:=.tup [.int ((2 ^ n:Nat):Int),.ref pl]) hT)
   generalize upd H5 T (.tup [.int ((2 ^ n:Nat):Int),.ref pl])=H6 at S6 e6 hPl6 ⊢
   have lr:rs.length<=256:=by
    have:=congrArg dj er
    rw[ae,aC] at this
    have hf:=cI (λn=>!Hv sw ζ n) (ay (Al sw).length)
    rw[bi] at hf
    have:rs.length<=(Aw sw ζ).length:=by omega
    unfold Aw at this
    omega
   have nl6:=NL.upd (m:=(rs.map λr=>V.ref r.2.1)++[.ref T]) (S6 _ _ e4R)
   refine⟨R,_,_,rfl,rfl,S6 _ _ e4R,by rw[ae];omega,⟨_,rfl⟩,λa u na e=>by rw[Ad na];exact S6 _ _ (O4 _ _ na e),rs++[(n,T,pl)],?_,by rw[Ab,ar];rfl,λr hr=>?_⟩
   .rw[ar,er,aR,hn];rfl
   .rcases List.mem_append.mp hr with hr|hr
    .exact⟨nl6.tup _ _ (S6 _ _ (h4 r hr).1),((h4 r hr).2.up S6).nl nl6⟩
    .obtain rfl:r=(n,T,pl):=by simpa using hr
     exact⟨nl6.tup _ _ e6,hPl6.nl nl6⟩
  .rintro U H4 ⟨⟨v7,rfl⟩,O4,rs,er,e4R,h4⟩
   rw[ae,ae,aA] at er
   have e4f:=O4 _ _ nRF.symm ef
   refine .inr ⟨F,o,_,eF,e4f,?_⟩
   have up:∀a u,a≠R->H3 a=some u->upd H4 F (.dK ((Aw sw ζ).map (kF g))) a=some u:=λa u n2 e=>by
    by_cases ha:a=F
    .subst ha;rw[Ab,<- eF,e]
    .rw[Ad ha];exact O4 _ _ n2 (of _ _ ha e)
   have S04:Same H (upd H4 F (.dK ((Aw sw ζ).map (kF g)))):=λa u e=>up _ _ (λz=>by rw[z,fR] at e;cases e) (S03 _ _ e)
   have nt:∀a u,(∀o k,u≠.frz o k)->H4 a=some u->upd H4 F (.dK ((Aw sw ζ).map (kF g))) a=some u:=λa u n e=>by rw[Ad λz=>by rw[z,e4f] at e;cases e;exact n _ _ rfl];exact e
   have S2e:Same H2 (upd H4 F (.dK ((Aw sw ζ).map (kF g)))):=λa u e=>up _ _ (Ai e hR) (S3 _ _ e)
   generalize upd H4 F (.dK ((Aw sw ζ).map (kF g)))=He at up S04 nt S2e ⊢
   obtain⟨hP315,ob,u,hB,b1,b2,b3⟩:=hst
   refine⟨p,R,sw,ζ,Aw sw ζ,tr,rs,rfl,⟨S04 _ _ hP315,ob,u,S04 _ _ hB,b1,b2,b3⟩,hP.mono (Kp.same S2e),⟨er,nt _ _ (λ_ _ z=>by cases z) e4R,λr hr=>⟨nt _ _ (λ_ _ z=>by cases z) (h4 r hr).1,?_⟩⟩,λn hn=>⟨(hF.one n hn).2,(Fb hn).2,aP (Fb hn).1 hW.ok.len⟩,asc,hF.few,λH5 b O5 hB5=>k H5 b (λa u na e=>O5 _ _ na (S04 _ _ e)) hB5⟩
   obtain⟨dx,d,⟨_,o1⟩,es,ee,⟨_,o2⟩,z⟩:=(h4 r hr).2
   exact⟨dx,d,⟨trivial,nt _ _ (λ_ _ z=>by cases z) o1⟩,es,ee,⟨trivial,nt _ _ (λ_ _ z=>by cases z) o2⟩,λx hx=>(z x hx).up λb ys q=>nt _ _ (λ_ _ z=>by cases z) q⟩
end
section
theorem BookAt.up(h:BookAt t H b sw ζ gs)(S:Same H H'):BookAt t H' b sw ζ gs:=
 let ⟨dx,p,l,e,hp,es,ee,eD,he⟩:=h
 ⟨dx,p,l,S _ _ e,hp.mono (Kp.same S),es,ee,S _ _ eD,λe h=>⟨S _ _ (he e h).1,(he e h).2.1.up S,(he e h).2.2⟩⟩
theorem Qn {es:List ((Str×Rc)×Addr)}{T:Tr}(et:es.map (·.1)=T)(o:Cb T)(n:Str):(Bv (es.map kT) (.inr n)=none/\stT T n=none) \/ ∃e∈es,Bv (es.map kT) (.inr n)=some (.ref e.2)/\stT T n=some (rcT e.1.2):=by
 have nde:(es.map (·.1.1)).Nodup:=by have:=o.1;rw[<- et,aw] at this;exact this
 have en:es.map (·.1.1)=T.map (·.1):=by rw[<- et,aw];rfl
 by_cases h:n∈T.map (·.1)
 .obtain⟨x,ex,hx⟩:=Up o h
  rw[<- et] at hx
  obtain⟨e,he,ee⟩:=List.mem_map.mp hx
  obtain⟨j,hj⟩:=List.mem_iff_getElem?.mp he
  have hv:=Po nde hj
  rw[ee] at hv
  exact .inr ⟨e,he,hv,by unfold stT;rw[ex,ee];rfl⟩
 .exact .inl ⟨af7 (by rw[en];exact h),by unfold stT;rw[Pr h];rfl⟩
theorem bs5(Z:An K t):OkD K D_zk (Az K t) bl t.f_zk t.d_zk (a50 K t):=by
 refine A7 (b55 K t) λvs H Q E h=>?_
 .obtain⟨H0,a,x,y,rfl,ha,rfl,k⟩:=h;refine⟨rfl,?_⟩
  refine .inr ⟨_,Z.ec,Z.n1,.inl ⟨Ab,λdx hdx ne=>.inr ⟨_,Z.ec,Z.n2,.inr ⟨dx,[("part", x)],ne,Ab,by rw[Ad ne,Ab],(show 1<1000 by decide),?_⟩⟩⟩⟩
  have hd:H0 dx=none:=by rw[Ad ne] at hdx;exact hdx
  refine k _ dx (λb o h=>?_) ne (by rw[Ad (cA ne),Ab]) Ab
  have b1:b≠dx:=λz=>by rw[z,hd] at h;cases h
  have b2:b≠a:=λz=>by rw[z,ha] at h;cases h
  rw[Ad b1,Ad b2,Ad b1,Ad b2]
  exact h
theorem bc9(Z:An K t):OkD K Wj (Az K t) bl (t.m_zbv 2) (t.e_zbv 2) (Vo K t):=by
 refine A7 (by0 K t) λvs H Q E h=>?_
 .obtain⟨p,T,n,rfl,⟨dx,d,⟨_,e⟩,es,et,⟨_,ed⟩,he⟩,o,k⟩:=h;refine⟨rfl,?_⟩
  refine gy ⟨_,_,_,.ref d,e,Z.pc,Z.pr,rfl,.inr ⟨_,.inl ⟨_,.inr n,.inl ed,rfl,rfl⟩,?_⟩⟩
  rcases Qn et o n with ⟨a,b⟩|⟨x,_,a,b⟩
  .rw[a];rw[b] at k;exact k
  .rw[a];rw[b] at k;exact k
theorem bt5(Z:An K t):OkD K at3 (Az K t) bl (t.m_zbv 5) (t.e_zbv 5) (ap3 K t):=by
 refine A7 (b65 K t) λvs H Q E h=>?_
 .obtain⟨p,T,n,rfl,⟨dx,d,⟨_,e⟩,es,et,⟨_,ed⟩,he⟩,o,c,k⟩:=h;refine⟨rfl,?_⟩
  refine gy ⟨_,_,_,.ref d,e,Z.pc,Z.pr,rfl,.inr ⟨_,.inl ⟨_,.inr n,.inl ed,rfl,rfl⟩,?_⟩⟩
  rcases Qn et o n with ⟨a,b⟩|⟨x,hx,a,b⟩
  .rw[b] at c;cases c
  .rw[a]
   rw[b] at k
   exact gy ⟨_,_,_,.ref d,e,Z.pc,Z.pr,rfl,_,.inl ⟨_,.inr n,.inl ed,rfl,a.symm⟩,k _ ⟨⟨_,rfl⟩,(he x hx).tk⟩⟩
theorem Fs {α:Type}{l:List α}{m:Nat}{x:α}{p:α->Bool}(h:l[m]?=some x):(l.take (m+1)).filter p=(l.take m).filter p++(if p x=true then [x] else []):=by
 rw[aR,h,cQ,c8]
 congr 1
 cases e:p x <;> simp[e]
theorem Rq {α:Type}(l:List α)(m:Nat)(p:α->Bool):((l.take m).filter p).length<=l.length:=by
 have:=cI p (l.take m)
 rw[aC] at this
 omega
theorem Ic(l:List Nat):(l.map λn:Nat=>V.int (n:Int))=(l.map λn:Nat=>(n:Int)).map V.int:=by rw[aw];rfl
theorem a08 {C l:Addr}{H:Hp}{rs:List ((Nat×Tr)×Addr×Addr)}{rest:St}{tc:DT}{E:EK}{R:VK}(p:Tr->Bool)(hR:ab5 C H l rs)(few:rs.length<=4)(ht:∀r∈rs,∀(H1:Hp)(Q:Bool->Hp->Prop),Same H H1->Q (p r.1.2) H1->tc (some (.int (r.1.1:Int))::some (.ref r.2.1)::rest) H1 Q E)(k:∀H',Same H H'->R (.int (Dw ((rs.filter λr=>p r.1.2).map (·.1.1)):Nat)) H') :
  ∀D,H D=none->Dx (Itl K l) (gdT K 2 [gdN 0,gdN 1]) tc (Aa 0) D (λH'=>spE (Iq K t) [] [.ref D] H' R E) (none::none::rest) (upd H D (.lst [])) E:=by
 intro D hD
 have big:(1000:Nat)<sizeLine:=by decide
 refine C7 (A5 (rs.map λr=>V.ref r.2.2)) (λi U H'=>(∃v0 v1,U=v0::v1::rest)/\Same H H'/\H' D=some (nO (((rs.take i).filter λr=>p r.1.2).map (·.1.1)))) ⟨⟨_,_,rfl⟩,Same.upd hD,Ab⟩ (λ_ _ H' _ q=>q.2.1.seqL (SqL.of hR.1)) ?_ ?_
 .rintro i x U H1 hx ⟨⟨v0,v1,rfl⟩,S1,eD⟩
  obtain⟨r,hi,rfl⟩:=Am hx
  have hm:=ak hi
  have fs:=Fs (p:=λr:(Nat×Tr)×Addr×Addr=>p r.1.2) hi
  have fl:=Rq rs i λr:(Nat×Tr)×Addr×Addr=>p r.1.2
  refine⟨_,.inl (SqT.of (S1 _ _ (hR.2 r hm).1)),rfl,ht r hm H1 _ S1 ?_⟩
  cases c:p r.1.2 with
  |true=>
   rw[c,if_pos rfl] at fs
   exact⟨_,eD,by rw[ae,ae];omega,⟨_,_,rfl⟩,S1.set hD,by rw[Ab,fs,nO,ar,ar];rfl⟩
  |false=>
   rw[c,if_neg (by decide),bS] at fs
   exact⟨⟨_,_,rfl⟩,S1,by rw[fs];exact eD⟩
 .rintro U H1 ⟨_,S1,eD⟩
  rw[ae,aA] at eD
  have:=k H1 S1
  rw[<- Gs] at this
  exact⟨D,_,rfl,by rw[<- Ic];exact SqL.of eD,this⟩
end
noncomputable def dkR:List TK->List TK
 |[]=>[]
 |k::r=>if k∈dkR r then dkR r else dkR r++[k]
theorem C1(k:TK)(r:List TK):dkR (k::r)=if k∈dkR r then dkR r else dkR r++[k]:=by rw[dkR]
theorem mem_dk:∀ {r:List TK},x∈dkR r ↔ x∈r
 |[]=>by unfold dkR;exact Iff.rfl
 | k::r=>by
  rw[C1]
  by_cases h:k∈dkR r
  .rw[if_pos h,aO,mem_dk]
   exact⟨.inr,λq=>q.elim (λz=>by rw[z];exact mem_dk.mp h) id⟩
  .rw[if_neg h,aE,mem_dk,b9,aO]
   exact⟨Or.symm,Or.symm⟩
theorem K3:∀r:List TK,(dkR r).Nodup
 |[]=>by unfold dkR;exact iQ
 | k::r=>by
  rw[C1]
  by_cases h:k∈dkR r
  .rw[if_pos h];exact K3 r
  .rw[if_neg h]
   exact List.nodup_append.mpr ⟨K3 r,by simp,λx hx z hz e=>h (List.mem_singleton.mp hz▸e▸hx)⟩
theorem Hz(p:TK->Bool):∀r:List TK,(dkR r).filter p=dkR (r.filter p)
 |[]=>by unfold dkR;rfl
 | k::r=>by
  rw[C1]
  by_cases h:k∈dkR r
  .rw[if_pos h,Hz p r]
   by_cases q:p k=true
   .rw[eN q,C1,if_pos (mem_dk.mpr (List.mem_filter.mpr ⟨mem_dk.mp h,q⟩))]
   .rw[eK q]
  .rw[if_neg h,c8,Hz p r]
   by_cases q:p k=true
   .rw[eN (l:=r) q,C1,if_neg λz=>h (mem_dk.mpr (List.mem_filter.mp (mem_dk.mp z)).1),eN q];rfl
   .rw[eK (l:=r) q,eK q];exact bS _
theorem T8(f:TK->TK):∀r:List TK,dkR ((dkR r).map f).reverse=dkR (r.map f)
 |[]=>by unfold dkR;rfl
 | k::r=>by
  rw[C1,aS,C1]
  by_cases h:k∈dkR r
  .rw[if_pos h,T8 f r,if_pos (mem_dk.mpr (bF (mem_dk.mp h)))]
  .rw[if_neg h,ar,iC]
   show dkR (f k::((dkR r).map f).reverse)=_
   rw[C1,T8 f r]
theorem Y7(gs:List Mk)(p:Mk):(Gh gs p).map (·.1)=if p.1∈gs.map (·.1) then gs.map (·.1) else gs.map (·.1)++[p.1]:=by
 unfold Gh
 by_cases h:p.1∈gs.map (·.1)
 .rw[if_pos h,if_pos h,aw]
  exact bu λg _=>by show (if _ then _ else _:Mk).1=_;split <;> rfl
 .rw[if_neg h,if_neg h,ar];rfl
theorem Fu:∀r:List Mk,(F4 r).map (·.1)=dkR (r.map (·.1))
 |[]=>by unfold F4 dkR;rfl
 |p::r=>by rw[aS,C1,<- Fu r];exact Y7 _ p
theorem Fc:∀ {r:List Mk} {g:Mk},g∈F4 r -> ∀j,g.2.testBit j=true ↔ ∃p∈r,p.1=g.1/\p.2.testBit j=true
 |[],g,h,j=>by cases h
 | p::r,g,h,j=>by
  have h:g∈Gh (F4 r) p:=h
  have ex:∀ {F:Mk->Prop},(∃q∈p::r,F q) ↔ F p \/ ∃q∈r,F q:=by simp
  rw[ex]
  unfold Gh at h
  split at h
  .obtain⟨q,hq,rfl⟩:=List.mem_map.mp h
   have ih:=Fc hq j
   split
   .rename_i e
    show (q.2 ||| p.2).testBit j=true ↔ _
    rw[fc,cM,ih]
    exact⟨λz=>z.elim .inr λb=>.inl ⟨e.symm,b⟩,λz=>z.elim (λb=>.inr b.2) .inl⟩
   .rename_i e
    rw[ih]
    exact⟨.inr,λz=>z.elim (λb=>absurd b.1.symm e) id⟩
  .rename_i hk
   rcases List.mem_append.mp h with h|h
   .rw[Fc h j]
    exact⟨.inr,λz=>z.elim (λb=>absurd (List.mem_map.mpr ⟨g,h,b.1.symm⟩) hk) id⟩
   .obtain rfl:=List.mem_singleton.mp h
    refine⟨λb=>.inl ⟨rfl,b⟩,λz=>z.elim (·.2) fun⟨q,hq,e,_⟩=>absurd ?_ hk⟩
    rw[Fu,mem_dk]
    exact List.mem_map.mpr ⟨q,hq,e⟩
theorem a41:∀ {a b:List Mk},a.map (·.1)=b.map (·.1)->(∀g∈a,∀h∈b,g.1=h.1->g.2=h.2)->a=b
 |[],[],_,_=>rfl
 |[],_::_,e,_=>by cases e
 |_::_,[],e,_=>by cases e
 | g::a,h::b,e,q=>by
  rw[aS,aS] at e
  injection e with e1 e2
  rw[a41 e2 λx hx y hy=>q x (ax _ hx) y (ax _ hy)]
  have:=q g aJ h aJ e1
  rw[show g=h from Prod.ext e1 this]
theorem Ny(f:Nat->TK)(ns:List Nat):(B3 f ns).map (·.1)=dkR (ns.map f).reverse:=by
 have:∀r:List Nat,(r.foldr (λn gs=>Gg gs (f n) n) []).map (·.1)=dkR (r.map f):=λr=>by
  induction r with
  |nil=>unfold dkR;rfl
  |cons n r ih=>rw[List.foldr_cons,Oh,ih,aS,C1]
 unfold B3
 rw[List.foldl_eq_foldr_reverse,this,dI]
theorem R3 {a b:Nat}(h:∀j,a.testBit j=true ↔ b.testBit j=true):a=b:=fS λj=>by rw[bO];exact h j
theorem b06(o:Cb T)(o':Cb T')(e:vkT T=vkT T')(b:Bool)(n:Str):thT b T n=thT b T' n:=by
 have h:=a51 o o' e n
 unfold stT at h
 unfold thT
 cases a:T.lookup n with
 |none=>
  cases c:T'.lookup n with
  |none=>rfl
  |some y=>rw[a,c] at h;cases h
 |some x=>
  cases c:T'.lookup n with
  |none=>rw[a,c] at h;cases h
  |some y=>
   rw[a,c] at h
   obtain⟨x1,x2,x3,x4⟩:=x
   obtain⟨y1,y2,y3,y4⟩:=y
   unfold rcT at h
   cases h
   rfl
noncomputable def thK(b:Bool)(n:Str)(k:TK):TK:=@dite _ (∃T,Cb T/\vkT T=k) (bQ _) (λh=>thT b h.choose n) λ_=>k
theorem Q3(o:Cb T)(b:Bool)(n:Str):thK b n (vkT T)=thT b T n:=by
 unfold thK
 have h:∃T',Cb T'/\vkT T'=vkT T:=⟨T,o,rfl⟩
 rw[dif_pos h]
 exact b06 h.choose_spec.1 o h.choose_spec.2 b n
theorem hsB_iff:hsB n g=true ↔ Yh g.1 n:=by unfold hsB;exact @decide_eq_true_iff _ (bQ _)
theorem Bk.has(S:Bk ns tr gs):n∈hvL ns tr z ↔ ∃g∈gs.filter (hsB z),g.2.2.testBit n=true/\vkT (tr n)=g.1:=by
 unfold hvL
 rw[bz]
 constructor
 .rintro⟨hn,h⟩
  obtain⟨g,hg,e,b⟩:=S.get hn
  exact⟨g,List.mem_filter.mpr ⟨hg,hsB_iff.mpr (by rw[e];exact (Kd (S.ok n hn).1 z).mpr h)⟩,b,e.symm⟩
 .rintro⟨g,hg,b,e⟩
  obtain⟨hg,h⟩:=List.mem_filter.mp hg
  obtain⟨hn,_⟩:=(S.bits hg n).mp b
  exact⟨hn,(Kd (S.ok n hn).1 z).mp (by rw[e];exact hsB_iff.mp h)⟩
theorem Bk.due {ns:List Nat}{tr:Nat->Tr}{gs:List Gp}(S:Bk ns tr gs)(b:Bool)(z:Str):F4 ((gs.filter (hsB z)).map λg=>(thK b z g.1,g.2.2)).reverse=El b ns tr z:=by
 refine a41 ?_ λg hg h hh e=>R3 λj=>?_
 .have e1:(gs.filter (hsB z)).map (·.1)=dkR (((hvL ns tr z).map λn=>vkT (tr n)).reverse):=by
   have:=congrArg (List.filter λk=>@decide (Yh k z) (bQ _)) (Ny (λn=>vkT (tr n)) ns)
   rw[<- S.ge,jP,Hz,List.filter_reverse,jP] at this
   rw[show gs.filter (hsB z)=gs.filter ((λk=>@decide (Yh k z) (bQ _))∘λg:Gp=>g.1) from rfl,this]
   unfold hvL
   congr 3
   refine gT λn hn=>?_
   rw[bO]
   show @decide (Yh (vkT (tr n)) z) (bQ _)=true ↔ _
   rw[@decide_eq_true_iff _ (bQ _)]
   exact Kd (S.ok n hn).1 z
  unfold El
  rw[Fu,Fu,dI,dI,aw,aw]
  have e2:(gs.filter (hsB z)).map ((λx:Mk=>x.1)∘λg:Gp=>(thK b z g.1,g.2.2))=(dkR (((hvL ns tr z).map λn=>vkT (tr n)).reverse)).map (thK b z):=by rw[<- e1,aw];rfl
  rw[e2,T8,dI,aw]
  congr 2
  exact bu λn hn=>Q3 (S.ok n (List.mem_filter.mp hn).1).1 b z
 .unfold El at hh
  rw[Fc hg,Fc hh]
  constructor
  .rintro⟨p,hp,e1,b1⟩
   obtain⟨q,hq,rfl⟩:=List.mem_map.mp (List.mem_reverse.mp hp)
   obtain⟨hn,e3⟩:=(S.bits (List.mem_filter.mp hq).1 j).mp b1
   have hj:=S.has.mpr ⟨q,hq,b1,e3⟩
   refine⟨_,List.mem_reverse.mpr (List.mem_map.mpr ⟨j,hj,rfl⟩),?_,by rw[ce];exact decide_eq_true rfl⟩
   show thT b (tr j) z=_
   rw[<- e,<- e1,<- Q3 (S.ok j hn).1,e3]
  .rintro⟨p,hp,e1,b1⟩
   obtain⟨i,hi,rfl⟩:=List.mem_map.mp (List.mem_reverse.mp hp)
   rw[ce,decide_eq_true_iff] at b1
   subst b1
   obtain⟨q,hq,b2,e3⟩:=S.has.mp hi
   refine⟨_,List.mem_reverse.mpr (List.mem_map.mpr ⟨q,hq,rfl⟩),?_,b2⟩
   show thK b z q.1=_
   rw[e,<- e1,<- e3,Q3 (S.ok i (List.mem_filter.mp hi).1).1]
theorem Bk.none(S:Bk ns tr gs)(z:Str):hvL ns tr z=[] ↔ gs.filter (hsB z)=[]:=by
 constructor
 .intro h
  refine List.eq_nil_iff_forall_not_mem.mpr λg hg=>?_
  have hm:=(List.mem_filter.mp hg).1
  have:g.1∈(B3 (λn=>vkT (tr n)) ns).map (·.1):=by rw[<- S.ge];exact bF hm
  rw[Ny,mem_dk,cx] at this
  obtain⟨n,hn,e⟩:=List.mem_map.mp this
  have:=S.has.mpr ⟨g,hg,(S.bits hm n).mpr ⟨hn,e⟩,e⟩
  rw[h] at this
  cases this
 .intro h
  refine List.eq_nil_iff_forall_not_mem.mpr λn hn=>?_
  obtain⟨g,hg,_⟩:=S.has.mp hn
  rw[h] at hg
  cases hg
section
theorem a04(Z:An K t)(B:NoN t n H E):mkX t.c_zbt (some (i_zk K t)) 1 [.str n,.non] H (Uz9 K λa H'=>E (.ref a) none H') EE:=by
 intro a ha
 exact⟨H,a,.str n,.non,rfl,ha,rfl,λH' dx S ne e1 e2=>⟨rfl,t.c_zbt,some dx,e1,Z.ec,B _ a (S.set ha) ⟨dx,ne,Ab,by rw[Ad ne];exact e2⟩⟩⟩
theorem NoN.up(B:NoN t n H E)(S:Same H H'):NoN t n H' E:=λH2 a S2 f=>B H2 a (S.trans S2) f
theorem bs4(Z:An K t):OkX K as6 (Az K t) bl (t.m_zbw 2) (t.e_zbw 2) (ao4 K t):=by
 refine aw9 (b54 K t) λvs H Q E h=>?_
 .obtain⟨b,n,sw,ζ,gs,rfl,⟨dx,p,l,eb,hp,es,ee,el,he⟩,few,k⟩:=h;refine⟨rfl,?_⟩
  have big:(1000:Nat)<sizeLine:=by decide
  have le:es.length=gs.length:=by rw[<- ee,ae]
  have hk:∀e∈es,hsB n e.1.1=(stT e.1.2 n).isSome:=λe h=>by rw[bO,hsB_iff,<- (he e h).2.2.2];exact Kd (he e h).2.2.1 n
  refine gy ⟨_,_,_,_,eb,Z.bc,Z.bk,rfl,(.inl ⟨⟨_,SqL.of el⟩,λD hD=>?_⟩)⟩
  refine C7 (A5 (es.map λe=>V.ref e.2.2)) (λi U H'=>(∃v0 v1,U=[v0,v1,some (.str n)])/\Same H H'/\∃rs:List ((Nat×Tr)×Addr×Addr),ab5 t.c_zbv H' D rs/\rs.length<=i/\rs.map (·.1)=((es.take i).filter λe=>(stT e.1.2 n).isSome).map λe=>(e.1.1.2.2,e.1.2)) ⟨⟨_,_,rfl⟩,Same.upd hD,[],⟨Ab,λr h=>by cases h⟩,ag _,rfl⟩ (λ_ _ H' _ q=>q.2.1.seqL (SqL.of el)) ?_ ?_
  .rintro i x U H1 hx ⟨⟨v0,v1,rfl⟩,S1,rs,⟨eD,hr⟩,lr,er⟩
   obtain⟨e,hi,rfl⟩:=Am hx
   have hm:=ak hi
   have il:=Aj hi
   obtain⟨e1,hP,o1,_⟩:=he e hm
   have hP1:=hP.up S1
   obtain⟨dx1,d1,⟨_,ep1⟩,_⟩:=id hP1
   have fs:=Fs (p:=λe:(Gp×Tr)×Addr×Addr=>(stT e.1.2 n).isSome) hi
   refine⟨_,.inl (SqT.of (S1 _ _ e1)),rfl,⟨e.2.1,dx1,_,⟨t.c_zbv,a38 K t⟩,rfl,.head _,ep1,rfl,⟨ag _,ag _⟩,⟨e.2.1,e.1.2,n,rfl,hP1,o1,?_⟩⟩⟩
   cases c:(stT e.1.2 n).isSome with
   |false=>
    rw[c,if_neg (by decide),bS] at fs
    exact⟨⟨_,_,rfl⟩,S1,rs,⟨eD,hr⟩,gW lr,by rw[fs];exact er⟩
   |true=>
    rw[c,if_pos rfl] at fs
    refine⟨(show 2<=sizeLine by decide),λT hT=>?_⟩
    have ST:=Same.upd (o:=.tup [.int (e.1.1.2.2:Int),.ref e.2.1]) hT
    have eT:upd H1 T (.tup [.int (e.1.1.2.2:Int),.ref e.2.1]) T=some (.tup [.int (e.1.1.2.2:Int),.ref e.2.1]):=Ab
    generalize upd H1 T (.tup [.int (e.1.1.2.2:Int),.ref e.2.1])=H2 at ST eT ⊢
    have nl:=NL.upd (m:=(rs.map λr=>V.ref r.2.2)++[.ref T]) (ST _ _ eD)
    refine⟨_,ST _ _ eD,by rw[ae];omega,⟨_,_,rfl⟩,(S1.trans ST).set hD,rs++[((e.1.1.2.2,e.1.2),e.2.1,T)],⟨by rw[Ab,ar];rfl,λr h=>?_⟩,by rw[aU];exact cz lr,by rw[fs,ar,ar,er];rfl⟩
    rcases List.mem_append.mp h with h|h
    .exact⟨nl.tup _ _ (ST _ _ (hr r h).1),((hr r h).2.1.up ST).nl nl,(hr r h).2.2⟩
    .obtain rfl:r=((e.1.1.2.2,e.1.2),e.2.1,T):=by simpa using h
     exact⟨nl.tup _ _ eT,(hP.up (S1.trans ST)).nl nl,o1⟩
  .rintro U H1 ⟨_,S1,rs,hR,lr,er⟩
   rw[ae] at lr er
   rw[aA] at er
   have e2:(rs.map λr=>(vkT r.1.2,r.1.1))=(gs.filter (hsB n)).map λg=>(g.1,g.2.2):=by
    have:=congrArg (jn λx:Nat×Tr=>(vkT x.2,x.1)) er
    rw[aw,aw] at this
    rw[<- ee,jP,aw]
    refine this.trans ?_
    rw[gT (q:=hsB n∘λe:(Gp×Tr)×Addr×Addr=>e.1.1) λe h=>(hk e h).symm]
    exact bu λe h=>by show (vkT e.1.2,_)=_;rw[(he e (List.mem_filter.mp h).1).2.2.2];rfl
   have hs:∀r∈rs,(stT r.1.2 n).isSome=true:=λr hr=>by
    have:r.1∈rs.map (·.1):=bF hr
    rw[er] at this
    obtain⟨e,h,q⟩:=List.mem_map.mp this
    rw[<- q]
    exact (List.mem_filter.mp h).2
   refine⟨(show 0<=sizeLine by decide),λq hq=>?_⟩
   have Sq:=Same.upd (o:=.lst []) hq
   rcases k with ⟨ne,k⟩|⟨no,k⟩
   .refine .inr (.inr (.inl (.inr (.inr ⟨_,_,SqL.of (Sq _ _ hR.1),SqL.of Ab,λz=>ne ?_,?_⟩))))
    .rw[ae] at z
     rw[List.length_eq_zero_iff.mp z,eG] at e2
     exact List.map_eq_nil_iff.mp e2.symm
    .exact k _ D rs (S1.trans Sq) ⟨Sq _ _ hR.1,λr h=>⟨Sq _ _ (hR.2 r h).1,(hR.2 r h).2.1.up Sq,(hR.2 r h).2.2⟩⟩ (by omega) hs e2
   .rw[no,eG,kD] at e2
    subst e2
    exact .inl ⟨D,q,[],[],rfl,rfl,SqL.of (Sq _ _ hR.1),SqL.of Ab,rfl,rfl,⟨(show 2<=1000 by decide),a04 Z (NoN.up k (S1.trans Sq))⟩⟩
theorem bb9(Z:An K t):OkX K Wf (Az K t) bl (t.m_zbw 3) (t.e_zbw 3) (Vi K t):=by
 refine aw9 (bx0 K t) λvs H Q E h=>?_
 .obtain⟨b,n,sw,ζ,gs,ns,tr,rfl,hb,S,k⟩:=h;refine⟨rfl,?_⟩
  obtain⟨dx,_,_,eb,_⟩:=id hb
  refine⟨b,dx,_,⟨t.c_zbw,av4 K t⟩,rfl,.head _,eb,rfl,⟨ag _,ag _⟩,⟨b,n,sw,ζ,gs,rfl,hb,S.few,?_⟩⟩
  rcases k with ⟨ne,k⟩|⟨no,k⟩
  .refine .inl ⟨λz=>ne ((S.none n).mpr z),λH1 l rs S1 hR lr hs er=>.inl ⟨⟨_,SqL.of hR.1⟩,?_⟩⟩
   refine a08 (rest:=[]) (λ_=>true) hR lr (λr h H2 Q2 S2 q=>q) λH2 S2=>?_
   have e:Dw ((rs.filter λr=>true).map (·.1.1))=Jp (hvL ns tr n):=R3 λj=>by
    have em:rs.map (·.1.1)=(gs.filter (hsB n)).map (·.2.2):=by
     have:=congrArg (jn λx:TK×Nat=>x.2) er
     rw[aw,aw] at this
     exact this
    rw[List.filter_eq_self.mpr λ_ _=>rfl,em,Gu,dG,Ly,decide_eq_true_iff,S.has]
    constructor
    .rintro⟨m,hm,qb⟩
     obtain⟨g,hg,rfl⟩:=List.mem_map.mp hm
     exact⟨g,hg,qb,((S.bits (List.mem_filter.mp hg).1 j).mp qb).2⟩
    .rintro⟨g,hg,qb,_⟩
     exact⟨_,List.mem_map.mpr ⟨g,hg,rfl⟩,qb⟩
   rw[e]
   exact k H2 (S1.trans S2)
  .exact .inr ⟨(S.none n).mp no,λH1 a S1 f=>⟨a,rfl,k H1 a S1 f⟩⟩
end
section
theorem aq0 {H:Hp}{T:Tr}{n:Str}{v:V}(c:(stT T n).isSome=true)(h:bo2 H (stT T n) v):∃a x u,v=.ref a/\T.lookup n=some x/\H a=some (.tup [.str x.k,.str x.p,.int x.r,u])/\TkAt H x.c u:=by
 unfold stT at c h
 cases e:T.lookup n with
 |none=>rw[e] at c;cases c
 |some x=>
  rw[e] at h
  obtain⟨⟨a,rfl⟩,h⟩:=h
  unfold rcT TkAt at h
  obtain⟨b,xs,eb,hb,h⟩:=h
  cases eb
  unfold Ao at h
  obtain⟨v1,r1,rfl,h1,h⟩:=h
  unfold Ao at h
  obtain⟨v2,r2,rfl,h2,h⟩:=h
  unfold Ao at h
  obtain⟨v3,r3,rfl,h3,h⟩:=h
  unfold Ao at h
  obtain⟨v4,r4,rfl,h4,h⟩:=h
  unfold Ao at h
  unfold TkAt at h1 h2 h3
  subst h h1 h2 h3
  exact⟨a,x,v4,rfl,rfl,hb,h4⟩
theorem br9(Z:An K t):OkD K as3 (Az K t) bl (t.m_zbv 0) (t.e_zbv 0) (ao0 K t):=by
 refine A7 (b49 K t) λvs H Q E h=>?_
 .obtain⟨p,T,n,rfl,hP,o,c,k⟩:=h;refine⟨rfl,?_⟩
  obtain⟨dx,d,⟨_,ep⟩,_⟩:=id hP
  refine⟨p,dx,_,⟨t.c_zbv,ba0 K t⟩,rfl,.head _,ep,rfl,⟨ag _,ag _⟩,⟨p,T,n,rfl,hP,o,c,λv hv=>?_⟩⟩
  obtain⟨a,x,u,rfl,e,ea,tk⟩:=aq0 c hv
  exact⟨_,u,.inr (SqT.of ea),rfl,k u (by unfold thT;rw[e];exact tk)⟩
theorem PrsAt.up {H H':Hp}{D:Addr}{gs:List Mk}(h:PrsAt H D gs)(S:Same H H'):PrsAt H' D gs:=
 let ⟨es,e,eD,he⟩:=h
 ⟨es,e,S _ _ eD,λx hx=>⟨S _ _ (he x hx).1,(he x hx).2.up (NL.same S).tup⟩⟩
theorem PrsAt.push(h:PrsAt H D gs)(eT:H T=some (.tup [.int (g.2:Int),v]))(tk:TkAt H g.1 v):∃xs,H D=some (.lst xs)/\xs.length=gs.length/\PrsAt (upd H D (.lst (xs++[.ref T]))) D (gs++[g]):=by
 obtain⟨es,rfl,eD,he⟩:=h
 have nl:=NL.upd (m:=(es.map λe=>V.ref e.2.2)++[.ref T]) eD
 refine⟨_,eD,by rw[ae,ae],es++[(g,v,T)],by rw[ar];rfl,by rw[Ab,ar];rfl,λe h=>?_⟩
 rcases List.mem_append.mp h with h|h
 .exact⟨nl.tup _ _ (he e h).1,(he e h).2.up nl.tup⟩
 .obtain rfl:e=(g,v,T):=by simpa using h
  exact⟨nl.tup _ _ eT,tk.up nl.tup⟩
theorem P3:PrsAt (upd H D (.lst [])) D []:=⟨[],rfl,Ab,λe h=>by cases h⟩
theorem W8 {C l:Addr}{H:Hp}{rs:List ((Nat×Tr)×Addr×Addr)}{rest:St}{te:DE}{E:EK}{R:Hp->Addr->Prop}(f:Tr->TK)(hR:ab5 C H l rs)(few:rs.length<=4)(hv:∀r∈rs,∀(H1:Hp)(Q:VK),Same H H1->(∀H2 v,Same H1 H2->TkAt H2 (f r.1.2) v->2<=sizeLine/\∀T,H2 T=none->Q (.ref T) (upd H2 T (.tup [.int (r.1.1:Int),v])))->te (some (.int (r.1.1:Int))::some (.ref r.2.1)::rest) H1 Q E)(k:∀D H',Same H H'->H D=none->PrsAt H' D (rs.map λr=>(f r.1.2,r.1.1))->R H' D) :
  ∀D,H D=none->Dx (Itl K l) (gdT K 2 [gdN 0,gdN 1]) B6 te D (λH'=>R H' D) (none::none::rest) (upd H D (.lst [])) E:=by
 intro D hD
 have big:(1000:Nat)<sizeLine:=by decide
 refine C7 (A5 (rs.map λr=>V.ref r.2.2)) (λi U H'=>(∃v0 v1,U=v0::v1::rest)/\Same H H'/\PrsAt H' D ((rs.take i).map λr=>(f r.1.2,r.1.1))) ⟨⟨_,_,rfl⟩,Same.upd hD,P3⟩ (λ_ _ H' _ q=>q.2.1.seqL (SqL.of hR.1)) ?_ ?_
 .rintro i x U H1 hx ⟨⟨v0,v1,rfl⟩,S1,hp⟩
  obtain⟨r,hi,rfl⟩:=Am hx
  have hm:=ak hi
  have il:=Aj hi
  refine⟨_,.inl (SqT.of (S1 _ _ (hR.2 r hm).1)),rfl,hv r hm H1 _ S1 λH2 v S2 tk=>⟨by decide,λT hT=>?_⟩⟩
  have ST:=S2.trans (Same.upd (o:=.tup [.int (r.1.1:Int),v]) hT)
  obtain⟨xs,e1,e2,e3⟩:=(hp.up ST).push (g:=(f r.1.2,r.1.1)) Ab (tk.up (NL.same (Same.upd (o:=.tup [.int (r.1.1:Int),v]) hT)).tup)
  rw[ae,aC] at e2
  rw[<- Bl hi] at e3
  exact⟨xs,e1,by omega,⟨_,_,rfl⟩,(S1.trans ST).set hD,e3⟩
 .rintro U H1 ⟨_,S1,hp⟩
  rw[ae,aA] at hp
  exact k D H1 S1 hD hp
noncomputable abbrev mK(g:Mk):TK×V:=(g.1,.int (g.2:Int))
theorem Km(gs:List Mk):(gs.map mK).map (·.1)=gs.map (·.1):=by rw[aw];rfl
theorem ah6:∀ {gs:List Mk} {g h:Mk},(gs.map (·.1)).Nodup->g∈gs->h∈gs->g.1=h.1->g=h
 | x::gs,g,h,nd,hg,hh,e=>by
  rw[aS,cP] at nd
  rcases List.mem_cons.mp hg with a|a <;> rcases List.mem_cons.mp hh with b|b
  .rw[a,b]
  .exact absurd (List.mem_map.mpr ⟨h,b,by rw[<- e,a]⟩) nd.1
  .exact absurd (List.mem_map.mpr ⟨g,a,by rw[e,b]⟩) nd.1
  .exact ah6 nd.2 a b e
theorem bi4(nd:(gs.map (·.1)).Nodup)(p:Mk):∃old:Nat,(Bv (gs.map mK) p.1).getD (.int 0)=.int (old:Int)/\B7 (gs.map mK) p.1 (.int ((old ||| p.2:Nat):Int))=(Gh gs p).map mK:=by
 by_cases hk:p.1∈gs.map (·.1)
 .obtain⟨g,hg,e⟩:=List.mem_map.mp hk
  obtain⟨j,hj⟩:=List.mem_iff_getElem?.mp hg
  refine⟨g.2,by rw[<- e,Ku (j:=j) (by rw[Km];exact nd) (by rw[al,hj];rfl)];rfl,?_⟩
  unfold B7 Gh
  rw[if_pos (any_mem.mpr (by rw[Km];exact hk)),if_pos hk,aw,aw]
  refine bu λq hq=>?_
  show (if q.1=p.1 then (q.1,V.int ((g.2 ||| p.2:Nat):Int)) else mK q)=mK (if q.1=p.1 then _ else q)
  split
  .rw[ah6 nd hq hg (by rw[e];assumption)]
  .rfl
 .have hv:Bv (gs.map mK) p.1=none:=Q5 (by rw[Km];exact hk)
  refine⟨0,by rw[hv];rfl,?_⟩
  rw[C5 _ hv,Nat.zero_or]
  unfold Gh
  rw[if_neg hk,ar]
  rfl
theorem Hr(o:okC x)(h:TkAt H x v):(∃z,v=.str z) \/ ∃a,v=.ref a:=by
 cases x with
 |at_ k=>
  unfold TkAt at h
  cases k with
  |inl i=>exact absurd rfl (o.2 i)
  |inr z=>exact .inl ⟨z,h⟩
 |tup l=>unfold TkAt at h;obtain⟨a,_,e,_⟩:=h;exact .inr ⟨a,e⟩
theorem bm3(o:okC x)(h:TkAt H x v)(d:DPut H p v u H')(q:N H'):am4 (.ref p) v u H N:=by
 rcases Hr o h with ⟨z,rfl⟩|⟨a,rfl⟩ <;> exact⟨H',d,q⟩
theorem af1(r:List Mk):((F4 r).map (·.1)).Nodup:=by rw[Fu];exact K3 _
theorem a34(h:∀q∈r,okC q.1):∀g∈F4 r,okC g.1:=λg hg=>by
 have:g.1∈(F4 r).map (·.1):=bF hg
 rw[Fu,mem_dk] at this
 obtain⟨q,hq,e⟩:=List.mem_map.mp this
 rw[<- e]
 exact h q hq
theorem Uh(r:List Mk):(F4 r).length<=r.length:=by
 induction r with
 |nil=>exact ag _
 |cons p r ih=>
  show (Gh (F4 r) p).length<=r.length+1
  unfold Gh
  split
  .rw[ae];omega
  .rw[aU];exact cz ih
theorem okC.le(o:okC x):Aq x<=8:=a9 o.1 (by decide)
theorem bf0(Z:An K t):OkD K aa7 (Az K t) bl (t.f 34) (t.d 34) (Qk K t):=by
 refine A7 (b00 K t) λvs H Q E h=>?_
 .obtain⟨l,qs,rfl,⟨es,rfl,el,he⟩,few,ok,k⟩:=h;refine⟨rfl,?_⟩
  have big:(1000:Nat)<sizeLine:=by decide
  rw[ae] at few
  intro sx hsx
  refine .inr ?_
  have S1:=Same.upd (o:=.dT []) hsx
  have e1:upd H sx (.dT []) sx=some (.dT []):=Ab
  generalize upd H sx (.dT [])=H1 at S1 e1 ⊢
  refine .inl ⟨⟨_,SqL.of (S1 _ _ el)⟩,?_⟩
  refine Bc (A5 (es.map λe=>V.ref e.2.2)) (λi U H'=>(∃v2 v3,U=[some (.ref l),some (.ref sx),v2,v3])/\Same H H'/\H' sx=some (.dT ((F4 ((es.take i).map (·.1)).reverse).map mK))) ⟨⟨_,_,rfl⟩,S1,e1⟩ (λ_ _ H' _ q=>q.2.1.seqL (SqL.of el)) ?_ ?_
  .rintro i x U H2 hx ⟨⟨v2,v3,rfl⟩,S2,e2⟩
   obtain⟨e,hi,rfl⟩:=Am hx
   have hm:=ak hi
   have il:=Aj hi
   have oe:=ok _ (bF hm)
   have tk:=(he e hm).2.up (NL.same S2).tup
   have gl:=Uh ((es.take i).map (·.1)).reverse
   rw[bx,ae,aC] at gl
   obtain⟨old,ho,hp⟩:=bi4 (af1 ((es.take i).map (·.1)).reverse) e.1
   refine⟨_,.inl (SqT.of (S2 _ _ (he e hm).1)),rfl,?_⟩
   refine⟨.inr (.inr (.inl ⟨rfl,.inr ⟨_,e2⟩⟩)),_,DGet.t e2 ⟨oe.le,tk⟩,?_⟩
   rw[ho]
   refine bm3 oe tk (u:=.int (cN (old:Int) (e.1.2:Int))) (DPut.t e2 ⟨oe.le,tk⟩ (by rw[ae];omega)) ⟨⟨_,_,rfl⟩,S2.set hsx,?_⟩
   rw[Ab,Dy,hp,Bl hi,iC]
   rfl
  .rintro U H2 ⟨⟨v2,v3,rfl⟩,S2,e2⟩
   rw[ae,aA] at e2
   have gl:=Uh (es.map (·.1)).reverse
   rw[bx,ae] at gl
   have nd:=af1 (es.map (·.1)).reverse
   have gok:=a34 (r:=(es.map (·.1)).reverse) λq hq=>ok q (List.mem_reverse.mp hq)
   generalize F4 (es.map (·.1)).reverse=gs at e2 gl nd gok k
   refine .inl ?_
   refine .inr (.inr (.inr ⟨_,e2,λo D hD=>?_⟩))
   have ef:upd H2 sx (.frz o (.dT (gs.map mK))) sx=some (.frz o (.dT (gs.map mK))):=Ab
   have Sf:Same H (upd H2 sx (.frz o (.dT (gs.map mK)))):=S2.set hsx
   generalize upd H2 sx (.frz o (.dT (gs.map mK)))=Hf at ef Sf hD ⊢
   refine ad0 (λi U H'=>(∃v,U=[v,some (.ref sx)])/\Same Hf H'/\PrsAt H' D (gs.take i)) ⟨⟨_,rfl⟩,Same.upd hD,P3⟩ (λ_ _ _ q=>q.2.1 _ _ ef) ?_ ?_
   .rintro i kk vv b U H4 hi dk ⟨⟨v,rfl⟩,S4,hp⟩
    obtain⟨g,hg,eg⟩:=Am hi
    obtain⟨rfl,rfl⟩:kk=g.1/\vv=.int (g.2:Int):=by injection eg with a b;exact⟨a,b⟩
    have il:=Aj hg
    have d:DGet H4 sx b (some (.int (g.2:Int))):=.inr ⟨_,g.1,.inr ⟨o,S4 _ _ ef⟩,dk,(Ku (by rw[Km];exact nd) hi).symm⟩
    have fin:∀T,H4 T=none -> ∃xs,upd H4 T (.tup [.int (g.2:Int),b]) D=some (.lst xs)/\xs.length<sizeLine/\(∃v,[some b,some (.ref sx)]=[v,some (.ref sx)])/\Same Hf (upd (upd H4 T (.tup [.int (g.2:Int),b])) D (.lst (xs++[.ref T])))/\PrsAt (upd (upd H4 T (.tup [.int (g.2:Int),b])) D (.lst (xs++[.ref T]))) D (gs.take (i+1)):=λT hT=>by
     have ST:=Same.upd (o:=.tup [.int (g.2:Int),b]) hT
     obtain⟨xs,e1,e2,e3⟩:=(hp.up ST).push (g:=g) Ab (dk.2.up (NL.same ST).tup)
     rw[aC] at e2
     exact⟨xs,e1,by omega,⟨_,rfl⟩,(S4.trans ST).set hD,by rw[aR,hg];exact e3⟩
    rcases Hr (gok g (ak hg)) dk.2 with ⟨z,rfl⟩|⟨z,rfl⟩ <;> exact⟨_,d,(show 2<=sizeLine by decide),fin⟩
   .rintro U H4 ⟨_,S4,hp⟩
    rw[ae,aA] at hp
    exact k H4 D (Sf.trans S4) (Sf.free hD) hp
theorem Y2(x y:Str)(r:Int):okC (.tup [.at_ (.inr x),.at_ (.inr y),.at_ (.inl r)]):=by
 refine⟨?_,λi z=>by cases z⟩
 unfold Aq
 refine cz (Cy (n:=1) λk hk=>?_)
 simp only[aO,cS,or_false] at hk
 rcases hk with rfl|rfl|rfl <;> exact Ga _ _
theorem Xu {T:Tr}(o:Cb T)(b:Bool){n:Str}(c:(stT T n).isSome=true):okC (thT b T n):=by
 unfold thT
 cases e:T.lookup n with
 |none=>unfold stT at c;rw[e] at c;cases c
 |some x=>
  cases b with
  |true=>exact o.2.2 _ (Kl e)
  |false=>exact Y2 _ _ _
theorem Ss {ns:List Nat}{tr:Nat->Tr}{gs:List Gp}{n:Str}{C l:Addr}{H:Hp}{rs:List ((Nat×Tr)×Addr×Addr)}(S:Bk ns tr gs)(b:Bool)(hR:ab5 C H l rs)(er:(rs.map λr=>(vkT r.1.2,r.1.1))=(gs.filter (hsB n)).map λg=>(g.1,g.2.2)):F4 (rs.map λr=>(thT b r.1.2 n,r.1.1)).reverse=El b ns tr n:=by
 rw[<- S.due]
 congr 2
 have:=congrArg (jn λx:Mk=>(thK b n x.1,x.2)) er
 rw[aw,aw] at this
 refine Eq.trans ?_ this
 exact bu λr h=>by show _=(thK b n (vkT r.1.2),_);rw[Q3 (hR.2 r h).2.2]
theorem bt3(Z:An K t):OkX K at1 (Az K t) bl (t.m_zbw 1) (t.e_zbw 1) (ap1 K t):=by
 refine aw9 (b63 K t) λvs H Q E h=>?_
 .obtain⟨b,n,sw,ζ,gs,ns,tr,rfl,hb,S,k⟩:=h;refine⟨rfl,?_⟩
  obtain⟨dx,_,_,eb,_⟩:=id hb
  refine⟨b,dx,_,⟨t.c_zbw,av4 K t⟩,rfl,.head _,eb,rfl,⟨ag _,ag _⟩,⟨b,n,sw,ζ,gs,rfl,hb,S.few,?_⟩⟩
  rcases k with ⟨ne,k⟩|⟨no,k⟩
  .refine .inl ⟨λz=>ne ((S.none n).mpr z),λH1 l rs S1 hR lr hs er=>.inl ⟨⟨_,SqL.of hR.1⟩,?_⟩⟩
   refine W8 (rest:=[some (.str n)]) (λT=>thT false T n) hR lr (λr h H2 Q2 S2 q=>?_) λD H2 S2 hD hp=>?_
   .have hP:=(hR.2 r h).2.1.up S2
    obtain⟨dx1,d1,⟨_,ep1⟩,_⟩:=id hP
    refine⟨r.2.1,dx1,_,⟨t.c_zbv,ba0 K t⟩,rfl,.head _,ep1,rfl,⟨ag _,ag _⟩,⟨r.2.1,r.1.2,n,rfl,hP,(hR.2 r h).2.2,hs r h,λv hv=>?_⟩⟩
    obtain⟨a,x,u,rfl,e,ea,_⟩:=aq0 (hs r h) hv
    refine .inr ⟨_,SqT.of ea,λz=>absurd z.2 (show ¬ HT.sIx 4 4 (some 3)=4 by decide),λT hT=>?_⟩
    refine q _ (.ref T) (Same.upd hT) ?_
    unfold thT
    rw[e]
    unfold TkAt
    exact⟨T,[.str x.k,.str x.p,.int x.r],rfl,Ab,by unfold Ao;exact⟨_,_,rfl,by unfold TkAt;rfl,by unfold Ao;exact⟨_,_,rfl,by unfold TkAt;rfl,by unfold Ao;exact⟨_,_,rfl,by unfold TkAt;rfl,by unfold Ao;rfl⟩⟩⟩⟩
   .refine⟨D,_,rfl,hp,by rw[ae];exact lr,λq hq=>?_,λH3 D3 S3 h3 hp3=>k H3 D3 (S1.trans (S2.trans S3)) ((S1.trans S2).free h3) ?_⟩
    .obtain⟨r,hr,rfl⟩:=List.mem_map.mp hq
     exact Xu (hR.2 r hr).2.2 _ (hs r hr)
    .rw[Ss S false hR er] at hp3
     exact hp3
  .exact .inr ⟨(S.none n).mp no,λH1 a S1 f=>⟨a,rfl,k H1 a S1 f⟩⟩
theorem bs7(Z:An K t):OkX K as7 (Az K t) bl (t.m_zbw 0) (t.e_zbw 0) (ao5 K t):=by
 refine aw9 (b57 K t) λvs H Q E h=>?_
 .obtain⟨b,n,sw,ζ,gs,ns,tr,rfl,hb,S,k⟩:=h;refine⟨rfl,?_⟩
  obtain⟨dx,_,_,eb,_⟩:=id hb
  refine⟨b,dx,_,⟨t.c_zbw,av4 K t⟩,rfl,.head _,eb,rfl,⟨ag _,ag _⟩,⟨b,n,sw,ζ,gs,rfl,hb,S.few,?_⟩⟩
  rcases k with ⟨ne,k⟩|⟨no,k⟩
  .refine .inl ⟨λz=>ne ((S.none n).mpr z),λH1 l rs S1 hR lr hs er=>.inl ⟨⟨_,SqL.of hR.1⟩,?_⟩⟩
   refine W8 (rest:=[some (.str n)]) (λT=>thT true T n) hR lr (λr h H2 Q2 S2 q=>?_) λD H2 S2 hD hp=>?_
   .have hP:=(hR.2 r h).2.1.up S2
    obtain⟨dx1,d1,⟨_,ep1⟩,_⟩:=id hP
    exact⟨r.2.1,dx1,_,⟨t.c_zbv,bq1 K t⟩,rfl,.head _,ep1,rfl,⟨ag _,ag _⟩,⟨r.2.1,r.1.2,n,rfl,hP,(hR.2 r h).2.2,hs r h,λv hv=>q _ v (Same.refl _) hv⟩⟩
   .refine⟨D,_,rfl,hp,by rw[ae];exact lr,λq hq=>?_,λH3 D3 S3 h3 hp3=>k H3 D3 (S1.trans (S2.trans S3)) ((S1.trans S2).free h3) ?_⟩
    .obtain⟨r,hr,rfl⟩:=List.mem_map.mp hq
     exact Xu (hR.2 r hr).2.2 _ (hs r hr)
    .rw[Ss S true hR er] at hp3
     exact hp3
  .exact .inr ⟨(S.none n).mp no,λH1 a S1 f=>⟨a,rfl,k H1 a S1 f⟩⟩
end
section
theorem be0(Z:An K t):OkD K Z8 (Az K t) bl (t.f 35) (t.d 35) (Qi K t):=by
 refine A7 (bz0 K t) λvs H Q E h=>?_
 .obtain⟨i,rfl,k⟩:=h;refine⟨rfl,?_⟩
  exact⟨rfl,rfl,k⟩
theorem aq4(h:TkAt H x (.str z)):x=.at_ (.inr z):=by
 cases x with
 |at_ k=>
  unfold TkAt at h
  cases k with
  |inl i=>cases h
  |inr y=>cases h;rfl
 |tup l=>unfold TkAt at h;obtain⟨a,_,e,_⟩:=h;cases e
theorem bm7(ox:okC x)(oy:okC y)(hx:TkAt H x u)(hy:TkAt H y v)(q:Q (.bl (decide (x=y))) H):Bz K false u v H Q:=by
 have T:Y9 K false u v H Q:=⟨tkD x,tkD y,V5 _ hx,V5 _ hy,by rw[Xv];exact a9 ox.1 (by decide),by rw[bm6];exact q⟩
 rcases Hr ox hx with ⟨z,rfl⟩|⟨a,rfl⟩ <;> rcases Hr oy hy with ⟨z',rfl⟩|⟨b,rfl⟩
 .have e:decide (x=y)=decide (z=z'):=by
   rw[aq4 hx,aq4 hy]
   exact decide_eq_decide.mpr ⟨λe=>by cases e;rfl,λe=>by rw[e]⟩
  rw[e] at q
  exact q
 .exact T
 .exact .inl T
 .exact .inr (.inl T)
theorem ba5 {gs:List Mk}(nd:(gs.map (·.1)).Nodup){i:Nat}{g:Mk}(h:gs[i]?=some g):((ay gs.length).filter λj=>decide ((gs.map (·.1))[j]?=some g.1))=[i]:=by
 have hi:=Aj h
 have e:(gs.map (·.1))[i]?=some g.1:=by rw[al,h];rfl
 have:∀j,decide ((gs.map (·.1))[j]?=some g.1)=decide (j=i):=λj=>decide_eq_decide.mpr ⟨λz=>((gU (by rw[ae];exact hi) nd).mp (e.trans z.symm)).symm,λz=>by rw[z];exact e⟩
 rw[gT λj _=>this j]
 refine i4 λm=>?_
 have cnt:((ay gs.length).filter λj=>decide (j=i))=[i]:=by
  have:∀n,((ay n).filter λj=>decide (j=i))=if i<n then [i] else []:=λn=>by
   induction n with
   |zero=>rfl
   |succ n ih=>
    rw[fC,c8,ih]
    by_cases c:n=i
    .subst c;simp
    .by_cases d:i<n
     .rw[if_pos d,if_pos (by omega)];simp[c]
     .rw[if_neg d,if_neg (by omega)];simp[c]
  rw[this,if_pos hi]
 rw[cnt]
theorem bm0(nd:(gs.map (·.1)).Nodup)(h:gs[i]?=some (x,m)):Gh gs (x,y)=gs.set i (x,m ||| y):=by
 unfold Gh
 rw[if_pos (List.mem_map.mpr ⟨_,ak h,rfl⟩)]
 refine i4 λj=>?_
 rw[al,List.getElem?_set]
 by_cases e:i=j
 .subst e
  rw[if_pos rfl,if_pos (Aj h),h,cF,if_pos rfl]
 .rw[if_neg e]
  cases hj:gs[j]? with
  |none=>rfl
  |some g=>
   rw[cF,if_neg λz=>e ?_]
   have z:g.1=x:=z
   refine (gU (by rw[ae];exact Aj h) nd).mp ?_
   rw[al,al,h,hj,cF,cF,z]
theorem bm2 {Dd:Outs}{H:Hp}{F D:Addr}{n:Str}{b:Bool}{j:Nat}{v:V}{v6:Option V}{x:TK}{gs:List Mk}(hp:PrsAt H D gs)(nd:(gs.map (·.1)).Nodup)(ok:∀g∈gs,okC g.1)(lt:∀g∈gs,g.2<2 ^ j)(few:gs.length<256)(ox:okC x)(tk:TkAt H x v)(j256:j<256)(k:∀H' u,(∀a o,a≠D->H a=some o->H' a=some o)->PrsAt H' D (Gh gs (x,2 ^ j))->Dd.nx [some (.ref F),some (.str n),some (.bl b),some (.ref D),some (.int (j:Int)),some v,u] H') :
  Ce K t Dd [some (.ref F),some (.str n),some (.bl b),some (.ref D),some (.int (j:Int)),some v,v6] H:=by
 have big:(1000:Nat)<sizeLine:=by decide
 have hp0:=hp
 obtain⟨es,rfl,eD,he⟩:=hp
 rw[ae] at few
 refine .inl ⟨⟨_,SqL.of eD⟩,λL hL=>?_⟩
 refine J2 (Ey (es.map λe=>V.ref e.2.2)) (λm U H'=>(∃v0 v1,U=[v0,v1,some v])/\Same H H'/\H' L=some (nO ((ay m).filter λi=>decide (((es.map (·.1)).map (·.1))[i]?=some x)))) ⟨⟨_,_,rfl⟩,Same.upd hL,Ab⟩ (λm U H' _ q=>q.2.1.seqL (SqL.of eD)) ?_ ?_
 .rintro m u y T2 U H5 hx5 hT2 ⟨⟨v0,v1,rfl⟩,S5,eL⟩
  obtain⟨rfl,hy⟩:=K5 hx5
  obtain⟨e,hi,rfl⟩:=Am hy
  have hm:=ak hi
  have il:=Aj hi
  have ST:=Same.upd (o:=.tup [.int (m:Int),.ref e.2.2]) hT2
  have S6:=S5.trans ST
  refine⟨_,.inl (SqT.of Ab),rfl,?_⟩
  have eL:=ST _ _ eL
  generalize upd H5 T2 (.tup [.int (m:Int),.ref e.2.2])=H6 at S6 eL ⊢
  refine⟨_,e.2.1,.inr (SqT.of (S6 _ _ (he e hm).1)),rfl,?_⟩
  refine bm7 (ok _ (bF hm)) ox ((he e hm).2.up (NL.same S6).tup) (tk.up (NL.same S6).tup) ?_
  have ek:((es.map (·.1)).map (·.1))[m]?=some e.1.1:=by rw[al,al,hi];rfl
  have fl:=cI (λi=>decide (((es.map (·.1)).map (·.1))[i]?=some x)) (ay m)
  rw[bi] at fl
  by_cases c:e.1.1=x
  .refine N4 (decide_eq_true c) ⟨_,eL,by rw[ae];omega,⟨_,_,rfl⟩,S6.set hL,?_⟩
   rw[Ab,fC,c8,nO,ar,eN (by rw[ek,c];exact decide_eq_true rfl)]
   rfl
  .refine F8 (decide_eq_false c) ⟨⟨_,_,rfl⟩,S6,?_⟩
   rw[fC,c8,eK (by rw[ek];simpa using c)]
   rw[List.filter_nil,bS]
   exact eL
 rintro U H5 ⟨_,S5,eL⟩
 rw[Bj,ae] at eL
 refine⟨(show 0<=sizeLine by decide),λq hq=>.inl ⟨L,q,_,_,rfl,rfl,SqL.of ((Same.upd hq) _ _ eL),SqL.of Ab,Ia _,rfl,?_⟩⟩
 have S6:=S5.trans (Same.upd (o:=.lst []) hq)
 have eL:=(Same.upd (o:=.lst []) hq) _ _ eL
 generalize upd H5 q (.lst [])=H6 at S6 eL ⊢
 have nT:∀ {T:Addr} {o:HO},H6 T=none -> ∀a u,a≠D->H a=some u -> ∀ {xs:List V},upd (upd H6 T o) D (.lst xs) a=some u:=λhT a u ne e xs=>by rw[Ad ne];exact (Same.upd hT) _ _ (S6 _ _ e)
 have e6:=S6 _ _ eD
 by_cases c:x∈(es.map (·.1)).map (·.1)
 .obtain⟨g,hg,rfl⟩:=List.mem_map.mp c
  obtain⟨e,hem,rfl⟩:=List.mem_map.mp hg
  obtain⟨i,hi⟩:=List.mem_iff_getElem?.mp hem
  have il:=Aj hi
  have hi2:(es.map (·.1))[i]?=some e.1:=by rw[al,hi];rfl
  have fx:=ba5 nd hi2
  rw[ae] at fx
  rw[fx] at eL ⊢
  refine F8 rfl ?_
  have a0:atI (([i]:List Nat).map λn:Nat=>V.int (n:Int)) 0=some (.int (i:Int)):=Bw (j:=0) rfl
  have aD:atI (es.map λe=>V.ref e.2.2) (i:Int)=some (.ref e.2.2):=Bw (by rw[al,hi];rfl)
  refine⟨_,_,.inl (SqL.of eL),a0,_,_,.inl (SqL.of e6),aD,_,_,.inr (SqT.of (S6 _ _ (he e hem).1)),rfl,⟨by omega,by omega,by decide⟩,(show 2<=sizeLine by decide),λT hT=>?_⟩
  have ST:=Same.upd (o:=.tup [.int ((e.1.2:Int)+1 * 2 ^ ((j:Int)).toNat),v]) hT
  refine⟨_,_,.inl (SqL.of (ST _ _ eL)),a0,.inl ⟨_,i,ST _ _ e6,?_,k _ _ (λa u ne e=>nT hT a u ne e) ?_⟩⟩
  .unfold ixN
   rw[ae]
   simp[il]
  .rw[bm0 nd (x:=e.1.1) (m:=e.1.2) hi2,Uz3 (lt e.1 (bF hem))]
   have nl:=NL.upd (m:=(es.map λe=>V.ref e.2.2).set i (.ref T)) (ST _ _ e6)
   refine⟨es.set i ((e.1.1,e.1.2+2 ^ j),v,T),by rw[List.map_set],by rw[Ab,List.map_set],λy hy=>?_⟩
   rcases List.mem_or_eq_of_mem_set hy with hy|rfl
   .exact⟨nl.tup _ _ (ST _ _ (S6 _ _ (he y hy).1)),((he y hy).2.up (NL.same (S6.trans ST)).tup).up nl.tup⟩
   .refine⟨nl.tup _ _ ?_,(tk.up (NL.same (S6.trans ST)).tup).up nl.tup⟩
    rw[Ab]
    show _=some (HO.tup [V.int ((e.1.2+2 ^ j:Nat):Int),v])
    rw[aY,ix,Int.natCast_add,Dm]
 .have fx:((ay es.length).filter λi=>decide (((es.map (·.1)).map (·.1))[i]?=some x))=[]:=List.filter_eq_nil_iff.mpr λi _ z=>c (ak (of_decide_eq_true z))
  rw[fx] at eL ⊢
  refine N4 rfl ⟨.inl ⟨rfl,_,SqL.of e6⟩,⟨by omega,by omega,by decide⟩,(show 2<=sizeLine by decide),λT hT=>?_⟩
  have ST:=Same.upd (o:=.tup [.int (1 * 2 ^ ((j:Int)).toNat),v]) hT
  obtain⟨xs,e1,e2,e3⟩:=(hp0.up (S6.trans ST)).push (T:=T) (g:=(x,2 ^ j)) (v:=v) (by rw[Ab,aY,ix,Dm]) (tk.up (NL.same (S6.trans ST)).tup)
  rw[ae] at e2
  refine⟨D,_,_,rfl,rfl,e1,by omega,k _ _ (λa u ne e=>nT hT a u ne e) ?_⟩
  unfold Gh
  rw[if_neg c]
  exact e3
end
section
theorem bq7 {H:Hp}{p:Addr}{n:Nat}{v:V}(h:DGet H p (.int (n:Int)) (some v)):∃xs,SqX K H p (n:Int) xs/\atI xs (n:Int)=some v:=
 have e:atI (g9 (n+1) v) (n:Int)=some v:=Bw (by rw[eU,if_pos (cy n)])
 ⟨_,.dk λu e2=>by rw[e] at e2;cases e2;exact h,e⟩
theorem FoundAt.dg {H:Hp}{F:Addr}{ns:List Nat}{g:Nat->Addr}{j:Nat}(e:Rd H F (.dK (ns.map (kF g))))(nd:ns.Nodup)(hn:j∈ns):∃xs,SqX K H F (j:Int) xs/\atI xs (j:Int)=some (.ref (g j)):=by
 obtain⟨i,hi⟩:=List.mem_iff_getElem?.mp hn
 exact bq7 (.inl ⟨_,_,e,rfl,(af6 nd hi).symm⟩)
theorem FoundAt.dic {H H':Hp}{F:Addr}{ns:List Nat}{g:Nat->Addr}{tr:Nat->Tr}{j:Nat}(h:FoundAt H F ns g tr)(S:Same H H')(hn:j∈ns):∃es:List ((Str×Rc)×Addr),H' (g j)=some (.dK (es.map kT))/\es.map (·.1)=tr j/\∀e∈es,RcAt H' e.2 e.1.2:=by
 obtain⟨es,a,⟨_,b⟩,c⟩:=((h.one _ hn).1).up S
 exact⟨es,b,a,c⟩
theorem Uw {ns:List Nat}(asc:ns.Pairwise (· < ·))(b256:∀m∈ns,m<256):ns.Nodup/\ns.length<=256:=by
 have nd:ns.Nodup:=asc.imp λh=>aT h
 have:=Sz (x:=ay 256) nd λz hz=>List.mem_range.mpr (b256 z hz)
 rw[bi] at this
 exact⟨nd,this⟩
theorem ad9 {ns:List Nat}{tr:Nat->Tr}{n:Str}{b:Bool}{i j:Nat}(h:ns[i]?=some j):El b (ns.take (i+1)) tr n=if (stT (tr j) n).isSome=true then Gh (El b (ns.take i) tr n) (thT b (tr j) n,2 ^ j) else El b (ns.take i) tr n:=by
 unfold El hvL
 rw[Fs h]
 split
 .rw[ar,iC];rfl
 .rw[bS]
theorem ad8 {ns:List Nat}{tr:Nat->Tr}{n:Str}{b:Bool}(o:∀j∈ns,Cb (tr j)):(∀g∈El b ns tr n,okC g.1)/\(El b ns tr n).length<=ns.length:=by
 unfold El
 refine⟨a34 λq hq=>?_,a9 (Uh _) ?_⟩
 .obtain⟨j,hj,rfl⟩:=List.mem_map.mp (List.mem_reverse.mp hq)
  obtain⟨a,c⟩:=List.mem_filter.mp hj
  exact Xu (o j a) b c
 .rw[bx,ae];exact cI _ _
theorem a86 {ns:List Nat}{tr:Nat->Tr}{n:Str}{b:Bool}{j:Nat}(h:∀m∈ns,m<j):∀g∈El b ns tr n,g.2<2 ^ j:=λg hg=>iR _ λm hm=>by
 rw[Bool.eq_false_iff]
 intro c
 unfold El at hg
 obtain⟨p,hp,_,q⟩:=(Fc hg m).mp c
 obtain⟨i,hi,rfl⟩:=List.mem_map.mp (List.mem_reverse.mp hp)
 rw[ce,decide_eq_true_iff] at q
 have:=h i (List.mem_filter.mp hi).1
 omega
theorem bs6(Z:An K t):OkD K a63 (Az K t) bl (t.f 36) (t.d 36) (Xr K t):=by
 refine A7 (b56 K t) λvs H Q E h=>?_
 .obtain⟨F,n,b,ns,g,tr,rfl,hF,asc,b256,k⟩:=h;refine⟨rfl,?_⟩
  have big:(1000:Nat)<sizeLine:=by decide
  obtain⟨nd,l256⟩:=Uw asc b256
  refine⟨(show 0<=sizeLine by decide),λD hD=>?_⟩
  have S0:=Same.upd (o:=.lst []) hD
  have p0:PrsAt (upd H D (.lst [])) D []:=P3
  show Ae _ _ _ _ (upd H D (.lst []))
  generalize upd H D (.lst [])=H0 at S0 p0 ⊢
  have ek:(ns.map (kF g)).map (·.1)=(ns.map λn:Nat=>(n:Int)).map js:=by rw[Kg,aw];rfl
  refine .inr ⟨rfl,.inr ⟨F,ns.map λn:Nat=>(n:Int),_,rfl,.inl (S0 _ _ hF.at_),ek,fH _ (λa b h=>by omega) asc,by rw[ae];omega,λL hL=>?_⟩⟩
  rw[<- Ic]
  have S1:=Same.upd (o:=nO ns) hL
  have e1:upd H0 L (nO ns) L=some (nO ns):=Ab
  have p1:=p0.up S1
  have nDL:L≠D:=λz=>by obtain⟨_,_,e,_⟩:=p0;rw[z,e] at hL;cases hL
  refine .inl ⟨⟨_,SqL.of e1⟩,?_⟩
  have S01:=S0.trans S1
  show Gx (Itl K L) _ _ _ [some (.ref F),some (.str n),some (.bl b),some (.ref D),none,none,none] _
  generalize upd H0 L (nO ns)=H1 at e1 p1 S01 ⊢
  refine Bc (A5 (ns.map λn:Nat=>V.int (n:Int))) (λi U H'=>(∃v4 v5 v6,U=[some (.ref F),some (.str n),some (.bl b),some (.ref D),v4,v5,v6])/\Same H H'/\H' L=some (nO ns)/\PrsAt H' D (El b (ns.take i) tr n)) ⟨⟨_,_,_,rfl⟩,S01,e1,p1⟩ (λ_ _ H' _ q=>SqL.of q.2.2.1) ?_ ?_
  .rintro i x U H2 hx ⟨⟨v4,v5,v6,rfl⟩,S2,e2,p2⟩
   obtain⟨j,hj,rfl⟩:=Am hx
   have hjn:=ak hj
   have il:=Aj hj
   have ds:=ad9 (b:=b) (tr:=tr) (n:=n) hj
   obtain⟨xs,q1,q2⟩:=FoundAt.dg (K:=K) (.inl (S2 _ _ hF.at_)) nd hjn
   obtain⟨es,ed,et,he⟩:=hF.dic S2 hjn
   refine⟨xs,_,q1,q2,.inr ⟨_,.inl ⟨_,.inr n,.inl ed,rfl,rfl⟩,?_⟩⟩
   have oj:=(hF.one j hjn).2
   rcases Qn et oj n with ⟨a,c⟩|⟨e,hem,a,c⟩
   .rw[a]
    rw[c,if_neg (by decide)] at ds
    exact⟨⟨_,_,_,rfl⟩,S2,e2,by rw[ds];exact p2⟩
   .rw[a]
    rw[c,if_pos (show (some (rcT e.1.2)).isSome=true from rfl)] at ds
    have cs:(stT (tr j) n).isSome=true:=by rw[c];rfl
    obtain⟨_,x,u,ex,el,ea,tu⟩:=aq0 (H:=H2) (v:=.ref e.2) cs (by rw[c];exact⟨⟨_,rfl⟩,(he e hem).tk⟩)
    cases ex
    have tk:∀m∈ns.take i,m∈ns:=λm hm=>dW hm
    obtain⟨ok,len⟩:=ad8 (b:=b) (n:=n) (ns:=ns.take i) (tr:=tr) λm hm=>(hF.one m (tk m hm)).2
    rw[aC] at len
    have fin:∀(H5:Hp)(v:V)(Dd:Outs),Same H2 H5->TkAt H5 (thT b (tr j) n) v->(∀H' u,Same H H'->H' L=some (nO ns)->PrsAt H' D (El b (ns.take (i+1)) tr n)->Dd.nx [some (.ref F),some (.str n),some (.bl b),some (.ref D),some (.int (j:Int)),some v,u] H') -> ∀v6,Ce K t Dd [some (.ref F),some (.str n),some (.bl b),some (.ref D),some (.int (j:Int)),some v,v6] H5:=λH5 v Dd S5 tv q v6=>
     bm2 (p2.up S5) (af1 _) ok (a86 (Kt asc hj)) (by omega) (Xu oj b cs) tv (b256 j hjn) λH6 u off p6=>q H6 u (λa o ea=>off a o (λz=>by rw[z,hD] at ea;cases ea) (S5 _ _ (S2 _ _ ea))) (off _ _ nDL (S5 _ _ e2)) (by rw[ds];exact p6)
    refine⟨xs,_,q1,q2,.ref e.2,.inl ⟨_,.inr n,.inl ed,rfl,a.symm⟩,.inr ⟨_,SqT.of ea,λz=>absurd z.2 (show ¬ HT.sIx 4 4 (some 3)=4 by decide),λT hT=>?_⟩⟩
    have ST:=Same.upd (o:=.tup [.str x.k,.str x.p,.int x.r]) hT
    have eT:upd H2 T (.tup [.str x.k,.str x.p,.int x.r]) T=some (.tup [.str x.k,.str x.p,.int x.r]):=Ab
    show Ae _ _ _ _ (upd H2 T (.tup [.str x.k,.str x.p,.int x.r]))
    generalize upd H2 T (.tup [.str x.k,.str x.p,.int x.r])=H5 at ST eT ⊢
    cases b with
    |false=>
     refine fin H5 (.ref T) _ ST ?_ ?_ _
     .unfold thT
      rw[el]
      unfold TkAt
      exact⟨T,_,rfl,eT,by unfold Ao;exact⟨_,_,rfl,by unfold TkAt;rfl,by unfold Ao;exact⟨_,_,rfl,by unfold TkAt;rfl,by unfold Ao;exact⟨_,_,rfl,by unfold TkAt;rfl,by unfold Ao;rfl⟩⟩⟩⟩
     .exact λH' u a1 a2 a3=>⟨⟨_,_,_,rfl⟩,a1,a2,a3⟩
    |true=>
     obtain⟨xs,q1,q2⟩:=FoundAt.dg (K:=K) (.inl (ST _ _ (S2 _ _ hF.at_))) nd hjn
     refine⟨xs,_,q1,q2,.ref e.2,.inl ⟨_,.inr n,.inl (ST _ _ ed),rfl,a.symm⟩,_,u,.inr (SqT.of (ST _ _ ea)),rfl,?_⟩
     refine fin H5 u _ ST ?_ ?_ _
     .unfold thT
      rw[el]
      exact tu.up (NL.same ST).tup
     .exact λH' u a1 a2 a3=>⟨⟨_,_,_,rfl⟩,a1,a2,a3⟩
  .rintro U H2 ⟨⟨v4,v5,v6,rfl⟩,S2,e2,p2⟩
   rw[ae,aA] at p2
   exact .inl (k H2 D S2 p2)
theorem Se:∀ {es:List (Mk×V×Addr)},(∀e∈es,H e.2.2=some (.tup [.int (e.1.2:Int),e.2.1])/\TkAt H e.1.1 e.2.1)->AtL K H (es.map λe=>.tup [.at_ (.int (e.1.2:Int)),tkD e.1.1]) (es.map λe=>V.ref e.2.2)
 |[],_=>by rw[eG];unfold AtL;rfl
 | e::es,h=>by
  rw[aS]
  unfold AtL
  refine⟨_,_,rfl,?_,Se λx hx=>h x (ax _ hx)⟩
  unfold At
  refine⟨_,_,rfl,SqT.of (h e aJ).1,?_⟩
  unfold AtL
  refine⟨_,_,rfl,by unfold At;exact⟨rfl,rfl⟩,?_⟩
  unfold AtL
  exact⟨_,_,rfl,V5 _ (h e aJ).2,by unfold AtL;rfl⟩
theorem PrsAt.tree(h:PrsAt H a gs):At K H (.lst (gs.map λg=>.tup [.at_ (.int (g.2:Int)),tkD g.1])) (.ref a):=by
 obtain⟨es,rfl,ea,he⟩:=h
 unfold At
 rw[aw]
 exact⟨a,_,rfl,SqL.of ea,Se he⟩
theorem bd5(Z:An K t):OkD K Z3 (Az K t) bl (t.f 37) (t.d 37) (Qg K t):=by
 refine A7 (by5 K t) λvs H Q E h=>?_
 .obtain⟨a,d,gs,rfl,ha,hd,few,ok,k⟩:=h;refine⟨rfl,?_⟩
  have big:(1000:Nat)<sizeLine:=by decide
  obtain⟨es,ee,ea,he⟩:=id ha
  refine⟨_,true,.sqL rfl (SqL.of ea) rfl,rfl,.inr (.inl ⟨_,_,ha.tree,hd.tree,?_,?_⟩)⟩
  .unfold dep
   refine Nat.succ_le_of_lt (bb (J6 (n:=3) λx hx=>?_) (by decide))
   obtain⟨g,hg,rfl⟩:=List.mem_map.mp hx
   unfold dep
   refine cz (J6 λy hy=>?_)
   simp only[aO,cS,or_false] at hy
   rcases hy with rfl|rfl
   .unfold dep;omega
   .rw[Xv];exact (ok g hg).1
  .rw[E8 (ha.tree (K:=K))]
   refine .inl ⟨⟨_,SqL.of ea⟩,?_⟩
   refine Bc (A5 (es.map λe=>V.ref e.2.2)) (λi U H'=>(∃v2,U=[some (.ref a),some (.ref d),v2])/\H'=H) ⟨⟨_,rfl⟩,rfl⟩ (λ_ _ H' _ q=>q.2▸SqL.of ea) ?_ ?_
   .rintro i x U H1 hx ⟨⟨v2,rfl⟩,rfl⟩
    obtain⟨e,hi,rfl⟩:=Am hx
    have h1:=(he e (ak hi)).1
    exact⟨_,true,.sqT rfl (SqT.of h1) rfl,rfl,_,_,.inr (SqT.of h1),rfl,_,rfl,⟨_,rfl⟩,rfl⟩
   .rintro U H1 ⟨⟨v2,rfl⟩,rfl⟩
    exact .inl ⟨.inl ⟨rfl,_,SqL.of ea⟩,a,_,rfl,rfl,ea,k _ λx o ne e=>by rw[Ad ne];exact e⟩
end
section
theorem Nx {H:Hp}{F:Addr}{ns:List Nat}{g:Nat->Addr}{tr:Nat->Tr}{n:Str}{te:DE}{E:EK}{R:Addr->Hp->Prop}(f:Nat->Int)(hF:FoundAt H F ns g tr)(nd:ns.Nodup)(l256:ns.length<=256)(ht:∀j∈ns,∀(H1:Hp)(Q:VK),Q (.int (f j)) H1->te [some (.int (j:Int)),some (.ref F),some (.str n)] H1 Q E)(k:∀H' L,Same H H'->H' L=some (.lst (((hvL ns tr n).map f).map V.int))->R L H') :
  onD F H λo kvs H2=>∀L,H2 L=none->Dx (Itd F o kvs) (gdN 0) (Bf (Ah (Jo K false) (Aa 2) (Ah (Ax K) (Aa 1) (Aa 0)))) te L (λH'=>Thaw H H' (R L)) [none,some (.ref F),some (.str n)] (upd H2 L (.lst [])) E:=by
 have big:(1000:Nat)<sizeLine:=by decide
 refine .inl ⟨_,hF.at_,λo L hL=>?_⟩
 have e4:=hF.at_
 have ef:upd H F (.frz o (.dK (ns.map (kF g)))) F=some (.frz o (.dK (ns.map (kF g)))):=Ab
 have off:∀a u,a≠F->H a=some u->upd H F (.frz o (.dK (ns.map (kF g)))) a=some u:=λa u n e=>by rw[Ad n];exact e
 have th:∀H',Same (upd H F (.frz o (.dK (ns.map (kF g))))) H'->Same H (upd H' F (.dK (ns.map (kF g)))):=λH' S=>Same.thaw e4 S
 generalize upd H F (.frz o (.dK (ns.map (kF g))))=Hf at ef off th hL ⊢
 have nLF:L≠F:=λz=>by rw[z,ef] at hL;cases hL
 refine C7 (Ew (ns.map (kF g))) (λi U' H'=>(∃v0,U'=[v0,some (.ref F),some (.str n)])/\Same Hf H'/\H' L=some (.lst ((((ns.take i).filter λj=>(stT (tr j) n).isSome).map f).map V.int))) ⟨⟨_,rfl⟩,Same.upd hL,Ab⟩ (λ_ _ H' _ q=>q.2.1 _ _ ef) ?_ ?_
 .rintro i y U' H5 hy ⟨⟨v0,rfl⟩,S5,e5⟩
  rw[aw] at hy
  obtain⟨j,hj,rfl⟩:=Am hy
  have hjn:=ak hj
  obtain⟨es,ed,et,he⟩:=hF.dic (Same.refl _) hjn
  have nF:g j≠F:=λz=>by
   rw[z,e4] at ed
   injection ed with ed
   injection ed with ed
   have h1:=congrArg (·[i]?) ed
   simp only[al,hj] at h1
   cases e:es[i]? with
   |none=>rw[e] at h1;cases h1
   |some u=>rw[e] at h1;cases h1
  have edf:=S5 _ _ (off _ _ nF ed)
  obtain⟨xs,p1,p2⟩:=FoundAt.dg (K:=K) (.inr ⟨o,S5 _ _ ef⟩) nd hjn
  refine⟨xs,_,p1,p2,.inr ⟨_,.inl ⟨_,.inr n,.inl edf,rfl,rfl⟩,?_⟩⟩
  have fs:=Fs (p:=λj=>(stT (tr j) n).isSome) hj
  have fl:=Rq ns i λj=>(stT (tr j) n).isSome
  rcases Qn et (hF.one j hjn).2 n with ⟨a,c⟩|⟨e,_,a,c⟩
  .rw[a]
   rw[c,if_neg (by decide),bS] at fs
   exact⟨⟨_,rfl⟩,S5,by rw[fs];exact e5⟩
  .rw[a]
   rw[c,if_pos (show (some (rcT e.1.2)).isSome=true from rfl)] at fs
   exact ht j hjn H5 _ ⟨_,e5,by rw[ae,ae];omega,⟨_,rfl⟩,S5.set hL,by rw[Ab,fs,ar,ar];rfl⟩
 .rintro U' H5 ⟨_,S5,e5⟩
  rw[ae,ae,aA] at e5
  exact .inr ⟨F,o,_,e4,S5 _ _ ef,k _ L (th _ S5) (by rw[Ad nLF];exact e5)⟩
theorem FoundAt.up(h:FoundAt H F ns g tr)(S:Same H H'):FoundAt H' F ns g tr:=⟨S _ _ h.at_,λm hm=>⟨(h.one m hm).1.up S,(h.one m hm).2⟩,h.few⟩
theorem bt9(Z:An K t):OkD K a70 (Az K t) bl (t.f 38) (t.d 38) (ap7 K t):=by
 refine A7 (b69 K t) λvs H Q E h=>?_
 .obtain⟨b,F,n,sw,ζ,gs,ns,g,tr,rfl,hb,S,hF,ne,k⟩:=h;refine⟨rfl,?_⟩
  have b256:∀m∈ns,m<256:=λm hm=>(S.ok m hm).2
  obtain⟨nd,l256⟩:=Uw S.asc b256
  refine .inr (.inr (.inl ?_))
  refine Nx (n:=n) (te:=Ah Jh (dC (.int 1)) (Aa 0)) (λj=>1 * 2 ^ ((j:Int)).toNat) hF nd l256 (λj hj H1 Q1 q=>⟨⟨by omega,by have:=b256 j hj;omega,by decide⟩,q⟩) ?_
  intro H1 L S1 eL
  refine⟨L,_,rfl,SqL.of eL,?_⟩
  rw[Tb,a11 (l:=hvL ns tr n) (S.asc.sublist List.filter_sublist)]
  have hb1:=hb.up S1
  have bk:∀ {H'},Same H H' -> ∃dx p l,H' b=some (.ins t.c_zbw dx [("panel", .ref p),("kept", .ref l)]):=λS'=>let ⟨dx,p,l,e,_⟩:=hb;⟨dx,p,l,S' _ _ e⟩
  obtain⟨dx,_,_,eb⟩:=bk S1
  refine⟨b,dx,_,⟨t.c_zbw,af4 K t⟩,rfl,.head _,eb,rfl,⟨ag _,ag _⟩,⟨b,n,sw,ζ,gs,ns,tr,rfl,hb1,S,.inl ⟨ne,λH2 S2=>?_⟩⟩⟩
  refine⟨_,rfl,F8 (by show (!decide (_=_))=false;rw[decide_eq_true rfl];rfl) ?_⟩
  refine⟨⟨by omega,by omega⟩,?_⟩
  have S02:=S1.trans S2
  refine Bc (Bo 0 2) (λi U H'=>(∃v5,U=[some (.ref b),some (.ref F),some (.str n),some (.int (Jp (hvL ns tr n):Nat)),some (.int (Jp (hvL ns tr n):Nat)),v5])/\Same H H') ⟨⟨_,rfl⟩,S02⟩ (λ_ _ _ _ _=>aQ) ?_ ?_
  .rintro i x U H3 hx ⟨⟨v5,rfl⟩,S3⟩
   have one:∀ {x:Bool} {H3 H4 H5 H6:Hp} {D D5:Addr},Same H3 H4->H3 D=none->Same H4 H5->(∀x o,x≠D->H5 x=some o->H6 x=some o)->Same H3 H6:=λS4 h4 S5 off a o e=>off a o (λz=>by rw[z,h4] at e;cases e) (S5 _ _ (S4 _ _ e))
   have due:∀x,(El x ns tr n).length<=256/\∀g∈El x ns tr n,okC g.1:=λx=>let ⟨a,c⟩:=ad8 (b:=x) (n:=n) λj hj=>(S.ok j hj).1;⟨by omega,a⟩
   obtain⟨dx3,_,_,eb3⟩:=bk S3
   refine⟨b,dx3,_,⟨t.c_zbw,a99 K t⟩,rfl,.head _,eb3,rfl,⟨ag _,ag _⟩,⟨b,n,sw,ζ,gs,ns,tr,rfl,hb.up S3,S,.inl ⟨ne,λH4 D4 S4 h4 p4=>?_⟩⟩⟩
   refine⟨F,n,false,ns,g,tr,rfl,hF.up (S3.trans S4),S.asc,b256,λH5 D5 S5 p5=>?_⟩
   refine⟨D4,D5,_,rfl,p4.up S5,p5,(due false).1,(due false).2,λH6 off=>?_⟩
   have S6:=S3.trans (one (x:=true) (D5:=D5) S4 h4 S5 off)
   obtain⟨dx6,_,_,eb6⟩:=bk S6
   refine⟨b,dx6,_,⟨t.c_zbw,a97 K t⟩,rfl,.head _,eb6,rfl,⟨ag _,ag _⟩,⟨b,n,sw,ζ,gs,ns,tr,rfl,hb.up S6,S,.inl ⟨ne,λH7 D7 S7 h7 p7=>?_⟩⟩⟩
   refine⟨F,n,true,ns,g,tr,rfl,hF.up (S6.trans S7),S.asc,b256,λH8 D8 S8 p8=>?_⟩
   refine⟨D7,D8,_,rfl,p7.up S8,p8,(due true).1,(due true).2,λH9 off9=>?_⟩
   exact⟨⟨_,rfl⟩,S6.trans (one (x:=true) (D5:=D8) S7 h7 S8 off9)⟩
  .rintro U H3 ⟨⟨v5,rfl⟩,S3⟩
   exact .inl (k H3 S3)
theorem FxAt.ex(f:FxAt C H a fs):ExcAt H a C fs:=by
 obtain⟨dx,ne,e1,e2⟩:=f
 exact .inr ⟨dx,ne,.inr (.inl e1),e2⟩
theorem Op:∀ {vs:List V},(∀v∈vs,B1 v=true)->AtL K H (vs.map Dt.at_) vs
 |[],_=>by rw[eG];unfold AtL;rfl
 |v::vs,h=>by rw[aS];unfold AtL;exact⟨_,_,rfl,by unfold At;exact⟨rfl,h v aJ⟩,Op λu hu=>h u (ax _ hu)⟩
theorem Kw(e:H a=some (.tup [.str n,.non,.bl true,.bl false])):At K H (.tup (([.str n,.non,.bl true,.bl false]:List V).map Dt.at_)) (.ref a):=by
 unfold At
 refine⟨a,_,rfl,SqT.of e,Op λv hv=>?_⟩
 simp only[aO,cS,or_false] at hv
 rcases hv with rfl|rfl|rfl|rfl <;> rfl
theorem bt8(Z:An K t):OkD K a69 (Az K t) bl (t.f 39) (t.d 39) (ap6 K t):=by
 refine A7 (b68 K t) λvs H Q E h=>?_
 .obtain⟨b,n,w,sw,ζ,gs,ns,tr,rfl,hw,hb,S,no,k⟩:=h;refine⟨rfl,?_⟩
  obtain⟨dx,_,_,eb,_⟩:=id hb
  have fin:∀(H2 H3:Hp)(T T2:Addr),Same H H2->H2 T=some (.tup [.str n,.non,.bl true,.bl false])->H2 T2=none->Bz K false (.ref T) (.ref T2) (upd H2 T2 (.tup [.str n,.non,.bl true,.bl false])) Q:=λH2 H3 T T2 S2 eT hT2=>by
   have e1:=(Same.upd (o:=.tup [.str n,.non,.bl true,.bl false]) hT2) _ _ eT
   refine .inr (.inl ⟨_,_,Kw e1,Kw Ab,?_,?_⟩)
   .unfold dep
    refine Nat.succ_le_of_lt (bb (J6 (n:=0) λx hx=>?_) (by decide))
    obtain⟨v,_,rfl⟩:=List.mem_map.mp hx
    unfold dep
    exact ag _
   .rw[E8 (Kw (K:=K) e1)]
    exact k _ (S2.trans (Same.upd hT2))
  have w3:w=0\/w=1\/w=2:=by omega
  rcases w3 with rfl|rfl|rfl
  .refine⟨b,dx,_,⟨t.c_zbw,af4 K t⟩,rfl,.head _,eb,rfl,⟨ag _,ag _⟩,⟨b,n,sw,ζ,gs,ns,tr,rfl,hb,S,.inr ⟨no,λH1 a S1 f=>?_⟩⟩⟩
   obtain⟨dx,ne,e1,e2⟩:=id f
   exact⟨a,rfl,t.c_zbt,some dx,.inl e1,Z.ec,true,Z.me,mI ⟨t.c_zbt,_,.str n,f.ex,Z.ec,Z.n1,rfl,mI ⟨t.c_zbt,_,.non,f.ex,Z.ec,Z.n2,rfl,.inl ⟨.ref t.c_zbt,true,.exc rfl f.ex Z.ec rfl,Z.k1,.inl ⟨.ref t.c_zbt,false,.exc rfl f.ex Z.ec rfl,Z.k2,(show 4<=sizeLine by decide),λT hT=>⟨(show 4<=sizeLine by decide),λT2 hT2=>fin _ H T T2 (S1.trans (Same.upd hT)) Ab hT2⟩⟩⟩⟩⟩⟩
  .refine⟨b,dx,_,⟨t.c_zbw,a99 K t⟩,rfl,.head _,eb,rfl,⟨ag _,ag _⟩,⟨b,n,sw,ζ,gs,ns,tr,rfl,hb,S,.inr ⟨no,λH1 a S1 f=>?_⟩⟩⟩
   obtain⟨dx,ne,e1,e2⟩:=id f
   exact⟨a,rfl,t.c_zbt,some dx,.inl e1,Z.ec,true,Z.me,mI ⟨t.c_zbt,_,.str n,f.ex,Z.ec,Z.n1,rfl,mI ⟨t.c_zbt,_,.non,f.ex,Z.ec,Z.n2,rfl,.inl ⟨.ref t.c_zbt,true,.exc rfl f.ex Z.ec rfl,Z.k1,.inl ⟨.ref t.c_zbt,false,.exc rfl f.ex Z.ec rfl,Z.k2,(show 4<=sizeLine by decide),λT hT=>⟨(show 4<=sizeLine by decide),λT2 hT2=>fin _ H T T2 (S1.trans (Same.upd hT)) Ab hT2⟩⟩⟩⟩⟩⟩
  .refine⟨b,dx,_,⟨t.c_zbw,a97 K t⟩,rfl,.head _,eb,rfl,⟨ag _,ag _⟩,⟨b,n,sw,ζ,gs,ns,tr,rfl,hb,S,.inr ⟨no,λH1 a S1 f=>?_⟩⟩⟩
   obtain⟨dx,ne,e1,e2⟩:=id f
   exact⟨a,rfl,t.c_zbt,some dx,.inl e1,Z.ec,true,Z.me,mI ⟨t.c_zbt,_,.str n,f.ex,Z.ec,Z.n1,rfl,mI ⟨t.c_zbt,_,.non,f.ex,Z.ec,Z.n2,rfl,.inl ⟨.ref t.c_zbt,true,.exc rfl f.ex Z.ec rfl,Z.k1,.inl ⟨.ref t.c_zbt,false,.exc rfl f.ex Z.ec rfl,Z.k2,(show 4<=sizeLine by decide),λT hT=>⟨(show 4<=sizeLine by decide),λT2 hT2=>fin _ H T T2 (S1.trans (Same.upd hT)) Ab hT2⟩⟩⟩⟩⟩⟩
theorem FoundAt.nb(h:FoundAt H F ns g tr)(n:NB H H'):FoundAt H' F ns g tr:=
 ⟨n _ _ (λ_ z=>by cases z) h.at_,λm hm=>let ⟨⟨es,a,⟨_,b⟩,c⟩,o⟩:=h.one m hm;⟨⟨es,a,⟨trivial,n _ _ (λ_ z=>by cases z) b⟩,λx hx=>(c x hx).up λ_ _=>n.tu⟩,o⟩,h.few⟩
theorem bf5(Z:An K t):OkD K D_zbk (Az K t) bl (t.f 40) (t.d 40) (Qm K t):=by
 refine A7 (b05 K t) λvs H Q E h=>?_
 .obtain⟨a,ns,rfl,hS,l63,hst,k⟩:=h;refine⟨rfl,?_⟩
  have big:(1000:Nat)<sizeLine:=by decide
  refine⟨a,ns,0,rfl,hS,by decide,a,ns,_,rfl,hS,λH1 LL W nm F sw ζ l kk f ws g tr S1 eL enm ⟨w1,w8,w12⟩ hW hF=>?_⟩
  refine⟨_,.inr (SqL.of eL),rfl,?_⟩
  obtain⟨hP,ob,u,hB,b1,b2,b3⟩:=hst
  refine⟨W,F,l,kk,f,sw,ζ,g,tr,rfl,⟨S1 _ _ hP,ob,u,S1 _ _ hB,b1,b2,b3⟩,hW,hF,λH2 b O2 hB2=>?_⟩
  have nb2:=NB.of O2 (S1 _ _ hP)
  have few:=hW.ok.len
  have asc:=K8 sw ζ
  have hF2:=hF.nb nb2
  have enm2:=nb2 _ _ (λ_ z=>by cases z) enm
  have fl:∀n∈Aw sw ζ,n<(Al sw).length:=λn hn=>(Fb hn).1
  have bk:Bk (Aw sw ζ) tr (B3 (λn=>vkT (tr n)) (Aw sw ζ)):=⟨rfl,asc,λn hn=>⟨(hF.one n hn).2,aP (fl n hn) few⟩,by have:=Wz asc hF.few (Aw sw ζ).length;rwa[aA] at this⟩
  generalize B3 (λn=>vkT (tr n)) (Aw sw ζ)=gs at hB2 bk
  obtain⟨nd,l256⟩:=Uw asc λm hm=>(bk.ok m hm).2
  obtain⟨w0,wr,ew⟩:∃w0 wr,ws=w0::wr:=by
   cases ws with
   |nil=>exact absurd w1 (by decide)
   |cons a b=>exact⟨a,b,rfl⟩
  have l0:=w12 w0 (by rw[ew];exact aJ)
  have at0:atI (ws.map V.str) 0=some (.str w0):=by rw[ew];exact Bw (j:=0) rfl
  refine⟨_,_,.inl (SqL.of enm2),at0,_,_,.inl (SqL.of enm2),at0,by omega,?_⟩
  obtain⟨z,hz,lz⟩:∃z:Str,((if decide ((w0.length:Int)<12) then (1:Int) else 0)=0/\z=h_\/(if decide ((w0.length:Int)<12) then (1:Int) else 0)=1/\z="x")/\z.length<=1:=by
   by_cases c:(w0.length:Int)<12
   .exact⟨"x", .inr ⟨by rw[decide_eq_true c];rfl,rfl⟩,by decide +kernel⟩
   .exact⟨h_,.inl ⟨by rw[decide_eq_false c];rfl,rfl⟩,by decide⟩
  refine⟨z,hz,by omega,(show 2<=sizeLine by decide),λq hq=>?_⟩
  have S6:=Same.upd (o:=Bb ["", w0++z]) hq
  have e6:upd H2 q (Bb ["", w0++z]) q=some (Bb ["", w0++z]):=Ab
  have e6n:=S6 _ _ enm2
  show Ae _ _ _ _ (upd H2 q (Bb ["", w0++z]))
  generalize upd H2 q (Bb ["", w0++z])=H6 at S6 e6 e6n ⊢
  refine .inl ⟨nm,q,_,_,rfl,rfl,e6n,e6,by rw[ae];show ws.length+2<=_;omega,λM hM=>?_⟩
  rw[<- ar]
  have S7:=S6.trans (Same.upd (o:=Bb (ws++[("" : Str),w0++z])) hM)
  have e7:upd H6 M (Bb (ws++[("" : Str),w0++z])) M=some (Bb (ws++[("" : Str),w0++z])):=Ab
  refine .inl ⟨⟨_,SqL.of e7⟩,?_⟩
  show Gx (Itl K M) _ _ _ [some (.ref a),some (.ref W),some (.ref nm),some (.ref F),some (.ref b),some (.ref q),none,none] _
  generalize upd H6 M (Bb (ws++[("" : Str),w0++z]))=H7 at S7 e7 ⊢
  refine Bc (A5 ((ws++[("" : Str),w0++z]).map V.str)) (λi U H'=>(∃v6 v7,U=[some (.ref a),some (.ref W),some (.ref nm),some (.ref F),some (.ref b),some (.ref q),v6,v7])/\Same H7 H') ⟨⟨_,_,rfl⟩,Same.refl _⟩ (λ_ _ H' _ q=>q.2.seqL (SqL.of e7)) ?_ ?_
  .rintro i x U H8 hx ⟨⟨v6,v7,rfl⟩,S8⟩
   obtain⟨n,hn,rfl⟩:=Am hx
   have S28:=S7.trans S8
   refine .inr (.inr (.inl ?_))
   refine Nx (n:=n) (te:=Aa 0) (λj=>(j:Int)) (hF2.up S28) nd l256 (λj hj H1 Q1 q=>q) ?_
   intro H9 L S9 eL
   refine⟨(show 0<=sizeLine by decide),λp hp=>.inl ⟨L,p,_,_,rfl,rfl,SqL.of ((Same.upd hp) _ _ eL),SqL.of Ab,by rw[<- Ic];exact Ia _,rfl,?_⟩⟩
   have S10:=S8.trans (S9.trans (Same.upd (o:=.lst []) hp))
   generalize upd H9 p (.lst [])=H10 at S10 ⊢
   have S20:=S7.trans S10
   cases hv:hvL (Aw sw ζ) tr n with
   |nil=>
    refine⟨⟨by omega,by omega⟩,?_⟩
    refine Bc (Bo 0 3) (λi U H'=>(∃v7,U=[some (.ref a),some (.ref W),some (.ref nm),some (.ref F),some (.ref b),some (.ref q),some (.str n),v7])/\Same H7 H') ⟨⟨_,rfl⟩,S10⟩ (λ_ _ _ _ _=>aQ) ?_ ?_
    .rintro m x U H11 hx ⟨⟨v7,rfl⟩,S11⟩
     obtain⟨hm,rfl⟩:=Cw hx
     exact⟨b,n,m,sw,ζ,gs,Aw sw ζ,tr,rfl,hm,hB2.up (S7.trans S11),bk,hv,λH12 S12=>⟨⟨_,rfl⟩,S11.trans S12⟩⟩
    .rintro U H11 ⟨⟨v7,rfl⟩,S11⟩
     exact .inl ⟨⟨_,_,rfl⟩,S11⟩
   |cons x r=>exact⟨b,F,n,sw,ζ,gs,Aw sw ζ,g,tr,rfl,hB2.up S20,bk,hF2.up S20,by rw[hv];exact List.cons_ne_nil _ _,λH11 S11=>⟨⟨_,_,rfl⟩,S10.trans S11⟩⟩
  .rintro U H8 ⟨_,S8⟩
   exact .inl (k H8)
end
end K32
namespace K32
open PySem L2
noncomputable def bm8:List Df:=[aa2,aa9,Z6,a65,Z7,Z5,Zy,Zx,Z9,aa4,a68,aa5,Z2,a71,aa3,ab0,a66,D_zay,Z1,aa0,aa6,Zw,Zz,aa8,a61,a67,Z0,a64,a60,a59,ab1,a62,Z4,aa1,aa7,Z8,a63,Z3,a70,a69,D_zbk]
noncomputable def ag9:List Df:=[as3,as9,Wj,Wk,at2,at3,as5]
noncomputable def ah0:List Df:=[as7,at1,as6,Wf]
noncomputable def ag8:List Df:=[as1,as8,Wi,Wg,as4,as2,Wh]
structure a26 (K:ac) (mg:Str->Option Value) (t:Adr):Prop where
 g:AllG K mg t.f t.d 0 bm8
 o_zbv:Ra K "Plain" t.c_zbv t.f_zae
 m_zbv:AllM K t.c_zbv t.m_zbv t.e_zbv 0 ag9
 o_zbw:Ra K "Book" t.c_zbw t.f_zai
 m_zbw:AllM K t.c_zbw t.m_zbw t.e_zbw 0 ah0
 o_zbu:Ra K "Panel" t.c_zbu t.f_zab
 m_zbu:AllM K t.c_zbu t.m_zbu t.e_zbu 0 ag8
 i_zae:Jk K D_zae t.f_zae t.d_zae [] []
 i_zai:Jk K D_zai t.f_zai t.d_zai [] []
 i_zab:Jk K D_zab t.f_zab t.d_zab [.non] [.none]
 i_zk:Jk K D_zk t.f_zk t.d_zk [.non] [.none]
 a_zbr:bT K mainGlobals "LeafError"=some (some (.ref t.c_zbr))
 a_zbq:bT K mainGlobals "EditError"=some (some (.ref t.c_zbq))
 x_zbt:a72 K "NoPart" t.c_zbt t.f_zk (.ref t.c_zbq::.ref t.c_zbr::valTail)
 a_zbs:bT K mainGlobals "Doubled"=some (some (.ref t.c_zbs))
 c:AllC mg t.u 0 cons
 z:∀x∈bl,mg x=none
 Z:An K t
theorem bb0 {P:ba}{w:bL}{K:ac}{mg:Str->Option Value}{h base:Heap}{t:Adr}(X:K.In h)(G:h.Ns mainGlobals mg)(A:a26 K mg t):FnOk P w K mg base CX0 11 (t.f 40) (t.d 40) D_zbk.ps (Qm K t):=by
 have Z:=A.Z
 have g:∀(j:Nat) {D:Df},bm8[j]?=some D->DOk K mg D.q D.st (t.f (0+j)) (t.d (0+j)) D.ps:=λj _ e=>(A.g.get j e).1
 have O:Zr P w K mg base (Az K t) bl t.f t.d 0 (fns K t):=⟨(be5 Z).g (g 0 rfl),(bf2 Z).g (g 1 rfl),(bd8 Z).g (g 2 rfl),(bt1 Z).g (g 3 rfl),(bd9 Z).g (g 4 rfl),(bd7 Z).g (g 5 rfl),(bc6 Z).g (g 6 rfl),(bc5 Z).g (g 7 rfl),(be1 Z).g (g 8 rfl),(be7 Z).g (g 9 rfl),(bt7 Z).g (g 10 rfl),(be8 Z).g (g 11 rfl),(bd4 Z).g (g 12 rfl),(bu0 Z).g (g 13 rfl),(be6 Z).g (g 14 rfl),(bf3 Z).g (g 15 rfl),(bt2 Z).g (g 16 rfl),(be3 Z).g (g 17 rfl),(bd3 Z).g (g 18 rfl),(be2 Z).g (g 19 rfl),(be9 Z).g (g 20 rfl),(bc4 Z).g (g 21 rfl),(bd1 Z).g (g 22 rfl),(bf1 Z).g (g 23 rfl),(bs0 Z).g (g 24 rfl),(bt6 Z).g (g 25 rfl),(bd2 Z).g (g 26 rfl),(bs9 Z).g (g 27 rfl),(br6 Z).g (g 28 rfl),(br5 Z).g (g 29 rfl),(bf4 Z).g (g 30 rfl),(bs1 Z).g (g 31 rfl),(bd6 Z).g (g 32 rfl),(be4 Z).g (g 33 rfl),(bf0 Z).g (g 34 rfl),(be0 Z).g (g 35 rfl),(bs6 Z).g (g 36 rfl),(bd5 Z).g (g 37 rfl),(bt9 Z).g (g 38 rfl),(bt8 Z).g (g 39 rfl),aQ⟩
 have E:AllE P w K mg base (Az K t) bl (Az K t):=AllE.app ⟨(Ty X G A.o_zbv A.i_zae (bc3 Z)),(Ty X G A.o_zbw A.i_zai (bc7 Z)),(Ty X G A.o_zbu A.i_zab (bc0 Z)),(λ_=>Wc X G A.a_zbr),(λ_=>Wc X G A.a_zbq),(a90 X G A.x_zbt Z.ec A.i_zk (bs5 Z)),(λ_=>Wc X G A.a_zbs),aQ⟩ (AllE.app (Rb A.c) (AllE.app (Gz A.o_zbv.cl A.m_zbv ⟨(br9 Z).m,(bt0 Z).m,(bc9 Z).m,(bd0 Z).m,(bt4 Z).m,(bt5 Z).m,(bs3 Z).m,aQ⟩) (AllE.app (Gz A.o_zbw.cl A.m_zbw ⟨(bs7 Z).m,(bt3 Z).m,(bs4 Z).m,(bb9 Z).m,aQ⟩) (AllE.app (Gz A.o_zbu.cl A.m_zbu ⟨(br7 Z).m,(bs8 Z).m,(bc8 Z).m,(bc1 Z).m,(bs2 Z).m,(br8 Z).m,(bc2 Z).m,aQ⟩) (Wp (AllG.pre (b:=[D_zbk]) A.g) O)))))
 exact bf5 Z _ _ _ _ _ (g 40 rfl).F λm _=>a22 A.z E m
theorem all_mk {l:jU}{w:bL}{K:ac}{h:Heap}{mg:Str->Option Value}{fa c_zbv c_zbw c_zbu c_zbr c_zbq c_zbt c_zbs f_zae f_zai f_zab f_zk f_io:Addr}(X:K.In h)(G:h.Ns mainGlobals mg)(hfa:mg "law"=some (.ref fa))(o_zbv:Ra K "Plain" c_zbv f_zae)(o_zbw:Ra K "Book" c_zbw f_zai)(o_zbu:Ra K "Panel" c_zbu f_zab)(a_zbr:bT K mainGlobals "LeafError"=some (some (.ref c_zbr)))(y_zbr:XC K c_zbr (valTail))(a_zbq:bT K mainGlobals "EditError"=some (some (.ref c_zbq)))(y_zbq:XC K c_zbq (.ref c_zbr::valTail))(x_zbt:a72 K "NoPart" c_zbt f_zk (.ref c_zbq::.ref c_zbr::valTail))(a_zbs:bT K mainGlobals "Doubled"=some (some (.ref c_zbs)))(y_zbs:XC K c_zbs (.ref c_zbq::.ref c_zbr::valTail))(i_zae:∃d,Jk K D_zae f_zae d [] [])(i_zai:∃d,Jk K D_zai f_zai d [] [])(i_zab:∃d,Jk K D_zab f_zab d [.non] [.none])(i_zk:∃d,Jk K D_zk f_zk d [.non] [.none])(nP:AllN K c_zbu ["settings", "tuples", "numbers", "sets", "kept_rules", "bars", "free"])(nL:AllN K c_zbv ["records"])(nB:AllN K c_zbw ["panel", "kept"])(nN:AllN K c_zbt ["part", "choice"])(a_io:bT K mainGlobals "in_order"=some (some (.ref f_io)))(me:gG K c_zbt (.ref c_zbt)=some true)(kx:(aV c_zbt::.ref c_zbq::.ref c_zbr::valTail).contains (.ref c_zbq)=true)(ky:(aV c_zbt::.ref c_zbq::.ref c_zbr::valTail).contains (.ref c_zbs)=false)(lm_io:Lj K f_io=true)(qT:a56 K bm8)(qM_zbv:Q7 K c_zbv ag9)(qM_zbw:Q7 K c_zbw ah0)(qM_zbu:Q7 K c_zbu ag8)(qC:Zt K cons)(qZ:a57 K bl)
  : ∃(t:Adr)(fd:bo),(∀(s:av)(v:Value),lh s fd ⟨[v],[]⟩ [("_law_script", v)])/\∀base:Heap,K.In base->base.Ns mainGlobals mg->FnOk l.prog w K mg base CX0 11 fa fd ["_law_script"] (Qm K t):=by
 obtain⟨_,_,d₀,_⟩:=qT.1
 obtain⟨f,d,g⟩:=Wq d₀ X G 0 qT (by (repeat' first|exact aQ|refine⟨⟨rfl,λ_ _ _ _ _ _ us hl=>?_⟩,?_⟩|fail) <;> first|exact aQ|exact len1 (λ_=>rfl) us hl|exact len2 (λ_ _=>rfl) us hl|exact len3 (λ_ _ _=>rfl) us hl|exact av9 (λ_ _ _ _=>rfl) us hl|exact len5 (λ_ _ _ _ _=>rfl) us hl|exact aw0 (λ_ _ _ _ _ _=>rfl) us hl)
 obtain⟨m_zbv,e_zbv,g_zbv⟩:=J1 d₀ 0 qM_zbv (by (repeat' first|exact aQ|refine⟨λ_ _ _ _ _ _ us hl=>?_,?_⟩|fail) <;> first|exact aQ|exact len1 (λ_=>rfl) us hl|exact len2 (λ_ _=>rfl) us hl|exact len3 (λ_ _ _=>rfl) us hl|exact av9 (λ_ _ _ _=>rfl) us hl|exact len5 (λ_ _ _ _ _=>rfl) us hl|exact aw0 (λ_ _ _ _ _ _=>rfl) us hl)
 obtain⟨m_zbw,e_zbw,g_zbw⟩:=J1 d₀ 0 qM_zbw (by (repeat' first|exact aQ|refine⟨λ_ _ _ _ _ _ us hl=>?_,?_⟩|fail) <;> first|exact aQ|exact len1 (λ_=>rfl) us hl|exact len2 (λ_ _=>rfl) us hl|exact len3 (λ_ _ _=>rfl) us hl|exact av9 (λ_ _ _ _=>rfl) us hl|exact len5 (λ_ _ _ _ _=>rfl) us hl|exact aw0 (λ_ _ _ _ _ _=>rfl) us hl)
 obtain⟨m_zbu,e_zbu,g_zbu⟩:=J1 d₀ 0 qM_zbu (by (repeat' first|exact aQ|refine⟨λ_ _ _ _ _ _ us hl=>?_,?_⟩|fail) <;> first|exact aQ|exact len1 (λ_=>rfl) us hl|exact len2 (λ_ _=>rfl) us hl|exact len3 (λ_ _ _=>rfl) us hl|exact av9 (λ_ _ _ _=>rfl) us hl|exact len5 (λ_ _ _ _ _=>rfl) us hl|exact aw0 (λ_ _ _ _ _ _=>rfl) us hl)
 obtain⟨u,gc⟩:=Wo X G 0 qC
 obtain⟨d_zae,i_zae⟩:=i_zae
 obtain⟨d_zai,i_zai⟩:=i_zai
 obtain⟨d_zab,i_zab⟩:=i_zab
 obtain⟨d_zk,i_zk⟩:=i_zk
 have tl_1:∀ {a:Addr},A8 (.ref a::valTail)=true:=λ{a}=>by show A8 valTail=true;decide +kernel
 have tl_2:∀ {a b:Addr},A8 (.ref a::.ref b::valTail)=true:=λ{a b}=>by show A8 valTail=true;decide +kernel
 have AO:a26 K mg ⟨f,d,u,f_zae,d_zae,f_zai,d_zai,f_zab,d_zab,f_zk,d_zk,c_zbv,m_zbv,e_zbv,c_zbw,m_zbw,e_zbw,c_zbu,m_zbu,e_zbu,c_zbr,c_zbq,c_zbt,c_zbs⟩:=⟨g,o_zbv,g_zbv,o_zbw,g_zbw,o_zbu,g_zbu,i_zae,i_zai,i_zab,i_zk,a_zbr,a_zbq,x_zbt,a_zbs,gc,Wr X G qZ,⟨⟨o_zbu.cl,nP.all⟩,o_zbv.cl,nL.1,o_zbw.cl,nB.1,nB.2.1,x_zbt.x.ecls tl_2,nN.1,nN.2.1,me,x_zbt.x.kit y_zbq kx,x_zbt.x.kit y_zbs ky,(by
  have m:=(g.get 17 (D:=D_zay) rfl).1.m
  have m2:=fL X G a_io
  have m3:some (aV (f (0+17)))=some (.ref f_io):=m.symm.trans m2
  injection m3 with m3
  injection m3 with m3
  show Lj K (f (0+17))=true
  rw[m3]
  exact lm_io)⟩⟩
 have gl:=g.get 40 (D:=D_zbk) rfl
 have e:fa=f (0+40):=by
  have m:=gl.1.m
  rw[hfa] at m
  injection m with m
  injection m
 subst e
 exact⟨_,_,λs v=>gl.2 s [v] rfl,λbase _ _=>bb0 X G AO⟩
theorem br0 {K:ac}{f:Addr}(h:Lj K f=true):∃c,dJ K c 315=true:=by
 unfold Lj at h
 split at h
 .split at h
  .exact⟨_,h⟩
  .cases h
 .cases h
noncomputable def sp0(K:ac):Sp:=λvs H Q _=>∃(a:Addr)(ns:List Int),vs=[.ref a]/\SqL K H a (ns.map V.int)/\ns.length<=63/\St0 H/\∀H',Q (.bl true) H'
theorem walk {l:jU}{q:ba}{loose:List Str}{XP:(Str->Option Value)->Heap->Prop}{YP:bL->Heap->Prop}{d:DefRec}{K:Params->ac}{fo:Addr}(hn:l.most=some 63)(hdf:d.params.defaults=[])(hY:∀(w:bL)(h:Heap),YP w h->(K w.params).In h/\h.get? 315=some (fW #[]))(h1:∀w:bL,bT (K w.params) mainGlobals "in_order"=some (some (.ref fo)))(h2:∀w:bL,bT (K w.params) mainGlobals "__builtins__"=some (some (.ref 4)))(h3:∀w:bL,Lj (K w.params) fo=true)(h4:∀w:bL,(K w.params).lookup 315=none)(h5:∀w:bL,(K w.params).lookup 4=none)(h6:∀w:bL,((K w.params).all λp=>!(p.2.cls==gm "list"))=true)(F:∀(w:bL)(mg:Str->Option Value)(fa:Addr)(h:Heap),(K w.params).In h->h.Ns mainGlobals mg->mg d.name=some (.ref fa) ->
   ∃(t:Adr)(fd:bo),(∀(s:av)(u:Value),lh s fd ⟨[u],[]⟩ [("_law_script", u)])/\∀base:Heap,(K w.params).In base->base.Ns mainGlobals mg->FnOk l.prog w (K w.params) mg base CX0 11 fa fd ["_law_script"] (Qm (K w.params) t)) :
  PySem.W.WalkO q loose XP YP l.row.toRowW d [] (λf vs=>PySem.call f vs):=
 L2.walk_ofT (n:=63) (k:=11) (x := "_law_script") (Pt:=315) (bm:=4) (sp:=λw=>sp0 (K w.params)) (λ_ _=>aQ) hn (by decide) hdf ⟨rfl,by decide,by decide⟩ hY (λw=>⟨br0 (h3 w),h4 w,h5 w,h2 w,h6 w⟩) (λw mg fa h a b c=>let ⟨t,fd,h1,h2⟩:=F w mg fa h a b c;⟨fd,h1,λbase x y=>(h2 base x y).imp λvs H Q E z=>z⟩) λw H a ns hl hs hS=>⟨a,ns,rfl,hS,hl,hs,λ_=>rfl⟩
end K32
open PySem PySem.W PyProof.Rows
end
set_option maxRecDepth 100000 in
theorem PySem.Challenge.cw_manyleaf_k32_places_and_contents_holds : PySem.Challenge.rw_manyleaf_k32_places_and_contents.Holds := by
 refine head_k32 ?_
 k_fill
 refine' K32.walk (l:=PySem.Challenge.rw_manyleaf_k32_places_and_contents) rfl rfl (λw h Y=>⟨PySem.W.km_in_of Y,PySem.W.km_tabs_of Y 315 (by decide)⟩) ?h1 ?h2 ?h3 ?h4 ?h5 ?h6 ?F
 case h1|h2=>intro w;k_is
 case h3|h4|h5|h6=>intro w;kernel_rfl
 case F=>
  intro w mg fa h KX G hmg
  refine' K32.all_mk KX G hmg ?o_zbv ?o_zbw ?o_zbu ?a_zbr ?y_zbr ?a_zbq ?y_zbq ?x_zbt ?a_zbs ?y_zbs ?i_zae ?i_zai ?i_zab ?i_zk ?nP ?nL ?nB ?nN ?a_io ?me ?kx ?ky ?lm_io ?qT ?qM_zbv ?qM_zbw ?qM_zbu ?qC ?qZ
  case o_zbv|o_zbw|o_zbu=>refine' L2.own_mk ?_ ?_ ?_ ?_ ?_ ?_ ?_ ?_ <;> try k_is
  case a_zbr=>k_is
  case y_zbr=>refine' L2.xc_mk ?_ ?_ ?_ ?_ ?_ ?_ ?_ ?_ <;> try k_is
  case a_zbq=>k_is
  case y_zbq=>refine' L2.xc_mk ?_ ?_ ?_ ?_ ?_ ?_ ?_ ?_ <;> try k_is
  case x_zbt=>refine' ⟨?_,?_,?_,L2.xc_mk ?_ ?_ ?_ ?_ ?_ ?_ ?_ ?_⟩ <;> try k_is
  case a_zbs=>k_is
  case y_zbs=>refine' L2.xc_mk ?_ ?_ ?_ ?_ ?_ ?_ ?_ ?_ <;> try k_is
  case i_zae=>refine' L2.ini0 (λ_ _ _ _ _ _ us hl=>L2.len1 (λ_=>rfl) us hl) ?_ ?_ ?_ ?_ <;> try k_is
  case i_zai=>refine' L2.ini0 (λ_ _ _ _ _ _ us hl=>L2.len2 (λ_ _=>rfl) us hl) ?_ ?_ ?_ ?_ <;> try k_is
  case i_zab|i_zk=>refine' L2.ini1 (λ_ _ _ _ _ _ _ us hl=>L2.len3 (λ_ _ _=>⟨_,rfl,rfl⟩) us hl) (λ_ _ _ _ _ _ _ us hl=>L2.len2 (λ_ _=>⟨_,rfl,rfl⟩) us (Nat.succ.inj hl)) (by decide) ?_ ?_ ?_ ?_ ?_ <;> try k_is
  case nP|nL|nB|nN=>(repeat' first|exact True.intro|refine' ⟨?_,?_⟩|fail) <;> try k_is
  case a_io|me=>k_is
  case kx|ky=>decide +kernel
  case lm_io=>kernel_rfl
  case qT=>(repeat' first|exact True.intro|refine' ⟨⟨_,L2.top_mk ?_ ?_ ?_ ?_⟩,?_⟩|fail) <;> try k_is
  case qM_zbv|qM_zbw|qM_zbu=>(repeat' first|exact True.intro|refine' ⟨⟨_,?_,L2.met_mk ?_ ?_ ?_ ?_⟩,?_⟩|fail) <;> try k_is
  case qC=>(repeat' first|exact True.intro|refine' ⟨L2.con_mk ?_ ?_,?_⟩|fail) <;> first|k_is|exact⟨_,rfl⟩|exact rfl|skip
  case qZ=>(repeat' first|exact True.intro|refine' ⟨?_,?_⟩|fail) <;> try k_is
#print axioms PySem.Challenge.cw_manyleaf_k32_places_and_contents_holds
