import PyProof.Rows.All
import Wide.All
import OpenK.KLine
import OpenK.KWalk
import KE.KNestM
import KE.RegKIsAll
import KE.KxBytes
import KE.KItem
import KE.KDictOf
import KE.KDictSum
import KE.LcSums
import KE.KxText
import Wide.FinOn
import Lean
import PyProof.EqAt
import PyProof.EqKinds
import PyProof.TupleCall
import PySem.Spec
import PyProof.NeKinds
import KE.KDictList
import KE.KPairComp
import PyProof.DictWalks
import PyProof.ExcClass3
import PyProof.ExcInit
import PyProof.ExcBaseAll.ValueError
import OpenK.KMore
import PyProof.RaisesMany
import PyProof.FString5
import PyProof.StrLawsIn
import PyProof.Rows.SetFrom
import PyProof.ExcAttrAll.ValueError
import KE.KIsAll
import PyProof.RulesAs
import PySem.Challenge.RW_holdwright_k34_what_loops_write
set_option Elab.async false
set_option linter.all false
set_option maxRecDepth 100000
namespace PySem.W.Fast
def tw3754933038975470615:=0
def tw5611364759348472326:=0
def tw15851854724856886793:=0
def tw10837179376938526920:=0
def tw415492803156806118:=0
def tw15037502612836197138:=0
def tw9577221689991544876:=0
def tw15989962898752144117:=0
def tw903320035429987304:=0
def tw11001250507536009348:=0
def tw4467081309364699523:=0
def tw6705391881290993751:=0
def tw13882333641537850958:=0
def tw10826251046655138167:=0
def tw17677400111042692673:=0
def tw13439533090665643714:=0
def tw433449533723322577:=0
def tw12665197985445105629:=0
def tw15351879822633243730:=0
def tw10076328020386356784:=0
def tw16169190696957089714:=0
def tw975648278939698176:=0
def tw1571105774545535914:=0
def tw10296874479565687963:=0
def tw7665162141947544816:=0
def tw12185640776755151998:=0
def tw11688250823833485192:=0
def tw17132229774559968675:=0
def tw10001618543192233918:=0
def tw7737317155614444182:=0
def tw16777367243415062903:=0
def tw7537320061338783636:=0
def tw1971443876350502616:=0
def tw15635967205381630503:=0
def tw3552693539570393867:=0
def tw17368152262829974120:=0
def tw5851552827383698581:=0
def tw14275380281004801017:=0
def tw13941181508760701881:=0
def tw4651105571212493004:=0
def tw11923554026451387562:=0
def tw13614148292962723408:=0
def tw4486241284203393433:=0
def tw110332535048041367:=0
def tw16311224536191172597:=0
def tw2335472549552704063:=0
def tw13685919821797266536:=0
def tw3234607214299549816:=0
def tw6542766406452248471:=0
def tw455367624197529706:=0
def tw1454727735488737977:=0
def tw5114300461180640684:=0
def tw4419460380632409306:=0
def tw16174592787216243661:=0
def tw13637737711125521454:=0
def tw5522574793573140745:=0
def tw17120731650524206929:=0
def tw10329274817933271075:=0
def tw16246842751812915722:=0
def tw3148819040436978457:=0
def tw12580978021332056978:=0
def tw11129053683201255485:=0
def tw8371240341411768321:=0
def tw11662242364408861384:=0
def tw8519771583987368283:=0
def tw5581523675595219490:=0
def tw1055652104346010152:=0
def tw6899194855856401096:=0
def tw5244208986079488385:=0
def tw4255116470402427023:=0
def tw10677653327893528880:=0
def tw11819309371961288281:=0
def tw6108488184996066461:=0
def tw1446538950286119303:=0
def tw3992838118489296721:=0
def tw10372511404951826049:=0
def tw15896710581858828059:=0
def tw163589077641062226:=0
def tw3431881207104373616:=0
def tw11842216622288436695:=0
def tw1042509881919383970:=0
def tw13812030498527599545:=0
def tw10680609313142807183:=0
def tw1018936506540140576:=0
def tw6644927256926237482:=0
def tw12384157258855547036:=0
def tw7813764179942899683:=0
def tw9395103768557753521:=0
def tw14298115299432772268:=0
def tw17822442593381115166:=0
def tw4827035811758961518:=0
def tw12177944078970746062:=0
def tw4931407495106343774:=0
def tw2027277530202547428:=0
def tw6600838373070852959:=0
def tw13514599392139303132:=0
def tw14338032889563023442:=0
def tw4122573934538495511:=0
def tw4680309345016626486:=0
def tw12361212498645193051:=0
def tw11256291056771532204:=0
def tw9279444813388656930:=0
def tw1369595020316365075:=0
def tw17938253529249343172:=0
def tw17317663947779000039:=0
def tw9415065157496892063:=0
def tw11418061333565009302:=0
def tw248212459292912557:=0
def tw6931410565657630944:=0
def tw10386372580961398103:=0
def tw14056694793744098645:=0
def tw17221273327075238189:=0
def tw8301777792715705269:=0
def tw3090363404294228027:=0
def tw8833822747882867084:=0
def tw3559913933506832561:=0
def tw16996851390377713645:=0
def tw1858457812322152786:=0
def tw5343276399568605310:=0
def tw15679749731171890335:=0
def tw6049273244637357656:=0
def tw4055657590084818591:=0
def tw12237165301827050023:=0
def tw16910066354467233713:=0
def tw12470277757470134067:=0
def tw15828378650077392638:=0
def tw15524295428713305155:=0
def tw12462928048483940761:=0
def tw11364710110295731918:=0
def tw11467365609246053399:=0
def tw11780453118533408713:=0
def tw16190052199096179734:=0
def tw16517770735501405387:=0
def tw15528366598176035794:=0
def tw6890688004236653435:=0
def tw11048884603877451276:=0
def tw11219759409852621743:=0
def tw7362425208916961624:=0
def tw9983217886438161346:=0
def tw1419520906319526283:=0
def tw12041747878809886891:=0
def tw16302203261253659545:=0
def tw12755269033228781528:=0
def tw13458333580432263833:=0
def tw10309497715924395659:=0
def tw10146303479523782925:=0
def tw15454949827320297080:=0
def tw206069748261090151:=0
def tw2972002477450386755:=0
def tw3065184553145931941:=0
def tw11818378995451613714:=0
def tw5405255004429251447:=0
def tw9686571353478904260:=0
def tw9668981926457556644:=0
def tw13406936505475032582:=0
def tw12360004949926356414:=0
def tw11440906876440260394:=0
def tw4499022334669169164:=0
def tw5193067896182230997:=0
def tw12731962622191309719:=0
def tw15234776955764999340:=0
def tw17444369763018492121:=0
def tw3877022555377090912:=0
def tw8854883010809289982:=0
def tw4738200799432779391:=0
def tw16961629879433335648:=0
def tw4608994015003698838:=0
def tw10794353723723580743:=0
def tw13565192247082164323:=0
def tw16212045899735086818:=0
def tw8455722264374725841:=0
def tw13550545202544898753:=0
def tw2316407685331305324:=0
def tw4500892754530370924:=0
def tw276236428408223388:=0
def tw6481436816878484961:=0
def tw5352065237538464319:=0
def tw12836181727548693419:=0
def tw12258470586837883403:=0
def tw13089500736524491784:=0
def tw4318674777713123378:=0
def tw3456693538970727508:=0
def tw1657286581356270758:=0
def tw13784975115320019603:=0
def tw15403833352618156845:=0
def tw14412372014505850440:=0
def tw13156209080064759386:=0
def tw2016009463392536361:=0
def tw800798753830885565:=0
def tw7774462224071278778:=0
def tw10361190304325668953:=0
def tw5959821366176857273:=0
def tw4257392078363345450:=0
def tw1366185914914616465:=0
def tw6898136916322194903:=0
def tw16800173828626923148:=0
def tw7911063814479093998:=0
def tw16962739889057916402:=0
def tw14602528877414782322:=0
def tw11460413130754650929:=0
def tw6705364913654195316:=0
def tw387439790479957101:=0
def tw17777712334272896572:=0
def tw2625458230069410847:=0
def tw48019660331215631:=0
def tw11878654989389961487:=0
def tw13000055048188719025:=0
def tw14025773146718535969:=0
def tw7128320472844547089:=0
def tw12719515310574364880:=0
def tw7811106225706352115:=0
def tw11694436981194277081:=0
def tw8662492762478255639:=0
def tw14842499080617906139:=0
def tw827586322308611860:=0
def tw18309080928417405933:=0
def tw3964168599303420407:=0
def tw9813078701538184049:=0
def tw15544093398306933271:=0
def tw8007861524918308788:=0
def tw15927323956809449473:=0
def tw249186231652892577:=0
def tw11595938716627236421:=0
def tw2828050199227839936:=0
def tw11568174807163450825:=0
def tw15996208514044763805:=0
def tw450563091457362772:=0
def tw5372823430787530100:=0
def tw6558051738620214026:=0
def tw16606305120316059568:=0
def tw1450281514019489485:=0
def tw12716356485177259811:=0
def tw16550108034561887441:=0
def tw10774374953085043618:=0
def tw17968660485441854348:=0
def tw14909489701158730890:=0
def tw13043287670774701809:=0
def tw16607937313447559981:=0
def tw11933063714283801468:=0
def tw2050465563463967170:=0
def tw4483577720650464813:=0
def tw9471884775123117156:=0
def tw6976254277020469088:=0
def tw15905440944616172965:=0
def tw4859031586903547021:=0
def tw9409385993796064267:=0
def tw3744110612235440106:=0
def tw921361471995974067:=0
def tw1051634970609131634:=0
def tw3023104242887777157:=0
def tw15146090830453311553:=0
def tw2618059702453038435:=0
def tw9259562607796099138:=0
def tw6680687634211686623:=0
def tw4815627818806950703:=0
def tw16503557387967140698:=0
def tw15940469529880042963:=0
def tw11180085928943697514:=0
def tw10552739765095204628:=0
def tw6118448264916747253:=0
def tw15369077234044071730:=0
def tw12074782096863972505:=0
def tw3781971765165401199:=0
def tw73246266729988775:=0
def tw3203472241161590158:=0
def tw14670691402331770939:=0
def tw7397321346309107510:=0
def tw5377998922367001074:=0
def tw8015356789923709029:=0
def tw14590586584501336435:=0
def tw420261679510417326:=0
def tw8517970326289272403:=0
def tw10516000650965729433:=0
def tw9775492577680679856:=0
def tw16796030282355314034:=0
def tw10583353822289251569:=0
def tw3387482086938338482:=0
def tw15928481301509596481:=0
def tw2819684306404332512:=0
def tw7245514636848794556:=0
def tw8444490570383370945:=0
def tw5552146100710929737:=0
def tw4774105402874122658:=0
def tw6147612269229501946:=0
def tw12633471412635356182:=0
def tw9657467568403161228:=0
def tw14560088314612734616:=0
def tw18436537713278896727:=0
def tw17901907568995438091:=0
def tw17910768407945348032:=0
def tw1074131884540699070:=0
def tw6393163527302796154:=0
def tw6106933996806312884:=0
def tw12486230583236879469:=0
def tw7901072336085198433:=0
def tw11017241818284387558:=0
def tw10833235417348416458:=0
def tw9416957380503421603:=0
def tw14027222096437546460:=0
def tw15451113142253960816:=0
def tw6087650487766949170:=0
def tw3541561934532063126:=0
def tw12602169454555143105:=0
def tw15235655123969866874:=0
def tw4365598182310150137:=0
def tw1279889974794582042:=0
def tw2434980686342284890:=0
def tw1418681536455208558:=0
def tw5727609382469369280:=0
def tw486728224560509518:=0
def tw17410648019681150187:=0
def tw6821456318234390883:=0
def tw1449970087216512674:=0
def tw8289436342779204946:=0
def tw1860997981429689956:=0
def tw4301039691594357847:=0
def tw16832955281820127946:=0
def tw14249493463407490130:=0
def tw16189010006891003263:=0
def tw11855793423212171671:=0
def tw8492499313843599881:=0
def tw4516220712500243694:=0
def tw11513455735873083747:=0
def tw17688240459333830353:=0
def tw8401301656133479968:=0
def tw10575672063899987400:=0
def tw6827267869230461102:=0
def tw6820601719976514796:=0
def tw12546103025902178257:=0
def tw10159971127153157196:=0
def tw8970398779018627635:=0
def tw7963178662513940593:=0
def tw14934617861945131722:=0
def tw11382554707268970497:=0
def tw10421853276714153646:=0
def tw9645704449145132273:=0
def tw3308756349952263345:=0
def tw7302058939289180959:=0
def tw9519885708268104818:=0
def tw9035399963758710295:=0
def tw9508359074205828454:=0
def tw6281153458629126766:=0
def tw1582835368904187997:=0
def tw7248292626272805468:=0
def tw4175605321884218656:=0
def tw12059923100831404235:=0
def tw4234584831372062585:=0
def tw1799034221049496072:=0
def tw120432254457960929:=0
def tw13204502685143906251:=0
def tw11372137603840091461:=0
def tw11894211215547005320:=0
def tw10024598740637404952:=0
def tw5476992756312607017:=0
def tw15457410012486755277:=0
def tw4326088168741690928:=0
def tw18175230939484750743:=0
def tw7585926547777564139:=0
def tw8822569870374370628:=0
def tw17496880589675500598:=0
def tw9037161050792977066:=0
def tw4592665034013366733:=0
def tw15641682325007690800:=0
def tw4043268616451593088:=0
def tw8254155243341217228:=0
def tw1815689385324497223:=0
def tw12121985031136227972:=0
def tw5063819881268464158:=0
def tw16858325607895960823:=0
def tw12393642965991253485:=0
def tw2401553014128245674:=0
def tw5429819593617492517:=0
def tw15938693321567874867:=0
def tw11266247336314728139:=0
def tw14760498652487196435:=0
def tw1218708482056955425:=0
def tw18426437451390927768:=0
def tw5928475831766996267:=0
def tw304071605428257195:=0
def tw10020786513543227715:=0
def tw9145728823192038419:=0
def tw10768454098824817488:=0
def tw13419441094197480568:=0
def tw13238481782982842285:=0
def tw3070867063561469948:=0
def tw2691606573646822184:=0
def tw6177606713617008270:=0
def tw16243859564552802290:=0
def tw10522195122677914828:=0
def tw10330564787956809157:=0
def tw5077448612566600543:=0
def tw5159081714248710743:=0
def tw6117092108582614317:=0
def tw15066510578105179651:=0
def tw13802532452369733555:=0
def tw2407804650245558537:=0
def tw4977838815316521328:=0
def tw2757926471388395657:=0
def tw16364008752314929517:=0
def tw3100056090222521327:=0
def tw15497355872699798285:=0
def tw10902152445627937632:=0
def tw420794995584789516:=0
def tw3819307514419629126:=0
def tw11696710025972111178:=0
def tw3121437664664417449:=0
def tw237390413673069877:=0
def tw17083687730202015977:=0
def tw15614022388081247668:=0
def tw14857672287305515309:=0
def tw10398100380535675962:=0
def tw10122802410427992676:=0
def tw3488608651205013979:=0
def tw3449780345828475390:=0
def tw9905467191254301608:=0
def tw8349008541768578726:=0
def tw4615753865455560553:=0
def tw3974595047480211390:=0
def tw16515713028455206422:=0
def tw14477726285469273777:=0
def tw10549030491357802159:=0
def tw9211985756885452798:=0
def tw18224954381877560312:=0
def tw15024945602519546273:=0
def tw3916159212044247442:=0
def tw2173259567496662384:=0
def tw14731591007864618572:=0
def tw12625551781269413759:=0
def tw7949401025140812638:=0
def tw436176747147074496:=0
def tw4094194798173015399:=0
def tw2943390506919660515:=0
def tw6939442713815153382:=0
def tw6921728472837385862:=0
def tw5798787248602388757:=0
def tw3794656708985725438:=0
def tw2596850037033944101:=0
def tw2072867119740885746:=0
def tw1650218748845533322:=0
def tw11783750626622958540:=0
def tw10654728048031723347:=0
def tw8144204651780425232:=0
def tw4172752710081279121:=0
def tw4024043872289381092:=0
def tw12870463508019644051:=0
def tw431266175827130335:=0
def tw3038713984275477237:=0
def tw2956069916294620094:=0
def tw242736342980121601:=0
def tw14441840422732995578:=0
def tw10892850981084353459:=0
def tw10819417647425350510:=0
def tw7819228001610064527:=0
def tw2827280203015393591:=0
def tw13458761363676719641:=0
def tw11502241478075677930:=0
def tw7371184157219277813:=0
def tw7045546902636889938:=0
def tw18060229835865738796:=0
def tw12142309692379209883:=0
def tw9894215407388312210:=0
def tw7464092409764695571:=0
def tw17260026028996670760:=0
def tw14604954357403025483:=0
def tw4541862127622728768:=0
def tw16549124193259852402:=0
def tw1528168362929047437:=0
def tw11592443234617683067:=0
def tw16467823371472868662:=0
def tw16372916986799642910:=0
def tw15365022598415193600:=0
def tw11603645131992285556:=0
def tw9846734049877027368:=0
def tw2299301318049454381:=0
def tw16735663496123205195:=0
def tw14199128050963176124:=0
def tw9650329567991112569:=0
def tw17823788963017864163:=0
def tw12991067942425146991:=0
def tw8567823734222811994:=0
def tw4011263021365370002:=0
def tw15213531485706786019:=0
def tw10897325222458863785:=0
def tw10843411590185753596:=0
def tw11861333143613039008:=0
def tw9767042296483896485:=0
def tw10015278671346087775:=0
def tw11794620516041533957:=0
def tw6670494376639640517:=0
def tw4981567015674615777:=0
def tw10064592712210574343:=0
def tw16519661907671171434:=0
def tw18363510948979771334:=0
def tw17027619666330078859:=0
def tw3661490512906069077:=0
def tw7789359956722446947:=0
def tw5271599621741363717:=0
def tw13344249679737770332:=0
def tw9450627152235207331:=0
def tw2116002689477479486:=0
def tw5293071719420719862:=0
def tw1463748685058992574:=0
def tw938072022344438544:=0
def tw16835640679169455983:=0
def tw5368601222343222831:=0
def tw13395446353032701828:=0
def tw10907815027223722336:=0
def tw6557212342694071190:=0
def tw5349817995101364147:=0
def tw15316692574350292446:=0
def tw1717475742529401832:=0
def tw18069254734049847995:=0
def tw1208311632912185180:=0
def tw10175318236113140854:=0
def tw2952916042520169169:=0
def tw10036821104227850628:=0
def tw9359254135025526822:=0
def tw2047069213712036564:=0
def tw17617688381836524857:=0
def tw4046447253653779566:=0
def tw18274571039058573278:=0
def tw10917513262799886546:=0
def tw15039744970603743701:=0
def tw13736572735992011083:=0
def tw11500112341848355728:=0
def tw11701326519359411417:=0
def tw14532532449533936230:=0
def tw7167470114125907319:=0
def tw18348896167965683067:=0
def tw3399060007543427894:=0
def tw1537373662063074814:=0
def tw10875390504859744741:=0
def tw15569196496249618234:=0
def tw8903147898323035153:=0
def tw7659190979318385671:=0
def tw16154702721688449646:=0
def tw3192224394109529528:=0
def tw17422201275174069056:=0
def tw16964130591882486209:=0
def tw6579694273141172300:=0
def tw9060469448897883859:=0
def tw11833740625578578831:=0
def tw6217063308819569043:=0
def tw7318779750913792137:=0
def tw16134231026191644769:=0
def tw17318944467049428336:=0
def tw10416886348249460504:=0
def tw7308312988488721807:=0
def tw17145433238507112789:=0
def tw17133608913367462611:=0
def tw174895468759145135:=0
def tw14209076017549755718:=0
def tw7887006049477442251:=0
def tw5849609134416156695:=0
def tw2311919492660550979:=0
def tw16763370284205821586:=0
def tw84619918285467816:=0
def tw12845764376067009816:=0
def tw10050008047732148457:=0
def tw182972387619624550:=0
def tw14500407802481584704:=0
def tw14126971762588083040:=0
def tw8364078779311007371:=0
def tw2374804609183385883:=0
def tw17522569620627818130:=0
def tw16211550732465190015:=0
def tw13481354607445603633:=0
def tw6716827059380134239:=0
def tw161285257070770827:=0
def tw2461691010065212100:=0
def tw9396451494246699812:=0
def tw2102290797668226704:=0
def tw15984871867329897137:=0
def tw11086214088203030027:=0
def tw8107114293289158080:=0
def tw10225033076191750725:=0
def tw4150593539323818783:=0
def tw932839701382126404:=0
def tw12489205136027049247:=0
def tw18327951549523792988:=0
def tw11178815834820077671:=0
def tw15421494490047002749:=0
def tw5407061566399082698:=0
def tw1894528058471957576:=0
def tw313391624809234547:=0
def tw323993215337299673:=0
def tw2564521389371575686:=0
def tw10629179815229217734:=0
def tw10573622984349570884:=0
def tw9996752279911235038:=0
def tw8809933186728811684:=0
def tw6334263478417124115:=0
def tw598661973551443485:=0
def tw633429788054339590:=0
def tw2782399006283927715:=0
def tw8847936176840503950:=0
def tw17438898341694343243:=0
def tw7448192743890413888:=0
def tw17601838486531137468:=0
def tw8735758432567830548:=0
def tw9123982414457708744:=0
def tw12411673673404620368:=0
def tw4523266467212326979:=0
def tw17364456046994762420:=0
def tw1920155765784394687:=0
def tw9719716446445418364:=0
def tw22890985037797345:=0
def tw14274139137338781680:=0
def tw3336174428287584594:=0
def tw10930374106993042280:=0
def tw10422402478601104183:=0
def tw10379431838012554976:=0
def tw17743011269711034315:=0
def tw12570237992138145054:=0
def tw12989268760378672085:=0
def tw7910817411635712373:=0
def tw17027067986568295344:=0
def tw9304110515573602650:=0
end PySem.W.Fast
set_option maxHeartbeats 0 in
open_top Hd for PySem.Challenge.rw_holdwright_k34_what_loops_write
namespace L2
open PySem PySem.Spec PyProof.Rows
abbrev Key:=Sum Int Str
def xV:Key→Value→Bool
 | .inl k,v=>Value.isInt k v
 | .inr x,v=>Value.isStrOf x v
def b6H (w:World):Key→Int
 | .inl k=>hashInt k
 | .inr x=>hashStr w x
theorem cZ:∀ {k:Key} {v:Value},xV k v=true→(∃ i t,k=Sum.inl i∧v=Value.int i t)∨(∃ x t,k=Sum.inr x∧v=Value.str x t)
 | .inl i,v,h=>by
  obtain ⟨t,e⟩:=Value.isInt_shape (k:=i) (v:=v) h
  exact .inl ⟨i,t,rfl,e⟩
 | .inr x,v,h=>by
  obtain ⟨t,e⟩:=Value.isStrOf_shape (x:=x) (v:=v) h
  exact .inr ⟨x,t,rfl,e⟩
theorem Lz (i:Int) (t:Tok):xV (.inl i) (.int i t)=true:=by simp [xV,Value.isInt]
theorem Ly (x:Str) (t:Tok):xV (.inr x) (.str x t)=true:=by simp [xV,Value.isStrOf]
theorem Zn (a b:Int):decide ((Sum.inl a:Key)=Sum.inl b)=(a == b):=by
 by_cases e:a=b
 ·subst e;simp
 ·have h:¬ (Sum.inl a:Key)=Sum.inl b:=fun q=>e (Sum.inl.inj q)
  rw [decide_eq_false h]
  exact (beq_eq_false_iff_ne.mpr e).symm
theorem Zk (a b:Str):decide ((Sum.inr a:Key)=Sum.inr b)=decide (a=b):=by
 by_cases e:a=b
 ·subst e;simp
 ·have h:¬ (Sum.inr a:Key)=Sum.inr b:=fun q=>e (Sum.inr.inj q)
  rw [decide_eq_false h,decide_eq_false e]
theorem Zm (a:Int) (b:Str):decide ((Sum.inl a:Key)=Sum.inr b)=false:=decide_eq_false (fun q=>nomatch q)
theorem Zl (a:Str) (b:Int):decide ((Sum.inr a:Key)=Sum.inl b)=false:=decide_eq_false (fun q=>nomatch q)
def aQ (prog:Program) (w:World):PySem.KeyKind prog w Key where
 is:=xV
 hash:=b6H w
 inj:=fun v a b ha hb=>by
  rcases cZ ha with ⟨i,t,rfl,rfl⟩ | ⟨x,t,rfl,rfl⟩
  ·rcases cZ hb with ⟨j,u,rfl,e⟩ | ⟨y,u,rfl,e⟩
   ·injection e with e1 _;rw [e1]
   ·exact nomatch e
  ·rcases cZ hb with ⟨j,u,rfl,e⟩ | ⟨y,u,rfl,e⟩
   ·exact nomatch e
   ·injection e with e1 _;rw [e1]
 byValue:=fun k v h=>by
  rcases cZ h with ⟨i,t,rfl,rfl⟩ | ⟨x,t,rfl,rfl⟩ <;> rfl
 pyHash:=fun hv h=>by
  rcases cZ hv with ⟨i,t,rfl,rfl⟩ | ⟨x,t,rfl,rfl⟩
  ·exact wpAny_pyHash_int h
  ·exact wpAny_pyHash_str h
 eqBool:=fun hu hv h=>by
  rcases cZ hu with ⟨i,t,rfl,rfl⟩ | ⟨x,t,rfl,rfl⟩
  ·rcases cZ hv with ⟨j,u,rfl,rfl⟩ | ⟨y,u,rfl,rfl⟩
   ·rw [Zn] at h;exact wpAny_eqBool_int h
   ·rw [Zm] at h;exact SeqAt.EqAt.int_str i t y u _ _ _ _ h
  ·rcases cZ hv with ⟨j,u,rfl,rfl⟩ | ⟨y,u,rfl,rfl⟩
   ·rw [Zl] at h;exact SeqAt.EqAt.str_int x t j u _ _ _ _ h
   ·rw [Zk] at h;exact wpAny_eqBool_str h
 «strs»:=fun k x t v h=>by
  rcases cZ h with ⟨i,u,rfl,e⟩ | ⟨y,u,rfl,e⟩
  ·exact nomatch e
  ·injection e with e1 _
   subst e1
   cases v <;> rfl
theorem Dh (prog:Program) (w:World) (i:Int) (t:Tok):(aQ prog w).is (.inl i) (.int i t)=true:=Lz i t
theorem cN (prog:Program) (w:World) (x:Str) (t:Tok):(aQ prog w).is (.inr x) (.str x t)=true:=Ly x t
end L2
namespace L2
open PySem PySem.Spec PyProof.Rows
inductive V where
 | fP | bl (b:Bool) | int (i:Int) | str (x:Str) | MK (b:Array UInt8) | Z2 (b:UInt64) | ref (a:Addr) | ty (n:String)
 deriving DecidableEq
def RelV:V→Value→Prop
 | .fP,u=>u=Value.none
 | .bl b,u=>u=Value.bool b
 | .int i,u=>∃ t,u=Value.int i t
 | .str x,u=>∃ t,u=Value.str x t
 | .MK b,u=>∃ t,u=Value.bytes b t
 | .Z2 b,u=>∃ t,u=Value.float b t
 | .ref a,u=>u=Value.ref a
 | .ty n,u=>u=Value.type n
abbrev Vals:List V→List Value→Prop:=Paired RelV
theorem Vals.length {xs:List V} {us:List Value} (r:Vals xs us):xs.length=us.length:=Paired.length r
theorem Vals.get:∀ {xs:List V} {us:List Value} {i:Nat} {x:V},Vals xs us→xs[i]?=some x→∃ u,us[i]?=some u∧RelV x u
 | _,_,_,_,.nil,e=>by simp at e
 | _,_,0,_,.cons r _,e=>by simp at e;subst e;exact ⟨_,rfl,r⟩
 | _,_,i+1,x,.cons _ t,e=>by
  obtain ⟨u,h1,h2⟩:=Vals.get (i:=i) (x:=x) t (by simpa using e)
  exact ⟨u,by simpa using h1,h2⟩
theorem Vals.set {x:V} {u:Value} (r:RelV x u):∀ {xs:List V} {us:List Value} (i:Nat),Vals xs us→Vals (xs.set i x) (us.set i u)
 | _,_,_,.nil=>.nil
 | _,_,0,.cons _ t=>.cons r t
 | _,_,i+1,.cons q t=>.cons q (Vals.set r i t)
theorem Vals.append:∀ {xs ys:List V} {us ws:List Value},Vals xs us→Vals ys ws→Vals (xs++ys) (us++ws)
 | _,_,_,_,.nil,s=>s
 | _,_,_,_,.cons r t,s=>.cons r (Vals.append t s)
theorem Vals.take:∀ {xs:List V} {us:List Value} (n:Nat),Vals xs us→Vals (xs.take n) (us.take n)
 | _,_,0,_=>.nil
 | _,_,_+1,.nil=>.nil
 | _,_,n+1,.cons r t=>.cons r (Vals.take n t)
theorem Vals.drop:∀ {xs:List V} {us:List Value} (n:Nat),Vals xs us→Vals (xs.drop n) (us.drop n)
 | _,_,0,r=>r
 | _,_,_+1,.nil=>.nil
 | _,_,n+1,.cons _ t=>Vals.drop n t
def nY:Option V→Option Value→Prop
 | some v,some u=>RelV v u
 | none,none=>True
 | _,_=>False
def KV {κ:Type}:List (κ×V)→List (κ×Value)→Prop:=Paired fun (p:κ×V) (q:κ×Value)=>p.1=q.1∧RelV p.2 q.2
def kV:Key→V
 | .inl i=>.int i
 | .inr x=>.str x
inductive HO where
 | lst (xs:List V)
 | tup (xs:List V)
 | dK (kvs:List (Key×V)) | dT (kvs:List (List Key×V))
 | set (S:Int→Bool) (n:Nat)
 | ins (C dx:Addr) (fs:List (Str×V))
 | own (x:Addr)
 | xd (fs:List (Str×V))
 | met (f x:Addr)
 | rng (lo hi:Int)
 | Ja (o:Obj) (u:HO)
 | U5 (ps:Array Value)
 | ext (φ:Heap→Prop)
abbrev Hp:=Addr→Option HO
def upd (H:Hp) (a:Addr) (o:HO):Hp:=fun b=>if b=a then some o else H b
theorem af {H:Hp} {a:Addr} {o:HO}:upd H a o a=some o:=by unfold upd;rw [if_pos rfl]
theorem aL {H:Hp} {a b:Addr} {o:HO} (h:b≠a):upd H a o b=H b:=by unfold upd;rw [if_neg h]
theorem JV {H:Hp} {a:Addr} {o u:HO}:upd (upd H a o) a u=upd H a u:=by
 funext b;unfold upd;split <;> rfl
theorem a2j {H:Hp} {a b:Addr} {o u:HO} (h:H a=some o) (h':H b=some u) (d:o≠u):a≠b:=by
 intro e;subst e;rw [h] at h';exact d (Option.some.inj h')
theorem aq {H:Hp} {a b:Addr} {o:HO} (h:H a=some o) (h':H b=none):a≠b:=by
 intro e;subst e;rw [h] at h';cases h'
section
variable (P:Program) (w:World)
def dJ (H:Hp) (h:Heap) (a:Addr):HO→Prop
 | .lst xs=>xs.length≤sizeLine∧∃ (its:List Value) (n:Nat),Vals xs its∧h.get? a=some { cls:=.type "list",data:=.seq its.toArray n }
 | .tup xs=>xs.length≤sizeLine∧∃ its:List Value,Vals xs its∧IsTup h a its.toArray
 | .dK kvs=>kvs.length≤sizeLine∧(a == sysModules)=false∧∃ vs,KV kvs vs∧h.DictOf (aQ P w) a vs
 | .dT kvs=>kvs.length≤sizeLine∧(a == sysModules)=false∧∃ xs:List (List Key×Addr×Value),
   Paired (fun (p:List Key×V) (q:List Key×Addr×Value)=>p.1=q.1∧H q.2.1=some (.tup (p.1.map kV))∧RelV p.2 q.2.2) kvs xs ∧
   ∃ o es ep,h.get? a=some o∧o.ExactDict∧o.data=.dict es ep∧es.toList=xs.map (entryOfKey (tupleKind (aQ P w)))∧(xs.map (·.1)).Nodup
 | .set S n=>h.SetOf (intKind P w) a S n
 | .ins C dx fs=>H dx=some (.own a)∧fs.length≤1000∧dx≠a∧h.get? a=some (PySem.W.instObj C dx) ∧
   ∃ mA,h.Ns1 dx mA∧(∀ f,nY (fs.lookup f) (mA f))∧PySem.Within mA (fs.map (·.1))
 | .own _=>∃ o,h.get? a=some o
 | .xd fs=>∃ mA,h.Ns1 a mA∧∀ f,nY (fs.lookup f) (mA f)
 | .rng lo hi=>∃ t u v,h.get? a=some { cls:=.type "range",data:=.fields #[.int lo t,.int hi u,.int 1 v] }
 | .Ja o u=>h.get? a=some o∧dJ H h a u
 | .U5 ps=>h.get? a=some { cls:=.none,data:=.fields ps }
 | .met f x=>h.get? a=some (PySem.W.methodObj (.ref f) (.ref x))
 | .ext φ=>φ h∧(∃ o,h.get? a=some o)∧∀ h1 h2:Heap,φ h1→(∀ o,h1.get? a=some o→h2.get? a=some o)→φ h2
def rK (H:Hp) (h:Heap):Prop:=∀ a o,H a=some o→dJ P w H h a o
end
section
variable {P:Program} {w:World} {H H':Hp} {h h':Heap} {a:Addr} {o:HO}
theorem dJ.lt (x:dJ P w H h a o):a < h.objs.size:=by
 cases o with
 | lst xs=>obtain ⟨_,_,_,_,e⟩:=x;exact Heap.lt_size e
 | tup xs=>obtain ⟨_,_,_,p⟩:=x;exact p.lt
 | dK kvs=>obtain ⟨_,_,_,_,o,_,_,e,_⟩:=x;exact Heap.lt_size e
 | dT kvs=>obtain ⟨_,_,_,_,o,_,_,e,_⟩:=x;exact Heap.lt_size e
 | set S n=>obtain ⟨o,_,_,_,e,_⟩:=x;exact Heap.lt_size e
 | ins C dx fs=>obtain ⟨_,_,_,e,_⟩:=x;exact Heap.lt_size e
 | own y=>obtain ⟨_,e⟩:=x;exact Heap.lt_size e
 | xd fs=>obtain ⟨_,⟨_,_,_,e,_⟩,_⟩:=x;exact Heap.lt_size e
 | rng lo hi=>obtain ⟨_,_,_,e⟩:=x;exact Heap.lt_size e
 | Ja ob u=>obtain ⟨e,_⟩:=x;exact Heap.lt_size e
 | U5 ps=>exact Heap.lt_size (show h.get? a=some _ from x)
 | met f y=>exact Heap.lt_size (show h.get? a=some _ from x)
 | ext φ=>obtain ⟨_,⟨_,e⟩,_⟩:=x;exact Heap.lt_size e
theorem Paired.lT {α β:Type} {F G:α→β→Prop}:∀ {l₁:List α} {l₂:List β},Paired F l₁ l₂→(∀ a b,F a b→G a b)→Paired G l₁ l₂
 | _,_,.nil,_=>.nil
 | _,_,.cons r t,f=>.cons (f _ _ r) (Paired.lT t f)
theorem dJ.stay (x:dJ P w H h a o) (k:∀ b u,(b=a∨H b=some (.own a))→h.get? b=some u→h'.get? b=some u)
  (ho:∀ b,H b=some (.own a)→H' b=some (.own a)) (ht:∀ b xs,H b=some (.tup xs)→H' b=some (.tup xs)):dJ P w H' h' a o:=by
 induction o with
 | lst xs=>obtain ⟨z,its,n,r,e⟩:=x;exact ⟨z,its,n,r,k _ _ (.inl rfl) e⟩
 | tup xs=>obtain ⟨z,its,r,ob,e,c⟩:=x;exact ⟨z,its,r,ob,k _ _ (.inl rfl) e,c⟩
 | dK kvs=>obtain ⟨z,y,vs,r,ob,es,ep,e,c⟩:=x;exact ⟨z,y,vs,r,ob,es,ep,k _ _ (.inl rfl) e,c⟩
 | dT kvs =>
  obtain ⟨z,y,xs,r,ob,es,ep,e,c⟩:=x
  exact ⟨z,y,xs,Paired.lT r fun p q z=>⟨z.1,ht _ _ z.2.1,z.2.2⟩,ob,es,ep,k _ _ (.inl rfl) e,c⟩
 | set S n=>obtain ⟨ob,es,ep,t,e,c⟩:=x;exact ⟨ob,es,ep,t,k _ _ (.inl rfl) e,c⟩
 | ins C dx fs =>
  obtain ⟨d,z,ne,e,mA,⟨od,es,ep,e2,c⟩,r⟩:=x
  exact ⟨ho _ d,z,ne,k _ _ (.inl rfl) e,mA,⟨od,es,ep,k _ _ (.inr d) e2,c⟩,r⟩
 | own y=>obtain ⟨ob,e⟩:=x;exact ⟨ob,k _ _ (.inl rfl) e⟩
 | xd fs=>obtain ⟨mA,⟨od,es,ep,e,c⟩,r⟩:=x;exact ⟨mA,⟨od,es,ep,k _ _ (.inl rfl) e,c⟩,r⟩
 | rng lo hi=>obtain ⟨t,u,v,e⟩:=x;exact ⟨t,u,v,k _ _ (.inl rfl) e⟩
 | Ja ob u ih=>obtain ⟨e,q⟩:=x;exact ⟨k _ _ (.inl rfl) e,ih q⟩
 | U5 ps =>
  have e:h.get? a=some { cls:=.none,data:=.fields ps }:=x
  show h'.get? a=some { cls:=.none,data:=.fields ps }
  exact k a _ (.inl rfl) e
 | met f y =>
  have e:h.get? a=some (PySem.W.methodObj (.ref f) (.ref y)):=x
  show h'.get? a=some (PySem.W.methodObj (.ref f) (.ref y))
  exact k a _ (.inl rfl) e
 | ext φ=>obtain ⟨p,⟨o,e⟩,st⟩:=x;exact ⟨st _ _ p fun o q=>k _ _ (.inl rfl) q,⟨o,k _ _ (.inl rfl) e⟩,st⟩
theorem rK.lt (x:rK P w H h) (e:H a=some o):a < h.objs.size:=(x a o e).lt
theorem rK.fresh (x:rK P w H h) (e:h.objs.size≤a):H a=none:=by
 cases q:H a with
 | none=>rfl
 | some u=>exact absurd (Nat.lt_of_lt_of_le (x.lt q) e) (Nat.lt_irrefl _)
theorem rK.kept (x:rK P w H h) (k:∀ b u,h.get? b=some u→h'.get? b=some u):rK P w H h':=fun a o e =>
 (x a o e).stay (fun b u _ q=>k b u q) (fun _ q=>q) fun _ _ q=>q
theorem rK.laid (x:rK P w H h) (k:∀ b u,h.get? b=some u→h'.get? b=some u) (hp:h.objs.size≤a) (new:dJ P w (upd H a o) h' a o):rK P w (upd H a o) h':=fun b u e=>by
 have hn:=x.fresh hp
 by_cases hb:b=a
 ·subst hb;rw [af] at e;cases e;exact new
 ·rw [aL hb] at e
  exact (x b u e).stay (fun c v _ q=>k c v q) (fun c q=>by rw [aL (aq q hn)];exact q) fun c xs q=>by rw [aL (aq q hn)];exact q
end
def Rd (H:Hp) (a:Addr) (u:HO):Prop:=H a=some u∨∃ o,H a=some (.Ja o u)
theorem Rd.ok {P:Program} {w:World} {H:Hp} {h:Heap} {a:Addr} {u:HO} (r:Rd H a u) (x:rK P w H h):dJ P w H h a u:=by
 rcases r with r | ⟨o,r⟩
 ·exact x a u r
 ·obtain ⟨_,q⟩:=x a _ r
  exact q
def Mut:Option HO→Prop
 | some (.lst _)=>True
 | some (.dK _)=>True
 | some (.dT _)=>True
 | some (.set _ _)=>True
 | some (.ins _ _ _)=>True
 | some (.ext _)=>True
 | _=>False
section
variable {P:Program} {w:World} {H:Hp} {h h':Heap} {x e:Addr} {o':HO}
theorem rK.write (ok:rK P w H h) (mu:Mut (H x)) (he:e=x∨H e=some (.own x)) (k:∀ b u,b≠e→h.get? b=some u→h'.get? b=some u) (heo:∃ u,h'.get? e=some u)
  (new:dJ P w (upd H x o') h' x o'):rK P w (upd H x o') h':=fun b u q=>by
 have a2f:∀ c y,H c=some (.own y)→c≠x:=fun c y r z=>by subst z;rw [r] at mu;exact mu
 have b46:∀ c xs,H c=some (.tup xs)→c≠x:=fun c xs r z=>by subst z;rw [r] at mu;exact mu
 by_cases hb:b=x
 ·subst hb;rw [af] at q;cases q;exact new
 ·rw [aL hb] at q
  by_cases ZD:b=e
  ·have q':H b=some (.own x):=by
    rcases he with z | z
    ·exact absurd (ZD.trans z) hb
    ·rw [ZD];exact z
   rw [q] at q';cases q'
   obtain ⟨v,hv⟩:=heo
   exact ⟨v,by rw [ZD];exact hv⟩
  ·refine (ok b u q).stay (fun c v hc r=>k c v ?_ r) (fun c r=>by rw [aL (a2f c b r)];exact r) fun c xs r=>by rw [aL (b46 c xs r)];exact r
   rcases hc with rfl | hc
   ·exact ZD
   ·rintro rfl
    rcases he with z | z
    ·exact a2f c b hc z
    ·rw [hc] at z;cases z;exact hb rfl
end
structure Un (fs ex:List Addr) (H H':Hp) (h h':Heap):Prop where
 keep:∀ b o,h.get? b=some o→H b=none→b ∉ fs→b ∉ ex→h'.get? b=some o
 slot:∀ b o,h.get? b=some o→H b=none→b∈fs→b ∉ ex→∃ sl,h'.get? b=some { o with slots:=sl }
 free:∀ b o,h.get? b=some o→H b=none→b ∉ ex→H' b=none
 there:∀ b o,h.get? b=some o→b ∉ ex→∃ o',h'.get? b=some o'
 tups:∀ b xs,H b=some (.tup xs)→H' b=some (.tup xs)
 y9:∀ b o u,H b=some (.Ja o u)→H' b=some (.Ja o u)
 Ai:∀ b ps,H b=some (.U5 ps)→∃ more,H' b=some (.U5 (ps++more))
section
variable {fs fs' ex ex':List Addr} {H H1 H2:Hp} {h h1 h2 h':Heap} {a x e:Addr} {o:HO}
theorem Un.any (u:Un fs ex H H1 h h1) {b:Addr} {ob:Obj} (q:h.get? b=some ob) (n:H b=none) (hx:b ∉ ex):∃ sl,h1.get? b=some { ob with slots:=sl }:=by
 by_cases hb:b∈fs
 ·exact u.slot b ob q n hb hx
 ·exact ⟨ob.slots,u.keep b ob q n hb hx⟩
theorem Un.kept (k:∀ b u,h.get? b=some u→h'.get? b=some u):Un fs ex H H h h' :=
 ⟨fun b ob q _ _ _=>k b ob q,fun b ob q _ _ _=>⟨ob.slots,k b ob q⟩,fun _ _ _ n _=>n,fun b ob q _=>⟨ob,k b ob q⟩,fun _ _ q=>q,fun _ _ _ q=>q,fun _ ps q=>⟨#[],by rw [q];simp⟩⟩
theorem Un.refl:Un fs ex H H h h:=Un.kept fun _ _ q=>q
theorem Un.laid (k:∀ b u,h.get? b=some u→h'.get? b=some u) (hp:h.objs.size≤a) (hn:H a=none):Un fs ex H (upd H a o) h h' where
 keep:=fun b u q _ _ _=>k b u q
 slot:=fun b u q _ _ _=>⟨u.slots,k b u q⟩
 free:=fun b u q n _=>by rw [aL (Nat.ne_of_lt (Nat.lt_of_lt_of_le (Heap.lt_size q) hp))];exact n
 there:=fun b u q _=>⟨u,k b u q⟩
 tups:=fun b xs q=>by rw [aL (aq q hn)];exact q
 y9:=fun b u xs q=>by rw [aL (aq q hn)];exact q
 Ai:=fun b ps q=>⟨#[],by rw [aL (aq q hn),q];simp⟩
theorem Un.write (mu:Mut (H x)) (he:e=x∨H e=some (.own x)) (k:∀ b u,b≠e→h.get? b=some u→h'.get? b=some u) (heo:∃ u,h'.get? e=some u):Un fs ex H (upd H x o) h h':=by
 have hx:∀ b,H b=none→b≠x:=fun b n z=>by subst z;rw [n] at mu;exact mu
 have hb:∀ b,H b=none→b≠e:=fun b n z=>by
  subst z
  rcases he with r | r
  ·exact hx b n r
  ·rw [n] at r;cases r
 have hm:∀ b u,H b=some u→¬ Mut (some u)→b≠x:=fun b u q nm z=>by subst z;rw [q] at mu;exact nm mu
 refine ⟨fun b u q n _ _=>k b u (hb b n) q,fun b u q n _ _=>⟨u.slots,k b u (hb b n) q⟩,fun b u q n _=>by rw [aL (hx b n)];exact n,fun b u q _=>?_,
  fun b xs q=>by rw [aL (hm b _ q fun z=>z)];exact q,fun b u xs q=>by rw [aL (hm b _ q fun z=>z)];exact q,fun b ps q=>⟨#[],by rw [aL (hm b _ q fun z=>z),q];simp⟩⟩
 by_cases ZD:b=e
 ·subst ZD;exact heo
 ·exact ⟨u,k b u ZD q⟩
end
def trk (h:Heap) (H:Hp):List Addr:=(List.range h.objs.size).filter fun a=>(H a).isSome
def BB (h:Heap) (H:Hp):Heap:=PySem.W.hideAll h (trk h H)
theorem LG (h:Heap) (H:Hp):(BB h H).objs.size=h.objs.size:=PySem.W.hideAll_size _ _
theorem Qc {h:Heap} {H:Hp} {b:Addr} {o:Obj} (e:h.get? b=some o) (n:H b=none):(BB h H).get? b=some o :=
 PySem.W.hideAll_get _ e fun hm=>by
  have q:(H b).isSome=true:=(List.mem_filter.mp hm).2
  rw [n] at q;simp at q
theorem Tq {h:Heap} {H:Hp} {b:Addr} {o:Obj} (e:(BB h H).get? b=some o):h.get? b=some o∧H b=none:=by
 have e':h.get? b=some o:=PySem.W.of_hideAll (trk h H) e
 refine ⟨e',?_⟩
 cases q:H b with
 | none=>rfl
 | some x =>
  have hm:b∈trk h H:=List.mem_filter.mpr ⟨List.mem_range.mpr (Heap.lt_size e'),by simp [q]⟩
  have z:(BB h H).get? b=none:=PySem.W.hideAll_none (trk h H) hm
  rw [z] at e;cases e
def UG (g h:Heap) (L:Addr):List (Addr×Obj):=(List.range h.objs.size).filterMap fun a=>if a=L∨(g.get? a).isSome=true then none else (h.get? a).map fun o=>(a,o)
def rest (g h:Heap) (L d:Addr):List (Addr×Obj):=(UG g h L).filter fun p=>decide (p.1≠d)
end L2
namespace L2
open PySem PySem.Spec PyProof.Rows
structure Mod (K:PySem.W.Frag) (mg:Str→Option Value) (base:Heap):Prop where
 kin:K.In base
 glob:base.Ns mainGlobals mg
 blt:∃ mb,base.Ns builtinsNs mb∧∀ x:Str,x≠"__name__"→mb x=bootBuiltins x
 nolimit:base.NoLimit
structure Cx where
 prog:Program
 w:World
 K:PySem.W.Frag
 mg:Str→Option Value
 base:Heap
 A:Around
 N:List Str
 s₀:Shared
 H₀:Hp
 env:Env
 outer:List Env
 stack:List Env
 ex:List Addr
 fn:Str→Bool
 calm:Bool
 pn:List (Addr×Obj)
 xe:Value→Shared→Prop
def frs (l:List Env):List Addr:=l.filterMap (·.frame)
abbrev Cx.fs (X:Cx):List Addr:=frs X.outer
def Vis (sc:Scope) (x:Str):Prop:=sc.names.lookup x=some .local∨sc.names.lookup x=some .cell∨sc.names.lookup x=some .free
def Loc (sc:Scope) (x:Str):Prop:=sc.names.lookup x=some .local∨sc.names.lookup x=some .cell
def Look (env:Env) (h:Heap) (m:Str→Option Value) (x:Str) (u:Value):Prop :=
 (env.kindOf x=some .local∧m x=some u)∨((env.kindOf x=some .cell∨env.kindOf x=some .free)∧∃ c,env.cells.lookup x=some c∧h.IsCell c (some u))
structure Cx.Ok (X:Cx):Prop where
 mod:Mod X.K X.mg X.base
 kind:X.env.scope.kind=.function
 glob:X.env.globals=mainGlobals
 blt:X.env.builtins=builtinsNs
 above:X.s₀.heap.objs.size≤X.env.locals
 inj:∀ x y c,X.env.cells.lookup x=some c→X.env.cells.lookup y=some c→x=y
 has:∀ x,(X.env.kindOf x=some .cell∨X.env.kindOf x=some .free)→∃ c,X.env.cells.lookup x=some c
 cab:∀ x c,X.fn x=true→X.env.cells.lookup x=some c→X.s₀.heap.objs.size≤c
 hd:X.calm=true→X.A.handled=none
 frames:X.A.frames=some X.stack
 stk:X.stack=X.outer∨(X.stack=X.env::X.outer∧X.env.frame=some X.env.locals)
 exf:∀ b∈X.ex,b≠X.env.locals∧∀ x c,X.env.cells.lookup x=some c→c≠b
 bs:∀ b o,X.base.get? b=some o→X.s₀.heap.get? b=some o∧X.H₀ b=none
 Uy:X.base.objs.size≤X.s₀.heap.objs.size
 OS:∀ b o,X.base.get? b=some o→b ∉ X.ex
 QM:∀ b∈X.ex,b ∉ X.fs
 vS:X.s₀.heap.FunFrames X.base X.outer
 ZZ:∀ b∈X.fs,X.H₀ b=none
structure Inv (X:Cx) (pins:List (Addr×Obj)) (σ:List (Option V)) (H:Hp) (s:Shared):Prop where
 ok:X.Ok
 os:s.os=X.s₀.os
 bare:AllBare s.gens
 base:Un X.fs X.ex X.H₀ H X.s₀.heap s.heap
 loc:∃ m,s.heap.Ns X.env.locals m∧∀ (i:Nat) (x:Str) (v:V),X.N[i]?=some x→σ[i]?=some (some v)→Vis X.env.scope x→∃ u,RelV v u∧Look X.env s.heap m x u
 cell:∀ x c,X.env.cells.lookup x=some c→∃ v,s.heap.IsCell c v
 free:H X.env.locals=none
 ou:∀ x c,X.env.cells.lookup x=some c→H c=none
 pin:∀ p∈X.pn++pins,s.heap.get? p.1=some p.2∧H p.1=none∧p.1≠X.env.locals∧p.1 ∉ X.fs∧∀ v,p.2.data≠.cell v
 hok:rK X.prog X.w H s.heap
 len:σ.length=X.N.length
section
variable {X:Cx} {pins:List (Addr×Obj)} {σ:List (Option V)} {H H':Hp} {s:Shared} {h':Heap}
theorem Cx.Ok.b48 (ok:X.Ok) {b:Addr} {o:Obj} (e:X.base.get? b=some o):b ∉ X.fs:=fun hb=>by
 have:=(ok.vS.mem hb).1
 rw [e] at this;cases this
theorem Inv.bs (I:Inv X pins σ H s):∀ b o,X.base.get? b=some o→s.heap.get? b=some o∧H b=none:=fun b o e =>
 ⟨I.base.keep b o (I.ok.bs b o e).1 (I.ok.bs b o e).2 (I.ok.b48 e) (I.ok.OS b o e),I.base.free b o (I.ok.bs b o e).1 (I.ok.bs b o e).2 (I.ok.OS b o e)⟩
theorem Inv.bk (I:Inv X pins σ H s):∀ b o,X.base.get? b=some o→s.heap.get? b=some o:=fun b o e=>(I.bs b o e).1
theorem Inv.mod (I:Inv X pins σ H s):Mod X.K X.mg X.base:=I.ok.mod
theorem Inv.qW (I:Inv X pins σ H s):X.K.In s.heap:=I.ok.mod.kin.keeps I.bk
theorem Inv.lt (I:Inv X pins σ H s):X.env.locals < s.heap.objs.size:=let ⟨_,hn,_⟩:=I.loc;hn.lt
theorem Inv.sz (I:Inv X pins σ H s):X.s₀.heap.objs.size≤s.heap.objs.size:=Nat.le_trans I.ok.above (Nat.le_of_lt I.lt)
theorem Inv.a2g (I:Inv X pins σ H s) {a:Addr} (h:s.heap.objs.size≤a):a ∉ X.fs:=fun hb=>by
 obtain ⟨_,o,ho,_⟩:=I.ok.vS.mem hb
 exact absurd (Nat.lt_of_lt_of_le (Heap.lt_size ho) (Nat.le_trans I.sz h)) (Nat.lt_irrefl _)
theorem Inv.cne (I:Inv X pins σ H s):∀ x c,X.env.cells.lookup x=some c→c≠X.env.locals:=fun x c e z=>by
 obtain ⟨v,o,ho,hd⟩:=I.cell x c e
 obtain ⟨m,⟨o',es,ep,ho',hd',_⟩,_⟩:=I.loc
 rw [z,ho'] at ho;cases ho;rw [hd'] at hd;cases hd
theorem Inv.vS (I:Inv X pins σ H s):s.heap.FunFrames X.base X.outer:=by
 have all:∀ (l:List Env),(∀ b∈frs l,b∈X.fs)→X.s₀.heap.FunFrames X.base l→s.heap.FunFrames X.base l:=by
  intro l
  induction l with
  | nil=>intro _ _;trivial
  | cons env r ih =>
   intro hs hl
   obtain ⟨hk,⟨L,o,hf,hn,ho,hd⟩,hr⟩:=hl
   have hL:L∈X.fs:=hs L (by unfold frs;rw [List.filterMap_cons,hf];exact List.mem_cons_self)
   obtain ⟨sl,e⟩:=I.base.slot L o ho (I.ok.ZZ L hL) hL fun z=>I.ok.QM L z hL
   exact ⟨hk,⟨L,_,hf,hn,e,hd⟩,ih (fun b hb=>hs b (by unfold frs;rw [List.filterMap_cons,hf];exact List.mem_cons_of_mem _ hb)) hr⟩
 exact all X.outer (fun _ hb=>hb) I.ok.vS
theorem Inv.stack (I:Inv X pins σ H s):s.heap.FunFrames X.base X.stack:=by
 rcases I.ok.stk with e | ⟨e,hf⟩
 ·rw [e];exact I.vS
 ·rw [e]
  obtain ⟨m,hn,_⟩:=I.loc
  refine .cons (by rw [I.ok.kind];decide) hf hn ?_ I.vS
  exact Heap.get?_none_of_le (Nat.le_trans I.ok.Uy I.ok.above)
theorem Inv.Ak (I:Inv X pins σ H s):∀ b∈frs X.stack,b∈X.env.locals::X.fs:=fun b hb=>by
 rcases I.ok.stk with e | ⟨e,hf⟩
 ·rw [e] at hb;exact List.mem_cons_of_mem _ hb
 ·rw [e] at hb
  unfold frs at hb
  rw [List.filterMap_cons,hf] at hb
  exact hb
theorem Inv.J0 (I:Inv X pins σ H s):∀ b∈frs X.stack,H b=none:=fun b hb=>by
 rcases List.mem_cons.mp (I.Ak b hb) with e | hb
 ·rw [e];exact I.free
 ·obtain ⟨_,o,ho,_⟩:=I.ok.vS.mem hb
  exact I.base.free b o ho (I.ok.ZZ b hb) fun z=>I.ok.QM b z hb
theorem Inv.step {g':Array GenState} {t':Nat} {d':Drawn} {ch:List Addr} (I:Inv X pins σ H s)
  (hch:∀ b∈ch,(b∈X.ex∨X.s₀.heap.objs.size≤b)∧b≠X.env.locals∧(∀ x c,X.env.cells.lookup x=some c→c≠b)∧∀ p∈X.pn++pins,p.1≠b)
  (keep:∀ b o,b≠X.env.locals→b ∉ X.fs→b ∉ ch→s.heap.get? b=some o→H b=none→h'.get? b=some o)
  (slot:∀ b o,b≠X.env.locals→b∈X.fs→b ∉ ch→s.heap.get? b=some o→H b=none→∃ sl,h'.get? b=some { o with slots:=sl }) (free:∀ b o,b ∉ ch→s.heap.get? b=some o→H b=none→H' b=none)
  (there:∀ b o,b ∉ ch→s.heap.get? b=some o→∃ o',h'.get? b=some o')
  (tups:∀ b xs,H b=some (.tup xs)→H' b=some (.tup xs)) (y9:∀ b o u,H b=some (.Ja o u)→H' b=some (.Ja o u)) (Ai:∀ b ps,H b=some (.U5 ps)→∃ more,H' b=some (.U5 (ps++more)))
  (ns:∀ m,s.heap.Ns X.env.locals m→h'.Ns X.env.locals m) (hok:rK X.prog X.w H' h') (hg:AllBare g') :
  Inv X pins σ H' { s with heap:=h',gens:=g',drawn:=d',toks:=t' }:=by
 have neL:∀ b o,X.s₀.heap.get? b=some o→b≠X.env.locals:=fun b o e=>Nat.ne_of_lt (Nat.lt_of_lt_of_le (Heap.lt_size e) I.ok.above)
 have neC:∀ b o,X.s₀.heap.get? b=some o→b ∉ X.ex→b ∉ ch:=fun b o e hx hb=>by
  rcases (hch b hb).1 with z | z
  ·exact hx z
  ·exact absurd (Nat.lt_of_lt_of_le (Heap.lt_size e) z) (Nat.lt_irrefl _)
 have cellK:∀ x c,X.env.cells.lookup x=some c→∀ v,s.heap.IsCell c v→h'.IsCell c v:=fun x c e v ⟨o,ho,hd⟩=>by
  have nch:c ∉ ch:=fun z=>(hch c z).2.2.1 x c e rfl
  by_cases hc:c∈X.fs
  ·obtain ⟨sl,q⟩:=slot c o (I.cne x c e) hc nch ho (I.ou x c e)
   exact ⟨_,q,hd⟩
  ·exact ⟨o,keep c o (I.cne x c e) hc nch ho (I.ou x c e),hd⟩
 refine ⟨I.ok,I.os,hg,⟨fun b o e n hb hx=>?_,fun b o e n hb hx=>?_,fun b o e n hx=>?_,fun b o e hx=>?_,fun b xs e=>tups b xs (I.base.tups b xs e),fun b o xs e=>y9 b o xs (I.base.y9 b o xs e),fun b ps e=>?_⟩,?_,fun x c e=>?_,?_,fun x c e=>?_,fun p hp=>?_,hok,I.len⟩
 ·exact keep b o (neL b o e) hb (neC b o e hx) (I.base.keep b o e n hb hx) (I.base.free b o e n hx)
 ·obtain ⟨sl,e1⟩:=I.base.slot b o e n hb hx
  obtain ⟨sl',e2⟩:=slot b _ (neL b o e) hb (neC b o e hx) e1 (I.base.free b o e n hx)
  exact ⟨sl',e2⟩
 ·obtain ⟨o',e1⟩:=I.base.there b o e hx
  exact free b o' (neC b o e hx) e1 (I.base.free b o e n hx)
 ·obtain ⟨o',e1⟩:=I.base.there b o e hx
  exact there b o' (neC b o e hx) e1
 ·obtain ⟨m1,e1⟩:=I.base.Ai b ps e
  obtain ⟨m2,e2⟩:=Ai b _ e1
  exact ⟨m1++m2,by rw [e2,Array.append_assoc]⟩
 ·obtain ⟨m,hn,hl⟩:=I.loc
  refine ⟨m,ns m hn,fun i x v e1 e2 e3=>?_⟩
  obtain ⟨u,r,l⟩:=hl i x v e1 e2 e3
  refine ⟨u,r,?_⟩
  rcases l with l | ⟨k,c,e,z⟩
  ·exact .inl l
  ·exact .inr ⟨k,c,e,cellK x c e _ z⟩
 ·obtain ⟨v,z⟩:=I.cell x c e
  exact ⟨v,cellK x c e v z⟩
 ·obtain ⟨m,⟨o,_,_,ho,_⟩,_⟩:=I.loc
  exact free _ o (fun z=>(hch _ z).2.1 rfl) ho I.free
 ·obtain ⟨v,o,ho,hd⟩:=I.cell x c e
  exact free c o (fun z=>(hch c z).2.2.1 x c e rfl) ho (I.ou x c e)
 ·obtain ⟨e,n,ne,nf,d⟩:=I.pin p hp
  have nch:p.1 ∉ ch:=fun z=>(hch p.1 z).2.2.2 p hp rfl
  exact ⟨keep p.1 p.2 ne nf nch e n,free p.1 p.2 nch e n,ne,nf,d⟩
theorem Inv.un {t':Nat} (I:Inv X pins σ H s) (u:Un X.fs [] H H' s.heap h') (hok:rK X.prog X.w H' h'):Inv X pins σ H' { s with heap:=h',toks:=t' }:=by
 obtain ⟨m,⟨o,es,ep,ho,r⟩,_⟩:=id I.loc
 obtain ⟨sl,hL⟩:=u.any ho I.free (by simp)
 exact I.step (g':=s.gens) (d':=s.drawn) (ch:=[]) (fun _ z=>nomatch z) (fun b o _ hb _ e n=>u.keep b o e n hb (by simp)) (fun b o _ hb _ e n=>u.slot b o e n hb (by simp)) (fun b o _ e n=>u.free b o e n (by simp)) (fun b o _ e=>u.there b o e (by simp)) u.tups u.y9 u.Ai (fun m' hm=>by
  obtain ⟨o',es',zb,ho',r'⟩:=hm
  rw [ho] at ho';cases ho'
  exact ⟨_,es',zb,hL,r'⟩) hok I.bare
theorem Inv.call {g':Array GenState} {t':Nat} {d':Drawn} {ch:List Addr} (I:Inv X pins σ H s) (u:Un (frs X.stack) ch H H' s.heap h') (hok:rK X.prog X.w H' h') (hg:AllBare g')
  (hch:∀ b∈ch,(b∈X.ex∨X.s₀.heap.objs.size≤b)∧b≠X.env.locals∧(∀ x c,X.env.cells.lookup x=some c→c≠b)∧∀ p∈X.pn++pins,p.1≠b) :
  Inv X pins σ H' { s with heap:=h',gens:=g',drawn:=d',toks:=t' }:=by
 obtain ⟨m,⟨o,es,ep,ho,r⟩,_⟩:=id I.loc
 obtain ⟨sl,hL⟩:=u.any ho I.free fun z=>(hch _ z).2.1 rfl
 exact I.step (ch:=ch) hch (fun b o hL hb hc e n=>u.keep b o e n (fun z=>(List.mem_cons.mp (I.Ak b z)).elim hL hb) hc) (fun b o _ _ hc e n=>u.any e n hc) (fun b o hc e n=>u.free b o e n hc) (fun b o hc e=>u.there b o e hc) u.tups u.y9 u.Ai (fun m' hm=>by
  obtain ⟨o',es',zb,ho',r'⟩:=hm
  rw [ho] at ho';cases ho'
  exact ⟨_,es',zb,hL,r'⟩) hok hg
theorem Inv.turned {t':Nat} {it:Addr} (I:Inv X pins σ H s) (k:∀ b o,b≠it→s.heap.get? b=some o→h'.get? b=some o) (hn:H it=none) (hL:it≠X.env.locals)
  (h1:it∈X.ex∨X.s₀.heap.objs.size≤it) (h2:∀ x c,X.env.cells.lookup x=some c→c≠it) (h3:∀ p∈X.pn++pins,p.1≠it):Inv X pins σ H { s with heap:=h',toks:=t' }:=by
 have nit:∀ b u,H b=some u→b≠it:=fun b u e z=>by rw [z,hn] at e;cases e
 refine I.step (g':=s.gens) (d':=s.drawn) (ch:=[it]) (fun b hb=>?_) (fun b o _ _ hc e _=>k b o (fun z=>hc (by simp [z])) e) (fun b o _ _ hc e _=>⟨o.slots,k b o (fun z=>hc (by simp [z])) e⟩) (fun _ _ _ _ n=>n)
  (fun b o hc e=>⟨o,k b o (fun z=>hc (by simp [z])) e⟩) (fun _ _ e=>e) (fun _ _ _ e=>e) (fun b ps e=>⟨#[],by rw [e];simp⟩) (fun m hm=>?_) (fun b u e=>?_) I.bare
 ·have e:b=it:=by simpa using hb
  subst e
  exact ⟨h1,hL,h2,h3⟩
 ·obtain ⟨o,es,ep,ho,r⟩:=hm
  exact ⟨o,es,ep,k _ o (Ne.symm hL) ho,r⟩
 ·refine (I.hok b u e).stay (fun c v hc q=>k c v ?_ q) (fun _ q=>q) fun _ _ q=>q
  rcases hc with z | z
  ·rw [z];exact nit b u e
  ·exact nit c _ z
theorem Inv.tok (I:Inv X pins σ H s) (t:Nat):Inv X pins σ H { s with toks:=t }:=I.un (h':=s.heap) (t':=t) Un.refl I.hok
theorem Inv.kept {t':Nat} (I:Inv X pins σ H s) (k:∀ b u,s.heap.get? b=some u→h'.get? b=some u):Inv X pins σ H { s with heap:=h',toks:=t' }:=I.un (Un.kept k) (I.hok.kept k)
theorem Inv.laid {a:Addr} {o:HO} {t':Nat} (I:Inv X pins σ H s) (k:∀ b u,s.heap.get? b=some u→h'.get? b=some u) (hp:s.heap.objs.size≤a) (new:dJ X.prog X.w (upd H a o) h' a o) :
  Inv X pins σ (upd H a o) { s with heap:=h',toks:=t' }:=I.un (Un.laid k hp (I.hok.fresh hp)) (I.hok.laid k hp new)
theorem Inv.write {x e:Addr} {o:HO} {t':Nat} (I:Inv X pins σ H s) (mu:Mut (H x)) (he:e=x∨H e=some (.own x)) (k:∀ b u,b≠e→s.heap.get? b=some u→h'.get? b=some u) (heo:∃ u,h'.get? e=some u)
  (new:dJ X.prog X.w (upd H x o) h' x o):Inv X pins σ (upd H x o) { s with heap:=h',toks:=t' }:=I.un (Un.write mu he k heo) (I.hok.write mu he k heo new)
theorem Inv.weak {σ':List (Option V)} (I:Inv X pins σ H s) (hl:σ'.length=σ.length) (w:∀ (i:Nat) v,σ'[i]?=some (some v)→σ[i]?=some (some v)):Inv X pins σ' H s :=
 ⟨I.ok,I.os,I.bare,I.base,let ⟨m,hn,hl'⟩:=I.loc;⟨m,hn,fun i x v e1 e2 e3=>hl' i x v e1 (w i v e2) e3⟩,I.cell,I.free,I.ou,I.pin,I.hok,hl.trans I.len⟩
theorem Inv.wA {xx:List (Addr×Obj)} (I:Inv X pins σ H s) (h:∀ p∈xx,s.heap.get? p.1=some p.2∧H p.1=none∧p.1≠X.env.locals∧p.1 ∉ X.fs∧∀ v,p.2.data≠.cell v):Inv X xx σ H s :=
 ⟨I.ok,I.os,I.bare,I.base,I.loc,I.cell,I.free,I.ou,fun p hp=>(List.mem_append.mp hp).elim (fun z=>I.pin p (List.mem_append_left _ z)) (h p),I.hok,I.len⟩
theorem Dg {N:List Str} (hN:N.Nodup) {i j:Nat} {x:Str} (a:N[i]?=some x) (b:N[j]?=some x):i=j:=by
 obtain ⟨h1,e1⟩:=List.getElem?_eq_some_iff.mp a
 obtain ⟨h2,e2⟩:=List.getElem?_eq_some_iff.mp b
 exact (List.getElem_inj hN).mp (e1.trans e2.symm)
theorem zB {M:Model} {A:Around} {E:Value→Shared→Prop} {i:Nat} {x:Str} {v:V} {u:Value} {Q:Unit→Shared→Prop} (I:Inv X pins σ H s) (hN:X.N.Nodup) (hi:X.N[i]?=some x) (hx:Loc X.env.scope x) (r:RelV v u)
  (h:∀ s',Inv X pins (σ.set i (some v)) H s'→(∃ a,Heap.SameBut a s.heap s'.heap∧(a=X.env.locals∨X.env.cells.lookup x=some a))→Q () s') (hf:X.fn x=true∨X.env.scope.names.lookup x=some .local:=by first | exact .inl rfl | exact .inr rfl | assumption):wpAny M A (storeName X.env x u) Q E s:=by
 obtain ⟨m,hn,hl⟩:=id I.loc
 have hcls:(X.env.scope.kind == .class || (X.env.scope.kind == .module && X.env.locals != X.env.globals))=false:=by rw [I.ok.kind];rfl
 have hiσ:i < σ.length:=by rw [I.len];exact (List.getElem?_eq_some_iff.mp hi).1
 have cne:=I.cne
 have tracked:∀ {a:Addr} {h':Heap},(∃ o,s.heap.get? a=some o∧H a=none)→Heap.SameBut a s.heap h'→rK X.prog X.w H h':=fun {a h'} ha hs b ob e=>by
  obtain ⟨_,_,hfree⟩:=ha
  refine (I.hok b ob e).stay (fun c w' hc q=>(hs.2 c ?_).trans q) (fun _ q=>q) fun _ _ q=>q
  rintro rfl
  rcases hc with rfl | hc
  ·rw [hfree] at e;cases e
  ·rw [hfree] at hc;cases hc
 rcases hx with hk | hk
 ·refine wpAny_storeName_local hk hn (fun h' hn' hs=>?_) hcls
  obtain ⟨oL,_,_,hoL,_⟩:=id hn
  refine h _ ⟨I.ok,I.os,I.bare,⟨fun b o e n hb hx=>?_,fun b o e n hb hx=>?_,I.base.free,fun b o e hx=>?_,I.base.tups,I.base.y9,I.base.Ai⟩,⟨_,hn',fun j y v' e1 e2 e3=>?_⟩,fun y c e=>?_,I.free,I.ou,fun p hp=>?_,tracked ⟨oL,hoL,I.free⟩ hs,by simpa using I.len⟩ ⟨_,hs,.inl rfl⟩
  ·exact (hs.2 b (Nat.ne_of_lt (Nat.lt_of_lt_of_le (Heap.lt_size e) I.ok.above))).trans (I.base.keep b o e n hb hx)
  ·obtain ⟨sl,e1⟩:=I.base.slot b o e n hb hx
   exact ⟨sl,(hs.2 b (Nat.ne_of_lt (Nat.lt_of_lt_of_le (Heap.lt_size e) I.ok.above))).trans e1⟩
  ·obtain ⟨o',e1⟩:=I.base.there b o e hx
   exact ⟨o',(hs.2 b (Nat.ne_of_lt (Nat.lt_of_lt_of_le (Heap.lt_size e) I.ok.above))).trans e1⟩
  ·by_cases hj:j=i
   ·subst hj
    rw [hi] at e1;cases e1
    rw [List.getElem?_set_self hiσ] at e2
    cases e2
    exact ⟨u,r,.inl ⟨hk,by simp⟩⟩
   ·rw [List.getElem?_set_ne (Ne.symm hj)] at e2
    obtain ⟨u',r',q⟩:=hl j y v' e1 e2 e3
    refine ⟨u',r',?_⟩
    rcases q with ⟨k,e⟩ | ⟨k,c,e,z⟩
    ·refine .inl ⟨k,?_⟩
     have:y≠x:=fun e=>hj (Dg hN e1 (e ▸ hi))
     simp [this,e]
    ·exact .inr ⟨k,c,e,z.sameBut hs (cne y c e)⟩
  ·obtain ⟨w',z⟩:=I.cell y c e
   exact ⟨w',z.sameBut hs (cne y c e)⟩
  ·obtain ⟨e,n,ne,nf,d⟩:=I.pin p hp
   exact ⟨(hs.2 p.1 ne).trans e,n,ne,nf,d⟩
 ·have hfn:X.fn x=true:=by
   rcases hf with z | z
   ·exact z
   ·rw [z] at hk;cases hk
  obtain ⟨c,hc⟩:=I.ok.has x (.inl hk)
  obtain ⟨w',z⟩:=I.cell x c hc
  refine wpAny_storeName_cell I.ok.kind hk hc z (fun h' hc' hs=>?_)
  obtain ⟨oc,hoc,b8Y⟩:=id z
  refine h { s with heap:=h' } ⟨I.ok,I.os,I.bare,⟨fun b o e n hb hx=>?_,fun b o e n hb hx=>?_,I.base.free,fun b o e hx=>?_,I.base.tups,I.base.y9,I.base.Ai⟩,⟨m,hn.sameBut hs (Ne.symm (cne x c hc)),fun j y v' e1 e2 e3=>?_⟩,fun y c' e=>?_,I.free,I.ou,fun p hp=>?_,tracked ⟨oc,hoc,I.ou x c hc⟩ hs,by simpa using I.len⟩ ⟨c,hs,.inr hc⟩
  ·exact (hs.2 b (Nat.ne_of_lt (Nat.lt_of_lt_of_le (Heap.lt_size e) (I.ok.cab x c hfn hc)))).trans (I.base.keep b o e n hb hx)
  ·obtain ⟨sl,e1⟩:=I.base.slot b o e n hb hx
   exact ⟨sl,(hs.2 b (Nat.ne_of_lt (Nat.lt_of_lt_of_le (Heap.lt_size e) (I.ok.cab x c hfn hc)))).trans e1⟩
  ·obtain ⟨o',e1⟩:=I.base.there b o e hx
   exact ⟨o',(hs.2 b (Nat.ne_of_lt (Nat.lt_of_lt_of_le (Heap.lt_size e) (I.ok.cab x c hfn hc)))).trans e1⟩
  ·by_cases hj:j=i
   ·subst hj
    rw [hi] at e1;cases e1
    rw [List.getElem?_set_self hiσ] at e2
    cases e2
    exact ⟨u,r,.inr ⟨.inl hk,c,hc,hc'⟩⟩
   ·rw [List.getElem?_set_ne (Ne.symm hj)] at e2
    obtain ⟨u',r',q⟩:=hl j y v' e1 e2 e3
    refine ⟨u',r',?_⟩
    rcases q with q | ⟨k,c',e,z'⟩
    ·exact .inl q
    ·refine .inr ⟨k,c',e,z'.sameBut hs ?_⟩
     rintro rfl
     exact hj (Dg hN e1 (I.ok.inj _ _ _ e hc ▸ hi))
  ·by_cases hcc:c'=c
   ·subst hcc;exact ⟨_,hc'⟩
   ·obtain ⟨w2,z2⟩:=I.cell y c' e
    exact ⟨w2,z2.sameBut hs hcc⟩
  ·obtain ⟨e,n,ne,nf,d⟩:=I.pin p hp
   refine ⟨(hs.2 p.1 ?_).trans e,n,ne,nf,d⟩
   intro q
   rw [q,hoc] at e
   have q':oc=p.2:=Option.some.inj e
   exact d w' (by rw [← q'];exact b8Y)
theorem Ct {M:Model} {A:Around} {E:Value→Shared→Prop} {i:Nat} {x:Str} {v:V} {u:Value} {Q:Unit→Shared→Prop} (I:Inv X pins σ H s) (hN:X.N.Nodup) (hi:X.N[i]?=some x) (hx:Loc X.env.scope x) (r:RelV v u)
  (h:∀ s',Inv X pins (σ.set i (some v)) H s'→Q () s') (hf:X.fn x=true∨X.env.scope.names.lookup x=some .local:=by first | exact .inl rfl | exact .inr rfl | assumption):wpAny M A (storeName X.env x u) Q E s :=
 zB I hN hi hx r (fun s' I' _=>h s' I') hf
theorem Inv.a5g {s':Shared} {ch:List Addr} (I:Inv X pins σ H s) (ho:s'.os=s.os) (u:Un (frs X.stack) ch H H' s.heap s'.heap) (hok:rK X.prog X.w H' s'.heap) (hg:AllBare s'.gens)
  (hch:∀ b∈ch,(b∈X.ex∨X.s₀.heap.objs.size≤b)∧b≠X.env.locals∧(∀ x c,X.env.cells.lookup x=some c→c≠b)∧∀ p∈X.pn++pins,p.1≠b):Inv X pins σ H' s':=by
 obtain ⟨h',g',d',t',o'⟩:=s'
 have e:o'=s.os:=ho
 subst e
 exact I.call (g':=g') (t':=t') (d':=d') u hok hg hch
end
abbrev XK:=Value→Option Addr→Hp→Prop
abbrev St:=List (Option V)
abbrev VK:=V→Hp→Prop
abbrev TE:=St→Hp→VK→Prop
abbrev TT:=St→Hp→(Bool→Hp→Prop)→Prop
abbrev TA:=St→Hp→(List V→Hp→Prop)→Prop
structure Ends where
 nx:St→Hp→Prop
 rt:VK
 bk:St→Hp→Prop:=fun _ _=>False
 ct:St→Hp→Prop:=fun _ _=>False
abbrev TS:=Ends→St→Hp→Prop
def EP (X:Cx) (pins:List (Addr×Obj)) (σ:St) (Q:VK) (u:Value) (s':Shared):Prop:=∃ v H',Inv X pins σ H' s'∧RelV v u∧Q v H'
def TP (X:Cx) (pins:List (Addr×Obj)) (σ:St) (Q:Bool→Hp→Prop) (b:Bool) (s':Shared):Prop:=∃ H',Inv X pins σ H' s'∧Q b H'
def AP (X:Cx) (pins:List (Addr×Obj)) (σ:St) (Q:List V→Hp→Prop) (us:List Value) (s':Shared):Prop:=∃ vs H',Inv X pins σ H' s'∧Vals vs us∧Q vs H'
def SP (X:Cx) (pins:List (Addr×Obj)) (D:Ends) (f:Flow) (s':Shared):Prop :=
 match f with
 | .next=>∃ σ' H',Inv X pins σ' H' s'∧D.nx σ' H'
 | .brk=>∃ σ' H',Inv X pins σ' H' s'∧D.bk σ' H'
 | .cont=>∃ σ' H',Inv X pins σ' H' s'∧D.ct σ' H'
 | .ret u=>∃ v σ' H',Inv X pins σ' H' s'∧RelV v u∧D.rt v H'
def PE (X:Cx) (e:Expr) (t:TE):Prop :=
 ∀ (pins:List (Addr×Obj)) (s:Shared) (σ:St) (H:Hp) (Q:VK),Inv X pins σ H s→t σ H Q→wpAny (model X.prog X.w) X.A (eval e X.env) (EP X pins σ Q) X.xe s
def PT (X:Cx) (e:Expr) (t:TT):Prop :=
 ∀ (pins:List (Addr×Obj)) (s:Shared) (σ:St) (H:Hp) (Q:Bool→Hp→Prop),Inv X pins σ H s→t σ H Q→wpAny (model X.prog X.w) X.A (isTrue e X.env (eval e X.env)) (TP X pins σ Q) X.xe s
def PW (X:Cx) (e:Expr) (t:TT):Prop :=
 ∀ (whole:Sem Value) (pins:List (Addr×Obj)) (s:Shared) (σ:St) (H:Hp) (Q:Bool→Hp→Prop),Inv X pins σ H s→t σ H Q→wpAny (model X.prog X.w) X.A (isTrue e X.env whole) (TP X pins σ Q) X.xe s
theorem PW.pt {X:Cx} {e:Expr} {t:TT} (h:PW X e t):PT X e t:=h _
def PA (X:Cx) (es:List Expr) (t:TA):Prop :=
 ∀ (pos:Pos) (pins:List (Addr×Obj)) (s:Shared) (σ:St) (H:Hp) (Q:List V→Hp→Prop),Inv X pins σ H s→t σ H Q→wpAny (model X.prog X.w) X.A (spliced (backTo pos (starEach es X.env))) (AP X pins σ Q) X.xe s
def PS (X:Cx) (st:Stmt) (t:TS):Prop :=
 ∀ (pins:List (Addr×Obj)) (s:Shared) (σ:St) (H:Hp) (D:Ends),Inv X pins σ H s→t D σ H→wpAny (model X.prog X.w) X.A (exec st X.env) (SP X pins D) X.xe s
def EE (X:Cx) (st:List Stmt) (t:TS):Prop :=
 ∀ (pins:List (Addr×Obj)) (s:Shared) (σ:St) (H:Hp) (D:Ends),Inv X pins σ H s→t D σ H→wpAny (model X.prog X.w) X.A (execs st X.env) (SP X pins D) X.xe s
theorem fG {α:Type} {t:Sem α} {Q Q':α→Shared→Prop} {M:Model} {A:Around} {E:Value→Shared→Prop} {s:Shared} (h:wpAny M A t Q E s) (hQ:∀ a s,Q a s→Q' a s):wpAny M A t Q' E s:=wpAny_mono h hQ fun _ _ x=>x
end L2
namespace L2
open PySem PySem.Spec PyProof.Rows
section
variable {X:Cx}
def a1n (i:Nat):TE:=fun σ H Q=>∃ v,σ[i]?=some (some v)∧Q v H
def tC (v:V):TE:=fun _ H Q=>Q v H
theorem Ys {i:Nat} {x:Str} {pos:Pos} (hN:X.N[i]?=some x) (hv:Vis X.env.scope x) (hd:(x == ("__debug__":Str))=false:=by decide) (hcd:(x == ("__classdict__":Str))=false:=by decide):PE X (.Name x pos) (a1n i):=by
 intro pins s σ H Q I h
 obtain ⟨v,e,h⟩:=h
 obtain ⟨m,hn,hl⟩:=I.loc
 obtain ⟨u,r,l⟩:=hl i x v hN e hv
 have fin:EP X pins σ Q u s:=⟨v,H,I,r,h⟩
 rcases l with ⟨hk,hm⟩ | ⟨hk,c,hc,hcell⟩
 ·exact wpAny_Name (wpAny_loadName_local I.ok.kind hk hn hm fin) hd
 ·rcases hk with hk | hk
  ·exact wpAny_Name (wpAny_loadName_cell I.ok.kind hk hc hcell fin) hd
  ·exact wpAny_Name (wpAny_loadName_free I.ok.kind hk hc hcell fin hcd) hd
theorem aH {i j pos}:PE X (.Constant (.int i) j pos) (tC (.int i)):=fun _ _ _ H _ I h=>wpAny_Constant_int ⟨.int i,H,I.tok _,⟨_,rfl⟩,h⟩
theorem a1S {b j pos}:PE X (.Constant (.bool b) j pos) (tC (.bl b)):=fun _ _ _ H _ I h=>Constant_bool ⟨.bl b,H,I,rfl,h⟩
theorem uz {j pos}:PE X (.Constant .none j pos) (tC .fP):=fun _ _ _ H _ I h=>Constant_none ⟨.fP,H,I,rfl,h⟩
theorem aZ {x j pos}:PE X (.Constant (.str x) j pos) (tC (.str x)):=fun _ _ _ H _ I h=>Calls.Constant_str ⟨.str x,H,I.tok _,⟨_,rfl⟩,h⟩
def Gl (X:Cx) (x:Str):Prop:=X.env.kindOf x=some .globalImplicit
theorem sP {E:Value→Shared→Prop} {pins:List (Addr×Obj)} {s:Shared} {σ:St} {H:Hp} {x:Str} {u:Value} {pos:Pos} {Q:Value→Shared→Prop} (I:Inv X pins σ H s) (hg:Gl X x) (hm:X.mg x=some u) (h:Q u s)
  (hd:(x == ("__debug__":Str))=false:=by decide):wpAny (model X.prog X.w) X.A (eval (.Name x pos) X.env) Q E s :=
 Calls.Name_function_global I.ok.kind hg (Calls.loadGlobal_global (by rw [I.ok.glob];exact I.mod.glob.keeps I.bk) hm h) hd
theorem xR {E:Value→Shared→Prop} {pins:List (Addr×Obj)} {s:Shared} {σ:St} {H:Hp} {x:Str} {u:Value} {pos:Pos} {Q:Value→Shared→Prop} (I:Inv X pins σ H s) (hg:Gl X x) (hm:X.mg x=none) (hv:bootBuiltins x=some u) (h:Q u s)
  (hn:x≠"__name__":=by decide) (hd:(x == ("__debug__":Str))=false:=by decide):wpAny (model X.prog X.w) X.A (eval (.Name x pos) X.env) Q E s:=by
 obtain ⟨mb,h1,h2⟩:=I.mod.blt
 exact Calls.Name_function_global I.ok.kind hg (Calls.loadGlobal_builtin (by rw [I.ok.glob];exact I.mod.glob.keeps I.bk) hm (by rw [I.ok.blt];exact h1.keeps I.bk) ((h2 x hn).trans hv) h) hd
theorem cE {x:Str} {v:V} {u:Value} {pos:Pos} (hg:Gl X x) (hm:X.mg x=some u) (r:RelV v u) (hd:(x == ("__debug__":Str))=false:=by decide):PE X (.Name x pos) (tC v) :=
 fun _ _ _ H _ I h=>sP I hg hm ⟨v,H,I,r,h⟩ hd
variable {a b:Expr} {ta tb:TE} {pos:Pos}
def tB (t:TE):TT:=fun σ H Q=>t σ H fun x H1=>∃ c,x=.bl c∧Q c H1
theorem gM {e:Expr} {t:TE} (h:PE X e t) (he:∀ whole,isTrue e X.env whole=(do let v ← whole;standAt e.pos;holding [v] (truthy v)):=by intro _;rfl):PT X e (tB t):=by
 intro pins s σ H Q I hw
 refine isTrue_plain (fG (h pins s σ H _ I hw) fun v s1 ⟨x,H1,I1,r1,q1⟩=>?_) (he _)
 obtain ⟨d,rfl,q⟩:=q1
 cases r1
 exact wpAny_truthy_bool ⟨H1,I1,q⟩
variable {tA tB':TT} {rest:List Expr}
def a9x (t u:TT):TT:=fun σ H Q=>t σ H fun c H1=>if c=true then u σ H1 Q else Q false H1
def tOr (t u:TT):TT:=fun σ H Q=>t σ H fun c H1=>if c=true then Q true H1 else u σ H1 Q
theorem Sz (ha:PT X a tA):PW X (.BoolOp .And [a] pos) tA:=by
 intro wh pins s σ H Q I h
 refine isTrue_and (fG (ha pins s σ H Q I h) fun c s1 e=>?_)
 cases c with
 | true=>exact isTrue_and_nil e
 | false=>exact e
theorem NX (ha:PT X a tA):PW X (.BoolOp .Or [a] pos) tA:=by
 intro wh pins s σ H Q I h
 refine isTrue_or (fG (ha pins s σ H Q I h) fun c s1 e=>?_)
 cases c with
 | false=>exact isTrue_or_nil e
 | true=>exact e
theorem Yp (ha:PT X a tA) (hb:PW X (.BoolOp .And (b::rest) pos) tB'):PW X (.BoolOp .And (a::b::rest) pos) (a9x tA tB'):=by
 intro wh pins s σ H Q I h
 refine isTrue_and (fG (ha pins s σ H _ I h) fun c s1 ⟨H1,I1,q1⟩=>?_)
 cases c with
 | true=>exact hb wh pins s1 σ H1 Q I1 q1
 | false=>exact ⟨H1,I1,q1⟩
theorem Vr (ha:PT X a tA) (hb:PW X (.BoolOp .Or (b::rest) pos) tB'):PW X (.BoolOp .Or (a::b::rest) pos) (tOr tA tB'):=by
 intro wh pins s σ H Q I h
 refine isTrue_or (fG (ha pins s σ H _ I h) fun c s1 ⟨H1,I1,q1⟩=>?_)
 cases c with
 | true=>exact ⟨H1,I1,q1⟩
 | false=>exact hb wh pins s1 σ H1 Q I1 q1
def a9r (ta tb:TE):TE:=fun σ H Q=>ta σ H fun x H1=>∃ c,x=.bl c∧if c=true then Q (.bl true) H1 else tb σ H1 Q
def a1s (ta:TE):TE:=fun σ H Q=>ta σ H fun x H1=>∃ c,x=.bl c∧Q (.bl (!c)) H1
theorem Yt {op} {t:TE} (h:PE X a t):PE X (.BoolOp op [a] pos) t:=fun pins s σ H Q I hw=>BoolOp_one (h pins s σ H Q I hw)
theorem a1Q (ha:PE X a ta) (hb:PE X (.BoolOp .Or (b::rest) pos) tb):PE X (.BoolOp .Or (a::b::rest) pos) (a9r ta tb):=by
 intro pins s σ H Q I h
 refine BoolOp_or (fG (ha pins s σ H _ I h) fun v s1 ⟨x,H1,I1,r1,q1⟩=>?_)
 obtain ⟨c,rfl,q1⟩:=q1
 cases r1
 refine wpAny_truthy_bool ?_
 cases c with
 | false=>exact hb pins s1 σ H1 Q I1 q1
 | true=>exact ⟨.bl true,H1,I1,rfl,q1⟩
theorem Yu (ha:PE X a ta):PE X (.UnaryOp .Not a pos) (a1s ta):=by
 intro pins s σ H Q I h
 refine UnaryOp_ (fG (ha pins s σ H _ I h) fun v s1 ⟨x,H1,I1,r1,q1⟩=>?_)
 obtain ⟨c,rfl,q1⟩:=q1
 cases r1
 exact not_of (wpAny_truthy_bool ⟨.bl (!c),H1,I1,rfl,q1⟩)
end
end L2
namespace L2
open PySem PySem.Spec PyProof.Rows
def bH (K:PySem.W.Frag) (H:Hp) (a:Addr) (xs:List V):Prop :=
 Rd H a (.lst xs) ∨
  ∃ (o:Obj) (its:Array Value) (n:Nat),K.lookup a=some o∧o.cls=.type "list"∧o.dict=none∧o.data=.seq its n∧its.size≤sizeLine∧Vals xs its.toList
def bG (K:PySem.W.Frag) (H:Hp) (a:Addr) (xs:List V):Prop :=
 Rd H a (.tup xs) ∨
  ∃ (o:Obj) (its:Array Value) (n:Nat),K.lookup a=some o∧o.cls=.type "tuple"∧o.data=.seq its n∧its.size≤sizeLine∧Vals xs its.toList
def c6y:Value→Option V
 | .none=>some .fP
 | .bool b=>some (.bl b)
 | .int i _=>some (.int i)
 | .str x _=>some (.str x)
 | .bytes b _=>some (.MK b)
 | .float b _=>some (.Z2 b)
 | .ref a=>some (.ref a)
 | .type n=>some (.ty n)
 | _=>none
theorem RelV.abs {x:V} {u:Value} (r:RelV x u):c6y u=some x:=by
 cases x with
 | fP=>cases r;rfl
 | bl _=>cases r;rfl
 | int _=>obtain ⟨t,rfl⟩:=r;rfl
 | str _=>obtain ⟨t,rfl⟩:=r;rfl
 | MK _=>obtain ⟨t,rfl⟩:=r;rfl
 | Z2 _=>obtain ⟨t,rfl⟩:=r;rfl
 | ref _=>cases r;rfl
 | ty _=>cases r;rfl
theorem RelV.inj {x y:V} {u:Value} (r:RelV x u) (q:RelV y u):x=y:=Option.some.inj (r.abs.symm.trans q.abs)
theorem Vals.inj:∀ {xs ys:List V} {us:List Value},Vals xs us→Vals ys us→xs=ys
 | _,_,_,.nil,.nil=>rfl
 | _,_,_,.cons r t,.cons r' t'=>by rw [r.inj r',Vals.inj t t']
section
variable {X:Cx} {pins:List (Addr×Obj)} {σ:St} {H:Hp} {s:Shared} {a:Addr} {xs ys:List V}
theorem bH.of {K:PySem.W.Frag} (h:H a=some (.lst xs)):bH K H a xs:=.inl (.inl h)
theorem bG.of {K:PySem.W.Frag} (h:H a=some (.tup xs)):bG K H a xs:=.inl (.inl h)
theorem Inv.list (I:Inv X pins σ H s) (h:bH X.K H a xs):∃ its:List Value,Vals xs its∧PlainL s.heap a its.toArray∧xs.length≤sizeLine:=by
 rcases h with h | ⟨o,its,n,hk,hc,hd,hs,hz,r⟩
 ·obtain ⟨z,its,n,r,e⟩:=h.ok I.hok
  exact ⟨its,r,⟨_,n,e,rfl,rfl,rfl⟩,z⟩
 ·refine ⟨its.toList,r,⟨o,n,I.qW a o hk,hc,hd,by simpa using hs⟩,?_⟩
  have e:=r.length
  simp only [Array.length_toList] at e
  omega
theorem Inv.tuple (I:Inv X pins σ H s) (h:bG X.K H a xs):∃ its:List Value,Vals xs its∧IsTup s.heap a its.toArray∧xs.length≤sizeLine:=by
 rcases h with h | ⟨o,its,n,hk,hc,hs,hz,r⟩
 ·obtain ⟨z,its,r,p⟩:=h.ok I.hok
  exact ⟨its,r,p,z⟩
 ·refine ⟨its.toList,r,⟨o,I.qW a o hk,hc,n,by simpa using hs⟩,?_⟩
  have e:=r.length
  simp only [Array.length_toList] at e
  omega
theorem Inv.Dp (I:Inv X pins σ H s) (h:bH X.K H a xs) (h':bH X.K H a ys):xs=ys:=by
 obtain ⟨its,r,⟨o,n,e,_,_,d⟩,_⟩:=I.list h
 obtain ⟨its',r',⟨o',n',e',_,_,d'⟩,_⟩:=I.list h'
 rw [e] at e';cases e'
 rw [d] at d'
 injection d' with d1 _
 have:its=its':=by simpa using congrArg Array.toList d1
 subst this
 exact r.inj r'
theorem Inv.pM (I:Inv X pins σ H s) (h:bG X.K H a xs) (h':bG X.K H a ys):xs=ys:=by
 obtain ⟨its,r,⟨o,e,_,n,d⟩,_⟩:=I.tuple h
 obtain ⟨its',r',⟨o',e',_,n',d'⟩,_⟩:=I.tuple h'
 rw [e] at e';cases e'
 rw [d] at d'
 injection d' with d1 _
 have:its=its':=by simpa using congrArg Array.toList d1
 subst this
 exact r.inj r'
end
abbrev Cx.yR (X:Cx) (E:Value→Shared→Prop):Cx:={ X with xe:=E }
abbrev Cx.yN (X:Cx):Cx:=X.yR fun _ _=>False
theorem Cx.Ok.yR {X:Cx} (ok:X.Ok) (E:Value→Shared→Prop):(X.yR E).Ok :=
 ⟨ok.mod,ok.kind,ok.glob,ok.blt,ok.above,ok.inj,ok.has,ok.cab,ok.hd,ok.frames,ok.stk,ok.exf,ok.bs,ok.Uy,ok.OS,ok.QM,ok.vS,ok.ZZ⟩
theorem Cx.Ok.oE {X:Cx} {E:Value→Shared→Prop} (ok:(X.yR E).Ok):X.Ok :=
 ⟨ok.mod,ok.kind,ok.glob,ok.blt,ok.above,ok.inj,ok.has,ok.cab,ok.hd,ok.frames,ok.stk,ok.exf,ok.bs,ok.Uy,ok.OS,ok.QM,ok.vS,ok.ZZ⟩
section
variable {X:Cx} {pins:List (Addr×Obj)} {σ:St} {H:Hp} {s:Shared} {E:Value→Shared→Prop}
theorem Inv.yR (I:Inv X pins σ H s) (E:Value→Shared→Prop):Inv (X.yR E) pins σ H s:=⟨I.ok.yR E,I.os,I.bare,I.base,I.loc,I.cell,I.free,I.ou,I.pin,I.hok,I.len⟩
theorem Inv.oE (I:Inv (X.yR E) pins σ H s):Inv X pins σ H s:=⟨I.ok.oE,I.os,I.bare,I.base,I.loc,I.cell,I.free,I.ou,I.pin,I.hok,I.len⟩
theorem SP.oE {D:Ends} {f:Flow} {s':Shared} (h:SP (X.yR E) pins D f s'):SP X pins D f s':=by
 cases f with
 | next=>obtain ⟨σ',H',I,q⟩:=h;exact ⟨σ',H',I.oE,q⟩
 | brk=>obtain ⟨σ',H',I,q⟩:=h;exact ⟨σ',H',I.oE,q⟩
 | cont=>obtain ⟨σ',H',I,q⟩:=h;exact ⟨σ',H',I.oE,q⟩
 | ret u=>obtain ⟨v,σ',H',I,r,q⟩:=h;exact ⟨v,σ',H',I.oE,r,q⟩
theorem EE.yN {st:List Stmt} {t:TS} (h:EE X.yN st t):EE X st t:=fun pins s σ H D I hw =>
 wpAny_mono (h pins s σ H D (I.yR _) hw) (fun _ _ q=>q.oE) fun _ _ z=>False.elim z
end
section
variable {X:Cx} {st:Stmt} {rest:List Stmt} {t u:TS} {e:Expr} {te:TE} {pos:Pos}
def a1u:TS:=fun D σ H=>D.nx σ H
def a1q (t u:TS):TS:=fun D σ H=>t { D with nx:=u D } σ H
theorem bh:EE X [] a1u:=fun _ _ σ H _ I h=>wpAny_execs_nil ⟨σ,H,I,h⟩
theorem ak (h1:PS X st t) (h2:EE X rest u):EE X (st::rest) (a1q t u):=by
 intro pins s σ H D I h
 refine wpAny_execs_cons (fG (h1 pins s σ H { D with nx:=u D } I h) fun f s1 q=>?_)
 cases f with
 | next =>
  obtain ⟨σ',H',I',q⟩:=q
  exact h2 pins s1 σ' H' D I' q
 | ret v=>exact q
 | brk=>exact q
 | cont=>exact q
theorem ao (h1:PS X st t):EE X [st] t:=by
 intro pins s σ H D I h
 refine wpAny_execs_cons (fG (h1 pins s σ H D I h) fun f s1 q=>?_)
 cases f with
 | next=>exact wpAny_execs_nil q
 | ret v=>exact q
 | brk=>exact q
 | cont=>exact q
theorem Inv.quiet {pins:List (Addr×Obj)} {σ:St} {H:Hp} {s:Shared} (I:Inv X pins σ H s):interactive X.env=false:=by simp [interactive,I.ok.kind]
def a1x (te:TE):TS:=fun D σ H=>te σ H fun _ H1=>D.nx σ H1
theorem bB (he:PE X e te) (hs:swapsWith e none pos.line X.env=pure false:=by rfl):PS X (.Expr e pos) (a1x te):=by
 intro pins s σ H D I h
 exact wpAny_Expr_any (fG (he pins s σ H _ I h) fun v s1 ⟨x,H1,I1,r1,q1⟩=>⟨σ,H1,I1,q1⟩) I.quiet hs
def a9q (te:TE):TS:=fun D σ H=>te σ H D.rt
theorem aG (he:PE X e te):PS X (.Return (some e) pos) (a9q te):=by
 intro pins s σ H D I h
 exact wpAny_Return_some (fG (he pins s σ H _ I h) fun v s1 ⟨x,H1,I1,r1,q1⟩=>⟨x,σ,H1,I1,r1,q1⟩)
def a9t (c:TT) (t u:TS):TS:=fun D σ H=>c σ H fun b H1=>if b=true then t D σ H1 else u D σ H1
theorem cA {c:Expr} {a b:List Stmt} {tc:TT} (hc:PT X c tc) (ha:EE X a t) (hb:EE X b u):PS X (.If c a b pos) (a9t tc t u):=by
 intro pins s σ H D I h
 refine wpAny_If (fG (hc pins s σ H _ I h) fun d s1 ⟨H1,I1,q1⟩=>?_)
 cases d with
 | true=>exact ha pins s1 σ H1 D I1 q1
 | false=>exact hb pins s1 σ H1 D I1 q1
end
abbrev TG:=V→St→Hp→(St→Hp→Prop)→Prop
abbrev VR:=List V→St→Hp→(St→Hp→Prop)→Prop
def PG (X:Cx) (target:Expr) (t:TG):Prop :=
 ∀ (pins:List (Addr×Obj)) (s:Shared) (σ:St) (H:Hp) (v:V) (u:Value) (Q:St→Hp→Prop),Inv X pins σ H s→RelV v u→t v σ H Q →
  wpAny (model X.prog X.w) X.A (assign target X.env u) (fun _ s'=>∃ σ' H',Inv X pins σ' H' s'∧Q σ' H') X.xe s
def PGs (X:Cx) (ts:List Expr) (t:VR):Prop :=
 ∀ (pins:List (Addr×Obj)) (s:Shared) (σ:St) (H:Hp) (vs:List V) (us:List Value) (Q:St→Hp→Prop),Inv X pins σ H s→Vals vs us→t vs σ H Q →
  wpAny (model X.prog X.w) X.A (assignInOrder ((assignEach ts X.env).map (·.2)) us) (fun _ s'=>∃ σ' H',Inv X pins σ' H' s'∧Q σ' H') X.xe s
abbrev a0y:=V→V→V→Hp→(Hp→Prop)→Prop
def a5t (X:Cx) (t:a0y):Prop :=
 ∀ (pins:List (Addr×Obj)) (s:Shared) (σ:St) (H:Hp) (o i v:V) (ov iv u:Value) (Q:Hp→Prop),Inv X pins σ H s→RelV o ov→RelV i iv→RelV v u→t o i v H Q →
  wpAny (model X.prog X.w) X.A (setItem ov iv u) (fun _ s'=>∃ H',Inv X pins σ H' s'∧Q H') X.xe s
abbrev TIp:=V→V→Hp→VK→Prop
def PIp (X:Cx) (op:Operator) (t:TIp):Prop :=
 ∀ (pins:List (Addr×Obj)) (s:Shared) (σ:St) (H:Hp) (x y:V) (v u:Value) (Q:VK),Inv X pins σ H s→RelV x v→RelV y u→t x y H Q →
  wpAny (model X.prog X.w) X.A (inplaceOp op v u) (EP X pins σ Q) X.xe s
section
variable {X:Cx} {pos:Pos}
def Qy (i:Nat):TG:=fun v σ H Q=>Q (σ.set i (some v)) H
theorem aN {i:Nat} {x:Str} (hN:X.N.Nodup) (hi:X.N[i]?=some x) (hx:Loc X.env.scope x) (hf:X.fn x=true∨X.env.scope.names.lookup x=some .local:=by first | exact .inl rfl | exact .inr rfl | assumption):PG X (.Name x pos) (Qy i):=by
 intro pins s σ H v u Q I r h
 exact wpAny_assign_Name (Ct I hN hi hx r (fun s' I'=>⟨_,H,I',h⟩) hf)
def b9t:VR:=fun vs σ H Q=>vs=[]∧Q σ H
def a2L (t:TG) (u:VR):VR:=fun vs σ H Q=>∃ v r,vs=v::r∧t v σ H fun σ' H'=>u r σ' H' Q
theorem fU:PGs X [] b9t:=by
 intro pins s σ H vs us Q I r h
 obtain ⟨e,h⟩:=h
 subst e
 cases r
 exact assignInOrder_nil ⟨σ,H,I,h⟩
theorem bq {e:Expr} {es:List Expr} {t:TG} {u:VR} (h1:PG X e t) (h2:PGs X es u)
  (hs:(assignEach (e::es) X.env).map (·.2)=assign e X.env::(assignEach es X.env).map (·.2):=by rfl):PGs X (e::es) (a2L t u):=by
 intro pins s σ H vs us Q I r h
 obtain ⟨v,vr,e1,h⟩:=h
 subst e1
 cases r with
 | cons r rr =>
  rw [hs]
  refine assignInOrder_cons (fG (h1 pins s σ H _ _ _ I r h) fun _ s1 ⟨σ1,H1,I1,q1⟩=>?_)
  exact h2 pins s1 σ1 H1 _ _ Q I1 rr q1
def a2K (K:PySem.W.Frag) (n:Nat) (t:VR):TG:=fun v σ H Q=>∃ a xs,v=.ref a∧bG K H a xs∧xs.length=n∧t xs σ H Q
theorem lQ {es:List Expr} {k:Nat} {t:VR} {n:Nat} (hc:X.calm=true) (h:PGs X es t)
  (hn:(assignEach es X.env).length=n:=by rfl) (hst:(assignEach es X.env).findIdx? (·.1)=none:=by rfl):PG X (.Tuple es k pos) (a2K X.K n t):=by
 intro pins s σ H v u Q I r hw
 obtain ⟨a,xs,e1,hq,hl,hw⟩:=hw
 subst e1
 cases r
 obtain ⟨its,rv,ht,hz⟩:=I.tuple hq
 refine assign_Tuple_tuple (I.ok.hd hc) ht (by simp [hn,← hl,rv.length]) hst fun h' hx=>?_
 have I1:Inv X pins σ H { s with heap:=h' }:=I.kept (t':=s.toks) fun b o e=>hx b o (Nat.ne_of_lt (Heap.lt_size e)) e
 exact h pins _ σ H xs _ Q I1 (by simpa using rv) hw
def XF (te:TE) (g:TG):TS:=fun D σ H=>te σ H fun x H1=>g x σ H1 D.nx
theorem AB {tg e:Expr} {te:TE} {g:TG} (he:PE X e te) (hg:PG X tg g) (hs:swapsWithSole [tg] e pos.line X.env=pure false:=by rfl) (hw:swappedStores [tg] e X.env=pure none:=by rfl)
  (h1:(assignEach [tg] X.env).map (·.2)=[assign tg X.env]:=by rfl):PS X (.Assign [tg] e pos) (XF te g):=by
 intro pins s σ H D I h
 refine wpAny_Assign_stores (fG (he pins s σ H _ I h) fun v s1 ⟨x,H1,I1,r1,q1⟩=>?_) hs hw
 rw [h1]
 exact fG (hg pins s1 σ H1 x v _ I1 r1 q1) fun _ s2 q=>q
theorem aO {i:Nat} {x:Str} {e:Expr} {te:TE} {pos':Pos} (hN:X.N.Nodup) (hi:X.N[i]?=some x) (hx:Loc X.env.scope x) (he:PE X e te) (hs:swapsWith e (some (.Name x pos')) pos.line X.env=pure false:=by rfl) (hf:X.fn x=true∨X.env.scope.names.lookup x=some .local:=by first | exact .inl rfl | exact .inr rfl | assumption) :
  PS X (.Assign [.Name x pos'] e pos) (XF te (Qy i)):=by
 intro pins s σ H D I h
 refine wpAny_Assign_Name (fG (he pins s σ H _ I h) fun v s1 ⟨y,H1,I1,r1,q1⟩=>?_) hs
 exact Ct I1 hN hi hx r1 (fun s2 I2=>⟨_,H1,I2,q1⟩) hf
def a1A (to ti te:TE) (RW:V→V→Hp→VK→Prop) (tip:TIp) (RQ:a0y):TS:=fun D σ H=>to σ H fun o H1=>ti σ H1 fun i H2=>RW o i H2 fun x H3=>te σ H3 fun y H4=>tip x y H4 fun z H5=>RQ o i z H5 fun H6=>D.nx σ H6
def a5v (X:Cx) (t:V→V→Hp→VK→Prop):Prop :=
 ∀ (pins:List (Addr×Obj)) (s:Shared) (σ:St) (H:Hp) (o i:V) (ov iv:Value) (Q:VK),Inv X pins σ H s→RelV o ov→RelV i iv→t o i H Q →
  wpAny (model X.prog X.w) X.A (getItem ov iv) (EP X pins σ Q) X.xe s
theorem SA {o i e:Expr} {to ti te:TE} {RW:V→V→Hp→VK→Prop} {tip:TIp} {RQ:a0y} {op:Operator} {tpos:Pos} (ho:PE X o to) (hi:PE X i ti) (hg:a5v X RW) (he:PE X e te) (hp:PIp X op tip) (hs:a5t X RQ)
  (ha:∀ ov iv new,augStore i ov iv new=(do holding [new,ov,iv] (setItem ov iv new);release [new,ov,iv] [];pure .next):=by intros;rfl):PS X (.AugAssign (.Subscript o i tpos) op e pos) (a1A to ti te RW tip RQ):=by
 intro pins s σ H D I h
 refine wpAny_AugAssign_SubscriptAny (fG (ho pins s σ H _ I h) fun ov s1 ⟨x1,H1,I1,r1,q1⟩=>?_) ha
 refine fG (hi pins s1 σ H1 _ I1 q1) fun iv s2 ⟨x2,H2,I2,r2,q2⟩=>?_
 refine fG (hg pins s2 σ H2 x1 x2 ov iv _ I2 r1 r2 q2) fun old s3 ⟨x3,H3,I3,r3,q3⟩=>?_
 refine fG (he pins s3 σ H3 _ I3 q3) fun v s4 ⟨x4,H4,I4,r4,q4⟩=>?_
 refine fG (hp pins s4 σ H4 x3 x4 old v _ I4 r3 r4 q4) fun new s5 ⟨x5,H5,I5,r5,q5⟩=>?_
 exact fG (hs pins s5 σ H5 x1 x2 x5 ov iv new _ I5 r1 r2 r5 q5) fun _ s6 ⟨H6,I6,q6⟩=>⟨σ,H6,I6,q6⟩
def ipI (f:Int→Int→Int):TIp:=fun x y H Q=>∃ i j,x=.int i∧y=.int j∧Q (.int (f i j)) H
theorem Zr:PIp X .Add (ipI fun i j=>i+j):=by
 intro pins s σ H x y v u Q I r1 r2 h
 obtain ⟨i,j,e1,e2,q⟩:=h
 subst e1;subst e2
 obtain ⟨t,rfl⟩:=r1
 obtain ⟨t',rfl⟩:=r2
 exact iadd_int ⟨.int _,H,I.tok _,⟨_,rfl⟩,q⟩
end
section
variable {X:Cx} {pos:Pos}
end
structure It where
 go:Nat→Hp→Prop
 U3:Nat→Hp→V→Hp→Prop
 stop:Nat→Hp→Prop
def mz (X:Cx) (pins:List (Addr×Obj)) (H:Hp) (b:Addr):Prop :=
 H b=none∧b≠X.env.locals∧b ∉ X.fs∧(b∈X.ex∨X.s₀.heap.objs.size≤b)∧(∀ x c,X.env.cells.lookup x=some c→c≠b)∧∀ p∈X.pn++pins,p.1≠b
theorem Inv.Jb {X:Cx} {pins:List (Addr×Obj)} {σ:St} {H H':Hp} {s:Shared} {b:Addr} (I:Inv X pins σ H s) (hb:s.heap.objs.size≤b) (hn:H' b=none):mz X pins H' b:=by
 refine ⟨hn,Nat.ne_of_gt (Nat.lt_of_lt_of_le I.lt hb),I.a2g hb,.inr (Nat.le_trans I.sz hb),fun x c e z=>?_,fun p hp z=>?_⟩
 ·obtain ⟨v,q⟩:=I.cell x c e
  exact absurd (Nat.lt_of_lt_of_le q.lt (by rw [z];exact hb)) (Nat.lt_irrefl _)
 ·exact absurd (Nat.lt_of_lt_of_le (Heap.lt_size (I.pin p hp).1) (by rw [z];exact hb)) (Nat.lt_irrefl _)
structure Turn (P:Program) (w:World) (K:PySem.W.Frag) (tg:Expr) (J:It) (fp:List Addr) (it:Addr) (tn:Nat→Heap→Prop):Prop where
 mem:it∈fp
 obj:∀ i h,tn i h→∀ b∈fp,∃ o,h.get? b=some o∧∀ v,o.data≠.cell v
 keep:∀ i h h',tn i h→(∀ b∈fp,∀ o,h.get? b=some o→h'.get? b=some o)→tn i h'
 item:∀ (X:Cx),X.prog=P→X.w=w→X.K=K→X.calm=true→∀ (i:Nat) (pins:List (Addr×Obj)) (s:Shared) (σ:St) (H:Hp) (E:Value→Shared→Prop),Inv X pins σ H s→(∀ b∈fp,mz X pins H b)→tn i s.heap→J.go i H →
  wpAny (model P w) X.A (pyNext (.ref it)) (fun r s1=>∃ u,r=some u ∧
   wpAny (model P w) X.A (letOwnedTupleGo tg (.ref it) u) (fun _ s2=>∃ x H',Inv X pins σ H' s2∧RelV x u∧J.U3 i H x H'∧tn (i+1) s2.heap∧∀ b∈fp,H' b=none) E s1) E s
 done:∀ (X:Cx),X.prog=P→X.w=w→X.K=K→X.calm=true→∀ (i:Nat) (pins:List (Addr×Obj)) (s:Shared) (σ:St) (H:Hp) (E:Value→Shared→Prop),Inv X pins σ H s→(∀ b∈fp,mz X pins H b)→tn i s.heap→J.stop i H →
  wpAny (model P w) X.A (pyNext (.ref it)) (fun r s1=>r=none∧Inv X pins σ H s1) E s
 self:∀ (A:Around) (i:Nat) (s:Shared) (Q:Value→Shared→Prop) (E:Value→Shared→Prop),tn i s.heap→Q (.ref it) s→wpAny (model P w) A (pyIter (.ref it)) Q E s
abbrev TI:=St→Hp→(It→Hp→Prop)→Prop
def PIE (X:Cx) (pins:List (Addr×Obj)) (σ:St) (tg:Expr) (R:It→Hp→Prop) (itv:Value) (s2:Shared):Prop :=
 ∃ (it:Addr) (fp:List Addr) (tn:Nat→Heap→Prop) (J:It) (H':Hp),itv=.ref it∧Inv X pins σ H' s2∧Turn X.prog X.w X.K tg J fp it tn∧tn 0 s2.heap∧(∀ b∈fp,mz X pins H' b)∧R J H'
def PI (X:Cx) (tg iter:Expr) (wi:TI):Prop :=
 ∀ (pins:List (Addr×Obj)) (s:Shared) (σ:St) (H:Hp) (R:It→Hp→Prop),Inv X pins σ H s→wi σ H R →
  wpAny (model X.prog X.w) X.A (eval iter X.env) (fun v s1=>wpAny (model X.prog X.w) X.A (pyIter v) (PIE X pins σ tg R) X.xe s1) X.xe s
theorem Qv {M:Model} {A:Around} {E:Value→Shared→Prop} {s:Shared} {tg:Expr} {it:Addr} {u:Value} {o:Obj} {n:String} {vs:Array Value} {Q:Unit→Shared→Prop} (ho:s.heap.get? it=some o) (hc:o.cls=.type n) (hd:o.data=.fields vs)
  (hn:["enumerate","zip","dict_itemiterator","dict_reverseitemiterator","odict_iterator","itertools.zip_longest","itertools.pairwise"].contains n=false) (hQ:Q () s):wpAny M A (letOwnedTupleGo tg (.ref it) u) Q E s:=by
 unfold letOwnedTupleGo
 cases tg <;> first
  | exact wpAny_pure hQ
  | (cases u <;> first
    | exact wpAny_pure hQ
    | (
      refine wpAny_bind (wpAny_load ho ?_)
      rw [hc,hd]
      show wpAny M A (if (["enumerate","zip","dict_itemiterator","dict_reverseitemiterator","odict_iterator","itertools.zip_longest","itertools.pairwise"].contains n && vs[0]? == some (rawInt _))=true then _ else _) Q E s
      rw [if_neg (by intro h;rw [hn,Bool.false_and] at h;cases h)]
      exact wpAny_pure hQ))
def RJ (K:PySem.W.Frag) (a:Addr):It :=
 ⟨fun i H=>∃ xs x,bH K H a xs∧xs[i]?=some x,fun i H x H'=>H'=H∧∀ xs,bH K H a xs→xs[i]?=some x,fun i H=>∃ xs,bH K H a xs∧xs.length≤i⟩
def Rm (K:PySem.W.Frag) (a:Addr):It :=
 ⟨fun i H=>∃ xs x,bG K H a xs∧xs[i]?=some x,fun i H x H'=>H'=H∧∀ xs,bG K H a xs→xs[i]?=some x,fun i H=>∃ xs,bG K H a xs∧xs.length≤i⟩
def Itr (lo:Int) (n:Nat):It:=⟨fun i _=>i < n,fun i H x H'=>H'=H∧x=.int (lo+i),fun i _=>n≤i⟩
theorem zy {P:Program} {w:World} {K:PySem.W.Frag} {tg:Expr} (a it:Addr):Turn P w K tg (RJ K a) [it] it (fun i h=>h.IsListIter it a i) where
 mem:=by simp
 obj:=fun i h st b hb=>by
  have e:b=it:=by simpa using hb
  subst e
  obtain ⟨o,e,c,d⟩:=st
  exact ⟨o,e,fun v z=>by rw [d] at z;cases z⟩
 keep:=fun i h h' st k=>st.at fun o e=>k it (by simp) o e
 item:=by
  intro X hP hw hK hc i pins s σ H E I hf st hg
  subst hP hw hK
  obtain ⟨xs,x,hq,hx⟩:=hg
  obtain ⟨its,rv,p,hz⟩:=I.list hq
  obtain ⟨u,hu,ru⟩:=rv.get hx
  obtain ⟨f0,f1,f2,f3,f4,f5⟩:=hf it (by simp)
  refine wpAny_pyNext_list_item st p.isList (x:=u) (by simpa using hu) fun h' st' sb=>?_
  have I1:Inv X pins σ H { s with heap:=h' }:=I.turned (t':=s.toks) (fun b o hb e=>(sb.2 b hb).trans e) f0 f1 f3 f4 f5
  obtain ⟨o,e,c,d⟩:=id st'
  exact ⟨u,rfl,Qv (s:={ s with heap:=h' }) e c d (by decide) ⟨x,H,I1,ru,⟨rfl,fun ys hy=>by rw [I.Dp hy hq];exact hx⟩,st',fun b hb=>(hf b hb).1⟩⟩
 done:=by
  intro X hP hw hK hc i pins s σ H E I hf st hg
  subst hP hw hK
  obtain ⟨xs,hq,hx⟩:=hg
  obtain ⟨its,rv,p,hz⟩:=I.list hq
  obtain ⟨f0,f1,f2,f3,f4,f5⟩:=hf it (by simp)
  have hl:=rv.length
  exact wpAny_pyNext_list_end (I.ok.hd hc) st p.isList (by simp;omega) fun h' eb=>⟨rfl,I.turned (t':=s.toks) (fun b o hb e=>eb b o hb e) f0 f1 f3 f4 f5⟩
 self:=fun _ _ _ _ _ st h=>wpAny_pyIter_listiter st h
theorem wQ {P:Program} {w:World} {K:PySem.W.Frag} {tg:Expr} (a it:Addr):Turn P w K tg (Rm K a) [it] it (fun i h=>h.IsTupleIter it a i) where
 mem:=by simp
 obj:=fun i h st b hb=>by
  have e:b=it:=by simpa using hb
  subst e
  obtain ⟨o,e,c,d⟩:=st
  exact ⟨o,e,fun v z=>by rw [d] at z;cases z⟩
 keep:=fun i h h' st k=>st.at fun o e=>k it (by simp) o e
 item:=by
  intro X hP hw hK hc i pins s σ H E I hf st hg
  subst hP hw hK
  obtain ⟨xs,x,hq,hx⟩:=hg
  obtain ⟨its,rv,p,hz⟩:=I.tuple hq
  obtain ⟨u,hu,ru⟩:=rv.get hx
  obtain ⟨f0,f1,f2,f3,f4,f5⟩:=hf it (by simp)
  refine wpAny_pyNext_tuple_item st (show s.heap.IsTuple a its.toArray from p) (x:=u) (by simpa using hu) fun h' st' sb=>?_
  have I1:Inv X pins σ H { s with heap:=h' }:=I.turned (t':=s.toks) (fun b o hb e=>(sb.2 b hb).trans e) f0 f1 f3 f4 f5
  obtain ⟨o,e,c,d⟩:=id st'
  exact ⟨u,rfl,Qv (s:={ s with heap:=h' }) e c d (by decide) ⟨x,H,I1,ru,⟨rfl,fun ys hy=>by rw [I.pM hy hq];exact hx⟩,st',fun b hb=>(hf b hb).1⟩⟩
 done:=by
  intro X hP hw hK hc i pins s σ H E I hf st hg
  subst hP hw hK
  obtain ⟨xs,hq,hx⟩:=hg
  obtain ⟨its,rv,p,hz⟩:=I.tuple hq
  obtain ⟨f0,f1,f2,f3,f4,f5⟩:=hf it (by simp)
  have hl:=rv.length
  exact wpAny_pyNext_tuple_end (I.ok.hd hc) st (show s.heap.IsTuple a its.toArray from p) (by simp;omega) fun h' eb=>⟨rfl,I.turned (t':=s.toks) (fun b o hb e=>eb b o hb e) f0 f1 f3 f4 f5⟩
 self:=fun _ _ _ _ _ st h=>wpAny_pyIter_tupleiter st h
theorem GZ {P:Program} {w:World} {K:PySem.W.Frag} {tg:Expr} (it:Addr) (lo:Int) (n:Nat):Turn P w K tg (Itr lo n) [it] it (fun i h=>IsRangeIter h it (lo+(i:Nat)*1) ((n:Int) - (i:Nat)) 1) where
 mem:=by simp
 obj:=fun i h st b hb=>by
  have e:b=it:=by simpa using hb
  subst e
  exact ⟨_,st,fun v z=>by
   have z':Data.fields _=Data.cell v:=z
   cases z'⟩
 keep:=fun i h h' st k=>k it (by simp) _ st
 item:=by
  intro X hP hw hK hc i pins s σ H E I hf st hg
  subst hP hw hK
  obtain ⟨f0,f1,f2,f3,f4,f5⟩:=hf it (by simp)
  have W:=Walks.range (prog:=X.prog) (w:=X.w) (I.ok.hd hc) it lo 1 n
  refine W.item i s _ _ hg st fun v h' tk hv st' kk=>?_
  obtain ⟨t,rfl⟩:=hv
  have I1:Inv X pins σ H { s with heap:=h',toks:=tk }:=I.turned (fun b o hb e=>kk b o (by simpa using hb) e) f0 f1 f3 f4 f5
  refine ⟨_,rfl,Qv (s:={ s with heap:=h',toks:=tk }) (n:="range_iterator") st' rfl rfl (by decide) ⟨.int (lo+i),H,I1,⟨t,?_⟩,⟨rfl,rfl⟩,st',fun b hb=>(hf b hb).1⟩⟩
  rw [Int.mul_one]
 done:=by
  intro X hP hw hK hc i pins s σ H E I hf st hg
  subst hP hw hK
  obtain ⟨f0,f1,f2,f3,f4,f5⟩:=hf it (by simp)
  exact wpAny_pyNext_range_end (I.ok.hd hc) st (by have:n≤i:=hg;omega) fun h' eb=>⟨rfl,I.turned (t':=s.toks) (fun b o hb e=>eb b o hb e) f0 f1 f3 f4 f5⟩
 self:=fun _ _ _ _ _ st h=>wpAny_pyIter_rangeiter st h
end L2
namespace L2
open PySem PySem.Spec PyProof.Rows
section
variable {X:Cx} {tg:Expr}
def a2s (K:PySem.W.Frag) (tl:TE):TI:=fun σ H R=>tl σ H fun x H1=>∃ a,x=.ref a∧(∃ xs,bH K H1 a xs)∧R (RJ K a) H1
def b8f (K:PySem.W.Frag) (tl:TE):TI:=fun σ H R=>tl σ H fun x H1=>∃ a,x=.ref a∧(∃ xs,bG K H1 a xs)∧R (Rm K a) H1
theorem gf {l:Expr} {tl:TE} (hl:PE X l tl):PI X tg l (a2s X.K tl):=by
 intro pins s σ H R I h
 refine fG (hl pins s σ H _ I h) fun v s1 ⟨x,H1,I1,r1,q1⟩=>?_
 obtain ⟨a,e,⟨xs,hq⟩,q⟩:=q1
 subst e
 cases r1
 obtain ⟨its,rv,p,hz⟩:=I1.list hq
 refine wpAny_pyIter_list p.isList ?_
 refine ⟨s1.heap.objs.size,[s1.heap.objs.size],_,_,H1,rfl,I1.kept (t':=s1.toks) fun b o e=>Heap.get?_push_of_some _ e,zy a _,⟨_,Heap.get?_push_size _ rfl,rfl,rfl⟩,fun b hb=>?_,q⟩
 have e:b=s1.heap.objs.size:=by simpa using hb
 subst e
 exact I1.Jb (Nat.le_refl _) (I1.hok.fresh (Nat.le_refl _))
theorem iA {l:Expr} {tl:TE} (hl:PE X l tl):PI X tg l (b8f X.K tl):=by
 intro pins s σ H R I h
 refine fG (hl pins s σ H _ I h) fun v s1 ⟨x,H1,I1,r1,q1⟩=>?_
 obtain ⟨a,e,⟨xs,hq⟩,q⟩:=q1
 subst e
 cases r1
 obtain ⟨its,rv,p,hz⟩:=I1.tuple hq
 refine wpAny_pyIter_tuple (show s1.heap.IsTuple a its.toArray from p) ?_
 refine ⟨s1.heap.objs.size,[s1.heap.objs.size],_,_,H1,rfl,I1.kept (t':=s1.toks) fun b o e=>Heap.get?_push_of_some _ e,wQ a _,⟨_,Heap.get?_push_size _ rfl,rfl,rfl⟩,fun b hb=>?_,q⟩
 have e:b=s1.heap.objs.size:=by simpa using hb
 subst e
 exact I1.Jb (Nat.le_refl _) (I1.hok.fresh (Nat.le_refl _))
theorem NU {pins:List (Addr×Obj)} {σ:St} {H:Hp} {s:Shared} {R:It→Hp→Prop} {E:Value→Shared→Prop} {lo hi:Int} {t u v:Tok} {tk:Nat} (I:Inv X pins σ H s) (h1:-(2 ^ 62)≤lo) (h2:lo < 2 ^ 62) (h3:-(2 ^ 62)≤hi) (h4:hi < 2 ^ 62)
  (q:R (Itr lo (hi - lo).toNat) H):wpAny (model X.prog X.w) X.A (pyIter (.ref s.heap.objs.size)) (PIE X pins σ tg R) E { s with heap:=s.heap.push { cls:=.type "range",data:=.fields #[.int lo t,.int hi u,.int 1 v] },toks:=tk }:=by
 refine wpAny_pyIter_range (IsRange.new ..) (small_one h1 h2 h3 h4) ?_
 have I1:Inv X pins σ H { s with heap:=s.heap.push { cls:=.type "range",data:=.fields #[.int lo t,.int hi u,.int 1 v] },toks:=tk }:=I.kept fun b o e=>Heap.get?_push_of_some _ e
 refine ⟨(s.heap.push { cls:=.type "range",data:=.fields #[.int lo t,.int hi u,.int 1 v] }).objs.size,[(s.heap.push { cls:=.type "range",data:=.fields #[.int lo t,.int hi u,.int 1 v] }).objs.size],_,_,H,rfl,
  I1.kept (t':=tk) fun b o e=>Heap.get?_push_of_some _ e,GZ _ lo (hi - lo).toNat,?_,fun b hb=>?_,q⟩
 ·have e1:lo+((0:Nat):Int)*1=lo:=by simp
  have e2:(((hi - lo).toNat:Nat):Int) - ((0:Nat):Int)=Builtin.Range.rangeSize lo hi 1:=by rw [rangeSize_one];split <;> omega
  show IsRangeIter _ _ (lo+((0:Nat):Int)*1) ((((hi - lo).toNat:Nat):Int) - ((0:Nat):Int)) 1
  rw [e1,e2]
  exact Heap.get?_push_size _ rfl
 ·have e:b=(s.heap.push { cls:=.type "range",data:=.fields #[.int lo t,.int hi u,.int 1 v] }).objs.size:=by simpa using hb
  subst e
  exact I1.Jb (Nat.le_refl _) (I1.hok.fresh (Nat.le_refl _))
def a2r (ta:TA):TI:=fun σ H R=>ta σ H fun vs H1=>∃ j:Int,vs=[.int j]∧-(2 ^ 62)≤j∧j < 2 ^ 62∧R (Itr 0 j.toNat) H1
theorem uy {a:Expr} {ta:TA} {p pos:Pos} (hg:Gl X "range") (hm:X.mg "range"=none) (ha:PA X [a] ta) (hs:starEach [a] X.env=[(false,eval a X.env)]:=by rfl):PI X tg (.Call (.Name "range" p) [a] [] pos) (a2r ta):=by
 intro pins s σ H R I h
 refine Call_ (xR I hg hm boot_range (PyProof.Rows.callWith_type1 (fG (ha pos pins s σ H _ I h) fun us s1 ⟨vs,H1,I1,r1,q1⟩=>?_) hs rfl))
 obtain ⟨j,e,q1,q2,q⟩:=q1
 subst e
 cases r1 with
 | cons r rr =>
  cases rr
  obtain ⟨t,rfl⟩:=r
  exact call_range_1 (NU I1 (by omega) (by omega) q1 q2 (by simpa using q))
def a9u (wi:TI) (g:TG) (tb:TS):TS:=fun D σ H=>wi σ H fun J H1=>∃ W:Nat→Nat→St→Hp→Prop,(∃ m,W 0 m σ H1)∧∀ i m σ H,W i m σ H →
 (J.stop i H∧D.nx σ H)∨(J.go i H∧∃ N:St→Hp→Prop,(∀ σ' H',N σ' H'→∃ m',m' < m∧W (i+1) m' σ' H')∧∀ x H',J.U3 i H x H'→g x σ H' fun σ2 H2=>tb { D with nx:=N,ct:=N,bk:=D.nx } σ2 H2)
def xw (fp:List Addr) (h:Heap):List (Addr×Obj):=fp.filterMap fun b=>(h.get? b).map fun o=>(b,o)
theorem nD {fp:List Addr} {h:Heap} {b:Addr} {o:Obj} (hb:b∈fp) (e:h.get? b=some o):(b,o)∈xw fp h:=List.mem_filterMap.mpr ⟨b,hb,by rw [e];rfl⟩
theorem Lq {fp:List Addr} {h:Heap} {p:Addr×Obj} (hp:p∈xw fp h):p.1∈fp∧h.get? p.1=some p.2:=by
 obtain ⟨b,hb,e⟩:=List.mem_filterMap.mp hp
 cases q:h.get? b with
 | none=>rw [q] at e;cases e
 | some o =>
  rw [q] at e
  have e':(b,o)=p:=Option.some.inj e
  subst e'
  exact ⟨hb,q⟩
theorem Inv.pinned {pins:List (Addr×Obj)} {σ:St} {H:Hp} {s:Shared} {fp:List Addr} (I:Inv X pins σ H s) (hf:∀ b∈fp,mz X pins H b) (ho:∀ b∈fp,∃ o,s.heap.get? b=some o∧∀ v,o.data≠.cell v):Inv X (pins++xw fp s.heap) σ H s :=
 I.wA fun p hp=>(List.mem_append.mp hp).elim (fun z=>I.pin p (List.mem_append_right _ z)) fun z=>by
  obtain ⟨hb,e⟩:=Lq z
  obtain ⟨f0,f1,f2,_⟩:=hf p.1 hb
  obtain ⟨o,e',d⟩:=ho p.1 hb
  rw [e] at e';cases e'
  exact ⟨e,f0,f1,f2,d⟩
theorem Inv.rO {pins pl:List (Addr×Obj)} {σ:St} {H:Hp} {s:Shared} (I:Inv X (pins++pl) σ H s):Inv X pins σ H s:=I.wA fun p hp=>I.pin p (List.mem_append_right _ (List.mem_append_left _ hp))
theorem dm {iter:Expr} {body:List Stmt} {wi:TI} {g:TG} {tb:TS} {pos:Pos} (hp:PassesOwn (model X.prog X.w) X.A X.env X.xe) (hc:X.calm=true) (hi:PI X tg iter wi) (hg:PG X tg g) (hb:EE X body tb)
  (hs:∀ x,foldedSetIterable iter X.env x=pure x:=by intro _;rfl):PS X (.For tg iter body [] pos) (a9u wi g tb):=by
 intro pins s σ H D I h
 refine wpAny_For (fG (hi pins s σ H _ I h) fun v s1 h1=>fG h1 fun itv s2 h2=>?_) hs
 obtain ⟨it,fp,tn,J,H2,e,I2,T,st2,f2,W,⟨m0,w0⟩,turn⟩:=h2
 subst e
 have XG:∀ {H':Hp},(∀ b∈fp,H' b=none)→∀ b∈fp,mz X pins H' b:=fun hn b hb=>⟨hn b hb,(f2 b hb).2⟩
 refine codeAny_forLoop_any (fun n s'=>∃ i σ' H',Inv X pins σ' H' s'∧tn i s'.heap∧(∀ b∈fp,H' b=none)∧W i n σ' H') ?_ m0 ⟨0,σ,H2,I2,st2,fun b hb=>(f2 b hb).1,w0⟩
 rintro n s3 ⟨i,σ3,H3,I3,st3,fr3,w3⟩
 rcases turn i n σ3 H3 w3 with ⟨stop,qn⟩ | ⟨go,N,hN,step⟩
 ·refine wpAny_passesOwn hp (fG (T.done X rfl rfl rfl hc i pins s3 σ3 H3 X.xe I3 (XG fr3) st3 stop) fun r s4 ⟨hr,I4⟩=>?_)
  subst hr
  exact wpAny_execs_nil ⟨σ3,H3,I4,qn⟩
 ·refine wpAny_passesOwn hp (fG (T.item X rfl rfl rfl hc i pins s3 σ3 H3 X.xe I3 (XG fr3) st3 go) fun r s4 ⟨u,hr,h4⟩=>?_)
  subst hr
  refine wpAny_passesOwn hp (fG h4 fun _ s5 ⟨x,H5,I5,r5,y5,st5,fr5⟩=>?_)
  have I5':=I5.pinned (XG fr5) (T.obj _ _ st5)
  refine wpAny_passesOwn hp (fG (hg _ s5 σ3 H5 x u _ I5' r5 (step x H5 y5)) fun _ s6 ⟨σ6,H6,I6,q6⟩=>?_)
  refine wpAny_passesOwn hp (fG (hb _ s6 σ6 H6 _ I6 q6) fun f s7 q7=>?_)
  have again:∀ {σ7:St} {H7:Hp},Inv X (pins++xw fp s5.heap) σ7 H7 s7→N σ7 H7→∃ m,m < n∧∃ i σ' H',Inv X pins σ' H' s7∧tn i s7.heap∧(∀ b∈fp,H' b=none)∧W i m σ' H':=fun {σ7 H7} I7 n7=>by
   obtain ⟨m',hm,w7⟩:=hN σ7 H7 n7
   refine ⟨m',hm,i+1,σ7,H7,I7.rO,T.keep _ _ _ st5 fun b hb o e=>(I7.pin (b,o) (List.mem_append_right _ (List.mem_append_right _ (nD hb e)))).1,fun b hb=>?_,w7⟩
   obtain ⟨o,e,d⟩:=T.obj _ _ st5 b hb
   exact (I7.pin (b,o) (List.mem_append_right _ (List.mem_append_right _ (nD hb e)))).2.1
  cases f with
  | next=>obtain ⟨σ7,H7,I7,n7⟩:=q7;exact again I7 n7
  | cont=>obtain ⟨σ7,H7,I7,n7⟩:=q7;exact again I7 n7
  | brk=>obtain ⟨σ7,H7,I7,q7⟩:=q7;exact ⟨σ7,H7,I7.rO,q7⟩
  | ret v=>obtain ⟨x7,σ7,H7,I7,r7,q7⟩:=q7;exact ⟨x7,σ7,H7,I7.rO,r7,q7⟩
end
theorem fJ {K:PySem.W.Frag} {a:Addr} {xs:List V} {g:TG} {tb:TS} {D:Ends} {σ:St} {H:Hp} (Pv:Nat→St→Hp→Prop) (h0:Pv 0 σ H) (hl:∀ i σ H,i≤xs.length→Pv i σ H→bH K H a xs)
  (hs:∀ i x σ H,xs[i]?=some x→Pv i σ H→g x σ H fun σ2 H2=>tb { D with nx:=Pv (i+1),ct:=Pv (i+1),bk:=D.nx } σ2 H2) (hd:∀ σ H,Pv xs.length σ H→D.nx σ H) :
  ∃ W:Nat→Nat→St→Hp→Prop,(∃ m,W 0 m σ H)∧∀ i m σ H,W i m σ H →
   ((RJ K a).stop i H∧D.nx σ H)∨((RJ K a).go i H∧∃ N:St→Hp→Prop,(∀ σ' H',N σ' H'→∃ m',m' < m∧W (i+1) m' σ' H')∧∀ x H',(RJ K a).U3 i H x H'→g x σ H' fun σ2 H2=>tb { D with nx:=N,ct:=N,bk:=D.nx } σ2 H2):=by
 refine ⟨fun i m σ H=>m=xs.length - i∧i≤xs.length∧Pv i σ H,⟨xs.length,by simp,Nat.zero_le _,h0⟩,?_⟩
 rintro i m σ H ⟨rfl,hi,p⟩
 have q:=hl i σ H hi p
 by_cases hlt:i < xs.length
 ·refine .inr ⟨⟨xs,xs[i],q,by simp [hlt]⟩,Pv (i+1),fun σ' H' p'=>⟨xs.length - (i+1),by omega,rfl,hlt,p'⟩,fun x H' y=>?_⟩
  obtain ⟨e,y⟩:=y
  subst e
  exact hs i x σ _ (y xs q) p
 ·have e:i=xs.length:=by omega
  subst e
  exact .inl ⟨⟨xs,q,Nat.le_refl _⟩,hd σ H p⟩
theorem jQ {K:PySem.W.Frag} {a:Addr} {xs:List V} {g:TG} {tb:TS} {D:Ends} {σ:St} {H:Hp} (Pv:Nat→St→Hp→Prop) (h0:Pv 0 σ H) (hl:∀ i σ H,i≤xs.length→Pv i σ H→bG K H a xs)
  (hs:∀ i x σ H,xs[i]?=some x→Pv i σ H→g x σ H fun σ2 H2=>tb { D with nx:=Pv (i+1),ct:=Pv (i+1),bk:=D.nx } σ2 H2) (hd:∀ σ H,Pv xs.length σ H→D.nx σ H) :
  ∃ W:Nat→Nat→St→Hp→Prop,(∃ m,W 0 m σ H)∧∀ i m σ H,W i m σ H →
   ((Rm K a).stop i H∧D.nx σ H)∨((Rm K a).go i H∧∃ N:St→Hp→Prop,(∀ σ' H',N σ' H'→∃ m',m' < m∧W (i+1) m' σ' H')∧∀ x H',(Rm K a).U3 i H x H'→g x σ H' fun σ2 H2=>tb { D with nx:=N,ct:=N,bk:=D.nx } σ2 H2):=by
 refine ⟨fun i m σ H=>m=xs.length - i∧i≤xs.length∧Pv i σ H,⟨xs.length,by simp,Nat.zero_le _,h0⟩,?_⟩
 rintro i m σ H ⟨rfl,hi,p⟩
 have q:=hl i σ H hi p
 by_cases hlt:i < xs.length
 ·refine .inr ⟨⟨xs,xs[i],q,by simp [hlt]⟩,Pv (i+1),fun σ' H' p'=>⟨xs.length - (i+1),by omega,rfl,hlt,p'⟩,fun x H' y=>?_⟩
  obtain ⟨e,y⟩:=y
  subst e
  exact hs i x σ _ (y xs q) p
 ·have e:i=xs.length:=by omega
  subst e
  exact .inl ⟨⟨xs,q,Nat.le_refl _⟩,hd σ H p⟩
theorem LJ {lo:Int} {n:Nat} {g:TG} {tb:TS} {D:Ends} {σ:St} {H:Hp} (Pv:Nat→St→Hp→Prop) (h0:Pv 0 σ H)
  (hs:∀ i σ H,i < n→Pv i σ H→g (.int (lo+i)) σ H fun σ2 H2=>tb { D with nx:=Pv (i+1),ct:=Pv (i+1),bk:=D.nx } σ2 H2) (hd:∀ σ H,Pv n σ H→D.nx σ H) :
  ∃ W:Nat→Nat→St→Hp→Prop,(∃ m,W 0 m σ H)∧∀ i m σ H,W i m σ H →
   ((Itr lo n).stop i H∧D.nx σ H)∨((Itr lo n).go i H∧∃ N:St→Hp→Prop,(∀ σ' H',N σ' H'→∃ m',m' < m∧W (i+1) m' σ' H')∧∀ x H',(Itr lo n).U3 i H x H'→g x σ H' fun σ2 H2=>tb { D with nx:=N,ct:=N,bk:=D.nx } σ2 H2):=by
 refine ⟨fun i m σ H=>m=n - i∧i≤n∧Pv i σ H,⟨n,by simp,Nat.zero_le _,h0⟩,?_⟩
 rintro i m σ H ⟨rfl,hi,p⟩
 by_cases hlt:i < n
 ·refine .inr ⟨hlt,Pv (i+1),fun σ' H' p'=>⟨n - (i+1),by omega,rfl,hlt,p'⟩,fun x H' y=>?_⟩
  obtain ⟨e,y⟩:=y
  subst e y
  exact hs i σ _ hlt p
 ·have e:i=n:=by omega
  subst e
  exact .inl ⟨Nat.le_refl _,hd σ H p⟩
end L2
namespace L2
open PySem PySem.Spec PyProof.Rows
abbrev R2:=V→V→Hp→VK→Prop
def yO (X:Cx) (f:Value→Value→Sem Value) (r:R2):Prop :=
 ∀ (pins:List (Addr×Obj)) (s:Shared) (σ:St) (H:Hp) (x y:V) (v u:Value) (Q:VK),Inv X pins σ H s→RelV x v→RelV y u→r x y H Q →
  wpAny (model X.prog X.w) X.A (f v u) (EP X pins σ Q) X.xe s
def UnR (X:Cx) (f:Value→Sem Value) (r:V→Hp→VK→Prop):Prop :=
 ∀ (pins:List (Addr×Obj)) (s:Shared) (σ:St) (H:Hp) (x:V) (v:Value) (Q:VK),Inv X pins σ H s→RelV x v→r x H Q →
  wpAny (model X.prog X.w) X.A (f v) (EP X pins σ Q) X.xe s
def ia (X:Cx) (f:Value) (r:List V→Hp→VK→Prop):Prop :=
 ∀ (pins:List (Addr×Obj)) (s:Shared) (σ:St) (H:Hp) (xs:List V) (us:List Value) (Q:VK),Inv X pins σ H s→Vals xs us→r xs H Q →
  wpAny (model X.prog X.w) X.A (call f us) (EP X pins σ Q) X.xe s
def tOp (r:R2) (ta tb:TE):TE:=fun σ H Q=>ta σ H fun x H1=>tb σ H1 fun y H2=>r x y H2 Q
def tUn (r:V→Hp→VK→Prop) (ta:TE):TE:=fun σ H Q=>ta σ H fun x H1=>r x H1 Q
def rI (C:Int→Int→Prop) (g:Int→Int→V):R2:=fun x y H Q=>∃ i j,x=.int i∧y=.int j∧C i j∧Q (g i j) H
def rI0 (g:Int→Int→V):R2:=fun x y H Q=>∃ i j,x=.int i∧y=.int j∧Q (g i j) H
def rU (g:Int→V):V→Hp→VK→Prop:=fun x H Q=>∃ i,x=.int i∧Q (g i) H
section
variable {X:Cx} {a b c:Expr} {ta tb tc:TE} {pos:Pos}
theorem a0u (ha:PE X a ta) (hb:PE X b tb) {pins:List (Addr×Obj)} {s:Shared} {σ:St} {H:Hp} {R:V→V→Hp→Prop} (I:Inv X pins σ H s)
  (h:ta σ H fun x H1=>tb σ H1 fun y H2=>R x y H2) {Q:Value→Shared→Prop} {f:Value→Value→Sem Value}
  (hf:∀ v u s2 x y H2,Inv X pins σ H2 s2→RelV x v→RelV y u→R x y H2→wpAny (model X.prog X.w) X.A (f v u) Q X.xe s2) :
  wpAny (model X.prog X.w) X.A (eval a X.env) (fun v s₁=>wpAny (model X.prog X.w) X.A (eval b X.env) (fun u s₂=>wpAny (model X.prog X.w) X.A (f v u) Q X.xe s₂) X.xe s₁) X.xe s:=by
 refine fG (ha pins s σ H _ I h) fun v s1 ⟨x,H1,I1,r1,q1⟩=>?_
 refine fG (hb pins s1 σ H1 _ I1 q1) fun u s2 ⟨y,H2,I2,r2,q2⟩=>?_
 exact hf v u s2 x y H2 I2 r1 r2 q2
theorem aT {op:Operator} {r:R2} (ho:yO X (binaryOp op) r) (ha:PE X a ta) (hb:PE X b tb):PE X (.BinOp a op b pos) (tOp r ta tb):=by
 intro pins s σ H Q I h
 exact wpAny_BinOp (a0u ha hb I h fun v u s2 x y H2 I2 rx ry q=>ho pins s2 σ H2 x y v u Q I2 rx ry q)
theorem a1P {op:UnaryOp} {r:V→Hp→VK→Prop} (ho:UnR X (unaryOp op) r) (ha:PE X a ta):PE X (.UnaryOp op a pos) (tUn r ta):=by
 intro pins s σ H Q I h
 exact UnaryOp_ (fG (ha pins s σ H _ I h) fun v s1 ⟨x,H1,I1,r1,q1⟩=>ho pins s1 σ H1 x v Q I1 r1 q1)
theorem opI {f:Value→Value→Sem Value} {C:Int→Int→Prop} {g:Int→Int→Int}
  (rule:∀ (i j:Int) (t u:Tok) (s:Shared) (Q:Value→Shared→Prop) (E:Value→Shared→Prop),C i j→Q (.int (g i j) s.toks) { s with toks:=s.toks+1 }→wpAny (model X.prog X.w) X.A (f (.int i t) (.int j u)) Q E s) :
  yO X f (rI C fun i j=>.int (g i j)):=by
 intro pins s σ H x y v u Q I rx ry h
 obtain ⟨i,j,rfl,rfl,hc,q⟩:=h
 obtain ⟨t,rfl⟩:=rx
 obtain ⟨t',rfl⟩:=ry
 exact rule i j t t' s _ _ hc ⟨.int (g i j),H,I.tok _,⟨_,rfl⟩,q⟩
theorem a1Y {f:Value→Value→Sem Value} {g:Int→Int→Int}
  (rule:∀ (i j:Int) (t u:Tok) (s:Shared) (Q:Value→Shared→Prop) (E:Value→Shared→Prop),Q (.int (g i j) s.toks) { s with toks:=s.toks+1 }→wpAny (model X.prog X.w) X.A (f (.int i t) (.int j u)) Q E s) :
  yO X f (rI0 fun i j=>.int (g i j)):=by
 intro pins s σ H x y v u Q I rx ry h
 obtain ⟨i,j,rfl,rfl,q⟩:=h
 obtain ⟨t,rfl⟩:=rx
 obtain ⟨t',rfl⟩:=ry
 exact rule i j t t' s _ _ ⟨.int (g i j),H,I.tok _,⟨_,rfl⟩,q⟩
theorem a1Z {f:Value→Value→Sem Value} {g:Int→Int→Bool}
  (rule:∀ (i j:Int) (t u:Tok) (s:Shared) (Q:Value→Shared→Prop) (E:Value→Shared→Prop),Q (.bool (g i j)) s→wpAny (model X.prog X.w) X.A (f (.int i t) (.int j u)) Q E s) :
  yO X f (rI0 fun i j=>.bl (g i j)):=by
 intro pins s σ H x y v u Q I rx ry h
 obtain ⟨i,j,rfl,rfl,q⟩:=h
 obtain ⟨t,rfl⟩:=rx
 obtain ⟨t',rfl⟩:=ry
 exact rule i j t t' s _ _ ⟨.bl (g i j),H,I,rfl,q⟩
def c8e (i j:Int):Prop:=0 < j∧j < 1073741824
def a0J (i j:Int):Prop:=(-(2 ^ 64) < i∧i < 2 ^ 64)∨(-(2 ^ 64) < j∧j < 2 ^ 64)
theorem a0J.ok {i j:Int} (h:a0J i j):IntMulOk i j:=by
 rcases h with ⟨h1,h2⟩ | ⟨h1,h2⟩
 ·exact .of_left (intBits_le_64 h1 h2)
 ·exact .of_right (intBits_le_64 h1 h2)
theorem jF:yO X (binaryOp .Add) (rI0 fun i j=>.int (i+j)):=a1Y fun _ _ _ _ _ _ _ q=>add_int q
theorem OG:yO X (binaryOp .Sub) (rI0 fun i j=>.int (i - j)):=a1Y fun _ _ _ _ _ _ _ q=>sub_int q
theorem m8:yO X (binaryOp .Mult) (rI a0J fun i j=>.int (i*j)):=opI fun _ _ _ _ _ _ _ hc q=>mul_int q hc.ok
theorem SN:yO X (binaryOp .FloorDiv) (rI c8e fun i j=>.int (i / j)):=opI fun i j _ _ _ _ _ hc q=>by
 have h1:(0:Int) < j:=hc.1
 have h2:j < 1073741824:=hc.2
 exact floordiv_int (by omega) (by rw [Int.fdiv_eq_ediv_of_nonneg i (by omega)];exact q) (.inl (PyProof.noPylong_small (by omega)))
theorem AH:yO X (binaryOp .Mod) (rI (fun _ j=>0 < j) fun i j=>.int (i % j)):=opI fun i j _ _ _ _ _ hc q=>by
 have h1:(0:Int) < j:=hc
 exact mod_int' (by omega) (by rw [Int.fmod_eq_emod_of_nonneg i (by omega)];exact q)
theorem unI {f:Value→Sem Value} {g:Int→Int}
  (rule:∀ (i:Int) (t:Tok) (s:Shared) (Q:Value→Shared→Prop) (E:Value→Shared→Prop),Q (.int (g i) s.toks) { s with toks:=s.toks+1 }→wpAny (model X.prog X.w) X.A (f (.int i t)) Q E s) :
  UnR X f (rU fun i=>.int (g i)):=by
 intro pins s σ H x v Q I rx h
 obtain ⟨i,rfl,q⟩:=h
 obtain ⟨t,rfl⟩:=rx
 exact rule i t s _ _ ⟨.int (g i),H,I.tok _,⟨_,rfl⟩,q⟩
theorem XA:UnR X (unaryOp .USub) (rU fun i=>.int (-i)):=unI fun _ _ _ _ _ q=>neg_int q
end
def a1F:V→V→Bool
 | .fP,.fP=>true | .fP,.int _=>true | .int _,.fP=>true | .fP,.bl _=>true | .bl _,.fP=>true | .fP,.str _=>true | .str _,.fP=>true
 | .int _,.int _=>true | .bl _,.bl _=>true | .str _,.str _=>true | .MK _,.MK _=>true
 | .int _,.str _=>true | .str _,.int _=>true | .bl _,.str _=>true | .str _,.bl _=>true
 | _,_=>false
def rEq:R2:=fun x y H Q=>a1F x y=true∧Q (.bl (decide (x=y))) H
def rNe:R2:=fun x y H Q=>a1F x y=true∧Q (.bl (!decide (x=y))) H
theorem KR {i j:Int}:decide (V.int i=V.int j)=(i == j):=by
 rw [Bool.eq_iff_iff]
 simp
theorem Q2 {i j:Bool}:decide (V.bl i=V.bl j)=(i == j):=by
 rw [Bool.eq_iff_iff]
 simp
theorem KQ {i j:Str}:decide (V.str i=V.str j)=(i == j):=by
 rw [Bool.eq_iff_iff]
 simp
theorem KS {i j:Array UInt8}:decide (V.MK i=V.MK j)=(i.toList == j.toList):=by
 rw [Bool.eq_iff_iff]
 cases i
 cases j
 simp
section
variable {X:Cx} {a b c:Expr} {ta tb tc:TE} {pos:Pos}
theorem bN {pins:List (Addr×Obj)} {σ:St} {H:Hp} {s:Shared} {Q:VK} {k k':Bool} (I:Inv X pins σ H s) (q:Q (.bl k) H) (e:k=k'):EP X pins σ Q (.bool k') s:=by
 subst e
 exact ⟨.bl k,H,I,rfl,q⟩
theorem kr:yO X (compareOp .Eq) rEq:=by
 intro pins s σ H x y v u Q I rx ry h
 obtain ⟨hs,q⟩:=h
 cases x with
 | fP =>
  cases rx
  cases y with
  | fP=>cases ry;exact PySem.EqNone.eq_none_none (bN I q (by simp))
  | bl j=>cases ry;exact PySem.EqNone.eq_none_bool (bN I q (by simp))
  | int j=>obtain ⟨t',rfl⟩:=ry;exact PySem.EqNone.eq_none_int (bN I q (by simp))
  | str j=>obtain ⟨t',rfl⟩:=ry;exact PySem.EqNone.eq_none_str (bN I q (by simp))
  | _=>exact absurd (show false=true from hs) Bool.false_ne_true
 | bl i =>
  cases rx
  cases y with
  | fP=>cases ry;exact PySem.EqNone.eq_bool_none (bN I q (by simp))
  | bl j=>cases ry;exact eq_bool (bN I q Q2)
  | str j=>obtain ⟨t',rfl⟩:=ry;exact PySem.EqMixed.eq_bool_str (bN I q (by simp))
  | _=>exact absurd (show false=true from hs) Bool.false_ne_true
 | int i =>
  obtain ⟨t,rfl⟩:=rx
  cases y with
  | fP=>cases ry;exact PySem.EqNone.eq_int_none (bN I q (by simp))
  | int j=>obtain ⟨t',rfl⟩:=ry;exact eq_int (bN I q KR)
  | str j=>obtain ⟨t',rfl⟩:=ry;exact PySem.EqMixed.eq_int_str (bN I q (by simp))
  | _=>exact absurd (show false=true from hs) Bool.false_ne_true
 | str i =>
  obtain ⟨t,rfl⟩:=rx
  cases y with
  | fP=>cases ry;exact PySem.EqNone.eq_str_none (bN I q (by simp))
  | bl j=>cases ry;exact PySem.EqMixed.eq_str_bool (bN I q (by simp))
  | int j=>obtain ⟨t',rfl⟩:=ry;exact PySem.EqMixed.eq_str_int (bN I q (by simp))
  | str j=>obtain ⟨t',rfl⟩:=ry;exact eq_str (bN I q KQ)
  | _=>exact absurd (show false=true from hs) Bool.false_ne_true
 | MK i =>
  obtain ⟨t,rfl⟩:=rx
  cases y with
  | MK j=>obtain ⟨t',rfl⟩:=ry;exact PySem.W.eq_bytes (bN I q KS)
  | _=>exact absurd (show false=true from hs) Bool.false_ne_true
 | _=>cases y <;> exact absurd (show false=true from hs) Bool.false_ne_true
theorem OH:yO X (compareOp .NotEq) rNe:=by
 intro pins s σ H x y v u Q I rx ry h
 obtain ⟨hs,q⟩:=h
 cases x with
 | fP =>
  cases rx
  cases y with
  | fP=>cases ry;exact PySem.EqNone.ne_none_none (bN I q (by simp))
  | bl j=>cases ry;exact PySem.EqNone.ne_none_bool (bN I q (by simp))
  | int j=>obtain ⟨t',rfl⟩:=ry;exact PySem.EqNone.ne_none_int (bN I q (by simp))
  | str j=>obtain ⟨t',rfl⟩:=ry;exact PySem.EqNone.ne_none_str (bN I q (by simp))
  | _=>exact absurd (show false=true from hs) Bool.false_ne_true
 | bl i =>
  cases rx
  cases y with
  | fP=>cases ry;exact PySem.EqNone.ne_bool_none (bN I q (by simp))
  | bl j=>cases ry;exact ne_bool (bN I q (congrArg not Q2))
  | str j=>obtain ⟨t',rfl⟩:=ry;exact PySem.EqMixed.ne_bool_str (bN I q (by simp))
  | _=>exact absurd (show false=true from hs) Bool.false_ne_true
 | int i =>
  obtain ⟨t,rfl⟩:=rx
  cases y with
  | fP=>cases ry;exact PySem.EqNone.ne_int_none (bN I q (by simp))
  | int j=>obtain ⟨t',rfl⟩:=ry;exact ne_int (bN I q (congrArg not KR))
  | str j=>obtain ⟨t',rfl⟩:=ry;exact PySem.EqMixed.ne_int_str (bN I q (by simp))
  | _=>exact absurd (show false=true from hs) Bool.false_ne_true
 | str i =>
  obtain ⟨t,rfl⟩:=rx
  cases y with
  | fP=>cases ry;exact PySem.EqNone.ne_str_none (bN I q (by simp))
  | bl j=>cases ry;exact PySem.EqMixed.ne_str_bool (bN I q (by simp))
  | int j=>obtain ⟨t',rfl⟩:=ry;exact PySem.EqMixed.ne_str_int (bN I q (by simp))
  | str j=>obtain ⟨t',rfl⟩:=ry;exact ne_str (bN I q (congrArg not KQ))
  | _=>exact absurd (show false=true from hs) Bool.false_ne_true
 | MK i =>
  obtain ⟨t,rfl⟩:=rx
  cases y with
  | MK j=>obtain ⟨t',rfl⟩:=ry;exact PySem.W.ne_bytes (bN I q (congrArg not KS))
  | _=>exact absurd (show false=true from hs) Bool.false_ne_true
 | _=>cases y <;> exact absurd (show false=true from hs) Bool.false_ne_true
theorem a1X:yO X (compareOp .Lt) (rI0 fun i j=>.bl (decide (i < j))):=a1Z fun _ _ _ _ _ _ _ q=>lt_int q
theorem vj:yO X (compareOp .Gt) (rI0 fun i j=>.bl (decide (j < i))):=a1Z fun _ _ _ _ _ _ _ q=>gt_int q
theorem AG:yO X (compareOp .IsNot) (fun x y H Q=>y=.fP∧Q (.bl (!decide (x=.fP))) H):=by
 intro pins s σ H x y v u Q I rx ry h
 obtain ⟨rfl,q⟩:=h
 cases ry
 refine isnot_none_gen (bN I q ?_)
 cases x <;> first
  | (cases rx;rfl)
  | (obtain ⟨t,rfl⟩:=rx;rfl)
theorem bM (b:Expr) {op:CmpOp} (h:op≠.In:=by decide) (h2:op≠.NotIn:=by decide):behindInMarks op b=false:=by
 have e1:(op == CmpOp.In)=false:=by cases op <;> first | rfl | exact absurd rfl h
 have e2:(op == CmpOp.NotIn)=false:=by cases op <;> first | rfl | exact absurd rfl h2
 cases b <;> simp [behindInMarks,e1,e2]
theorem rZ {op:CmpOp} {r:R2} (ho:yO X (compareOp op) r) (ha:PE X a ta) (hb:PE X b tb) (hm:behindInMarks op b=false):PE X (.Compare a [op] [b] pos) (tOp r ta tb):=by
 intro pins s σ H Q I h
 exact wpAny_Compare1 (a0u ha hb I h fun v u s2 x y H2 I2 rx ry q=>ho pins s2 σ H2 x y v u Q I2 rx ry q) hm
def a1o (t:TE):TT:=fun σ H Q=>t σ H fun x H'=>∃ k,x=.bl k∧Q k H'
theorem bJ {op:CmpOp} {r:R2} (ho:yO X (compareOp op) r) (ha:PE X a ta) (hb:PE X b tb) (hm:behindInMarks op b=false):PT X (.Compare a [op] [b] pos) (a1o (tOp r ta tb)):=by
 intro pins s σ H Q I h
 refine wpAny_isTrue_Compare1 (fG (ha pins s σ H _ I h) fun v s1 ⟨x,H1,I1,r1,q1⟩=>fG (hb pins s1 σ H1 _ I1 q1) fun u s2 ⟨y,H2,I2,r2,q2⟩ =>
  fG (ho pins s2 σ H2 x y v u _ I2 r1 r2 q2) fun c s3 ⟨z,H3,I3,r3,k,e,q3⟩=>?_) hm
 subst e
 cases r3
 exact wpAny_truthy_bool ⟨H3,I3,q3⟩
theorem oW:(sizeLine:Nat) < 2 ^ 63:=by rw [sizeLine_eq];decide
theorem gO:yO X (binaryOp .Add) (fun x y H Q=>∃ i j,x=.str i∧y=.str j∧i.length+j.length≤sizeLine∧Q (.str (i++j)) H):=by
 intro pins s σ H x y v u Q I rx ry h
 obtain ⟨i,j,rfl,rfl,hz,q⟩:=h
 obtain ⟨t,rfl⟩:=rx
 obtain ⟨t',rfl⟩:=ry
 exact add_str (fun t' tk=>⟨.str (i++j),H,I.tok _,⟨_,rfl⟩,q⟩) hz
theorem vals1 {x:V} {us:List Value} (r:Vals [x] us):∃ u,us=[u]∧RelV x u:=by
 cases r with
 | cons r1 r2=>cases r2;exact ⟨_,rfl,r1⟩
theorem vals2 {x y:V} {us:List Value} (r:Vals [x,y] us):∃ u w',us=[u,w']∧RelV x u∧RelV y w':=by
 cases r with
 | cons r1 r2 =>
  cases r2 with
  | cons r3 r4=>cases r4;exact ⟨_,_,rfl,r1,r3⟩
theorem Ml:ia X (.type "int") (fun xs H Q=>(∃ i,xs=[.int i]∧Q (.int i) H)∨∃ k,xs=[.bl k]∧Q (.int (if k then 1 else 0)) H):=by
 intro pins s σ H xs us Q I r h
 rcases h with ⟨i,rfl,q⟩ | ⟨k,rfl,q⟩
 ·obtain ⟨u,rfl,t,rfl⟩:=vals1 r
  exact call_int_int ⟨.int i,H,I,⟨_,rfl⟩,q⟩
 ·obtain ⟨u,rfl,r1⟩:=vals1 r
  cases r1
  exact call_int_bool ⟨.int (if k then 1 else 0),H,I.tok _,⟨_,rfl⟩,q⟩
theorem BS:ia X (.type "str") (fun xs H Q=>∃ i,xs=[.int i]∧i.natAbs.log2 < 1920∧Q (.str (toString i)) H):=by
 intro pins s σ H xs us Q I r h
 obtain ⟨i,rfl,hz,q⟩:=h
 obtain ⟨u,rfl,t,rfl⟩:=vals1 r
 exact PySem.P.str_of_int hz ⟨.str _,H,I.tok _,⟨_,rfl⟩,q⟩
end
end L2
namespace L2
open PySem PySem.Spec PyProof.Rows
structure JD (h:Heap) (x dx C:Addr) (mA:Str→Option Value):Prop where
 obj:h.get? x=some (PySem.W.instObj C dx)
 ns:h.Ns1 dx mA
 ne:dx≠x
theorem Lw {h:Heap} {dx:Addr} {mA:Str→Option Value} (n:h.Ns1 dx mA):∃ od,h.get? dx=some od∧∀ name,PySem.W.lookIn name od=some (mA name):=by
 obtain ⟨o,es,ep,ho,hd,hk,_,hm⟩:=n
 refine ⟨o,ho,fun name=>?_⟩
 have e:=hm name
 unfold nsFind findBy at e
 rw [← Array.find?_toList] at e
 unfold PySem.W.lookIn
 rw [hd]
 dsimp only
 split
 ·rename_i y q
  rw [q] at e
  exact congrArg some e
 ·rename_i q
  rw [q] at e
  have a:es.toList.any (·.refKey)=false:=by
   rw [List.any_eq_false]
   intro y hy
   obtain ⟨z,t,hkey⟩:=hk y (Array.mem_toList_iff.mp hy)
   simp [DictEntry.refKey,hkey]
  have a':¬ es.toList.any (·.refKey)=true:=by rw [a];exact Bool.false_ne_true
  rw [if_neg a']
  exact congrArg some e
theorem JD.look {h:Heap} {x dx C:Addr} {mA:Str→Option Value} (I:JD h x dx C mA):∃ od,PySem.W.InstAt h x (PySem.W.instObj C dx) C (some od)∧∀ name,PySem.W.lookIn name od=some (mA name) :=
 let ⟨od,ho,hl⟩:=Lw I.ns
 ⟨od,⟨I.obj,rfl,rfl,ho⟩,hl⟩
section
variable {prog:Program} {w:World} {A:Around} {E:Value→Shared→Prop} {s:Shared} {K:PySem.W.Frag} {x dx C f:Addr} {mA:Str→Option Value} {name:Str} {v:Value}
theorem get_map {expr:Bool} {Q:Value→Shared→Prop} (X:K.In s.heap) (I:JD s.heap x dx C mA) (hg:PySem.W.plainGet K C name=true) (hh:PySem.W.hasDictIn K C=true)
  (ha:PySem.W.findIn K (.ref C) name=some none) (hv:mA name=some v) (hv':PySem.W.handedIn v=true) (h:Q v { s with toks:=s.toks+1 }) :
  wpAny (model prog w) A (getAttr (.ref x) name expr) Q E s:=by
 obtain ⟨od,J,hl⟩:=I.look
 exact PySem.W.get_value X J (PySem.W.plainGet_of hg).1 (PySem.W.findObj_own hh ha rfl (by rw [hl,hv])) hv' h
theorem Qw {pl:Sem Bool} {Q:Value×List Value→Shared→Prop} (X:K.In s.heap) (I:JD s.heap x dx C mA) (hg:PySem.W.plainGet K C name=true)
  (hf:PySem.W.findIn K (.ref C) name=some (some (.ref f))) (ht:PySem.W.isFn K (.ref f)=true) (hv:mA name=none) (h:Q (.ref f,[.ref x]) s) :
  wpAny (model prog w) A (getMethod (.ref x) name pl) Q E s:=by
 obtain ⟨od,J,hl⟩:=I.look
 exact PySem.W.method_fn X J (PySem.W.plainGet_of hg).1 (PySem.W.plainGet_of hg).2 hf (beq_iff_eq.mp ht) (by show (PySem.W.lookIn name od).map (·.isSome)=some false;rw [hl,hv];rfl) h
theorem R3 {ns:List Str} {Q:Unit→Shared→Prop} (X:K.In s.heap) (I:JD s.heap x dx C mA)
  (hs:PySem.W.findIn K (.ref C) "__setattr__"=some (some (.builtin "object.__setattr__"))) (hp:PySem.W.plainOver K C=true) (ht:PySem.W.takerIn K C name=some none) (hh:PySem.W.hasDictIn K C=true)
  (hw:PySem.Within mA ns) (hsz:ns.length≤sizeLine)
  (h:∀ h',JD h' x dx C (fun y=>if y=name then some v else mA y)→Heap.SameBut dx s.heap h'→Q () { s with heap:=h',toks:=s.toks+2 }) :
  wpAny (model prog w) A (setAttr (.ref x) name v) Q E s:=by
 obtain ⟨od,J,hl⟩:=I.look
 refine PySem.W.set_plain X J hs (PySem.W.osa_open (s:={ s with toks:=s.toks+1 }) (r:=none) X J hp ht fun b=>?_)
 obtain ⟨cd,hc,hd'⟩:=PySem.W.any_some hh
 have hx:s.heap.get? x=some ⟨.ref C,some dx,.plain,#[]⟩:=I.obj
 refine wpAny_bind (wpAny_pure (wpAny_bind (wpAny_bind (wpAny_loadPart hx (wpAny_bind (PySem.W.Looks.here (s:={ s with toks:=s.toks+1 }) (PySem.W.looks_clsIn X hc) ?_))))))
 rw [hd']
 refine wpAny_pure (a:=some dx) (wpAny_bind (wpAny_pure (wpAny_bind ?_)))
 refine wpAny_nsSet1 (s:={ s with toks:=s.toks+1 }) I.ns fun h' hn2 hs2=>?_
 obtain ⟨oD,esD,epD,hoD,hdD,hcD⟩:=hn2.count (PySem.Within.cons name v hw)
 refine wpAny_bind (wpAny_lookBehind hoD (by rw [hdD];exact pastItsLine_dict (Nat.le_trans hcD (by rw [List.length_cons];omega))) ?_)
 exact wpAny_pure (h _ ⟨(hs2.2 _ (Ne.symm I.ne)).trans I.obj,hn2,I.ne⟩ hs2)
theorem Pd {R:Result→Shared→Prop} {vs:List Value} {kw:List (Str×Value)} (X:K.In s.heap) (hm:PySem.W.makesIn K C=true)
  (hi:PySem.W.findIn K (.ref C) "__init__"=some (some (.ref f))) (hf:PySem.W.typeIn K (.ref f)=some (.type "function"))
  (h:codeAny (model prog w) (A.under (.builtin "type.__call__" ⟨.ref C::vs,kw⟩)) (.call (.ref f) ⟨.ref (s.heap.objs.size+1)::vs,kw⟩) (PySem.W.InitBack (s.heap.objs.size+1) R)
   { s with heap:=(s.heap.push PySem.W.emptyDict).push (PySem.W.instObj C s.heap.objs.size) }) :
  codeAny (model prog w) A (.call (.ref C) ⟨vs,kw⟩) R s:=by
 obtain ⟨hh,g,d,t,os⟩:=s
 exact PySem.W.make_core (PySem.W.makes_of X hm) (PySem.W.looks_findIn X hi) (fun self=>PySem.W.bind_fn X self hf) (.inl rfl) h
end
def aP (f:Str) (v:V):List (Str×V)→List (Str×V)
 | []=>[(f,v)]
 | (g,x)::r=>if g=f then (g,v)::r else (g,x)::aP f v r
theorem bz (f g:Str) (v:V):∀ fs:List (Str×V),(aP f v fs).lookup g=if g=f then some v else fs.lookup g
 | []=>by
  show List.lookup g [(f,v)]=_
  by_cases h:g=f
  ·have hb:(g == f)=true:=beq_iff_eq.mpr h
   simp only [List.lookup,hb,if_pos h]
  ·have hb:(g == f)=false:=beq_eq_false_iff_ne.mpr h
   simp only [List.lookup,hb,if_neg h]
 | (k,x)::r=>by
  have ih:=bz f g v r
  rw [show aP f v ((k,x)::r)=(if k=f then (k,v)::r else (k,x)::aP f v r) from rfl]
  by_cases hk:k=f
  ·rw [if_pos hk]
   by_cases h:g=k
   ·have hb:(g == k)=true:=beq_iff_eq.mpr h
    simp only [List.lookup,hb,if_pos (h.trans hk)]
   ·have hb:(g == k)=false:=beq_eq_false_iff_ne.mpr h
    simp only [List.lookup,hb,if_neg (fun e:g=f=>h (e.trans hk.symm))]
  ·rw [if_neg hk]
   by_cases h:g=k
   ·have hb:(g == k)=true:=beq_iff_eq.mpr h
    simp only [List.lookup,hb,if_neg (fun e:g=f=>hk (h.symm.trans e))]
   ·have hb:(g == k)=false:=beq_eq_false_iff_ne.mpr h
    simp only [List.lookup,hb]
    exact ih
theorem uP (f:Str) (v:V):∀ fs:List (Str×V),f∈(aP f v fs).map (·.1)∧∀ g,g∈fs.map (·.1)→g∈(aP f v fs).map (·.1)
 | []=>⟨by simp [aP],fun g h=>by simp at h⟩
 | (k,x)::r=>by
  obtain ⟨i1,i2⟩:=uP f v r
  rw [show aP f v ((k,x)::r)=(if k=f then (k,v)::r else (k,x)::aP f v r) from rfl]
  by_cases hk:k=f
  ·rw [if_pos hk]
   subst hk
   exact ⟨by simp,fun g h=>by simpa using h⟩
  ·rw [if_neg hk]
   refine ⟨?_,fun g h=>?_⟩
   ·rw [List.map_cons]
    exact List.mem_cons_of_mem _ i1
   ·rw [List.map_cons] at h ⊢
    rcases List.mem_cons.mp h with e | e
    ·exact List.mem_cons.mpr (.inl e)
    ·exact List.mem_cons_of_mem _ (i2 g e)
theorem vp (f:Str) (v:V):∀ fs:List (Str×V),(aP f v fs).length≤fs.length+1
 | []=>by simp [aP]
 | (k,x)::r=>by
  have ih:=vp f v r
  rw [show aP f v ((k,x)::r)=(if k=f then (k,v)::r else (k,x)::aP f v r) from rfl]
  by_cases hk:k=f
  ·rw [if_pos hk,List.length_cons,List.length_cons];omega
  ·rw [if_neg hk,List.length_cons,List.length_cons];omega
theorem nY.some_of {v:V} {o:Option Value} (r:nY (some v) o):∃ u,o=some u∧RelV v u:=by
 cases o with
 | none=>exact (show False from r).elim
 | some u=>exact ⟨u,rfl,r⟩
theorem nY.none_of {o:Option Value} (r:nY none o):o=none:=by
 cases o with
 | none=>rfl
 | some u=>exact (show False from r).elim
theorem LI {v:V} {u:Value} (r:RelV v u):PySem.W.handedIn u=true:=by
 cases v with
 | fP=>cases (show u=Value.none from r);rfl
 | bl b=>cases (show u=Value.bool b from r);rfl
 | int i=>obtain ⟨t,e⟩:=(show ∃ t,u=Value.int i t from r);cases e;rfl
 | str x=>obtain ⟨t,e⟩:=(show ∃ t,u=Value.str x t from r);cases e;rfl
 | MK b=>obtain ⟨t,e⟩:=(show ∃ t,u=Value.bytes b t from r);cases e;rfl
 | Z2 b=>obtain ⟨t,e⟩:=(show ∃ t,u=Value.float b t from r);cases e;rfl
 | ref a=>cases (show u=Value.ref a from r);rfl
 | ty n=>cases (show u=Value.type n from r);rfl
section
variable {P:Program} {w:World} {H H':Hp} {h h':Heap} {a C dx:Addr} {fs fs':List (Str×V)}
theorem sU (hok:rK P w H h) (e:H a=some (.ins C dx fs)):∃ mA,JD h a dx C mA∧(∀ f,nY (fs.lookup f) (mA f))∧PySem.Within mA (fs.map (·.1))∧fs.length≤1000∧H dx=some (.own a):=by
 obtain ⟨d,z,ne,ob,mA,n,r,q⟩:=(show dJ P w H h a (.ins C dx fs) from hok a _ e)
 exact ⟨mA,⟨ob,n,ne⟩,r,q,z,d⟩
end
structure wL (K:PySem.W.Frag) (C:Addr):Prop where
 pg:PySem.W.plainGet K C Str.empty=true
 hd:PySem.W.hasDictIn K C=true
 po:PySem.W.plainOver K C=true
 sa:PySem.W.findIn K (.ref C) "__setattr__"=some (some (.builtin "object.__setattr__"))
theorem wL.get {K:PySem.W.Frag} {C:Addr} (c:wL K C) (f:Str):PySem.W.plainGet K C f=true:=c.pg
def cu (K:PySem.W.Frag) (C:Addr) (f:Str):Prop:=PySem.W.findIn K (.ref C) f=some none
theorem cu.a1m {K:PySem.W.Frag} {C:Addr} {f:Str} (n:cu K C f):PySem.W.takerIn K C f=some none:=by
 unfold PySem.W.takerIn
 rw [show PySem.W.findIn K (.ref C) f=some none from n]
 rfl
structure Meth (K:PySem.W.Frag) (C:Addr) (m:Str) (f:Addr):Prop where
 at_:PySem.W.findIn K (.ref C) m=some (some (.ref f))
 fn:PySem.W.isFn K (.ref f)=true
 kp:PySem.W.keepIn K (.ref f)=true
section
variable {X:Cx} {pins:List (Addr×Obj)} {σ:St} {H:Hp} {s:Shared} {a C dx:Addr} {fs:List (Str×V)} {f:Str} {v:V} {A:Around} {E:Value→Shared→Prop}
theorem I8 {b:Bool} {Q:Value→Shared→Prop} (I:Inv X pins σ H s) (e:H a=some (.ins C dx fs)) (c:wL X.K C) (n:cu X.K C f) (l:fs.lookup f=some v)
  (h:∀ u s',Inv X pins σ H s'→RelV v u→Q u s'):wpAny (model X.prog X.w) A (getAttr (.ref a) f b) Q E s:=by
 obtain ⟨mA,O,r,_,_,_⟩:=sU I.hok e
 obtain ⟨u,hu,ru⟩:=nY.some_of (v:=v) (o:=mA f) (by rw [← l];exact r f)
 exact get_map I.qW O (c.get f) c.hd n hu (LI ru) (h u _ (I.tok _) ru)
theorem qX {m:Str} {g:Addr} {pl:Sem Bool} {Q:Value×List Value→Shared→Prop} (I:Inv X pins σ H s) (e:H a=some (.ins C dx fs)) (c:wL X.K C) (k:Meth X.K C m g) (l:fs.lookup m=none)
  (h:Q (.ref g,[.ref a]) s):wpAny (model X.prog X.w) A (getMethod (.ref a) m pl) Q E s:=by
 obtain ⟨mA,O,r,_,_,_⟩:=sU I.hok e
 have hn:mA m=none:=nY.none_of (by rw [← l];exact r m)
 exact Qw I.qW O (c.get m) k.at_ k.fn hn h
theorem Ic {y:V} {u:Value} {Q:Unit→Shared→Prop} (I:Inv X pins σ H s) (e:H a=some (.ins C dx fs)) (c:wL X.K C) (n:cu X.K C f) (hl:fs.length < 1000) (ry:RelV y u)
  (h:∀ s',Inv X pins σ (upd H a (.ins C dx (aP f y fs))) s'→Q () s'):wpAny (model X.prog X.w) A (setAttr (.ref a) f u) Q E s:=by
 obtain ⟨mA,O,r,wi,_,ho⟩:=sU I.hok e
 have hz:(fs.map (·.1)).length≤sizeLine:=by rw [List.length_map,sizeLine_eq];omega
 refine R3 I.qW O c.sa c.po n.a1m c.hd wi hz fun h' O' sb=>h _ ?_
 have hd:∃ o,h'.get? dx=some o:=let ⟨o,_,_,e',_⟩:=O'.ns;⟨o,e'⟩
 refine I.write (x:=a) (e:=dx) (by rw [e];exact True.intro) (.inr ho) (fun b q hb z=>(sb.2 b hb).trans z) hd ?_
 refine ⟨by rw [aL O.ne];exact ho,?_,O.ne,O'.obj,_,O'.ns,fun g=>?_,fun g hg=>?_⟩
 ·have:=vp f y fs;omega
 ·show nY ((aP f y fs).lookup g) (if g=f then some u else mA g)
  rw [bz]
  by_cases q:g=f
  ·rw [if_pos q,if_pos q];exact ry
  ·rw [if_neg q,if_neg q];exact r g
 ·by_cases q:g=f
  ·rw [q];exact (uP f y fs).1
  ·refine (uP f y fs).2 g (wi g fun z=>hg ?_)
   show (if g=f then some u else mA g)=none
   rw [if_neg q];exact z
theorem Inv.made (I:Inv X pins σ H s):Inv X pins σ (upd (upd H s.heap.objs.size (.own (s.heap.objs.size+1))) (s.heap.objs.size+1) (.ins C s.heap.objs.size []))
  { s with heap:=(s.heap.push PySem.W.emptyDict).push (PySem.W.instObj C s.heap.objs.size) }:=by
 have e1:(s.heap.push PySem.W.emptyDict).get? s.heap.objs.size=some PySem.W.emptyDict:=Heap.get?_push_size s.heap rfl
 have e2:((s.heap.push PySem.W.emptyDict).push (PySem.W.instObj C s.heap.objs.size)).get? (s.heap.objs.size+1)=some (PySem.W.instObj C s.heap.objs.size):=by
  have:=Heap.get?_push_size (s.heap.push PySem.W.emptyDict) (o:=PySem.W.instObj C s.heap.objs.size) rfl
  rwa [Heap.size_push] at this
 have e3:(s.heap.push PySem.W.emptyDict).Ns s.heap.objs.size (fun _=>none):=⟨PySem.W.emptyDict,#[],_,e1,rfl,(fun e he=>absurd he (by simp)),fun _=>rfl⟩
 have I1:=I.laid (a:=s.heap.objs.size) (o:=.own (s.heap.objs.size+1)) (h':=s.heap.push PySem.W.emptyDict) (t':=s.toks) (fun b u q=>Heap.get?_push_of_some _ q) (Nat.le_refl _) ⟨_,e1⟩
 refine I1.laid (a:=s.heap.objs.size+1) (o:=.ins C s.heap.objs.size []) (t':=s.toks) (fun b u q=>Heap.get?_push_of_some _ q) (Nat.le_of_eq (Heap.size_push _ _)) ?_
 have ne:s.heap.objs.size≠s.heap.objs.size+1:=Nat.ne_of_lt (Nat.lt_succ_self _)
 refine ⟨by rw [aL ne,af],Nat.zero_le _,ne,e2,fun _=>none,(Heap.Ns1.of_empty e3).at fun o q=>Heap.get?_push_of_some _ q,fun _=>True.intro,fun y hy=>absurd rfl hy⟩
theorem UE {prog:Program} {w:World} {env:Env} {e:Expr} {f:Str} {pos:Pos} {s:Shared} {Q:Value→Shared→Prop} (hb:attributeBase e f env (eval e env)=eval e env)
  (h:wpAny (model prog w) A (eval e env) (fun o s₁=>wpAny (model prog w) A (getAttr o f true) Q E s₁) E s):wpAny (model prog w) A (eval (.Attribute e f pos) env) Q E s :=
 Attribute_any_ h (by rw [arm_eval_Attribute,hb])
end
def a1w (K:PySem.W.Frag) (ta:TE) (f:Str):TE:=fun σ H Q=>ta σ H fun x H1=>∃ a C dx fs v,x=.ref a∧H1 a=some (.ins C dx fs)∧wL K C∧cu K C f∧fs.lookup f=some v∧Q v H1
def b0Y (K:PySem.W.Frag) (ta tv:TE) (f:Str):TS:=fun D σ H=>tv σ H fun y H1=>ta σ H1 fun x H2=>∃ a C dx fs,x=.ref a∧H2 a=some (.ins C dx fs)∧wL K C∧cu K C f∧fs.length < 1000 ∧
 D.nx σ (upd H2 a (.ins C dx (aP f y fs)))
section
variable {X:Cx} {o e value:Expr} {f:Str} {pos pos' tpos:Pos} {ta tv:TE}
theorem aA (he:PE X e ta) (hb:attributeBase e f X.env (eval e X.env)=eval e X.env):PE X (.Attribute e f pos) (a1w X.K ta f):=by
 intro pins s σ H Q I h
 refine UE hb (fG (he pins s σ H _ I h) fun u s1 ⟨x,H1,I1,rx,a,C,dx,fs,v,ex,ea,c,n,l,q⟩=>?_)
 subst ex
 obtain rfl:u=Value.ref a:=rx
 exact I8 I1 ea c n l fun u' s2 I2 ru=>⟨v,H1,I2,ru,q⟩
theorem aY (ha:PE X o ta) (hv:PE X value tv) (hs:swapsWith value (some (.Attribute o f pos')) pos.line X.env=pure false):PS X (.Assign [.Attribute o f pos'] value pos) (b0Y X.K ta tv f):=by
 intro pins s σ H D I h
 refine plainObj_wpAny_Assign_Attribute (fG (hv pins s σ H _ I h) fun u s1 ⟨y,H1,I1,ry,q⟩=>fG (ha pins s1 σ H1 _ I1 q) fun ov s2 ⟨x,H2,I2,rx,a,C,dx,fs,ex,ea,c,n,l,q2⟩=>?_) hs
 subst ex
 obtain rfl:ov=Value.ref a:=rx
 exact Ic I2 ea c n l ry fun s3 I3=>⟨σ,_,I3,q2⟩
end
section
variable {X:Cx} {pins:List (Addr×Obj)} {σ:St} {H:Hp} {s:Shared} {A:Around} {E:Value→Shared→Prop} {Q:Value→Shared→Prop} {c:Value} {b:Bool}
inductive tT (K:PySem.W.Frag) (H:Hp):V→Value→Prop where
 | fP:tT K H .fP (.type "NoneType")
 | bl (x:Bool):tT K H (.bl x) (.type "bool")
 | int (i:Int):tT K H (.int i) (.type "int")
 | str (x:Str):tT K H (.str x) (.type "str")
 | Z2 (x:UInt64):tT K H (.Z2 x) (.type "float")
 | lst {a:Addr} {xs:List V} (e:H a=some (.lst xs)):tT K H (.ref a) (.type "list")
 | Ja {a:Addr} {o:Obj} {xs:List V} (e:H a=some (.Ja o (.lst xs))):tT K H (.ref a) (.type "list")
 | tup {a:Addr} {xs:List V} (e:H a=some (.tup xs)):tT K H (.ref a) (.type "tuple")
 | dK {a:Addr} {kvs:List (Key×V)} (e:H a=some (.dK kvs)):tT K H (.ref a) (.type "dict")
 | dT {a:Addr} {kvs:List (List Key×V)} (e:H a=some (.dT kvs)):tT K H (.ref a) (.type "dict")
 | ins {a C dx:Addr} {fs:List (Str×V)} (e:H a=some (.ins C dx fs)) (cl:wL K C) (ha:PySem.W.findIn K (.ref C) "__class__"=some (some (.builtin "object.__class__")))
   (hn:PySem.W.specialIn K (.builtin "object.__class__") "__get__"=some (some (.builtin "getset_descriptor.__get__"))) (htk:PySem.W.takesIn K (.builtin "object.__class__")=some true)
   (hm:PySem.W.mroIn K C (.type "object")=some true):tT K H (.ref a) (.ref C)
theorem LA {x:V} {u t:Value} (I:Inv X pins σ H s) (rx:RelV x u) (ty:tT X.K H x t) (e:PySem.W.kitOne X.K t c=some b) (h:∀ tk,Q (.bool b) { s with toks:=tk }) :
  wpAny (model X.prog X.w) A (call (.builtin "isinstance") [u,c]) Q E s:=by
 cases ty with
 | fP=>cases (show u=Value.none from rx);exact PySem.W.kia_one PySem.W.kitx_none I.qW True.intro e (fun z=>nomatch z) h
 | bl y=>cases (show u=Value.bool y from rx);exact PySem.W.kia_one PySem.W.kitx_bool I.qW True.intro e (fun z=>nomatch z) h
 | int i=>obtain ⟨t,q⟩:=(show ∃ t,u=Value.int i t from rx);cases q;exact PySem.W.kia_one PySem.W.kitx_int I.qW True.intro e (fun z=>nomatch z) h
 | str y=>obtain ⟨t,q⟩:=(show ∃ t,u=Value.str y t from rx);cases q;exact PySem.W.kia_one PySem.W.kitx_str I.qW True.intro e (fun z=>nomatch z) h
 | Z2 y=>obtain ⟨t,q⟩:=(show ∃ t,u=Value.float y t from rx);cases q;exact PySem.W.kia_one PySem.W.kitx_float I.qW True.intro e (fun z=>nomatch z) h
 | @lst a xs ea =>
  cases (show u=Value.ref a from rx)
  obtain ⟨_,_,n,_,h1⟩:=(show dJ X.prog X.w H s.heap a (.lst xs) from I.hok a _ ea)
  exact PySem.W.kia_one PySem.W.kitx_list I.qW ⟨_,h1,rfl⟩ e (fun z=>nomatch z) h
 | @Ja a ob xs ea =>
  cases (show u=Value.ref a from rx)
  obtain ⟨_,_,_,n,_,h1⟩:=(show dJ X.prog X.w H s.heap a (.Ja ob (.lst xs)) from I.hok a _ ea)
  exact PySem.W.kia_one PySem.W.kitx_list I.qW ⟨_,h1,rfl⟩ e (fun z=>nomatch z) h
 | @tup a xs ea =>
  cases (show u=Value.ref a from rx)
  obtain ⟨_,_,_,p⟩:=(show dJ X.prog X.w H s.heap a (.tup xs) from I.hok a _ ea)
  obtain ⟨o,h1,h2,_⟩:=p
  exact PySem.W.kia_one PySem.W.kitx_tuple I.qW ⟨o,h1,h2⟩ e (fun z=>nomatch z) h
 | @dK a kvs ea =>
  cases (show u=Value.ref a from rx)
  obtain ⟨_,_,vs,_,p⟩:=(show dJ X.prog X.w H s.heap a (.dK kvs) from I.hok a _ ea)
  obtain ⟨o,es,ep,h1,h2,_⟩:=p
  exact PySem.W.kia_one PySem.W.kitx_dict I.qW ⟨o,h1,h2.1⟩ e (fun z=>nomatch z) h
 | @dT a kvs ea =>
  cases (show u=Value.ref a from rx)
  obtain ⟨_,_,xs,_,o,es,ep,h1,h2,_⟩:=(show dJ X.prog X.w H s.heap a (.dT kvs) from I.hok a _ ea)
  exact PySem.W.kia_one PySem.W.kitx_dict I.qW ⟨o,h1,h2.1⟩ e (fun z=>nomatch z) h
 | @ins a C dx fs ea cl ha hn htk hm =>
  cases (show u=Value.ref a from rx)
  obtain ⟨mA,O,_⟩:=sU I.hok ea
  obtain ⟨od,J,_⟩:=O.look
  exact PySem.W.kia_one (PySem.W.kitx_own (cl.get _) cl.hd ha hn htk hm) I.qW J e (fun z=>nomatch z) h
end
end L2
namespace L2
open PySem PySem.Spec PyProof.Rows
structure gk (k:Nat) (A:Around):Prop where
 hd:A.handled=none
 dp:A.depth+3*k+5 < recursionLimit
 un:A.units+16*k+200 < cLine
theorem gk.mono {j k:Nat} {A:Around} (r:gk k A) (h:j≤k):gk j A:=⟨r.hd,by have:=r.dp;omega,by have:=r.un;omega⟩
theorem gk.m {j k:Nat} {A:Around} (r:gk k A) (h:j≤k:=by first | decide | omega):gk j A:=r.mono h
theorem gk.deeper {k:Nat} {A:Around} (r:gk (k+1) A) (env:Env):gk k (A.deeper env) :=
 ⟨r.hd,by have:=r.dp;show A.depth+1+3*k+5 < _;omega,by have:=r.un;show A.units+3+16*k+200 < _;omega⟩
theorem IM {A:Around} {C:Addr} {us:List Value} {kw:List (Str×Value)}:(A.under (.builtin "type.__call__" ⟨.ref C::us,kw⟩)).depth=A.depth+1:=by
 first | rfl | simp [Around.under,Code.weight,Code.isCreation,Code.isGuard,Code.isCaller,Code.frames,Code.isFrame,guardIds]
theorem IL {A:Around} {C:Addr} {us:List Value} {kw:List (Str×Value)}:(A.under (.builtin "type.__call__" ⟨.ref C::us,kw⟩)).units=A.units+1:=by
 first | rfl | simp [Around.under,Code.cUnits,Code.frames,Code.isFrame]
theorem gk.make {k:Nat} {A:Around} (r:gk (k+1) A) (C:Addr) (us:List Value) (kw:List (Str×Value)):gk k (A.under (.builtin "type.__call__" ⟨.ref C::us,kw⟩)) :=
 ⟨r.hd,by have:=r.dp;rw [IM];omega,by have:=r.un;rw [IL];omega⟩
theorem gk.depth {k:Nat} {A:Around} (r:gk k A):A.depth < recursionLimit:=by have:=r.dp;omega
theorem gk.units {k:Nat} {A:Around} (r:gk k A):A.units+64 < cLine:=by have:=r.un;omega
def a1t:TA:=fun _ H Q=>Q [] H
def U8 (ta:TE) (tr:TA):TA:=fun σ H Q=>ta σ H fun x H1=>tr σ H1 fun xs H2=>Q (x::xs) H2
section
variable {X:Cx} {e:Expr} {es:List Expr} {te:TE} {t:TA} {pos:Pos}
theorem ah:PA X [] a1t:=fun _ _ _ _ H Q I h=>Calls.spliced_nil ⟨[],H,I,.nil,h⟩
theorem cG (ha:PE X e te) (hr:PA X es t) (hs:starEach (e::es) X.env=(false,eval e X.env)::starEach es X.env:=by rfl):PA X (e::es) (U8 te t):=by
 intro pos pins s σ H Q I h
 rw [hs]
 show wpAny _ _ (spliced ((false,eval e X.env)::backTo pos (starEach es X.env))) _ _ s
 refine Calls.spliced_cons (fG (ha pins s σ H _ I h) fun u s1 ⟨x,H1,I1,r1,q1⟩=>?_)
 exact fG (hr pos pins s1 σ H1 _ I1 q1) fun us s2 ⟨xs,H2,I2,r2,q2⟩=>⟨x::xs,H2,I2,.cons r1 r2,q2⟩
def a9o (t:TA):TE:=fun σ H Q=>t σ H fun xs H1=>xs.length≤sizeLine∧∀ p,H1 p=none→Q (.ref p) (upd H1 p (.tup xs))
def a9s (t:TA):TE:=fun σ H Q=>t σ H fun xs H1=>xs.length≤sizeLine∧∀ p,H1 p=none→Q (.ref p) (upd H1 p (.lst xs))
theorem aJ {x1} (h:PA X es t):PE X (.Tuple es x1 pos) (a9o t):=by
 intro pins s σ H Q I hq
 refine wpAny_Tuple_spliced (fG (h pos pins s σ H _ I hq) fun us s1 ⟨xs,H1,I1,r,z,q⟩=>⟨by rw [← r.length];exact z,?_⟩)
 have hf:H1 s1.heap.objs.size=none:=I1.hok.fresh (Nat.le_refl _)
 refine ⟨.ref s1.heap.objs.size,upd H1 s1.heap.objs.size (.tup xs),I1.laid (t':=s1.toks) (fun b u e=>Heap.get?_push_of_some _ e) (Nat.le_refl _) ?_,rfl,q _ hf⟩
 exact ⟨z,us,r,⟨_,Heap.get?_push_size _ rfl,rfl,_,rfl⟩⟩
theorem bC (h:PA X es t):PE X (.List es pos) (a9s t):=by
 intro pins s σ H Q I hq
 refine wpAny_List_spliced (fG (h pos pins s σ H _ I hq) fun us s1 ⟨xs,H1,I1,r,z,q⟩=>⟨by rw [← r.length];exact z,?_⟩)
 have hf:H1 s1.heap.objs.size=none:=I1.hok.fresh (Nat.le_refl _)
 refine ⟨.ref s1.heap.objs.size,upd H1 s1.heap.objs.size (.lst xs),I1.laid (t':=s1.toks) (fun b u e=>Heap.get?_push_of_some _ e) (Nat.le_refl _) ?_,rfl,q _ hf⟩
 exact ⟨z,us,0,r,Heap.get?_push_size _ rfl⟩
end
abbrev Sp:=List V→Hp→VK→XK→Prop
abbrev EF:=List Env→Hp→Shared→XK→Value→Shared→Prop
structure JM (P:Program) (w:World) (K:PySem.W.Frag) (mg:Str→Option Value) (base:Heap) (A:Around) (outer:List Env) (s:Shared) (H:Hp):Prop where
 frames:A.frames=some outer
 mod:Mod K mg base
 bs:∀ b o,base.get? b=some o→s.heap.get? b=some o∧H b=none
 Uy:base.objs.size≤s.heap.objs.size
 vS:s.heap.FunFrames base outer
 ZZ:∀ b∈frs outer,H b=none
 hok:rK P w H s.heap
 bare:AllBare s.gens
def CE (outer:List Env) (P:Program) (w:World) (H:Hp) (s:Shared) (Q:VK) (u:Value) (s':Shared):Prop :=
 ∃ v H',s'.os=s.os∧AllBare s'.gens∧Un (frs outer) [] H H' s.heap s'.heap∧rK P w H' s'.heap∧RelV v u∧Q v H'
def CR (CX:EF) (outer:List Env) (P:Program) (w:World) (H:Hp) (s:Shared) (Q:VK) (E:XK) (r:Result) (s':Shared):Prop :=
 match r with
 | .ok (.ret u)=>CE outer P w H s Q u s'
 | .ok _=>False
 | .error e=>CX outer H s E e s'
structure aM (P:Program) (w:World) (K:PySem.W.Frag) (mg:Str→Option Value) (base:Heap) (CX:EF) (k:Nat) (f:Addr) (fd:FuncData) (ps:List Str) (sp:Sp):Prop where
 len:∀ vs H Q E,sp vs H Q E→vs.length=ps.length
 run:∀ (A:Around) (outer:List Env) (s:Shared) (H:Hp) (args:Args) (us:List Value) (vs:List V) (Q:VK) (E:XK),gk k A→JM P w K mg base A outer s H→BindsTo s fd args (ps.zip us)→Vals vs us→sp vs H Q E →
  codeAny (model P w) A (.call (.ref f) args) (CR CX outer P w H s Q E) s
theorem JM.make {P:Program} {w:World} {K:PySem.W.Frag} {mg:Str→Option Value} {base:Heap} {A:Around} {outer:List Env} {s:Shared} {H:Hp} (e:JM P w K mg base A outer s H) (C:Addr) (us:List Value) (kw:List (Str×Value)) :
  JM P w K mg base (A.under (.builtin "type.__call__" ⟨.ref C::us,kw⟩)) outer s H:=⟨by first | exact e.frames | (simpa [Around.under,Code.envs,Code.isFrame,pushEnvs] using e.frames),e.mod,e.bs,e.Uy,e.vS,e.ZZ,e.hok,e.bare⟩
section
variable {X:Cx} {pins:List (Addr×Obj)} {σ:St} {H:Hp} {s s':Shared}
theorem Inv.a3e (I:Inv X pins σ H s):JM X.prog X.w X.K X.mg X.base X.A X.stack s H :=
 ⟨I.ok.frames,I.ok.mod,I.bs,Nat.le_trans I.ok.Uy I.sz,I.stack,I.J0,I.hok,I.bare⟩
theorem Inv.after {Q:VK} {u:Value} (I:Inv X pins σ H s) (h:CE X.stack X.prog X.w H s Q u s'):EP X pins σ Q u s':=by
 obtain ⟨v,H',os,bare,un,hok,r,q⟩:=h
 obtain ⟨hh,g,d,t,os'⟩:=s'
 obtain rfl:os'=s.os:=os
 exact ⟨v,H',I.call (h':=hh) (g':=g) (d':=d) (t':=t) (ch:=[]) un hok bare (fun b z=>absurd z (by simp)),r,q⟩
end
def Va (sp:Sp) (vC:List V) (E:XK) (t:TA):TE:=fun σ H Q=>t σ H fun vs H1=>sp (vs++vC) H1 Q E
def U6 (C:Addr) (m:Str) (sp:Sp) (vC:List V) (E:XK) (ta:TE) (t:TA):TE:=fun σ H Q=>ta σ H fun x H1=>∃ a dx fs,x=.ref a∧H1 a=some (.ins C dx fs)∧fs.lookup m=none ∧
 t σ H1 fun vs H2=>sp (x::(vs++vC)) H2 Q E
def U7 (C:Addr) (sp:Sp) (vC:List V) (E:XK) (t:TA):TE:=fun σ H Q=>t σ H fun vs H1=>∀ x dx,H1 x=none→H1 dx=none→dx≠x →
 sp (.ref x::(vs++vC)) (upd (upd H1 dx (.own x)) x (.ins C dx [])) (fun v H2=>v=.fP∧Q (.ref x) H2) E
def Binds (K:PySem.W.Frag) (fd:FuncData) (ps:List Str) (ds:List Value):Prop :=
 ∀ (s:Shared) (us:List Value),K.In s.heap→(us++ds).length=ps.length→BindsTo s fd ⟨us,[]⟩ (ps.zip (us++ds))
theorem Binds.all {K:PySem.W.Frag} {fd:FuncData} {ps:List Str} (h:∀ us:List Value,us.length=ps.length→bindArgs fd ⟨us,[]⟩=pure (ps.zip us)):Binds K fd ps []:=fun s us _ hl=>by
 rw [List.append_nil] at hl ⊢
 exact .of_eq (h us hl)
def Passes (CX:EF) (X:Cx) (E:XK):Prop:=∀ (pins:List (Addr×Obj)) (σ:St) (H:Hp) (s:Shared) (e:Value) (s':Shared),Inv X pins σ H s→CX X.stack H s E e s'→X.xe e s'
section
variable {X:Cx} {CX:EF} {k:Nat} {f C:Addr} {fd:FuncData} {ps:List Str} {sp:Sp} {vC:List V} {ds:List Value} {E:XK} {x m:Str} {p pos apos:Pos} {e o:Expr} {es:List Expr} {ta:TE} {t:TA}
theorem xr {pins:List (Addr×Obj)} {σ:St} {H:Hp} {s:Shared} {Q:VK} {us:List Value} {vs:List V} (F:aM X.prog X.w X.K X.mg X.base CX k f fd ps sp) (hr:gk k X.A) (hb:Binds X.K fd ps ds) (hd:Vals vC ds) (hx:Passes CX X E)
  (I:Inv X pins σ H s) (r:Vals vs us) (h:sp (vs++vC) H Q E):wpAny (model X.prog X.w) X.A (call (.ref f) us) (EP X pins σ Q) X.xe s:=by
 have r2:Vals (vs++vC) (us++ds):=r.append hd
 have hl:(us++ds).length=ps.length:=by rw [← r2.length];exact F.len _ _ _ _ h
 refine wpAny_call (codeAny_mono (F.run X.A X.stack s H ⟨us,[]⟩ (us++ds) (vs++vC) Q E hr I.a3e (hb s us I.qW hl) r2 h) fun r s' hq=>?_)
 cases r with
 | error e=>exact hx pins σ H s e s' I hq
 | ok fl =>
  cases fl with
  | ret u=>exact I.after hq
  | next=>exact False.elim hq
  | brk=>exact False.elim hq
  | cont=>exact False.elim hq
theorem wB (F:aM X.prog X.w X.K X.mg X.base CX k f fd ps sp) (hr:gk k X.A) (hg:Gl X x) (hm:X.mg x=some (.ref f)) (hk:PySem.W.keepIn X.K (.ref f)=true) (hb:Binds X.K fd ps ds) (hd:Vals vC ds) (hx:Passes CX X E)
  (ha:PA X (e::es) t) (hdb:(x == ("__debug__":Str))=false:=by decide) (he:starEach (e::es) X.env=(false,eval e X.env)::starEach es X.env:=by rfl) (hpl:(backTo pos (starEach es X.env)).any (·.1)=false:=by rfl) :
  PE X (.Call (.Name x p) (e::es) [] pos) (Va sp vC E t):=by
 intro pins s σ H Q I h
 refine wpAny_Call_Name_kw (sP I hg hm ?_ hdb)
 refine PySem.W.callWith_K (h₀:=X.base) I.ok.mod.kin hk (fG (ha pos pins s σ H _ I h) fun us s1 ⟨vs,H1,I1,r,q⟩=>⟨I1.qW,?_⟩) he hpl
 exact xr F hr hb hd hx I1 r q
theorem dO {pl:Sem Bool} (he:PE X o ta) (c:wL X.K C) (hm:Meth X.K C m f) (F:aM X.prog X.w X.K X.mg X.base CX k f fd ps sp) (hr:gk k X.A) (hb:Binds X.K fd ps ds) (hd:Vals vC ds) (hx:Passes CX X E) (ha:PA X (e::es) t)
  (hst:starEach (e::es) X.env=(false,eval e X.env)::starEach es X.env:=by rfl) (hpl:(backTo pos (starEach es X.env)).any (·.1)=false:=by rfl)
  (ht:eval (.Call (.Attribute o m apos) (e::es) [] pos) X.env=(do
   let ov ← eval o X.env
   standAt apos.atName
   let (f,first) ← holding [ov] (getMethod ov m pl)
   callWith pos f first (backTo pos (starEach (e::es) X.env)) (backToKw pos (keywordEach [] X.env))):=by rfl) :
  PE X (.Call (.Attribute o m apos) (e::es) [] pos) (U6 C m sp vC E ta t):=by
 intro pins s σ H Q I h
 refine PySem.W.methodCall_KW (pl:=pl) (fG (he pins s σ H _ I h) fun u s1 ⟨x,H1,I1,rx,a,dx,fs,ex,ea,l,q⟩=>?_) ht
 subst ex
 obtain rfl:u=Value.ref a:=rx
 refine qX I1 ea c hm l ?_
 refine PySem.W.callWith_K (first:=[.ref a]) (h₀:=X.base) I.ok.mod.kin hm.kp (fG (ha pos pins s1 σ H1 _ I1 q) fun us s2 ⟨vs,H2,I2,r,q2⟩=>⟨I2.qW,?_⟩) hst hpl
 exact xr (us:=.ref a::us) (vs:=.ref a::vs) F hr hb hd hx I2 (.cons rfl r) q2
theorem bK {pl:Sem Bool} (he:PE X o ta) (c:wL X.K C) (hm:Meth X.K C m f) (F:aM X.prog X.w X.K X.mg X.base CX k f fd ps sp) (hr:gk k X.A) (hb:Binds X.K fd ps ds) (hd:Vals vC ds) (hx:Passes CX X E)
  (ht:eval (.Call (.Attribute o m apos) [] [] pos) X.env=(do
   let ov ← eval o X.env
   standAt apos.atName
   let (f,first) ← holding [ov] (getMethod ov m pl)
   callWith pos f first (backTo pos (starEach [] X.env)) (backToKw pos (keywordEach [] X.env))):=by rfl) :
  PE X (.Call (.Attribute o m apos) [] [] pos) (U6 C m sp vC E ta a1t):=by
 intro pins s σ H Q I h
 refine PySem.W.methodCall_KW (pl:=pl) (fG (he pins s σ H _ I h) fun u s1 ⟨x,H1,I1,rx,a,dx,fs,ex,ea,l,q⟩=>?_) ht
 subst ex
 obtain rfl:u=Value.ref a:=rx
 refine qX I1 ea c hm l ?_
 exact PySem.W.callWith_K0 (first:=[.ref a]) I1.qW hm.kp (xr (us:=[.ref a]) (vs:=[.ref a]) F hr hb hd hx I1 (.cons rfl .nil) q)
structure Mk (K:PySem.W.Frag) (C f:Addr):Prop where
 makes:PySem.W.makesIn K C=true
 init:PySem.W.findIn K (.ref C) "__init__"=some (some (.ref f))
 fn:PySem.W.isFn K (.ref f)=true
 kp:PySem.W.keepIn K (.ref C)=true
theorem NP {pins:List (Addr×Obj)} {σ:St} {H:Hp} {s:Shared} {Q:VK} {us:List Value} {vs:List V} (M:Mk X.K C f) (F:aM X.prog X.w X.K X.mg X.base CX k f fd ps sp) (hr:gk (k+1) X.A) (hb:Binds X.K fd ps ds) (hd:Vals vC ds)
  (hx:Passes CX X E) (I:Inv X pins σ H s) (r:Vals vs us)
  (h:∀ x dx,H x=none→H dx=none→dx≠x→sp (.ref x::(vs++vC)) (upd (upd H dx (.own x)) x (.ins C dx [])) (fun v H2=>v=.fP∧Q (.ref x) H2) E) :
  wpAny (model X.prog X.w) X.A (call (.ref C) us) (EP X pins σ Q) X.xe s:=by
 have hq:=h (s.heap.objs.size+1) s.heap.objs.size (I.hok.fresh (Nat.le_succ _)) (I.hok.fresh (Nat.le_refl _)) (Nat.ne_of_lt (Nat.lt_succ_self _))
 have I2:=Inv.made (C:=C) I
 have r2:Vals (V.ref (s.heap.objs.size+1)::(vs++vC)) (Value.ref (s.heap.objs.size+1)::(us++ds)):=.cons rfl (r.append hd)
 have hl:(Value.ref (s.heap.objs.size+1)::us++ds).length=ps.length:=by
  have e:=r2.length
  rw [F.len _ _ _ _ hq] at e
  exact e.symm
 refine wpAny_call (Pd (f:=f) I.qW M.makes M.init (beq_iff_eq.mp M.fn) (codeAny_mono (F.run _ X.stack _ _ ⟨Value.ref (s.heap.objs.size+1)::us,[]⟩ (Value.ref (s.heap.objs.size+1)::(us++ds)) _ _ E (hr.make C us [])
  (I2.a3e.make C us []) (hb _ (Value.ref (s.heap.objs.size+1)::us) I2.qW hl) r2 hq) fun r s' hq'=>?_))
 cases r with
 | error e=>exact hx pins σ _ _ e s' I2 hq'
 | ok fl =>
  cases fl with
  | ret u =>
   obtain ⟨v,H',I3,rv,ev,q3⟩:=I2.after hq'
   subst ev
   exact ⟨rv,⟨V.ref (s.heap.objs.size+1),H',I3,rfl,q3⟩⟩
  | next=>exact False.elim hq'
  | brk=>exact False.elim hq'
  | cont=>exact False.elim hq'
theorem Ke (M:Mk X.K C f) (F:aM X.prog X.w X.K X.mg X.base CX k f fd ps sp) (hr:gk (k+1) X.A) (hg:Gl X x) (hm:X.mg x=some (.ref C)) (hb:Binds X.K fd ps ds) (hd:Vals vC ds) (hx:Passes CX X E)
  (ha:PA X (e::es) t) (hdb:(x == ("__debug__":Str))=false:=by decide) (he:starEach (e::es) X.env=(false,eval e X.env)::starEach es X.env:=by rfl) (hpl:(backTo pos (starEach es X.env)).any (·.1)=false:=by rfl) :
  PE X (.Call (.Name x p) (e::es) [] pos) (U7 C sp vC E t):=by
 intro pins s σ H Q I h
 refine wpAny_Call_Name_kw (sP I hg hm ?_ hdb)
 refine PySem.W.callWith_K (h₀:=X.base) I.ok.mod.kin M.kp (fG (ha pos pins s σ H _ I h) fun us s1 ⟨vs,H1,I1,r,q⟩=>⟨I1.qW,?_⟩) he hpl
 exact NP M F hr hb hd hx I1 r q
end
section
variable {X:Cx} {CX:EF} {k:Nat} {f C:Addr} {fd:FuncData} {ps ks:List Str} {sp:Sp} {E:XK} {x m:Str} {p pos apos kpos:Pos} {e o:Expr} {es:List Expr} {kws:List Keyword} {te ta:TE} {t tk:TA} {nm:Option Str}
variable {g:List Value→List Value→List Value} {gV:List V→List V→List V}
end
structure az (N P:List Str) (sc:Scope):Prop where
 kind:sc.kind=.function
 co:sc.isCoroutine=false
 gen:sc.isGenerator=false
 nd:N.Nodup
 pre:N.take P.length=P
 par:∀ x∈P,sc.names.lookup x=some .local∨sc.names.lookup x=some .cell
 Zc:∀ y∈sc.names,y.2≠.free
theorem dB {N P:List Str} {sc:Scope} (a:sc.kind=.function:=by rfl) (b:sc.isCoroutine=false:=by rfl) (c:sc.isGenerator=false:=by rfl) (d:N.Nodup:=by decide +kernel) (e:N.take P.length=P:=by rfl) (f:∀ x∈P,sc.names.lookup x=some .local∨sc.names.lookup x=some .cell:=by decide +kernel) (g:∀ y∈sc.names,y.2≠.free:=by decide +kernel):az N P sc:=⟨a,b,c,d,e,f,g⟩
theorem zX {kindOf:Str→Option NameKind} {x:Str}:∀ {binds:List (Str×Value)} {m:Str→Option Value},(∀ v,(x,v) ∉ binds)→bindL kindOf binds m x=m x
 | [],_,_=>rfl
 | (n,v)::r,m,h=>by
  unfold bindL
  rw [zX fun w hw=>h w (List.mem_cons_of_mem _ hw)]
  split
  ·have:x≠n:=by rintro rfl;exact h v List.mem_cons_self
   simp [this]
  ·rfl
theorem zZ {kindOf:Str→Option NameKind} {x:Str}:∀ {binds:List (Str×Value)} {m:Str→Option Value},(∀ v,(x,v) ∉ binds)→bindC kindOf binds m x=m x
 | [],_,_=>rfl
 | (n,v)::r,m,h=>by
  unfold bindC
  rw [zZ fun w hw=>h w (List.mem_cons_of_mem _ hw)]
  split
  ·rfl
  ·have:x≠n:=by rintro rfl;exact h v List.mem_cons_self
   simp [this]
theorem zY {kindOf:Str→Option NameKind} {x:Str} {v:Value}:∀ {P:List Str} {vs:List Value} {i:Nat} {m:Str→Option Value},P.Nodup→P[i]?=some x→vs[i]?=some v→kindOf x=some .local →
  bindL kindOf (P.zip vs) m x=some v
 | [],_,_,_,_,h,_,_=>by simp at h
 | _::_,[],_,_,_,_,h,_=>by simp at h
 | p::P,w::vs,0,m,nd,h1,h2,hk=>by
  simp at h1 h2;subst h1;subst h2
  show bindL kindOf ((p,w)::P.zip vs) m p=_
  unfold bindL
  rw [zX fun v hv=>(List.nodup_cons.mp nd).1 (List.of_mem_zip hv).1,if_pos hk]
  simp
 | p::P,w::vs,i+1,m,nd,h1,h2,hk=>by
  show bindL kindOf ((p,w)::P.zip vs) m x=_
  unfold bindL
  exact zY (i:=i) (List.nodup_cons.mp nd).2 (by simpa using h1) (by simpa using h2) hk
theorem z9 {kindOf:Str→Option NameKind} {x:Str} {v:Value}:∀ {P:List Str} {vs:List Value} {i:Nat} {m:Str→Option Value},P.Nodup→P[i]?=some x→vs[i]?=some v→kindOf x≠some .local →
  bindC kindOf (P.zip vs) m x=some v
 | [],_,_,_,_,h,_,_=>by simp at h
 | _::_,[],_,_,_,_,h,_=>by simp at h
 | p::P,w::vs,0,m,nd,h1,h2,hk=>by
  simp at h1 h2;subst h1;subst h2
  show bindC kindOf ((p,w)::P.zip vs) m p=_
  unfold bindC
  rw [zZ fun v hv=>(List.nodup_cons.mp nd).1 (List.of_mem_zip hv).1,if_neg hk]
  simp
 | p::P,w::vs,i+1,m,nd,h1,h2,hk=>by
  show bindC kindOf ((p,w)::P.zip vs) m x=_
  unfold bindC
  exact z9 (i:=i) (List.nodup_cons.mp nd).2 (by simpa using h1) (by simpa using h2) hk
def start (N:List Str) (vs:List V):St:=vs.map some++List.replicate (N.length - vs.length) none
def jR (CX:EF) (P:Program) (w:World) (K:PySem.W.Frag) (mg:Str→Option Value) (base:Heap) (N:List Str) (qual:Str) (scope:Scope) (f:Addr) (cd:Value) (A:Around) (outer:List Env) (s:Shared) (H:Hp) (E:XK):Cx where
 prog:=P
 w:=w
 K:=K
 mg:=mg
 base:=base
 A:=A.deeper (envOfC qual scope s.heap.objs.size f cd)
 N:=N
 s₀:=s
 H₀:=H
 env:=envOfC qual scope s.heap.objs.size f cd
 outer:=outer
 stack:=envOfC qual scope s.heap.objs.size f cd::outer
 ex:=[]
 calm:=true
 fn:=fun _=>true
 pn:=[]
 xe:=fun e s'=>wpAny (model P w) (A.deeper (envOfC qual scope s.heap.objs.size f cd)) (leaving (envOfC qual scope s.heap.objs.size f cd) e) (fun _ s''=>CX outer H s E e s'') (fun e' s''=>CX outer H s E e' s'') s'
theorem D3 {sc:Scope} {n:Nat} {x:Str} (h:sc.names.lookup x=some .cell):∃ c,(cellsFrom n sc.names []).lookup x=some c:=by
 have q:=PySem.W.cellsFrom_some sc.names n [] (.inl h)
 exact Option.isSome_iff_exists.mp q
theorem LC {CX:EF} {P:Program} {w:World} {K:PySem.W.Frag} {mg:Str→Option Value} {base:Heap} {N ps:List Str} {qual:Str} {scope:Scope} {f:Addr} {cd:Value} {A:Around} {outer:List Env} {s s1:Shared} {H:Hp} {E:XK} {us:List Value} {vs:List V}
  (S:az N ps scope) (hd:A.handled=none) (e0:JM P w K mg base A outer s H) (hl:vs.length=ps.length) (r:Vals vs us)
  (x:InCallC s s.heap.objs.size (bindL (envOfC qual scope s.heap.objs.size f cd).kindOf (ps.zip us) fun _=>none) (cellsFrom (s.heap.objs.size+1) scope.names []) (bindC (envOfC qual scope s.heap.objs.size f cd).kindOf (ps.zip us) fun _=>none) s1) :
  Inv (jR CX P w K mg base N qual scope f cd A outer s H E) [] (start N vs) H s1:=by
 have hpl:ps.length≤N.length:=by have:=congrArg List.length S.pre;rw [List.length_take] at this;omega
 obtain ⟨h1,tk,rfl,hk⟩:=x.done
 have noA:∀ b:Addr,b ∉ (jR CX P w K mg base N qual scope f cd A outer s H E).ex:=fun b z=>absurd (show b∈([]:List Addr) from z) (by simp)
 refine ⟨⟨e0.mod,S.kind,rfl,rfl,Nat.le_refl _,fun y z c h1 h2=>?_,fun y hy=>?_,fun y c _ h=>?_,fun _=>hd,Around.frames_deeper e0.frames,.inr ⟨rfl,rfl⟩,fun b z=>absurd z (noA b),e0.bs,e0.Uy,fun b _ _=>noA b,fun b z=>absurd z (noA b),e0.vS,e0.ZZ⟩,
  rfl,e0.bare,Un.kept hk,⟨_,x.toInCall.ns,fun i y v h1 h2 h3=>?_⟩,fun y c h=>⟨_,x.cell y c h⟩,e0.hok.fresh (Nat.le_refl _),fun y c h=>?_,fun p hp=>absurd (show p∈([]:List (Addr×Obj)) from hp) (by simp),e0.hok.kept hk,?_⟩
 ·exact name_of_addr x.apart (PySem.mem_of_lookup h1) (PySem.mem_of_lookup h2)
 ·have hy:scope.names.lookup y=some .cell∨scope.names.lookup y=some .free:=hy
  rcases hy with hy | hy
  ·exact D3 hy
  ·exact absurd rfl (S.Zc _ (PySem.mem_of_lookup hy))
 ·exact Nat.le_of_lt (x.above y c (PySem.mem_of_lookup h))
 ·have hi:i < vs.length:=by
   unfold start at h2
   by_cases hi:i < vs.length
   ·exact hi
   ·rw [List.getElem?_append_right (by simpa using hi)] at h2
    rw [List.getElem?_replicate] at h2
    split at h2 <;> cases h2
  have ha:vs[i]?=some v:=by
   unfold start at h2
   rw [List.getElem?_append_left (by simpa using hi),List.getElem?_map] at h2
   cases e:vs[i]? with
   | none=>rw [e] at h2;cases h2
   | some a=>rw [e] at h2;cases h2;rfl
  obtain ⟨u,hu,rv⟩:=r.get ha
  have hp:ps[i]?=some y:=by
   rw [← S.pre,List.getElem?_take_of_lt (by omega)];exact h1
  have ndP:ps.Nodup:=by rw [← S.pre];exact S.nd.sublist (List.take_sublist _ _)
  refine ⟨u,rv,?_⟩
  rcases S.par y (List.mem_of_getElem? hp) with k | k
  ·exact .inl ⟨k,zY ndP hp hu k⟩
  ·obtain ⟨c,e⟩:=D3 (n:=s.heap.objs.size+1) k
   refine .inr ⟨.inl k,c,e,?_⟩
   have q:=x.cell y c e
   rw [z9 ndP hp hu (by show scope.names.lookup y≠_;rw [k];decide)] at q
   exact q
 ·exact e0.hok.fresh (Nat.le_of_lt (x.above y c (PySem.mem_of_lookup h)))
 ·unfold start
  show _=N.length
  rw [List.length_append,List.length_map,List.length_replicate]
  omega
theorem a2M {CX:EF} {P:Program} {w:World} {K:PySem.W.Frag} {mg:Str→Option Value} {base:Heap} {k:Nat} {f:Addr} {name qual:Str} {params:Arguments} {body:List Stmt} {scope:Scope} {dV kV doc pm cdv ct oc:Value} {an od:Option Addr}
  {osl:Array (Option Value)} {N ps:List Str} {sp:Sp} (lk:K.lookup f=some ⟨oc,od,.func (PySem.W.fnOf name qual params body scope dV kV doc pm an cdv ct),osl⟩) (hcd:PySem.W.codeIn K cdv qual=true) (S:az N ps scope)
  (len:∀ vs H Q E,sp vs H Q E→vs.length=ps.length)
  (hbody:∀ (A:Around) (outer:List Env) (s:Shared) (H:Hp) (vs:List V) (Q:VK) (E:XK),gk k (A.deeper (envOfC qual scope s.heap.objs.size f cdv))→sp vs H Q E →
   ∃ t,EE (jR CX P w K mg base N qual scope f cdv A outer s H E) body t∧t { nx:=fun _ H'=>Q .fP H',rt:=Q } (start N vs) H) :
  aM P w K mg base CX (k+1) f (PySem.W.fnOf name qual params body scope dV kV doc pm an cdv ct) ps sp:=by
 refine ⟨len,fun A outer s H args us vs Q E hr e0 hb r Vw=>?_⟩
 have hl:=len _ _ _ _ Vw
 have KX:K.In s.heap:=e0.mod.kin.keeps fun b o e=>(e0.bs b o e).1
 have lim:s.heap.NoLimit:=e0.mod.nolimit.keeps fun b o e=>(e0.bs b o e).1
 have hkind:∀ y∈ps.zip us,scope.names.lookup y.1=some .local∨(scope.names.lookup y.1=some .cell∧((cellsFrom (s.heap.objs.size+1) scope.names []).lookup y.1).isSome=true):=fun ⟨n,v⟩ hy=>by
  rcases S.par n (List.of_mem_zip hy).1 with q | q
  ·exact .inl q
  ·exact .inr ⟨q,PySem.W.cellsFrom_some _ _ _ (.inl q)⟩
 refine codeAny_call_function hr.depth (KX _ _ lk) rfl S.co S.gen rfl (PySem.W.codeRec_of KX hcd) (hb _ _ _ _ ?_)
 refine wpAny_newFunctionEnv_cells S.kind hkind fun env he s1 x=>?_
 subst he
 refine ⟨lim.keeps x.toInCall.keep,codeAny_func ?_⟩
 obtain ⟨t,ht,hq⟩:=hbody A outer s H vs Q E (hr.deeper _) Vw
 have I:Inv (jR CX P w K mg base N qual scope f cdv A outer s H E) [] (start N vs) H s1:=LC S hr.hd e0 hl r x
 refine wpAny_mono (ht [] s1 (start N vs) H _ I hq) (fun fl s' hs=>?_) fun e s' hs=>hs
 have fin:∀ {σ':St} {H':Hp} {v:V} {u:Value},Inv (jR CX P w K mg base N qual scope f cdv A outer s H E) [] σ' H' s'→RelV v u→Q v H'→CE outer P w H s Q u s' :=
  fun {σ' H' v u} J rv q=>⟨v,H',J.os,J.bare,J.base,J.hok,rv,q⟩
 cases fl with
 | ret u =>
  obtain ⟨v,σ',H',J,rv,q⟩:=hs
  exact fin J rv q
 | next =>
  obtain ⟨σ',H',J,q⟩:=hs
  exact fin (v:=V.fP) (u:=Value.none) J rfl q
 | brk =>
  obtain ⟨_,_,_,q⟩:=hs
  exact False.elim q
 | cont =>
  obtain ⟨_,_,_,q⟩:=hs
  exact False.elim q
end L2
namespace L2
open PySem PySem.Spec PyProof.Rows
section
variable {X:Cx} {x:Str} {p pos:Pos} {e:Expr} {es:List Expr} {t:TA} {id T:String} {r:List V→Hp→VK→Prop}
def tCB (r:List V→Hp→VK→Prop) (t:TA):TE:=fun σ H Q=>t σ H fun vs H1=>r vs H1 Q
theorem xy (hc:ia X (.builtin id) r) (hg:Gl X x) (hm:X.mg x=none) (hv:bootBuiltins x=some (.builtin id)) (ha:PA X (e::es) t) (hn:x≠"__name__":=by decide) (hdb:(x == ("__debug__":Str))=false:=by decide)
  (he:starEach (e::es) X.env=(false,eval e X.env)::starEach es X.env:=by rfl) (hpl:(backTo pos (starEach es X.env)).any (·.1)=false:=by rfl):PE X (.Call (.Name x p) (e::es) [] pos) (tCB r t):=by
 intro pins s σ H Q I h
 refine wpAny_Call_Name_kw (xR I hg hm hv ?_ hn hdb)
 exact PyProof.Rows.callWith_builtin1 (fG (ha pos pins s σ H _ I h) fun us s1 ⟨vs,H1,I1,r1,q1⟩=>hc pins s1 σ H1 vs us Q I1 r1 q1) he hpl
theorem pP (hc:ia X (.type T) r) (hg:Gl X x) (hm:X.mg x=none) (hv:bootBuiltins x=some (.type T)) (ha:PA X (e::es) t) (hn:x≠"__name__":=by decide) (hdb:(x == ("__debug__":Str))=false:=by decide)
  (he:starEach (e::es) X.env=(false,eval e X.env)::starEach es X.env:=by rfl) (hpl:(backTo pos (starEach es X.env)).any (·.1)=false:=by rfl):PE X (.Call (.Name x p) (e::es) [] pos) (tCB r t):=by
 intro pins s σ H Q I h
 refine wpAny_Call_Name_kw (xR I hg hm hv ?_ hn hdb)
 exact PyProof.Rows.callWith_type1 (fG (ha pos pins s σ H _ I h) fun us s1 ⟨vs,H1,I1,r1,q1⟩=>hc pins s1 σ H1 vs us Q I1 r1 q1) he hpl
end
end L2
namespace HT
open PySem PyProof.Rows
section
open PySem.SeqAt
open PySem.AutoSeq1 (wpAny_loadPart')
open PySem.MeetsSeq PySem.MeetsSeq2 PySem.MeetsSeq3
end
section
variable {prog:Program} {w:World} {A:Around} {E:Value→Shared→Prop} {s:Shared}
theorem bW {t b:Addr} {vs ws:List Value} {Q:Value→Shared→Prop} (ht:IsTup s.heap t vs.toArray) (hb:IsTup s.heap b ws.toArray) (hv:vs≠[])
  (h1:ws=[]→Q (.ref t) s) (h2:ws≠[]→Q (.ref s.heap.objs.size) { s with heap:=s.heap.push { cls:=.type "tuple",data:=.seq (vs++ws).toArray } })
  (hsz:vs.length+ws.length≤sizeLine):wpAny (model prog w) A (binaryOp .Add (.ref t) (.ref b)) Q E s:=by
 obtain ⟨⟨cls,dd,data,sl⟩,ho,hc,n,hd⟩:=id ht
 obtain ⟨⟨c3t,dd2,data2,sl2⟩,ho2,hc2,n2,hd2⟩:=id hb
 simp only at hc hd hc2 hd2
 subst hc hd hc2 hd2
 have e:vs.toArray++ws.toArray=(vs++ws).toArray:=by simp
 by_cases hw:ws=[]
 ·exact concat_meets ⟨_,ho,rfl⟩ ⟨_,ho2,rfl⟩ noFill_tuple_add seq_tuple_add PySem.F.slot_tuple_add PySem.F.entry_tuple_add (PySem.F.args_tuple_add_2 _ _)
   (tuple_addW1 t b vs.toArray ws.toArray n n2 dd dd2 sl sl2 (by simpa using hv) (by simp [hw])) ⟨ho,ho2,h1 hw⟩
 ·refine concat_meets ⟨_,ho,rfl⟩ ⟨_,ho2,rfl⟩ noFill_tuple_add seq_tuple_add PySem.F.slot_tuple_add PySem.F.entry_tuple_add (PySem.F.args_tuple_add_2 _ _)
   (tuple_addW2 t b vs.toArray ws.toArray n n2 dd dd2 sl sl2 (by simpa using hv) (by simpa using hw) (by rw [List.size_toArray,List.size_toArray];exact hsz)) ⟨ho,ho2,?_⟩
  rw [e]
  exact h2 hw
def Ip (n d:Nat):Option Int→Nat
 | none=>d
 | some v=>if v < 0 then (v+(n:Int)).toNat else min v.toNat n
end
end HT
namespace L2
open PySem PySem.Spec PyProof.Rows
abbrev TO:=St→Hp→(Option Int→Hp→Prop)→Prop
def PO (X:Cx) (e:Option Expr) (t:TO):Prop :=
 ∀ (pins:List (Addr×Obj)) (s:Shared) (σ:St) (H:Hp) (Q:Option Int→Hp→Prop),Inv X pins σ H s→t σ H Q →
  wpAny (model X.prog X.w) X.A (evalPart e X.env) (fun u s'=>∃ o H',Inv X pins σ H' s'∧IsPart u o∧Q o H') X.xe s
def RX:TO:=fun _ H Q=>Q none H
def a1r (t:TE):TO:=fun σ H Q=>t σ H fun x H1=>∃ i,x=.int i∧Q (some i) H1
theorem intsAre_of {ns:List Int}:∀ {us:List Value},Vals (ns.map V.int) us→IntsAre us ns:=by
 induction ns with
 | nil=>intro us r;rw [List.map_nil] at r;cases r;exact .nil
 | cons n ns ih =>
  intro us r
  rw [List.map_cons] at r
  cases r with
  | cons r1 r2 =>
   obtain ⟨t,e⟩:=r1
   subst e
   exact .cons n t (ih r2)
section
variable {X:Cx} {e:Expr} {te:TE} {lo hi:Option Expr} {tl th:TO} {pos p2:Pos}
theorem wz:PO X none RX:=by
 intro pins s σ H Q I h
 rw [evalPart_none]
 exact wpAny_pure ⟨none,H,I,.none,h⟩
theorem lJ (h:PE X e te):PO X (some e) (a1r te):=by
 intro pins s σ H Q I hw
 rw [evalPart_some]
 refine fG (h pins s σ H _ I hw) fun u s1 ⟨x,H1,I1,r1,q1⟩=>?_
 obtain ⟨i,rfl,q⟩:=q1
 obtain ⟨t,rfl⟩:=r1
 exact ⟨some i,H1,I1,.int i t,q⟩
def SlR (X:Cx) (r:V→Option Int→Option Int→Hp→VK→Prop):Prop :=
 ∀ (pins:List (Addr×Obj)) (s:Shared) (σ:St) (H:Hp) (x:V) (v vl vu:Value) (lo hi:Option Int) (sl:Addr) (Q:VK),Inv X pins σ H s→RelV x v→s.heap.IsSliceOf sl vl vu .none→IsPart vl lo→IsPart vu hi→r x lo hi H Q →
  ∃ T id,typeLookup (.type T) "__getitem__"=pure (some (.builtin id))∧s.TypeIs v T∧wpAny (model X.prog X.w) X.A (getItem v (.ref sl)) (EP X pins σ Q) X.xe s
def tSl (r:V→Option Int→Option Int→Hp→VK→Prop) (te:TE) (tl th:TO):TE:=fun σ H Q=>te σ H fun x H1=>tl σ H1 fun l H2=>th σ H2 fun u H3=>r x l u H3 Q
theorem mE {r:V→Option Int→Option Int→Hp→VK→Prop} (hr:SlR X r) (he:PE X e te) (hl:PO X lo tl) (hu:PO X hi th):PE X (.Subscript e (.Slice lo hi none p2) pos) (tSl r te tl th):=by
 intro pins s σ H Q I h
 refine Subscript_ (fG (he pins s σ H _ I h) fun v s1 ⟨x,H1,I1,r1,q1⟩=>?_)
 refine wpAny_Slice (fG (hl pins s1 σ H1 _ I1 q1) fun vl s2 ⟨l,H2,I2,pl,q2⟩=>fG (hu pins s2 σ H2 _ I2 q2) fun vu s3 ⟨u,H3,I3,pu,q3⟩=>?_)
 rw [evalPart_none]
 refine wpAny_pure ?_
 have I4:Inv X pins σ H3 { s3 with heap:=s3.heap.push { cls:=.type "slice",data:=.fields #[vl,vu,.none] } }:=I3.kept (t':=s3.toks) fun b ob q=>Heap.get?_push_of_some _ q
 obtain ⟨T,id,hT,ht,hg⟩:=hr pins { s3 with heap:=s3.heap.push { cls:=.type "slice",data:=.fields #[vl,vu,.none] } } σ H3 x v vl vu l u s3.heap.objs.size Q I4 r1 (Heap.IsSliceOf.new ..) pl pu q3
 show wpAny (model X.prog X.w) X.A (subscriptTail e (.Slice lo hi none p2) v (.ref s3.heap.objs.size)) (EP X pins σ Q) X.xe { s3 with heap:=s3.heap.push { cls:=.type "slice",data:=.fields #[vl,vu,.none] } }
 exact tail_any (ops:=[.ref s3.heap.objs.size,v]) ht hT hg (by with_unfolding_all rfl)
def Jr (xs:List V) (lo hi:Option Int):List V:=(xs.drop (HT.Ip xs.length 0 lo)).take (HT.Ip xs.length xs.length hi - HT.Ip xs.length 0 lo)
theorem DZ (xs:List V) (lo hi:Option Int):(Jr xs lo hi).length≤xs.length:=by
 unfold Jr
 rw [List.length_take,List.length_drop]
 omega
def a1L (K:PySem.W.Frag):R2:=fun x y H Q=>∃ a b xs ys,x=.ref a∧y=.ref b∧bG K H a xs∧bG K H b ys∧xs≠[]∧xs.length+ys.length≤sizeLine ∧
 (ys=[]→Q (.ref a) H)∧(ys≠[]→∀ p,H p=none→Q (.ref p) (upd H p (.tup (xs++ys))))
theorem Vals.wD {xs:List V} {us:List Value} (r:Vals xs us):us=[]↔xs=[]:=by
 cases r with
 | nil=>simp
 | cons _ _=>simp
theorem SO:yO X (binaryOp .Add) (a1L X.K):=by
 intro pins s σ H x y v u Q I rx ry h
 obtain ⟨a,b,xs,ys,rfl,rfl,ha,hb,hx,hz,q1,q2⟩:=h
 cases rx
 cases ry
 obtain ⟨its,r1,p1,_⟩:=I.tuple ha
 obtain ⟨its2,r2,p2,_⟩:=I.tuple hb
 refine HT.bW p1 p2 (fun z=>hx (r1.wD.mp z)) (fun z=>⟨.ref a,H,I,rfl,q1 (r2.wD.mp z)⟩) (fun z=>?_) (by rw [← r1.length,← r2.length];exact hz)
 refine ⟨.ref s.heap.objs.size,_,I.laid (t':=s.toks) (o:=.tup (xs++ys)) (fun b ob q=>Heap.get?_push_of_some _ q) (Nat.le_refl _) ?_,rfl,q2 (fun w=>z (r2.wD.mpr w)) _ (I.hok.fresh (Nat.le_refl _))⟩
 exact ⟨by rw [List.length_append];exact hz,_,r1.append r2,IsTup.new _ _⟩
end
end L2
namespace L2
open PySem PySem.Spec PyProof.Rows
def Zp (n:Nat) (i:Int):Option Nat:=if 0≤i then (if i < n then some i.toNat else none) else if -(n:Int)≤i then some (i+n).toNat else none
def ED {α:Type} (xs:List α) (i:Int):Option α:=(Zp xs.length i).bind fun j=>xs[j]?
theorem Ku {n:Nat} {i:Int} {j:Nat} (h:Zp n i=some j):seqIndex? i n=some j∧j < n∧-(n:Int)≤i∧i < n:=by
 unfold Zp at h
 by_cases h0:0≤i
 ·rw [if_pos h0] at h
  by_cases h1:i < n
  ·rw [if_pos h1] at h
   have e:i.toNat=j:=Option.some.inj h
   exact ⟨by rw [seqIndex_of h0 h1,e],by omega,by omega,h1⟩
  ·rw [if_neg h1] at h;cases h
 ·rw [if_neg h0] at h
  by_cases h1:-(n:Int)≤i
  ·rw [if_pos h1] at h
   have e:(i+n).toNat=j:=Option.some.inj h
   exact ⟨by rw [seqIndex_neg (by omega) h1,e],by omega,h1,by omega⟩
  ·rw [if_neg h1] at h;cases h
theorem BY {α:Type} {xs:List α} {i:Int} {v:α} (h:ED xs i=some v):∃ j,seqIndex? i xs.length=some j∧xs[j]?=some v∧j < xs.length∧-(xs.length:Int)≤i∧i < xs.length:=by
 unfold ED at h
 cases e:Zp xs.length i with
 | none=>rw [e] at h;cases h
 | some j =>
  rw [e] at h
  obtain ⟨h1,h2,h3,h4⟩:=Ku e
  exact ⟨j,h1,h,h2,h3,h4⟩
theorem tQ {α:Type} {xs:List α} {j:Nat} {v:α} (h:xs[j]?=some v):ED xs (j:Int)=some v:=by
 have hj:j < xs.length:=(List.getElem?_eq_some_iff.mp h).1
 have e:Zp xs.length (j:Int)=some j:=by
  unfold Zp
  rw [if_pos (by omega),if_pos (by omega)];simp
 unfold ED;rw [e];exact h
def UO (b:Expr):Prop:=∀ o i,subscripted b false o i=operate [o,i] (getItem o i)
def IxR (X:Cx) (r:R2):Prop :=
 ∀ (value slice:Expr) (pins:List (Addr×Obj)) (s:Shared) (σ:St) (H:Hp) (x y:V) (v u:Value) (Q:VK),Inv X pins σ H s→RelV x v→RelV y u→r x y H Q →
  subscripted slice false v u=operate [v,u] (getItem v u)→wpAny (model X.prog X.w) X.A (subscriptTail value slice v u) (EP X pins σ Q) X.xe s
def MtR (X:Cx) (id:String) (r:V→List V→Hp→VK→Prop):Prop :=
 ∀ (pins:List (Addr×Obj)) (s:Shared) (σ:St) (H:Hp) (x:V) (xs:List V) (v:Value) (us:List Value) (Q:VK),Inv X pins σ H s→RelV x v→Vals xs us→r x xs H Q →
  wpAny (model X.prog X.w) X.A (call (.builtin id) (v::us)) (EP X pins σ Q) X.xe s
section
variable {X:Cx} {a b:Expr} {ta tb:TE} {pos:Pos}
theorem fY {r:R2} (hr:IxR X r) (ha:PE X a ta) (hb:PE X b tb) (hs:UO b):PE X (.Subscript a b pos) (tOp r ta tb):=by
 intro pins s σ H Q I h
 exact Subscript_ (a0u ha hb I h fun v u s2 x y H2 I2 rx ry q=>hr a b pins s2 σ H2 x y v u Q I2 rx ry q (hs _ _))
def b1b (K:PySem.W.Frag):R2:=fun x y H Q=>∃ p xs i v,x=.ref p∧y=.int i∧bH K H p xs∧ED xs i=some v∧Q v H
def b08 (K:PySem.W.Frag):R2:=fun x y H Q=>∃ p xs i v,x=.ref p∧y=.int i∧bG K H p xs∧ED xs i=some v∧Q v H
def b09:R2:=fun x y H Q=>∃ z i c,x=.str z∧y=.int i∧z.length≤sizeLine∧ED z.cps.toList i=some c∧Q (.str ⟨#[c]⟩) H
theorem eN:IxR X (b1b X.K):=by
 intro value slice pins s σ H x y v u Q I rx ry h hs
 obtain ⟨p,xs,i,z,rfl,rfl,hq,he,q⟩:=h
 cases rx
 obtain ⟨t,rfl⟩:=ry
 obtain ⟨its,r,pl,hz⟩:=I.list hq
 obtain ⟨j,h1,h2,h3,h4,h5⟩:=BY he
 obtain ⟨w,ew,rw'⟩:=r.get h2
 have hl:=r.length
 have hn:=oW
 have fin:EP X pins σ Q w s:=⟨z,H,I,rw',q⟩
 by_cases h0:0≤i
 ·have hj:i.toNat=j:=by
   rw [seqIndex_of h0 h5] at h1
   exact Option.some.inj h1
  exact item_listR pl.isList h0 (by omega) (by rw [hj];simpa using ew) fin hs
 ·have hj:(i+(its.toArray.size:Int)).toNat=j:=by
   rw [seqIndex_neg (by omega) h4] at h1
   rw [List.size_toArray,← hl]
   exact Option.some.inj h1
  exact subscriptTail_builtinR (x:=w) pl.isList.typeIs slot_list_getitem.lookup
   (wpAny_getItem_list_neg (Q:=fun r s'=>r=w∧EP X pins σ Q r s') pl.isList (by omega) (by rw [List.size_toArray] <;> omega) (by omega) (by rw [hj];simpa using ew) ⟨rfl,fin⟩) hs
theorem Bw:IxR X (b08 X.K):=by
 intro value slice pins s σ H x y v u Q I rx ry h hs
 obtain ⟨p,xs,i,z,rfl,rfl,hq,he,q⟩:=h
 cases rx
 obtain ⟨t,rfl⟩:=ry
 obtain ⟨its,r,pl,hz⟩:=I.tuple hq
 obtain ⟨j,h1,h2,h3,h4,h5⟩:=BY he
 obtain ⟨w,ew,rw'⟩:=r.get h2
 have hl:=r.length
 have hn:=oW
 have fin:EP X pins σ Q w s:=⟨z,H,I,rw',q⟩
 exact subscriptTail_builtinR (x:=w) pl.typeIs slot_tuple_getitem.lookup
  (getItem_tuple (j:=j) (Q:=fun r s'=>r=w∧EP X pins σ Q r s') pl (by omega) (by omega) (by rw [List.size_toArray,← hl];exact h1) (by simpa using ew) ⟨rfl,fin⟩) hs
theorem IZ:IxR X b09:=by
 intro value slice pins s σ H x y v u Q I rx ry h hs
 obtain ⟨z,i,c,rfl,rfl,hz,he,q⟩:=h
 obtain ⟨t,rfl⟩:=rx
 obtain ⟨t',rfl⟩:=ry
 obtain ⟨j,h1,h2,h3,h4,h5⟩:=BY he
 have hl:z.cps.toList.length=z.length:=by simp [Str.length]
 rw [hl] at h1 h4 h5
 have hn:=oW
 exact tail_any (typeIs_str s z t) slot_str_getitem.lookup (getItem_str (c:=c) (by
  have e1:decide (i < -(2 ^ 63:Int))=false:=decide_eq_false (by omega)
  have e2:decide (i ≥ 2 ^ 63)=false:=decide_eq_false (by omega)
  rw [e1,e2,Bool.or_false]) (by rw [h1];simpa using h2) ⟨.str ⟨#[c]⟩,H,I.tok _,⟨_,rfl⟩,q⟩) hs
theorem IK (its:List Value) (n j:Nat) (u:Value):Obj.mapSeq (·.setIfInBounds j u) { cls:=.type "list",data:=.seq its.toArray n }={ cls:=.type "list",data:=.seq (its.set j u).toArray n }:=by
 simp [Obj.mapSeq]
theorem Inv.lst {pins:List (Addr×Obj)} {σ:St} {H:Hp} {s:Shared} {p:Addr} {xs:List V} (I:Inv X pins σ H s) (h:H p=some (.lst xs)) :
  ∃ (its:List Value) (n:Nat),Vals xs its∧s.heap.get? p=some { cls:=.type "list",data:=.seq its.toArray n }∧xs.length≤sizeLine:=by
 obtain ⟨z,its,n,r,e⟩:=I.hok p _ h
 exact ⟨its,n,r,e,z⟩
theorem Inv.Zi {pins:List (Addr×Obj)} {σ:St} {H:Hp} {s:Shared} {p:Addr} {xs ys:List V} {its its':List Value} {n n':Nat} {f:Obj→Obj} (I:Inv X pins σ H s) (h:H p=some (.lst xs))
  (ho:s.heap.get? p=some { cls:=.type "list",data:=.seq its.toArray n }) (hf:f { cls:=.type "list",data:=.seq its.toArray n }={ cls:=.type "list",data:=.seq its'.toArray n' }) (r:Vals ys its') (hz:ys.length≤sizeLine) (t:Nat) :
  Inv X pins σ (upd H p (.lst ys)) { s with heap:=s.heap.update p f,toks:=t }:=by
 have e:(s.heap.update p f).get? p=some { cls:=.type "list",data:=.seq its'.toArray n' }:=by
  rw [Heap.get?_update_self f ho (by rw [hf] <;> rfl),hf]
 refine I.write (x:=p) (e:=p) (by rw [h];trivial) (.inl rfl) (fun b u hb q=>(Heap.get?_update_other _ _ (Ne.symm hb)).trans q) ⟨_,e⟩ ?_
 exact ⟨hz,its',n',r,e⟩
def a1I:V→V→V→Hp→(Hp→Prop)→Prop:=fun o i v H Q=>∃ p xs k j,o=.ref p∧i=.int k∧H p=some (.lst xs)∧Zp xs.length k=some j∧Q (upd H p (.lst (xs.set j v)))
theorem set_list:a5t X a1I:=by
 intro pins s σ H o i v ov iv u Q I ro ri rv h
 obtain ⟨p,xs,k,j,rfl,rfl,hp,hj,q⟩:=h
 cases ro
 obtain ⟨t,rfl⟩:=ri
 obtain ⟨its,n,r,ho,hz⟩:=I.lst hp
 obtain ⟨h1,h2,h3,h4⟩:=Ku hj
 have hl:=r.length
 have hn:=oW
 have I':Inv X pins σ (upd H p (.lst (xs.set j v))) { s with heap:=s.heap.update p (Obj.mapSeq (·.setIfInBounds j u)) } :=
  I.Zi hp ho (IK its n j u) (r.set rv j) (by rw [List.length_set];exact hz) s.toks
 by_cases h0:0≤k
 ·have hk:k.toNat=j:=by
   rw [seqIndex_of h0 h4] at h1
   exact Option.some.inj h1
  exact PySem.W.ki_setAt ho h0 (by omega) (by rw [List.size_toArray,← hl];exact h4) (by rw [hk];exact ⟨_,I',q⟩)
 ·have hk:(k+(its.toArray.size:Int)).toNat=j:=by
   rw [seqIndex_neg (by omega) h3] at h1
   rw [List.size_toArray,← hl]
   exact Option.some.inj h1
  exact PySem.W.ki_setBack ho (by omega) (by rw [List.size_toArray,← hl];exact h3) (by omega) (by rw [hk];exact ⟨_,I',q⟩)
theorem As (lo hi:Option Int) (n:Nat):(sliceBounds lo hi none n).1=((HT.Ip n 0 lo:Nat):Int)∧(sliceBounds lo hi none n).2.1=((HT.Ip n n hi:Nat):Int)∧(sliceBounds lo hi none n).2.2=1:=by
 refine ⟨?_,?_,rfl⟩
 ·cases lo with
  | none=>simp [sliceBounds,HT.Ip]
  | some i =>
   simp only [sliceBounds,HT.Ip,Option.getD_none,show (1:Int) > 0 by decide,if_true]
   by_cases h:i < 0
   ·simp only [h,if_true] <;> omega
   ·simp only [h,if_false] <;> omega
 ·cases hi with
  | none=>simp [sliceBounds,HT.Ip]
  | some i =>
   simp only [sliceBounds,HT.Ip,Option.getD_none,show (1:Int) > 0 by decide,if_true]
   by_cases h:i < 0
   ·simp only [h,if_true] <;> omega
   ·simp only [h,if_false] <;> omega
theorem yT (its:List Value) (lo hi:Option Int):slicePick its.toArray lo hi none=((its.drop (HT.Ip its.length 0 lo)).take (HT.Ip its.length its.length hi - HT.Ip its.length 0 lo)).toArray:=by
 obtain ⟨h1,h2,h3⟩:=As lo hi its.toArray.size
 unfold slicePick
 rw [h1,h2,h3]
 simp only [sliceRange_one,pick_run,List.size_toArray] <;> rfl
def b07 (K:PySem.W.Frag):V→Option Int→Option Int→Hp→VK→Prop:=fun x lo hi H Q=>∃ a xs,x=.ref a∧bH K H a xs∧∀ p,H p=none→Q (.ref p) (upd H p (.lst (Jr xs lo hi)))
theorem wo:SlR X (b07 X.K):=by
 intro pins s σ H x v vl vu lo hi sl Q I rx hs pl pu h
 obtain ⟨a,xs,rfl,hx,q⟩:=h
 cases rx
 obtain ⟨its,r,ht,hz⟩:=I.list hx
 have hlen:=r.length
 refine ⟨"list",_,slot_list_getitem.lookup,ht.isList.typeIs,?_⟩
 refine wpAny_getItem_list_slice ht.isList hs pl pu .none (by simp) ?_ (by rw [List.size_toArray] <;> omega)
 rw [yT,← hlen]
 refine ⟨.ref s.heap.objs.size,_,I.laid (t':=s.toks) (o:=.lst (Jr xs lo hi)) (fun b ob q=>Heap.get?_push_of_some _ q) (Nat.le_refl _) ?_,rfl,q _ (I.hok.fresh (Nat.le_refl _))⟩
 exact ⟨Nat.le_trans (DZ xs lo hi) hz,_,0,(r.drop (HT.Ip xs.length 0 lo)).take (HT.Ip xs.length xs.length hi - HT.Ip xs.length 0 lo),Heap.get?_push_size _ rfl⟩
def x9:V→Bool
 | .fP=>true
 | .bl _=>true
 | .int _=>true
 | .str _=>true
 | _=>false
def eqV:V→V→Bool
 | .fP,.fP=>true
 | .bl a,.bl b=>a == b
 | .bl a,.int b=>(if a then 1 else 0) == b
 | .int a,.bl b=>a == (if b then 1 else 0)
 | .int a,.int b=>a == b
 | .str a,.str b=>a == b
 | _,_=>false
theorem a0j {A:Around} {s:Shared} {y x:V} {u v:Value} (ry:RelV y u) (rx:RelV x v) (fy:x9 y=true) (fx:x9 x=true):SeqAt.EqAt A s u v (eqV y x):=by
 cases y with
 | fP =>
  cases ry
  cases x with
  | fP=>cases rx;exact SeqAt.EqAt.same _
  | bl b=>cases rx;exact SeqAt.EqAt.none_bool b
  | int b=>obtain ⟨t,rfl⟩:=rx;exact SeqAt.EqAt.none_int b t
  | str b=>obtain ⟨t,rfl⟩:=rx;exact SeqAt.EqAt.none_str b t
  | _=>exact absurd (show false=true from fx) Bool.false_ne_true
 | bl a =>
  cases ry
  cases x with
  | fP=>cases rx;exact SeqAt.EqAt.bool_none a
  | bl b=>cases rx;exact SeqAt.EqAt.bool_bool a b
  | int b=>obtain ⟨t,rfl⟩:=rx;exact SeqAt.EqAt.bool_int a b t
  | str b=>obtain ⟨t,rfl⟩:=rx;exact SeqAt.EqAt.bool_str a b t
  | _=>exact absurd (show false=true from fx) Bool.false_ne_true
 | int a =>
  obtain ⟨t',rfl⟩:=ry
  cases x with
  | fP=>cases rx;exact SeqAt.EqAt.int_none a t'
  | bl b=>cases rx;exact SeqAt.EqAt.int_bool a t' b
  | int b=>obtain ⟨t,rfl⟩:=rx;exact SeqAt.EqAt.int_int a t' b t
  | str b=>obtain ⟨t,rfl⟩:=rx;exact SeqAt.EqAt.int_str a t' b t
  | _=>exact absurd (show false=true from fx) Bool.false_ne_true
 | str a =>
  obtain ⟨t',rfl⟩:=ry
  cases x with
  | fP=>cases rx;exact SeqAt.EqAt.str_none a t'
  | bl b=>cases rx;exact SeqAt.EqAt.str_bool a t' b
  | int b=>obtain ⟨t,rfl⟩:=rx;exact SeqAt.EqAt.str_int a t' b t
  | str b=>obtain ⟨t,rfl⟩:=rx;exact SeqAt.EqAt.str_str a t' b t
  | _=>exact absurd (show false=true from fx) Bool.false_ne_true
 | _=>exact absurd (show false=true from fy) Bool.false_ne_true
theorem dQ:ia X (.builtin "len") (fun xs H Q=>∃ p ys,xs=[.ref p]∧(bH X.K H p ys∨bG X.K H p ys)∧Q (.int ys.length) H):=by
 intro pins s σ H xs us Q I r h
 obtain ⟨p,ys,rfl,hq,q⟩:=h
 obtain ⟨u,rfl,rx⟩:=vals1 r
 cases rx
 have hn:=oW
 rcases hq with hq | hq
 ·obtain ⟨its,r',pl,hz⟩:=I.list hq
  have hlen:=r'.length
  exact Calls.call_len_list pl.isList (by simp only [List.size_toArray] <;> omega) ⟨.int ys.length,H,I.tok _,⟨s.toks+1,by rw [List.size_toArray,hlen]⟩,q⟩
 ·obtain ⟨its,r',pl,hz⟩:=I.tuple hq
  have hlen:=r'.length
  exact len_tuple pl (by simp only [List.size_toArray] <;> omega) ⟨.int ys.length,H,I.tok _,⟨s.toks+1,by rw [List.size_toArray,hlen]⟩,q⟩
theorem BV:ia X (.builtin "len") (fun xs H Q=>∃ z,xs=[.str z]∧z.length≤sizeLine∧Q (.int z.length) H):=by
 intro pins s σ H xs us Q I r h
 obtain ⟨z,rfl,hz,q⟩:=h
 obtain ⟨u,rfl,t,rfl⟩:=vals1 r
 have hn:=oW
 exact len_str (by omega) ⟨.int z.length,H,I.tok _,⟨_,rfl⟩,q⟩
theorem tN:ia X (.type "list") (fun xs H Q=>∃ p ys,xs=[.ref p]∧(bH X.K H p ys∨bG X.K H p ys)∧∀ l,H l=none→Q (.ref l) (upd H l (.lst ys))):=by
 intro pins s σ H xs us Q I r h
 obtain ⟨p,ys,rfl,hq,q⟩:=h
 obtain ⟨u,rfl,rx⟩:=vals1 r
 cases rx
 have fin:∀ (its:List Value),Vals ys its→ys.length≤sizeLine→∀ (h':Heap) (c':Nat),(∀ b o',s.heap.get? b=some o'→h'.get? b=some o') →
   h'.get? s.heap.objs.size=some { cls:=.type "list",dict:=none,data:=.seq its.toArray c',slots:=#[] }→EP X pins σ Q (.ref s.heap.objs.size) { s with heap:=h' }:=fun its r' hz h' c' kp e =>
  ⟨.ref s.heap.objs.size,_,I.laid (t':=s.toks) kp (Nat.le_refl _) (show dJ X.prog X.w _ h' _ (.lst ys) from ⟨hz,its,c',r',e⟩),rfl,q _ (I.hok.fresh (Nat.le_refl _))⟩
 rcases hq with hq | hq
 ·obtain ⟨its,r',pl,hz⟩:=I.list hq
  have hlen:=r'.length
  obtain ⟨o,ho,hc,n,hd⟩:=pl.isList
  exact call_list_seq p (.inl rfl) ho hc hd (fun h' c' kp e=>fin its r' hz h' c' kp e) (by simp only [List.size_toArray] <;> omega)
 ·obtain ⟨its,r',pl,hz⟩:=I.tuple hq
  have hlen:=r'.length
  obtain ⟨o,ho,hc,n,hd⟩:=pl
  exact call_list_seq p (.inr rfl) ho hc hd (fun h' c' kp e=>fin its r' hz h' c' kp e) (by simp only [List.size_toArray] <;> omega)
theorem aW:ia X (.type "tuple") (fun xs H Q=>∃ p ys,xs=[.ref p]∧((bH X.K H p ys∧∀ l,H l=none→Q (.ref l) (upd H l (.tup ys)))∨(bG X.K H p ys∧Q (.ref p) H))):=by
 intro pins s σ H xs us Q I r h
 obtain ⟨p,ys,rfl,h⟩:=h
 obtain ⟨u,rfl,rx⟩:=vals1 r
 cases rx
 rcases h with ⟨hq,q⟩ | ⟨hq,q⟩
 ·obtain ⟨its,r',pl,hz⟩:=I.list hq
  have hlen:=r'.length
  refine call_tuple_list pl.isList (fun h' kp=>?_) (by simp only [List.size_toArray] <;> omega)
  have I1:Inv X pins σ H { s with heap:=h' }:=I.kept (t':=s.toks) kp
  have I2:Inv X pins σ (upd H h'.objs.size (.tup ys)) { s with heap:=h'.push { cls:=.type "tuple",data:=.seq its.toArray } } :=
   I1.laid (t':=s.toks) (fun b o e=>Heap.get?_push_of_some _ e) (Nat.le_refl _) (show dJ X.prog X.w _ _ _ (.tup ys) from ⟨hz,its,r',IsTup.new _ _⟩)
  exact ⟨.ref h'.objs.size,_,I2,rfl,q _ (I1.hok.fresh (Nat.le_refl _))⟩
 ·obtain ⟨its,r',pl,hz⟩:=I.tuple hq
  exact call_tuple_same pl ⟨.ref p,H,I,rfl,q⟩
def tyV (K:PySem.W.Frag) (T:String) (x:V) (H:Hp):Prop:=match x with
 | .str _=>T="str"
 | .int _=>T="int"
 | .ref p=>(T="list"∧∃ xs,bH K H p xs)∨(T="tuple"∧∃ o,K.lookup p=some o∧o.cls=.type "tuple"∧o.dict=none) ∨
   (T="dict"∧((∃ kvs,H p=some (.dK kvs))∨∃ kvs,H p=some (.dT kvs)))∨(T="set"∧∃ S n,H p=some (.set S n))
 | _=>False
theorem XC {pins:List (Addr×Obj)} {σ:St} {H:Hp} {s:Shared} {T:String} {x:V} {v:Value} (I:Inv X pins σ H s) (r:RelV x v) (ty:tyV X.K T x H) :
  s.TypeIs v T∧∀ a,v=.ref a→∃ ob,s.heap.get? a=some ob∧ob.dict=none:=by
 cases x with
 | str z =>
  obtain ⟨t,rfl⟩:=r
  cases (show T="str" from ty)
  exact ⟨typeIs_str s z t,fun _ e=>nomatch e⟩
 | int i =>
  obtain ⟨t,rfl⟩:=r
  cases (show T="int" from ty)
  exact ⟨typeIs_int s i t,fun _ e=>nomatch e⟩
 | ref p =>
  cases r
  rcases ty with ⟨rfl,xs,hq⟩ | ⟨rfl,o,hk,hc,hd⟩ | ⟨rfl,hk⟩ | ⟨rfl,S,n,hk⟩
  ·obtain ⟨its,_,pl,_⟩:=I.list hq
   refine ⟨pl.isList.typeIs,fun a e=>?_⟩
   cases e
   obtain ⟨o,n,e,c,hd,_⟩:=pl
   exact ⟨o,e,hd⟩
  ·refine ⟨⟨o,I.qW p o hk,hc⟩,fun a e=>?_⟩
   cases e
   exact ⟨o,I.qW _ o hk,hd⟩
  ·have z:∃ o,s.heap.get? p=some o∧o.ExactDict:=by
    rcases hk with ⟨kvs,hk⟩ | ⟨kvs,hk⟩
    ·obtain ⟨_,_,_,_,o,_,_,e,ex,_⟩:=I.hok p _ hk
     exact ⟨o,e,ex⟩
    ·obtain ⟨_,_,_,_,o,_,_,e,ex,_⟩:=I.hok p _ hk
     exact ⟨o,e,ex⟩
   obtain ⟨o,e,ex⟩:=z
   refine ⟨⟨o,e,ex.1⟩,fun a e2=>?_⟩
   cases e2
   exact ⟨o,e,ex.2.1⟩
  ·obtain ⟨o,_,_,_,e,ex,_⟩:=I.hok p _ hk
   refine ⟨⟨o,e,ex.1⟩,fun a e2=>?_⟩
   cases e2
   exact ⟨o,e,ex.2.1⟩
 | _=>exact False.elim ty
def tBM (K:PySem.W.Frag) (T:String) (r:V→List V→Hp→VK→Prop) (to:TE) (t:TA):TE:=fun σ H Q=>to σ H fun x H1=>tyV K T x H1∧t σ H1 fun xs H2=>r x xs H2 Q
variable {o e:Expr} {es:List Expr} {to:TE} {t:TA} {name:Str} {apos cpos:Pos} {T id:String} {r:V→List V→Hp→VK→Prop}
theorem a1R (pa:PlainAttrs T) (slot:Slot T name id) (hty:typeOf (.builtin id)=pure (.type "method_descriptor")) (hm:MtR X id r) (ho:PE X o to) (ha:PA X (e::es) t)
  (hbase:attributeBase o name X.env (eval o X.env)=eval o X.env:=by rfl)
  (hfew:((backTo cpos (starEach (e::es) X.env)).all (fun x=>!x.1) && (backToKw cpos (keywordEach [] X.env)).all (fun x=>x.1.isSome)
   && decide ((e::es).length+([]:List Keyword).length+(if ([]:List Keyword).isEmpty then 0 else 1) < 30))=true:=by rfl)
  (hline:(apos.endLine == cpos.line)=true:=by rfl) (hs:starEach (e::es) X.env=(false,eval e X.env)::starEach es X.env:=by rfl) (hplain:(backTo cpos (starEach es X.env)).any (·.1)=false:=by rfl) :
  PE X (.Call (.Attribute o name apos) (e::es) [] cpos) (tBM X.K T r to t):=by
 intro pins s σ H Q I h
 refine wpAny_Call_method_late hbase hfew hline rfl (fG (ho pins s σ H _ I h) fun v s1 ⟨x,H1,I1,r1,ty,q1⟩=>?_)
 obtain ⟨h1,h2⟩:=XC I1 r1 ty
 refine ⟨T,id,pa,slot,hty,h1,h2,?_⟩
 have hA:=ha cpos pins s1 σ H1 _ I1 q1
 rw [hs] at hA ⊢
 refine Calls.callWith_builtin (by show (false || (backTo cpos (starEach es X.env)).any (·.1))=false;rw [hplain] <;> rfl) (Calls.evalArgs_plain ?_)
 exact fG hA fun us s2 ⟨vs,H2,I2,r2,q2⟩=>hm pins s2 σ H2 x vs v us Q I2 r1 r2 q2
end
end L2
namespace L2
open PySem PySem.Spec PyProof.Rows
def MtM (X:Cx) (id:String) (r:V→List V→Hp→VK→Prop):Prop :=
 ∀ (pins:List (Addr×Obj)) (s:Shared) (σ:St) (H:Hp) (x:V) (xs:List V) (v:Value) (us:List Value) (Q:VK),Inv X pins σ H s→RelV x v→Vals xs us→r x xs H Q →
  wpAny (model X.prog X.w) X.A (call (.builtin id) (v::us)) (EP X pins σ Q) X.xe s
theorem Vals.one:∀ {x:V} {us:List Value},Vals [x] us→∃ u,us=[u]∧RelV x u
 | _,_,.cons r .nil=>⟨_,rfl,r⟩
theorem Vals.two:∀ {x y:V} {us:List Value},Vals [x,y] us→∃ u v,us=[u,v]∧RelV x u∧RelV y v
 | _,_,_,.cons r (.cons q .nil)=>⟨_,_,rfl,r,q⟩
section
variable {X:Cx} {pins:List (Addr×Obj)} {σ:St} {H:Hp} {s:Shared} {l b:Addr} {xs ys zs:List V}
theorem Inv.Tz {its its':List Value} {n:Nat} {f:Array Value→Array Value} {t':Nat} (I:Inv X pins σ H s) (hH:H l=some (.lst xs))
  (e:s.heap.get? l=some { cls:=.type "list",data:=.seq its.toArray n }) (hf:f its.toArray=its'.toArray) (hv:Vals ys its') (hz:ys.length≤sizeLine) :
  Inv X pins σ (upd H l (.lst ys)) { s with heap:=s.heap.update l (Obj.mapSeq f),toks:=t' }:=by
 have q:=PySem.IsL.update e f
 rw [hf] at q
 refine I.write (x:=l) (e:=l) (by rw [hH];exact trivial) (.inl rfl) (fun b' u hb hu=>(Heap.get?_update_other s.heap (Obj.mapSeq f) (Ne.symm hb)).trans hu) ⟨_,q⟩ ?_
 exact ⟨hz,its',_,hv,q⟩
theorem Inv.b5l {its:List Value} {t':Nat} (I:Inv X pins σ H s) (hv:Vals ys its) (hz:ys.length≤sizeLine) :
  Inv X pins σ (upd H s.heap.objs.size (.lst ys)) { s with heap:=s.heap.push { cls:=.type "list",data:=.seq its.toArray },toks:=t' } :=
 I.laid (fun _ _ q=>Heap.get?_push_of_some _ q) (Nat.le_refl _) ⟨hz,its,0,hv,Heap.get?_push_size _ rfl⟩
theorem Inv.fresh (I:Inv X pins σ H s):H s.heap.objs.size=none:=I.hok.fresh (Nat.le_refl _)
theorem Inv.IQ (I:Inv X pins σ H s) (hH:H l=some (.lst xs)):xs.length≤sizeLine∧∃ (its:List Value) (n:Nat),Vals xs its∧xs.length=its.length∧s.heap.get? l=some { cls:=.type "list",data:=.seq its.toArray n }:=by
 obtain ⟨z,its,n,r,e⟩:=I.hok l _ hH
 exact ⟨z,its,n,r,r.length,e⟩
theorem De {n:Nat} (h:n≤sizeLine):Builtin.List.listTooLong n=false:=by
 unfold Builtin.List.listTooLong
 exact decide_eq_false (by omega)
end
section
variable {X:Cx}
def Sy:V→List V→Hp→VK→Prop:=fun x vs H Q=>∃ l xs y,x=.ref l∧vs=[y]∧H l=some (.lst xs)∧xs.length < sizeLine∧Q .fP (upd H l (.lst (xs++[y])))
theorem iZ:MtM X "list.append" Sy:=by
 intro pins s σ H x vs v us Q I rx rv h
 obtain ⟨l,xs,y,rfl,rfl,hH,hz,q⟩:=h
 cases rx
 obtain ⟨u,rfl,ru⟩:=rv.one
 obtain ⟨z,its,n,r,hl,e⟩:=I.IQ hH
 refine call_meets F.slot_list_append ⟨_,e,rfl⟩ F.entry_list_append (F.args_list_append_2 _ _) (PySem.list_append l its.toArray n u (by rw [List.size_toArray];omega)) ⟨e,?_⟩
 refine ⟨.fP,_,I.Tz (its':=its++[u]) hH e (by simp) (r.append (.cons ru .nil)) ?_,rfl,q⟩
 rw [List.length_append,List.length_singleton]
 omega
def Sx:V→List V→Hp→VK→Prop:=fun x vs H Q=>∃ l b xs zs,x=.ref l∧vs=[.ref b]∧H l=some (.lst xs)∧H b=some (.lst zs)∧xs.length+zs.length≤sizeLine∧Q .fP (upd H l (.lst (xs++zs)))
theorem pQ:MtM X "list.extend" Sx:=by
 intro pins s σ H x vs v us Q I rx rv h
 obtain ⟨l,b,xs,zs,rfl,rfl,hH,hB,hz,q⟩:=h
 cases rx
 obtain ⟨u,rfl,ru⟩:=rv.one
 cases ru
 obtain ⟨z,its,n,r,hl,e⟩:=I.IQ hH
 obtain ⟨z2,its2,n2,r2,hl2,e2⟩:=I.IQ hB
 have hsz:its.toArray.size+its2.toArray.size≤sizeLine:=by rw [List.size_toArray,List.size_toArray];omega
 have P7:¬ (!its.toArray.isEmpty && Builtin.List.listTooLong (its.toArray.size+its2.toArray.size))=true:=by
  rw [De hsz,Bool.and_false]
  exact Bool.false_ne_true
 refine call_meets F.slot_list_extend ⟨_,e,rfl⟩ F.entry_list_extend (F.args_list_extend_2 _ _)
  (AutoSeq1.list_extend_list_list_0 l its.toArray n b its2.toArray n2 P7 (by rw [List.size_toArray];omega) (by omega)) ⟨e,e2,?_⟩
 refine ⟨.fP,_,I.Tz (its':=its++its2) hH e (by simp) (r.append r2) ?_,rfl,q⟩
 rw [List.length_append]
 omega
def b1d:R2:=fun x y H Q=>∃ l b xs zs,x=.ref l∧y=.ref b∧H l=some (.lst xs)∧H b=some (.lst zs)∧xs.length+zs.length≤sizeLine∧∀ p,H p=none→Q (.ref p) (upd H p (.lst (xs++zs)))
theorem xB:yO X (binaryOp .Add) b1d:=by
 intro pins s σ H x y v u Q I rx ry h
 obtain ⟨l,b,xs,zs,rfl,rfl,hH,hB,hz,q⟩:=h
 cases rx
 cases ry
 obtain ⟨z,its,n,r,hl,e⟩:=I.IQ hH
 obtain ⟨z2,its2,n2,r2,hl2,e2⟩:=I.IQ hB
 refine PySem.P.add_list e e2 ?_ (by rw [List.size_toArray,List.size_toArray];omega)
 have ea:its.toArray++its2.toArray=(its++its2).toArray:=by simp
 rw [ea]
 exact ⟨.ref _,_,I.b5l (t':=s.toks) (r.append r2) (by rw [List.length_append];omega),rfl,q _ I.fresh⟩
end
section
variable {prog:Program} {w:World} {A:Around} {E:Value→Shared→Prop} {s:Shared}
end
section
variable {X:Cx}
end
end L2
namespace Att
open PySem PySem.W PySem.Calls PyProof.Rows
theorem vR {P:Params} {h:Heap}:∀ (ns:List Int) (vs:List Value),WellAll P h vs (ns.map WData.int)→IntsAre vs ns:=by
 intro ns
 induction ns with
 | nil =>
  intro vs w
  rw [List.map_nil] at w
  cases w
  exact .nil
 | cons n ns ih =>
  intro vs w
  rw [List.map_cons] at w
  cases w with
  | cons a b =>
   cases a
   exact .cons _ _ (ih _ b)
theorem Lh {l:OpenLaw} {n:Nat} (hn:l.most=some n) {P:Params} {h:Heap} {args:List WData} {vals:List Value}
  (hpre:l.row.toRowW.claim.pre args=true) (hwl:WellAll P h vals args) :
  ∃ a vs ns,vals=[Value.ref a]∧args=[WData.list (ns.map WData.int)]∧h.get? a=some { cls:=.type "list",data:=.seq vs.toArray }∧IntsAre vs ns∧ns.length≤n:=by
 have hsh:WShape.hasAll [] args [.list .int]=true:=(pre_splitW hpre).1
 have hc:l.pre.holds [] { args:=args }=true:=(pre_splitW hpre).2
 obtain ⟨d,r,rfl,h1,h2⟩:=hasAllW_cons hsh
 obtain rfl:=hasAllW_nil h2
 obtain ⟨xs,rfl,h3⟩:=hasW_list h1
 obtain ⟨ns,rfl⟩:=items_int h3
 have hlen:ns.length≤n:=by
  unfold OpenLaw.pre at hc
  have h4:(WTm.not (.lt (.lit (.int (n:Int))) (.len (.arg 0)))).holds [] { args:=[.list (ns.map .int)] }=true:=by
   have h4:=(holds_andW hc).1
   rw [hn] at h4
   exact h4
  have h5:=condW_of h4 (w_not (w_lt w_lit (w_len_list (w_arg rfl))))
  rw [List.length_map] at h5
  refine Nat.le_of_not_lt fun q=>?_
  have q':(n:Int) < ((ns.length:Nat):Int):=by omega
  first
   | (rw [decide_eq_true q'] at h5;exact absurd h5 (by decide))
   | (simp at h5;omega)
 cases hwl with
 | cons w1 w2 =>
  cases w2
  cases w1 with
  | list ho hall=>exact ⟨_,_,ns,rfl,rfl,ho,vR ns _ hall,hlen⟩
theorem Lk (l:OpenLaw) (args:List WData):l.row.toRowW.claim.post args (.bool true) args=true :=
 postW_of (r:=l.row.toRowW) (X:=(true == true))
  (show WShape.has [] (.bool true) .bool=true by first | rfl | decide | simp [WShape.has,WShape.arms,WShape.armsAll])
  (show (WTm.eq .res (.lit (.bool true))).value [] { args:=args,res:=some (.bool true),after:=args }=some (.bool (true == true)) from w_eq_bool (w_res rfl) w_lit) rfl
theorem Eg {l:OpenLaw} {n:Nat} {q:Program} {loose:List Str} {XP:(Str→Option Value)→Heap→Prop} {YP:World→Heap→Prop} {d:DefRec}
  (hn:l.most=some n) (hdf:d.params.defaults=[])
  (call:∀ (w:World) (s₀ s₁:Shared) (mg mb:Str→Option Value) (fa:Addr) (o:Obj) (pm cd doc:Value) (a:Addr) (vs:List Value) (ns:List Int),
   Ground q loose [] XP w s₀ mg mb s₁.heap→YP w s₁.heap →
   s₁.heap.get? fa=some o→o.data=.func (docDef d.name d.params d.body d.scope pm cd doc)→s₁.heap.CodeRec cd d.name→mg d.name=some (.ref fa) →
   s₁.heap.get? a=some { cls:=.type "list",data:=.seq vs.toArray }→IntsAre vs ns→ns.length≤n→s₁.gens=#[] →
   codeAny (model l.prog w) callerA (.call (.ref fa) ⟨[.ref a],[]⟩) (fun r s'=>r=.ok (.ret (.bool true))∧OldK s₁.heap s'.heap∧s'.os=s₁.os∧AllBare s'.gens) s₁) :
  WalkO q loose XP YP l.row.toRowW d [] (fun f vs=>PySem.call f vs):=by
 intro w s₀ s₁ mg mb G Y fa o pm cd doc dV kV ho hd hcd hD hmg hg args vals as hpre hlay hrd hwl hlo
 obtain rfl:dV=.none:=Dflts.none hD hdf
 obtain rfl:kV=.none:=Dflts.noKw hD
 obtain ⟨a,vs,ns,rfl,rfl,hobj,hints,hlen⟩:=Lh hn hpre hwl
 refine enter_call (codeAny_mono (call w s₀ s₁ mg mb fa o pm cd doc a vs ns G Y ho (fd_plain hd) hcd hmg hobj hints hlen hg) fun r s' hq=>?_)
 obtain ⟨rfl,h2,h3,h4⟩:=hq
 exact ⟨.inl ⟨.bool true,.bool true,[],rfl,fun _=>rfl,.bool true,Lk l _,fun _=>⟨List.Pairwise.nil,fun _ hm=>(nomatch hm)⟩⟩,h2,h3,h4⟩
section
variable {prog:Program} {w:World} {A:Around} {E:Value→Shared→Prop} {s:Shared} {K:Frag}
end
end Att
namespace L2
open PySem PySem.Spec PyProof.Rows
theorem zw:∀ {vs:List Value} {ns:List Int},IntsAre vs ns→Vals (ns.map V.int) vs
 | _,_,.nil=>.nil
 | _,_,.cons n t h=>.cons ⟨t,rfl⟩ (zw h)
def a0D (H:Hp):Prop:=∀ b,H b=none∨∃ o xs,H b=some (.Ja o (.lst xs))
theorem Pp {P:Program} {w:World} {K:PySem.W.Frag} {mg mb:Str→Option Value} {CX:EF} {k:Nat} {fa a:Addr} {fd:FuncData} {x:Str} {sp:Sp} {s₁:Shared} {vs:List Value} {ns:List Int}
  (KX:K.In s₁.heap) (hns:s₁.heap.Ns mainGlobals mg) (hb:s₁.heap.Ns builtinsNs mb) (hbb:∀ x:Str,x≠"__name__"→mb x=bootBuiltins x) (hlim:s₁.heap.NoLimit) (hg:s₁.gens=#[])
  (ha:s₁.heap.get? a=some { cls:=.type "list",data:=.seq vs.toArray }) (hi:IntsAre vs ns) (hl:ns.length≤sizeLine) (hr:gk k callerA)
  (F:∀ base:Heap,K.In base→base.Ns mainGlobals mg→aM P w K mg base CX k fa fd [x] sp) (hbind:∀ (s:Shared) (u:Value),BindsTo s fd ⟨[u],[]⟩ [(x,u)])
  (Vw:∀ H:Hp,a0D H→bH K H a (ns.map V.int)→sp [.ref a] H (fun v _=>v=.bl true) fun _ _ _=>False)
  (hCX:∀ H e s',CX [] H s₁ (fun _ _ _=>False) e s'→False) :
  codeAny (model P w) callerA (.call (.ref fa) ⟨[.ref a],[]⟩) (fun r s'=>r=.ok (.ret (.bool true))∧OldK s₁.heap s'.heap∧s'.os=s₁.os∧AllBare s'.gens) s₁:=by
 have rv:=zw hi
 have b5m:=hi.length
 have core:∀ H:Hp,a0D H→bH K H a (ns.map V.int)→rK P w H s₁.heap→(∀ b,H b≠none→b=a)→(H a≠none→K.lookup a=none) →
   codeAny (model P w) callerA (.call (.ref fa) ⟨[.ref a],[]⟩) (fun r s'=>r=.ok (.ret (.bool true))∧OldK s₁.heap s'.heap∧s'.os=s₁.os∧AllBare s'.gens) s₁:=by
  intro H hO hS hok hA hK
  have K2:∀ {b:Addr} {o:Obj},s₁.heap.get? b=some o→H b=none→(BB s₁.heap H).get? b=some o:=fun e n=>Qc e n
  have noA:∀ {b:Addr} {o:Obj} {es:Array DictEntry} {ep:Nat},s₁.heap.get? b=some o→o.data=.dict es ep→H b=none:=fun {b o es ep} e d=>by
   cases q:H b with
   | none=>rfl
   | some u =>
    have e':b=a:=hA b (by rw [q];simp)
    subst e'
    rw [ha] at e;cases e
    have d':Data.seq vs.toArray _=Data.dict es ep:=d
    cases d'
  have nsK:∀ {b:Addr} {m:Str→Option Value},s₁.heap.Ns b m→(BB s₁.heap H).Ns b m:=fun {b m} ⟨o,es,ep,e,d,r⟩=>⟨o,es,ep,K2 e (noA e d),d,r⟩
  have hKb:K.In (BB s₁.heap H):=fun b o e=>K2 (KX b o e) (by
   cases q:H b with
   | none=>rfl
   | some u =>
    have e':b=a:=hA b (by rw [q];simp)
    subst e'
    rw [hK (by rw [q];simp)] at e;cases e)
  have hM:Mod K mg (BB s₁.heap H):=⟨hKb,nsK hns,⟨mb,nsK hb,hbb⟩,let ⟨mc,h1,h2⟩:=hlim;⟨mc,nsK h1,h2⟩⟩
  have e0:JM P w K mg (BB s₁.heap H) callerA [] s₁ H:=⟨rfl,hM,fun b o e=>Tq e,Nat.le_of_eq (LG _ _),trivial,fun b hb=>absurd (show b∈([]:List Addr) from hb) (by simp),hok,.of_eq hg⟩
  refine codeAny_mono ((F _ hKb (nsK hns)).run callerA [] s₁ H ⟨[.ref a],[]⟩ [.ref a] [.ref a] _ _ hr e0 (hbind s₁ (.ref a)) (.cons rfl .nil) (Vw H hO hS)) fun r s' h=>?_
  cases r with
  | error e=>exact (hCX H e s' h).elim
  | ok fl =>
   cases fl with
   | next=>exact False.elim h
   | brk=>exact False.elim h
   | cont=>exact False.elim h
   | ret u =>
    obtain ⟨v,H',os,bare,un,b8X,r',q⟩:=h
    have q':v=.bl true:=q
    subst q'
    obtain rfl:u=Value.bool true:=r'
    refine ⟨rfl,OldK.of_keep fun b o e=>?_,os,bare⟩
    cases q:H b with
    | none=>exact un.keep b o e q (by intro z;exact absurd (show b∈([]:List Addr) from z) (by simp)) (by simp)
    | some u =>
     rcases hO b with z | ⟨ob,xs,z⟩
     ·rw [q] at z;cases z
     ·have z2:=un.y9 b ob _ z
      obtain ⟨e1,_⟩:=hok b _ z
      obtain ⟨e2,_⟩:=b8X b _ z2
      rw [e] at e1;cases e1
      exact e2
 cases hk:K.lookup a with
 | some o =>
  have e:=KX a o hk
  rw [ha] at e
  cases e
  refine core (fun _=>none) (fun _=>.inl rfl) (.inr ⟨_,vs.toArray,_,hk,rfl,rfl,rfl,by rw [List.size_toArray,b5m];exact hl,by simpa using rv⟩) (fun b u z=>by have z':(none:Option HO)=some u:=z;cases z') (fun b z=>absurd rfl z) fun z=>absurd rfl z
 | none =>
  refine core (fun b=>if b=a then some (.Ja { cls:=.type "list",data:=.seq vs.toArray } (.lst (ns.map V.int))) else none) (fun b=>?_) (.inl (.inr ⟨{ cls:=.type "list",data:=.seq vs.toArray },if_pos rfl⟩)) (fun b u z=>?_) (fun b z=>?_) fun _=>hk
  ·by_cases hb:b=a
   ·exact .inr ⟨_,_,if_pos hb⟩
   ·exact .inl (if_neg hb)
  ·by_cases hb:b=a
   ·have z':=(if_pos hb).symm.trans z
    cases z'
    subst hb
    exact ⟨ha,by rw [List.length_map];exact hl,vs,_,rv,ha⟩
   ·have z':=(if_neg hb).symm.trans z
    cases z'
  ·by_cases hb:b=a
   ·exact hb
   ·exact absurd (if_neg hb) z
end L2
namespace L2
open PySem PySem.Spec PyProof.Rows
theorem RO {l:PySem.W.OpenLaw} {n k:Nat} {q:Program} {loose:List Str} {XP:(Str→Option Value)→Heap→Prop} {YP:World→Heap→Prop} {d:DefRec} {K:Params→PySem.W.Frag} {CX:World→EF} {sp:World→Sp} {x:Str}
  (hn:l.most=some n) (hn2:n≤sizeLine) (hdf:d.params.defaults=[]) (hr:gk k callerA)
  (hY:∀ (w:World) (h:Heap),YP w h→(K w.params).In h)
  (F:∀ (w:World) (mg:Str→Option Value) (fa:Addr) (h:Heap),(K w.params).In h→h.Ns mainGlobals mg→mg d.name=some (.ref fa) →
   ∃ fd:FuncData,(∀ (s:Shared) (u:Value),BindsTo s fd ⟨[u],[]⟩ [(x,u)]) ∧
    ∀ base:Heap,(K w.params).In base→base.Ns mainGlobals mg→aM l.prog w (K w.params) mg base (CX w) k fa fd [x] (sp w))
  (Vw:∀ (w:World) (H:Hp) (a:Addr) (ns:List Int),ns.length≤n→a0D H→bH (K w.params) H a (ns.map V.int)→sp w [.ref a] H (fun v _=>v=.bl true) fun _ _ _=>False)
  (hCX:∀ (w:World) (H:Hp) (s:Shared) (e:Value) (s':Shared),CX w [] H s (fun _ _ _=>False) e s'→False) :
  PySem.W.WalkO q loose XP YP l.row.toRowW d [] (fun f vs=>PySem.call f vs):=by
 refine Att.Eg hn hdf fun w s₀ s₁ mg mb fa o pm cd doc a vs ns G Y ho hd hcd hmg hobj hints hlen hg=>?_
 have KX:=hY w _ Y
 obtain ⟨fd,hb,hF⟩:=F w mg fa _ KX G.T.g hmg
 exact Pp KX G.T.g G.T.b G.T.builtins G.T.nolimit hg hobj hints (Nat.le_trans hlen hn2) hr hF hb (fun H hO hS=>Vw w H a ns hlen hO hS) fun H e s'=>hCX w H s₁ e s'
end L2
namespace L2
open PySem PySem.Spec PyProof.Rows
def inClass (s:Stmt) (j:Nat):Stmt:=match s with
 | .ClassDef _ _ _ body _ _ _ _ _ _ _=>body.getD j (.Pass ⟨0,0,0,0⟩)
 | _=>.Pass ⟨0,0,0,0⟩
def ay (s:Stmt):Arguments:=match s with
 | .FunctionDef _ a _ _ _ _ _ _ _ _=>a
 | _=>{ posonlyargs:=[],args:=[],vararg:=none,kwonlyargs:=[],kw_defaults:=[],kwarg:=none,defaults:=[] }
def aj (s:Stmt):List Stmt:=match s with
 | .FunctionDef _ _ b _ _ _ _ _ _ _=>b
 | _=>[]
def ai (s:Stmt):Scope:=match s with
 | .FunctionDef _ _ _ _ _ _ sc _ _ _=>sc
 | _=>{ kind:=.function,names:=[],isGenerator:=false,isCoroutine:=false }
abbrev bP:EF:=fun _ _ _ _ _ _=>False
abbrev E0:XK:=fun _ _ _=>False
theorem av {X:Cx}:Passes bP X E0:=fun _ _ _ _ _ _ _ h=>h.elim
structure ck (K:PySem.W.Frag) (x qual:Str) (st:Stmt) (f:Addr) (fd:FuncData):Prop where
 ex:∃ (oc:Value) (od:Option Addr) (kV doc pm:Value) (an:Option Addr) (cdv ct:Value) (osl:Array (Option Value)),
  fd=PySem.W.fnOf x qual (ay st) (aj st) (ai st) .none kV doc pm an cdv ct∧K.lookup f=some ⟨oc,od,.func fd,osl⟩∧PySem.W.codeIn K cdv qual=true
 kp:PySem.W.keepIn K (.ref f)=true
section
variable {P:Program} {w:World} {K:PySem.W.Frag} {mg:Str→Option Value} {base:Heap}
theorem ck.ok {x qual:Str} {st:Stmt} {f:Addr} {fd:FuncData} {N ps:List Str} {k:Nat} {sp:Sp} (F:ck K x qual st f fd) (S:az N ps (ai st)) (len:∀ vs H Q E,sp vs H Q E→vs.length=ps.length)
  (hbody:∀ (cdv:Value) (A:Around) (outer:List Env) (s:Shared) (H:Hp) (vs:List V) (Q:VK) (E:XK),gk k (A.deeper (envOfC qual (ai st) s.heap.objs.size f cdv))→sp vs H Q E →
   ∃ t,EE (jR bP P w K mg base N qual (ai st) f cdv A outer s H E).yN (aj st) t∧t { nx:=fun _ H'=>Q .fP H',rt:=Q } (start N vs) H):aM P w K mg base bP (k+1) f fd ps sp:=by
 obtain ⟨oc,od,kV,doc,pm,an,cdv,ct,osl,rfl,lk,hcd⟩:=F.ex
 refine a2M lk hcd S len fun A outer s H vs Q E hr Vw=>?_
 obtain ⟨t,h,q⟩:=hbody cdv A outer s H vs Q E hr Vw
 exact ⟨t,h.yN,q⟩
theorem ck.binds {x qual:Str} {st:Stmt} {f:Addr} {fd:FuncData} {ps:List Str} (F:ck K x qual st f fd)
  (h:∀ (kV doc pm:Value) (an:Option Addr) (cdv ct:Value) (us:List Value),us.length=ps.length→bindArgs (PySem.W.fnOf x qual (ay st) (aj st) (ai st) .none kV doc pm an cdv ct) ⟨us,[]⟩=pure (ps.zip us)):Binds K fd ps []:=by
 obtain ⟨oc,od,kV,doc,pm,an,cdv,ct,osl,rfl,lk,hcd⟩:=F.ex
 exact .all (h kV doc pm an cdv ct)
theorem ZY {x qual:Str} {st:Stmt} {f:Addr} {oc:Value} {od an:Option Addr} {osl:Array (Option Value)} {kV doc pm cdv ct:Value} (l:K.lookup f=some ⟨oc,od,.func (PySem.W.fnOf x qual (ay st) (aj st) (ai st) .none kV doc pm an cdv ct),osl⟩)
  (c:PySem.W.codeIn K cdv qual=true) (k:PySem.W.keepIn K (.ref f)=true):ck K x qual st f (PySem.W.fnOf x qual (ay st) (aj st) (ai st) .none kV doc pm an cdv ct):=⟨⟨oc,od,kV,doc,pm,an,cdv,ct,osl,rfl,l,c⟩,k⟩
end
theorem sV {A:Around} {k:Nat} (hr:gk k A):A.units+1 < cLine:=Nat.lt_of_le_of_lt (Nat.add_le_add_left (by decide:1≤64) _) hr.units
section
variable {X:Cx}
theorem pv (i:Nat) {x:Str} {pos:Pos} (hN:X.N[i]?=some x:=by rfl) (hv:Vis X.env.scope x:=by first | exact Or.inl rfl | exact Or.inr (Or.inl rfl) | exact Or.inr (Or.inr rfl)) (hd:(x == ("__debug__":Str))=false:=by decide)
  (hcd:(x == ("__classdict__":Str))=false:=by decide):PE X (.Name x pos) (a1n i):=Ys hN hv hd hcd
end
theorem iM {A B:Prop} (h:B):if false=true then A else B:=by
 rw [if_neg Bool.false_ne_true]
 exact h
theorem nK {A B:Prop} (h:A):if true=true then A else B:=by
 rw [if_pos rfl]
 exact h
theorem b8c {c A B:Prop} [Decidable c] (h1:c→A) (h2:¬ c→B):if c then A else B:=by
 by_cases h:c
 ·rw [if_pos h]
  exact h1 h
 ·rw [if_neg h]
  exact h2 h
def aK (H H':Hp):Prop:=∀ b o,H b=some o→H' b=some o
theorem aK.refl (H:Hp):aK H H:=fun _ _ h=>h
theorem aK.trans {H H1 H2:Hp} (a:aK H H1) (b:aK H1 H2):aK H H2:=fun c o h=>b c o (a c o h)
end L2
namespace L2
open PySem PySem.Spec PyProof.Rows
section
variable {κ:Type} [DecidableEq κ]
def oB (kvs:List (κ×V)) (k:κ):Option V:=(kvs.find? fun kv=>decide (kv.1=k)).map (·.2)
def putK (kvs:List (κ×V)) (k:κ) (v:V):List (κ×V) :=
 if (kvs.any fun kv=>decide (kv.1=k))=true then kvs.map (fun kv=>if kv.1=k then (kv.1,v) else kv) else kvs++[(k,v)]
theorem rM {p:κ×V} {r:List (κ×V)} {k:κ} (e:p.1=k):oB (p::r) k=some p.2:=by simp [oB,List.find?_cons,e]
theorem rN {p:κ×V} {r:List (κ×V)} {k:κ} (e:¬ p.1=k):oB (p::r) k=oB r k:=by simp [oB,List.find?_cons,e]
theorem Cn (k:κ):∀ kvs:List (κ×V),(kvs.any fun kv=>decide (kv.1=k))=(oB kvs k).isSome
 | []=>rfl
 | p::r=>by
  rw [List.any_cons]
  by_cases e:p.1=k
  ·simp only [rM e,decide_eq_true e,Bool.true_or,Option.isSome_some]
  ·rw [rN e,decide_eq_false e,Bool.false_or];exact Cn k r
theorem vn (kvs:List (κ×V)) (k:κ) (v:V):(putK kvs k v).length≤kvs.length+1:=by
 unfold putK
 split
 ·rw [List.length_map];omega
 ·rw [List.length_append,List.length_cons,List.length_nil];omega
theorem nY.LB {o:Option V} {u:Option Value} (r:nY o u):o.isSome=u.isSome:=by
 cases o with
 | none=>cases u with
  | none=>rfl
  | some _=>exact (show False from r).elim
 | some _=>cases u with
  | none=>exact (show False from r).elim
  | some _=>rfl
theorem nY.getD {o:Option V} {u:Option Value} {d:V} {d':Value} (r:nY o u) (rd:RelV d d'):RelV (o.getD d) (u.getD d'):=by
 cases o with
 | none=>cases u with
  | none=>exact rd
  | some _=>exact (show False from r).elim
 | some _=>cases u with
  | none=>exact (show False from r).elim
  | some _=>exact r
theorem KV.val {kvs:List (κ×V)} {vs:List (κ×Value)} (r:KV kvs vs) (k:κ):nY (oB kvs k) (valueAt vs k):=by
 unfold KV at r
 induction r with
 | nil=>exact True.intro
 | @cons p q ps qs h t ih =>
  obtain ⟨h1,h2⟩:=h
  by_cases e:p.1=k
  ·have e':q.1=k:=h1.symm.trans e
   have b:valueAt (q::qs) k=some q.2:=by simp [valueAt,List.find?_cons,e']
   rw [rM e,b];exact h2
  ·have e':¬ q.1=k:=fun z=>e (h1.trans z)
   have b:valueAt (q::qs) k=valueAt qs k:=by simp [valueAt,List.find?_cons,e']
   rw [rN e,b];exact ih
theorem KV.any {kvs:List (κ×V)} {vs:List (κ×Value)} (r:KV kvs vs) (k:κ):(kvs.any fun kv=>decide (kv.1=k))=vs.any fun kv=>decide (kv.1=k):=by
 unfold KV at r
 induction r with
 | nil=>rfl
 | cons h t ih=>rw [List.any_cons,List.any_cons,ih,h.1]
theorem KV.repl {kvs:List (κ×V)} {vs:List (κ×Value)} (r:KV kvs vs) (k:κ) {y:V} {u:Value} (ry:RelV y u) :
  KV (kvs.map fun kv=>if kv.1=k then (kv.1,y) else kv) (vs.map fun kv=>if kv.1=k then (kv.1,u) else kv):=by
 unfold KV at r ⊢
 induction r with
 | nil=>exact .nil
 | @cons p q ps qs h t ih =>
  rw [List.map_cons,List.map_cons]
  refine .cons ?_ ih
  obtain ⟨h1,h2⟩:=h
  by_cases e:p.1=k
  ·rw [if_pos e,if_pos (h1.symm.trans e)];exact ⟨h1,ry⟩
  ·rw [if_neg e,if_neg (fun z=>e (h1.trans z))];exact ⟨h1,h2⟩
theorem KV.put {kvs:List (κ×V)} {vs:List (κ×Value)} (r:KV kvs vs) (k:κ) {y:V} {u:Value} (ry:RelV y u):KV (putK kvs k y) (stored vs k u):=by
 unfold putK stored
 rw [r.any k]
 by_cases e:(vs.any fun kv=>decide (kv.1=k))=true
 ·rw [if_pos e,if_pos e];exact r.repl k ry
 ·rw [if_neg e,if_neg e];exact Paired.snoc r ⟨rfl,ry⟩
theorem KV.keys {kvs:List (κ×V)} {vs:List (κ×Value)} (r:KV kvs vs):kvs.map (·.1)=vs.map (·.1):=by
 unfold KV at r
 induction r with
 | nil=>rfl
 | cons h t ih=>rw [List.map_cons,List.map_cons,ih,h.1]
theorem KV.length {kvs:List (κ×V)} {vs:List (κ×Value)} (r:KV kvs vs):kvs.length=vs.length:=Paired.length r
end
theorem DE {P:Program} {w:World} {k:Key} {u:Value} (r:RelV (kV k) u):(aQ P w).is k u=true:=by
 cases k with
 | inl i=>obtain ⟨t,e⟩:=(show ∃ t,u=Value.int i t from r);subst e;exact Dh P w i t
 | inr x=>obtain ⟨t,e⟩:=(show ∃ t,u=Value.str x t from r);subst e;exact cN P w x t
theorem zK {P:Program} {w:World}:∀ {ks:List Key} {us:List Value},Vals (ks.map kV) us→ItemsAre (aQ P w) ks us
 | [],_,r=>by rw [List.map_nil] at r;cases r;exact .nil
 | k::ks,_,r=>by
  rw [List.map_cons] at r
  cases r with
  | cons h t=>exact .cons (DE h) (zK t)
abbrev KT (H:Hp):List (List Key×V)→List (List Key×Addr×Value)→Prop:=Paired fun p q=>p.1=q.1∧H q.2.1=some (.tup (p.1.map kV))∧RelV p.2 q.2.2
theorem KT.val {H:Hp} {kvs:List (List Key×V)} {xs:List (List Key×Addr×Value)} (r:KT H kvs xs) (k:List Key):nY (oB kvs k) ((atKey xs k).map (·.2)):=by
 induction r with
 | nil=>exact True.intro
 | @cons p q ps qs h t ih =>
  obtain ⟨h1,_,h2⟩:=h
  by_cases e:p.1=k
  ·have e':q.1=k:=h1.symm.trans e
   have b:atKey (q::qs) k=some q.2:=by simp [atKey,List.find?_cons,e']
   rw [rM e,b];exact h2
  ·have e':¬ q.1=k:=fun z=>e (h1.trans z)
   have b:atKey (q::qs) k=atKey qs k:=by simp [atKey,List.find?_cons,e']
   rw [rN e,b];exact ih
theorem KT.repl {H:Hp} {kvs:List (List Key×V)} {xs:List (List Key×Addr×Value)} (r:KT H kvs xs) (k:List Key) {y:V} {u:Value} (ry:RelV y u) :
  KT H (kvs.map fun kv=>if kv.1=k then (kv.1,y) else kv) (xs.map (putAt k u)):=by
 induction r with
 | nil=>exact .nil
 | @cons p q ps qs h t ih =>
  rw [List.map_cons,List.map_cons]
  refine .cons ?_ ih
  obtain ⟨h1,h2,h3⟩:=h
  unfold putAt
  by_cases e:p.1=k
  ·rw [if_pos e,if_pos (h1.symm.trans e)];exact ⟨h1,h2,ry⟩
  ·rw [if_neg e,if_neg (fun z=>e (h1.trans z))];exact ⟨h1,h2,h3⟩
theorem KT.put {H:Hp} {kvs:List (List Key×V)} {xs:List (List Key×Addr×Value)} (r:KT H kvs xs) (k:List Key) {b:Addr} {y:V} {u:Value} (hb:H b=some (.tup (k.map kV))) (ry:RelV y u) :
  KT H (putK kvs k y) (storedH xs k b u):=by
 have e:(kvs.any fun kv=>decide (kv.1=k))=(atKey xs k).isSome:=by
  rw [Cn,(r.val k).LB,Option.isSome_map]
 unfold putK storedH
 rw [e]
 by_cases q:(atKey xs k).isSome=true
 ·rw [if_pos q,if_pos q];exact r.repl k ry
 ·rw [if_neg q,if_neg q];exact Paired.snoc r ⟨rfl,hb,ry⟩
theorem KT.keeps {H H':Hp} {kvs:List (List Key×V)} {xs:List (List Key×Addr×Value)} (r:KT H kvs xs) (ht:∀ b ys,H b=some (.tup ys)→H' b=some (.tup ys)):KT H' kvs xs :=
 Paired.lT r fun _ _ z=>⟨z.1,ht _ _ z.2.1,z.2.2⟩
section
variable {P:Program} {w:World} {H:Hp} {h:Heap} {a:Addr}
theorem Vq {u:HO} (ok:rK P w H h) (e:Rd H a u):dJ P w H h a u:=e.ok ok
theorem zT {kvs:List (Key×V)} (ok:rK P w H h) (e:Rd H a (.dK kvs)):kvs.length≤sizeLine∧(a == sysModules)=false∧∃ vs,KV kvs vs∧h.DictOf (aQ P w) a vs :=
 show dJ P w H h a (.dK kvs) from Vq ok e
theorem a3s {kvs:List (Key×V)} (ok:rK P w H h) (e:H a=some (.dK kvs)):kvs.length≤sizeLine∧(a == sysModules)=false∧∃ vs,KV kvs vs∧h.DictOf (aQ P w) a vs:=zT ok (.inl e)
theorem Bv {ks:List Key} (ok:rK P w H h) (e:H a=some (.tup (ks.map kV))):(tupleKind (aQ P w)).is h ks a:=by
 obtain ⟨_,its,r,o,h1,h2,n,h3⟩:=(show dJ P w H h a (.tup (ks.map kV)) from ok a _ e)
 exact ⟨o,its.toArray,n,h1,h2,h3,by simpa using zK r⟩
theorem DS {kvs:List (List Key×V)} (ok:rK P w H h) (e:Rd H a (.dT kvs)):kvs.length≤sizeLine∧(a == sysModules)=false ∧
  ∃ xs,KT H kvs xs∧h.DictOfH (tupleKind (aQ P w)) a xs:=by
 obtain ⟨z,y,xs,r,o,es,ep,h1,h2,h3,h4,h5⟩:=(show dJ P w H h a (.dT kvs) from Vq ok e)
 refine ⟨z,y,xs,r,o,es,ep,h1,h2,h3,h4,fun x hx=>?_,h5⟩
 have all:∀ {l:List (List Key×V)} {m:List (List Key×Addr×Value)},KT H l m→∀ x∈m,(tupleKind (aQ P w)).is h x.1 x.2.1:=by
  intro l m q
  induction q with
  | nil=>intro x hx;exact nomatch hx
  | @cons p q ps qs hq t ih =>
   intro x hx
   rcases List.mem_cons.mp hx with e | hx
   ·subst e
    exact Bv ok (by rw [← hq.1];exact hq.2.1)
   ·exact ih x hx
 exact all r x hx
theorem a3p {kvs:List (List Key×V)} (ok:rK P w H h) (e:H a=some (.dT kvs)):kvs.length≤sizeLine∧(a == sysModules)=false ∧
  ∃ xs,KT H kvs xs∧h.DictOfH (tupleKind (aQ P w)) a xs:=DS ok (.inl e)
end
def zu (H:Hp) (a:Addr) (y:V) (r:Option V):Prop :=
 (∃ kvs k,Rd H a (.dK kvs)∧y=kV k∧r=oB kvs k)∨∃ kvs k b,Rd H a (.dT kvs)∧y=.ref b∧H b=some (.tup (k.map kV))∧r=oB kvs k
def JS (H:Hp) (a:Addr) (y v:V) (H':Hp):Prop :=
 (∃ kvs k,H a=some (.dK kvs)∧y=kV k∧kvs.length < sizeLine∧H'=upd H a (.dK (putK kvs k v))) ∨
 ∃ kvs k b,H a=some (.dT kvs)∧y=.ref b∧H b=some (.tup (k.map kV))∧kvs.length < sizeLine∧H'=upd H a (.dT (putK kvs k v))
theorem zu.k {H:Hp} {a:Addr} {kvs:List (Key×V)} {k:Key} (e:H a=some (.dK kvs)):zu H a (kV k) (oB kvs k):=.inl ⟨kvs,k,.inl e,rfl,rfl⟩
theorem JS.k {H:Hp} {a:Addr} {kvs:List (Key×V)} {k:Key} {v:V} (e:H a=some (.dK kvs)) (hl:kvs.length < sizeLine):JS H a (kV k) v (upd H a (.dK (putK kvs k v))):=.inl ⟨kvs,k,e,rfl,hl,rfl⟩
section
variable {X:Cx} {pins:List (Addr×Obj)} {σ:St} {H:Hp} {s:Shared} {a:Addr} {y v:V} {u r:Value} {o:Option V} {A:Around} {E:Value→Shared→Prop}
theorem Inv.big (I:Inv X pins σ H s):sysModules < s.heap.objs.size:=by
 have h:mainGlobals < s.heap.objs.size:=(I.mod.glob.keeps I.bk).lt
 exact Nat.lt_trans (by decide) h
theorem Mf {Q:Value→Shared→Prop} (hu:A.units+1 < cLine) (I:Inv X pins σ H s) (g:zu H a y (some v)) (ry:RelV y u) (h:∀ w' s',Inv X pins σ H s'→RelV v w'→Q w' s') :
  wpAny (model X.prog X.w) A (getItem (.ref a) u) Q E s:=by
 rcases g with ⟨kvs,k,e,ey,l⟩ | ⟨kvs,k,b,e,ey,eb,l⟩
 ·subst ey
  obtain ⟨z,hd,vs,rel,dd⟩:=zT I.hok e
  obtain ⟨w',hw,rw'⟩:=nY.some_of (v:=v) (o:=valueAt vs k) (by rw [l];exact rel.val k)
  exact wpAny_getItem_of (DE ry) dd.mapOf hw (h w' _ (I.tok _) rw')
 ·subst ey
  cases (show u=Value.ref b from ry)
  obtain ⟨z,hd,xs,rel,dd⟩:=DS I.hok e
  obtain ⟨w',hw,rw'⟩:=nY.some_of (v:=v) (o:=(atKey xs k).map (·.2)) (by rw [l];exact rel.val k)
  obtain ⟨p,hp,hp2⟩:=Option.map_eq_some_iff.mp hw
  refine wpAny_getItem_heap (tupleKind_room_in1 hu) (Bv I.hok eb) dd hp ?_
  rw [hp2]
  exact h w' _ (I.tok _) rw'
theorem KU {h':Heap} {t':Nat} {ob:HO} (I:Inv X pins σ H s) (mu:Mut (H a)) (hs:Heap.SameBut a s.heap h') (he:∃ q,h'.get? a=some q) (new:dJ X.prog X.w (upd H a ob) h' a ob) :
  Inv X pins σ (upd H a ob) { s with heap:=h',toks:=t' } :=
 I.write (x:=a) (e:=a) mu (.inl rfl) (fun b q hb z=>(hs.2 b hb).trans z) he new
theorem a0k {P:Program} {w:World} {H':Hp} {h':Heap} {kvs:List (Key×V)} {vs:List (Key×Value)} (z:kvs.length≤sizeLine) (hd:(a == sysModules)=false) (rel:KV kvs vs) (dd:h'.DictOf (aQ P w) a vs) :
  dJ P w H' h' a (.dK kvs):=⟨z,hd,vs,rel,dd⟩
theorem LZ {H':Hp} {Q:Unit→Shared→Prop} (hu:A.units+1 < cLine) (I:Inv X pins σ H s) (g:JS H a y v H') (ry:RelV y u) (rv:RelV v r) (h:∀ s',Inv X pins σ H' s'→Q () s') :
  wpAny (model X.prog X.w) A (setItem (.ref a) u r) Q E s:=by
 rcases g with ⟨kvs,k,e,ey,l,eH⟩ | ⟨kvs,k,b,e,ey,eb,l,eH⟩
 ·subst ey eH
  obtain ⟨z,hd,vs,rel,dd⟩:=a3s I.hok e
  have hz:vs.length≤sizeLine:=by rw [← rel.length];exact z
  have hl:(putK kvs k v).length≤sizeLine:=by have:=vn kvs k v;omega
  refine wpAny_setItem_pairs (hsz:=hz) (DE ry) dd fun h' dd' hs=>h _ ?_
  have he:∃ q,h'.get? a=some q:=let ⟨q,_,_,hq,_⟩:=dd';⟨q,hq⟩
  exact KU I (by rw [e];exact True.intro) hs he (a0k hl hd (rel.put k rv) dd')
 ·subst ey eH
  cases (show u=Value.ref b from ry)
  obtain ⟨z,hd,xs,rel,dd⟩:=a3p I.hok e
  have hz:xs.length≤sizeLine:=by rw [← Paired.length rel];exact z
  have hl:(putK kvs k v).length≤sizeLine:=by have:=vn kvs k v;omega
  refine wpAny_setItem_heap (hsz:=hz) (tupleKind_room_in1 hu) (Bv I.hok eb) dd fun h' dd' hs=>h _ ?_
  obtain ⟨q,es,ep,hq,h2,h3,h4,_,h5⟩:=dd'
  refine KU I (by rw [e];exact True.intro) hs ⟨q,hq⟩ ⟨hl,hd,_,(rel.put k eb rv).keeps fun c ys ec=>?_,q,es,ep,hq,h2,h3,h4,h5⟩
  rw [aL (a2j ec e (fun z=>nomatch z))]
  exact ec
end
section
variable {X:Cx} {pins:List (Addr×Obj)} {σ:St} {H:Hp} {s:Shared} {a:Addr} {kvs:List (Key×V)} {k:Key} {u:Value} {A:Around} {E:Value→Shared→Prop}
end
def a0E (i:Expr):Prop:=∀ ov iv,subscripted i false ov iv=operate [ov,iv] (getItem ov iv)
theorem JZ {prog:Program} {w:World} {A:Around} {E:Value→Shared→Prop} {s:Shared} {env:Env} {value slice:Expr} {pos:Pos} {T id:String} {Q:Value→Shared→Prop}
  (hl:typeLookup (.type T) "__getitem__"=pure (some (.builtin id))) (hs:a0E slice)
  (h:wpAny (model prog w) A (eval value env) (fun o s₁=>wpAny (model prog w) A (eval slice env) (fun i s₂=>s₂.TypeIs o T∧wpAny (model prog w) A (getItem o i) Q E s₂) E s₁) E s) :
  wpAny (model prog w) A (eval (.Subscript value slice pos) env) Q E s:=by
 refine Subscript_ (wpAny_mono h (fun o s₁ h₁=>wpAny_mono h₁ (fun i s₂ h₂=>?_) fun _ _ x=>x) fun _ _ x=>x)
 obtain ⟨hT,h₂⟩:=h₂
 unfold subscriptTail
 refine wpAny_bind ?_
 rw [getitemInPython_of_ne hT.not_modules]
 refine wpAny_bind (wpAny_specialOf hT hl ?_)
 have fin:wpAny (model prog w) A (subscripted slice false o i) (fun r s₃=>wpAny (model prog w) A (letTemporaryGo value o r >>= fun _=>pure r) Q E s₃) E s₂:=by
  rw [hs o i]
  exact wpAny_operating (wpAny_mono h₂ (fun r s₃ h₃=>wpAny_bind (wpAny_letTemporaryGo (wpAny_pure h₃))) fun _ _ x=>x)
 first
  | exact wpAny_pure (wpAny_bind fin)
  | exact wpAny_bind (wpAny_pure (wpAny_bind fin))
  | exact wpAny_bind fin
theorem DT {X:Cx} {pins:List (Addr×Obj)} {σ:St} {H:Hp} {s:Shared} {a:Addr} {y:V} {o:Option V} (I:Inv X pins σ H s) (g:zu H a y o):s.TypeIs (.ref a) "dict":=by
 rcases g with ⟨kvs,k,e,_,_⟩ | ⟨kvs,k,b,e,_,_,_⟩
 ·obtain ⟨_,_,vs,_,dd⟩:=zT I.hok e
  exact dd.typeIs
 ·obtain ⟨_,_,xs,_,dd⟩:=DS I.hok e
  exact dd.typeIs
def a1y (td ty:TE):TE:=fun σ H Q=>td σ H fun x H1=>ty σ H1 fun y H2=>∃ a v,x=.ref a∧zu H2 a y (some v)∧Q v H2
def a1G (td ty tv:TE):TS:=fun D σ H=>tv σ H fun v H1=>td σ H1 fun x H2=>ty σ H2 fun y H3=>∃ a H4,x=.ref a∧JS H3 a y v H4∧D.nx σ H4
section
variable {X:Cx} {o i e value:Expr} {pos pos' tpos:Pos} {td ty tv:TE}
theorem Kg (hu:X.A.units+1 < cLine) (ho:PE X o td) (hi:PE X i ty) (hs:a0E i):PE X (.Subscript o i pos) (a1y td ty):=by
 intro pins s σ H Q I h
 refine JZ PySem.F.slot_dict_getitem.lookup hs (fG (ho pins s σ H _ I h) fun u s1 ⟨x,H1,I1,rx,q1⟩=>fG (hi pins s1 σ H1 _ I1 q1) fun iv s2 ⟨y,H2,I2,ry,a,v,ex,g,q2⟩=>?_)
 subst ex
 obtain rfl:u=Value.ref a:=rx
 exact ⟨DT I2 g,Mf hu I2 g ry fun w' s3 I3 rw'=>⟨v,H2,I3,rw',q2⟩⟩
theorem AA (hu:X.A.units+1 < cLine) (ho:PE X o td) (hi:PE X i ty) (hv:PE X value tv) (hs:swapsWith value (some (.Subscript o i pos')) pos.line X.env=pure false) :
  PS X (.Assign [.Subscript o i pos'] value pos) (a1G td ty tv):=by
 intro pins s σ H D I h
 refine wpAny_Assign_Subscript (fG (hv pins s σ H _ I h) fun r s1 ⟨v,H1,I1,rv,q1⟩=>fG (ho pins s1 σ H1 _ I1 q1) fun u s2 ⟨x,H2,I2,rx,q2⟩=>fG (hi pins s2 σ H2 _ I2 q2) fun iv s3 ⟨y,H3,I3,ry,a,H4,ex,g,q3⟩=>?_) hs
 subst ex
 obtain rfl:u=Value.ref a:=rx
 exact LZ hu I3 g ry rv fun s4 I4=>⟨σ,H4,I4,q3⟩
end
theorem QY {P:Program} {w:World} {H:Hp} (h:Heap) (hb:sysModules < h.objs.size):dJ P w H (h.push { cls:=.type "dict",data:=.dict #[] }) h.objs.size (.dK []) :=
 ⟨Nat.zero_le _,beq_eq_false_iff_ne.mpr (Ne.symm (Nat.ne_of_lt hb)),[],.nil,Heap.DictOf.new h⟩
def XD:TE:=fun _ H Q=>∀ p,H p=none→Q (.ref p) (upd H p (.dK []))
section
variable {X:Cx} {pos:Pos}
theorem CQ:PE X (.Dict [] [] pos) XD:=fun pins s σ H Q I h =>
 wpAny_Dict_empty ⟨.ref s.heap.objs.size,_,I.laid (a:=s.heap.objs.size) (o:=.dK []) (t':=s.toks) (fun _ _ q=>Heap.get?_push_of_some _ q) (Nat.le_refl _) (QY s.heap I.big),rfl,h _ (I.hok.fresh (Nat.le_refl _))⟩
end
structure M2 (X:Cx) (o:Expr) (m:Str) (apos:Pos) (e f:Expr) (cpos:Pos):Prop where
 base:attributeBase o m X.env (eval o X.env)=eval o X.env
 few:((backTo cpos (starEach [e,f] X.env)).all (fun x=>!x.1) && (backToKw cpos (keywordEach [] X.env)).all (fun x=>x.1.isSome)
  && decide (([e,f]:List Expr).length+([]:List Keyword).length+(if ([]:List Keyword).isEmpty then 0 else 1) < 30))=true
 line:(apos.endLine == cpos.line)=true
 trees:backTo cpos (starEach [e,f] X.env)=[(false,eval e X.env),(false,eval f X.env)]
def IsD (H:Hp) (a:Addr):Prop:=(∃ kvs,Rd H a (.dK kvs))∨∃ kvs,Rd H a (.dT kvs)
theorem Zq {X:Cx} {pins:List (Addr×Obj)} {σ:St} {H:Hp} {s:Shared} {a:Addr} (I:Inv X pins σ H s) (d:IsD H a) :
  s.TypeIs (.ref a) "dict"∧(∀ b,Value.ref a=.ref b→∃ ob,s.heap.get? b=some ob∧ob.dict=none)∧(a == sysModules)=false:=by
 rcases d with ⟨kvs,e⟩ | ⟨kvs,e⟩
 ·obtain ⟨_,hd,vs,_,dd⟩:=zT I.hok e
  refine ⟨dd.typeIs,fun b q=>?_,hd⟩
  cases q
  obtain ⟨ob,_,_,h1,h2,_⟩:=dd
  exact ⟨ob,h1,h2.2.1⟩
 ·obtain ⟨_,hd,xs,_,dd⟩:=DS I.hok e
  refine ⟨dd.typeIs,fun b q=>?_,hd⟩
  cases q
  obtain ⟨ob,_,_,h1,h2,_⟩:=dd
  exact ⟨ob,h1,h2.2.1⟩
section
variable {X:Cx} {pins:List (Addr×Obj)} {σ:St} {H:Hp} {s:Shared} {a:Addr} {y d:V} {u r:Value} {o:Option V} {A:Around} {E:Value→Shared→Prop}
theorem a0n {Q:Value→Shared→Prop} (hu:A.units+1 < cLine) (I:Inv X pins σ H s) (g:zu H a y o) (ry:RelV y u) (rd:RelV d r) (h:∀ w' s',Inv X pins σ H s'→RelV (o.getD d) w'→Q w' s') :
  wpAny (model X.prog X.w) A (call (.builtin "dict.get") [.ref a,u,r]) Q E s:=by
 rcases g with ⟨kvs,k,e,ey,l⟩ | ⟨kvs,k,b,e,ey,eb,l⟩
 ·subst ey
  obtain ⟨z,hd,vs,rel,dd⟩:=zT I.hok e
  refine call_meetsIn PySem.F.slot_dict_get dd.typeIs PySem.F.entry_dict_get (PySem.F.args_dict_get_3 _ _ _) (meets_dict_get_default (aQ X.prog X.w) a (DE ry) hd r) ⟨_,dd.mapOf,h _ _ (I.tok _) ?_⟩
  rw [l]
  exact (rel.val k).getD rd
 ·subst ey
  cases (show u=Value.ref b from ry)
  obtain ⟨z,hd,xs,rel,dd⟩:=DS I.hok e
  refine call_meetsIn PySem.F.slot_dict_get dd.typeIs PySem.F.entry_dict_get (PySem.F.args_dict_get_3 _ _ _) (meetsH_dict_get_default (tupleKind (aQ X.prog X.w)) a b hd r) ⟨tupleKind_room_in1 hu,k,xs,Bv I.hok eb,dd,h _ _ (I.tok _) ?_⟩
  rw [l]
  exact (rel.val k).getD rd
end
def XE (td ty tx:TE):TE:=fun σ H Q=>td σ H fun x H1=>∃ a,x=.ref a∧IsD H1 a∧ty σ H1 fun y H2=>tx σ H2 fun z H3=>∃ o,zu H3 a y o∧Q (o.getD z) H3
section
variable {X:Cx} {o e f:Expr} {apos cpos:Pos} {td ty tx:TE}
theorem OF (hu:X.A.units+1 < cLine) (ho:PE X o td) (he:PE X e ty) (hf:PE X f tx) (m:M2 X o "get" apos e f cpos):PE X (.Call (.Attribute o "get" apos) [e,f] [] cpos) (XE td ty tx):=by
 intro pins s σ H Q I h
 refine wpAny_Call_method m.base m.few m.line PySem.F.plainAttrs_dict PySem.F.slot_dict_get PySem.F.type_dict_get (fG (ho pins s σ H _ I h) fun u s1 ⟨x,H1,I1,rx,a,ex,d,q1⟩=>?_)
 subst ex
 obtain rfl:u=Value.ref a:=rx
 obtain ⟨t1,t2,_⟩:=Zq I1 d
 refine ⟨t1,t2,?_⟩
 rw [m.trees]
 refine Calls.callWith_builtin rfl (Calls.evalArgs_plain (Calls.spliced_cons (fG (he pins s1 σ H1 _ I1 q1) fun iv s2 ⟨y,H2,I2,ry,q2⟩ =>
  Calls.spliced_cons (fG (hf pins s2 σ H2 _ I2 q2) fun fv s3 ⟨z,H3,I3,rz,ov,g,q3⟩=>Calls.spliced_nil ?_))))
 exact a0n hu I3 g ry rz fun w' s4 I4 rw'=>⟨_,H3,I4,rw',q3⟩
end
section
variable {X:Cx} {pins:List (Addr×Obj)} {σ:St} {H:Hp} {s:Shared} {a:Addr} {kvs:List (Key×V)} {A:Around} {E:Value→Shared→Prop}
end
section
variable {X:Cx} {pins:List (Addr×Obj)} {σ:St} {H:Hp} {s:Shared} {a:Addr} {y:V} {u:Value} {A:Around} {E:Value→Shared→Prop}
end
end L2
namespace L2
open PySem PySem.Spec PyProof.Rows
section
variable {X:Cx}
end
section
variable {κ:Type} [DecidableEq κ]
end
end L2
set_option maxHeartbeats 4000000
namespace L2
open PySem PySem.Spec PyProof.Rows
abbrev lS:Value→Shared→Prop:=fun _ _=>False
abbrev zU (X:Cx) (sc:Scope) (N:List Str) (cl:List (Str×Addr)) (C:Addr) (s:Shared) (H:Hp) (fp:List Addr):Cx :=
 { X with N:=N,s₀:=s,H₀:=H,env:=compEnvC sc cl C X.env,outer:=X.stack,ex:=fp,fn:=fun _=>false,pn:=[],xe:=lS }
def Ext (σ σ':St):Prop:=σ'.length=σ.length∧∀ (i:Nat) v,σ[i]?=some (some v)→σ'[i]?=some (some v)
theorem Ext.one {x:V} {r:St}:Ext (none::r) (some x::r):=⟨rfl,fun i v h=>by cases i with | zero=>cases h | succ i=>exact h⟩
theorem Ext.two {x y:V} {r:St}:Ext (none::none::r) (some x::some y::r):=⟨rfl,fun i v h=>by
 cases i with
 | zero=>cases h
 | succ i=>cases i with | zero=>cases h | succ i=>exact h⟩
def JX (cs:List Expr) (env:Env):Sem Bool:=forIn cs true fun c r=>if r=true then do let ok ← isTrue c env (eval c env);pure (ForInStep.yield ok) else pure (ForInStep.yield r)
def PTs (X:Cx) (cs:List Expr) (t:TT):Prop :=
 ∀ (pins:List (Addr×Obj)) (s:Shared) (σ:St) (H:Hp) (Q:Bool→Hp→Prop),Inv X pins σ H s→t σ H Q→wpAny (model X.prog X.w) X.A (JX cs X.env) (TP X pins σ Q) X.xe s
def JY:TT:=fun _ H Q=>Q true H
theorem iz {X:Cx}:PTs X [] JY:=fun pins s σ H Q I h=>wpAny_tests_nil ⟨H,I,h⟩
theorem Kc {X:Cx} {c:Expr} {t:TT} (hc:PT X c t):PTs X [c] t:=fun pins s σ H Q I h=>wpAny_tests_one (hc pins s σ H Q I h)
section
variable {prog:Program} {w:World} {A:Around} {R:Result→Shared→Prop} {s:Shared}
theorem Mg {elt target iter:Expr} {cs:List Expr} {scope:Scope} {pos:Pos} {it acc:Value} {env:Env} (J:Nat→Shared→Prop)
  (turn:∀ n s,J n s→wpAny (model prog w) A (pyNext it) (fun r s1=>match r with
   | none=>R (.ok .next) s1
   | some v=>wpAny (model prog w) A (letOwnedTupleGo target it v) (fun _ s2=>wpAny (model prog w) A (assign target env v) (fun _ s3 =>
     wpAny (model prog w) A (JX cs env) (fun ok s4=>if ok=true then wpAny (model prog w) A (eval elt env) (fun x s5 =>
       wpAny (model prog w) A (call (.builtin "list.append") [acc,x]) (fun _ s6=>∃ m,m < n∧J m s6) lS s5) lS s4
      else ∃ m,m < n∧J m s4) lS s3) lS s2) lS s1) lS s) (n:Nat) (h:J n s) :
  codeAny (model prog w) A (.compLoop (.ListComp elt [⟨target,iter,cs,0⟩] scope pos) 0 it acc env) R s:=by
 refine codeAny_loop rfl J (fun k s' hk=>?_) n h
 show wpAny (model prog w) A ((compTurn (.ListComp elt [⟨target,iter,cs,0⟩] scope pos) 0 it acc env).onRaise (fun x=>do noteFrame x env;theTreesLotGoes x)) _ _ s'
 refine wpAny_noted ?_
 have no:∀ (e:Value) (s2:Shared),lS e s2→notedBy (model prog w) A env (fun e s'=>R (.error e) s') e s2:=fun _ _ f=>f.elim
 rw [compTurn_list]
 refine wpAny_bind (wpAny_standAt (wpAny_bind (wpAny_mono (turn k s' hk) (fun r s1 g1=>?_) no)))
 cases r with
 | none=>exact wpAny_pure g1
 | some v =>
  refine wpAny_bind (wpAny_mono g1 (fun _ s2 g2=>?_) no)
  refine wpAny_bind (wpAny_mono g2 (fun _ s3 g3=>?_) no)
  refine wpAny_bind (wpAny_mono g3 (fun ok s4 g4=>?_) no)
  cases ok with
  | false=>exact wpAny_pure ⟨rfl,g4⟩
  | true=>exact wpAny_bind (wpAny_bind (wpAny_mono g4 (fun x s5 g5=>wpAny_bind (wpAny_mono g5 (fun _ s6 g6=>wpAny_pure (wpAny_pure ⟨rfl,g6⟩)) no)) no))
end
def vD (J:It) (g:TG) (tt:TT) (te:TE) (σ0:St) (W:Nat→Nat→List V→Hp→Prop) (R:List V→Hp→Prop):Prop :=
 ∀ i m ys H,W i m ys H→(J.stop i H∧R ys H)∨(J.go i H∧∃ F:List V→Hp→Prop,(∀ ys' H',F ys' H'→∃ m',m' < m∧W (i+1) m' ys' H')∧∀ x H',J.U3 i H x H'→g x σ0 H' fun σ2 H2=>Ext σ0 σ2∧tt σ2 H2 fun b H3 =>
  if b=true then te σ2 H3 fun v H4=>ys.length < sizeLine∧F (ys++[v]) H4 else F ys H3)
structure yM (X:Cx) (sc:Scope) (cl:List (Str×Addr)) (own:Nat) (N:List Str) (fr:List Nat):Prop where
 kind:sc.kind=.function
 names:∀ x∈sc.names,x.2=.local→sc.names.lookup x.1=some .local
 AS:∀ x∈sc.names,x.2≠.cell
 clos:closureFor sc X.env=pure cl
 cells:∀ x c,cl.lookup x=some c→X.env.cells.lookup x=some c
 has:∀ x,((relabel sc X.env).names.lookup x=some .cell∨(relabel sc X.env).names.lookup x=some .free)→∃ c,cl.lookup x=some c
 len:N.length=own+fr.length
 fro:∀ (i:Nat) j,fr[i]?=some j→∃ x,N[own+i]?=some x∧X.N[j]?=some x∧(X.env.kindOf x=some .cell∨X.env.kindOf x=some .free)∧((relabel sc X.env).names.lookup x=some .cell∨(relabel sc X.env).names.lookup x=some .free)
def U1 (env:Env):List (Str×Addr)→Prop
 | []=>True
 | p::r=>env.cells.lookup p.1=some p.2∧U1 env r
theorem U1.mem {env:Env}:∀ {cl:List (Str×Addr)},U1 env cl→∀ p∈cl,env.cells.lookup p.1=some p.2
 | [],_,_,h=>nomatch h
 | _::_,h,p,hp=>by
  rcases List.mem_cons.mp hp with rfl | hp
  ·exact h.1
  ·exact h.2.mem p hp
def By (k:Option NameKind):Bool:=match k with
 | some .cell=>true
 | some .free=>true
 | _=>false
theorem Kv {k:Option NameKind} (h:By k=true):k=some .cell∨k=some .free:=by
 cases k with
 | none=>cases h
 | some k=>cases k <;> first | exact .inl rfl | exact .inr rfl | cases h
def KG (X:Cx) (sc:Scope):List Str→List Nat→Bool
 | [],[]=>true
 | x::ns,j::fr=>decide (X.N[j]?=some x) && By (X.env.kindOf x) && By ((relabel sc X.env).names.lookup x) && KG X sc ns fr
 | _,_=>false
theorem DI {X:Cx} {sc:Scope}:∀ {ns:List Str} {fr:List Nat},KG X sc ns fr=true→ns.length=fr.length∧∀ (i:Nat) j,fr[i]?=some j→∃ x,ns[i]?=some x∧X.N[j]?=some x∧By (X.env.kindOf x)=true∧By ((relabel sc X.env).names.lookup x)=true
 | [],[],_=>⟨rfl,fun i j h=>by simp at h⟩
 | [],_::_,h=>by cases h
 | _::_,[],h=>by cases h
 | x::ns,j::fr,h=>by
  have h:(decide (X.N[j]?=some x) && By (X.env.kindOf x) && By ((relabel sc X.env).names.lookup x) && KG X sc ns fr)=true:=h
  rw [Bool.and_eq_true,Bool.and_eq_true,Bool.and_eq_true] at h
  obtain ⟨⟨⟨h1,h2⟩,h3⟩,h4⟩:=h
  obtain ⟨l,g⟩:=DI h4
  refine ⟨by simp [l],fun i k e=>?_⟩
  cases i with
  | zero=>cases e;exact ⟨x,rfl,of_decide_eq_true h1,h2,h3⟩
  | succ i=>exact g i k e
theorem dg {X:Cx} {sc:Scope} {cl:List (Str×Addr)} (a1T frN:List Str) (fr:List Nat) (kind:sc.kind=.function) (names:(sc.names.all fun x=>x.2 != .local || sc.names.lookup x.1 == some .local)=true)
  (AS:(sc.names.all fun x=>x.2 != .cell)=true) (clos:closureFor sc X.env=pure cl) (cells:U1 X.env cl) (has:((relabel sc X.env).names.all fun y=>!By (some y.2) || (cl.lookup y.1).isSome)=true)
  (len:frN.length=fr.length) (fro:KG X sc frN fr=true):yM X sc cl a1T.length (a1T++frN) fr where
 kind:=kind
 names:=fun x hx hl=>by
  have:=List.all_eq_true.mp names x hx
  rw [hl] at this
  simpa using this
 AS:=fun x hx=>by simpa using List.all_eq_true.mp AS x hx
 clos:=clos
 cells:=fun x c h=>cells.mem (x,c) (PySem.mem_of_lookup h)
 has:=fun x h=>by
  obtain ⟨k,hk,e⟩:∃ k,(relabel sc X.env).names.lookup x=some k∧By (some k)=true:=by
   rcases h with h | h
   ·exact ⟨_,h,rfl⟩
   ·exact ⟨_,h,rfl⟩
  have:=List.all_eq_true.mp has (x,k) (PySem.mem_of_lookup hk)
  rw [e] at this
  exact Option.isSome_iff_exists.mp (by simpa using this)
 len:=by rw [List.length_append,len]
 fro:=fun i j e=>by
  obtain ⟨_,g⟩:=DI fro
  obtain ⟨x,e1,e2,e3,e4⟩:=g i j e
  refine ⟨x,?_,e2,Kv e3,Kv e4⟩
  rw [List.getElem?_append_right (Nat.le_add_right _ _),Nat.add_sub_cancel_left]
  exact e1
def Rw (own:Nat) (fr:List Nat) (σ:St):St:=List.replicate own none++fr.map fun j=>(σ[j]?).join
section
variable {X:Cx} {sc:Scope} {cl:List (Str×Addr)} {own:Nat} {N:List Str} {fr:List Nat}
theorem XH {σ:St} {i:Nat} {v:V} (h:(Rw own fr σ)[i]?=some (some v)):∃ k j,i=own+k∧fr[k]?=some j∧σ[j]?=some (some v):=by
 unfold Rw at h
 by_cases hi:i < own
 ·rw [List.getElem?_append_left (by simpa using hi),List.getElem?_replicate,if_pos hi] at h
  cases h
 ·rw [List.getElem?_append_right (by simpa using hi),List.length_replicate,List.getElem?_map] at h
  cases e:fr[i - own]? with
  | none=>rw [e] at h;cases h
  | some j =>
   rw [e] at h
   have h:(σ[j]?).join=some v:=Option.some.inj h
   refine ⟨i - own,j,by omega,e,?_⟩
   cases q:σ[j]? with
   | none=>rw [q] at h;cases h
   | some o=>rw [q] at h;exact congrArg some h
theorem Mn {pins:List (Addr×Obj)} {σ:St} {H:Hp} {s:Shared} {fp:List Addr} {h1:Heap} {m1:Str→Option Value} {t:Nat} {C D:Addr} {od:Obj} (S:yM X sc cl own N fr) (I:Inv X pins σ H s) (hfp:∀ b∈fp,mz X pins H b)
  (hob:∀ b∈fp,∃ o,s.heap.get? b=some o) (kp:∀ b o,s.heap.get? b=some o→h1.get? b=some o) (hC:s.heap.objs.size≤C) (hns:h1.Ns C m1) (hD:s.heap.objs.size≤D) (hDC:D≠C) (ho:h1.get? D=some od) (hod:∀ v,od.data≠.cell v) :
  Inv (zU X sc N cl C s H fp) [(D,od)] (Rw own fr σ) H { s with heap:=h1,toks:=t }:=by
 have RY:∀ b∈fp,b < s.heap.objs.size:=fun b hb=>let ⟨o,e⟩:=hob b hb;Heap.lt_size e
 refine ⟨⟨I.ok.mod,S.kind,I.ok.glob,I.ok.blt,hC,fun x y c a b=>I.ok.inj x y c (S.cells x c a) (S.cells y c b),S.has,(fun x c z=>nomatch z),I.ok.hd,I.ok.frames,.inl rfl,fun b hb=>?_,I.bs,Nat.le_trans I.ok.Uy I.sz,fun b o e hb=>?_,fun b hb hf=>?_,I.stack,I.J0⟩,
  rfl,I.bare,Un.kept kp,⟨m1,hns,fun i x v e1 e2 e3=>?_⟩,fun x c e=>?_,I.hok.fresh hC,fun x c e=>I.ou x c (S.cells x c e),fun p hp=>?_,I.hok.kept kp,?_⟩
 ·exact ⟨Nat.ne_of_lt (Nat.lt_of_lt_of_le (RY b hb) hC),fun x c e=>(hfp b hb).2.2.2.2.1 x c (S.cells x c e)⟩
 ·rcases (hfp b hb).2.2.2.1 with z | z
  ·exact I.ok.OS b o e z
  ·exact absurd (Nat.lt_of_lt_of_le (Heap.lt_size e) (Nat.le_trans I.ok.Uy z)) (Nat.lt_irrefl _)
 ·rcases List.mem_cons.mp (I.Ak b hf) with z | z
  ·exact (hfp b hb).2.1 z
  ·exact (hfp b hb).2.2.1 z
 ·obtain ⟨k,j,rfl,ej,eσ⟩:=XH e2
  obtain ⟨y,n1,n2,k1,k2⟩:=S.fro k j ej
  have e1:N[own+k]?=some x:=e1
  rw [n1] at e1
  cases e1
  obtain ⟨m,hn,hl⟩:=I.loc
  obtain ⟨u,ru,l⟩:=hl j x v n2 eσ (by rcases k1 with z | z;exact .inr (.inl z);exact .inr (.inr z))
  refine ⟨u,ru,.inr ⟨k2,?_⟩⟩
  obtain ⟨c,hc⟩:=S.has x k2
  refine ⟨c,hc,?_⟩
  rcases l with ⟨q,_⟩ | ⟨_,c',e',z⟩
  ·rcases k1 with k1 | k1 <;> (rw [k1] at q;cases q)
  ·have:=S.cells x c hc
   rw [e'] at this;cases this
   obtain ⟨o,VA,h2'⟩:=z
   exact ⟨o,kp _ _ VA,h2'⟩
 ·obtain ⟨v,o,VA,h2'⟩:=I.cell x c (S.cells x c e)
  exact ⟨v,o,kp _ _ VA,h2'⟩
 ·have hp:p=(D,od):=by simpa using hp
  subst hp
  refine ⟨ho,I.hok.fresh hD,hDC,fun hf=>?_,hod⟩
  have:D∈X.env.locals::X.fs:=I.Ak D hf
  rcases List.mem_cons.mp this with z | z
  ·exact absurd (Nat.lt_of_lt_of_le I.lt hD) (by rw [z];exact Nat.lt_irrefl _)
  ·exact I.a2g hD z
 ·unfold Rw
  rw [List.length_append,List.length_replicate,List.length_map]
  exact S.len.symm
theorem Mp {pins pl:List (Addr×Obj)} {σ τ:St} {H H':Hp} {s s':Shared} {fp:List Addr} {C D:Addr} {ys:List V} {its:List Value} {n:Nat} (I:Inv X pins σ H s) (hfp:∀ b∈fp,mz X pins H b) (hC:s.heap.objs.size≤C) (hD:s.heap.objs.size≤D)
  (B:Inv (zU X sc N cl C s H fp) pl τ H' s') (hn:H' D=none) (ho:s'.heap.get? D=some { cls:=.type "list",data:=.seq its.toArray n }) (r:Vals ys its) (hz:ys.length≤sizeLine) :
  Inv X pins σ (upd H' D (.lst ys)) s':=by
 have ne:∀ b o,s.heap.get? b=some o→b≠D:=fun b o e=>Nat.ne_of_lt (Nat.lt_of_lt_of_le (Heap.lt_size e) hD)
 have nt:∀ b u,H' b=some u→b≠D:=fun b u e=>aq e hn
 refine I.a5g (ch:=fp) B.os ⟨B.base.keep,B.base.slot,fun b o e q hx=>?_,B.base.there,fun b xs e=>?_,fun b o u e=>?_,fun b ps e=>?_⟩ (fun b u e=>?_) B.bare fun b hb=>?_
 ·rw [aL (ne b o e)];exact B.base.free b o e q hx
 ·have:=B.base.tups b xs e;rw [aL (nt _ _ this)];exact this
 ·have:=B.base.y9 b o u e;rw [aL (nt _ _ this)];exact this
 ·obtain ⟨mo,this⟩:=B.base.Ai b ps e;exact ⟨mo,by rw [aL (nt _ _ this)];exact this⟩
 ·by_cases hb:b=D
  ·subst hb
   rw [af] at e
   cases e
   exact ⟨hz,its,n,r,ho⟩
  ·rw [aL hb] at e
   exact (B.hok b u e).stay (fun _ _ _ q=>q) (fun c q=>by rw [aL (nt _ _ q)];exact q) fun c xs q=>by rw [aL (nt _ _ q)];exact q
 ·obtain ⟨_,f1,_,f3,f4,f5⟩:=hfp b hb
  exact ⟨f3,f1,f4,f5⟩
end
end L2
namespace L2
open PySem PySem.Spec PyProof.Rows
section
variable {X:Cx} {sc:Scope} {cl:List (Str×Addr)} {own:Nat} {N:List Str} {fr:List Nat}
theorem Inv.Oh {pins xx:List (Addr×Obj)} {σ:St} {H:Hp} {s:Shared} (I:Inv X pins σ H s) (h:∀ p∈xx,p∈pins):Inv X xx σ H s:=I.wA fun p hp=>I.pin p (List.mem_append_right _ (h p hp))
theorem zV {elt tg iter:Expr} {cs:List Expr} {pos:Pos} {g:TG} {tt:TT} {te:TE} {pins:List (Addr×Obj)} {σ:St} {H:Hp} {s:Shared} {it:Addr} {fp:List Addr} {tn:Nat→Heap→Prop} {J:It} {RR:Value→Addr→Result→Shared→Prop}
  (S:yM X sc cl own N fr) (hc:X.calm=true) (I:Inv X pins σ H s) (T:Turn X.prog X.w X.K tg J fp it tn) (st:tn 0 s.heap) (hfp:∀ b∈fp,mz X pins H b)
  (hg:∀ C s H,PG (zU X sc N cl C s H fp) tg g) (ht:∀ C s H,PTs (zU X sc N cl C s H fp) cs tt) (he:∀ C s H,PE (zU X sc N cl C s H fp) elt te)
  {W:Nat→Nat→List V→Hp→Prop} {R:List V→Hp→Prop} (w0:∃ m,W 0 m [] H) (walk:vD J g tt te (Rw own fr σ) W R)
  (fin:∀ D C H' ys s' m,s'.heap.Ns C m→H' D=none→mz X pins (upd H' D (.lst ys)) C→Inv X pins σ (upd H' D (.lst ys)) s'→R ys H'→RR (.ref D) C (.ok .next) s') :
  wpAny (model X.prog X.w) X.A (newList []) (fun acc s3=>wpAny (model X.prog X.w) X.A (newFunctionEnv sc X.env.globals cl [] X.env.qual none .none (some X.env)) (fun cenv s4 =>
   codeAny (model X.prog X.w) X.A (.compStart (.ListComp elt [⟨tg,iter,cs,0⟩] sc pos) 0 (.ref it) acc { cenv with scope:=relabel sc X.env }) (RR acc cenv.locals) s4) X.xe s3) X.xe s:=by
 refine wpAny_newObj_type (wpAny_newFunctionEnv S.AS (by intro y hy;simp at hy) (fun h1 hns TZ=>?_) S.kind)
 dsimp only at hns TZ ⊢
 generalize hH:s.heap.push { cls:=.type "list",dict:=none,data:=.seq ([]:List Value).toArray }=hp at hns TZ ⊢
 have sC:hp.objs.size=s.heap.objs.size+1:=by rw [← hH,Heap.size_push]
 have hDC:s.heap.objs.size≠hp.objs.size:=by omega
 have kp:∀ b o,s.heap.get? b=some o→h1.get? b=some o:=fun b o e=>by
  have l:=Heap.lt_size e
  exact TZ.extBut b o (Nat.ne_of_lt (by rw [sC];exact Nat.lt_succ_of_lt l)) (Heap.get?_push_of_some _ (hH ▸ Heap.get?_push_of_some _ e))
 have hD1:h1.get? s.heap.objs.size=some { cls:=.type "list",data:=.seq ([]:List Value).toArray }:=TZ.extBut _ _ hDC (Heap.get?_push_of_some _ (hH ▸ Heap.get?_push_size _ rfl))
 have RY:∀ b∈fp,b < s.heap.objs.size:=fun b hb=>let ⟨o,e,_⟩:=T.obj 0 _ st b hb;Heap.lt_size e
 generalize hCC:hp.objs.size=C at *
 generalize hDD:s.heap.objs.size=D at *
 have I1:∀ t,Inv (zU X sc N cl C s H fp) [(D,{ cls:=.type "list",data:=.seq ([]:List Value).toArray })] (Rw own fr σ) H { s with heap:=h1,toks:=t }:=fun t =>
  Mn S I hfp (fun b hb=>let ⟨o,e,_⟩:=T.obj 0 _ st b hb;⟨o,e⟩) kp (by omega) hns (by omega) hDC hD1 (by intro v z;cases z)
 have st1:tn 0 h1:=T.keep 0 _ _ st fun b hb o e=>kp b o e
 have fpo:∀ {H':Hp} {s':Shared} {τ:St} {pl:List (Addr×Obj)} {od:Obj},Inv (zU X sc N cl C s H fp) pl τ H' s'→(∀ p∈pl,p.1=D)→(∀ b∈fp,H' b=none)→∀ b∈fp,mz (zU X sc N cl C s H fp) pl H' b:=fun {H' s' τ pl od} B hpl hn b hb=>by
  have q:=RY b hb
  refine ⟨hn b hb,(B.ok.exf b hb).1,B.ok.QM b hb,.inl hb,(B.ok.exf b hb).2,fun p hp=>?_⟩
  have hp:p∈pl:=by simpa using hp
  rw [hpl p hp];exact (Nat.ne_of_lt q).symm
 have loop:∀ t,codeAny (model X.prog X.w) X.A (.compLoop (.ListComp elt [⟨tg,iter,cs,0⟩] sc pos) 0 (.ref it) (.ref D) (compEnvC sc cl C X.env)) (RR (.ref D) C) { s with heap:=h1,toks:=t }:=by
  intro t
  obtain ⟨m0,w0⟩:=w0
  refine Mg (fun n s'=>∃ i ys its k H',Inv (zU X sc N cl C s H fp) [(D,{ cls:=.type "list",data:=.seq (List.toArray its) k })] (Rw own fr σ) H' s'∧tn i s'.heap∧(∀ b∈fp,H' b=none)∧Vals ys its∧ys.length≤sizeLine∧W i n ys H') ?_ m0
   ⟨0,[],[],_,H,I1 t,st1,fun b hb=>(hfp b hb).1,.nil,Nat.zero_le _,w0⟩
  rintro n s2 ⟨i,ys,its,k,H2,B2,st2,fr2,rv,hz,w2⟩
  have pD:=B2.pin (D,{ cls:=.type "list",data:=.seq (List.toArray its) k }) (List.mem_append_right _ (List.mem_singleton.mpr rfl))
  rcases walk i n ys H2 w2 with ⟨stop,rr⟩ | ⟨go,nx,hnx,tk⟩
  ·refine wpAny_mono (T.done (zU X sc N cl C s H fp) rfl rfl rfl hc i _ s2 _ H2 lS B2 (fpo (od:=default) B2 (by simp) fr2) st2 stop) (fun r s3 ⟨hr,B3⟩=>?_) fun _ _ z=>z
   subst hr
   obtain ⟨m3,n3,_⟩:=B3.loc
   have pD3:=B3.pin (D,{ cls:=.type "list",data:=.seq (List.toArray its) k }) (List.mem_append_right _ (List.mem_singleton.mpr rfl))
   refine fin D C H2 ys s3 m3 n3 pD3.2.1 ?_ (Mp I hfp (by omega) (by omega) B3 pD3.2.1 pD3.1 rv hz) rr
   exact I.Jb (by omega) (by rw [aL (Ne.symm hDC)];exact B3.free)
  ·refine wpAny_mono (T.item (zU X sc N cl C s H fp) rfl rfl rfl hc i _ s2 _ H2 lS B2 (fpo (od:=default) B2 (by simp) fr2) st2 go) (fun r s3 ⟨u,hr,g3⟩=>?_) fun _ _ z=>z
   subst hr
   refine wpAny_mono g3 (fun _ s4 ⟨x,H4,B4,rx,y4,st4,fr4⟩=>?_) fun _ _ z=>z
   have B5:=B4.pinned (fpo (od:=default) B4 (by simp) fr4) (T.obj _ _ st4)
   refine wpAny_mono (hg C s H _ s4 _ H4 x u _ B5 rx (tk x H4 y4)) (fun _ s5 ⟨σ5,H5,B6,ex,q5⟩=>?_) fun _ _ z=>z
   refine wpAny_mono (ht C s H _ s5 σ5 H5 _ B6 q5) (fun b s6 ⟨H6,B7,q6⟩=>?_) fun _ _ z=>z
   have back:∀ {H':Hp} {s':Shared},Inv (zU X sc N cl C s H fp) ([(D,{ cls:=.type "list",data:=.seq (List.toArray its) k })]++xw fp s4.heap) σ5 H' s'→tn (i+1) s'.heap∧∀ b∈fp,H' b=none:=fun {H' s'} B=>by
    refine ⟨T.keep _ _ _ st4 fun b hb o e=>(B.pin (b,o) (List.mem_append_right _ (List.mem_append_right _ (nD hb e)))).1,fun b hb=>?_⟩
    obtain ⟨o,e,_⟩:=T.obj _ _ st4 b hb
    exact (B.pin (b,o) (List.mem_append_right _ (List.mem_append_right _ (nD hb e)))).2.1
   cases b with
   | false =>
    obtain ⟨m',hm,w'⟩:=hnx _ _ q6
    obtain ⟨t7,f7⟩:=back B7
    exact ⟨m',hm,i+1,ys,its,k,H6,(B7.rO).weak ex.1.symm ex.2,t7,f7,rv,hz,w'⟩
   | true =>
    refine wpAny_mono (he C s H _ s6 σ5 H6 _ B7 q6) (fun x7 s7 ⟨v7,H7,B8,r7,hz7,q7⟩=>?_) fun _ _ z=>z
    obtain ⟨m',hm,w'⟩:=hnx _ _ q7
    obtain ⟨t8,f8⟩:=back B8
    have Yv:=B8.pin (D,{ cls:=.type "list",data:=.seq (List.toArray its) k }) (List.mem_append_right _ (List.mem_append_left _ (List.mem_singleton.mpr rfl)))
    have lz:its.length=ys.length:=rv.length.symm
    refine call_meets F.slot_list_append ⟨_,Yv.1,rfl⟩ F.entry_list_append (F.args_list_append_2 _ _) (PySem.list_append D its.toArray k x7 (by rw [List.size_toArray];omega)) ⟨Yv.1,?_⟩
    have q:=PySem.IsL.update Yv.1 (·.push x7)
    have eo:its.toArray.push x7=(its++[x7]).toArray:=by simp
    have B9:Inv (zU X sc N cl C s H fp) [] (Rw own fr σ) H7 { s7 with heap:=s7.heap.update D (Obj.mapSeq (·.push x7)) } :=
     Inv.turned (t':=s7.toks) (((B8.Oh (xx:=[]) (by intro p hp;simp at hp)).weak ex.1.symm ex.2)) (fun b o hb e=>(Heap.get?_update_other _ _ (Ne.symm hb)).trans e) Yv.2.1 hDC (.inr (by show s.heap.objs.size≤D;omega)) (fun y c e z=>by
      have:=B8.cell y c e
      obtain ⟨v,o,VA,h2'⟩:=this
      have VA:s7.heap.get? c=some o:=VA
      rw [z,Yv.1] at VA
      cases VA
      cases h2') (by intro p hp;simp at hp)
    have B10:∀ o',(s7.heap.update D (Obj.mapSeq (·.push x7))).get? D=some o'→(∀ v,o'.data≠.cell v)→Inv (zU X sc N cl C s H fp) [(D,o')] (Rw own fr σ) H7 { s7 with heap:=s7.heap.update D (Obj.mapSeq (·.push x7)) }:=fun o' e1 e2 =>
     Inv.wA B9 fun p hp=>by
      have hp:p=(D,o'):=by simpa using hp
      subst hp
      exact ⟨e1,Yv.2.1,hDC,Yv.2.2.2.1,e2⟩
    rw [eo] at q
    refine ⟨m',hm,i+1,ys++[v7],its++[x7],_,H7,B10 _ q (by intro v z;cases z),T.keep _ _ _ t8 fun b hb o e=>(Heap.get?_update_other _ _ (Nat.ne_of_gt (RY b hb))).trans e,f8,rv.append (.cons r7 .nil),by rw [List.length_append,List.length_singleton];omega,w'⟩
 exact codeAny_compStart_list (loop _) (T.self _ 0 _ _ _ st1 (loop _))
def U9 (own:Nat) (fr:List Nat) (wi:TI) (g:TG) (tt:TT) (te:TE):TE:=fun σ H Q=>wi σ H fun J H1=>∃ W:Nat→Nat→List V→Hp→Prop,(∃ m,W 0 m [] H1) ∧
 vD J g tt te (Rw own fr σ) W fun ys H2=>∀ p,H2 p=none→Q (.ref p) (upd H2 p (.lst ys))
theorem iB {elt tg iter:Expr} {cs:List Expr} {pos:Pos} {wi:TI} {g:TG} {tt:TT} {te:TE} (S:yM X sc cl own N fr) (hc:X.calm=true) (hi:PI X tg iter wi) (hg:∀ C s H fp,PG (zU X sc N cl C s H fp) tg g)
  (ht:∀ C s H fp,PTs (zU X sc N cl C s H fp) cs tt) (he:∀ C s H fp,PE (zU X sc N cl C s H fp) elt te) (hs:∀ x,foldedSetIterable iter X.env x=pure x:=by intro _;rfl) :
  PE X (.ListComp elt [⟨tg,iter,cs,0⟩] sc pos) (U9 own fr wi g tt te):=by
 intro pins s σ H Q I h
 rw [eval_ListComp]
 refine wpAny_comprehension_free (use:=none) rfl hs S.clos S.kind S.names (fG (hi pins s σ H _ I h) fun v s1 h1=>fG h1 fun itv s2 h2=>?_)
 obtain ⟨it,fp,tn,J,H2,e,I2,T,st2,f2,W,w0,walk⟩:=h2
 subst e
 refine zV (RR:=fun acc C=>compPost (model X.prog X.w) X.A X.xe none (EP X pins σ Q) acc C) S hc I2 T st2 f2 (fun C s H=>hg C s H fp) (fun C s H=>ht C s H fp) (fun C s H=>he C s H fp) w0 walk ?_
 intro D C H' ys s' m hn hD fC I' rr
 obtain ⟨f0,f1,f2',f3,f4,f5⟩:=fC
 exact ⟨m,hn,fun h' hs'=>⟨.ref D,_,Inv.turned (t':=s'.toks) I' (fun b o hb e=>hs'.extBut b o hb e) f0 f1 f3 f4 f5,rfl,rr D hD⟩⟩
theorem Kd {elt tg iter:Expr} {cs:List Expr} {pos spos py:Pos} {wi:TI} {g:TG} {tt:TT} {te:TE} {i:Nat} {y:Str} (hN:X.N.Nodup) (RD:X.N[i]?=some y) (hy:Loc X.env.scope y) (S:yM X sc cl own N fr) (hc:X.calm=true) (hi:PI X tg iter wi)
  (hg:∀ C s H fp,PG (zU X sc N cl C s H fp) tg g) (ht:∀ C s H fp,PTs (zU X sc N cl C s H fp) cs tt) (he:∀ C s H fp,PE (zU X sc N cl C s H fp) elt te)
  (hsw:swapsWith (.ListComp elt [⟨tg,iter,cs,0⟩] sc pos) (some (.Name y py)) spos.line X.env=pure true:=by rfl) (hs:∀ x,foldedSetIterable iter X.env x=pure x:=by intro _;rfl)
  (hf:X.fn y=true∨X.env.scope.names.lookup y=some .local:=by first | exact .inl rfl | exact .inr rfl | assumption) :
  PS X (.Assign [.Name y py] (.ListComp elt [⟨tg,iter,cs,0⟩] sc pos) spos) (XF (U9 own fr wi g tt te) (Qy i)):=by
 intro pins s σ H D0 I h
 rw [exec_Assign_Name_used _ _ _ _ hsw]
 refine wpAny_bind (wpAny_standAt (wpAny_bind ?_))
 show wpAny _ X.A (do let _ ← comprehension (.ListComp elt [⟨tg,iter,cs,0⟩] sc pos) sc X.env _ (newList []) false (eval iter X.env) (some (assign (.Name y py) X.env))) _ _ s
 refine wpAny_bind (fG (wpAny_comprehension_free (use:=some (assign (.Name y py) X.env)) (Q:=fun _ s'=>SP X pins D0 .next s') rfl hs S.clos S.kind S.names
  (fG (hi pins s σ H _ I h) fun v s1 h1=>fG h1 fun itv s2 h2=>?_)) fun _ s' hq=>wpAny_pure (wpAny_pure hq))
 obtain ⟨it,fp,tn,J,H2,e,I2,T,st2,f2,W,w0,walk⟩:=h2
 subst e
 refine zV (RR:=fun acc C=>compPost (model X.prog X.w) X.A X.xe (some (assign (.Name y py) X.env)) (fun _ s'=>SP X pins D0 .next s') acc C) S hc I2 T st2 f2 (fun C s H=>hg C s H fp) (fun C s H=>ht C s H fp) (fun C s H=>he C s H fp) w0 walk ?_
 intro D C H' ys s' m hn hD fC I' rr
 obtain ⟨f0,f1,f2',f3,f4,f5⟩:=fC
 show wpAny _ X.A (assign (.Name y py) X.env (.ref D)) _ _ _
 refine wpAny_assign_Name (zB I' hN RD hy (v:=.ref D) rfl (fun s2 I2 ⟨a,sb,ha⟩=>?_) hf)
 have aC:C≠a:=by
  rcases ha with z | z
  ·rw [z];exact f1
  ·exact fun q=>f4 y a z q.symm
 exact ⟨m,hn.sameBut sb aC,fun h' hs'=>⟨_,_,Inv.turned (t':=s2.toks) I2 (fun b o hb e=>hs'.extBut b o hb e) f0 f1 f3 f4 f5,rr D hD⟩⟩
end
theorem pW {K:PySem.W.Frag} {a:Addr} {xs:List V} {g:TG} {tt:TT} {te:TE} {σ0:St} {H:Hp} {R:List V→Hp→Prop} (Pv:Nat→List V→Hp→Prop) (h0:Pv 0 [] H) (hl:∀ i ys H,i≤xs.length→Pv i ys H→bH K H a xs)
  (hs:∀ i x ys H,xs[i]?=some x→Pv i ys H→g x σ0 H fun σ2 H2=>Ext σ0 σ2∧tt σ2 H2 fun b H3=>if b=true then te σ2 H3 fun v H4=>ys.length < sizeLine∧Pv (i+1) (ys++[v]) H4 else Pv (i+1) ys H3)
  (hd:∀ ys H,Pv xs.length ys H→R ys H):∃ W:Nat→Nat→List V→Hp→Prop,(∃ m,W 0 m [] H)∧vD (RJ K a) g tt te σ0 W R:=by
 refine ⟨fun i m ys H=>m=xs.length - i∧i≤xs.length∧Pv i ys H,⟨xs.length,by simp,Nat.zero_le _,h0⟩,?_⟩
 rintro i m ys H ⟨rfl,hi,p⟩
 have q:=hl i ys H hi p
 by_cases hlt:i < xs.length
 ·refine .inr ⟨⟨xs,xs[i],q,by simp [hlt]⟩,Pv (i+1),fun ys' H' p'=>⟨xs.length - (i+1),by omega,rfl,hlt,p'⟩,fun x H' y=>?_⟩
  obtain ⟨e,y⟩:=y
  subst e
  exact hs i x ys _ (y xs q) p
 ·have e:i=xs.length:=by omega
  subst e
  exact .inl ⟨⟨xs,q,Nat.le_refl _⟩,hd ys H p⟩
theorem mP {K:PySem.W.Frag} {a:Addr} {xs:List V} {g:TG} {tt:TT} {te:TE} {σ0:St} {H:Hp} {R:List V→Hp→Prop} (Pv:Nat→List V→Hp→Prop) (h0:Pv 0 [] H) (hl:∀ i ys H,i≤xs.length→Pv i ys H→bG K H a xs)
  (hs:∀ i x ys H,xs[i]?=some x→Pv i ys H→g x σ0 H fun σ2 H2=>Ext σ0 σ2∧tt σ2 H2 fun b H3=>if b=true then te σ2 H3 fun v H4=>ys.length < sizeLine∧Pv (i+1) (ys++[v]) H4 else Pv (i+1) ys H3)
  (hd:∀ ys H,Pv xs.length ys H→R ys H):∃ W:Nat→Nat→List V→Hp→Prop,(∃ m,W 0 m [] H)∧vD (Rm K a) g tt te σ0 W R:=by
 refine ⟨fun i m ys H=>m=xs.length - i∧i≤xs.length∧Pv i ys H,⟨xs.length,by simp,Nat.zero_le _,h0⟩,?_⟩
 rintro i m ys H ⟨rfl,hi,p⟩
 have q:=hl i ys H hi p
 by_cases hlt:i < xs.length
 ·refine .inr ⟨⟨xs,xs[i],q,by simp [hlt]⟩,Pv (i+1),fun ys' H' p'=>⟨xs.length - (i+1),by omega,rfl,hlt,p'⟩,fun x H' y=>?_⟩
  obtain ⟨e,y⟩:=y
  subst e
  exact hs i x ys _ (y xs q) p
 ·have e:i=xs.length:=by omega
  subst e
  exact .inl ⟨⟨xs,q,Nat.le_refl _⟩,hd ys H p⟩
theorem yo {lo:Int} {n:Nat} {g:TG} {tt:TT} {te:TE} {σ0:St} {H:Hp} {R:List V→Hp→Prop} (Pv:Nat→List V→Hp→Prop) (h0:Pv 0 [] H)
  (hs:∀ i ys H,i < n→Pv i ys H→g (.int (lo+i)) σ0 H fun σ2 H2=>Ext σ0 σ2∧tt σ2 H2 fun b H3=>if b=true then te σ2 H3 fun v H4=>ys.length < sizeLine∧Pv (i+1) (ys++[v]) H4 else Pv (i+1) ys H3)
  (hd:∀ ys H,Pv n ys H→R ys H):∃ W:Nat→Nat→List V→Hp→Prop,(∃ m,W 0 m [] H)∧vD (Itr lo n) g tt te σ0 W R:=by
 refine ⟨fun i m ys H=>m=n - i∧i≤n∧Pv i ys H,⟨n,by simp,Nat.zero_le _,h0⟩,?_⟩
 rintro i m ys H ⟨rfl,hi,p⟩
 by_cases hlt:i < n
 ·refine .inr ⟨hlt,Pv (i+1),fun ys' H' p'=>⟨n - (i+1),by omega,rfl,hlt,p'⟩,fun x H' y=>?_⟩
  obtain ⟨e,y⟩:=y
  subst e y
  exact hs i ys _ hlt p
 ·have e:i=n:=by omega
  subst e
  exact .inl ⟨Nat.le_refl _,hd ys H p⟩
def b8g (K:PySem.W.Frag) (tl:TE):TI:=fun σ H R=>tl σ H fun x H1=>∃ a,x=.ref a∧(((∃ xs,bH K H1 a xs)∧R (RJ K a) H1)∨((∃ xs,bG K H1 a xs)∧R (Rm K a) H1))
theorem AE {X:Cx} {tg l:Expr} {tl:TE} (hl:PE X l tl):PI X tg l (b8g X.K tl):=by
 intro pins s σ H R I h
 refine fG (hl pins s σ H _ I h) fun v s1 ⟨x,H1,I1,r1,q1⟩=>?_
 obtain ⟨a,e,q⟩:=q1
 subst e
 cases r1
 have fo:∀ b∈[s1.heap.objs.size],mz X pins H1 b:=fun b hb=>by
  have e:b=s1.heap.objs.size:=by simpa using hb
  subst e
  exact I1.Jb (Nat.le_refl _) (I1.hok.fresh (Nat.le_refl _))
 rcases q with ⟨⟨xs,hq⟩,q⟩ | ⟨⟨xs,hq⟩,q⟩
 ·obtain ⟨its,rv,p,hz⟩:=I1.list hq
  refine wpAny_pyIter_list p.isList ?_
  exact ⟨s1.heap.objs.size,[s1.heap.objs.size],_,_,H1,rfl,I1.kept (t':=s1.toks) fun b o e=>Heap.get?_push_of_some _ e,zy a _,⟨_,Heap.get?_push_size _ rfl,rfl,rfl⟩,fo,q⟩
 ·obtain ⟨its,rv,p,hz⟩:=I1.tuple hq
  refine wpAny_pyIter_tuple (show s1.heap.IsTuple a its.toArray from p) ?_
  exact ⟨s1.heap.objs.size,[s1.heap.objs.size],_,_,H1,rfl,I1.kept (t':=s1.toks) fun b o e=>Heap.get?_push_of_some _ e,wQ a _,⟨_,Heap.get?_push_size _ rfl,rfl,rfl⟩,fo,q⟩
end L2
namespace Hw
open PySem PySem.Spec
def lt (a b:Str):Bool:=ltCps a.cps.toList b.cps.toList
theorem VP:∀ a:List Nat,ltCps a a=false
 | []=>rfl
 | x::r=>by simp [ltCps,VP r]
theorem KY:∀ a b c:List Nat,ltCps a b=true→ltCps b c=true→ltCps a c=true
 | [],[],_,h,_=>by simp [ltCps] at h
 | [],_::_,[],_,h=>by simp [ltCps] at h
 | [],_::_,_::_,_,_=>rfl
 | _::_,[],_,h,_=>by simp [ltCps] at h
 | _::_,_::_,[],_,h=>by simp [ltCps] at h
 | x::a,y::b,z::c,h,g=>by
  simp only [ltCps,Bool.or_eq_true,Bool.and_eq_true,decide_eq_true_eq,beq_iff_eq] at h g ⊢
  rcases h with h | ⟨h,h'⟩ <;> rcases g with g | ⟨g,g'⟩
  ·left;omega
  ·left;omega
  ·left;omega
  ·right;exact ⟨by omega,KY a b c h' g'⟩
theorem VO:∀ a b:List Nat,ltCps a b=true∨a=b∨ltCps b a=true
 | [],[]=>.inr (.inl rfl)
 | [],_::_=>.inl rfl
 | _::_,[]=>.inr (.inr rfl)
 | x::a,y::b=>by
  simp only [ltCps,Bool.or_eq_true,Bool.and_eq_true,decide_eq_true_eq,beq_iff_eq,List.cons.injEq]
  rcases Nat.lt_trichotomy x y with h | h | h
  ·exact .inl (.inl h)
  ·rcases VO a b with g | g | g
   ·exact .inl (.inr ⟨h,g⟩)
   ·exact .inr (.inl ⟨h,g⟩)
   ·exact .inr (.inr (.inr ⟨h.symm,g⟩))
  ·exact .inr (.inr (.inl h))
theorem qU (a:Str):lt a a=false:=VP _
theorem lt_trans {a b c:Str}:lt a b=true→lt b c=true→lt a c=true:=KY _ _ _
theorem xP (a b:Str):lt a b=true∨a=b∨lt b a=true:=by
 rcases VO a.cps.toList b.cps.toList with h | h | h
 ·exact .inl h
 ·refine .inr (.inl ?_)
  obtain ⟨⟨x⟩⟩:=a;obtain ⟨⟨y⟩⟩:=b
  have h:x=y:=h
  rw [h]
 ·exact .inr (.inr h)
theorem Ph {a b:Str} (h:lt a b=true):a≠b:=fun e=>by rw [e,qU] at h;cases h
theorem not_lt_trans {a b c:Str} (h:lt b a=false) (g:lt c b=false):lt c a=false:=by
 rcases xP c a with e | e | e
 ·rcases xP b a with k | k | k
  ·rw [h] at k;cases k
  ·rw [k] at g;rw [g] at e;cases e
  ·rw [lt_trans e k] at g;cases g
 ·rw [e];exact qU a
 ·cases q:lt c a with
  | false=>rfl
  | true=>have:=lt_trans e q;rw [qU] at this;cases this
abbrev Ps:=List (Str×Int)
def jI:Ps→(Str→Int)→Int
 | [],_=>0
 | p::r,f=>p.2*f p.1+jI r f
theorem kG:∀ (a b:Ps) (f:Str→Int),jI (a++b) f=jI a f+jI b f
 | [],b,f=>by simp [jI]
 | p::a,b,f=>by simp only [List.cons_append,jI,kG a b f];omega
theorem Po {a b:Ps} (h:a.Perm b) (f:Str→Int):jI a f=jI b f:=by
 induction h with
 | nil=>rfl
 | cons x _ ih=>simp only [jI,ih]
 | swap x y l=>simp only [jI];omega
 | trans _ _ i j=>exact i.trans j
theorem Dq (k:Int):∀ (a:Ps) (f:Str→Int),jI (a.map fun p=>(p.1,p.2*k)) f=jI a f*k
 | [],f=>by simp [jI]
 | p::a,f=>by
  simp only [List.map_cons,jI,Dq k a f,Int.add_mul]
  rw [Int.mul_assoc,Int.mul_comm k,← Int.mul_assoc]
theorem Kq:∀ (a:Ps) (f:Str→Int),jI (a.map fun p=>(p.1,-p.2)) f=-jI a f
 | [],f=>by simp [jI]
 | p::a,f=>by
  simp only [List.map_cons,jI,Kq a f,Int.neg_mul];omega
theorem qV:∀ (a:Ps) (f:Str→Int),jI (a.filter fun p=>decide (p.2≠0)) f=jI a f
 | [],f=>rfl
 | p::a,f=>by
  by_cases h:p.2=0
  ·rw [List.filter_cons_of_neg (by simp [h]),qV a f,jI,h];simp
  ·rw [List.filter_cons_of_pos (by simp [h]),jI,jI,qV a f]
structure Canon (a:Ps):Prop where
 up:a.Pairwise fun p q=>lt p.1 q.1=true
 nz:∀ p∈a,p.2≠0
def ind (t:Str):Str→Int:=fun s=>if s=t then 1 else 0
theorem xQ {t:Str}:∀ {a:Ps},(∀ p∈a,p.1≠t)→jI a (ind t)=0
 | [],_=>rfl
 | p::a,h=>by
  have h1:p.1≠t:=h p (List.mem_cons_self ..)
  rw [jI,xQ (a:=a) fun q hq=>h q (List.mem_cons_of_mem _ hq)]
  simp [ind,h1]
theorem Canon.tail {p:Str×Int} {a:Ps} (c:Canon (p::a)):Canon a:=⟨(List.pairwise_cons.mp c.up).2,fun q hq=>c.nz q (List.mem_cons_of_mem _ hq)⟩
theorem Canon.head {p:Str×Int} {a:Ps} (c:Canon (p::a)):jI (p::a) (ind p.1)=p.2:=by
 rw [jI,xQ fun q hq=>(Ph ((List.pairwise_cons.mp c.up).1 q hq)).symm]
 simp [ind]
theorem Canon.low {t:Str} {p:Str×Int} {a:Ps} (c:Canon (p::a)) (h:lt t p.1=true):jI (p::a) (ind t)=0:=by
 refine xQ fun q hq=>?_
 rcases List.mem_cons.mp hq with rfl | hq
 ·exact (Ph h).symm
 ·exact (Ph (lt_trans h ((List.pairwise_cons.mp c.up).1 q hq))).symm
theorem Canon.same:∀ {a b:Ps},Canon a→Canon b→(∀ f,jI a f=jI b f)→a=b
 | [],[],_,_,_=>rfl
 | [],p::b,_,cb,h=>by
  have e:=h (ind p.1)
  rw [cb.head] at e
  exact absurd e.symm (cb.nz p (List.mem_cons_self ..))
 | p::a,[],ca,_,h=>by
  have e:=h (ind p.1)
  rw [ca.head] at e
  exact absurd e (ca.nz p (List.mem_cons_self ..))
 | p::a,q::b,ca,cb,h=>by
  rcases xP p.1 q.1 with g | g | g
  ·have e:=h (ind p.1)
   rw [ca.head,cb.low g] at e
   exact absurd e (ca.nz p (List.mem_cons_self ..))
  ·have e:=h (ind p.1)
   rw [ca.head,g,cb.head] at e
   have pq:p=q:=Prod.ext g e
   subst pq
   rw [Canon.same ca.tail cb.tail fun f=>by have:=h f;simp only [jI] at this;omega]
  ·have e:=h (ind q.1)
   rw [cb.head,ca.low g] at e
   exact absurd e.symm (cb.nz q (List.mem_cons_self ..))
def Gat (a b:Ps):Prop:=Canon b∧∀ f,jI b f=jI a f
theorem Canon.nil:Canon []:=⟨.nil,fun _ h=>nomatch h⟩
def get (d:Ps) (t:Str):Int:=((d.find? fun p=>decide (p.1=t)).map (·.2)).getD 0
def put (d:Ps) (t:Str) (n:Int):Ps:=if (d.any fun p=>decide (p.1=t))=true then d.map (fun p=>if p.1=t then (p.1,n) else p) else d++[(t,n)]
def keys (d:Ps):List Str:=d.map (·.1)
theorem mJ (p:Str×Int) (r:Ps) (t:Str):get (p::r) t=if p.1=t then p.2 else get r t:=by
 unfold get
 by_cases e:p.1=t
 ·simp [List.find?_cons,e]
 ·simp [List.find?_cons,e]
theorem wK (d:Ps) (t:Str):(d.any fun p=>decide (p.1=t))=true↔t∈keys d:=by
 unfold keys
 rw [List.any_eq_true,List.mem_map]
 constructor
 ·rintro ⟨p,h,e⟩;exact ⟨p,h,of_decide_eq_true e⟩
 ·rintro ⟨p,h,e⟩;exact ⟨p,h,decide_eq_true e⟩
theorem I9:∀ {d:Ps} {t:Str},t ∉ keys d→get d t=0
 | [],_,_=>rfl
 | p::r,t,h=>by
  have h':p.1≠t∧t ∉ keys r:=by
   constructor
   ·intro e;exact h (by unfold keys;rw [List.map_cons,e];exact List.mem_cons_self ..)
   ·intro e;exact h (List.mem_cons_of_mem _ e)
  rw [mJ,if_neg h'.1,I9 h'.2]
theorem DC (d:Ps) (t:Str) (n:Int):keys (put d t n)=if t∈keys d then keys d else keys d++[t]:=by
 unfold put
 by_cases h:t∈keys d
 ·rw [if_pos ((wK d t).mpr h),if_pos h]
  unfold keys
  rw [List.map_map]
  refine List.map_congr_left fun p _=>?_
  show (if p.1=t then (p.1,n) else p).1=p.1
  split <;> rfl
 ·rw [if_neg (fun e=>h ((wK d t).mp e)),if_neg h]
  unfold keys
  rw [List.map_append];rfl
theorem Lr {d:Ps} {t:Str} {n:Int} (h:(keys d).Nodup):(keys (put d t n)).Nodup:=by
 rw [DC]
 by_cases e:t∈keys d
 ·rw [if_pos e];exact h
 ·rw [if_neg e,List.nodup_append]
  refine ⟨h,by simp,fun x hx y hy=>?_⟩
  rw [List.mem_singleton] at hy
  rw [hy];rintro rfl;exact e hx
theorem TJ (d:Ps) (t:Str) (n:Int):(put d t n).length≤d.length+1:=by
 have h:(keys (put d t n)).length≤(keys d).length+1:=by
  rw [DC];split
  ·omega
  ·simp
 simpa [keys] using h
theorem Dr (t:Str) (n:Int) (f:Str→Int):∀ {d:Ps},(keys d).Nodup→t∈keys d→jI (d.map fun p=>if p.1=t then (p.1,n) else p) f=jI d f+(n - get d t)*f t
 | [],_,h=>by simp [keys] at h
 | p::r,nd,h=>by
  have nd':p.1 ∉ keys r∧(keys r).Nodup:=List.nodup_cons.mp nd
  rw [List.map_cons,jI,jI,mJ]
  by_cases e:p.1=t
  ·have hr:r.map (fun p=>if p.1=t then (p.1,n) else p)=r:=by
    refine (List.map_congr_left fun q hq=>?_).trans (List.map_id r)
    rw [if_neg];rfl
    intro z
    exact nd'.1 (by rw [e,← z];exact List.mem_map.mpr ⟨q,hq,rfl⟩)
   rw [hr,if_pos e,if_pos e,Int.sub_mul]
   show n*f p.1+_=_
   rw [e];omega
  ·have ht:t∈keys r:=(List.mem_cons.mp h).resolve_left fun z=>e z.symm
   rw [if_neg e,if_neg e,Dr t n f nd'.2 ht];omega
theorem TF {d:Ps} (t:Str) (n:Int) (f:Str→Int) (nd:(keys d).Nodup):jI (put d t n) f=jI d f+(n - get d t)*f t:=by
 unfold put
 by_cases h:t∈keys d
 ·rw [if_pos ((wK d t).mpr h),Dr t n f nd h]
 ·rw [if_neg (fun e=>h ((wK d t).mp e)),kG,I9 h];simp [jI]
def step (d:Ps) (p:Str×Int):Ps:=put d p.1 (get d p.1+p.2)
structure Tab (pre d:Ps):Prop where
 nd:(keys d).Nodup
 len:d.length≤pre.length
 jI:∀ f,jI d f=jI pre f
theorem Tab.nil:Tab [] []:=⟨.nil,Nat.le_refl _,fun _=>rfl⟩
theorem Tab.step {pre d:Ps} (h:Tab pre d) (p:Str×Int):Tab (pre++[p]) (step d p):=by
 refine ⟨Lr h.nd,?_,fun f=>?_⟩
 ·have:=TJ d p.1 (get d p.1+p.2);have:=h.len;simp;unfold Hw.step;omega
 ·unfold Hw.step
  rw [TF _ _ _ h.nd,kG,h.jI]
  simp only [Hw.jI]
  have:get d p.1+p.2 - get d p.1=p.2:=by omega
  rw [this];omega
theorem Ds:∀ {d:Ps} (f:Str→Int),(keys d).Nodup→jI ((keys d).map fun t=>(t,get d t)) f=jI d f
 | [],_,_=>rfl
 | p::r,f,nd=>by
  have nd':p.1 ∉ keys r∧(keys r).Nodup:=List.nodup_cons.mp nd
  show jI ((p.1,get (p::r) p.1)::(keys r).map fun t=>(t,get (p::r) t)) f=_
  have e:((keys r).map fun t=>(t,get (p::r) t))=(keys r).map fun t=>(t,get r t):=by
   refine List.map_congr_left fun t ht=>?_
   rw [mJ,if_neg (fun z=>nd'.1 (by rw [z];exact ht))]
  rw [e,jI,Ds f nd'.2,mJ,if_pos rfl,jI]
def outs (d:Ps) (ys:List Str):Ps:=(ys.map fun t=>(t,get d t)).filter fun p=>decide (p.2≠0)
theorem Tab.gat {pre d:Ps} {ys:List Str} (h:Tab pre d) (hp:ys.Perm (keys d)) (hs:ys.Pairwise fun a b=>lt b a=false):Gat pre (outs d ys):=by
 have nd:ys.Nodup:=hp.nodup_iff.mpr h.nd
 have up:ys.Pairwise fun a b=>lt a b=true:=by
  have:=hs.and nd
  refine this.imp fun {a b} q=>?_
  rcases xP a b with e | e | e
  ·exact e
  ·exact absurd e q.2
  ·rw [q.1] at e;cases e
 refine ⟨⟨?_,fun p hp=>?_⟩,fun f=>?_⟩
 ·unfold outs
  refine List.Pairwise.filter _ ?_
  rw [List.pairwise_map];exact up
 ·exact of_decide_eq_true (List.mem_filter.mp hp).2
 ·unfold outs
  rw [qV,Po (hp.map _),Ds f h.nd,h.jI]
end Hw
namespace L2
open PySem PySem.Spec PyProof.Rows
section
variable {X:Cx}
theorem CO:∀ (ns:List Int),PySem.preSum (fun i=>ns.getD i 0) ns.length=ns.sum:=by
 intro ns
 induction ns with
 | nil=>rfl
 | cons n r ih =>
  rw [List.length_cons,PySem.W.kdu_shift,List.sum_cons,← ih]
  rfl
theorem Rb (hc:X.calm=true):ia X (.builtin "sum") (fun xs H Q=>∃ (p:Addr) (ns:List Int),xs=[.ref p]∧bH X.K H p (ns.map V.int)∧Q (.int ns.sum) H):=by
 intro pins s σ H xs us Q I r h
 obtain ⟨p,ns,rfl,hq,q⟩:=h
 obtain ⟨u,rfl,ru⟩:=vals1 r
 cases ru
 obtain ⟨its,rv,pl,hz⟩:=I.list hq
 have hi:IntsAre its ns:=intsAre_of rv
 have lp:p < s.heap.objs.size:=let ⟨o,_,e,_⟩:=pl;Heap.lt_size e
 refine call_sum_walkAnyS (wpAny_pyIter_list pl.isList ?_)
 have W:=Walks.list (prog:=X.prog) (w:=X.w) (A:=X.A.in1) (I.ok.hd hc) s.heap.objs.size p (Nat.ne_of_lt lp) its.toArray
 refine ⟨s.heap.objs.size,_,_,_,_,_,_,(fun i=>ns.getD i 0),rfl,W.toS,⟨⟨_,Heap.get?_push_size _ rfl,rfl,rfl⟩,pl.isList.at fun o e=>Heap.get?_push_of_some _ e⟩,fun b hb=>?_,fun i v hv=>?_,fun s' t' hm=>?_⟩
 ·show b < (s.heap.push _).objs.size
  rw [Heap.size_push]
  rcases List.mem_cons.mp hb with e | hb
  ·rw [e];exact Nat.lt_succ_self _
  ·rw [List.mem_singleton.mp hb];exact Nat.lt_succ_of_lt lp
 ·have hv:its.toArray[i]?=some v:=hv
  have hv:its[i]?=some v:=by simpa using hv
  have hl:=rv.length
  have hil:i < its.length:=(List.getElem?_eq_some_iff.mp hv).1
  rw [List.length_map] at hl
  obtain ⟨u,hu,ru⟩:=rv.get (i:=i) (x:=.int (ns.getD i 0)) (by rw [List.getElem?_map,List.getD_eq_getElem?_getD,List.getElem?_eq_getElem (by omega)];rfl)
  rw [hv] at hu
  cases hu
  exact ru
 ·have kp:∀ b o,s.heap.get? b=some o→s'.heap.get? b=some o:=fun b o e =>
   hm.heap b o (fun hI=>absurd (Heap.lt_size e) (by rw [List.mem_singleton.mp hI];exact Nat.lt_irrefl _)) (Heap.get?_push_of_some _ e)
  rw [Moved.eq_with hm]
  have hl:=rv.length
  rw [List.length_map] at hl
  have e:PySem.preSum (fun i=>ns.getD i 0) its.toArray.size=ns.sum:=by rw [List.size_toArray,← hl];exact CO ns
  rw [e]
  exact ⟨.int ns.sum,H,I.kept (t':=s'.toks) kp,⟨_,rfl⟩,q⟩
theorem vg:∀ (p:Str) (l:List Str),risingS p l=true→(p::l).Pairwise fun a b=>Hw.lt b a=false
 | p,[],_=>by simp
 | p,x::r,h=>by
  have h:(!ltCps x.cps.toList p.cps.toList && risingS x r)=true:=h
  rw [Bool.and_eq_true,Bool.not_eq_true'] at h
  have ih:=vg x r h.2
  refine List.pairwise_cons.mpr ⟨fun y hy=>?_,ih⟩
  rcases List.mem_cons.mp hy with rfl | hy
  ·exact h.1
  ·exact Hw.not_lt_trans h.1 ((List.pairwise_cons.mp ih).1 y hy)
theorem rR:∀ (l:List Str),sortedS l=true→l.Pairwise fun a b=>Hw.lt b a=false
 | [],_=>.nil
 | x::r,h=>vg x r h
theorem qi:∀ {ss:List Str} {us:List Value},StrsAre us ss→Vals (ss.map V.str) us
 | _,_,.nil=>.nil
 | _,_,.cons x t h=>.cons ⟨t,rfl⟩ (qi h)
theorem lK:∀ {ss:List Str} {us:List Value},Vals (ss.map V.str) us→StrsAre us ss:=by
 intro ss
 induction ss with
 | nil=>intro us r;rw [List.map_nil] at r;cases r;exact .nil
 | cons x ss ih =>
  intro us r
  rw [List.map_cons] at r
  cases r with
  | cons r1 r2 =>
   obtain ⟨t,e⟩:=r1
   subst e
   exact .cons x t (ih r2)
theorem vc:∀ {xs:List V} {us:List Value},xs.length=us.length→(∀ (i:Nat) x,xs[i]?=some x→∃ u,us[i]?=some u∧RelV x u)→Vals xs us
 | [],[],_,_=>.nil
 | [],_::_,h,_=>by simp at h
 | _::_,[],h,_=>by simp at h
 | x::xs,u::us,h,g=>by
  obtain ⟨v,e,r⟩:=g 0 x rfl
  cases e
  exact .cons r (vc (by simpa using h) fun i y hy=>g (i+1) y hy)
theorem dJ.here {P:Program} {w:World} {H:Hp} {h:Heap} {a:Addr} {o:HO} (x:dJ P w H h a o):∃ u,h.get? a=some u:=by
 cases o with
 | lst xs=>obtain ⟨_,_,_,_,e⟩:=x;exact ⟨_,e⟩
 | tup xs=>obtain ⟨_,_,_,o,e,_⟩:=x;exact ⟨_,e⟩
 | dK kvs=>obtain ⟨_,_,_,_,o,_,_,e,_⟩:=x;exact ⟨_,e⟩
 | dT kvs=>obtain ⟨_,_,_,_,o,_,_,e,_⟩:=x;exact ⟨_,e⟩
 | set S n=>obtain ⟨o,_,_,_,e,_⟩:=x;exact ⟨_,e⟩
 | ins C dx fs=>obtain ⟨_,_,_,e,_⟩:=x;exact ⟨_,e⟩
 | own y=>obtain ⟨_,e⟩:=x;exact ⟨_,e⟩
 | xd fs=>obtain ⟨_,⟨_,_,_,e,_⟩,_⟩:=x;exact ⟨_,e⟩
 | rng lo hi=>obtain ⟨_,_,_,e⟩:=x;exact ⟨_,e⟩
 | Ja ob u=>obtain ⟨e,_⟩:=x;exact ⟨_,e⟩
 | U5 ps=>exact ⟨_,(show h.get? a=some _ from x)⟩
 | met f y=>exact ⟨_,(show h.get? a=some _ from x)⟩
 | ext φ=>obtain ⟨_,⟨_,e⟩,_⟩:=x;exact ⟨_,e⟩
theorem Inv.Dw {pins:List (Addr×Obj)} {σ:St} {H:Hp} {s:Shared} {h':Heap} {a:Addr} {o:HO} {t':Nat} (I:Inv X pins σ H s) (k:∀ b u,s.heap.get? b=some u→h'.get? b=some u) (hp:∀ b u,s.heap.get? b=some u→b≠a) (new:dJ X.prog X.w (upd H a o) h' a o) :
  H a=none∧Inv X pins σ (upd H a o) { s with heap:=h',toks:=t' }:=by
 have hn:H a=none:=by
  cases q:H a with
  | none=>rfl
  | some u=>obtain ⟨v,e⟩:=(I.hok a u q).here;exact absurd rfl (hp a v e)
 refine ⟨hn,I.un ⟨fun b u e _ _ _=>k b u e,fun b u e _ _ _=>⟨u.slots,k b u e⟩,fun b u e n _=>by rw [aL (hp b u e)];exact n,fun b u e _=>⟨u,k b u e⟩,fun b xs e=>by rw [aL (aq e hn)];exact e,fun b u xs e=>by rw [aL (aq e hn)];exact e,fun b ps e=>⟨#[],by rw [aL (aq e hn),e];simp⟩⟩ fun b u e=>?_⟩
 by_cases hb:b=a
 ·subst hb;rw [af] at e;cases e;exact new
 ·rw [aL hb] at e
  exact (I.hok b u e).stay (fun c v _ q=>k c v q) (fun c q=>by rw [aL (aq q hn)];exact q) fun c xs q=>by rw [aL (aq q hn)];exact q
theorem BU (hc:X.calm=true):ia X (.builtin "sorted") (fun xs H Q=>∃ p kvs ss,xs=[.ref p]∧H p=some (.dK kvs)∧kvs.map (·.1)=List.map (Sum.inr:Str→Key) ss∧kvs.length < 64 ∧
  ∀ l ys,H l=none→List.Perm ys ss→ys.Pairwise (fun a b=>Hw.lt b a=false)→Q (.ref l) (upd H l (.lst (ys.map V.str)))):=by
 intro pins s σ H xs us Q I r h
 obtain ⟨p,kvs,ss,rfl,hp,hk,h64,q⟩:=h
 obtain ⟨u,rfl,ru⟩:=vals1 r
 cases ru
 obtain ⟨hz,lo,vs,rel,dd⟩:=zT I.hok (.inl hp)
 obtain ⟨ep,hat⟩:=dd.dictAt
 have hlv:=rel.length
 refine Calls.call_function_entry kind_sorted plain_sorted entry_sorted (args_sorted1 _) ?_
 unfold Builtin.«sorted»
 refine wpAny_bind (m:=checkCount "sorted" 1 1 _) (wpAny_pure (wpAny_bind (PySem.W.kdu_collect (A:=X.A.in1) (PySem.W.kdl_dict (knd:=aQ X.prog X.w) (kvs:=vs) (ep:=ep) lo) (I.ok.hd hc) hat (by rw [← hlv];exact hz) fun h' tk acc kp hacc=>?_)))
 have hS:StrsAre acc.toList ss:=by
  refine lK (vc ?_ fun i x hx=>?_)
  ·have:(kvs.map (·.1)).length=(List.map (Sum.inr:Str→Key) ss).length:=by rw [hk]
   rw [List.length_map,List.length_map] at this
   have el:acc.toList.length=kvs.length:=by rw [Array.length_toList,hacc.1,← hlv]
   rw [List.length_map,el,this]
  ·rw [List.getElem?_map] at hx
   cases e:ss[i]? with
   | none=>rw [e] at hx;cases hx
   | some y =>
    rw [e] at hx
    cases hx
    have hi:i < acc.size:=by
     have h1:i < ss.length:=(List.getElem?_eq_some_iff.mp e).1
     have:(kvs.map (·.1)).length=(List.map (Sum.inr:Str→Key) ss).length:=by rw [hk]
     rw [List.length_map,List.length_map] at this
     rw [hacc.1];omega
    obtain ⟨k,x,hv,hkk⟩:=hacc.2 i acc[i] (by simp)
    have ek:(vs.map (·.1))[i]?=some (Sum.inr y):=by rw [← rel.keys,hk,List.getElem?_map,e];rfl
    rw [List.getElem?_map,hv] at ek
    have ek:k=Sum.inr y:=Option.some.inj ek
    subst ek
    rcases cZ (show xV (Sum.inr y) acc[i]=true from hkk) with ⟨_,_,z,_⟩ | ⟨z,t,z1,z2⟩
    ·cases z
    ·cases z1
     exact ⟨acc[i],by simp,t,z2⟩
 have hla:acc.toList.length < 64:=by rw [Array.length_toList,hacc.1,← hlv];exact h64
 refine wpAny_bind (wpAny_newList ?_ (by
   have:64≤sizeLine:=by rw [sizeLine_eq];decide
   omega))
 have ho:(h'.push (seqObj "list" acc.toList.toArray 0)).get? h'.objs.size=some (seqObj "list" acc.toList.toArray 0):=Heap.get?_push_size _ rfl
 refine wpAny_bind (wpAny_holding (wpAny_call_entry slot_list_sort ⟨_,ho,rfl⟩ entry_list_sort (list_sort_treeK (s:={ s with heap:=h'.push (seqObj "list" acc.toList.toArray 0),toks:=tk }) strKind_oneLt ho hS.keysOf (fun v1 v2 rest e=>keyKind_strs (by rw [← e];exact hS)) hla fun st' a1 a2=>⟨_,rfl,?_⟩) (args_list_sort _)))
 obtain ⟨ss',b1,b2,b3⟩:=sorted_out_str hS a1 a2
 obtain ⟨e,he⟩:=sortedHeap_at (out:=(arrOf st').map (·.2)) ho
 have hss:(ss'.map V.str).length≤sizeLine:=by
  have h1:64≤sizeLine:=by rw [sizeLine_eq];decide
  have h2:(ss'.map V.str).length=acc.toList.length:=by rw [List.length_map,b2.length_eq,← StrsAre.length hS]
  rw [h2]
  exact Nat.le_trans (Nat.le_of_lt hla) h1
 have L:=I.Dw (h':=sortedHeap (h'.push (seqObj "list" acc.toList.toArray 0)) h'.objs.size acc.toList ((arrOf st').map (·.2))) (a:=h'.objs.size) (o:=.lst (ss'.map V.str)) (t':=tk)
  (fun b u q=>by
   have l:=Heap.lt_size (kp b u q)
   rw [sortedHeap_old (Nat.ne_of_lt l) (by rw [Heap.size_push];exact Nat.lt_succ_of_lt l)]
   exact Heap.get?_push_of_some _ (kp b u q))
  (fun b u q=>Nat.ne_of_lt (Heap.lt_size (kp b u q)))
  ⟨hss,((arrOf st').map (·.2)).toList,e,qi b1,by rw [Array.toArray_toList];exact he⟩
 exact wpAny_pure ⟨_,rfl,.ref h'.objs.size,_,L.2,rfl,q _ ss' L.1 b2 (rR _ b3)⟩
def nZ (K:PySem.W.Frag) (H:Hp):Nat→V→V→Prop
 | 0,x,y=>x9 x=true∧x=y
 | n+1,x,y=>(x9 x=true∧x=y)∨∃ a b xs ys,x=.ref a∧y=.ref b∧((bH K H a xs∧bH K H b ys)∨(bG K H a xs∧bG K H b ys))∧Paired (nZ K H n) xs ys
theorem QN {x:V} (h:x9 x=true):eqV x x=true:=by
 cases x with
 | fP=>rfl
 | bl b=>simp [eqV]
 | int i=>simp [eqV]
 | str z=>simp [eqV]
 | _=>cases h
theorem CS {F:V→V→Prop}:∀ {xs ys:List V},Paired F xs ys→∀ {i:Nat} {x y:V},xs[i]?=some x→ys[i]?=some y→F x y
 | _,_,.nil,_,_,_,e,_=>by simp at e
 | _,_,.cons r t,0,_,_,e,e'=>by simp at e e';rw [← e,← e'];exact r
 | _,_,.cons r t,i+1,_,_,e,e'=>CS t (by simpa using e) (by simpa using e')
theorem nE {K:PySem.W.Frag} {n:Nat} {H:Hp} {A:Around} {s:Shared} {xs ys:List V} {us vs:List Value} (p:Paired (nZ K H n) xs ys) (r:Vals xs us) (r':Vals ys vs)
  (ih:∀ x y u v,RelV x u→RelV y v→nZ K H n x y→SeqAt.EqAt A s u v true):∀ (j:Nat) (h1:j < us.toArray.size) (h2:j < vs.toArray.size),SeqAt.EqAt A s us.toArray[j] vs.toArray[j] true:=by
 intro j h1 h2
 have l1:=r.length
 have l2:=r'.length
 simp only [List.size_toArray] at h1 h2
 have e1:xs[j]?=some xs[j]:=List.getElem?_eq_getElem (by omega)
 have e2:ys[j]?=some ys[j]:=List.getElem?_eq_getElem (by omega)
 obtain ⟨u,hu,ru⟩:=r.get e1
 obtain ⟨v,hv,rv⟩:=r'.get e2
 have hu':us.toArray[j]=u:=by
  rw [List.getElem?_eq_getElem h1] at hu;simpa using hu
 have hv':vs.toArray[j]=v:=by
  rw [List.getElem?_eq_getElem h2] at hv;simpa using hv
 rw [hu',hv']
 exact ih _ _ u v ru rv (CS p e1 e2)
theorem BZ (n:Nat):((List.range n).all fun _=>true)=true:=by rw [List.all_eq_true];intro _ _;rfl
theorem like_eq {pins:List (Addr×Obj)} {σ:St} {H:Hp} {s:Shared} (I:Inv X pins σ H s):∀ (n:Nat) (A:Around),A.units+n < cLine→∀ x y u v,RelV x u→RelV y v→nZ X.K H n x y→SeqAt.EqAt A s u v true:=by
 intro n
 have flat:∀ (A:Around) (x y:V) (u v:Value),RelV x u→RelV y v→x9 x=true∧x=y→SeqAt.EqAt A s u v true:=by
  rintro A x y u v ru rv ⟨f,rfl⟩
  have:=a0j (A:=A) (s:=s) ru rv f f
  rw [QN f] at this
  exact this
 induction n with
 | zero=>intro A hu x y u v ru rv h;exact flat A x y u v ru rv h
 | succ n ih =>
  intro A hu x y u v ru rv h
  rcases h with h | ⟨a,b,xs,ys,rfl,rfl,h,p⟩
  ·exact flat A x y u v ru rv h
  ·cases ru
   cases rv
   have ih':=ih A.in1 (by show A.units+1+n < cLine;omega)
   by_cases hab:a=b
   ·subst hab;exact SeqAt.EqAt.same _
   ·refine .of_refs hab ?_
    have lp:xs.length=ys.length:=Paired.length p
    rcases h with ⟨ha,hb⟩ | ⟨ha,hb⟩
    ·obtain ⟨us,r1,p1,_⟩:=I.list ha
     obtain ⟨vs,r2,p2,_⟩:=I.list hb
     have l1:=r1.length
     have l2:=r2.length
     have:=SeqAt.RcAt.lists (A:=A) (e:=fun _=>true) p1.isList p2.isList (by simp only [List.size_toArray];omega) (by omega) (nE p r1 r2 ih')
     rw [BZ] at this
     exact this
    ·obtain ⟨us,r1,p1,_⟩:=I.tuple ha
     obtain ⟨vs,r2,p2,_⟩:=I.tuple hb
     have l1:=r1.length
     have l2:=r2.length
     have:=SeqAt.RcAt.tuples (A:=A) (e:=fun _=>true) (show s.heap.IsTuple a us.toArray from p1) (show s.heap.IsTuple b vs.toArray from p2) (by omega) (nE p r1 r2 ih')
     have e:(us.toArray.size == vs.toArray.size)=true:=by simp only [List.size_toArray,beq_iff_eq];omega
     rw [BZ,e] at this
     exact this
def a1J (K:PySem.W.Frag) (n:Nat) (k:Bool):R2:=fun x y H Q=>∃ a b xs ys,x=.ref a∧y=.ref b∧((bH K H a xs∧bH K H b ys)∨(bG K H a xs∧bG K H b ys))∧Paired (nZ K H n) xs ys∧Q (.bl k) H
theorem Yz (n:Nat) (hu:X.A.units+1+n < cLine):yO X (compareOp .Eq) (a1J X.K n true):=by
 intro pins s σ H x y v u Q I rx ry h
 obtain ⟨a,b,xs,ys,rfl,rfl,h,p,q⟩:=h
 cases rx
 cases ry
 have ih':=like_eq I n X.A.in1 (by show X.A.units+1+n < cLine;omega)
 have lp:xs.length=ys.length:=Paired.length p
 have fin:EP X pins σ Q (.bool true) s:=⟨.bl true,H,I,rfl,q⟩
 rcases h with ⟨ha,hb⟩ | ⟨ha,hb⟩
 ·obtain ⟨us,r1,p1,_⟩:=I.list ha
  obtain ⟨vs,r2,p2,_⟩:=I.list hb
  have l1:=r1.length
  have l2:=r2.length
  exact SeqAt.eq_listAt (e:=fun _=>true) p1.isList p2.isList (by simp only [List.size_toArray];omega) (by omega) (nE p r1 r2 ih') (by rw [BZ];exact fin)
 ·obtain ⟨us,r1,p1,_⟩:=I.tuple ha
  obtain ⟨vs,r2,p2,_⟩:=I.tuple hb
  have l1:=r1.length
  have l2:=r2.length
  have e:(us.toArray.size == vs.toArray.size)=true:=by simp only [List.size_toArray,beq_iff_eq];omega
  exact SeqAt.eq_tupleAt (e:=fun _=>true) (show s.heap.IsTuple a us.toArray from p1) (show s.heap.IsTuple b vs.toArray from p2) (by omega) (nE p r1 r2 ih') (by rw [BZ,e];exact fin)
def rJoin:V→List V→Hp→VK→Prop:=fun x vs H Q=>∃ sep p ss,x=.str sep∧vs=[.ref p]∧H p=some (.lst (List.map V.str ss))∧(ss.map (·.length)).sum+ss.length*sep.length≤16777216∧Q (.str (Txt.join sep ss)) H
theorem Tu:MtR X "str.join" rJoin:=by
 intro pins s σ H x vs v us Q I rx rv h
 obtain ⟨sep,p,ss,rfl,rfl,hp,hz,q⟩:=h
 obtain ⟨t,rfl⟩:=rx
 obtain ⟨u,rfl,ru⟩:=rv.one
 cases ru
 obtain ⟨its,r,pl,_⟩:=I.list (bH.of hp)
 exact join_list pl.isList (by simpa using lK r) hz fun t' k=>⟨.str _,H,I.tok _,⟨_,rfl⟩,q⟩
def TV (xs:List V) (k:Nat) (y:V):List V:=xs.take k++[y]++xs.drop k
def Sw:V→List V→Hp→VK→Prop:=fun x vs H Q=>∃ (l:Addr) (xs:List V) (i:Int) (k:Nat) (y:V),x=.ref l∧vs=[.int i,y]∧i=k∧H l=some (.lst xs)∧k≤xs.length∧xs.length < sizeLine∧Q .fP (upd H l (.lst (TV xs k y)))
theorem Lu:MtM X "list.insert" Sw:=by
 intro pins s σ H x vs v us Q I rx rv h
 obtain ⟨l,xs,i,k,y,rfl,rfl,hik,hH,hk,hz,q⟩:=h
 cases rx
 obtain ⟨u,w',rfl,⟨t,rfl⟩,ru⟩:=rv.two
 obtain ⟨z,its,n,r,hl,e⟩:=I.IQ hH
 have hn:=oW
 have fit:¬ (!Builtin.List.listFitsIndex i)=true:=by
  rw [fitsIndex_of (by omega) (by omega)]
  decide
 have hsz:its.toArray.size≤sizeLine:=by rw [List.size_toArray];omega
 refine call_meets F.slot_list_insert ⟨_,e,rfl⟩ F.entry_list_insert (F.args_list_insert_3 _ _ _) (PySem.AutoSeq1.list_insert_list_int_val_1 l its.toArray n i t w' fit hsz) ⟨e,?_⟩
 refine ⟨.fP,_,I.Tz (its':=its.take k++[w']++its.drop k) hH e ?_ (((r.take k).append (.cons ru .nil)).append (r.drop k)) ?_,rfl,q⟩
 ·have e1:¬ i < 0:=by omega
  have e2:min i.toNat its.length=k:=by omega
  simp only [List.size_toArray,e1,if_false,e2]
  apply Array.ext'
  simp only [Array.toList_append,Array.toList_push,Array.toList_extract,List.extract_eq_take_drop]
  rw [List.take_of_length_le (l:=List.drop k its) (by rw [List.length_drop];simp)]
  simp
 ·simp only [List.length_append,List.length_take,List.length_drop,List.length_singleton]
  omega
def b1c (K:PySem.W.Frag) (c:V):List V→Hp→VK→Prop:=fun vs H Q=>∃ x t u b,vs=[x,c]∧tT K H x t∧RelV c u∧PySem.W.kitOne K t u=some b∧Q (.bl b) H
theorem RelV.b8d {c:V} {u u':Value} (hc:match c with | .ref _=>True | .ty _=>True | _=>False) (r:RelV c u) (r':RelV c u'):u=u':=by
 cases c with
 | ref a=>cases r;cases r';rfl
 | ty n=>cases r;cases r';rfl
 | _=>exact hc.elim
theorem fK {c:V} (hc:match c with | .ref _=>True | .ty _=>True | _=>False):ia X (.builtin "isinstance") (b1c X.K c):=by
 intro pins s σ H xs us Q I r h
 obtain ⟨x,t,u,b,rfl,ty,rc,hb,q⟩:=h
 obtain ⟨w1,w2,rfl,rx,r2⟩:=vals2 r
 rw [RelV.b8d hc r2 rc]
 exact LA I rx ty hb fun tk=>⟨.bl b,H,I.tok _,rfl,q⟩
def NW (K:PySem.W.Frag):R2:=fun x y H Q=>∃ a b xs ys,x=.ref a∧y=.ref b∧bG K H a xs∧bG K H b ys∧xs.length+ys.length≤sizeLine ∧
 (xs=[]→Q (.ref b) H)∧(xs≠[]→ys=[]→Q (.ref a) H)∧(xs≠[]→ys≠[]→∀ p,H p=none→Q (.ref p) (upd H p (.tup (xs++ys))))
theorem bD:yO X (binaryOp .Add) (NW X.K):=by
 intro pins s σ H x y v u Q I rx ry h
 obtain ⟨a,b,xs,ys,rfl,rfl,ha,hb,hz,q0,q1,q2⟩:=h
 by_cases hx:xs=[]
 ·cases rx
  cases ry
  obtain ⟨its,r1,p1,_⟩:=I.tuple ha
  obtain ⟨its2,r2,p2,_⟩:=I.tuple hb
  obtain ⟨⟨cls,dd,data,sl⟩,ho,hc,n,hd⟩:=id p1
  obtain ⟨⟨c3t,dd2,data2,sl2⟩,ho2,hc2,n2,hd2⟩:=id p2
  simp only at hc hd hc2 hd2
  subst hc hd hc2 hd2
  have hi:its=[]:=r1.wD.mpr hx
  refine concat_meets ⟨_,ho,rfl⟩ ⟨_,ho2,rfl⟩ noFill_tuple_add seq_tuple_add PySem.F.slot_tuple_add PySem.F.entry_tuple_add (PySem.F.args_tuple_add_2 _ _)
   (tuple_addW0 a b its.toArray its2.toArray n n2 dd dd2 sl sl2 (by simp [hi])) ⟨ho,ho2,?_⟩
  exact ⟨.ref b,H,I,rfl,q0 hx⟩
 ·exact SO pins s σ H _ _ v u Q I rx ry ⟨a,b,xs,ys,rfl,rfl,ha,hb,hx,hz,q1 hx,fun hy=>q2 hx hy⟩
def b1a (K:PySem.W.Frag):R2:=fun x y H Q=>∃ p xs k v,x=.ref p∧y=.int (k:Nat)∧bH K H p xs∧xs[k]?=some v∧Q v H
theorem Qx:a5v X (b1a X.K):=by
 intro pins s σ H o i ov iv Q I ro ri h
 obtain ⟨p,xs,k,v,rfl,rfl,hq,he,q⟩:=h
 cases ro
 obtain ⟨t,rfl⟩:=ri
 obtain ⟨its,r,pl,hz⟩:=I.list hq
 obtain ⟨w,ew,rw'⟩:=r.get he
 have hk:k < xs.length:=(List.getElem?_eq_some_iff.mp he).1
 have hn:=oW
 exact wpAny_getItem_list pl.isList (by omega) (by omega) (by simpa using ew) ⟨v,H,I,rw',q⟩
end
end L2
namespace Hw
open PySem L2
theorem new {H:Hp} {p:Addr} {o:HO} (h:H p=none):aK H (upd H p o):=fun b u e=>by rw [aL (aq e h)];exact e
def aR (d:Addr) (H H':Hp):Prop:=∀ b o,H b=some o→b≠d→H' b=some o
theorem aR.of {d:Addr} {H H':Hp} (h:aK H H'):aR d H H':=fun b o e _=>h b o e
theorem aR.trans {d:Addr} {H H1 H2:Hp} (a:aR d H H1) (b:aR d H1 H2):aR d H H2:=fun c o e n=>b c o (a c o e n) n
theorem aR.upd {d:Addr} {H:Hp} {o:HO}:aR d H (L2.upd H d o):=fun b u e n=>by rw [aL n];exact e
theorem aR.new {d:Addr} {H H1:Hp} {p:Addr} {o:HO} (a:aR d H H1) (h:H1 p=none):aR d H (L2.upd H1 p o):=fun b u e n=>Hw.new h b u (a b u e n)
theorem aK.new {H H1:Hp} {p:Addr} {o:HO} (a:aK H H1) (h:H1 p=none):aK H (L2.upd H1 p o):=a.trans (Hw.new h)
def Pr (H:Hp) (v:V) (p:Str×Int):Prop:=∃ a,v=.ref a∧H a=some (.tup [.str p.1,.int p.2])
abbrev Ek (H:Hp):List V→Ps→Prop:=Paired (Pr H)
theorem Pr.keep {H H':Hp} {v:V} {p:Str×Int} (h:∀ a xs,H a=some (.tup xs)→H' a=some (.tup xs)) (x:Pr H v p):Pr H' v p:=let ⟨a,e,q⟩:=x;⟨a,e,h _ _ q⟩
theorem Ek.keep {H H':Hp} {vs:List V} {ps:Ps} (h:∀ a xs,H a=some (.tup xs)→H' a=some (.tup xs)) (x:Ek H vs ps):Ek H' vs ps:=L2.Paired.lT x fun _ _ q=>q.keep h
def Lp (H:Hp) (a:Addr) (ps:Ps):Prop:=∃ vs,H a=some (.lst vs)∧Ek H vs ps
def Tp (H:Hp) (a:Addr) (ps:Ps):Prop:=∃ vs,H a=some (.tup vs)∧Ek H vs ps
theorem Lp.same {H H':Hp} {a:Addr} {ps:Ps} (h:Lp H a ps) (s:aK H H'):Lp H' a ps:=let ⟨vs,e,q⟩:=h;⟨vs,s _ _ e,q.keep fun _ _ z=>s _ _ z⟩
theorem Tp.same {H H':Hp} {a:Addr} {ps:Ps} (h:Tp H a ps) (s:aK H H'):Tp H' a ps:=let ⟨vs,e,q⟩:=h;⟨vs,s _ _ e,q.keep fun _ _ z=>s _ _ z⟩
theorem NY {H:Hp}:∀ {vs:List V} {ps:Ps},Ek H vs ps→∀ {i:Nat} {v:V},vs[i]?=some v→∃ p,ps[i]?=some p∧Pr H v p
 | _,_,.nil,_,_,e=>by simp at e
 | _,_,.cons r t,0,_,e=>by simp at e;subst e;exact ⟨_,rfl,r⟩
 | _,_,.cons r t,i+1,_,e=>NY t (i:=i) (by simpa using e)
theorem jN {H:Hp} {vs:List V} {ps:Ps} (h:Ek H vs ps):vs.length=ps.length:=Paired.length h
theorem rX {H:Hp}:∀ {vs ws:List V} {ps qs:Ps},Ek H vs ps→Ek H ws qs→Ek H (vs++ws) (ps++qs)
 | _,_,_,_,.nil,s=>s
 | _,_,_,_,.cons r t,s=>.cons r (rX t s)
theorem AD {H:Hp} {v:V} {p:Str×Int} (h:Pr H v p):Ek H [v] [p]:=.cons h .nil
theorem CN {K:PySem.W.Frag} {H:Hp}:∀ {vs ws:List V} {ps:Ps},Ek H vs ps→Ek H ws ps→Paired (nZ K H 1) vs ws
 | _,_,_,.nil,.nil=>.nil
 | _,_,_,.cons ⟨a,ea,ha⟩ t,.cons ⟨b,eb,hb⟩ t'=>.cons (.inr ⟨a,b,_,_,ea,eb,.inr ⟨bG.of ha,bG.of hb⟩,.cons ⟨rfl,rfl⟩ (.cons ⟨rfl,rfl⟩ .nil)⟩) (CN t t')
def enc (d:Ps):List (Key×V):=d.map fun p=>(Sum.inr p.1,V.int p.2)
theorem QT (d:Ps):(enc d).map (·.1)=List.map (Sum.inr:Str→Key) (keys d):=by
 unfold enc keys
 rw [List.map_map,List.map_map];rfl
theorem KO (d:Ps):(enc d).length=d.length:=List.length_map ..
theorem BI (t:Str):∀ d:Ps,oB (enc d) (Sum.inr t)=if t∈keys d then some (V.int (get d t)) else none
 | []=>by simp [enc,oB,keys]
 | p::r=>by
  have ih:=BI t r
  show oB ((Sum.inr p.1,V.int p.2)::enc r) (Sum.inr t)=_
  by_cases e:p.1=t
  ·rw [rM (by simp [e]),mJ,if_pos e,if_pos (by simp [keys,e])]
  ·have e':¬ t=p.1:=fun z=>e z.symm
   have hk:t∈keys (p::r)↔t∈keys r:=by
    unfold keys
    rw [List.map_cons,List.mem_cons]
    exact ⟨fun h=>h.resolve_left e',.inr⟩
   rw [rN (by simpa using e),ih,mJ,if_neg e]
   simp only [hk]
theorem QU (d:Ps) (t:Str):(oB (enc d) (Sum.inr t)).getD (V.int 0)=V.int (get d t):=by
 rw [BI]
 by_cases h:t∈keys d
 ·rw [if_pos h];rfl
 ·rw [if_neg h,I9 h];rfl
theorem Uo (d:Ps) (t:Str):((enc d).any fun kv=>decide (kv.1=(Sum.inr t:Key)))=d.any fun p=>decide (p.1=t):=by
 unfold enc
 rw [List.any_map]
 congr 1
 funext p
 simp
theorem Um (d:Ps) (t:Str) (n:Int):putK (enc d) (Sum.inr t) (V.int n)=enc (put d t n):=by
 unfold putK put
 rw [Uo]
 split
 ·unfold enc
  rw [List.map_map,List.map_map]
  refine List.map_congr_left fun p _=>?_
  by_cases e:p.1=t
  ·simp [e]
  ·simp [e]
 ·unfold enc
  rw [List.map_append];rfl
def vd (t:Addr) (n:Int):List (Str×V):=aP "number" (.int n) (aP "terms" (.ref t) [])
theorem nt:¬ (("number":Str)="terms"):=by decide +kernel
theorem tn:¬ (("terms":Str)="number"):=by decide +kernel
theorem gT (t:Addr) (n:Int):(vd t n).lookup ("terms":Str)=some (.ref t):=by
 unfold vd
 rw [bz,if_neg tn,bz,if_pos rfl]
theorem cC (t:Addr) (n:Int):(vd t n).lookup ("number":Str)=some (.int n):=by
 unfold vd
 rw [bz,if_pos rfl]
theorem cW (t:Addr) (n:Int) {m:Str} (h1:¬ m="terms") (h2:¬ m="number"):(vd t n).lookup m=none:=by
 unfold vd
 rw [bz,if_neg h2,bz,if_neg h1]
 all_goals rfl
def bL (C:Addr) (H:Hp) (p:Addr) (ts:Ps) (n:Int):Prop:=∃ dx t,H p=some (.ins C dx (vd t n))∧Tp H t ts∧ts.length≤1000
theorem bL.same {C:Addr} {H H':Hp} {p:Addr} {ts:Ps} {n:Int} (h:bL C H p ts n) (s:aK H H'):bL C H' p ts n:=let ⟨dx,t,e,q,z⟩:=h;⟨dx,t,s _ _ e,q.same s,z⟩
end Hw
namespace Hw
open PySem L2
def Dn (P:Program) (w:World) (K:PySem.W.Frag) (mg:Str→Option Value) (base:Heap) (k:Nat) (x:Str) (ps:List Str) (sp:Sp):Prop :=
 ∃ (f:Addr) (fd:FuncData),aM P w K mg base bP k f fd ps sp∧mg x=some (.ref f)∧PySem.W.keepIn K (.ref f)=true∧Binds K fd ps []
def Mt (P:Program) (w:World) (K:PySem.W.Frag) (mg:Str→Option Value) (base:Heap) (k:Nat) (C:Addr) (m:Str) (ps:List Str) (sp:Sp):Prop :=
 ∃ (f:Addr) (fd:FuncData),aM P w K mg base bP k f fd ps sp∧Meth K C m f∧Binds K fd ps []
def Mr (P:Program) (w:World) (K:PySem.W.Frag) (mg:Str→Option Value) (base:Heap) (k:Nat) (C:Addr) (ps:List Str) (sp:Sp):Prop :=
 ∃ (f:Addr) (fd:FuncData),aM P w K mg base bP k f fd ps sp∧Mk K C f∧Binds K fd ps []
structure Txt (K:PySem.W.Frag) (mg:Str→Option Value) (C:Addr):Prop where
 cl:wL K C
 nT:cu K C "terms"
 nN:cu K C "number"
 qT:mg "Sum"=some (.ref C)
 len:mg "len"=none
 sum:mg "sum"=none
 sorted:mg "sorted"=none
 list:mg "list"=none
 tuple:mg "tuple"=none
 isinstance:mg "isinstance"=none
 range:mg "range"=none
 abs:mg "abs"=none
 str:mg "str"=none
 int:mg "int"=none
 dict:mg "dict"=none
 ca:PySem.W.findIn K (.ref C) "__class__"=some (some (.builtin "object.__class__"))
 cg:PySem.W.specialIn K (.builtin "object.__class__") "__get__"=some (some (.builtin "getset_descriptor.__get__"))
 ct:PySem.W.takesIn K (.builtin "object.__class__")=some true
 cm:PySem.W.mroIn K C (.type "object")=some true
 kS:PySem.W.kitOne K (.ref C) (.ref C)=some true
 kT:PySem.W.kitOne K (.type "tuple") (.type "tuple")=some true
def Sq (H:Hp) (a:Addr) (ps:Ps):Prop:=Lp H a ps∨Tp H a ps
theorem Sq.same {H H':Hp} {a:Addr} {ps:Ps} (h:Sq H a ps) (s:aK H H'):Sq H' a ps:=h.elim (fun z=>.inl (z.same s)) fun z=>.inr (z.same s)
def mX (C:Addr):Sp:=fun vs H Q _=>∃ (p dx l:Addr) (n:Int) (ps:Ps),vs=[.ref p,.ref l,.int n]∧H p=some (.ins C dx [])∧Sq H l ps∧ps.length≤1000 ∧
 ∀ H',aR p H H'→bL C H' p ps n→Q .fP H'
def pN (C:Addr):Sp:=fun vs H Q _=>∃ (a:Addr) (n:Int) (ps:Ps),vs=[.ref a,.int n]∧Sq H a ps∧ps.length < 64 ∧
 ∀ (r:Addr) (ts:Ps) (H':Hp),aK H H'→Gat ps ts→ts.length≤ps.length→bL C H' r ts n→Q (.ref r) H'
def ig (C:Addr):Sp:=fun vs H Q _=>∃ (p:Addr) (ts:Ps) (n:Int),vs=[.ref p]∧bL C H p ts n ∧
 ∀ (r:Addr) (H':Hp),aK H H'→H' r=some (.tup ((keys ts).map V.str))→Q (.ref r) H'
def Al (C:Addr):Sp:=fun vs H Q _=>∃ (p q:Addr) (a b:Ps) (n m:Int),vs=[.ref p,.ref q]∧bL C H p a n∧bL C H q b m∧a.length+b.length < 64 ∧
 ∀ (r:Addr) (ts:Ps) (H':Hp),aK H H'→Gat (a++b) ts→ts.length≤a.length+b.length→bL C H' r ts (n+m)→Q (.ref r) H'
def wc (C:Addr):Sp:=fun vs H Q _=>∃ (p:Addr) (a:Ps) (n k:Int),vs=[.ref p,.int k]∧bL C H p a n∧a.length < 64∧(-(2 ^ 64) < k∧k < 2 ^ 64) ∧
 ∀ (r:Addr) (ts:Ps) (H':Hp),aK H H'→Gat (a.map fun p=>(p.1,p.2*k)) ts→ts.length≤a.length→bL C H' r ts (n*k)→Q (.ref r) H'
def HQ (C:Addr):Sp:=fun vs H Q _=>∃ (p q:Addr) (a b:Ps) (n m:Int),vs=[.ref p,.ref q]∧bL C H p a n∧bL C H q b m∧a.length+b.length < 64 ∧
 ∀ (r:Addr) (ts:Ps) (H':Hp),aK H H'→Gat (a++b.map fun p=>(p.1,-p.2)) ts→ts.length≤a.length+b.length→bL C H' r ts (n - m)→Q (.ref r) H'
end Hw
namespace Hw
open PySem L2
structure Kp (H H':Hp):Prop where
 l:∀ b xs,H b=some (.lst xs)→H' b=some (.lst xs)
 t:∀ b xs,H b=some (.tup xs)→H' b=some (.tup xs)
theorem Kp.refl {H:Hp}:Kp H H:=⟨fun _ _ h=>h,fun _ _ h=>h⟩
theorem Kp.of {H H':Hp} (s:aK H H'):Kp H H':=⟨fun _ _ h=>s _ _ h,fun _ _ h=>s _ _ h⟩
theorem Kp.but {d:Addr} {H H':Hp} (s:aR d H H') (hl:∀ xs,H d≠some (.lst xs)) (ht:∀ xs,H d≠some (.tup xs)):Kp H H' :=
 ⟨fun b xs h=>s b _ h fun z=>hl xs (z ▸ h),fun b xs h=>s b _ h fun z=>ht xs (z ▸ h)⟩
theorem take_snoc {α:Type} {l:List α} {i:Nat} {x:α} (h:l[i]?=some x):l.take (i+1)=l.take i++[x]:=by
 rw [List.take_add_one,h];rfl
theorem get_some {H:Hp} {vs:List V} {ps:Ps} (r:Ek H vs ps) {i:Nat} {v:V} (h:vs[i]?=some v):∃ p,ps[i]?=some p∧Pr H v p:=NY r h
theorem BQ {K:PySem.W.Frag} {a:Addr} {ps:Ps} {g:TG} {tt:TT} {te:TE} {σ0:St} {H:Hp} {R:List V→Hp→Prop} (h:Tp H a ps) (Pv:Nat→List V→Hp→Prop) (h0:Pv 0 [] H) (hS:∀ i ys H',Pv i ys H'→Kp H H')
  (hs:∀ i v p ys H',ps[i]?=some p→Pr H' v p→Pv i ys H'→g v σ0 H' fun σ2 H2=>Ext σ0 σ2∧tt σ2 H2 fun b H3=>if b=true then te σ2 H3 fun v H4=>ys.length < sizeLine∧Pv (i+1) (ys++[v]) H4 else Pv (i+1) ys H3)
  (hd:∀ ys H',Pv ps.length ys H'→R ys H'):(∃ xs,bG K H a xs)∧∃ W:Nat→Nat→List V→Hp→Prop,(∃ m,W 0 m [] H)∧vD (Rm K a) g tt te σ0 W R:=by
 obtain ⟨vs,e,r⟩:=h
 refine ⟨⟨vs,bG.of e⟩,mP (xs:=vs) Pv h0 (fun i ys H' _ p=>bG.of ((hS i ys H' p).t _ _ e)) (fun i v ys H' hi p=>?_) ?_⟩
 ·obtain ⟨q,hq,pr⟩:=get_some r hi
  exact hs i v q ys H' hq (pr.keep (hS i ys H' p).t) p
 ·rw [jN r];exact hd
theorem Uv {K:PySem.W.Frag} {a:Addr} {ps:Ps} {g:TG} {tt:TT} {te:TE} {σ0:St} {H:Hp} {R:List V→Hp→Prop} (h:Sq H a ps) (Pv:Nat→List V→Hp→Prop) (h0:Pv 0 [] H) (hS:∀ i ys H',Pv i ys H'→Kp H H')
  (hs:∀ i v p ys H',ps[i]?=some p→Pr H' v p→Pv i ys H'→g v σ0 H' fun σ2 H2=>Ext σ0 σ2∧tt σ2 H2 fun b H3=>if b=true then te σ2 H3 fun v H4=>ys.length < sizeLine∧Pv (i+1) (ys++[v]) H4 else Pv (i+1) ys H3)
  (hd:∀ ys H',Pv ps.length ys H'→R ys H'):((∃ xs,bH K H a xs)∧∃ W:Nat→Nat→List V→Hp→Prop,(∃ m,W 0 m [] H)∧vD (RJ K a) g tt te σ0 W R)∨((∃ xs,bG K H a xs)∧∃ W:Nat→Nat→List V→Hp→Prop,(∃ m,W 0 m [] H)∧vD (Rm K a) g tt te σ0 W R):=by
 rcases h with h | h
 ·obtain ⟨vs,e,r⟩:=h
  refine .inl ⟨⟨vs,bH.of e⟩,pW (xs:=vs) Pv h0 (fun i ys H' _ p=>bH.of ((hS i ys H' p).l _ _ e)) (fun i v ys H' hi p=>?_) ?_⟩
  ·obtain ⟨q,hq,pr⟩:=get_some r hi
   exact hs i v q ys H' hq (pr.keep (hS i ys H' p).t) p
  ·rw [jN r];exact hd
 ·exact .inr (BQ h Pv h0 hS hs hd)
abbrev UX (J:It) (g:TG) (tb:TS) (D:Ends) (σ:St) (H:Hp):Prop:=∃ W:Nat→Nat→St→Hp→Prop,(∃ m,W 0 m σ H)∧∀ i m σ H,W i m σ H →
 (J.stop i H∧D.nx σ H)∨(J.go i H∧∃ N:St→Hp→Prop,(∀ σ' H',N σ' H'→∃ m',m' < m∧W (i+1) m' σ' H')∧∀ x H',J.U3 i H x H'→g x σ H' fun σ2 H2=>tb { D with nx:=N,ct:=N,bk:=D.nx } σ2 H2)
theorem Z0 {K:PySem.W.Frag} {a:Addr} {ps:Ps} {g:TG} {tb:TS} {D:Ends} {σ:St} {H:Hp} (h:Sq H a ps) (Pv:Nat→St→Hp→Prop) (h0:Pv 0 σ H) (hS:∀ i σ H',Pv i σ H'→Kp H H')
  (hs:∀ i v p σ H',ps[i]?=some p→Pr H' v p→Pv i σ H'→g v σ H' fun σ2 H2=>tb { D with nx:=Pv (i+1),ct:=Pv (i+1),bk:=D.nx } σ2 H2) (hd:∀ σ H',Pv ps.length σ H'→D.nx σ H') :
  ((∃ xs,bH K H a xs)∧UX (RJ K a) g tb D σ H)∨((∃ xs,bG K H a xs)∧UX (Rm K a) g tb D σ H):=by
 rcases h with ⟨vs,e,r⟩ | ⟨vs,e,r⟩
 ·refine .inl ⟨⟨vs,bH.of e⟩,fJ (xs:=vs) Pv h0 (fun i σ H' _ p=>bH.of ((hS i σ H' p).l _ _ e)) (fun i v σ H' hi p=>?_) ?_⟩
  ·obtain ⟨q,hq,pr⟩:=get_some r hi
   exact hs i v q σ H' hq (pr.keep (hS i σ H' p).t) p
  ·rw [jN r];exact hd
 ·refine .inr ⟨⟨vs,bG.of e⟩,jQ (xs:=vs) Pv h0 (fun i σ H' _ p=>bG.of ((hS i σ H' p).t _ _ e)) (fun i v σ H' hi p=>?_) ?_⟩
  ·obtain ⟨q,hq,pr⟩:=get_some r hi
   exact hs i v q σ H' hq (pr.keep (hS i σ H' p).t) p
  ·rw [jN r];exact hd
theorem line (n:Nat) (h:n≤100000):n < sizeLine:=by rw [sizeLine_eq];omega
theorem szl (n:Nat) (h:n≤100000:=by decide):n≤sizeLine:=Nat.le_of_lt (line n h)
theorem JV {H:Hp} {d:Addr} {x y:HO}:upd (upd H d x) d y=upd H d y:=by
 funext b
 by_cases e:b=d
 ·subst e;rw [af,af]
 ·rw [aL e,aL e,aL e]
theorem Kp.dict {H:Hp} {d:Addr} {x y:List (Key×V)}:Kp (upd H d (.dK x)) (upd H d (.dK y)):=by
 constructor
 ·intro b xs h
  by_cases e:b=d
  ·subst e;rw [af] at h;cases h
  ·rw [aL e] at h ⊢;exact h
 ·intro b xs h
  by_cases e:b=d
  ·subst e;rw [af] at h;cases h
  ·rw [aL e] at h ⊢;exact h
theorem Dd {H:Hp} {d:Addr} {e:Ps} {t:Str} (h:H d=some (.dK (enc e))) (m:t∈keys e):zu H d (.str t) (some (.int (get e t))):=by
 have q:=zu.k (k:=(Sum.inr t:Key)) h
 rw [BI,if_pos m] at q
 exact q
theorem zI (e:Ps) (ys:List Str) (y:Str):outs e (ys++[y])=outs e ys++if get e y=0 then [] else [(y,get e y)]:=by
 unfold outs
 rw [List.map_append,List.filter_append]
 congr 1
 by_cases h:get e y=0
 ·rw [if_pos h];simp [h]
 ·rw [if_neg h];simp [h]
theorem xA (e:Ps) (ys:List Str):(outs e ys).length≤ys.length:=by
 unfold outs
 exact Nat.le_trans (List.length_filter_le _ _) (by rw [List.length_map];exact Nat.le_refl _)
end Hw
namespace L2
open PySem PySem.Spec PyProof.Rows
section
variable {X:Cx} {K:PySem.W.Frag}
theorem pG (h:X.K=K):ia X (.type "tuple") (fun xs H Q=>∃ p ys,xs=[.ref p]∧((bH K H p ys∧∀ l,H l=none→Q (.ref l) (upd H l (.tup ys)))∨(bG K H p ys∧Q (.ref p) H))):=h ▸ aW
theorem Kf {e:Expr} {f:Str} {pos:Pos} {ta:TE} (h:X.K=K) (he:PE X e ta) (hb:attributeBase e f X.env (eval e X.env)=eval e X.env):PE X (.Attribute e f pos) (a1w K ta f):=h ▸ aA he hb
theorem rY {es:List Expr} {k:Nat} {t:VR} {n:Nat} {pos:Pos} (hK:X.K=K) (hc:X.calm=true) (h:PGs X es t) (hn:(assignEach es X.env).length=n:=by rfl) (hst:(assignEach es X.env).findIdx? (·.1)=none:=by rfl) :
  PG X (.Tuple es k pos) (a2K K n t):=hK ▸ lQ hc h hn hst
theorem JB {σ:St} {H:Hp} {F G:Hp→Prop} (h:F H):JY σ H (fun b H3=>if b=true then F H3 else G H3):=by
 show if true=true then F H else G H
 exact nK h
def strsOf:List Expr→Option (List Str)
 | []=>some []
 | .Constant (.str x) _ _::r=>(strsOf r).map (x::·)
 | _=>none
def a1p (xs:List Str):TA:=fun _ H Q=>Q (xs.map V.str) H
theorem Kh:∀ {es:List Expr} {xs:List Str},strsOf es=some xs→PA X es (a1p xs)
 | [],xs,h=>by
  cases h
  exact ah
 | e::r,xs,h=>by
  unfold strsOf at h
  split at h
  ·rename_i he;cases he
  ·rename_i x j pos r' he
   cases he
   cases q:strsOf r with
   | none=>rw [q] at h;cases h
   | some ys =>
    rw [q] at h
    cases h
    have ih:=Kh q
    exact cG aZ ih rfl
  ·cases h
end
end L2
namespace Hw
open PySem L2
theorem uL {A:Around} {k n:Nat} (hr:gk k A) (h:n≤60:=by decide):A.units+1+n < cLine:=by have:=hr.units;omega
def wk:Sp:=fun vs H Q _=>∃ c k:Int,vs=[.int c,.int k]∧∀ r:Int,0≤r→r < 2147483399→Q (.int r) H
def HS (K:PySem.W.Frag):Sp:=fun vs H Q _=>∃ (a:Addr) (ns:List Int) (k:Nat),vs=[.ref a,.int k]∧bH K H a (ns.map V.int)∧∀ r:Int,Q (.int r) H
def lg (H:Hp) (r:Addr) (ts:Ps) (n:Int):Prop:=∃ t,H r=some (.tup [.ref t,.int n])∧Tp H t ts
theorem lg.same {H H':Hp} {r:Addr} {ts:Ps} {n:Int} (h:lg H r ts n) (s:aK H H'):lg H' r ts n:=let ⟨t,e,q⟩:=h;⟨t,s _ _ e,q.same s⟩
def J3 (K:PySem.W.Frag):Sp:=fun vs H Q _=>∃ (a:Addr) (ns:List Int),vs=[.ref a]∧bH K H a (ns.map V.int)∧ns.length≤63∧∀ H',Q (.bl true) H'
end Hw
namespace Hw
open PySem L2
theorem TU (K:PySem.W.Frag) (C:Addr):PySem.W.kitOne K (.ref C) (.ref C)=some true:=by
 unfold PySem.W.kitOne
 rw [if_pos (by simp)]
theorem TR (K:PySem.W.Frag):PySem.W.kitOne K (.type "tuple") (.type "tuple")=some true:=by
 unfold PySem.W.kitOne
 rw [if_pos (by simp)]
end Hw
namespace L2
open PySem PySem.Spec PyProof.Rows
section
variable {X:Cx} {K:PySem.W.Frag}
def b06:V→Option Int→Option Int→Hp→VK→Prop:=fun x lo hi H Q=>∃ z,x=.str z∧z.length≤sizeLine∧Q (.str (Txt.slice z lo hi)) H
theorem Nn:SlR X b06:=by
 intro pins s σ H x v vl vu lo hi sl Q I rx hs pl pu h
 obtain ⟨z,rfl,hz,q⟩:=h
 obtain ⟨t,rfl⟩:=rx
 have fin:(Txt.slice z lo hi).length≤sizeLine∧∀ t' k,EP X pins σ Q (.str (Txt.slice z lo hi) t') { s with toks:=k }:=⟨Nat.le_trans (Txt.slice_le z _ _) hz,fun t' k=>⟨.str _,H,I.tok _,⟨_,rfl⟩,q⟩⟩
 refine ⟨"str",_,PySem.F.slot_str_getitem.lookup,typeIs_str _ _ _,?_⟩
 cases pl with
 | none=>cases pu with
  | none=>exact wpAny_getItem_str_slice (l:=none) (u:=none) (st:=none) hs rfl (post_val_or_str fin)
  | int j t'=>exact wpAny_getItem_str_slice (l:=none) (u:=some (j,t')) (st:=none) hs rfl (post_val_or_str fin)
 | int i ti=>cases pu with
  | none=>exact wpAny_getItem_str_slice (l:=some (i,ti)) (u:=none) (st:=none) hs rfl (post_val_or_str fin)
  | int j t'=>exact wpAny_getItem_str_slice (l:=some (i,ti)) (u:=some (j,t')) (st:=none) hs rfl (post_val_or_str fin)
end
end L2
namespace HT
open PySem PySem.Spec PyProof.Rows
section
variable {prog:Program} {w:World} {A:Around} {E:Value→Shared→Prop} {s:Shared}
theorem o7 {α β:Type} {f g:α→Option β}:∀ {l:List α},(∀ x∈l,f x=g x)→l.filterMap f=l.filterMap g
 | [],_=>rfl
 | x::r,h=>by rw [List.filterMap_cons,List.filterMap_cons,h x (List.mem_cons_self ..),o7 fun y hy=>h y (List.mem_cons_of_mem _ hy)]
end
end HT
namespace L2
open PySem PySem.Spec PyProof.Rows
section
variable {X:Cx} {K:PySem.W.Frag}
end
end L2
namespace L2
open PySem PySem.Spec PyProof.Rows
section
variable {X:Cx} {K:PySem.W.Frag}
variable {o e:Expr} {to:TE} {apos cpos:Pos}
theorem Jh (l b:Addr) (xs ys:Array Value) (n m:Nat) (dd:Option Addr) (sl:Array (Option Value)) (h0:¬ (!xs.isEmpty && Builtin.List.listTooLong (xs.size+ys.size))=true) (h1:xs.size≤sizeLine) (h2:xs.size+ys.size≤sizeLine+1) :
  Meets (Builtin.«list.extend» ⟨[.ref l,.ref b],[]⟩) (fun _ R s=>s.heap.get? l=some ⟨.type "list",none,.seq xs n,#[]⟩∧s.heap.get? b=some ⟨.type "tuple",dd,.seq ys m,sl⟩ ∧
   R (.ok (.ret Value.none)) { s with heap:=s.heap.update l (Obj.mapSeq fun x=>x++ys),toks:=s.toks }) :=
 .of_wp fun prog w A R s h=>by
  obtain ⟨hp,g,d,tk,os⟩:=s
  obtain ⟨hl,hb,h⟩:=h
  have q1:=PySem.AutoSeq1.idx_int
  have q2:=PySem.AutoSeq1.sub_tuple_tuple
  have q3:=PySem.AutoSeq1.sub_list_list
  have q4:=PySem.AutoSeq1.sub_tuple_list
  have q5:=PySem.AutoSeq1.sub_list_tuple
  have z:(xs++ys).size≤sizeLine+1:=by
   rw [Array.size_append]
   exact h2
  wp_walk using (wpAny_updateSeq hl rfl (hz:=h1) (_hz':=z)),PySem.AutoSeq1.wpAny_loadPart' hl,PySem.AutoSeq1.wpAny_loadPart' hb
  exact ⟨_,rfl,h⟩
def NV (K:PySem.W.Frag):V→List V→Hp→VK→Prop:=fun x vs H Q=>∃ l b xs zs,x=.ref l∧vs=[.ref b]∧H l=some (.lst xs)∧bG K H b zs∧xs.length+zs.length≤sizeLine∧Q .fP (upd H l (.lst (xs++zs)))
theorem nu:MtM X "list.extend" (NV X.K):=by
 intro pins s σ H x vs v us Q I rx rv h
 obtain ⟨l,b,xs,zs,rfl,rfl,hH,hB,hz,q⟩:=h
 cases rx
 obtain ⟨u,rfl,ru⟩:=rv.one
 cases ru
 obtain ⟨z,its,n,r,hl,e⟩:=I.IQ hH
 obtain ⟨its2,r2,p2,z2⟩:=I.tuple hB
 have hl2:=r2.length
 have hsz:its.toArray.size+its2.toArray.size≤sizeLine:=by rw [List.size_toArray,List.size_toArray];omega
 have P7:¬ (!its.toArray.isEmpty && Builtin.List.listTooLong (its.toArray.size+its2.toArray.size))=true:=by
  rw [De hsz,Bool.and_false]
  exact Bool.false_ne_true
 have go:∀ n2 dd sl,s.heap.get? b=some { cls:=.type "tuple",dict:=dd,data:=.seq its2.toArray n2,slots:=sl }→wpAny (model X.prog X.w) X.A (call (.builtin "list.extend") [.ref l,.ref b]) (EP X pins σ Q) X.xe s:=fun n2 dd sl e2=>by
  refine call_meets F.slot_list_extend ⟨_,e,rfl⟩ F.entry_list_extend (F.args_list_extend_2 _ _)
   (Jh l b its.toArray its2.toArray n n2 dd sl P7 (by rw [List.size_toArray];omega) (by omega)) ⟨e,e2,?_⟩
  refine ⟨.fP,_,I.Tz (its':=its++its2) hH e (by simp) (r.append r2) ?_,rfl,q⟩
  rw [List.length_append]
  omega
 obtain ⟨⟨cls,dd,data,sl⟩,ho,hc,n2,hd⟩:=id p2
 simp only at hc hd
 subst hc hd
 exact go n2 dd sl ho
end
end L2
namespace L2
open PySem PySem.Spec PyProof.Rows
section
variable {X:Cx} {e:Expr} {te:TE}
end
end L2
namespace Hw
open PySem L2
def abc:Str:="abcdefghijklmnopqrstuvwxyz"
theorem UJ:abc.cps.toList=(List.range 26).map (97+·):=by decide +kernel
theorem K8:abc.length≤sizeLine:=Nat.le_of_lt (line _ (by decide +kernel))
theorem Ri {r:Nat} (h:r < 26):ED abc.cps.toList (r:Int)=some (97+r):=tQ (by rw [UJ,List.getElem?_map,List.getElem?_range h];rfl)
theorem UI (i:Int):ED abc.cps.toList (i % 26)=some (97+(i % 26).toNat):=by
 have h0:=Int.emod_nonneg i (show (26:Int)≠0 by decide)
 have h1:=Int.emod_lt_of_pos i (show (0:Int) < 26 by decide)
 have e:i % 26=((i % 26).toNat:Int):=(Int.toNat_of_nonneg h0).symm
 have:=Ri (r:=(i % 26).toNat) (by omega)
 rw [← e] at this
 exact this
abbrev Ra (c:Nat):Str:=⟨#[c]⟩
theorem tL (c:Nat):(Ra c).length=1:=rfl
theorem tR (a b:Str):(a++b).cps.toList=a.cps.toList++b.cps.toList:=PySem.W.KT.app_list a b
theorem lP (a b:Str):(a++b).length=a.length+b.length:=by
 have h:∀ x:Str,x.length=x.cps.toList.length:=fun x=>by simp [Str.length]
 rw [h,h,h,tR,List.length_append]
theorem PZ (ss:List Str) (h:∀ a∈ss,a.length=1):(Txt.join (Str.ofString "") ss).length=ss.length:=PySem.W.KT.join_ones ss h
def a5O (a b:Addr) (H H':Hp):Prop:=∀ c o,H c=some o→c≠a→c≠b→H' c=some o
theorem Cq:∀ ss:List Str,(∀ a∈ss,a.length=1)→(ss.map (·.length)).sum=ss.length
 | [],_=>rfl
 | a::r,h=>by
  rw [List.map_cons,List.sum_cons,Cq r fun b hb=>h b (List.mem_cons_of_mem _ hb),List.length_cons,h a (List.mem_cons_self ..)]
  omega
end Hw
namespace Hw
open PySem L2
theorem e9:(10:Int) ^ Int.toNat 9=1000000000:=by decide
end Hw
namespace Hw
open PySem L2
abbrev cp (x:Str):List Nat:=x.cps.toList
theorem Jt (x:Str):x.length=(cp x).length:=by simp [Str.length]
theorem KW:∀ ss:List Str,cp (Str.join (Str.ofString "") ss)=(ss.map cp).flatten
 | []=>rfl
 | [x]=>by simp [Str.join]
 | x::y::r=>by
  show cp (x++Str.ofString ""++Str.join (Str.ofString "") (y::r))=_
  rw [cp,tR,tR]
  have ih:=KW (y::r)
  rw [show (Str.join (Str.ofString "") (y::r)).cps.toList=cp (Str.join (Str.ofString "") (y::r)) from rfl,ih]
  have z:(Str.ofString "").cps.toList=[]:=by decide
  rw [z,List.append_nil]
  rfl
theorem Js (ss:List Str):cp (Txt.join (Str.ofString "") ss)=(ss.map cp).flatten:=by
 show cp (Builtin.Str.glued (Str.ofString "") ss)=_
 rw [StrLaws.glued_eq_join]
 exact KW ss
end Hw
namespace Hw
open PySem L2
structure LS (C:Addr) (H:Hp) (tl pq q0 q1 hq du u0 u1 sl sa sb:Addr) (xs:List Str) (ps0 t0 t1:Ps) (h0 h1:Int):Prop where
 tl:H tl=some (.lst (xs.map V.str))
 pq:H pq=some (.lst [.ref q0,.ref q1])
 q0:Lp H q0 ps0
 hq:H hq=some (.lst [.int h0,.int h1])
 du:H du=some (.lst [.ref u0,.ref u1])
 u0:lg H u0 t0 h0
 u1:lg H u1 t1 h1
 sl:H sl=some (.lst [.ref sa,.ref sb])
 sa:bL C H sa t0 h0
 sb:bL C H sb t1 h1
section
variable {C:Addr} {H H':Hp} {tl pq q0 q1 hq du u0 u1 sl sa sb:Addr} {xs:List Str} {ps0 t0 t1:Ps} {h0 h1:Int}
end
theorem b5n {α:Type} {l:List α} (h:l.length=2):∃ a b,l=[a,b]:=match l,h with
 | [a,b],_=>⟨a,b,rfl⟩
theorem dP {α β:Type} {F:α→β→Prop}:∀ {xs:List α} {ys:List β} {a:α} {b:β},Paired F xs ys→F a b→Paired F (xs++[a]) (ys++[b])
 | _,_,_,_,.nil,h=>.cons h .nil
 | _,_,_,_,.cons r t,h=>.cons r (dP t h)
theorem e8:(10:Int) ^ Int.toNat 8=100000000:=by decide
def pk {α:Type} (i:Nat) (a b:α):α:=match i with | 0=>a | _=>b
end Hw
namespace Hw
open PySem L2
theorem gg {α β:Type} {F:α→β→Prop}:∀ {vs:List α} {ps:List β},Paired F vs ps→∀ {i:Nat} {v:α},vs[i]?=some v→∃ p,ps[i]?=some p∧F v p
 | _,_,.nil,_,_,e=>by simp at e
 | _,_,.cons r t,0,_,e=>by simp at e;subst e;exact ⟨_,rfl,r⟩
 | _,_,.cons r t,i+1,_,e=>gg t (i:=i) (by simpa using e)
theorem at0 {v:V} {r:List V}:ED (v::r) 0=some v:=tQ (j:=0) rfl
end Hw
namespace Hw
open PySem L2
abbrev Sb:=List (Str×Ps×Int)
def Rl (P:Addr→Ps×Int→Prop) (kvs:List (Key×V)) (S:Sb):Prop:=Paired (fun (kv:Key×V) (s:Str×Ps×Int)=>kv.1=Sum.inr s.1∧∃ u,kv.2=V.ref u∧P u s.2) kvs S
theorem Kr {K:PySem.W.Frag} {H:Hp}:∀ {n:Nat} {x y:V},nZ K H n x y→nZ K H (n+1) x y
 | 0,_,_,h=>.inl h
 | n+1,_,_,h=>by
  rcases h with h | ⟨a,b,xs,ys,e1,e2,h,p⟩
  ·exact .inl h
  ·exact .inr ⟨a,b,xs,ys,e1,e2,h,L2.Paired.lT p fun _ _ z=>Kr z⟩
theorem LV {K:PySem.W.Frag} {H:Hp} {a b:Addr} {ts:Ps} {n:Int} (h:lg H a ts n) (h':lg H b ts n):∃ xs ys,bG K H a xs∧bG K H b ys∧Paired (nZ K H 2) xs ys:=by
 obtain ⟨t,e,vs,et,r⟩:=h
 obtain ⟨t',e',vs',et',r'⟩:=h'
 exact ⟨_,_,bG.of e,bG.of e',.cons (.inr ⟨t,t',vs,vs',rfl,rfl,.inr ⟨bG.of et,bG.of et'⟩,CN r r'⟩) (.cons (.inl ⟨rfl,rfl⟩) .nil)⟩
theorem DR {K:PySem.W.Frag} {H:Hp} {a b:Addr} {ts:Ps} {n:Int} (h:lg H a ts n) (h':lg H b ts n):nZ K H 3 (.ref a) (.ref b):=by
 obtain ⟨xs,ys,h1,h2,p⟩:=LV (K:=K) h h'
 exact .inr ⟨a,b,xs,ys,rfl,rfl,.inr ⟨h1,h2⟩,p⟩
end Hw
namespace Hw
open PySem L2
structure UN (o:HO):Prop where
 t:∀ xs,o≠.tup xs
 i:∀ C dx fs,o≠.ins C dx fs
theorem eV {xs:List V}:UN (.lst xs):=⟨fun _ z=>(by cases z),fun _ _ _ z=>(by cases z)⟩
theorem ur {xs:List (Key×V)}:UN (.dK xs):=⟨fun _ z=>(by cases z),fun _ _ _ z=>(by cases z)⟩
section
variable {H H':Hp} {z:Addr} {o:HO}
theorem aR.tupS (b:aR z H H') (hz:H z=some o) (so:UN o):∀ a xs,H a=some (.tup xs)→H' a=some (.tup xs):=fun a xs e=>b a _ e fun q=>by rw [q,hz] at e;exact so.t xs (Option.some.inj e)
end
section
variable {H0 H H':Hp} {d tl ro:Addr} {xs:List Str} {t0:Ps} {n0:Int}
end
end Hw
namespace Hw
open PySem L2
inductive Cd where
 | cmp (a:Ps) (n:Int) (s:Str) (b:Ps) (m:Int)
 | neg (c:Cd)
 | con (k:Bool) (cs:List Cd)
mutual
def Cd.dep:Cd→Nat
 | .cmp ..=>1
 | .neg c=>c.dep+1
 | .con _ cs=>Q0 cs+1
def Q0:List Cd→Nat
 | []=>0
 | c::cs=>max c.dep (Q0 cs)
end
def opW (k:Bool):Str:=if k then "and" else "or"
mutual
def fE (H:Hp):Cd→V→Prop
 | .cmp a n s b m,v=>∃ r u w,v=.ref r∧H r=some (.tup [.str "compare",.ref u,.str s,.ref w])∧lg H u a n∧lg H w b m
 | .neg c,v=>∃ r u,v=.ref r∧H r=some (.tup [.str "not",u])∧fE H c u
 | .con k cs,v=>∃ r us,v=.ref r∧H r=some (.tup (.str (opW k)::us))∧gj H cs us
def gj (H:Hp):List Cd→List V→Prop
 | [],us=>us=[]
 | c::cs,us=>∃ u r,us=u::r∧fE H c u∧gj H cs r
end
structure Cz where
 s:Addr
 c:Addr
 t:Addr
 e:Addr
 o:Addr
def tM (u:Addr) (s:Str) (w:Addr):List (Str×V):=aP "other" (.ref w) (aP "sign" (.str s) (aP "one" (.ref u) []))
def a1l (u:V):List (Str×V):=aP "condition" u []
def a1i (t:Addr):List (Str×V):=aP "conditions" (.ref t) []
mutual
def bg (Z:Cz) (H:Hp):Cd→V→Prop
 | .cmp a n s b m,v=>∃ p dx u w,v=.ref p∧H p=some (.ins Z.c dx (tM u s w))∧bL Z.s H u a n∧bL Z.s H w b m
 | .neg c,v=>∃ p dx u,v=.ref p∧H p=some (.ins Z.t dx (a1l u))∧bg Z H c u
 | .con k cs,v=>∃ p dx t us,v=.ref p∧H p=some (.ins (if k then Z.e else Z.o) dx (a1i t))∧H t=some (.tup us)∧us.length≤1000∧jT Z H cs us
def jT (Z:Cz) (H:Hp):List Cd→List V→Prop
 | [],us=>us=[]
 | c::cs,us=>∃ u r,us=u::r∧bg Z H c u∧jT Z H cs r
end
structure aD (H H':Hp):Prop where
 t:∀ a xs,H a=some (.tup xs)→H' a=some (.tup xs)
 i:∀ a C dx fs,H a=some (.ins C dx fs)→H' a=some (.ins C dx fs)
theorem aD.of {H H':Hp} (s:aK H H'):aD H H':=⟨fun _ _ e=>s _ _ e,fun _ _ _ _ e=>s _ _ e⟩
theorem aD.soft {H H':Hp} {z:Addr} {o:HO} (b:aR z H H') (hz:H z=some o) (so:UN o):aD H H' :=
 ⟨b.tupS hz so,fun a C dx fs e=>b _ _ e fun q=>by rw [q,hz] at e;exact so.i _ _ _ (Option.some.inj e)⟩
theorem lg.aE {H H':Hp} {r:Addr} {ts:Ps} {n:Int} (h:lg H r ts n) (k:aD H H'):lg H' r ts n:=let ⟨t,e,vs,et,r⟩:=h;⟨t,k.t _ _ e,vs,k.t _ _ et,r.keep k.t⟩
theorem bL.aE {H H':Hp} {C p:Addr} {ts:Ps} {n:Int} (h:bL C H p ts n) (k:aD H H'):bL C H' p ts n:=let ⟨dx,t,e,⟨vs,et,r⟩,l⟩:=h;⟨dx,t,k.i _ _ _ _ e,⟨vs,k.t _ _ et,r.keep k.t⟩,l⟩
mutual
theorem fE.aE {H H':Hp} (k:aD H H'):∀ {c:Cd} {v:V},fE H c v→fE H' c v
 | .cmp a n s b m,v,h=>by
  unfold fE at h ⊢
  obtain ⟨r,u,w,e,er,d1,d2⟩:=h
  exact ⟨r,u,w,e,k.t _ _ er,d1.aE k,d2.aE k⟩
 | .neg c,v,h=>by
  unfold fE at h ⊢
  obtain ⟨r,u,e,er,d⟩:=h
  exact ⟨r,u,e,k.t _ _ er,fE.aE k d⟩
 | .con b cs,v,h=>by
  unfold fE at h ⊢
  obtain ⟨r,us,e,er,d⟩:=h
  exact ⟨r,us,e,k.t _ _ er,gj.aE k d⟩
theorem gj.aE {H H':Hp} (k:aD H H'):∀ {cs:List Cd} {us:List V},gj H cs us→gj H' cs us
 | [],us,h=>by unfold gj at h ⊢;exact h
 | c::cs,us,h=>by
  unfold gj at h ⊢
  obtain ⟨u,r,e,d1,d2⟩:=h
  exact ⟨u,r,e,fE.aE k d1,gj.aE k d2⟩
end
mutual
theorem bg.aE {Z:Cz} {H H':Hp} (k:aD H H'):∀ {c:Cd} {v:V},bg Z H c v→bg Z H' c v
 | .cmp a n s b m,v,h=>by
  unfold bg at h ⊢
  obtain ⟨p,dx,u,w,e,ep,d1,d2⟩:=h
  exact ⟨p,dx,u,w,e,k.i _ _ _ _ ep,d1.aE k,d2.aE k⟩
 | .neg c,v,h=>by
  unfold bg at h ⊢
  obtain ⟨p,dx,u,e,ep,d⟩:=h
  exact ⟨p,dx,u,e,k.i _ _ _ _ ep,bg.aE k d⟩
 | .con b cs,v,h=>by
  unfold bg at h ⊢
  obtain ⟨p,dx,t,us,e,ep,et,l,d⟩:=h
  exact ⟨p,dx,t,us,e,k.i _ _ _ _ ep,k.t _ _ et,l,jT.aE k d⟩
theorem jT.aE {Z:Cz} {H H':Hp} (k:aD H H'):∀ {cs:List Cd} {us:List V},jT Z H cs us→jT Z H' cs us
 | [],us,h=>by unfold jT at h ⊢;exact h
 | c::cs,us,h=>by
  unfold jT at h ⊢
  obtain ⟨u,r,e,d1,d2⟩:=h
  exact ⟨u,r,e,bg.aE k d1,jT.aE k d2⟩
end
theorem pS {K:PySem.W.Frag} {H:Hp} {n m:Nat} {x y:V} (h:nZ K H n x y) (l:n≤m):nZ K H m x y:=by
 induction l with
 | refl=>exact h
 | step _ ih=>exact Kr ih
mutual
theorem ua {K:PySem.W.Frag} {H:Hp}:∀ {c:Cd} {x y:V},fE H c x→fE H c y→nZ K H (c.dep+3) x y
 | .cmp a n s b m,x,y,h,g=>by
  unfold fE at h g
  obtain ⟨r,u,w,rfl,er,d1,d2⟩:=h
  obtain ⟨r',u',w',rfl,er',d1',d2'⟩:=g
  exact .inr ⟨r,r',_,_,rfl,rfl,.inr ⟨bG.of er,bG.of er'⟩,.cons (.inl ⟨rfl,rfl⟩) (.cons (DR d1 d1') (.cons (.inl ⟨rfl,rfl⟩) (.cons (DR d2 d2') .nil)))⟩
 | .neg c,x,y,h,g=>by
  unfold fE at h g
  obtain ⟨r,u,rfl,er,d⟩:=h
  obtain ⟨r',u',rfl,er',d'⟩:=g
  have e:(Cd.neg c).dep+3=(c.dep+3)+1:=by simp [Cd.dep]
  rw [e]
  exact .inr ⟨r,r',_,_,rfl,rfl,.inr ⟨bG.of er,bG.of er'⟩,.cons (pS (n:=0) ⟨rfl,rfl⟩ (Nat.zero_le _)) (.cons (ua d d') .nil)⟩
 | .con k cs,x,y,h,g=>by
  unfold fE at h g
  obtain ⟨r,us,rfl,er,d⟩:=h
  obtain ⟨r',us',rfl,er',d'⟩:=g
  have e:(Cd.con k cs).dep+3=(Q0 cs+3)+1:=by simp [Cd.dep]
  rw [e]
  exact .inr ⟨r,r',_,_,rfl,rfl,.inr ⟨bG.of er,bG.of er'⟩,.cons (pS (n:=0) ⟨rfl,rfl⟩ (Nat.zero_le _)) (wR (Nat.le_refl _) d d')⟩
theorem wR {K:PySem.W.Frag} {H:Hp} {n:Nat}:∀ {cs:List Cd} {xs ys:List V},Q0 cs≤n→gj H cs xs→gj H cs ys→Paired (nZ K H (n+3)) xs ys
 | [],xs,ys,_,h,g=>by
  unfold gj at h g
  subst h g
  exact .nil
 | c::cs,xs,ys,l,h,g=>by
  unfold gj at h g
  obtain ⟨u,r,rfl,d1,d2⟩:=h
  obtain ⟨u',r',rfl,d1',d2'⟩:=g
  unfold Q0 at l
  exact .cons (pS (ua d1 d1') (by omega)) (wR (by omega) d2 d2')
end
def signs:List Str:=["<","<=","=","!=",">=",">"]
def Yy (s:Str):Str:=if s="<" then ">=" else if s=">=" then "<" else if s="<=" then ">" else if s=">" then "<=" else if s="=" then "!=" else "="
end Hw
namespace Hw
open PySem L2
theorem Pn (u:Addr) (s:Str) (w:Addr):(tM u s w).lookup ("one":Str)=some (.ref u):=by
 unfold tM;rw [bz,if_neg (by decide +kernel),bz,if_neg (by decide +kernel),bz,if_pos rfl]
theorem Vt (u:Addr) (s:Str) (w:Addr):(tM u s w).lookup ("sign":Str)=some (.str s):=by
 unfold tM;rw [bz,if_neg (by decide +kernel),bz,if_pos rfl]
theorem Pk (u:Addr) (s:Str) (w:Addr):(tM u s w).lookup ("other":Str)=some (.ref w):=by
 unfold tM;rw [bz,if_pos rfl]
end Hw
namespace L2
open PySem PySem.Spec PyProof.Rows Hw
section
variable {X:Cx} {k:Nat} {m:Str} {pos apos:Pos} {o e:Expr} {es:List Expr} {ta:TE} {t:TA} {Z:Cz} {ps:List Str} {sp:Nat→Sp}
end
end L2
namespace Hw
open PySem L2
theorem LK {P:Program} {w:World} {K:PySem.W.Frag} {mg:Str→Option Value} {base:Heap} {k:Nat} {f:Addr} {fd:FuncData} {ps:List Str} {sp:Sp} (h:∀ vs H Q E,¬ sp vs H Q E):aM P w K mg base bP k f fd ps sp :=
 ⟨fun vs H Q E z=>(h vs H Q E z).elim,fun A outer s H args us vs Q E _ _ _ _ z=>(h vs H Q E z).elim⟩
def rQ (Z:Cz):Sp:=fun vs H Q _=>∃ (p dx u w:Addr) (s:Str),vs=[.ref p,.ref u,.str s,.ref w]∧H p=some (.ins Z.c dx [])∧∀ H',aR p H H'→H' p=some (.ins Z.c dx (tM u s w))→Q .fP H'
end Hw
namespace Hw
open PySem L2
theorem bI {α β:Type} {R:α→β→Prop}:∀ {xs:List α} {ys:List β},Paired R xs ys→xs.length=ys.length
 | _,_,.nil=>rfl
 | _,_,.cons _ t=>congrArg (·+1) (bI t)
end Hw
namespace L2
open PySem PySem.Spec PyProof.Rows Hw
section
variable {X:Cx} {K:PySem.W.Frag}
theorem Rc (hc:X.calm=true):ia X (.builtin "any") (fun xs H Q=>∃ (p:Addr) (bs:List Bool),xs=[.ref p]∧bH X.K H p (bs.map V.bl)∧Q (.bl (bs.any id)) H):=by
 intro pins s σ H xs us Q I r h
 obtain ⟨p,bs,rfl,hq,q⟩:=h
 obtain ⟨u,rfl,ru⟩:=vals1 r
 cases ru
 obtain ⟨its,rv,pl,hz⟩:=I.list hq
 have lp:p < s.heap.objs.size:=let ⟨o,_,e,_⟩:=pl;Heap.lt_size e
 have hl:=rv.length
 rw [List.length_map] at hl
 refine call_any_walk (wpAny_pyIter_list pl.isList ?_)
 have W:=Walks.list (prog:=X.prog) (w:=X.w) (A:=X.A.in1) (I.ok.hd hc) s.heap.objs.size p (Nat.ne_of_lt lp) its.toArray
 refine ⟨s.heap.objs.size,_,_,_,_,_,(fun i=>(bs[i]?).getD false),rfl,W,⟨⟨_,Heap.get?_push_size _ rfl,rfl,rfl⟩,pl.isList.at fun o e=>Heap.get?_push_of_some _ e⟩,fun i v s' Q' E' hv hQ=>?_,fun h' tk hk=>?_⟩
 ·have hv:its.toArray[i]?=some v:=hv
  have hv:its[i]?=some v:=by simpa using hv
  have hil:i < its.length:=(List.getElem?_eq_some_iff.mp hv).1
  obtain ⟨u,hu,ru⟩:=rv.get (i:=i) (x:=.bl ((bs[i]?).getD false)) (by rw [List.getElem?_map,List.getElem?_eq_getElem (by omega)];rfl)
  rw [hv] at hu
  cases hu
  cases ru
  exact wpAny_truthy_bool hQ
 ·have kp:∀ b o,s.heap.get? b=some o→h'.get? b=some o:=fun b o e =>
   hk b o (fun hI=>absurd (Heap.lt_size e) (by rw [List.mem_singleton.mp hI];exact Nat.lt_irrefl _)) (Heap.get?_push_of_some _ e)
  have e:((List.range its.toArray.size).any fun i=>(bs[i]?).getD false)=bs.any id:=by rw [List.size_toArray,← hl];exact LSm.range_any bs
  rw [e]
  exact ⟨.bl (bs.any id),H,I.kept (t':=tk) kp,rfl,q⟩
end
end L2
namespace Hw
open PySem L2
theorem mH {p:Prop} [Decidable p] {F G:Prop} (h:p) (f:F):if decide p=true then F else G:=by rw [if_pos (decide_eq_true h)];exact f
theorem oq {p:Prop} [Decidable p] {F G:Prop} (h:¬ p) (f:G):if decide p=true then F else G:=by rw [if_neg (by simpa using h)];exact f
end Hw
namespace Hw
open PySem L2
theorem aV {H:Hp} {x dx:Addr} {o o':HO} (hx:H x=none) (hdx:H dx=none):aK H (upd (upd H dx o) x o'):=fun b u z=>by
 rw [aL (aq z hx),aL (aq z hdx)]
 exact z
end Hw
namespace Hw
open PySem L2
end Hw
namespace Hw
open PySem L2
end Hw
namespace Hw
open PySem L2
end Hw
namespace L2
open PySem PySem.Spec PyProof.Rows Hw
def KDict (P:Program) (w:World) (K:PySem.W.Frag) (D:Addr) (kvs:List (Key×V)):Prop:=∀ h:Heap,K.In h→∃ vs,KV kvs vs∧h.DictOf (aQ P w) D vs
def a1v (kvs:List (Key×V)) (ty:TE):TE:=fun σ H Q=>ty σ H fun y H1=>∃ k v,y=kV k∧oB kvs k=some v∧Q v H1
section
variable {X:Cx} {x:Str} {D:Addr} {kvs:List (Key×V)} {i:Expr} {ty:TE} {p pos:Pos}
theorem SE (hg:Gl X x) (hm:X.mg x=some (.ref D)) (kd:KDict X.prog X.w X.K D kvs) (hi:PE X i ty) (hs:a0E i) (hd:(x == ("__debug__":Str))=false:=by decide):PE X (.Subscript (.Name x p) i pos) (a1v kvs ty):=by
 intro pins s σ H Q I h
 refine JZ PySem.F.slot_dict_getitem.lookup hs (sP I hg hm (fG (hi pins s σ H _ I h) fun iv s2 ⟨y,H2,I2,ry,k,v,ey,hv,q2⟩=>?_) hd)
 subst ey
 obtain ⟨vs,rel,dd⟩:=kd _ I2.qW
 obtain ⟨w',hw,rw'⟩:=nY.some_of (v:=v) (o:=valueAt vs k) (by rw [← hv];exact rel.val k)
 exact ⟨dd.typeIs,wpAny_getItem_of (DE ry) dd.mapOf hw ⟨v,H2,I2.tok _,rw',q2⟩⟩
end
abbrev Ent:=Str×Tok×Str×Tok
def ent (P:Params) (e:Ent):DictEntry:=⟨PyData.keyHash P e.1,.str e.1 e.2.1,.str e.2.2.1 e.2.2.2⟩
theorem zR {P:Program} {w:World}:∀ es:List Ent,Pairs (aQ P w) (es.map (ent w.params)) (es.map fun e=>((Sum.inr e.1:Key),Value.str e.2.2.1 e.2.2.2))
 | []=>.nil
 | e::r=>.cons (cN P w e.1 e.2.1) rfl (zR r)
theorem QS:∀ es:List Ent,KV (es.map fun e=>((Sum.inr e.1:Key),V.str e.2.2.1)) (es.map fun e=>((Sum.inr e.1:Key),Value.str e.2.2.1 e.2.2.2))
 | []=>.nil
 | e::r=>.cons ⟨rfl,_,rfl⟩ (QS r)
theorem Pw {P:Program} {w:World} {K:PySem.W.Frag} {D:Addr} {ep:Nat} (es:List Ent) (lD:K.lookup D=some ⟨.type "dict",none,.dict (es.map (ent w.params)).toArray ep,#[]⟩) (nd:(es.map fun e=>(Sum.inr e.1:Key)).Nodup) :
  KDict P w K D (es.map fun e=>(Sum.inr e.1,V.str e.2.2.1)):=by
 intro h hk
 refine ⟨_,QS es,_,_,ep,hk D _ lD,⟨rfl,rfl,rfl⟩,rfl,?_,?_,?_⟩
 ·intro e he
  have he:e∈es.map (ent w.params):=by simpa using he
  obtain ⟨z,_,rfl⟩:=List.mem_map.mp he
  exact ⟨Sum.inr z.1,cN P w z.1 z.2.1,rfl⟩
 ·exact zR es
 ·rw [List.map_map]
  exact nd
end L2
namespace Hw
open PySem L2
def a1W:List (Key×V):=[(Sum.inr "<",.str ">="),(Sum.inr ">=",.str "<"),(Sum.inr "<=",.str ">"),(Sum.inr ">",.str "<="),(Sum.inr "=",.str "!="),(Sum.inr "!=",.str "=")]
def a0C (P:Program) (w:World) (K:PySem.W.Frag) (mg:Str→Option Value):Prop:=∃ D,mg "OPPOSITE_SIGNS"=some (.ref D)∧KDict P w K D a1W
theorem SJ {s:Str} (h:s∈signs):oB a1W (Sum.inr s)=some (V.str (Yy s)):=by
 simp only [signs,List.mem_cons,List.not_mem_nil,or_false] at h
 rcases h with h | h | h | h | h | h <;> subst h <;> decide +kernel
theorem SK {P:Program} {w:World} {K:PySem.W.Frag} {mg:Str→Option Value} {D:Addr} {ep:Nat} {t1 t2 t3 t4 t5 t6 u1 u2 u3 u4 u5 u6:Tok} (m:mg "OPPOSITE_SIGNS"=some (.ref D))
  (lD:K.lookup D=some ⟨.type "dict",none,.dict #[⟨PyData.keyHash w.params "<",.str "<" t1,.str ">=" u1⟩,⟨PyData.keyHash w.params ">=",.str ">=" t2,.str "<" u2⟩,⟨PyData.keyHash w.params "<=",.str "<=" t3,.str ">" u3⟩,
   ⟨PyData.keyHash w.params ">",.str ">" t4,.str "<=" u4⟩,⟨PyData.keyHash w.params "=",.str "=" t5,.str "!=" u5⟩,⟨PyData.keyHash w.params "!=",.str "!=" t6,.str "=" u6⟩] ep,#[]⟩):a0C P w K mg :=
 ⟨D,m,Pw (ep:=ep) [("<",t1,">=",u1),(">=",t2,"<",u2),("<=",t3,">",u3),(">",t4,"<=",u4),("=",t5,"!=",u5),("!=",t6,"=",u6)] lD (by show ([Sum.inr "<",Sum.inr ">=",Sum.inr "<=",Sum.inr ">",Sum.inr "=",Sum.inr "!="]:List Key).Nodup;decide +kernel)⟩
end Hw
namespace Hw
open PySem L2
end Hw
namespace L2
open PySem PySem.Spec PyProof.Rows Hw
section
variable {X:Cx}
theorem gz {st:Stmt}:PS X st (fun _ _ _=>False):=fun _ _ _ _ _ _ h=>h.elim
end
end L2
namespace Hw
open PySem L2
abbrev Cs:=List (List (Ps×Int))
end Hw
namespace Hw
open PySem L2
def a5m (A B:Cs):Cs:=(A.map fun a=>B.map (a++·)).flatten
end Hw
namespace Hw
open PySem L2
theorem kq {α β:Type} {F:α→β→Prop}:∀ {xs xs':List α} {ys ys':List β},Paired F xs ys→Paired F xs' ys'→Paired F (xs++xs') (ys++ys')
 | _,_,_,_,.nil,h=>h
 | _,_,_,_,.cons r t,h=>.cons r (kq t h)
end Hw
namespace Hw
open PySem L2
end Hw
namespace Hw
open PySem L2
end Hw
namespace L2
open PySem PySem.Spec PyProof.Rows Hw
section
variable {X:Cx}
end
end L2
namespace Hw
open PySem L2
end Hw
namespace Hw
open PySem L2
theorem ku {α:Type} [DecidableEq α]:∀ {l m:List α},l.Nodup→(∀ x∈l,x∈m)→l.length≤m.length
 | [],m,_,_=>Nat.zero_le _
 | a::r,m,h,hs=>by
  have ha:a∈m:=hs a (List.mem_cons_self ..)
  have hn:=List.nodup_cons.mp h
  have ih:=ku (m:=m.erase a) hn.2 fun x hx=>by
   have hne:x≠a:=fun e=>hn.1 (e ▸ hx)
   exact (List.mem_erase_of_ne hne).mpr (hs x (List.mem_cons_of_mem _ hx))
  rw [List.length_erase_of_mem ha] at ih
  have:0 < m.length:=List.length_pos_of_mem ha
  show r.length+1≤m.length
  omega
end Hw
namespace Hw
open PySem L2
theorem yg {P:Program} {w:World} {K:PySem.W.Frag} {mg:Str→Option Value} {base:Heap} {x:Str} {ps:List Str} {sp:Nat→Sp} {lv:Nat→Nat} {f:Addr} {fd:FuncData}
  (hm:mg x=some (.ref f)) (hk:PySem.W.keepIn K (.ref f)=true) (hb:Binds K fd ps []) (h0:∀ vs H Q E,¬ sp 0 vs H Q E)
  (hs:∀ n,Dn P w K mg base (lv n) x ps (sp n)→aM P w K mg base bP (lv (n+1)) f fd ps (sp (n+1))):∀ n,Dn P w K mg base (lv n) x ps (sp n)
 | 0=>⟨f,fd,LK h0,hm,hk,hb⟩
 | n+1=>⟨f,fd,hs n (yg hm hk hb h0 hs n),hm,hk,hb⟩
end Hw
namespace Hw
open PySem L2
section
variable {Z:Cz} {H0 H H':Hp} {d tl sd hd p pf:Addr} {xs:List Str} {vt:V} {c c':Cd} {kvs kh:List (Key×V)} {S:Sb}
end
theorem aD.trans {H H1 H2:Hp} (a:aD H H1) (b:aD H1 H2):aD H H2:=⟨fun c xs e=>b.t _ _ (a.t _ _ e),fun c C dx fs e=>b.i _ _ _ _ (a.i _ _ _ _ e)⟩
end Hw
namespace PySem
section
variable {prog:Program} {w:World} {A:Around} {E:Value→Shared→Prop} {h:Heap} {g:Array GenState} {d:Drawn} {t:Nat} {os:OsState}
variable {nm q:Str} {C N:Addr} {bs bm:List Value} {hdct:Bool} {sn:List Str} {sub:List Value} {ab:Bool} {col:Option Bool} {dd:Option Addr} {k0 k1 k2 k3 k5:Option Value}
end
end PySem
namespace PySem
section
variable {M:Model} {A:Around} {E:Value→Shared→Prop} {s:Shared} {base:Heap} {env:Env} {outer:List Env} {L a C:Addr} {oe:Obj} {vs:Array Value}
end
end PySem
namespace L2
open PySem PySem.Spec PyProof.Rows
section
variable {P:Program} {w:World} {K:PySem.W.Frag} {mg:Str→Option Value} {base:Heap} {N:List Str} {qual:Str} {scope:Scope} {f C:Addr} {cd:Value} {A:Around} {outer:List Env} {s:Shared} {H:Hp} {E:XK}
end
end L2
namespace L2
open PySem PySem.Spec PyProof.Rows
theorem M1 {H:Hp} {a:Addr} {o:HO} (h:H a=some o):upd H a o=H:=by
 funext b
 unfold upd
 split
 ·rename_i e;rw [e,h]
 ·rfl
section
variable {X:Cx} {CX:EF} {k:Nat} {f C D fI:Addr} {fd:FuncData} {ps:List Str} {sp:Sp} {E:XK} {x m:Str} {p pos apos:Pos} {e o:Expr} {es:List Expr} {t:TA} {bm:List Value}
def a1z (sp:Sp) (E:XK) (to:TE) (t:TA):TE:=fun σ H Q=>to σ H fun _ H1=>t σ H1 fun vs H2=>sp (vs++[]) H2 Q E
theorem jO {pl:Sem Bool} (hg:Gl X x) (hm:X.mg x=some (.ref D)) (h1:PySem.W.specialIn X.K (.ref D) "__getattribute__"=some (some (.builtin "type.__getattribute__"))) (h2:PySem.W.readsIn X.K D (.type "type")=true)
  (h3:PySem.W.findCls X.K (.ref D) (.type "type") m=some (.val (.ref f))) (h4:PySem.W.handedIn (.ref f)=true) (hk:PySem.W.keepIn X.K (.ref f)=true) (F:aM X.prog X.w X.K X.mg X.base CX k f fd ps sp) (hr:gk k X.A) (hb:Binds X.K fd ps [])
  (hx:Passes CX X E) (ha:PA X (e::es) t) (hst:starEach (e::es) X.env=(false,eval e X.env)::starEach es X.env:=by rfl) (hpl:(backTo pos (starEach es X.env)).any (·.1)=false:=by rfl) (hdb:(x == ("__debug__":Str))=false:=by decide)
  (ht:eval (.Call (.Attribute (.Name x p) m apos) (e::es) [] pos) X.env=(do
   let ov ← eval (.Name x p) X.env
   standAt apos.atName
   let (f,first) ← holding [ov] (getMethod ov m pl)
   callWith pos f first (backTo pos (starEach (e::es) X.env)) (backToKw pos (keywordEach [] X.env))):=by rfl) :
  PE X (.Call (.Attribute (.Name x p) m apos) (e::es) [] pos) (a1z sp E (tC (.ref D)) t):=by
 intro pins s σ H Q I h
 refine PySem.W.methodCall_KW (pl:=pl) (sP I hg hm ?_ hdb) ht
 refine PySem.W.method_cls I.qW h1 (PySem.W.cls_value I.qW h2 h3 h4 ?_)
 have I1:=I.tok (s.toks+1)
 refine PySem.W.callWith_K (first:=[]) (h₀:=X.base) I.ok.mod.kin hk (fG (ha pos pins _ σ H _ I1 h) fun us s2 ⟨vs,H2,I2,r,q2⟩=>⟨I2.qW,?_⟩) hst hpl
 exact xr F hr hb .nil hx I2 r q2
end
end L2
namespace L2
open PySem PySem.Spec PyProof.Rows
section
variable {X:Cx} {tg:Expr}
end
end L2
namespace PySem
open L2
theorem TN (t:SetTable) (es:Array (Int×Value)) (h:Int) (x:Value):(layNew t es h x).2.1.led=t.led:=by
 unfold layNew
 split
 ·dsimp only
  rename_i slot wd _
  have e:((t.put slot).1).led=t.led:=rfl
  have o:∀ (u:SetTable) (n:Nat),(u.orStandIn n).led=u.led:=fun u n=>by
   unfold SetTable.orStandIn
   split <;> rfl
  exact (o _ _).trans e
 ·rfl
theorem Lj (t:SetTable) (es:Array (Int×Value)) (k:Nat):(relayAll t es k).2.1.led=t.led∧(t.plain=false→(relayAll t es k).2.1.plain=false):=by
 unfold relayAll
 split
 ·rename_i t' order hr
  dsimp only
  have e:t'.led=t.led∧t'.plain=t.plain:=by
   unfold SetTable.relaid SetTable.laid at hr
   simp only [Option.bind_eq_bind,Option.bind_eq_some_iff,Option.pure_def,Option.some.injEq,Prod.mk.injEq] at hr
   obtain ⟨owner,_,rfl,_⟩:=hr
   exact ⟨rfl,rfl⟩
  split
  ·exact ⟨e.1,fun z=>e.2.trans z⟩
  ·exact ⟨rfl,fun _=>rfl⟩
 ·exact ⟨rfl,fun _=>rfl⟩
def strOf:Value→Str
 | .str z _=>z
 | _=>Str.empty
def cK (prog:Program) (w:World) (h:Heap) (a:Addr) (zs:List Str):Prop :=
 ∃ o es ep t,h.get? a=some o∧o.ExactSet∧o.data=.set es ep t∧ElemsOf (aQ prog w) es.toList∧(∀ e∈es.toList,∃ z k,e.2=Value.str z k)∧es.toList.map (fun e=>strOf e.2)=zs∧zs.Nodup ∧
  es.size < scanBound∧t.fits es.size=true∧t.led=!w.params.followText "set-order"∧(t.plain=false∨es.size=0)
section
variable {prog:Program} {w:World} {A:Around} {E:Value→Shared→Prop} {s:Shared}
theorem cK.store {h:Heap} {a:Addr} {o:Obj} {es:Array (Int×Value)} {ep:Nat} {t:SetTable} (ho:h.get? a=some o) (hex:o.ExactSet) (hd:o.data=.set es ep t) {es':Array (Int×Value)} {t':SetTable}
  (h1:ElemsOf (aQ prog w) es'.toList) (h2:∀ e∈es'.toList,∃ z k,e.2=Value.str z k) (h3:(es'.toList.map fun e=>strOf e.2).Nodup) (h4:es'.size < scanBound) (h5:t'.fits es'.size=true) (h6:t'.led=!w.params.followText "set-order") (h7:t'.plain=false) :
  (h.update a (Obj.putSet es' t')).get? a=some { o with data:=.set es' (ep+1) t' }∧cK prog w (h.update a (Obj.putSet es' t')) a (es'.toList.map fun e=>strOf e.2):=by
 have hg:(h.update a (Obj.putSet es' t')).get? a=some { o with data:=.set es' (ep+1) t' }:=by
  have:=Heap.get?_update_self (Obj.putSet es' t') ho (by rw [putSet_of es' t' hd];rfl)
  rw [putSet_of es' t' hd] at this;exact this
 exact ⟨hg,_,es',ep+1,t',hg,hex,rfl,h1,h2,rfl,h3,h4,h5,h6,.inl h7⟩
theorem xW {x z:Str} {k:Tok}:(aQ prog w).is (Sum.inr x) (.str z k)=decide (z=x):=by
 by_cases e:z=x
 ·subst e
  rw [cN,decide_eq_true rfl]
 ·rw [decide_eq_false e]
  cases q:(aQ prog w).is (Sum.inr x) (.str z k) with
  | false=>rfl
  | true=>exact absurd (Sum.inr.inj ((aQ prog w).inj _ _ _ q (cN prog w z k))) fun z=>e z.symm
theorem J9 {a:Addr} {zs:List Str} {x:Str} {k:Tok} {Q:Bool→Shared→Prop} (hS:cK prog w s.heap a zs) (hroom:zs.length+1 < scanBound)
  (h:∀ h' zs',Heap.SameBut a s.heap h'→cK prog w h' a zs'→(x∈zs→zs'=zs)→(x ∉ zs→List.Perm zs' (zs++[x]))→Q (!decide (x∈zs)) { s with heap:=h' }) :
  wpAny (model prog w) A (setAddHashed a (.str x k) ((aQ prog w).hash (Sum.inr x))) Q E s:=by
 obtain ⟨o,es,ep,t,ho,hex,hd,hel,hst,hzs,hnd,hb,hf,kJ,hpl⟩:=id hS
 have hn:es.size=zs.length:=by rw [← hzs,List.length_map,Array.length_toList]
 have hsc:(Value.str x k).scannable=true:=rfl
 have hkey:=cN prog w x k
 unfold setAddHashed setAddHashedIn
 refine wpAny_holding (wpAny_bind (wpAny_setState_of ho hd hf ?_))
 dsimp only
 rw [byScan_of hsc hb hel]
 simp only [↓reduceIte]
 unfold setAddByScan
 refine wpAny_bind ?_
 refine wpAny_bind (wpAny_rule ?_)
 refine wpAny_bind (wpAny_setScan_of hkey ho hd hf hel ?_)
 have mem:x∈zs↔∃ e∈es.toList,(aQ prog w).is (Sum.inr x) e.2=true:=by
  rw [← hzs,List.mem_map]
  constructor
  ·rintro ⟨e,he,q⟩
   obtain ⟨z,k',e2⟩:=hst e he
   refine ⟨e,he,?_⟩
   rw [e2] at q ⊢
   rw [xW]
   exact decide_eq_true q
  ·rintro ⟨e,he,q⟩
   obtain ⟨z,k',e2⟩:=hst e he
   refine ⟨e,he,?_⟩
   rw [e2] at q ⊢
   rw [xW] at q
   exact of_decide_eq_true q
 cases hr:List.findIdx? (fun e=>(aQ prog w).is (Sum.inr x) e.2) es.toList with
 | some j =>
  dsimp only
  obtain ⟨hj,hpj,_⟩:=List.findIdx?_eq_some_iff_getElem.mp hr
  have hm:x∈zs:=mem.mpr ⟨es.toList[j],List.getElem_mem hj,hpj⟩
  refine wpAny_pure (wpAny_pure ?_)
  have e:s={ s with heap:=s.heap }:=by cases s;rfl
  have:=h s.heap zs (Heap.SameBut.refl a s.heap) hS (fun _=>rfl) (fun z=>absurd hm z)
  rw [decide_eq_true hm] at this
  rw [e];exact this
 | none =>
  dsimp only
  have hm:x ∉ zs:=fun z=>by
   obtain ⟨e,he,q⟩:=mem.mp z
   have:=List.findIdx?_eq_none_iff.mp hr e he
   rw [q] at this;exact Bool.noConfusion this
  have hgw:∀ (b:Bool) {s₁:Shared} {Q':Unit→Shared→Prop},Q' () s₁→wpAny (model prog w) A (match b with | true=>rule "set.scan.the-table-gave-way" | false=>pure ()) Q' E s₁ :=
   fun b s₁ Q' hq=>by cases b <;> first | exact wpAny_pure hq | exact wpAny_rule hq
  have xX:=layNew_perm t es ((aQ prog w).hash (Sum.inr x)) (.str x k)
  have Kz:=layNew_fits t es ((aQ prog w).hash (Sum.inr x)) (.str x k)
  have hl:=TN t es ((aQ prog w).hash (Sum.inr x)) (.str x k)
  generalize hL:layNew t es ((aQ prog w).hash (Sum.inr x)) (.str x k)=L at xX Kz hl ⊢
  obtain ⟨es1,t1,wasDummy,d7K⟩:=L
  dsimp only at xX Kz hl ⊢
  rw [Array.toList_push] at xX
  have hel1:ElemsOf (aQ prog w) es1.toList:=(hel.push hkey hsc).perm xX
  have LD:∀ e∈es1.toList,∃ z k,e.2=Value.str z k:=fun e he=>by
   rcases List.mem_append.mp (xX.mem_iff.mp he) with q | q
   ·exact hst e q
   ·rw [List.mem_singleton.mp q];exact ⟨_,_,rfl⟩
  have hz1:List.Perm (es1.toList.map fun e=>strOf e.2) (zs++[x]):=by
   have:=xX.map fun e=>strOf e.2
   rw [List.map_append,hzs] at this
   exact this
  have a2z:(es1.toList.map fun e=>strOf e.2).Nodup:=hz1.nodup_iff.mpr (by
   rw [List.nodup_append]
   refine ⟨hnd,by simp,fun u hu v hv e=>?_⟩
   rw [List.mem_singleton.mp hv] at e
   exact hm (e ▸ hu))
  have hb1:es1.size < scanBound:=by
   rw [← Array.length_toList,xX.length_eq,List.length_append,Array.length_toList]
   simpa [hn] using hroom
  refine wpAny_bind (hgw _ ?_)
  have hend:∀ h' zs',Heap.SameBut a s.heap h'→cK prog w h' a zs'→List.Perm zs' (zs++[x])→Q true { s with heap:=h' }:=by
   intro h' zs' TZ hS' hp
   have:=h h' zs' TZ hS' (fun z=>absurd z hm) (fun _=>hp)
   rw [decide_eq_false hm] at this
   exact this
  have tail:∀ t2:SetTable,t2.fits es1.size=true→t2.led=t.led→t2.plain=false→wpAny (model prog w) A (do
    storeSet a es1 t2
    if (!wasDummy && t2.tooFull)=true then do
      (match (relayAll t2 es1 (SetTable.grown es1.size)).2.2 with | true=>rule "set.scan.the-table-gave-way" | false=>pure ())
      storeSet a (relayAll t2 es1 (SetTable.grown es1.size)).1 (relayAll t2 es1 (SetTable.grown es1.size)).2.1
      pure (some true)
     else pure (some true)) (fun r s'=>wpAny (model prog w) A (match r with | some added=>pure added | none=>setAddHashedIn a (.str x k) ((aQ prog w).hash (Sum.inr x)) 99999) Q E s') E s:=by
   intro t2 hf2 hl2 hp2
   refine wpAny_bind (wpAny_storeSet_of ho hd ?_ (fits_of_scanBound hb1))
   obtain ⟨Zy,ZF⟩:=cK.store (prog:=prog) (w:=w) ho hex hd hel1 LD a2z hb1 hf2 (hl2.trans kJ) hp2
   have a2w:=Heap.SameBut.update s.heap a (Obj.putSet es1 t2)
   split
   ·have hp:=relayAll_perm t2 es1 (SetTable.grown es1.size)
    have hfr:=relayAll_fits t2 es1 (SetTable.grown es1.size)
    have hlr:=Lj t2 es1 (SetTable.grown es1.size)
    generalize hRl:relayAll t2 es1 (SetTable.grown es1.size)=Rl at hp hfr hlr ⊢
    obtain ⟨es2,t3,c9q⟩:=Rl
    dsimp only at hp hfr hlr ⊢
    have hsz:es2.size=es1.size:=by rw [← Array.length_toList,hp.length_eq,Array.length_toList]
    refine wpAny_bind (hgw _ ?_)
    refine wpAny_bind (wpAny_storeSet_of Zy rfl ?_ (fits_of_scanBound (by rw [hsz];exact hb1)))
    obtain ⟨_,hS2⟩:=cK.store (prog:=prog) (w:=w) Zy hex rfl (hel1.perm hp) (fun e he=>LD e (hp.mem_iff.mp he)) ((hp.map _).nodup_iff.mpr a2z) (by rw [hsz];exact hb1) hfr (hlr.1.trans (hl2.trans kJ)) (hlr.2 hp2)
    exact wpAny_pure (wpAny_pure (hend _ _ (a2w.trans (Heap.SameBut.update _ a _)) hS2 ((hp.map _).trans hz1)))
   ·exact wpAny_pure (wpAny_pure (hend _ _ a2w ZF hz1))
  split
  ·refine wpAny_bind ?_
   rw [hashByValue_scannable 8 hsc]
   refine wpAny_pure ?_
   exact tail { t1 with plain:=false } (SetTable.fits_plain_off Kz) hl rfl
  ·rename_i hpp
   refine wpAny_bind (wpAny_pure ?_)
   simp only [↓reduceIte]
   exact tail t1 Kz hl (by simpa using hpp)
end
end PySem
namespace PySem
open L2 PyProof.Rows
section
variable {prog:Program} {w:World} {A:Around} {R:Result→Shared→Prop} {I:Addr} {fp wr:List Addr} {G:Array GenState→Array GenState→Prop} {n:Nat} {P:Nat→Value→Prop} {St:Nat→Shared→Prop}
theorem cK.at {h h':Heap} {a:Addr} {zs:List Str} (x:cK prog w h a zs) (k:∀ o,h.get? a=some o→h'.get? a=some o):cK prog w h' a zs:=by
 obtain ⟨o,es,ep,t,ho,r⟩:=x
 exact ⟨o,es,ep,t,k o ho,r⟩
theorem CF (W:WalksS prog w A.in1 I fp wr G n P St) (S:Addr) (hSf:S ∉ fp) (ss:List Str) (hlen:ss.length=n) (hval:∀ i v,i < n→P i v→∃ t,v=.str (ss.getD i Str.empty) t) (hb:n+1 < scanBound) :
  ∀ (k i:Nat) (s:Shared) (zs:List Str),n - i=k→i≤n→St i s→cK prog w s.heap S zs→zs.length≤i→(∀ x,x∈zs↔x∈ss.take i) →
   (∀ s' zs',Moved (S::wr) G s s'→cK prog w s'.heap S zs'→zs'.length≤n→(∀ x,x∈zs'↔x∈ss)→R (.ok (.ret .none)) s') →
   codeAny (model prog w) A (.builtin "set.update.loop" ⟨[.ref S,.ref I],[]⟩) R s:=by
 have hSw:S ∉ wr:=fun h=>hSf (W.sub _ h)
 have hsub:∀ b∈wr,b∈S::wr:=fun b hb=>List.mem_cons_of_mem _ hb
 intro k
 induction k with
 | zero =>
  intro i s zs hk hi hst hS hl hm hR
  have hin:i=n:=by omega
  subst hin
  refine codeAny_builtin F.entry_set_update_loop ?_
  rw [Around.under_plainId F.plain_set_update_loop _]
  show wpAny _ A.in1 (pyNext (.ref I) >>= _) _ _ s
  refine wpAny_bind (W.done s _ _ hst fun s' hmv=>?_)
  show wpAny _ A.in1 (ret Value.none) _ _ s'
  refine wpAny_pure (hR s' zs (hmv.mono hsub) (hS.at fun o ho=>hmv.heap S _ hSw ho) hl fun x=>?_)
  rw [hm x,← hlen,List.take_length]
 | succ k ih =>
  intro i s zs hk hi hst hS hl hm hR
  have hlt:i < n:=by omega
  refine codeAny_builtin F.entry_set_update_loop ?_
  rw [Around.under_plainId F.plain_set_update_loop _]
  show wpAny _ A.in1 (pyNext (.ref I) >>= _) _ _ s
  refine wpAny_bind (W.item i s _ _ hlt hst fun v s' hP b8R hmv=>?_)
  obtain ⟨t,rfl⟩:=hval i v hlt hP
  have hS':cK prog w s'.heap S zs:=hS.at fun o ho=>hmv.heap S _ hSw ho
  show wpAny _ A.in1 (holding [Value.str (ss.getD i Str.empty) t] (setAdd S (.str (ss.getD i Str.empty) t)) >>= _) _ _ s'
  refine wpAny_bind (wpAny_holding ?_)
  unfold setAdd
  refine wpAny_holding ?_
  refine wpAny_bind ((aQ prog w).pyHash (k:=Sum.inr (ss.getD i Str.empty)) (cN _ _ _ _) ?_)
  refine J9 (s:={ s' with toks:=s'.toks+1 }) hS' (by omega) fun h' zs' TZ hS2 hin hout=>?_
  have hx:ss[i]?=some (ss.getD i Str.empty):=by
   rw [List.getD_eq_getElem?_getD,List.getElem?_eq_getElem (by omega)]
   rfl
  have hmem:∀ x,x∈zs'↔x∈ss.take (i+1):=fun x=>by
   rw [List.take_add_one,hx,List.mem_append]
   by_cases q:ss.getD i Str.empty∈zs
   ·rw [hin q,hm x]
    constructor
    ·exact .inl
    ·rintro (z | z)
     ·exact z
     ·have:x=ss.getD i Str.empty:=by simpa using z
      rw [this];exact (hm _).mp q
   ·rw [(hout q).mem_iff,List.mem_append,hm x]
    simp
  have hl':zs'.length≤i+1:=by
   by_cases q:ss.getD i Str.empty∈zs
   ·rw [hin q];omega
   ·rw [(hout q).length_eq,List.length_append,List.length_singleton];omega
  refine wpAny_pure ⟨plainId_quiet F.plain_set_update_loop _,ih (i+1) _ zs' (by omega) hlt (W.frame _ s' _ _ b8R (Nat.le_succ _) fun b hb o e=>?_) hS2 hl' hmem fun s'' a9c b83 b9l b85 hm2=>?_⟩
  ·rw [TZ.2 b (fun h:b=S=>hSf (by rw [← h];exact hb))];exact e
  ·refine hR s'' a9c (Moved.trans W.gtrans ((hmv.mono hsub).then_heap (Nat.le_succ _) fun b o hb e=>?_) b83) b9l b85 hm2
   rw [TZ.2 b (fun h:b=S=>hb (by rw [h];exact List.mem_cons_self))];exact e
end
section
variable {prog:Program} {w:World} {A:Around} {E:Value→Shared→Prop} {s:Shared}
theorem pF (a:Value) {Q₁:Value→Shared→Prop}
  (h:Q₁ (.ref s.heap.objs.size) { s with heap:=s.heap.push { cls:=.type "set",dict:=none,data:=.set #[] 0 (.fresh 0 0 (!w.params.followText "set-order")) } }) :
  codeAny (model prog w) A (.call (.builtin "set.__new__") ⟨[.type "set",a],[]⟩) (wants Q₁ E) s:=by
 refine codeAny_of_tree ?_
 show wpAny _ A.in1 (do checkBuiltinCall "set.__new__" ⟨[.type "set",a],[]⟩;again (.builtin "set.__new__" ⟨[.type "set",a],[]⟩)) _ _ s
 refine wpAny_bind (wpAny_of_eq (F.newCall_set_1 a) (wpAny_pure ⟨plainId_quiet F.plain_set_new _,codeAny_builtin F.entry_set_new ?_⟩))
 rw [Around.under_plainId F.plain_set_new _]
 unfold Builtin.«set.__new__» Builtin.Frozenset.newClass
 have hsub:=sub_set_self
 obtain ⟨hp,g,d,tk,os⟩:=s
 dsimp only
 wp_walk
 refine wpAny_askSetting (wpAny_pure ?_)
 dsimp only
 simp only [newObj]
 refine wpAny_bind (wpAny_alloc (wpAny_pure ?_))
 exact wpAny_pure h
theorem StrsAre.M7:∀ {vs:List Value} {ss:List Str},StrsAre vs ss→∀ (i:Nat) (v:Value),vs[i]?=some v→∃ t,v=.str (ss.getD i Str.empty) t:=by
 intro vs ss h
 induction h with
 | nil=>intro i v e;simp at e
 | cons x t hr ih =>
  intro i v e
  cases i with
  | zero=>simp at e;exact ⟨t,e.symm⟩
  | succ i =>
   simp only [List.getElem?_cons_succ] at e
   obtain ⟨t',e'⟩:=ih i v e
   exact ⟨t',by rw [e'];rfl⟩
set_option maxHeartbeats 3200000 in
theorem zd {l:Addr} {items:Array Value} {ss:List Str} {Q:Value→Shared→Prop} (hh:A.handled=none) (hl:s.heap.IsList l items) (hi:StrsAre items.toList ss) (hb:items.size+1 < scanBound)
  (h:∀ (h':Heap) (tk:Nat) (zs:List Str),cK prog w h' s.heap.objs.size zs→(∀ x,x∈zs↔x∈ss)→zs.length≤items.size →
   (∀ b o,b < s.heap.objs.size→s.heap.get? b=some o→h'.get? b=some o)→Q (.ref s.heap.objs.size) { s with heap:=h',toks:=tk }) :
  wpAny (model prog w) A (call (.type "set") [.ref l]) Q E s:=by
 have hlen:ss.length=items.size:=by rw [← StrsAre.length hi,Array.length_toList]
 obtain ⟨c,tl,b81⟩:=F.called_set.mro
 have hmade:=F.called_set.made
 have hsub:=F.called_set.sub
 refine wpAny_call (codeAny_of_tree ?_)
 show wpAny _ _ (callAny (.type "set") _) _ _ _
 refine wpAny_pure ⟨Code.quiet_builtin _ (by decide +kernel),codeAny_builtin F.entry_type_call ?_⟩
 rw [Around.under_plain (weight_type_call_type "set" [.ref l] []) rfl]
 have h1:=F.called_set.notType
 have h2:=F.called_set.canCreate
 have hct:=F.typeCall_set_1 (.ref l)
 repeat (any_goals (first | assumption | wp_step))
 refine codeAny_mono (pF (.ref l) (E:=E) (Q₁:=fun obj s₁=>obj=.ref s.heap.objs.size∧s₁={ s with heap:=s.heap.push { cls:=.type "set",dict:=none,data:=.set #[] 0 (.fresh 0 0 (!w.params.followText "set-order")) } }) ⟨rfl,rfl⟩) fun r s₁ hr=>?_
 cases r with
 | error e=>exact hr
 | ok fl =>
  cases fl with
  | ret obj =>
   obtain ⟨rfl,rfl⟩:=hr
   have hS:(s.heap.push { cls:=.type "set",dict:=none,data:=.set #[] 0 (.fresh 0 0 (!w.params.followText "set-order")) }).get? s.heap.objs.size=some { cls:=.type "set",dict:=none,data:=.set #[] 0 (.fresh 0 0 (!w.params.followText "set-order")) }:=Heap.get?_push_size _ rfl
   have hT:Shared.TypeIs { s with heap:=s.heap.push { cls:=.type "set",dict:=none,data:=.set #[] 0 (.fresh 0 0 (!w.params.followText "set-order")) } } (.ref s.heap.objs.size) "set":=⟨_,hS,rfl⟩
   have hli:=F.called_set.init.lookup
   have hbi:=F.called_set.init.bind (.ref s.heap.objs.size)
   repeat (any_goals (first | assumption | wp_step))
   refine codeAny_mono (codeAny_call_builtin (R:=wants (fun r s₂=>r=.none∧∃ h' tk zs,s₂={ s with heap:=h',toks:=tk }∧cK prog w h' s.heap.objs.size zs∧(∀ x,x∈zs↔x∈ss)∧zs.length≤items.size ∧
     (∀ b o,b < s.heap.objs.size→s.heap.get? b=some o→h'.get? b=some o)) E) F.called_set.init.plain F.entry_set_init (check_set_init_1 hT ?_)) fun r₂ s₂ hr₂=>?_
   ·obtain ⟨ol,hol,hcl,nl,hdl⟩:=hl
    obtain ⟨b3Q,OQ,a2a,Ir⟩:=ol
    simp only at hcl hdl
    subst hcl;subst hdl
    have Zx:(s.heap.push { cls:=.type "set",dict:=none,data:=.set #[] 0 (.fresh 0 0 (!w.params.followText "set-order")) }).get? l=some { cls:=.type "list",dict:=OQ,data:=.seq items nl,slots:=Ir }:=Heap.get?_push_of_some _ hol
    have b8S:=F.sub_list_set
    have b8T:=F.sub_list_frozenset
    have hne:(Value.type "list" == Value.type "dict")=false:=by decide
    have hl1:(s.heap.push { cls:=.type "set",dict:=none,data:=.set #[] 0 (.fresh 0 0 (!w.params.followText "set-order")) }).IsList l items:=⟨_,Zx,rfl,nl,rfl⟩
    unfold Builtin.«set.__init__» noKeywords Builtin.Frozenset.updateFrom
    generalize hPI:pyIter=PI
    wp_walk
    subst hPI
    refine wpAny_pyIter_list hl1 ?_
    refine wpAny_bind (wpAny_runValue ?_)
    have hlS:l < s.heap.objs.size:=Heap.lt_size hol
    have hh3:A.in1.in1.in1.handled=none:=by simp [hh]
    have Zz:l≠(s.heap.push { cls:=.type "set",dict:=none,data:=.set #[] 0 (.fresh 0 0 (!w.params.followText "set-order")) }).objs.size:=by rw [Heap.size_push];exact Nat.ne_of_lt (Nat.lt_succ_of_lt hlS)
    have hSf:s.heap.objs.size ∉ [(s.heap.push { cls:=.type "set",dict:=none,data:=.set #[] 0 (.fresh 0 0 (!w.params.followText "set-order")) }).objs.size,l]:=by
     rw [Heap.size_push];simp only [List.mem_cons,List.mem_singleton,List.not_mem_nil,or_false,not_or]
     exact ⟨Nat.ne_of_lt (Nat.lt_succ_self _),Nat.ne_of_gt hlS⟩
    refine CF ((Walks.list hh3 _ l Zz items).toS) s.heap.objs.size hSf ss hlen (fun i v _ hv=>StrsAre.M7 hi i v (by rw [Array.getElem?_toList];exact hv)) hb (items.size - 0) 0 _ [] (by omega) (Nat.zero_le _)
     ⟨⟨_,Heap.get?_push_size _ rfl,rfl,rfl⟩,(hl1.push _)⟩ ?hS0 (Nat.le_refl _) (fun x=>by simp) ?hR
    case hS0 =>
     have hget:((s.heap.push { cls:=.type "set",dict:=none,data:=.set #[] 0 (.fresh 0 0 (!w.params.followText "set-order")) }).push { cls:=.type "list_iterator",data:=.fields #[.ref l,.int 0 0] }).get? s.heap.objs.size=some { cls:=.type "set",dict:=none,data:=.set #[] 0 (.fresh 0 0 (!w.params.followText "set-order")) }:=Heap.get?_push_of_some _ hS
     exact ⟨_,#[],0,_,hget,⟨rfl,rfl,rfl⟩,rfl,(fun e he=>by simp at he),(fun e he=>by simp at he),rfl,.nil,by decide,by rfl,rfl,.inr rfl⟩
    case hR =>
     intro s' zs hm hS' RA hmem
     obtain ⟨h',g',d',tk',os'⟩:=s'
     have eg:g'=s.gens:=hm.gens
     have ed:d'=s.drawn:=hm.drawn
     have eo:os'=s.os:=hm.os
     subst eg;subst ed;subst eo
     show wpAny _ _ _ _ _ _
     refine wpAny_pure ?_
     show wpAny _ _ (ret Value.none) _ _ _
     refine wpAny_pure ⟨rfl,h',tk',zs,rfl,hS',hmem,RA,fun b o hb e=>?_⟩
     have hb1:b≠s.heap.objs.size:=Nat.ne_of_lt hb
     have hb2:b≠(s.heap.push { cls:=.type "set",dict:=none,data:=.set #[] 0 (.fresh 0 0 (!w.params.followText "set-order")) }).objs.size:=by rw [Heap.size_push];exact Nat.ne_of_lt (Nat.lt_succ_of_lt hb)
     exact hm.heap b o (by simp only [List.mem_cons,List.mem_singleton,List.not_mem_nil,or_false,not_or];exact ⟨hb1,hb2⟩) (Heap.get?_push_of_some _ (Heap.get?_push_of_some _ e))
   ·cases r₂ with
    | error e=>exact hr₂
    | ok fl₂ =>
     cases fl₂ with
     | ret r =>
      obtain ⟨rfl,h',tk,zs,rfl,hS',hmem,RA,hk'⟩:=hr₂
      repeat (any_goals (first | assumption | wp_step))
      exact h _ _ zs hS' hmem RA hk'
     | _=>exact hr₂.elim
  | _=>exact hr.elim
end
end PySem
namespace PySem
open L2 PyProof.Rows
namespace F
theorem vU:entryFor table "set.__iter__"=some Builtin.«frozenset.__iter__»:=entryFor_alias (id':="frozenset.__iter__") (by kernel_rfl) rfl (by decide +kernel) (by kernel_rfl)
theorem qB:Manifest.owners.lookup (String.ofList ['r','o','t','a','r','e','t','i','_','t','e','s'].reverse)=some Manifest.sig_set_iterator:=by kernel_rfl
theorem aS:Slot "set_iterator" "__next__" "set_iterator.__next__" :=
 .of (owner:="set_iterator") (n:="__next__") (by rw [typeLookup_type,builtinLookup_eq_fast];kernel_rfl) (by decide +kernel) (by decide +kernel) (by decide +kernel)
  (by first | exact .inl (by decide +kernel) | exact .inr (by decide +kernel)) (by rw [isSubtype_type];kernel_rfl)
theorem eY:entryFor table "set_iterator.__next__"=some Builtin.«set_iterator.__next__»:=entryFor_of_tree (by kernel_rfl)
theorem eE (a:Value):argsOk "set_iterator.__next__" ⟨[a],[]⟩:=by
 unfold argsOk;rw [signature?_of (id:="set_iterator.__next__") (n:=['_','_','t','x','e','n','_','_']) (o:=['r','o','t','a','r','e','t','i','_','t','e','s']) (by kernel_rfl) qB];kernel_rfl
theorem ir:Slot "set_iterator" "__iter__" "set_iterator.__iter__" :=
 .of (owner:="set_iterator") (n:="__iter__") (by rw [typeLookup_type,builtinLookup_eq_fast];kernel_rfl) (by decide +kernel) (by decide +kernel) (by decide +kernel)
  (by first | exact .inl (by decide +kernel) | exact .inr (by decide +kernel)) (by rw [isSubtype_type];kernel_rfl)
theorem mL:entryFor table "set_iterator.__iter__"=some Builtin.«dict_keyiterator.__iter__» :=
 entryFor_alias (id':="dict_keyiterator.__iter__") (by kernel_rfl) rfl (by decide +kernel) (by kernel_rfl)
theorem l0 (a:Value):argsOk "set_iterator.__iter__" ⟨[a],[]⟩:=by unfold argsOk;kernel_rfl
end F
def tU (h:Heap) (I:Addr) (first:Value) (i:Nat) (a:Addr) (n ep:Nat):Prop :=
 ∃ o,h.get? I=some o∧o.cls=.type "set_iterator"∧o.data=.fields #[first,.int i 0,.ref a,.int n 0,.int ep 0]
def kR (h:Heap) (a:Addr) (es:Array (Int×Value)) (ep:Nat) (t:SetTable):Prop:=∃ o,h.get? a=some o∧o.data=.set es ep t∧t.fits es.size=true
theorem tU.typeIs {s:Shared} {I a:Addr} {first:Value} {i n ep:Nat} (x:tU s.heap I first i a n ep):s.TypeIs (.ref I) "set_iterator":=let ⟨o,ho,hc,_⟩:=x;⟨o,ho,hc⟩
section
variable {prog:Program} {w:World} {A:Around} {E:Value→Shared→Prop} {s:Shared} {I a tp:Addr} {i n ep:Nat} {es:Array (Int×Value)} {t:SetTable}
theorem ux {first:Value} {Q:Value→Shared→Prop} (hit:tU s.heap I first i a n ep) (h:Q (.ref I) s):wpAny (model prog w) A (pyIter (.ref I)) Q E s:=by
 refine wpAny_pyIter_slot hit.typeIs F.ir (wpAny_call_entry F.ir hit.typeIs F.mL ?_ (F.l0 _))
 show wpAny _ _ (ret (.ref I)) _ _ s
 exact wpAny_pure ⟨_,rfl,"set_iterator",_,hit.typeIs,F.aS.lookup,h⟩
end
end PySem
namespace PySem
open L2 PyProof.Rows
section
variable {prog:Program} {w:World} {A:Around} {E:Value→Shared→Prop} {s:Shared} {I a tp:Addr} {i n ep:Nat} {es:Array (Int×Value)} {t:SetTable}
theorem uv {es:Array (Int×Value)} {n:Nat} (hn:es.size=n):(((es.size:Nat):Int) != ((n:Nat):Int))=false:=by rw [hn];simp
theorem Ze {Q:Option Value→Shared→Prop} {ps:List Value} {k p:Nat} {tk:Tok} {ot:Obj} {e:Int×Value} (hit:tU s.heap I (.ref tp) i a n ep) (hs:kR s.heap a es ep t) (hn:es.size=n) (ht:s.heap.get? tp=some ot) (hd:ot.data=.seq ps.toArray k)
  (hp:ps[i]?=some (.int p tk)) (he:es[p]?=some e) (hQ:∀ h',tU h' I (.ref tp) (i+1) a n ep→Heap.SameBut I s.heap h'→Q (some e.2) { s with heap:=h' }):wpAny (model prog w) A (pyNext (.ref I)) Q E s:=by
 obtain ⟨o,ho,hc,hdo⟩:=id hit
 obtain ⟨os,hos,hds,hf⟩:=hs
 unfold pyNext
 refine wpAny_bind (wpAny_attempt (wpAny_callSpecial?_slot (name:=Str.ofString "__next__") hit.typeIs F.aS
  (wpAny_call_entry F.aS hit.typeIs F.eY ?_ (F.eE _))))
 show wpAny _ _ (fieldsOf (.ref I) >>= _) _ _ s
 refine wpAny_bind (wpAny_fieldsOf ho hdo ?_)
 dsimp only
 refine wpAny_bind (wpAny_setEntries_of hos hds hf ?_)
 rw [uv hn]
 simp only [Bool.false_eq_true,if_false]
 refine wpAny_bind (wpAny_seqItems ht hd ?_)
 dsimp only
 have hp':ps.toArray[(i:Int).toNat]?=some (.int p tk):=by rw [Int.toNat_natCast];simpa using hp
 rw [hp']
 dsimp only
 unfold setNextDrawn
 refine wpAny_bind (wpAny_bind (wpAny_setState_of hos hds hf ?_))
 dsimp only
 simp only [Int.toNat_natCast,bne_self_eq_false,Bool.false_eq_true,if_false,he]
 refine wpAny_pure ?_
 refine wpAny_bind (wpAny_setField ho hdo (by simp) (wpAny_pure ⟨_,rfl,wpAny_pure (hQ _ ?_ (Heap.SameBut.update ..))⟩))
 exact ⟨_,Heap.get?_update_self _ ho (Obj.isFreed_of_fields (Obj.data_mapFields hdo _)),(Obj.cls_mapFields ..).trans hc,by rw [Obj.data_mapFields hdo];simp [rawInt]⟩
theorem a3f {Q:Option Value→Shared→Prop} {ps:List Value} {k:Nat} {ot:Obj} (hh:A.handled=none) (hit:tU s.heap I (.ref tp) i a n ep) (hs:kR s.heap a es ep t) (hn:es.size=n) (ht:s.heap.get? tp=some ot) (hd:ot.data=.seq ps.toArray k)
  (hp:ps[i]?=none) (hQ:∀ h',(∀ b o,b≠I→s.heap.get? b=some o→h'.get? b=some o)→Q none { s with heap:=h' }):wpAny (model prog w) A (pyNext (.ref I)) Q E s:=by
 obtain ⟨o,ho,hc,hdo⟩:=id hit
 obtain ⟨os,hos,hds,hf⟩:=hs
 unfold pyNext
 refine wpAny_bind (wpAny_attempt (wpAny_callSpecial?_slot (name:=Str.ofString "__next__") hit.typeIs F.aS
  (wpAny_call_entry F.aS hit.typeIs F.eY ?_ (F.eE _))))
 show wpAny _ _ (fieldsOf (.ref I) >>= _) _ _ s
 refine wpAny_bind (wpAny_fieldsOf ho hdo ?_)
 dsimp only
 refine wpAny_bind (wpAny_setEntries_of hos hds hf ?_)
 rw [uv hn]
 simp only [Bool.false_eq_true,if_false]
 refine wpAny_bind (wpAny_seqItems ht hd ?_)
 dsimp only
 have hp':ps.toArray[(i:Int).toNat]?=none:=by rw [Int.toNat_natCast];simpa using hp
 rw [hp']
 dsimp only
 refine wpAny_bind (wpAny_setField ho hdo (by simp) ?_)
 have Zy:=Heap.get?_update_self (Obj.mapFields (·.setIfInBounds 0 (rawInt 0))) ho (Obj.isFreed_of_fields (Obj.data_mapFields hdo _))
 refine wpAny_bind (wpAny_setField Zy (Obj.data_mapFields hdo _) (by simp) ?_)
 show wpAny _ _ (newExc (.type "StopIteration") [] >>= _) _ _ _
 refine wpAny_bind ?_
 simp only [newExc,newTuple]
 refine wpAny_bind (wpAny_newObj_type ?_ (by size_fits))
 refine wpAny_bind (m:=firstArgMember _ _) (wpAny_of_eq (a:=Value.none) (by first | rfl | (simp only [firstArgMember];rfl)) ?_)
 refine wpAny_newObj_type ?_ (by size_fits)
 simp only [raiseNew]
 refine wpAny_bind (wpAny_handled ?_)
 rw [show A.in1.handled=none from hh]
 refine wpAny_bind (wpAny_pure (wpAny_throw ?_))
 refine wpAny_bind (wpAny_isInstance (T:="StopIteration") (b:=true) ⟨_,Heap.get?_push_size _ rfl,rfl⟩ isSubtype_stop ?_)
 refine wpAny_pure (hQ _ fun b o' hb e=>?_)
 exact Heap.get?_push_of_some _ (Heap.get?_push_of_some _ ((Heap.get?_update_other _ _ (Ne.symm hb)).trans ((Heap.get?_update_other _ _ (Ne.symm hb)).trans e)))
theorem AU {Q:Option Value→Shared→Prop} {sl:Nat} {r:Option (Value×Nat)} (hh:A.handled=none) (hit:tU s.heap I (.int sl 0) i a n ep) (hs:kR s.heap a es ep t) (hn:es.size=n)
  (hr:∀ (A':Around) (E':Value→Shared→Prop) (Q':Option (Value×Nat)→Shared→Prop),Q' r s→wpAny (model prog w) A' (setNext a sl i ep) Q' E' s)
  (hQ:∀ x nx h',r=some (x,nx)→tU h' I (.int nx 0) (i+1) a n ep→Heap.SameBut I s.heap h'→Q (some x) { s with heap:=h' })
  (hE:r=none→∀ h',(∀ b o,b≠I→s.heap.get? b=some o→h'.get? b=some o)→Q none { s with heap:=h' }):wpAny (model prog w) A (pyNext (.ref I)) Q E s:=by
 obtain ⟨o,ho,hc,hdo⟩:=id hit
 obtain ⟨os,hos,hds,hf⟩:=hs
 unfold pyNext
 refine wpAny_bind (wpAny_attempt (wpAny_callSpecial?_slot (name:=Str.ofString "__next__") hit.typeIs F.aS
  (wpAny_call_entry F.aS hit.typeIs F.eY ?_ (F.eE _))))
 show wpAny _ _ (fieldsOf (.ref I) >>= _) _ _ s
 refine wpAny_bind (wpAny_fieldsOf ho hdo ?_)
 dsimp only
 refine wpAny_bind (wpAny_setEntries_of hos hds hf ?_)
 rw [uv hn]
 simp only [Bool.false_eq_true,if_false,Int.toNat_natCast]
 refine wpAny_bind (hr _ _ _ ?_)
 cases r with
 | some q =>
  obtain ⟨x,nx⟩:=q
  dsimp only
  refine wpAny_bind (wpAny_setField ho hdo (by simp) ?_)
  have Zy:=Heap.get?_update_self (Obj.mapFields (·.setIfInBounds 0 (rawInt nx))) ho (Obj.isFreed_of_fields (Obj.data_mapFields hdo _))
  refine wpAny_bind (wpAny_setField Zy (Obj.data_mapFields hdo _) (by simp) (wpAny_pure ⟨_,rfl,wpAny_pure (hQ x nx _ rfl ?_ ((Heap.SameBut.update ..).trans (Heap.SameBut.update ..)))⟩))
  exact ⟨_,Heap.get?_update_self _ Zy (Obj.isFreed_of_fields (Obj.data_mapFields (Obj.data_mapFields hdo _) _)),((Obj.cls_mapFields ..).trans (Obj.cls_mapFields ..)).trans hc,by rw [Obj.data_mapFields (Obj.data_mapFields hdo _)];simp [rawInt]⟩
 | none =>
  dsimp only
  refine wpAny_bind (wpAny_setField ho hdo (by simp) ?_)
  show wpAny _ _ (newExc (.type "StopIteration") [] >>= _) _ _ _
  refine wpAny_bind ?_
  simp only [newExc,newTuple]
  refine wpAny_bind (wpAny_newObj_type ?_ (by size_fits))
  refine wpAny_bind (m:=firstArgMember _ _) (wpAny_of_eq (a:=Value.none) (by first | rfl | (simp only [firstArgMember];rfl)) ?_)
  refine wpAny_newObj_type ?_ (by size_fits)
  simp only [raiseNew]
  refine wpAny_bind (wpAny_handled ?_)
  rw [show A.in1.handled=none from hh]
  refine wpAny_bind (wpAny_pure (wpAny_throw ?_))
  refine wpAny_bind (wpAny_isInstance (T:="StopIteration") (b:=true) ⟨_,Heap.get?_push_size _ rfl,rfl⟩ isSubtype_stop ?_)
  refine wpAny_pure (hE rfl _ fun b o' hb e=>?_)
  exact Heap.get?_push_of_some _ (Heap.get?_push_of_some _ ((Heap.get?_update_other _ _ (Ne.symm hb)).trans e))
end
end PySem
namespace PySem
open L2 PyProof.Rows
theorem q8 {α:Type}:∀ {l:List α} {i:Nat} (h:i < l.length),List.Perm (l[i]::l.eraseIdx i) l
 | x::r,0,_=>.refl _
 | x::r,i+1,h=>by
  have hi:i < r.length:=by simpa using h
  show List.Perm (r[i]::x::r.eraseIdx i) (x::r)
  exact (List.Perm.swap ..).trans (.cons _ (q8 hi))
theorem zH {α:Type} (next:Nat→Nat):∀ (n k:Nat) (l:List α) (out:Array α),l.length=n→List.Perm (pickOrder.go next n k l out).toList (out.toList++l)
 | 0,k,l,out,h=>by
  have:l=[]:=List.length_eq_zero_iff.mp h
  subst this
  unfold pickOrder.go
  simp
 | n+1,k,l,out,h=>by
  unfold pickOrder.go
  have hi:next k % l.length < l.length:=Nat.mod_lt _ (by omega)
  rw [List.getElem?_eq_getElem hi]
  dsimp only
  refine (zH next n (k+1) (l.eraseIdx (next k % l.length)) (out.push l[next k % l.length]) (by rw [List.length_eraseIdx_of_lt hi];omega)).trans ?_
  rw [Array.toList_push,List.append_assoc]
  refine List.Perm.append_left _ ?_
  show List.Perm (l[next k % l.length]::l.eraseIdx (next k % l.length)) l
  exact q8 hi
theorem fX {α:Type} (next:Nat→Nat) (xs:Array α):List.Perm (pickOrder next xs).toList xs.toList:=by
 unfold pickOrder
 have:=zH next xs.size 0 xs.toList #[] (by simp)
 simpa using this
section
variable {M:Model} {A:Around} {E:Value→Shared→Prop} {s:Shared}
theorem yQ {src:Source} {n:Nat} {Q:Nat→Shared→Prop} (hn:n≠0) (h:∀ i d,i < n→Q i { s with drawn:=d }):wpAny M A (choose src n) Q E s:=by
 intro Γ p hΓ
 unfold choose
 rw [Sem.wp_choose]
 refine ⟨hn,?_⟩
 simp only [Sem.wp_pure]
 exact h _ _ (Nat.mod_lt _ (Nat.pos_of_ne_zero hn))
theorem uV {α:Type}:∀ (n:Nat) (xs:List α) (s:Shared) (Q:List α→Shared→Prop),xs.length=n→(∀ ys d,List.Perm ys xs→Q ys { s with drawn:=d })→wpAny M A (drawOrder n xs) Q E s
 | 0,xs,s,Q,hl,h=>by
  have:xs=[]:=List.length_eq_zero_iff.mp hl
  subst this
  unfold drawOrder
  have e:s={ s with drawn:=s.drawn }:=by cases s;rfl
  rw [e]
  exact wpAny_pure (h [] _ .nil)
 | n+1,xs,s,Q,hl,h=>by
  cases xs with
  | nil=>cases hl
  | cons x0 r0 =>
   unfold drawOrder
   refine wpAny_bind (yQ (by rw [hl];omega) fun i d hi=>?_)
   rw [List.getElem?_eq_getElem hi]
   dsimp only
   refine wpAny_bind (uV n _ _ _ (by rw [List.length_eraseIdx_of_lt hi,hl];omega) fun ys d' hp=>wpAny_pure ?_)
   exact h _ d' ((List.Perm.cons _ hp).trans (q8 hi))
end
section
variable {prog:Program} {w:World} {A:Around} {E:Value→Shared→Prop} {s:Shared} {I a tp:Addr} {i n ep:Nat} {es:Array (Int×Value)} {t:SetTable}
theorem zE {Q:Option (Value×Nat)→Shared→Prop} {sl:Nat} (hT:w.params.followText "set-order"=true) (hs:kR s.heap a es ep t)
  (h:Q (((pickOrder (w.params.setOrder a ep) es)[i]?).map fun e=>(e.2,sl)) s):wpAny (model prog w) A (setNext a sl i ep) Q E s:=by
 obtain ⟨o,ho,hd,hf⟩:=hs
 unfold setNext
 refine wpAny_bind (wpAny_setState_of ho hd hf ?_)
 dsimp only
 unfold setsByText
 refine wpAny_bind (wpAny_bind (wpAny_askSetting (wpAny_pure ?_)))
 show wpAny _ _ (if (w.params.followText "set-order")=true then _ else _) _ _ _
 rw [hT]
 simp only [if_true,bne_self_eq_false,Bool.false_eq_true,if_false]
 unfold setWalk
 refine wpAny_bind (wpAny_bind (wpAny_setState_of ho hd hf ?_))
 dsimp only
 unfold setsByText
 refine wpAny_bind (wpAny_bind (wpAny_askSetting (wpAny_pure ?_)))
 show wpAny _ _ (if (w.params.followText "set-order")=true then _ else _) _ _ _
 rw [hT]
 simp only [if_true]
 refine wpAny_bind (wpAny_askSetting (wpAny_pure (wpAny_pure ?_)))
 exact h
theorem zF {Q:Option (Value×Nat)→Shared→Prop} {sl:Nat} (hT:w.params.followText "set-order"=false) (hs:kR s.heap a es ep t) (hl:t.led=true) (hn:es.size≤1)
  (h:Q (match es[SetTable.below t.place sl]?,t.place[SetTable.below t.place sl]? with | some (_,x),some j=>some (x,j+1) | _,_=>none) s):wpAny (model prog w) A (setNext a sl i ep) Q E s:=by
 obtain ⟨o,ho,hd,hf⟩:=hs
 unfold setNext
 refine wpAny_bind (wpAny_setState_of ho hd hf ?_)
 dsimp only
 unfold setsByText
 refine wpAny_bind (wpAny_bind (wpAny_askSetting (wpAny_pure ?_)))
 show wpAny _ _ (if (w.params.followText "set-order")=true then _ else _) _ _ _
 rw [hT]
 simp only [Bool.false_eq_true,if_false]
 show wpAny _ _ (if ((!t.plain && decide (es.size > 1))=true) then _ else _) _ _ _
 rw [show decide (es.size > 1)=false from decide_eq_false (by omega),Bool.and_false]
 simp only [Bool.false_eq_true,if_false]
 refine wpAny_bind ?_
 show wpAny _ _ (if ((!t.led && !es.isEmpty)=true) then _ else _) _ _ _
 rw [hl]
 simp only [Bool.not_true,Bool.false_and,Bool.false_eq_true,if_false]
 exact wpAny_pure (wpAny_pure h)
end
end PySem
namespace PySem
open L2 PyProof.Rows
section
variable {prog:Program} {w:World} {A:Around} {E:Value→Shared→Prop} {s:Shared} {I a tp:Addr} {i n ep:Nat} {es:Array (Int×Value)} {t:SetTable}
theorem kR.at {h h':Heap} (x:kR h a es ep t) (k:∀ o,h.get? a=some o→h'.get? a=some o):kR h' a es ep t:=let ⟨o,ho,r⟩:=x;⟨o,k o ho,r⟩
theorem tU.at {h h':Heap} {first:Value} (x:tU h I first i a n ep) (k:∀ o,h.get? I=some o→h'.get? I=some o):tU h' I first i a n ep:=let ⟨o,ho,r⟩:=x;⟨o,k o ho,r⟩
theorem RL (hT:w.params.followText "set-order"=true) (hh:A.handled=none) (hne:a≠I) (hn:es.size=n) :
  Walks prog w A I [I,a] [I] n (fun i v=>((pickOrder (w.params.setOrder a ep) es).toList.map (·.2))[i]?=some v) (fun i h=>(∃ sl:Nat,tU h I (.int sl 0) i a n ep)∧kR h a es ep t) where
 sub:=fun b hb=>by simp at hb;simp [hb]
 frame:=fun _ _ _ st hk=>⟨let ⟨sl,x⟩:=st.1;⟨sl,x.at fun o e=>hk I (by simp) o e⟩,st.2.at fun o e=>hk a (by simp) o e⟩
 item:=fun i s Q E hi st hQ=>by
  obtain ⟨⟨sl,x⟩,tb⟩:=st
  have hp:(pickOrder (w.params.setOrder a ep) es).size=n:=by rw [← Array.length_toList,(fX _ es).length_eq,Array.length_toList,hn]
  have hg:(pickOrder (w.params.setOrder a ep) es)[i]?=some ((pickOrder (w.params.setOrder a ep) es)[i]'(by omega)):=by simp [hp,hi]
  refine AU hh x tb hn (fun A' E' Q' q=>zE hT tb q) (fun v nx h' e x' sb=>?_) (fun e=>?_)
  ·rw [hg] at e
   cases e
   refine hQ _ h' s.toks ?_ ⟨⟨_,x'⟩,tb.at fun o e=>(sb.2 a hne).trans e⟩ fun b o hb e=>(sb.2 b (fun h=>hb (by simp [h]))).trans e
   rw [List.getElem?_map,Array.getElem?_toList,hg]
   rfl
  ·rw [hg] at e
   cases e
 done:=fun s Q E st hQ=>by
  obtain ⟨⟨sl,x⟩,tb⟩:=st
  have hp:(pickOrder (w.params.setOrder a ep) es).size=n:=by rw [← Array.length_toList,(fX _ es).length_eq,Array.length_toList,hn]
  have hg:(pickOrder (w.params.setOrder a ep) es)[n]?=none:=by simp [hp]
  refine AU hh x tb hn (fun A' E' Q' q=>zE hT tb q) (fun v nx h' e x' sb=>?_) (fun e h' kp=>?_)
  ·rw [hg] at e
   cases e
  ·exact hQ h' s.toks fun b o hb e=>kp b o (fun h=>hb (by simp [h])) e
 self:=fun _ _ _ _ st hQ=>let ⟨⟨_,x⟩,_⟩:=st;ux x hQ
theorem a5q {α:Type} {l:Array α} (h:l.size=1):∃ j,l=#[j]:=by
 obtain ⟨l⟩:=l
 match l,h with
 | [j],_=>exact ⟨j,rfl⟩
theorem K1 (j:Nat):SetTable.below #[j] 0=0:=by simp [SetTable.below,SetTable.below.go]
theorem below_1 (j:Nat):SetTable.below #[j] (j+1)=1:=by simp [SetTable.below,SetTable.below.go]
def slS (t:SetTable):Nat→Nat
 | 0=>0
 | _+1=>t.place.getD 0 0+1
theorem RM (hT:w.params.followText "set-order"=false) (hh:A.handled=none) (hne:a≠I) (hn:es.size=n) (h1:n≤1) (hl:t.led=true) (hf:t.fits es.size=true) :
  Walks prog w A I [I,a] [I] n (fun i v=>(es.toList.map (·.2))[i]?=some v) (fun i h=>tU h I (.int (slS t i) 0) i a n ep∧kR h a es ep t) where
 sub:=fun b hb=>by simp at hb;simp [hb]
 frame:=fun _ _ _ st hk=>⟨st.1.at fun o e=>hk I (by simp) o e,st.2.at fun o e=>hk a (by simp) o e⟩
 item:=fun i s Q E hi st hQ=>by
  obtain ⟨x,tb⟩:=st
  have i0:i=0:=by omega
  have n1:n=1:=by omega
  subst i0;subst n1
  have hp:t.place.size=1:=by simp only [SetTable.fits,Bool.and_eq_true,beq_iff_eq] at hf;omega
  obtain ⟨j,hj⟩:=a5q hp
  refine AU hh x tb hn (fun A' E' Q' q=>zF hT tb hl (by omega) q) (fun v nx h' e x' sb=>?_) (fun e=>?_)
  ·have hz:slS t 0=0:=rfl
   rw [hz,hj,K1] at e
   have h0:es[0]?=some (es[0]'(by omega)):=by simp [hn]
   rw [h0] at e
   simp at e
   obtain ⟨e1,e2⟩:=e
   refine hQ _ h' s.toks ?_ ⟨?_,tb.at fun o e=>(sb.2 a hne).trans e⟩ fun b o hb e=>(sb.2 b (fun h=>hb (by simp [h]))).trans e
   ·rw [List.getElem?_map,Array.getElem?_toList,h0,← e1]
    rfl
   ·have:slS t 1=nx:=by show t.place.getD 0 0+1=nx;rw [hj,← e2];rfl
    rw [this]
    exact x'
  ·have hz:slS t 0=0:=rfl
   rw [hz,hj,K1] at e
   have h0:es[0]?=some (es[0]'(by omega)):=by simp [hn]
   rw [h0] at e
   simp at e
 done:=fun s Q E st hQ=>by
  obtain ⟨x,tb⟩:=st
  have hp:t.place.size=n:=by simp only [SetTable.fits,Bool.and_eq_true,beq_iff_eq] at hf;omega
  refine AU hh x tb hn (fun A' E' Q' q=>zF hT tb hl (by omega) q) (fun v nx h' e x' sb=>?_) (fun e h' kp=>?_)
  ·exfalso
   have:n=0∨n=1:=by omega
   rcases this with z | z
   ·subst z
    have h0:es=#[]:=by simpa using hn
    rw [h0] at e
    simp at e
   ·subst z
    obtain ⟨j,hj⟩:=a5q hp
    have hz:slS t 1=j+1:=by show t.place.getD 0 0+1=j+1;rw [hj];rfl
    rw [hz,hj,below_1] at e
    have h0:es[1]?=none:=by simp [hn]
    rw [h0] at e
    simp at e
  ·exact hQ h' s.toks fun b o hb e=>kp b o (fun h=>hb (by simp [h])) e
 self:=fun _ _ _ _ st hQ=>ux st.1 hQ
theorem RN {ps:List Nat} (hh:A.handled=none) (hne:a≠I) (htp:tp≠I) (hn:es.size=n) (hps:List.Perm ps (List.range n)) :
  Walks prog w A I [I,tp,a] [I] n (fun i v=>((ps.filterMap fun p=>es[p]?).map (·.2))[i]?=some v) (fun i h=>tU h I (.ref tp) i a n ep∧(∃ ot k,h.get? tp=some ot∧ot.data=.seq (ps.map fun p:Nat=>rawInt p).toArray k)∧kR h a es ep t) where
 sub:=fun b hb=>by simp at hb;simp [hb]
 frame:=fun _ _ _ st hk=>⟨st.1.at fun o e=>hk I (by simp) o e,let ⟨ot,k,e,d⟩:=st.2.1;⟨ot,k,hk tp (by simp) _ e,d⟩,st.2.2.at fun o e=>hk a (by simp) o e⟩
 item:=fun i s Q E hi st hQ=>by
  obtain ⟨x,⟨ot,k,et,dt⟩,tb⟩:=st
  have hpl:ps.length=n:=by rw [hps.length_eq,List.length_range]
  have hpi:ps[i]?=some (ps[i]'(by omega)):=List.getElem?_eq_getElem _
  have hlt:ps[i]'(by omega) < n:=List.mem_range.mp (hps.mem_iff.mp (List.getElem_mem _))
  have he:es[ps[i]'(by omega)]?=some (es[ps[i]'(by omega)]'(by omega)):=by simp [hn,hlt]
  have hall:∀ q:List Nat,(∀ p∈q,p < n)→(q.filterMap fun p=>es[p]?)=q.map fun p=>es.getD p (0,.none):=by
   intro q
   induction q with
   | nil=>intro _;rfl
   | cons p r ih =>
    intro hq
    have h1:=hq p (List.mem_cons_self ..)
    rw [List.filterMap_cons_some (b:=es.getD p (0,.none)) (by simp [hn,h1]),ih fun p hp=>hq p (List.mem_cons_of_mem _ hp)]
    rfl
  refine Ze x tb hn et dt (p:=ps[i]'(by omega)) (tk:=0) (by rw [List.getElem?_map,hpi];rfl) he fun h' x' sb=>?_
  refine hQ _ h' s.toks ?_ ⟨x',⟨ot,k,(sb.2 tp htp).trans et,dt⟩,tb.at fun o e=>(sb.2 a hne).trans e⟩ fun b o hb e=>(sb.2 b (fun h=>hb (by simp [h]))).trans e
  rw [hall ps (fun p hp=>List.mem_range.mp (hps.mem_iff.mp hp)),List.map_map,List.getElem?_map,hpi]
  simp [hn,hlt]
 done:=fun s Q E st hQ=>by
  obtain ⟨x,⟨ot,k,et,dt⟩,tb⟩:=st
  have hpl:ps.length=n:=by rw [hps.length_eq,List.length_range]
  exact a3f hh x tb hn et dt (by rw [List.getElem?_map,List.getElem?_eq_none (by omega)];rfl) fun h' kp=>hQ h' s.toks fun b o hb e=>kp b o (fun h=>hb (by simp [h])) e
 self:=fun _ _ _ _ st hQ=>ux st.1 hQ
end
end PySem
namespace PySem
open L2 PyProof.Rows
theorem strs_map:∀ {L:List (Int×Value)},(∀ e∈L,∃ z k,e.2=Value.str z k)→StrsAre (L.map (·.2)) (L.map fun e=>strOf e.2)
 | [],_=>.nil
 | e::r,h=>by
  obtain ⟨z,k,q⟩:=h e (List.mem_cons_self ..)
  show StrsAre (e.2::r.map (·.2)) (strOf e.2::r.map fun e=>strOf e.2)
  rw [q]
  exact .cons z k (strs_map fun e he=>h e (List.mem_cons_of_mem _ he))
section
variable {prog:Program} {w:World} {A:Around} {E:Value→Shared→Prop} {s:Shared} {a:Addr}
theorem P0 {zs:List Str} {Q:Value→Shared→Prop} (hS:cK prog w s.heap a zs)
  (hQ:∀ (I:Addr) (fp:List Addr) (St:Nat→Heap→Prop) (vs:List Value) (zs':List Str) (h':Heap) (d:Drawn),(∀ A':Around,A'.handled=none→Walks prog w A' I fp [I] zs.length (fun i v=>vs[i]?=some v) St)→St 0 h'→StrsAre vs zs'→List.Perm zs' zs →
   (∀ b o,s.heap.get? b=some o→h'.get? b=some o)→s.heap.objs.size≤I→(∀ b∈fp,b=a∨s.heap.objs.size≤b)→Q (.ref I) { s with heap:=h',drawn:=d }):wpAny (model prog w) A (pyIter (.ref a)) Q E s:=by
 obtain ⟨o,es,ep,t,ho,hex,hd,hel,hst,hzs,hnd,hb,hf,kJ,hpl⟩:=hS
 have hn:es.size=zs.length:=by rw [← hzs,List.length_map,Array.length_toList]
 have hTy:s.TypeIs (.ref a) "set":=⟨o,ho,hex.1⟩
 have hlt:a < s.heap.objs.size:=Heap.lt_size ho
 refine wpAny_pyIter_slot hTy F.slot_set_iter (wpAny_call_entry F.slot_set_iter hTy F.vU ?_ (F.args_set_iter_1 _))
 show wpAny _ _ (Builtin.Frozenset.sizeOf a >>= _) _ _ s
 unfold Builtin.Frozenset.sizeOf
 refine wpAny_bind (wpAny_bind (wpAny_setEntries_of ho hd hf (wpAny_pure ?_)))
 unfold setDrawn
 refine wpAny_bind ?_
 refine wpAny_bind (wpAny_setState_of ho hd hf ?_)
 dsimp only
 unfold setsByText
 refine wpAny_bind (wpAny_bind (wpAny_askSetting (wpAny_pure (wpAny_pure ?_))))
 show wpAny _ _ (if (!(w.params.followText "set-order") && (!t.plain && decide (es.size > 1)))=true then _ else _) _ _ _
 cases hT:w.params.followText "set-order" with
 | true =>
  simp only [Bool.not_true,Bool.false_and,Bool.false_eq_true,if_false]
  refine wpAny_bind (wpAny_pure ?_)
  unfold setEpoch
  refine wpAny_bind (wpAny_bind (wpAny_setState_of ho hd hf (wpAny_pure ?_)))
  refine wpAny_bind (wpAny_newObj_type (wpAny_pure ⟨_,rfl,"set_iterator",_,⟨_,Heap.get?_push_size _ rfl,rfl⟩,F.aS.lookup,?_⟩))
  have e:∀ h':Heap,({ s with heap:=h' }:Shared)={ s with heap:=h',drawn:=s.drawn }:=fun _=>by cases s;rfl
  rw [e]
  refine hQ _ [s.heap.objs.size,a] _ _ _ _ _ (fun A' hA=>RL (ep:=ep) (t:=t) hT hA (Nat.ne_of_lt hlt) hn) ⟨⟨0,_,Heap.get?_push_size _ rfl,rfl,by simp [rawInt,hn]⟩,o,Heap.get?_push_of_some _ ho,hd,hf⟩ (strs_map fun e he=>hst e ((fX _ es).mem_iff.mp he)) ?_ (fun b o e=>Heap.get?_push_of_some _ e) (Nat.le_refl _) (fun b hb=>?_)
  ·rw [← hzs]
   exact (fX _ es).map _
  ·rcases List.mem_cons.mp hb with z | z
   ·exact .inr (by rw [z];exact Nat.le_refl _)
   ·exact .inl (List.mem_singleton.mp z)
 | false =>
  simp only [Bool.not_false,Bool.true_and]
  by_cases h1:es.size≤1
  ·rw [show decide (es.size > 1)=false from decide_eq_false (by omega),Bool.and_false]
   simp only [Bool.false_eq_true,if_false]
   refine wpAny_bind (wpAny_pure ?_)
   unfold setEpoch
   refine wpAny_bind (wpAny_bind (wpAny_setState_of ho hd hf (wpAny_pure ?_)))
   refine wpAny_bind (wpAny_newObj_type (wpAny_pure ⟨_,rfl,"set_iterator",_,⟨_,Heap.get?_push_size _ rfl,rfl⟩,F.aS.lookup,?_⟩))
   have e:∀ h':Heap,({ s with heap:=h' }:Shared)={ s with heap:=h',drawn:=s.drawn }:=fun _=>by cases s;rfl
   rw [e]
   rw [hT] at kJ
   refine hQ _ [s.heap.objs.size,a] _ _ _ _ _ (fun A' hA=>RM (ep:=ep) (t:=t) hT hA (Nat.ne_of_lt hlt) hn (by omega) kJ hf) ⟨⟨_,Heap.get?_push_size _ rfl,rfl,by simp [rawInt,hn,slS]⟩,o,Heap.get?_push_of_some _ ho,hd,hf⟩ (strs_map hst) (by rw [hzs]) (fun b o e=>Heap.get?_push_of_some _ e) (Nat.le_refl _) (fun b hb=>?_)
   rcases List.mem_cons.mp hb with z | z
   ·exact .inr (by rw [z];exact Nat.le_refl _)
   ·exact .inl (List.mem_singleton.mp z)
  ·have hp:t.plain=false:=hpl.resolve_right (by omega)
   rw [show decide (es.size > 1)=true from decide_eq_true (by omega),hp]
   simp only [Bool.not_false,Bool.and_self,if_true]
   refine wpAny_bind (uV _ _ _ _ (List.length_range ..) fun ps d hps=>?_)
   have Zv:ps.length=es.size:=by rw [hps.length_eq,List.length_range]
   refine wpAny_bind (wpAny_newTuple ?_ (by rw [List.length_map,Zv];exact fits_of_scanBound hb))
   unfold setEpoch
   refine wpAny_bind (wpAny_bind (wpAny_setState_of (Heap.get?_push_of_some _ ho) hd hf (wpAny_pure ?_)))
   refine wpAny_bind (wpAny_newObj_type (wpAny_pure ⟨_,rfl,"set_iterator",_,⟨_,Heap.get?_push_size _ rfl,rfl⟩,F.aS.lookup,?_⟩))
   dsimp only
   rw [Heap.size_push]
   have hall:∀ q:List Nat,(∀ p∈q,p < es.size)→∀ e∈(q.filterMap fun p=>es[p]?),e∈es.toList:=fun q _ e he=>by
    obtain ⟨p,_,z⟩:=List.mem_filterMap.mp he
    exact Array.mem_toList_iff.mpr (Array.mem_of_getElem? z)
   have hpe:List.Perm (ps.filterMap fun p=>es[p]?) es.toList:=by
    refine (hps.filterMap _).trans ?_
    have:=List.filterMap_getElem?_range_length es.toList
    rw [Array.length_toList] at this
    have e2:(fun p:Nat=>es[p]?)=fun p:Nat=>es.toList[p]?:=by funext p;rw [Array.getElem?_toList]
    rw [e2,this]
   refine hQ (s.heap.objs.size+1) [s.heap.objs.size+1,s.heap.objs.size,a] _ _ _ _ d (fun A' hA=>RN (ep:=ep) (t:=t) (tp:=s.heap.objs.size) hA (Nat.ne_of_lt (Nat.lt_succ_of_lt hlt)) (Nat.ne_of_lt (Nat.lt_succ_self _)) hn (by rw [← hn];exact hps)) ⟨⟨_,Heap.get?_push_at (by rw [Heap.size_push]) rfl,rfl,by simp [rawInt,hn]⟩,⟨_,_,Heap.get?_push_of_some _ (Heap.get?_push_size _ rfl),rfl⟩,o,Heap.get?_push_of_some _ (Heap.get?_push_of_some _ ho),hd,hf⟩ (strs_map fun e he=>hst e (hpe.mem_iff.mp he)) ?_ (fun b o e=>Heap.get?_push_of_some _ (Heap.get?_push_of_some _ e)) (Nat.le_succ _) (fun b hb=>?_)
   ·rw [← hzs]
    exact hpe.map _
   ·rcases List.mem_cons.mp hb with z | z
    ·exact .inr (by rw [z];exact Nat.le_succ _)
    ·rcases List.mem_cons.mp z with z | z
     ·exact .inr (by rw [z];exact Nat.le_refl _)
     ·exact .inl (List.mem_singleton.mp z)
end
end PySem
namespace PySem
open L2 PyProof.Rows
section
variable {prog:Program} {w:World} {A:Around} {E:Value→Shared→Prop} {s:Shared} {a:Addr} {zs:List Str}
theorem Qa {Q:Bool→Shared→Prop} (hT:s.TypeIs (.ref a) "set") (h:Q false s):wpAny (model prog w) A (Builtin.List.listLengthHint (.ref a)) Q E s:=by
 unfold Builtin.List.listLengthHint
 refine wpAny_bind (wpAny_specialOf hT PySem.F.slot_set_len.lookup ?_)
 generalize hid:("set.__len__":String)=id0
 wp_delta
 rw [show splitId id0=some ("set","__len__") from by subst hid;decide +kernel]
 subst hid
 refine wpAny_bind (wpAny_isInstance (T:="set") (b:=true) hT (by rw [isSubtype_type];kernel_rfl) ?_)
 refine wpAny_ite_split (fun hab=>absurd hab (by decide)) (fun _=>?_)
 refine wpAny_ite_split (fun _=>?_) (fun hab=>absurd (by decide +kernel) hab)
 refine wpAny_bind (wpAny_typeOf hT ?_)
 exact wpAny_pure h
theorem P5 {vs:List Value} {acc:Array Value} (h:ItemsOf (fun i v=>vs[i]?=some v) acc vs.length):acc.toList=vs:=by
 apply List.ext_getElem?
 intro i
 rw [Array.getElem?_toList]
 by_cases hi:i < acc.size
 ·rw [Array.getElem?_eq_getElem hi,h.2 i acc[i] (by simp [hi])]
 ·have h1:=h.1
  rw [Array.getElem?_eq_none (by omega),List.getElem?_eq_none (by omega)]
theorem Ui {R:Result→Shared→Prop} (hh:A.handled=none) (hS:cK prog w s.heap a zs) (S:Addr) (hSa:S≠a) (res:Value) (c₀:Nat) (hL:s.heap.get? S=some { cls:=.type "list",data:=.seq #[] c₀ })
  (hR:∀ h' tk d acc' c' zs',(∀ b o,b≠S→s.heap.get? b=some o→h'.get? b=some o)→h'.get? S=some { cls:=.type "list",dict:=none,data:=.seq acc' c',slots:=#[] }→StrsAre acc'.toList zs'→List.Perm zs' zs →
   R (.ok (.ret res)) { s with heap:=h',toks:=tk,drawn:=d }) (hn:zs.length≤sizeLine) :
  wpAny (model prog w) A.in1 (Builtin.List.listExtendWith (.ref S) (.ref a) res)
   (fun fin s'=>match fin with | .done f=>R (.ok f) s' | .again c'=>c'.quiet=true∧codeAny (model prog w) A c' R s') (fun e s'=>R (.error e) s') s:=by
 have hTy:s.TypeIs (.ref a) "set":=let ⟨o,_,_,_,ho,hex,_⟩:=hS;⟨o,ho,hex.1⟩
 have hSl:S < s.heap.objs.size:=Heap.lt_size hL
 unfold Builtin.List.listExtendWith
 refine wpAny_bind (wpAny_typeOf (T:="set") hTy ?_)
 have h1:Builtin.List.listSameRef (.ref S) (.ref a)=false:=by simp [Builtin.List.listSameRef,hSa]
 have nl:(Value.type "set" == Value.type "list")=false:=by decide
 have nt:(Value.type "set" == Value.type "tuple")=false:=by decide
 simp only [h1,nl,nt,Bool.or_false,Bool.false_eq_true,if_false]
 refine wpAny_bind (P0 hS fun I fp St vs zs' hI d W st hvs hp kp hIl hfp=>?_)
 have hvl:vs.length=zs.length:=by rw [StrsAre.length hvs,hp.length_eq]
 have hSf:S ∉ fp:=fun hm=>(hfp S hm).elim hSa fun z=>absurd hSl (Nat.not_lt.mpr z)
 have key:∀ (h:Heap) (c₁ tk:Nat),St 0 h→(∀ b o,b≠S→s.heap.get? b=some o→h.get? b=some o) →
   h.get? S=some { cls:=.type "list",data:=.seq #[] c₁ }→codeAny (model prog w) A (.builtin "list.extend.loop" ⟨[.ref S,.ref I,res],[]⟩) R { s with heap:=h,toks:=tk,drawn:=d }:=by
  intro h c₁ tk hst hk hS₁
  refine codeAny_extend_loopS (W A.in1 hh).toS hn S hSf res zs.length 0 _ #[] c₁ rfl (Nat.zero_le _) hst hS₁ (ItemsOf.nil _) fun s' acc' c' hm hS' hacc=>?_
  rw [Moved.eq_with hm]
  refine hR s'.heap s'.toks d acc' c' zs' (fun b o hb e=>hm.heap b o (fun hmem=>?_) (hk b o hb e)) hS' ?_ hp
  ·rcases List.mem_cons.mp hmem with e' | hmem
   ·exact hb e'
   ·exact absurd (Heap.lt_size e) (by rw [List.mem_singleton.mp hmem];exact Nat.not_lt.mpr hIl)
  ·rw [P5 (by rw [hvl];exact hacc)]
   exact hvs
 have hS₁:=kp S _ hL
 refine wpAny_bind (wpAny_holding (Qa (let ⟨o,ho,hc⟩:=hTy;⟨o,kp _ _ ho,hc⟩) ?_))
 refine wpAny_ite_split (fun _=>?_) (fun _=>wpAny_pure ⟨plainId_quiet PySem.F.plain_extend_loop _,key _ c₀ _ st (fun b o _ e=>kp b o e) hS₁⟩)
 refine wpAny_bind (wpAny_rule ?_)
 refine wpAny_bind ?_
 show wpAny _ _ (updateSeq S (·.push .none) >>= fun _=>updateSeq S (·.pop)) _ _ _
 refine wpAny_bind (wpAny_updateSeq hS₁ rfl ?_)
 have hS₂:=Heap.get?_update_self (Obj.mapSeq (·.push Value.none)) hS₁ rfl
 refine wpAny_updateSeq (hz:=by seq_fits) hS₂ rfl ?_
 have hS₃:=Heap.get?_update_self (Obj.mapSeq (·.pop)) hS₂ rfl
 refine wpAny_pure ⟨plainId_quiet PySem.F.plain_extend_loop _,key _ _ _ ?_ (fun b o hb e=>?_) hS₃⟩
 ·refine (W A.in1 hh).frame 0 _ _ st fun b hb o e=>?_
  have hbS:b≠S:=fun h=>hSf (h ▸ hb)
  exact (Heap.get?_update_other _ _ (Ne.symm hbS)).trans ((Heap.get?_update_other _ _ (Ne.symm hbS)).trans e)
 ·exact (Heap.get?_update_other _ _ (Ne.symm hb)).trans ((Heap.get?_update_other _ _ (Ne.symm hb)).trans (kp b o e))
theorem Q9 {R:List Value→Shared→Prop} (hh:A.handled=none) (hS:cK prog w s.heap a zs) (hn:zs.length≤sizeLine)
  (h:∀ (h':Heap) (tk:Nat) (d:Drawn) (acc:Array Value) (zs':List Str),(∀ b o,s.heap.get? b=some o→h'.get? b=some o)→StrsAre acc.toList zs'→List.Perm zs' zs→R acc.toList { s with heap:=h',toks:=tk,drawn:=d }) :
  wpAny (model prog w) A (collect (.ref a)) R E s:=by
 have hlt:a < s.heap.objs.size:=let ⟨o,_,_,_,ho,_⟩:=hS;Heap.lt_size ho
 unfold collect
 refine wpAny_bind (wpAny_runValue (codeAny_builtin entry_proto_collect' ?_))
 rw [Around.under_plainId PySem.F.plain_proto_collect _]
 show wpAny _ A.in1 (newList [] >>= fun l=>again (.builtin "list.__iadd__" ⟨[l,.ref a],[]⟩)) _ _ s
 refine wpAny_bind (wpAny_newObj_type ?_)
 refine wpAny_pure ⟨plainId_quiet PySem.F.plain_list_iadd _,codeAny_builtin entry_list_iadd' ?_⟩
 rw [Around.under_plainId PySem.F.plain_list_iadd _]
 have hS₁:(s.heap.push { cls:=.type "list",data:=.seq ([]:List Value).toArray }).get? s.heap.objs.size=some { cls:=.type "list",data:=.seq #[] }:=Heap.get?_push_size _ rfl
 show wpAny _ A.in1 (Builtin.List.listExtendWith (.ref s.heap.objs.size) (.ref a) (.ref s.heap.objs.size)) _ _ _
 have key:=Ui (A:=A) (s:={ s with heap:=s.heap.push { cls:=.type "list",data:=.seq ([]:List Value).toArray } })
  (R:=fun (q:Result) (s':Shared)=>∃ (h':Heap) (tk:Nat) (d:Drawn) (acc':Array Value) (c':Nat) (zs':List Str),q=.ok (.ret (.ref s.heap.objs.size))∧s'={ s with heap:=h',toks:=tk,drawn:=d } ∧
   (∀ b o,s.heap.get? b=some o→h'.get? b=some o)∧h'.get? s.heap.objs.size=some { cls:=.type "list",dict:=none,data:=.seq acc' c',slots:=#[] }∧StrsAre acc'.toList zs'∧List.Perm zs' zs)
  hh (hS.at fun o e=>Heap.get?_push_of_some _ e) s.heap.objs.size (Nat.ne_of_gt hlt) (.ref s.heap.objs.size) 0 hS₁
  (fun h' tk d acc' c' zs' hk hS' hacc hp=>⟨h',tk,d,acc',c',zs',rfl,rfl,fun b o e=>hk b o (Nat.ne_of_lt (Heap.lt_size e)) (Heap.get?_push_of_some _ e),hS',hacc,hp⟩) hn
 refine wpAny_mono key (fun fin s' x=>?_) fun e s' x=>?_
 ·cases fin with
  | done f =>
   obtain ⟨h',tk,d,acc',c',zs',e,rfl,hk,hS',hacc,hp⟩:=x
   cases e
   show wpAny _ A (load s.heap.objs.size >>= _) _ _ _
   refine wpAny_bind (wpAny_load hS' ?_)
   exact wpAny_pure (h h' tk d acc' zs' hk hacc hp)
  | again c₁ =>
   refine ⟨x.1,codeAny_mono x.2 fun q s₂ y=>?_⟩
   obtain ⟨h',tk,d,acc',c',zs',rfl,rfl,hk,hS',hacc,hp⟩:=y
   show wpAny _ A (load s.heap.objs.size >>= _) _ _ _
   refine wpAny_bind (wpAny_load hS' ?_)
   exact wpAny_pure (h h' tk d acc' zs' hk hacc hp)
 ·obtain ⟨_,_,_,_,_,_,e',_⟩:=x
  cases e'
end
end PySem
namespace L2
open PySem PySem.Spec PyProof.Rows Hw
def qq (P:Program) (w:World) (a:Addr) (ss:List Str):HO:=.ext fun h=>∃ zs,cK P w h a zs∧(∀ x,x∈zs↔x∈ss)∧zs.length < 64
section
variable {X:Cx}
theorem Inv.drew {pins:List (Addr×Obj)} {σ:St} {H:Hp} {s:Shared} (I:Inv X pins σ H s) (d:Drawn):Inv X pins σ H { s with drawn:=d }:=⟨I.ok,I.os,I.bare,I.base,I.loc,I.cell,I.free,I.ou,I.pin,I.hok,I.len⟩
theorem jS (hc:X.calm=true):ia X (.builtin "sorted") (fun xs H Q=>∃ (p:Addr) (ss:List Str),xs=[.ref p]∧H p=some (qq X.prog X.w p ss) ∧
  ∀ (l:Addr) (ys:List Str),H l=none→(∀ x,x∈ys↔x∈ss)→ys.Nodup→ys.length < 64→ys.Pairwise (fun a b=>Hw.lt b a=false)→Q (.ref l) (upd H l (.lst (ys.map V.str)))):=by
 intro pins s σ H xs us Q I r h
 obtain ⟨p,ss,rfl,hp,q⟩:=h
 obtain ⟨u,rfl,ru⟩:=vals1 r
 cases ru
 obtain ⟨⟨zs,hS,hm,h64⟩,_,_⟩:=I.hok p _ hp
 have hnd:zs.Nodup:=let ⟨_,_,_,_,_,_,_,_,_,_,n,_⟩:=hS;n
 have s64:64≤sizeLine:=by rw [sizeLine_eq];decide
 refine Calls.call_function_entry kind_sorted plain_sorted entry_sorted (args_sorted1 _) ?_
 unfold Builtin.«sorted»
 refine wpAny_bind (m:=checkCount "sorted" 1 1 _) (wpAny_pure (wpAny_bind (Q9 (A:=X.A.in1) (I.ok.hd hc) hS (by omega) fun h' tk d acc zs' kp hS' hpm=>?_)))
 have hla:acc.toList.length < 64:=by rw [StrsAre.length hS',hpm.length_eq];exact h64
 refine wpAny_bind (wpAny_newList ?_ (by omega))
 have ho:(h'.push (seqObj "list" acc.toList.toArray 0)).get? h'.objs.size=some (seqObj "list" acc.toList.toArray 0):=Heap.get?_push_size _ rfl
 refine wpAny_bind (wpAny_holding (wpAny_call_entry slot_list_sort ⟨_,ho,rfl⟩ entry_list_sort (list_sort_treeK (s:={ s with heap:=h'.push (seqObj "list" acc.toList.toArray 0),toks:=tk,drawn:=d }) strKind_oneLt ho hS'.keysOf (fun v1 v2 rest e=>keyKind_strs (by rw [← e];exact hS')) hla fun st' a1 a2=>⟨_,rfl,?_⟩) (args_list_sort _)))
 obtain ⟨ss',b1,b2,b3⟩:=sorted_out_str hS' a1 a2
 obtain ⟨e,he⟩:=sortedHeap_at (out:=(arrOf st').map (·.2)) ho
 have hss:(ss'.map V.str).length≤sizeLine:=by
  have h2:(ss'.map V.str).length=acc.toList.length:=by rw [List.length_map,b2.length_eq,← StrsAre.length hS']
  omega
 have L:=I.Dw (h':=sortedHeap (h'.push (seqObj "list" acc.toList.toArray 0)) h'.objs.size acc.toList ((arrOf st').map (·.2))) (a:=h'.objs.size) (o:=.lst (ss'.map V.str)) (t':=tk)
  (fun b u q=>by
   have l:=Heap.lt_size (kp b u q)
   rw [sortedHeap_old (Nat.ne_of_lt l) (by rw [Heap.size_push];exact Nat.lt_succ_of_lt l)]
   exact Heap.get?_push_of_some _ (kp b u q))
  (fun b u q=>Nat.ne_of_lt (Heap.lt_size (kp b u q)))
  ⟨hss,((arrOf st').map (·.2)).toList,e,qi b1,by rw [Array.toArray_toList];exact he⟩
 have hall:=b2.trans hpm
 exact wpAny_pure ⟨_,rfl,.ref h'.objs.size,_,L.2.drew d,rfl,q _ ss' L.1 (fun x=>(hall.mem_iff).trans (hm x)) (hall.nodup_iff.mpr hnd) (by rw [hall.length_eq];exact h64) (rR _ b3)⟩
end
end L2
namespace Hw
open PySem L2
theorem Np (z:Str) (lo hi:Option Int):(Txt.slice z lo hi).length≤z.length:=Txt.slice_le z _ _
end Hw
namespace L2
open PySem PySem.Spec PyProof.Rows Hw
section
variable {X:Cx}
end
end L2
namespace Hw
open PySem L2
theorem vh {ys:List Str} (h:ys.Pairwise (fun a b=>lt b a=false)) (n:ys.Nodup):ys.Pairwise (fun a b=>lt a b=true):=by
 unfold List.Nodup at n
 exact (h.and n).imp fun {a b} ⟨h1,h2⟩=>by
  rcases xP a b with z | z | z
  ·exact z
  ·exact absurd z h2
  ·rw [h1] at z;cases z
theorem zG:∀ {xs ys:List Str},xs.Pairwise (fun a b=>lt a b=true)→ys.Pairwise (fun a b=>lt a b=true)→(∀ x,x∈xs↔x∈ys)→xs=ys
 | [],[],_,_,_=>rfl
 | [],y::_,_,_,h=>absurd ((h y).mpr (List.mem_cons_self ..)) (fun z=>nomatch z)
 | x::_,[],_,_,h=>absurd ((h x).mp (List.mem_cons_self ..)) (fun z=>nomatch z)
 | x::xs,y::ys,p,q,h=>by
  obtain ⟨px,p'⟩:=List.pairwise_cons.mp p
  obtain ⟨qy,q'⟩:=List.pairwise_cons.mp q
  have e:x=y:=by
   rcases List.mem_cons.mp ((h x).mp (List.mem_cons_self ..)) with z | z
   ·exact z
   ·rcases List.mem_cons.mp ((h y).mpr (List.mem_cons_self ..)) with u | u
    ·exact u.symm
    ·have:=lt_trans (px y u) (qy x z)
     rw [qU] at this;cases this
  subst e
  have t:xs=ys:=zG p' q' fun z=>by
   constructor
   ·intro hz
    rcases List.mem_cons.mp ((h z).mp (List.mem_cons_of_mem _ hz)) with u | u
    ·subst u
     have:=px z hz
     rw [qU] at this;cases this
    ·exact u
   ·intro hz
    rcases List.mem_cons.mp ((h z).mpr (List.mem_cons_of_mem _ hz)) with u | u
    ·subst u
     have:=qy z hz
     rw [qU] at this;cases this
    ·exact u
  rw [t]
end Hw
namespace Hw
open PySem L2
end Hw
namespace Hw
open PySem L2
end Hw
namespace L2
open PySem PySem.Spec PyProof.Rows Hw
section
variable {X:Cx}
end
end L2
namespace Hw
open PySem L2
end Hw
namespace PySem.W
open PySem PySem.Spec PySem.Calls PyProof.Rows
section
variable {prog:Program} {w:World} {A:Around} {E:Value→Shared→Prop} {K:Frag} {x D:Addr} {ox:Obj}
end
end PySem.W
namespace L2
open PySem PySem.Spec PyProof.Rows
section
variable {X:Cx} {a C:Addr} {oe:Obj}
end
end L2
namespace PySem
section
variable {M:Model} {A:Around} {E:Value→Shared→Prop}
variable {nm q nm' q':Str} {C N W N':Addr} {bs bm bs' bm':List Value} {hdct c9f:Bool} {sn sn':List Str} {sub sub':List Value} {ab ab':Bool} {col col':Option Bool} {dd dd':Option Addr} {k0 k1 k2 k3 k5 j0 j1 j2 j3 j5:Option Value} {newId newId':String}
end
section
variable {M:Model} {A:Around} {E:Value→Shared→Prop} {s:Shared} {base:Heap} {env:Env} {outer:List Env} {L a C:Addr} {oe:Obj} {vs:Array Value}
end
end PySem
namespace L2
open PySem PySem.Spec PyProof.Rows
section
variable {X:Cx} {pn:List (Addr×Obj)} {xe:Value→Shared→Prop} {pins xx:List (Addr×Obj)} {σ:St} {H:Hp} {s:Shared} {a:Addr}
end
section
variable {X:Cx} {C W fI fW:Addr} {bm bmW:List Value} {xc n:Str} {i:Nat} {np hpos pos:Pos} {body:List Stmt} {b₀:Stmt} {suite:List Stmt} {tb:XK→TS} {ts:Addr→TS}
end
end L2
namespace Hw
open PySem L2
end Hw
namespace L2
open PySem PySem.Spec PyProof.Rows Hw
section
variable {X:Cx} {C:Addr} {k:Nat} {m:Str} {pos apos:Pos} {o:Expr} {ta:TE} {Z:Cz} {ps:List Str} {sp:Nat→Sp} {E:XK}
end
end L2
namespace Hw
open PySem L2
def jn (t:Bool) (A B:Cs):Cs:=if t then a5m A B else A++B
end Hw
namespace Hw
open PySem L2
section
variable {xs:List Str} {H H' ML:Hp} {d l P:Addr} {us:List V} {cs:List Cd}
end
end Hw
namespace L2
open PySem PySem.Spec PyProof.Rows
end L2
namespace Hw
open PySem L2
inductive Ar where
 | tx (s:Str)
 | sm (a:Ps) (n:Int)
 | Rv (l:List Str)
 | Vl (l:List (Ps×Int))
 | cd (c:Cd)
inductive aI where
 | flat (k:Nat) (at_:Int) (as:List Ar)
 | kO (at_:Int) (c:Cd) (t e:List aI)
 | rep (at_:Int) (c:Cd) (hs:List (Int×Cd)) (f:Option (Int×Ps×Int)) (b:List aI)
def Shp:Nat→List Ar→Prop
 | 0,as=>∃ x a n,as=[.tx x,.sm a n]
 | 1,as=>∃ x y a n b m,as=[.tx x,.tx y,.sm a n,.sm b m]
 | 2,as=>∃ x y a n,as=[.tx x,.tx y,.sm a n]
 | 3,as=>∃ x a n b m,as=[.tx x,.sm a n,.sm b m]
 | 4,as=>∃ x a n,as=[.tx x,.sm a n]
 | 5,as=>∃ c,as=[.cd c]
 | 6,as=>∃ l x q,as=[.Rv l,.tx x,.Vl q]
 | _,_=>False
mutual
def aI.dep:aI→Nat
 | .flat ..=>1
 | .kO _ _ t e=>max (gn t) (gn e)+1
 | .rep _ _ _ _ b=>gn b+1
def gn:List aI→Nat
 | []=>0
 | s::r=>max s.dep (gn r)
end
theorem tF {s:aI}:∀ {l:List aI},s∈l→s.dep≤gn l
 | a::r,h=>by
  unfold gn
  rcases List.mem_cons.mp h with e | e
  ·rw [e];exact Nat.le_max_left _ _
  ·exact Nat.le_trans (tF e) (Nat.le_max_right _ _)
structure Cy where
 z:Cz
 st:Addr
 lt:Addr
 dv:Addr
 ft:Addr
 pt:Addr
 mq:Addr
 cm:Addr
 cl:Addr
 ch:Addr
 rp:Addr
 hp:Addr
 pg:Addr
def fc (Y:Cy):Nat→Addr
 | 0=>Y.lt | 1=>Y.dv | 2=>Y.ft | 3=>Y.pt | 4=>Y.mq | 5=>Y.cm | 6=>Y.cl | 7=>Y.ch | _=>Y.rp
def kd:aI→Nat
 | .flat k _ _=>k
 | .kO ..=>7
 | .rep ..=>8
def UL (Z:Cz) (H:Hp) (u:V) (q:Ps×Int):Prop:=∃ p,u=.ref p∧bL Z.s H p q.1 q.2
def ArO (Z:Cz) (H:Hp):Ar→V→Prop
 | .tx s,v=>v=.str s
 | .sm a n,v=>∃ r,v=.ref r∧bL Z.s H r a n
 | .Rv l,v=>∃ r,v=.ref r∧H r=some (.tup (l.map V.str))
 | .Vl l,v=>∃ r us,v=.ref r∧H r=some (.tup us)∧us.length≤1000∧Paired (UL Z H) us l
 | .cd c,v=>bg Z H c v
def PrO (Z:Cz) (H:Hp) (hs:List (Int×Cd)) (v:V):Prop:=∃ t us,v=.ref t∧H t=some (.tup us)∧us.length≤1000∧Paired (fun u (q:Int×Cd)=>∃ r w,u=V.ref r∧H r=some (.tup [.int q.1,w])∧bg Z H q.2 w) us hs
def FlO (Z:Cz) (H:Hp):Option (Int×Ps×Int)→V→Prop
 | none,v=>v=.fP
 | some q,v=>∃ r d,v=.ref r∧H r=some (.tup [.int q.1,.ref d])∧bL Z.s H d q.2.1 q.2.2
def KJ:Nat→Int→List V→List (Str×V)
 | 0,at_,[a,b]=>aP "total" b (aP "name" a (aP "at" (.int at_) []))
 | 1,at_,[a,b,c,d]=>aP "by" d (aP "total" c (aP "word" b (aP "name" a (aP "at" (.int at_) []))))
 | 2,at_,[a,b,c]=>aP "place" c (aP "row" b (aP "name" a (aP "at" (.int at_) [])))
 | 3,at_,[a,b,c]=>aP "total" c (aP "place" b (aP "row" a (aP "at" (.int at_) [])))
 | 4,at_,[a,b]=>aP "size" b (aP "row" a (aP "at" (.int at_) []))
 | 5,at_,[a]=>aP "condition" a (aP "at" (.int at_) [])
 | 6,at_,[a,b,c]=>aP "given" c (aP "helper" b (aP "names" a (aP "at" (.int at_) [])))
 | _,_,_=>[]
def flC (at_:Int) (u:V) (t1 t2:Addr):List (Str×V):=aP "other" (.ref t2) (aP "then" (.ref t1) (aP "condition" u (aP "at" (.int at_) [])))
def flR (at_:Int) (u uh uf:V) (t2:Addr):List (Str×V):=aP "body" (.ref t2) (aP "falls" uf (aP "keeps" uh (aP "condition" u (aP "at" (.int at_) []))))
mutual
def bO (Y:Cy) (H:Hp):aI→V→Prop
 | .flat k at_ as,v=>∃ p dx us,v=.ref p∧Shp k as∧H p=some (.ins (fc Y k) dx (KJ k at_ us))∧Paired (fun u a=>ArO Y.z H a u) us as
 | .kO at_ c t e,v=>∃ p dx uc t1 t2 us ws,v=.ref p∧H p=some (.ins Y.ch dx (flC at_ uc t1 t2))∧bg Y.z H c uc∧H t1=some (.tup us)∧us.length≤1000∧bE Y H t us∧H t2=some (.tup ws)∧ws.length≤1000∧bE Y H e ws
 | .rep at_ c hs f b,v=>∃ p dx uc uh uf t2 ws,v=.ref p∧H p=some (.ins Y.rp dx (flR at_ uc uh uf t2))∧bg Y.z H c uc∧PrO Y.z H hs uh∧FlO Y.z H f uf∧H t2=some (.tup ws)∧ws.length≤1000∧bE Y H b ws
def bE (Y:Cy) (H:Hp):List aI→List V→Prop
 | [],us=>us=[]
 | s::l,us=>∃ u r,us=u::r∧bO Y H s u∧bE Y H l r
end
theorem ff {Y:Cy} {H:Hp}:∀ {l:List aI} {us:List V},bE Y H l us↔Paired (fun u s=>bO Y H s u) us l
 | [],us=>by
  unfold bE
  exact ⟨fun e=>e ▸ .nil,fun h=>by cases h;rfl⟩
 | c::cs,us=>by
  unfold bE
  constructor
  ·rintro ⟨u,r,rfl,d1,d2⟩
   exact .cons d1 (ff.mp d2)
  ·intro h
   cases h with
   | cons d1 d2=>exact ⟨_,_,rfl,d1,ff.mpr d2⟩
theorem UL.aE {Z:Cz} {H H':Hp} {u:V} {q:Ps×Int} (k:aD H H') (h:UL Z H u q):UL Z H' u q:=let ⟨p,e,d⟩:=h;⟨p,e,d.aE k⟩
theorem ArO.aE {Z:Cz} {H H':Hp} (k:aD H H'):∀ {a:Ar} {v:V},ArO Z H a v→ArO Z H' a v
 | .tx s,v,h=>h
 | .sm a n,v,⟨r,e,d⟩=>⟨r,e,d.aE k⟩
 | .Rv l,v,⟨r,e,d⟩=>⟨r,e,k.t _ _ d⟩
 | .Vl l,v,⟨r,us,e,d,ll,p⟩=>⟨r,us,e,k.t _ _ d,ll,L2.Paired.lT p fun _ _ z=>z.aE k⟩
 | .cd c,v,h=>bg.aE k h
theorem PrO.aE {Z:Cz} {H H':Hp} (k:aD H H') {hs:List (Int×Cd)} {v:V} (h:PrO Z H hs v):PrO Z H' hs v :=
 let ⟨t,us,e,et,ll,p⟩:=h;⟨t,us,e,k.t _ _ et,ll,L2.Paired.lT p fun _ _ ⟨r,w,e,er,d⟩=>⟨r,w,e,k.t _ _ er,d.aE k⟩⟩
theorem FlO.aE {Z:Cz} {H H':Hp} (k:aD H H'):∀ {f:Option (Int×Ps×Int)} {v:V},FlO Z H f v→FlO Z H' f v
 | none,v,h=>h
 | some q,v,⟨r,d,e,er,dd⟩=>⟨r,d,e,k.t _ _ er,dd.aE k⟩
mutual
theorem bO.aE {Y:Cy} {H H':Hp} (k:aD H H'):∀ {s:aI} {v:V},bO Y H s v→bO Y H' s v
 | .flat kk at_ as,v,h=>by
  unfold bO at h ⊢
  obtain ⟨p,dx,us,e,sh,ep,pp⟩:=h
  exact ⟨p,dx,us,e,sh,k.i _ _ _ _ ep,L2.Paired.lT pp fun _ _ z=>ArO.aE k z⟩
 | .kO at_ c t e,v,h=>by
  unfold bO at h ⊢
  obtain ⟨p,dx,uc,t1,t2,us,ws,e0,ep,hc,e1,l1,h1,e2,l2,h2⟩:=h
  exact ⟨p,dx,uc,t1,t2,us,ws,e0,k.i _ _ _ _ ep,hc.aE k,k.t _ _ e1,l1,bE.aE k h1,k.t _ _ e2,l2,bE.aE k h2⟩
 | .rep at_ c hs f b,v,h=>by
  unfold bO at h ⊢
  obtain ⟨p,dx,uc,uh,uf,t2,ws,e0,ep,hc,hh,hf,e2,l2,h2⟩:=h
  exact ⟨p,dx,uc,uh,uf,t2,ws,e0,k.i _ _ _ _ ep,hc.aE k,hh.aE k,hf.aE k,k.t _ _ e2,l2,bE.aE k h2⟩
theorem bE.aE {Y:Cy} {H H':Hp} (k:aD H H'):∀ {l:List aI} {us:List V},bE Y H l us→bE Y H' l us
 | [],us,h=>by unfold bE at h ⊢;exact h
 | c::cs,us,h=>by
  unfold bE at h ⊢
  obtain ⟨u,r,e,d1,d2⟩:=h
  exact ⟨u,r,e,bO.aE k d1,bE.aE k d2⟩
end
theorem cT {f:Str} {v:V} {fs:List (Str×V)}:(aP f v fs).lookup f=some v:=by rw [bz,if_pos rfl]
theorem lkF {f g:Str} {v w:V} {fs:List (Str×V)} (h:¬ g=f) (e:fs.lookup g=some w):(aP f v fs).lookup g=some w:=by rw [bz,if_neg h];exact e
theorem bx {f g:Str} {v w:V} {fs:List (Str×V)} (e:fs.lookup g=some w) (h:¬ g=f:=by decide +kernel):(aP f v fs).lookup g=some w:=lkF h e
theorem oV {f g:Str} {v:V} {fs:List (Str×V)} (h:¬ g=f) (e:fs.lookup g=none):(aP f v fs).lookup g=none:=by rw [bz,if_neg h];exact e
theorem jH {f g:Str} {v:V} {fs:List (Str×V)} (e:fs.lookup g=none) (h:¬ g=f:=by decide +kernel):(aP f v fs).lookup g=none:=oV h e
def RH (m:Str):Prop:=∀ f∈(["at","name","total","word","by","row","place","size","condition","names","helper","given","then","other","keeps","falls","body"]:List Str),¬ m=f
theorem qe {Y:Cy} {H:Hp} {s:aI} {v:V} (h:bO Y H s v):kd s < 9:=by
 cases s with
 | flat k at_ as =>
  unfold bO at h
  obtain ⟨p,dx,us,e,sh,_⟩:=h
  show k < 9
  match k,sh with
  | 0,_=>decide
  | 1,_=>decide
  | 2,_=>decide
  | 3,_=>decide
  | 4,_=>decide
  | 5,_=>decide
  | 6,_=>decide
 | kO=>show 7 < 9;decide
 | rep=>show 8 < 9;decide
theorem wV {Y:Cy} {H:Hp} {s:aI} {p:Addr} (h:bO Y H s (.ref p)) {m:Str} (nf:RH m):∃ dx fs,H p=some (.ins (fc Y (kd s)) dx fs)∧fs.lookup m=none:=by
 have no:∀ f,f∈(["at","name","total","word","by","row","place","size","condition","names","helper","given","then","other","keeps","falls","body"]:List Str)→¬ m=f:=nf
 cases s with
 | flat k at_ as =>
  unfold bO at h
  obtain ⟨q,dx,us,e,sh,ep,pp⟩:=h
  cases e
  refine ⟨dx,_,ep,?_⟩
  match k,sh with
  | 0,⟨_,_,_,e⟩=>subst e;cases pp with | cons a r=>cases r with | cons b r=>cases r;exact oV (no _ (by simp)) (oV (no _ (by simp)) (oV (no _ (by simp)) rfl))
  | 1,⟨_,_,_,_,_,_,e⟩=>subst e;cases pp with | cons a r=>cases r with | cons b r=>cases r with | cons c r=>cases r with | cons d r=>cases r;exact oV (no _ (by simp)) (oV (no _ (by simp)) (oV (no _ (by simp)) (oV (no _ (by simp)) (oV (no _ (by simp)) rfl))))
  | 2,⟨_,_,_,_,e⟩=>subst e;cases pp with | cons a r=>cases r with | cons b r=>cases r with | cons c r=>cases r;exact oV (no _ (by simp)) (oV (no _ (by simp)) (oV (no _ (by simp)) (oV (no _ (by simp)) rfl)))
  | 3,⟨_,_,_,_,_,e⟩=>subst e;cases pp with | cons a r=>cases r with | cons b r=>cases r with | cons c r=>cases r;exact oV (no _ (by simp)) (oV (no _ (by simp)) (oV (no _ (by simp)) (oV (no _ (by simp)) rfl)))
  | 4,⟨_,_,_,e⟩=>subst e;cases pp with | cons a r=>cases r with | cons b r=>cases r;exact oV (no _ (by simp)) (oV (no _ (by simp)) (oV (no _ (by simp)) rfl))
  | 5,⟨_,e⟩=>subst e;cases pp with | cons a r=>cases r;exact oV (no _ (by simp)) (oV (no _ (by simp)) rfl)
  | 6,⟨_,_,_,e⟩=>subst e;cases pp with | cons a r=>cases r with | cons b r=>cases r with | cons c r=>cases r;exact oV (no _ (by simp)) (oV (no _ (by simp)) (oV (no _ (by simp)) (oV (no _ (by simp)) rfl)))
 | kO at_ c t e =>
  unfold bO at h
  obtain ⟨q,dx,uc,t1,t2,us,ws,e0,ep,_⟩:=h
  cases e0
  exact ⟨dx,_,ep,oV (no _ (by simp)) (oV (no _ (by simp)) (oV (no _ (by simp)) (oV (no _ (by simp)) rfl)))⟩
 | rep at_ c hs f b =>
  unfold bO at h
  obtain ⟨q,dx,uc,uh,uf,t2,ws,e0,ep,_⟩:=h
  cases e0
  exact ⟨dx,_,ep,oV (no _ (by simp)) (oV (no _ (by simp)) (oV (no _ (by simp)) (oV (no _ (by simp)) (oV (no _ (by simp)) rfl))))⟩
theorem M8 {Y:Cy} {H:Hp} {s:aI} {v:V} (h:bO Y H s v):∃ p,v=.ref p:=by
 cases s with
 | flat=>unfold bO at h;obtain ⟨p,_,_,e,_⟩:=h;exact ⟨p,e⟩
 | kO=>unfold bO at h;obtain ⟨p,_,_,_,_,_,_,e,_⟩:=h;exact ⟨p,e⟩
 | rep=>unfold bO at h;obtain ⟨p,_,_,_,_,_,_,e,_⟩:=h;exact ⟨p,e⟩
def M9 (P:Program) (w:World) (K:PySem.W.Frag) (mg:Str→Option Value) (base:Heap) (k:Nat) (Y:Cy) (m:Str) (ps:List Str) (sp:Nat→Sp):Prop:=∀ j,j < 9→Mt P w K mg base k (fc Y j) m ps (sp j)
end Hw
namespace L2
open PySem PySem.Spec PyProof.Rows Hw
section
variable {X:Cx} {k:Nat} {m:Str} {pos apos:Pos} {o:Expr} {ta:TE} {Y:Cy} {ps:List Str} {sp:Nat→Sp}
def a9p (Y:Cy) (sp:Nat→Sp) (ta:TE):TE:=fun σ H Q=>ta σ H fun x H1=>∃ p s,x=.ref p∧bO Y H1 s (.ref p)∧sp (kd s) [.ref p] H1 Q E0
theorem AF {pl:Sem Bool} (he:PE X o ta) (cl:∀ j,j < 9→wL X.K (fc Y j)) (nf:RH m) (M:M9 X.prog X.w X.K X.mg X.base k Y m ps sp) (hr:gk k X.A) (hx:Passes bP X E0)
  (ht:eval (.Call (.Attribute o m apos) [] [] pos) X.env=(do
   let ov ← eval o X.env
   standAt apos.atName
   let (f,first) ← holding [ov] (getMethod ov m pl)
   callWith pos f first (backTo pos (starEach [] X.env)) (backToKw pos (keywordEach [] X.env))):=by rfl) :
  PE X (.Call (.Attribute o m apos) [] [] pos) (a9p Y sp ta):=by
 intro pins s σ H Q I h
 refine PySem.W.methodCall_KW (pl:=pl) (fG (he pins s σ H _ I h) fun u s1 ⟨x,H1,I1,rx,a,c,ex,hc,q⟩=>?_) ht
 subst ex
 obtain rfl:u=Value.ref a:=rx
 obtain ⟨dx,fs,ea,l⟩:=wV hc nf
 obtain ⟨f,fd,F,hm,hb⟩:=M (kd c) (qe hc)
 refine qX I1 ea (cl _ (qe hc)) hm l ?_
 exact PySem.W.callWith_K0 (first:=[.ref a]) I1.qW hm.kp (xr (us:=[.ref a]) (vs:=[.ref a]) F hr hb .nil hx I1 (.cons rfl .nil) q)
end
end L2
namespace Hw
open PySem L2
structure Hl where
 at_:Int
 nm:Str
 ps:List Str
 an:List Str
 nd:List (Int×Cd)
 gv:List (Int×Cd)
 st:List aI
def flH (h:Hl) (t1 t2:Addr) (v1 v2:V) (t3:Addr):List (Str×V):=aP "steps" (.ref t3) (aP "gives" v2 (aP "needs" v1 (aP "answers" (.ref t2) (aP "params" (.ref t1) (aP "name" (.str h.nm) (aP "at" (.int h.at_) []))))))
def zj (Y:Cy) (H:Hp) (h:Hl) (v:V):Prop:=∃ p dx t1 t2 v1 v2 t3 us,v=.ref p∧H p=some (.ins Y.hp dx (flH h t1 t2 v1 v2 t3))∧H t1=some (.tup (h.ps.map V.str))∧H t2=some (.tup (h.an.map V.str))∧PrO Y.z H h.nd v1∧PrO Y.z H h.gv v2∧H t3=some (.tup us)∧us.length≤1000∧bE Y H h.st us
theorem zj.aE {Y:Cy} {H H':Hp} (k:aD H H') {h:Hl} {v:V} (g:zj Y H h v):zj Y H' h v:=by
 obtain ⟨p,dx,t1,t2,v1,v2,t3,us,e,ep,e1,e2,h1,h2,e3,l,hs⟩:=g
 exact ⟨p,dx,t1,t2,v1,v2,t3,us,e,k.i _ _ _ _ ep,k.t _ _ e1,k.t _ _ e2,h1.aE k,h2.aE k,k.t _ _ e3,l,hs.aE k⟩
def fN:Nat→List Str
 | 0=>["at","name","total"] | 1=>["at","name","word","total","by"] | 2=>["at","name","row","place"] | 3=>["at","row","place","total"] | 4=>["at","row","size"] | 5=>["at","condition"] | 6=>["at","names","helper","given"]
 | 7=>["at","condition","then","other"] | _=>["at","condition","keeps","falls","body"]
def hN:List Str:=["at","name","params","answers","needs","gives","steps"]
def oG (Y:Cy):Sp:=fun vs H Q _=>∃ (p dx:Addr) (a:Int) (j:Nat),vs=[.ref p,.int a]∧j < 9∧("at":Str)∈fN j∧H p=some (.ins (fc Y j) dx [])∧∀ H',aR p H H'→H' p=some (.ins (fc Y j) dx (aP "at" (.int a) []))→Q .fP H'
def Vf (Y:Cy) (k:Nat):Sp:=fun vs H Q _=>∃ (p dx:Addr) (a:Int) (v1:V),vs=[.ref p,.int a,v1]∧H p=some (.ins (fc Y k) dx [])∧∀ H',aR p H H'→H' p=some (.ins (fc Y k) dx (KJ k a [v1]))→Q .fP H'
def J6 (Y:Cy) (k:Nat):Sp:=fun vs H Q _=>∃ (p dx:Addr) (a:Int) (v1 v2:V),vs=[.ref p,.int a,v1,v2]∧H p=some (.ins (fc Y k) dx [])∧∀ H',aR p H H'→H' p=some (.ins (fc Y k) dx (KJ k a [v1,v2]))→Q .fP H'
def J5 (Y:Cy) (k:Nat):Sp:=fun vs H Q _=>∃ (p dx:Addr) (a:Int) (v1 v2 v3:V),vs=[.ref p,.int a,v1,v2,v3]∧H p=some (.ins (fc Y k) dx [])∧∀ H',aR p H H'→H' p=some (.ins (fc Y k) dx (KJ k a [v1,v2,v3]))→Q .fP H'
def Ve (Y:Cy) (k:Nat):Sp:=fun vs H Q _=>∃ (p dx:Addr) (a:Int) (v1 v2 v3 v4:V),vs=[.ref p,.int a,v1,v2,v3,v4]∧H p=some (.ins (fc Y k) dx [])∧∀ H',aR p H H'→H' p=some (.ins (fc Y k) dx (KJ k a [v1,v2,v3,v4]))→Q .fP H'
def Vh (Y:Cy):Sp:=fun vs H Q _=>∃ (p dx l1 l2:Addr) (a:Int) (v:V) (us ws:List V),vs=[.ref p,.int a,.ref l1,v,.ref l2]∧H p=some (.ins Y.cl dx [])∧H l1=some (.lst us)∧H l2=some (.lst ws) ∧
 ∀ (t1 t2:Addr) (H':Hp),aR p H H'→H' p=some (.ins Y.cl dx (KJ 6 a [.ref t1,v,.ref t2]))→H' t1=some (.tup us)→H' t2=some (.tup ws)→Q .fP H'
def Vi (Y:Cy):Sp:=fun vs H Q _=>∃ (p dx l1 l2:Addr) (a:Int) (v:V) (us ws:List V),vs=[.ref p,.int a,v,.ref l1,.ref l2]∧H p=some (.ins Y.ch dx [])∧H l1=some (.lst us)∧H l2=some (.lst ws) ∧
 ∀ (t1 t2:Addr) (H':Hp),aR p H H'→H' p=some (.ins Y.ch dx (flC a v t1 t2))→H' t1=some (.tup us)→H' t2=some (.tup ws)→Q .fP H'
def Vc (Y:Cy):Sp:=fun vs H Q _=>∃ (p dx l:Addr) (us:List V),vs=[.ref p,.ref l]∧H p=some (.ins Y.pg dx [])∧H l=some (.lst us)∧∀ (t:Addr) (H':Hp),aR p H H'→H' p=some (.ins Y.pg dx (aP "helpers" (.ref t) []))→H' t=some (.tup us)→Q .fP H'
def Rj (Y:Cy) (H:Hp) (p:Addr) (us:List V) (l:List Hl):Prop:=∃ dx t,H p=some (.ins Y.pg dx (aP "helpers" (.ref t) []))∧H t=some (.tup us)∧us.length≤1000∧Paired (fun u h=>zj Y H h u) us l
def gY (x:Str):List V→List Hl→V
 | u::us,h::l=>if h.nm=x then u else gY x us l
 | _,_=>.fP
def wj (Y:Cy):Sp:=fun vs H Q _=>∃ (p:Addr) (x:Str) (us:List V) (l:List Hl),vs=[.ref p,.str x]∧Rj Y H p us l∧∀ H',aK H H'→Q (gY x us l) H'
theorem Df:RH "told":=by unfold RH;decide +kernel
end Hw
namespace Hw
open PySem L2
def Chr (x:Str):Prop:=∃ c,x=Ra c∧97≤c
theorem Chr.len {x:Str} (h:Chr x):x.length=1:=by obtain ⟨c,rfl,_⟩:=h;rfl
end Hw
namespace L2
open PySem PySem.Spec PyProof.Rows
def notStar:Expr→Bool
 | .Starred ..=>false
 | _=>true
theorem lG {e:Expr} {es:List Expr} {env:Env} (h:notStar e=true):starEach (e::es) env=(false,eval e env)::starEach es env:=by
 cases e <;> first | rfl | cases h
theorem mD {pos:Pos} {env:Env}:∀ {es:List Expr},es.all notStar=true→(backTo pos (starEach es env)).any (·.1)=false
 | [],_=>rfl
 | e::es,h=>by
  have h:(notStar e && es.all notStar)=true:=h
  rw [Bool.and_eq_true] at h
  rw [lG h.1]
  show (false || (backTo pos (starEach es env)).any (·.1))=false
  rw [mD h.2]
  rfl
theorem Cu {pos:Pos} {env:Env}:∀ {es:List Expr},es.all notStar=true→(backTo pos (starEach es env)).all (fun x=>!x.1)=true
 | [],_=>rfl
 | e::es,h=>by
  have h:(notStar e && es.all notStar)=true:=h
  rw [Bool.and_eq_true] at h
  rw [lG h.1]
  show (true && (backTo pos (starEach es env)).all (fun x=>!x.1))=true
  rw [Cu h.2]
  rfl
section
variable {X:Cx} {CX:EF} {k:Nat} {f C:Addr} {fd:FuncData} {ps:List Str} {sp:Sp} {vC:List V} {ds:List Value} {E:XK} {x:Str} {p pos:Pos} {e:Expr} {es:List Expr} {te:TE} {t:TA}
theorem aa (ha:PE X e te) (hr:PA X es t) (h:notStar e=true:=by rfl):PA X (e::es) (U8 te t):=cG ha hr (lG h)
theorem au (F:aM X.prog X.w X.K X.mg X.base CX k f fd ps sp) (hr:gk k X.A) (hg:Gl X x) (hm:X.mg x=some (.ref f)) (hk:PySem.W.keepIn X.K (.ref f)=true) (hb:Binds X.K fd ps ds) (hd:Vals vC ds) (hx:Passes CX X E)
  (ha:PA X (e::es) t) (h1:notStar e=true:=by rfl) (h2:es.all notStar=true:=by rfl) (hdb:(x == ("__debug__":Str))=false:=by decide):PE X (.Call (.Name x p) (e::es) [] pos) (Va sp vC E t) :=
 wB F hr hg hm hk hb hd hx ha hdb (lG h1) (mD h2)
theorem br (M:Mk X.K C f) (F:aM X.prog X.w X.K X.mg X.base CX k f fd ps sp) (hr:gk (k+1) X.A) (hg:Gl X x) (hm:X.mg x=some (.ref C)) (hb:Binds X.K fd ps ds) (hd:Vals vC ds) (hx:Passes CX X E)
  (ha:PA X (e::es) t) (h1:notStar e=true:=by rfl) (h2:es.all notStar=true:=by rfl) (hdb:(x == ("__debug__":Str))=false:=by decide):PE X (.Call (.Name x p) (e::es) [] pos) (U7 C sp vC E t) :=
 Ke M F hr hg hm hb hd hx ha hdb (lG h1) (mD h2)
theorem aX {id:String} {r:List V→Hp→VK→Prop} (hc:ia X (.builtin id) r) (hg:Gl X x) (hm:X.mg x=none) (hv:bootBuiltins x=some (.builtin id)) (ha:PA X (e::es) t) (h1:notStar e=true:=by rfl) (h2:es.all notStar=true:=by rfl) (hn:x≠"__name__":=by decide) (hdb:(x == ("__debug__":Str))=false:=by decide) :
  PE X (.Call (.Name x p) (e::es) [] pos) (tCB r t):=xy hc hg hm hv ha hn hdb (lG h1) (mD h2)
theorem aU {T:String} {r:List V→Hp→VK→Prop} (hc:ia X (.type T) r) (hg:Gl X x) (hm:X.mg x=none) (hv:bootBuiltins x=some (.type T)) (ha:PA X (e::es) t) (h1:notStar e=true:=by rfl) (h2:es.all notStar=true:=by rfl) (hn:x≠"__name__":=by decide) (hdb:(x == ("__debug__":Str))=false:=by decide) :
  PE X (.Call (.Name x p) (e::es) [] pos) (tCB r t):=pP hc hg hm hv ha hn hdb (lG h1) (mD h2)
theorem fO {T id:String} {name:Str} {r:V→List V→Hp→VK→Prop} {o:Expr} {to:TE} {apos cpos:Pos} (pa:PlainAttrs T) (slot:Slot T name id) (hty:typeOf (.builtin id)=pure (.type "method_descriptor")) (hm:MtR X id r) (ho:PE X o to) (ha:PA X (e::es) t)
  (h1:notStar e=true:=by rfl) (h2:es.all notStar=true:=by rfl) (h3:es.length < 20:=by decide) (hbase:attributeBase o name X.env (eval o X.env)=eval o X.env:=by rfl) (hline:(apos.endLine == cpos.line)=true:=by rfl) :
  PE X (.Call (.Attribute o name apos) (e::es) [] cpos) (tBM X.K T r to t) :=
 a1R pa slot hty hm ho ha hbase (by
  rw [Cu (show (e::es).all notStar=true by show (notStar e && es.all notStar)=true;rw [h1,h2];rfl)]
  show (true && true && decide (es.length+1+0+0 < 30))=true
  rw [decide_eq_true (by omega)]
  rfl) hline (lG h1) (mD h2)
end
end L2
namespace Hw
open PySem L2
structure Own where
 ws:List Str
 th:List Str
 mr:List Str
 us:List Str
section
variable {H0 H H':Hp} {d p q a1 a2 a3 a4:Addr} {o:Own} {us:List V} {hs:List Hl}
end
end Hw
namespace L2
open PySem PySem.Spec PyProof.Rows
end L2
namespace Hw
open PySem L2
theorem kP {K:PySem.W.Frag} {H:Hp} {r1 r2:Addr} {a b:List Str} {Q:VK} (h1:H r1=some (.tup (a.map V.str))) (h2:H r2=some (.tup (b.map V.str))) (hl:a.length+b.length≤1000) (q:∀ (r:Addr) (H':Hp),aK H H'→H' r=some (.tup ((a++b).map V.str))→Q (.ref r) H'):NW K (.ref r1) (.ref r2) H Q:=by
 refine ⟨r1,r2,_,_,rfl,rfl,bG.of h1,bG.of h2,(by rw [List.length_map,List.length_map];exact Nat.le_of_lt (line _ (by omega))),fun z=>?_,fun _ z=>?_,fun _ _ r hr=>?_⟩
 ·have e:a=[]:=List.map_eq_nil_iff.mp z
  subst e
  exact q _ H (aK.refl _) h2
 ·have e:b=[]:=List.map_eq_nil_iff.mp z
  subst e
  rw [List.append_nil] at q
  exact q _ H (aK.refl _) h1
 ·refine q _ _ (new hr) ?_
  rw [af,List.map_append]
theorem jV {xs:List Str} {i:Nat} {v:V} (h:(xs.map V.str)[i]?=some v):∃ y,xs[i]?=some y∧v=.str y:=by
 rw [List.getElem?_map] at h
 cases q:xs[i]? with
 | none=>rw [q] at h;cases h
 | some y=>rw [q] at h;cases h;exact ⟨y,rfl,rfl⟩
end Hw
namespace Hw
open PySem L2
theorem Co {K:PySem.W.Frag} {H:Hp} {n:Nat} {a b:Addr} {xs ys:List V} (h:H a=some (.tup xs)) (g:H b=some (.tup ys)) (p:Paired (nZ K H n) xs ys):nZ K H (n+1) (.ref a) (.ref b):=.inr ⟨a,b,xs,ys,rfl,rfl,.inr ⟨bG.of h,bG.of g⟩,p⟩
theorem uR {K:PySem.W.Frag} {H:Hp} {n:Nat} {x:V} (h:x9 x=true):nZ K H n x x:=pS (n:=0) ⟨h,rfl⟩ (Nat.zero_le _)
def aI.pl:aI→Int
 | .flat _ a _=>a
 | .kO a _ _ _=>a
 | .rep a _ _ _ _=>a
theorem step_at {Y:Cy} {H:Hp} {s:aI} {p:Addr} (h:bO Y H s (.ref p)):∃ dx fs,H p=some (.ins (fc Y (kd s)) dx fs)∧fs.lookup ("at":Str)=some (V.int s.pl):=by
 cases s with
 | flat k at_ as =>
  unfold bO at h
  obtain ⟨q,dx,us,e,sh,ep,pp⟩:=h
  cases e
  refine ⟨dx,_,ep,?_⟩
  match k,sh with
  | 0,⟨_,_,_,e⟩=>subst e;cases pp with | cons a r=>cases r with | cons b r=>cases r;exact bx (bx cT)
  | 1,⟨_,_,_,_,_,_,e⟩=>subst e;cases pp with | cons a r=>cases r with | cons b r=>cases r with | cons c r=>cases r with | cons d r=>cases r;exact bx (bx (bx (bx cT)))
  | 2,⟨_,_,_,_,e⟩=>subst e;cases pp with | cons a r=>cases r with | cons b r=>cases r with | cons c r=>cases r;exact bx (bx (bx cT))
  | 3,⟨_,_,_,_,_,e⟩=>subst e;cases pp with | cons a r=>cases r with | cons b r=>cases r with | cons c r=>cases r;exact bx (bx (bx cT))
  | 4,⟨_,_,_,e⟩=>subst e;cases pp with | cons a r=>cases r with | cons b r=>cases r;exact bx (bx cT)
  | 5,⟨_,e⟩=>subst e;cases pp with | cons a r=>cases r;exact bx cT
  | 6,⟨_,_,_,e⟩=>subst e;cases pp with | cons a r=>cases r with | cons b r=>cases r with | cons c r=>cases r;exact bx (bx (bx cT))
 | kO at_ c t e =>
  unfold bO at h
  obtain ⟨q,dx,uc,t1,t2,us,ws,e0,ep,_⟩:=h
  cases e0
  exact ⟨dx,_,ep,bx (bx (bx cT))⟩
 | rep at_ c hs f b =>
  unfold bO at h
  obtain ⟨q,dx,uc,uh,uf,t2,ws,e0,ep,_⟩:=h
  cases e0
  exact ⟨dx,_,ep,bx (bx (bx (bx cT)))⟩
theorem a5p {j:Nat} (h:j < 9):("at":Str)∈fN j:=by
 match j,h with
 | 0,_=>decide +kernel
 | 1,_=>decide +kernel
 | 2,_=>decide +kernel
 | 3,_=>decide +kernel
 | 4,_=>decide +kernel
 | 5,_=>decide +kernel
 | 6,_=>decide +kernel
 | 7,_=>decide +kernel
 | 8,_=>decide +kernel
end Hw
namespace PySem
open Sem (wp)
open Builtin
section
variable {prog:Program} {w:World} {A:Around} {E:Value→Shared→Prop} {h:Heap} {g:Array GenState} {d:Drawn} {t:Nat} {os:OsState} {K:W.Frag} {C x:Addr} {o:Obj}
end
end PySem
namespace L2
open PySem PySem.Spec PyProof.Rows
end L2
namespace Hw
open PySem L2
theorem mG {H G:Hp} {x:Addr} (s:aK H G) (h:G x=none):H x=none:=by
 cases e:H x with
 | none=>rfl
 | some o=>rw [s _ _ e] at h;cases h
section
variable {Y:Cy} {G G':Hp} {tt pg pc pb pl:Addr} {us ws:List V} {hs:List Hl} {c:Cd} {h0:Hl} {u0:V}
end
end Hw
namespace PySem
open L2
section
variable {prog:Program} {w:World} {A:Around} {E:Value→Shared→Prop} {s:Shared}
theorem Nq {a:Addr} {zs:List Str} {x:Str} {k:Tok} {Q:Option Nat→Shared→Prop} (hS:cK prog w s.heap a zs)
  (h:∀ r,r.isSome=decide (x∈zs)→Q r s):wpAny (model prog w) A (setFind a (.str x k) ((aQ prog w).hash (Sum.inr x))) Q E s:=by
 obtain ⟨o,es,ep,t,ho,hex,hd,hel,hst,hzs,hnd,hb,hf,kJ,hpl⟩:=id hS
 have hsc:(Value.str x k).scannable=true:=rfl
 have hkey:=cN prog w x k
 unfold setFind setFindIn
 refine wpAny_bind (wpAny_setState_of ho hd hf ?_)
 dsimp only
 rw [byScan_of hsc hb hel]
 simp only [↓reduceIte]
 refine wpAny_bind (wpAny_rule ?_)
 refine wpAny_bind (wpAny_setScan_of hkey ho hd hf hel ?_)
 have mem:x∈zs↔∃ e∈es.toList,(aQ prog w).is (Sum.inr x) e.2=true:=by
  rw [← hzs,List.mem_map]
  constructor
  ·rintro ⟨e,he,q⟩
   obtain ⟨z,k',e2⟩:=hst e he
   refine ⟨e,he,?_⟩
   rw [e2] at q ⊢
   rw [xW]
   exact decide_eq_true q
  ·rintro ⟨e,he,q⟩
   obtain ⟨z,k',e2⟩:=hst e he
   refine ⟨e,he,?_⟩
   rw [e2] at q ⊢
   rw [xW] at q
   exact of_decide_eq_true q
 cases hr:List.findIdx? (fun e=>(aQ prog w).is (Sum.inr x) e.2) es.toList with
 | some j =>
  dsimp only
  obtain ⟨hj,hpj,_⟩:=List.findIdx?_eq_some_iff_getElem.mp hr
  have hm:x∈zs:=mem.mpr ⟨es.toList[j],List.getElem_mem hj,hpj⟩
  exact wpAny_pure (h _ (by rw [decide_eq_true hm];rfl))
 | none =>
  dsimp only
  have hm:x ∉ zs:=fun z=>by
   obtain ⟨e,he,q⟩:=mem.mp z
   have:=List.findIdx?_eq_none_iff.mp hr e he
   rw [q] at this;exact Bool.noConfusion this
  exact wpAny_pure (h _ (by rw [decide_eq_false hm];rfl))
def qh (prog:Program) (w:World) (l:List (Int×Value)) (zs:List Str):Prop:=List.Perm (l.map fun e=>strOf e.2) zs∧∀ e∈l,∃ z k,e=((aQ prog w).hash (Sum.inr z),Value.str z k)
theorem rj {h:Heap} {a:Addr} {zs:List Str} (hS:cK prog w h a zs):∃ o es ep t,h.get? a=some o∧o.ExactSet∧o.data=.set es ep t∧t.fits es.size=true∧t.led=(!w.params.followText "set-order")∧(t.plain=false∨es.size=0)∧es.size=zs.length∧qh prog w es.toList zs∧∀ e∈es.toList,∃ z k,e.2=Value.str z k:=by
 obtain ⟨o,es,ep,t,ho,hex,hd,hel,hst,hzs,hnd,hb,hf,kJ,hpl⟩:=hS
 refine ⟨o,es,ep,t,ho,hex,hd,hf,kJ,hpl,by rw [← hzs,List.length_map,Array.length_toList],⟨by rw [hzs],fun e he=>?_⟩,hst⟩
 obtain ⟨⟨k,hk,e1⟩,_⟩:=hel e he
 obtain ⟨z,tk,e2⟩:=hst e he
 refine ⟨z,tk,?_⟩
 rw [e2] at hk
 have:=(aQ prog w).inj _ _ _ hk (cN prog w z tk)
 rw [this] at e1
 rw [← e1,← e2]
theorem Iq:∀ {l:List Addr},(∀ a∈l,∃ zs,cK prog w s.heap a zs)→∀ {Q:Bool→Shared→Prop},Q true s→wpAny (model prog w) A (setsQuiet l) Q E s:=by
 intro l hl Q h
 unfold setsQuiet
 refine wpAny_bind (wpAny_forIn_list _ (fun l' b s'=>s'=s∧b=⟨none,()⟩∧∀ a∈l',∃ zs,cK prog w s.heap a zs) _ ?_ ?_ _ _ ⟨rfl,rfl,hl⟩)
 ·rintro a rest b s' ⟨rfl,rfl,ha⟩
  obtain ⟨zs,hS⟩:=ha a (List.mem_cons_self ..)
  obtain ⟨o,es,ep,t,ho,hex,hd,hf,kJ,hpl,_,_,hst⟩:=rj hS
  unfold setEntries
  refine wpAny_bind (wpAny_bind (wpAny_setState_of ho hd hf (wpAny_pure ?_)))
  refine wpAny_bind (wpAny_forIn_array' _ (fun l' b s2=>s2=s'∧b=⟨none,()⟩∧∀ e∈l',∃ z k,e.2=Value.str z k) _ ?_ ?_ _ _ ⟨rfl,rfl,hst⟩)
  ·rintro e c8u b s2 ⟨rfl,rfl,he⟩
   obtain ⟨z,k,q⟩:=he e (List.mem_cons_self ..)
   obtain ⟨e1,e2⟩:=e
   simp only at q
   subst q
   exact wpAny_pure ⟨rfl,rfl,fun e he'=>he e (List.mem_cons_of_mem _ he')⟩
  ·rintro b s2 ⟨rfl,rfl,_⟩
   exact wpAny_pure ⟨rfl,rfl,fun a ha'=>ha a (List.mem_cons_of_mem _ ha')⟩
 ·rintro b s' ⟨rfl,rfl,_⟩
  exact wpAny_pure h
theorem qh.perm {l l':List (Int×Value)} {zs:List Str} (h:qh prog w l zs) (p:List.Perm l' l):qh prog w l' zs:=⟨(p.map _).trans h.1,fun e he=>h.2 e (p.mem_iff.mp he)⟩
theorem Cm {a:Addr} {zs:List Str} {Q:Array (Int×Value)→Shared→Prop} (hS:cK prog w s.heap a zs) (h:∀ es' d,qh prog w es'.toList zs→Q es' { s with drawn:=d }):wpAny (model prog w) A (setWalk a) Q E s:=by
 obtain ⟨o,es,ep,t,ho,hex,hd,hf,kJ,hpl,hn,hent,hst⟩:=rj hS
 have h0:∀ es',qh prog w es'.toList zs→Q es' s:=fun es' q=>by
  have:=h es' s.drawn q
  exact this
 unfold setWalk
 refine wpAny_bind (wpAny_setState_of ho hd hf ?_)
 dsimp only
 unfold setsByText
 refine wpAny_bind (wpAny_bind (wpAny_askSetting (wpAny_pure ?_)))
 show wpAny _ _ (if (w.params.followText "set-order")=true then _ else _) _ _ _
 cases hT:w.params.followText "set-order" with
 | true =>
  simp only [if_true]
  refine wpAny_bind (wpAny_askSetting (wpAny_pure ?_))
  exact h0 _ (hent.perm (fX _ _))
 | false =>
  simp only [Bool.false_eq_true,if_false]
  show wpAny _ _ (if (!t.plain && decide (es.size > 1))=true then _ else _) _ _ _
  split
  ·refine wpAny_bind (uV _ _ _ _ (by simp) fun ys d hp=>wpAny_pure ?_)
   exact h _ d (by simpa using hent.perm hp)
  ·show wpAny _ _ ((if (!t.led && decide (es.size > 1))=true then unsupported "set:maker-not-led" else pure ()) >>= fun _=>pure es) _ _ _
   rw [kJ,hT]
   simp only [Bool.not_false,Bool.not_true,Bool.false_and,Bool.false_eq_true,if_false]
   exact wpAny_bind (wpAny_pure (wpAny_pure (h0 _ hent)))
theorem Ck {a o r:Addr} {zs zo:List Str} {Q:Array (Int×Value)→Shared→Prop} (hS:cK prog w s.heap a zs) (hO:cK prog w s.heap o zo) (hR:cK prog w s.heap r [])
  (h:∀ es' d h',Heap.SameBut r s.heap h'→cK prog w h' r []→qh prog w es'.toList zs→Q es' { s with heap:=h',drawn:=d }):wpAny (model prog w) A (setWalkUnseen a [o,r] (some r)) Q E s:=by
 obtain ⟨oa,es,ep,t,ho,hex,hd,hf,kJ,hpl,hn,hent,hst⟩:=rj hS
 have hw:wpAny (model prog w) A (setWalk a) Q E s:=Cm hS fun es' d q=>by
  have:=h es' d s.heap (Heap.SameBut.refl _ _) hR q
  exact this
 unfold setWalkUnseen
 refine wpAny_bind (wpAny_setState_of ho hd hf ?_)
 dsimp only
 unfold setsByText
 refine wpAny_bind (wpAny_bind (wpAny_askSetting (wpAny_pure ?_)))
 split
 ·exact hw
 ·rename_i hno
  refine wpAny_bind (Iq (fun b hb=>?_) ?_)
  ·simp only [List.mem_cons,List.not_mem_nil,or_false] at hb
   rcases hb with rfl | rfl | rfl
   ·exact ⟨_,hS⟩
   ·exact ⟨_,hO⟩
   ·exact ⟨_,hR⟩
  ·simp only [Bool.not_true,Bool.false_eq_true,if_false]
   refine wpAny_bind (wpAny_rule ?_)
   obtain ⟨orr,er,epr,tr,hor,b9b,hdr,b9c,hstr,hzr,b80,hbr,hfr,a2C,d63⟩:=id hR
   have er0:er.size=0:=by
    have:=congrArg List.length hzr
    rw [List.length_map,Array.length_toList] at this
    exact this
   refine wpAny_bind (wpAny_setState_of hor hdr hfr ?_)
   dsimp only
   split
   ·refine wpAny_bind (wpAny_storeSet_of hor hdr ?_ (fits_of_scanBound hbr))
    have hg:(s.heap.update r (Obj.putSet er { tr with led:=tr.led && t.led,plain:=tr.plain && t.plain })).get? r=some { orr with data:=.set er (epr+1) { tr with led:=tr.led && t.led,plain:=tr.plain && t.plain } }:=by
     have:=Heap.get?_update_self (Obj.putSet er { tr with led:=tr.led && t.led,plain:=tr.plain && t.plain }) hor (by rw [putSet_of er _ hdr];rfl)
     rw [putSet_of er _ hdr] at this;exact this
    refine wpAny_pure (h es s.drawn _ (Heap.SameBut.update _ _ _) ⟨_,er,epr+1,_,hg,b9b,rfl,b9c,hstr,hzr,b80,hbr,hfr,?_,.inr er0⟩ hent)
    show (tr.led && t.led)=_
    rw [a2C,kJ,Bool.and_self]
   ·exact wpAny_pure (h es s.drawn s.heap (Heap.SameBut.refl _ _) hR hent)
theorem cK.typeIs {a:Addr} {zs:List Str} (hS:cK prog w s.heap a zs):s.TypeIs (.ref a) "set":=by
 obtain ⟨o,es,ep,t,ho,hex,_⟩:=hS
 exact ⟨o,ho,hex.1⟩
theorem tS {a:Addr} {zs:List Str} {Q:Bool→Shared→Prop} (hS:cK prog w s.heap a zs) (h:Q true s):wpAny (model prog w) A (Builtin.Frozenset.isAnySet (.ref a)) Q E s:=by
 unfold Builtin.Frozenset.isAnySet
 refine wpAny_bind (wpAny_isInstance hS.typeIs sub_set_self ?_)
 exact wpAny_pure h
theorem size_set {a:Addr} {zs:List Str} {Q:Nat→Shared→Prop} (hS:cK prog w s.heap a zs) (h:Q zs.length s):wpAny (model prog w) A (Builtin.Frozenset.sizeOf a) Q E s:=by
 obtain ⟨o,es,ep,t,ho,hex,hd,hf,kJ,hpl,hn,hent,hst⟩:=rj hS
 unfold Builtin.Frozenset.sizeOf setEntries
 refine wpAny_bind (wpAny_bind (wpAny_setState_of ho hd hf (wpAny_pure (wpAny_pure ?_))))
 rw [hn];exact h
theorem LX {id:String} {a o:Addr} {zs zo:List Str} {Q:Value→Shared→Prop} (hS:cK prog w s.heap a zs) (hO:cK prog w s.heap o zo) (hz:zs.length / 4≤zo.length) (h64:zs.length < 64)
  (h:∀ h' d ys,(∀ b ob,s.heap.get? b=some ob→h'.get? b=some ob)→cK prog w h' s.heap.objs.size ys→(∀ x,x∈ys↔x∈zs∧x ∉ zo)→ys.length < 64→Q (.ref s.heap.objs.size) { s with heap:=h',drawn:=d }) :
  wpAny (model prog w) A (Builtin.Frozenset.difference id a (.ref o)) Q E s:=by
 unfold Builtin.Frozenset.difference
 refine wpAny_bind (tS hO ?_)
 simp only [Bool.not_true,Bool.false_eq_true,if_false,Bool.false_and]
 refine wpAny_bind (wpAny_pure ?_)
 refine wpAny_bind (size_set hO ?_)
 refine wpAny_bind (size_set hS ?_)
 rw [if_neg (by omega)]
 unfold Builtin.Frozenset.baseOf
 refine wpAny_bind (wpAny_bind (wpAny_isInstance hS.typeIs sub_set_self (wpAny_pure ?_)))
 simp only [if_true]
 unfold newSet setsByText
 refine wpAny_bind (wpAny_bind (wpAny_bind (wpAny_askSetting (wpAny_pure ?_))))
 dsimp only
 simp only [newObj]
 refine wpAny_bind (wpAny_alloc (wpAny_pure ?_))
 refine wpAny_bind (wpAny_pure ?_)
 show wpAny (model prog w) A _ _ _ { s with heap:=s.heap.push { cls:=.type "set",dict:=none,data:=.set #[] 0 (.fresh 0 0 (!w.params.followText "set-order")) } }
 generalize Vz:s.heap.push { cls:=.type "set",dict:=none,data:=.set #[] 0 (.fresh 0 0 (!w.params.followText "set-order")) }=h1
 have kp1:∀ b ob,s.heap.get? b=some ob→h1.get? b=some ob:=fun b ob e=>Vz ▸ Heap.get?_push_of_some _ e
 have hr1:h1.get? s.heap.objs.size=some { cls:=.type "set",dict:=none,data:=.set #[] 0 (.fresh 0 0 (!w.params.followText "set-order")) }:=Vz ▸ Heap.get?_push_size _ rfl
 have hR1:cK prog w h1 s.heap.objs.size []:=⟨_,_,_,_,hr1,⟨rfl,rfl,rfl⟩,rfl,(fun e he=>absurd he (by simp)),(fun e he=>absurd he (by simp)),rfl,.nil,by decide,by rfl,rfl,.inr rfl⟩
 have ZF:cK prog w h1 a zs:=hS.at (kp1 a)
 have hO1:cK prog w h1 o zo:=hO.at (kp1 o)
 have la:a < s.heap.objs.size:=let ⟨_,_,_,_,e,_⟩:=hS;Heap.lt_size e
 have lo:o < s.heap.objs.size:=let ⟨_,_,_,_,e,_⟩:=hO;Heap.lt_size e
 obtain ⟨oa,es,ep,t,ho,hex,hd,hf,kJ,hpl,hn,hent,hst⟩:=rj ZF
 unfold setEpoch
 refine wpAny_bind (wpAny_bind (wpAny_setState_of (s:={ s with heap:=h1 }) ho hd hf (wpAny_pure ?_)))
 refine wpAny_bind (wpAny_holding (wpAny_bind ?_))
 refine Ck (s:={ s with heap:=h1 }) ZF hO1 hR1 fun es' d h2 Ry hR2 vq=>?_
 have s2a:cK prog w h2 a zs:=ZF.at fun ob e=>(Ry.2 a (Nat.ne_of_lt la)).trans e
 have s2o:cK prog w h2 o zo:=hO1.at fun ob e=>(Ry.2 o (Nat.ne_of_lt lo)).trans e
 have ho2:h2.get? a=some oa:=(Ry.2 a (Nat.ne_of_lt la)).trans ho
 refine wpAny_bind (wpAny_forIn_array' _ (fun l _ s'=>∃ h' ys dn,s'={ s with heap:=h',drawn:=d }∧Heap.SameBut s.heap.objs.size h2 h'∧cK prog w h' s.heap.objs.size ys∧es'.toList=dn++l∧(∀ x,x∈ys↔x∈dn.map (fun e=>strOf e.2)∧x ∉ zo)∧ys.length≤dn.length) _ ?_ ?_ _ _
  ⟨h2,[],[],rfl,Heap.SameBut.refl _ _,hR2,rfl,by simp,Nat.le_refl _⟩)
 ·rintro e rest b s' ⟨h',ys,dn,rfl,sb,hR,el,hm,hl⟩
  obtain ⟨z,k,rfl⟩:=vq.2 e (by rw [el];exact List.mem_append_right _ (List.mem_cons_self ..))
  have hoo:cK prog w h' o zo:=s2o.at fun ob e=>(sb.2 o (Nat.ne_of_lt lo)).trans e
  have d8g:dn.length < 64:=by
   have:=vq.1.length_eq
   rw [List.length_map,el,List.length_append,List.length_cons] at this
   omega
  have nx:es'.toList=(dn++[((aQ prog w).hash (Sum.inr z),Value.str z k)])++rest:=by rw [el,List.append_assoc];rfl
  have same:∀ h'':Heap,Heap.SameBut s.heap.objs.size h' h''→∀ ys',cK prog w h'' s.heap.objs.size ys'→(∀ x,x∈ys'↔x∈(dn++[((aQ prog w).hash (Sum.inr z),Value.str z k)]).map (fun e=>strOf e.2)∧x ∉ zo)→ys'.length≤dn.length+1 →
    wpAny (model prog w) A (Builtin.Frozenset.unchanged id a ep) (fun _ s''=>∃ h' ys dn,s''={ s with heap:=h',drawn:=d }∧Heap.SameBut s.heap.objs.size h2 h'∧cK prog w h' s.heap.objs.size ys∧es'.toList=dn++rest∧(∀ x,x∈ys↔x∈dn.map (fun e=>strOf e.2)∧x ∉ zo)∧ys.length≤dn.length) E { s with heap:=h'',drawn:=d }:=by
   intro h'' sb' ys' hR' hm' hl'
   unfold Builtin.Frozenset.unchanged setEpoch
   refine wpAny_bind (wpAny_bind (wpAny_setState_of (s:={ s with heap:=h'',drawn:=d }) (((sb.trans sb').2 a (Nat.ne_of_lt la)).trans ho2) hd hf (wpAny_pure ?_)))
   rw [if_neg (by simp)]
   exact wpAny_pure ⟨h'',ys',_,rfl,sb.trans sb',hR',nx,hm',by simpa using hl'⟩
  refine wpAny_bind (wpAny_holding (wpAny_bind ?_))
  refine Nq (s:={ s with heap:=h',drawn:=d }) hoo fun r hr=>?_
  refine wpAny_bind (wpAny_pure ?_)
  by_cases hzo:z∈zo
  ·rw [decide_eq_true hzo] at hr
   rw [hr]
   simp only [Bool.not_true,Bool.false_eq_true,if_false]
   refine wpAny_pure (wpAny_bind (wpAny_mono (same h' (Heap.SameBut.refl _ _) ys hR (fun x=>?_) (by omega)) (fun _ _ q=>wpAny_pure q) fun _ _ q=>q))
   rw [hm x,List.map_append,List.mem_append]
   constructor
   ·rintro ⟨q1,q2⟩;exact ⟨.inl q1,q2⟩
   ·rintro ⟨q1 | q1,q2⟩
    ·exact ⟨q1,q2⟩
    ·exact absurd (by rw [List.mem_singleton.mp q1];exact hzo) q2
  ·rw [decide_eq_false hzo] at hr
   rw [hr]
   simp only [Bool.not_false,if_true]
   refine wpAny_bind (J9 (s:={ s with heap:=h',drawn:=d }) hR (by unfold scanBound;omega) fun h'' ys' sb' hR' q1 q2=>?_)
   have hin:∀ x,x∈ys'↔x∈ys∨x=z:=fun x=>by
    by_cases hy:z∈ys
    ·rw [q1 hy]
     exact ⟨.inl,fun q=>q.elim (fun q=>q) fun q=>q ▸ hy⟩
    ·rw [(q2 hy).mem_iff,List.mem_append,List.mem_singleton]
   have hlen:ys'.length≤ys.length+1:=by
    by_cases hy:z∈ys
    ·rw [q1 hy];omega
    ·rw [(q2 hy).length_eq,List.length_append];exact Nat.le_refl _
   refine wpAny_pure (wpAny_bind (wpAny_mono (same h'' sb' ys' hR' (fun x=>?_) (by omega)) (fun _ _ q=>wpAny_pure q) fun _ _ q=>q))
   rw [hin x,hm x,List.map_append,List.mem_append]
   constructor
   ·rintro (⟨q1,q2⟩ | q1)
    ·exact ⟨.inl q1,q2⟩
    ·subst q1;exact ⟨.inr (List.mem_singleton.mpr rfl),hzo⟩
   ·rintro ⟨q1 | q1,q2⟩
    ·exact .inl ⟨q1,q2⟩
    ·exact .inr (List.mem_singleton.mp q1)
 ·rintro b s' ⟨h',ys,dn,rfl,sb,hR,el,hm,hl⟩
  rw [List.append_nil] at el
  refine wpAny_pure (wpAny_pure (h h' d ys (fun b ob e=>?_) hR (fun x=>?_) ?_))
  ·have l:=Nat.ne_of_lt (Heap.lt_size e)
   exact (sb.2 b l).trans ((Ry.2 b l).trans (kp1 b ob e))
  ·rw [hm x,← el,(vq.1.mem_iff)]
  ·have:=vq.1.length_eq
   rw [List.length_map,el] at this
   omega
end
end PySem
namespace L2
open PySem PySem.Spec PyProof.Rows Hw
theorem yf:entryFor table "set.__sub__"=some Builtin.«frozenset.__sub__»:=entryFor_alias (id':="frozenset.__sub__") (by kernel_rfl) rfl (by decide +kernel) (by kernel_rfl)
section
variable {X:Cx}
theorem pX (hc:X.calm=true):ia X (.type "set") (fun xs H Q=>∃ (p:Addr) (ss ds:List Str),xs=[.ref p]∧bH X.K H p (ss.map V.str)∧ss.length < 4000∧ds.length < 64∧(∀ x∈ss,x∈ds)∧∀ q,H q=none→Q (.ref q) (upd H q (qq X.prog X.w q ss))):=by
 intro pins s σ H xs us Q I r h
 obtain ⟨p,ss,ds,rfl,hq,hl,hd,hin,q⟩:=h
 obtain ⟨u,rfl,rx⟩:=vals1 r
 cases rx
 obtain ⟨its,r',pl,hz⟩:=I.list hq
 have hlen:=r'.length
 rw [List.length_map] at hlen
 refine zd (I.ok.hd hc) pl.isList (ss:=ss) (by simpa using lK r') (by simp only [List.size_toArray];unfold scanBound;omega) fun h' tk zs hS hm RA kp=>?_
 have hnd:zs.Nodup:=let ⟨_,_,_,_,_,_,_,_,_,_,n,_⟩:=hS;n
 have d6M:=ku hnd fun x hx=>hin x ((hm x).mp hx)
 have L:=I.Dw (h':=h') (a:=s.heap.objs.size) (o:=qq X.prog X.w s.heap.objs.size ss) (t':=tk) (fun b u e=>kp b u (Heap.lt_size e) e) (fun b u e=>Nat.ne_of_lt (Heap.lt_size e))
  ⟨⟨zs,hS,hm,by omega⟩,let ⟨o,_,_,_,ho,_⟩:=hS;⟨o,ho⟩,fun h1 h2 ⟨zs,x,y⟩ k=>⟨zs,x.at k,y⟩⟩
 exact ⟨.ref s.heap.objs.size,_,L.2,rfl,q _ L.1⟩
end
end L2
namespace PySem
open L2 PyProof.Rows
section
variable {prog:Program} {w:World} {A:Around} {E:Value→Shared→Prop} {s:Shared}
set_option maxHeartbeats 3200000 in
theorem yp {l:Addr} {items:Array Value} {ss:List Str} {Q:Value→Shared→Prop} (hh:A.handled=none) (hl:s.heap.IsTuple l items) (hi:StrsAre items.toList ss) (hb:items.size+1 < scanBound)
  (h:∀ (h':Heap) (tk:Nat) (zs:List Str),cK prog w h' s.heap.objs.size zs→(∀ x,x∈zs↔x∈ss)→zs.length≤items.size →
   (∀ b o,b < s.heap.objs.size→s.heap.get? b=some o→h'.get? b=some o)→Q (.ref s.heap.objs.size) { s with heap:=h',toks:=tk }) :
  wpAny (model prog w) A (call (.type "set") [.ref l]) Q E s:=by
 have hlen:ss.length=items.size:=by rw [← StrsAre.length hi,Array.length_toList]
 obtain ⟨c,tl,b81⟩:=F.called_set.mro
 have hmade:=F.called_set.made
 have hsub:=F.called_set.sub
 refine wpAny_call (codeAny_of_tree ?_)
 show wpAny _ _ (callAny (.type "set") _) _ _ _
 refine wpAny_pure ⟨Code.quiet_builtin _ (by decide +kernel),codeAny_builtin F.entry_type_call ?_⟩
 rw [Around.under_plain (weight_type_call_type "set" [.ref l] []) rfl]
 have h1:=F.called_set.notType
 have h2:=F.called_set.canCreate
 have hct:=F.typeCall_set_1 (.ref l)
 repeat (any_goals (first | assumption | wp_step))
 refine codeAny_mono (pF (.ref l) (E:=E) (Q₁:=fun obj s₁=>obj=.ref s.heap.objs.size∧s₁={ s with heap:=s.heap.push { cls:=.type "set",dict:=none,data:=.set #[] 0 (.fresh 0 0 (!w.params.followText "set-order")) } }) ⟨rfl,rfl⟩) fun r s₁ hr=>?_
 cases r with
 | error e=>exact hr
 | ok fl =>
  cases fl with
  | ret obj =>
   obtain ⟨rfl,rfl⟩:=hr
   have hS:(s.heap.push { cls:=.type "set",dict:=none,data:=.set #[] 0 (.fresh 0 0 (!w.params.followText "set-order")) }).get? s.heap.objs.size=some { cls:=.type "set",dict:=none,data:=.set #[] 0 (.fresh 0 0 (!w.params.followText "set-order")) }:=Heap.get?_push_size _ rfl
   have hT:Shared.TypeIs { s with heap:=s.heap.push { cls:=.type "set",dict:=none,data:=.set #[] 0 (.fresh 0 0 (!w.params.followText "set-order")) } } (.ref s.heap.objs.size) "set":=⟨_,hS,rfl⟩
   have hli:=F.called_set.init.lookup
   have hbi:=F.called_set.init.bind (.ref s.heap.objs.size)
   repeat (any_goals (first | assumption | wp_step))
   refine codeAny_mono (codeAny_call_builtin (R:=wants (fun r s₂=>r=.none∧∃ h' tk zs,s₂={ s with heap:=h',toks:=tk }∧cK prog w h' s.heap.objs.size zs∧(∀ x,x∈zs↔x∈ss)∧zs.length≤items.size ∧
     (∀ b o,b < s.heap.objs.size→s.heap.get? b=some o→h'.get? b=some o)) E) F.called_set.init.plain F.entry_set_init (check_set_init_1 hT ?_)) fun r₂ s₂ hr₂=>?_
   ·obtain ⟨ol,hol,hcl,nl,hdl⟩:=hl
    obtain ⟨b3Q,OQ,a2a,Ir⟩:=ol
    simp only at hcl hdl
    subst hcl;subst hdl
    have Zx:(s.heap.push { cls:=.type "set",dict:=none,data:=.set #[] 0 (.fresh 0 0 (!w.params.followText "set-order")) }).get? l=some { cls:=.type "tuple",dict:=OQ,data:=.seq items nl,slots:=Ir }:=Heap.get?_push_of_some _ hol
    have b8S:=F.sub_tuple_set
    have b8T:=F.sub_tuple_frozenset
    have hne:(Value.type "tuple" == Value.type "dict")=false:=by decide
    have hl1:(s.heap.push { cls:=.type "set",dict:=none,data:=.set #[] 0 (.fresh 0 0 (!w.params.followText "set-order")) }).IsTuple l items:=⟨_,Zx,rfl,nl,rfl⟩
    unfold Builtin.«set.__init__» noKeywords Builtin.Frozenset.updateFrom
    generalize hPI:pyIter=PI
    wp_walk
    subst hPI
    refine wpAny_pyIter_tuple hl1 ?_
    refine wpAny_bind (wpAny_runValue ?_)
    have hlS:l < s.heap.objs.size:=Heap.lt_size hol
    have hh3:A.in1.in1.in1.handled=none:=by simp [hh]
    have Zz:l≠(s.heap.push { cls:=.type "set",dict:=none,data:=.set #[] 0 (.fresh 0 0 (!w.params.followText "set-order")) }).objs.size:=by rw [Heap.size_push];exact Nat.ne_of_lt (Nat.lt_succ_of_lt hlS)
    have hSf:s.heap.objs.size ∉ [(s.heap.push { cls:=.type "set",dict:=none,data:=.set #[] 0 (.fresh 0 0 (!w.params.followText "set-order")) }).objs.size,l]:=by
     rw [Heap.size_push];simp only [List.mem_cons,List.mem_singleton,List.not_mem_nil,or_false,not_or]
     exact ⟨Nat.ne_of_lt (Nat.lt_succ_self _),Nat.ne_of_gt hlS⟩
    refine CF ((Walks.tuple hh3 _ l Zz items).toS) s.heap.objs.size hSf ss hlen (fun i v _ hv=>StrsAre.M7 hi i v (by rw [Array.getElem?_toList];exact hv)) hb (items.size - 0) 0 _ [] (by omega) (Nat.zero_le _)
     ⟨⟨_,Heap.get?_push_size _ rfl,rfl,rfl⟩,(hl1.push _)⟩ ?hS0 (Nat.le_refl _) (fun x=>by simp) ?hR
    case hS0 =>
     have hget:((s.heap.push { cls:=.type "set",dict:=none,data:=.set #[] 0 (.fresh 0 0 (!w.params.followText "set-order")) }).push { cls:=.type "tuple_iterator",data:=.fields #[.ref l,.int 0 0] }).get? s.heap.objs.size=some { cls:=.type "set",dict:=none,data:=.set #[] 0 (.fresh 0 0 (!w.params.followText "set-order")) }:=Heap.get?_push_of_some _ hS
     exact ⟨_,#[],0,_,hget,⟨rfl,rfl,rfl⟩,rfl,(fun e he=>by simp at he),(fun e he=>by simp at he),rfl,.nil,by decide,by rfl,rfl,.inr rfl⟩
    case hR =>
     intro s' zs hm hS' RA hmem
     obtain ⟨h',g',d',tk',os'⟩:=s'
     have eg:g'=s.gens:=hm.gens
     have ed:d'=s.drawn:=hm.drawn
     have eo:os'=s.os:=hm.os
     subst eg;subst ed;subst eo
     show wpAny _ _ _ _ _ _
     refine wpAny_pure ?_
     show wpAny _ _ (ret Value.none) _ _ _
     refine wpAny_pure ⟨rfl,h',tk',zs,rfl,hS',hmem,RA,fun b o hb e=>?_⟩
     have hb1:b≠s.heap.objs.size:=Nat.ne_of_lt hb
     have hb2:b≠(s.heap.push { cls:=.type "set",dict:=none,data:=.set #[] 0 (.fresh 0 0 (!w.params.followText "set-order")) }).objs.size:=by rw [Heap.size_push];exact Nat.ne_of_lt (Nat.lt_succ_of_lt hb)
     exact hm.heap b o (by simp only [List.mem_cons,List.mem_singleton,List.not_mem_nil,or_false,not_or];exact ⟨hb1,hb2⟩) (Heap.get?_push_of_some _ (Heap.get?_push_of_some _ e))
   ·cases r₂ with
    | error e=>exact hr₂
    | ok fl₂ =>
     cases fl₂ with
     | ret r =>
      obtain ⟨rfl,h',tk,zs,rfl,hS',hmem,RA,hk'⟩:=hr₂
      repeat (any_goals (first | assumption | wp_step))
      exact h _ _ zs hS' hmem RA hk'
     | _=>exact hr₂.elim
  | _=>exact hr.elim
end
end PySem
namespace L2
open PySem PySem.Spec PyProof.Rows Hw
section
variable {X:Cx}
theorem Mi (hc:X.calm=true):ia X (.type "set") (fun xs H Q=>∃ (p:Addr) (ss:List Str),xs=[.ref p]∧bG X.K H p (ss.map V.str)∧ss.length < 64∧∀ q,H q=none→Q (.ref q) (upd H q (qq X.prog X.w q ss))):=by
 intro pins s σ H xs us Q I r h
 obtain ⟨p,ss,rfl,hq,hl,q⟩:=h
 obtain ⟨u,rfl,rx⟩:=vals1 r
 cases rx
 obtain ⟨its,r',pl,hz⟩:=I.tuple hq
 have hlen:=r'.length
 rw [List.length_map] at hlen
 refine yp (I.ok.hd hc) (show s.heap.IsTuple p its.toArray from pl) (ss:=ss) (by simpa using lK r') (by simp only [List.size_toArray];unfold scanBound;omega) fun h' tk zs hS hm RA kp=>?_
 simp only [List.size_toArray] at RA
 have L:=I.Dw (h':=h') (a:=s.heap.objs.size) (o:=qq X.prog X.w s.heap.objs.size ss) (t':=tk) (fun b u e=>kp b u (Heap.lt_size e) e) (fun b u e=>Nat.ne_of_lt (Heap.lt_size e))
  ⟨⟨zs,hS,hm,by omega⟩,let ⟨o,_,_,_,ho,_⟩:=hS;⟨o,ho⟩,fun h1 h2 ⟨zs,x,y⟩ k=>⟨zs,x.at k,y⟩⟩
 exact ⟨.ref s.heap.objs.size,_,L.2,rfl,q _ L.1⟩
end
end L2
namespace PySem
section
variable {M:Model} {A:Around} {E:Value→Shared→Prop} {s:Shared} {base:Heap} {env:Env} {outer:List Env} {L a C T:Addr} {z:Value}
end
end PySem
namespace L2
open PySem PySem.Spec PyProof.Rows
section
variable {prog:Program} {w:World} {A:Around} {R:Result→Shared→Prop} {s:Shared}
end
section
variable {X:Cx} {sc:Scope} {cl:List (Str×Addr)} {own:Nat} {N:List Str} {fr:List Nat}
end
end L2
namespace L2
open PySem PySem.Spec PyProof.Rows
section
variable {P:Program} {w:World} {K:PySem.W.Frag} {mg:Str→Option Value} {base:Heap} {N:List Str} {qual:Str} {scope:Scope} {f TM:Addr} {cd:Value} {A:Around} {outer:List Env} {s:Shared} {H:Hp} {E:XK}
end
section
variable {P:Program} {w:World} {K:PySem.W.Frag} {mg:Str→Option Value} {base:Heap} {N0:List Str} {qual:Str} {scope:Scope} {f00 TM:Addr} {cd:Value} {A:Around} {outer:List Env} {s0:Shared} {H00:Hp} {E:XK} {sc:Scope} {cl:List (Str×Addr)} {own:Nat} {N:List Str} {fr:List Nat}
end
end L2
namespace Hw
open PySem L2
mutual
def aI.np:aI→Nat
 | .flat ..=>1
 | .kO _ _ t e=>dM t+dM e
 | .rep ..=>1
def dM:List aI→Nat
 | []=>1
 | s::r=>s.np*dM r
end
mutual
theorem Zb:∀ (s:aI),1≤s.np
 | .flat ..=>by unfold aI.np;decide
 | .kO _ _ t e=>by unfold aI.np;have:=wC t;omega
 | .rep ..=>by unfold aI.np;decide
theorem wC:∀ (l:List aI),1≤dM l
 | []=>by unfold dM;decide
 | s::r=>by unfold dM;exact Nat.mul_le_mul (Zb s) (wC r)
end
theorem oN (s:aI):∀ l:List aI,dM (l++[s])=dM l*s.np
 | []=>by show s.np*dM []=dM []*s.np;rw [Nat.mul_comm]
 | a::r=>by
  show a.np*dM (r++[s])=_
  rw [oN s r]
  conv=>rhs;unfold dM
  rw [Nat.mul_assoc]
theorem Km (m:List aI):∀ l:List aI,dM (l++m)=dM l*dM m
 | []=>by show dM m=dM []*dM m;rw [show dM []=1 by unfold dM;rfl,Nat.one_mul]
 | a::r=>by
  show a.np*dM (r++m)=a.np*dM r*dM m
  rw [Km m r,Nat.mul_assoc]
theorem xG (i:Nat) (l:List aI):dM (l.take i)≤dM l:=by
 conv=>rhs;rw [← List.take_append_drop i l,Km]
 exact Nat.le_mul_of_pos_right _ (wC _)
mutual
def aI.big:aI→Bool
 | .flat ..=>false
 | .kO _ _ t e=>(anyB t || decide (16 < dM t)) || (anyB e || decide (16 < dM e))
 | .rep _ _ _ _ b=>anyB b || decide (16 < dM b)
def anyB:List aI→Bool
 | []=>false
 | s::r=>s.big || anyB r
end
def p7 (l:List aI):Bool:=anyB l || decide (16 < dM l)
theorem Ei {s:aI}:∀ {l:List aI},s∈l→s.big=true→anyB l=true
 | a::r,h,q=>by
  show (a.big || anyB r)=true
  rcases List.mem_cons.mp h with e | e
  ·rw [← e,q];rfl
  ·rw [Ei e q,Bool.or_true]
mutual
def aI.wi:aI→List aI
 | .flat k a as=>[.flat k a as]
 | .kO a c t e=>.kO a c t e::(dR t++dR e)
 | .rep a c hs f b=>.rep a c hs f b::dR b
def dR:List aI→List aI
 | []=>[]
 | s::r=>s.wi++dR r
end
theorem Ag (m:List aI):∀ l:List aI,dR (l++m)=dR l++dR m
 | []=>by show dR m=dR []++dR m;rw [show dR []=[] by unfold dR;rfl];rfl
 | a::r=>by show a.wi++dR (r++m)=(a.wi++dR r)++dR m;rw [Ag m r,List.append_assoc]
theorem wO (s:aI) (l:List aI):dR (l++[s])=dR l++s.wi:=by
 rw [Ag]
 show dR l++(s.wi++dR [])=_
 rw [show dR []=[] by unfold dR;rfl,List.append_nil]
theorem MZ (i:Nat) (l:List aI):(dR (l.take i)).length≤(dR l).length:=by
 conv=>rhs;rw [← List.take_append_drop i l,Ag,List.length_append]
 exact Nat.le_add_right _ _
theorem JT {s:aI}:∀ {l:List aI},s∈l→s.wi.length≤(dR l).length
 | a::r,h=>by
  show s.wi.length≤(a.wi++dR r).length
  rw [List.length_append]
  rcases List.mem_cons.mp h with e | e
  ·rw [e];omega
  ·have:=JT e;omega
end Hw
namespace Hw
open PySem L2
def VN (k a h c:V):List (Str×V):=aP "condition" c (aP "ahead" h (aP "at" a (aP "kind" k [])))
def VQ (pg:V) (F:Addr):List (Str×V):=aP "found" (.ref F) (aP "program" pg [])
theorem xH:RH "blocks":=by unfold RH;decide +kernel
theorem IE:RH "writes":=by unfold RH;decide +kernel
theorem OR:RH "uses":=by unfold RH;decide +kernel
end Hw
namespace L2
open PySem PySem.Spec PyProof.Rows Hw
section
variable {X:Cx} {k:Nat} {m:Str} {pos apos:Pos} {o:Expr} {ta:TE} {Y:Cy} {ps:List Str} {sp:Nat→Sp}
def Sv:V→List V→Hp→VK→Prop:=fun x vs H Q=>∃ a b,x=.str a∧vs=[.str b]∧Q (.bl (Txt.startswith a b)) H
theorem Ls:MtR X "str.startswith" Sv:=by
 intro pins s σ H x vs v us Q I rx rv h
 obtain ⟨a,b,rfl,rfl,q⟩:=h
 obtain ⟨t,rfl⟩:=rx
 obtain ⟨u,rfl,ru⟩:=rv.one
 obtain ⟨t2,rfl⟩:=ru
 exact PySem.SC.startswith ⟨.bl _,H,I,rfl,q⟩
def a1K (K:PySem.W.Frag):List V→Hp→VK→Prop:=fun vs H Q=>∃ (a C dx tp c1 c2:Addr) (fs:List (Str×V)) (b:Bool),vs=[.ref a,.ref tp]∧H a=some (.ins C dx fs)∧wL K C∧PySem.W.findIn K (.ref C) "__class__"=some (some (.builtin "object.__class__")) ∧
 PySem.W.specialIn K (.builtin "object.__class__") "__get__"=some (some (.builtin "getset_descriptor.__get__"))∧PySem.W.takesIn K (.builtin "object.__class__")=some true∧PySem.W.mroIn K C (.type "object")=some true∧bG K H tp [.ref c1,.ref c2]∧PySem.W.kitAny K (.ref C) [.ref c1,.ref c2]=some b∧Q (.bl b) H
theorem Mj:ia X (.builtin "isinstance") (a1K X.K):=by
 intro pins s σ H xs us Q I r h
 obtain ⟨a,C,dx,tp,c1,c2,fs,b,rfl,ea,cl,ha,hn,htk,hm,ht,e,q⟩:=h
 obtain ⟨w1,w2,rfl,rx,r2⟩:=vals2 r
 cases rx
 cases r2
 obtain ⟨mA,O,_⟩:=sU I.hok ea
 obtain ⟨od,J,_⟩:=O.look
 obtain ⟨its,r',pl,hz⟩:=I.tuple ht
 obtain ⟨u1,u2,rfl,q1,q2⟩:=vals2 r'
 cases q1
 cases q2
 obtain ⟨⟨cls,dd,data,sl⟩,ho,hc,n,hd⟩:=pl
 simp only at hc hd
 subst hc hd
 exact PySem.W.kia_tup (PySem.W.kitx_own (cl.get _) cl.hd ha hn htk hm) I.qW J ho e (fun z=>nomatch z) fun tk=>⟨.bl b,H,I.tok _,rfl,q⟩
end
end L2
namespace Hw
open PySem L2
def Vg (Db:Addr):Sp:=fun vs H Q _=>∃ (p dx:Addr) (k a h c:V),vs=[.ref p,k,a,h,c]∧H p=some (.ins Db dx [])∧∀ H',aR p H H'→H' p=some (.ins Db dx (VN k a h c))→Q .fP H'
def Vk (Bk:Addr):Sp:=fun vs H Q _=>∃ (p dx:Addr) (pg:V),vs=[.ref p,pg]∧H p=some (.ins Bk dx [])∧∀ (F:Addr) (H':Hp),aR p H H'→H F=none→H' F=some (.lst [])→H' p=some (.ins Bk dx (VQ pg F))→Q .fP H'
def a1C (Z:Cz):Sp:=fun vs H Q _=>∃ (p u v:Addr) (a b:Ps) (n m:Int) (s:Str),vs=[.ref p]∧(∃ dx,H p=some (.ins Z.c dx (tM u s v)))∧bL Z.s H u a n∧bL Z.s H v b m∧∀ (l:Addr) (H':Hp),aK H H'→H' l=some (.lst [.ref u,.ref v])→Q (.ref l) H'
def EC:aI→List (List aI)
 | .flat ..=>[]
 | .kO _ _ t e=>[t,e]
 | .rep _ _ _ _ b=>[b]
def a5P (Y:Cy) (H:Hp) (v:V) (l:List aI):Prop:=∃ t us,v=.ref t∧H t=some (.tup us)∧bE Y H l us
def UM (H:Hp) (t:Addr) (us:List V):Prop:=H t=some (.tup us)∨H t=some (.lst us)
def oH:Sp:=fun vs H Q _=>∃ u:V,vs=[u]∧∀ (r:Addr) (H':Hp),aK H H'→H' r=some (.tup [.str "hold",u])→Q (.ref r) H'
def CB:Sp:=fun vs H Q _=>∃ x u:V,vs=[x,u]∧∀ (r:Addr) (H':Hp),aK H H'→H' r=some (.tup [.str "let",x,u])→Q (.ref r) H'
def uo:Sp:=fun vs H Q _=>∃ t:Addr,vs=[.ref t]∧H t=some (.tup [])∧∀ (r:Addr) (H':Hp),aK H H'→H' r=some (.tup [])→Q (.ref r) H'
section
variable {Y:Cy} {H:Hp} {s:aI} {p:Addr}
end
section
variable {Y:Cy} {H H':Hp}
theorem fQ {l:List aI} {us:List V} (h:bE Y H l us):us.length=l.length:=bI (ff.mp h)
theorem Cr {l:List aI} {us:List V} {s:aI} {v:V} (h:bE Y H l us) (g:bO Y H s v):bE Y H (l++[s]) (us++[v]):=ff.mpr (dP (ff.mp h) g)
theorem RZ {l m:List aI} {us ws:List V} (h:bE Y H l us) (g:bE Y H m ws):bE Y H (l++m) (us++ws):=ff.mpr (kq (ff.mp h) (ff.mp g))
theorem ue {l:List aI} {us:List V} {i:Nat} {x:V} (h:bE Y H l us) (hi:us[i]?=some x):∃ s p,l[i]?=some s∧x=.ref p∧bO Y H s (.ref p):=by
 obtain ⟨s,hs,hx⟩:=gg (ff.mp h) hi
 obtain ⟨p,e⟩:=M8 hx
 subst e
 exact ⟨s,p,hs,rfl,hx⟩
end
def JU (bs:List (List aI)):List aI:=(bs.map dR).flatten
theorem MY:∀ s:aI,s.wi=s::JU (EC s)
 | .flat k a as=>by unfold aI.wi EC JU;rfl
 | .kO a c t e=>by unfold aI.wi EC JU;simp
 | .rep a c hs f b=>by unfold aI.wi EC JU;simp
theorem Cj (bs:List (List aI)) (b:List aI):JU (bs++[b])=JU bs++dR b:=by unfold JU;simp
theorem M0 (k:Nat) (bs:List (List aI)):(JU (bs.take k)).length≤(JU bs).length:=by
 conv=>rhs;rw [← List.take_append_drop k bs]
 unfold JU
 rw [List.map_append,List.flatten_append,List.length_append]
 exact Nat.le_add_right _ _
theorem nK {A B:Prop} {b:Bool} (e:b=true) (h:A):if b=true then A else B:=by rw [e];exact h
theorem iM {A B:Prop} {b:Bool} (e:b=false) (h:B):if b=true then A else B:=by rw [e];exact h
theorem bW {K:PySem.W.Frag} {H:Hp} {r1 r2:Addr} {xs ys:List V} {Q:VK} (h1:H r1=some (.tup xs)) (h2:H r2=some (.tup ys)) (hl:xs.length+ys.length≤100000) (q:∀ (r:Addr) (H':Hp),aK H H'→H' r=some (.tup (xs++ys))→Q (.ref r) H'):NW K (.ref r1) (.ref r2) H Q:=by
 refine ⟨r1,r2,_,_,rfl,rfl,bG.of h1,bG.of h2,Nat.le_of_lt (line _ hl),fun e=>q r2 H (aK.refl _) (by rw [e];exact h2),fun e z=>q r1 H (aK.refl _) (by rw [z,List.append_nil];exact h1),fun e z r hr=>q r _ (new hr) af⟩
theorem Uz (s:aI):(EC s).length≤2:=by cases s <;> simp [EC]
def HU:Sp:=fun vs H Q _=>∃ t:Addr,vs=[.ref t]∧H t=some (.tup [])∧∀ (r:Addr) (H':Hp),aK H H'→H' r=some (.tup [])→Q (.ref r) H'
def HP (Y:Cy):Sp:=fun vs H Q _=>∃ (p dx tk l2:Addr) (a:Int) (v:V) (ws:List V),vs=[.ref p,.int a,v,.ref tk,.fP,.ref l2]∧H p=some (.ins Y.rp dx [])∧H tk=some (.tup [])∧H l2=some (.lst ws) ∧
 ∀ (t1 t2:Addr) (H':Hp),aR p H H'→H' p=some (.ins Y.rp dx (flR a v (.ref t1) .fP t2))→H' t1=some (.tup [])→H' t2=some (.tup ws)→Q .fP H'
end Hw
namespace Hw
open PySem L2
inductive Rx where
 | any (x:Str)
 | hold (c:Cd)
 | lt
 | jK
def JC (Z:Cz) (H:Hp) (v:V):Rx→Prop
 | .any x=>∃ r,v=.ref r∧H r=some (.tup [.str "any",.str x])
 | .hold c=>∃ r w,v=.ref r∧H r=some (.tup [.str "hold",w])∧bg Z H c w
 | .lt=>∃ r x w,v=.ref r∧H r=some (.tup [.str "let",x,w])
 | .jK=>True
theorem JC.aE {Z:Cz} {H H':Hp} (k:aD H H') {v:V}:∀ {r:Rx},JC Z H v r→JC Z H' v r
 | .any _,⟨r,e,q⟩=>⟨r,e,k.t _ _ q⟩
 | .hold _,⟨r,w,e,q,c⟩=>⟨r,w,e,k.t _ _ q,c.aE k⟩
 | .lt,⟨r,x,w,e,q⟩=>⟨r,x,w,e,k.t _ _ q⟩
 | .jK,h=>h
abbrev kU (Z:Cz) (H:Hp):List V→List Rx→Prop:=Paired (JC Z H)
theorem kU.aE {Z:Cz} {H H':Hp} (k:aD H H') {vs:List V} {rs:List Rx} (h:kU Z H vs rs):kU Z H' vs rs:=L2.Paired.lT h fun _ _ z=>z.aE k
theorem fu {Z:Cz} {H:Hp} {vs ws:List V} {rs qs:List Rx} (h:kU Z H vs rs) (g:kU Z H ws qs):kU Z H (vs++ws) (rs++qs):=kq h g
theorem bQ {Z:Cz} {H:Hp} {vs:List V} {rs:List Rx} (h:kU Z H vs rs):vs.length=rs.length:=bI h
theorem wu {Z:Cz} {H:Hp}:∀ vs:List V,kU Z H vs (List.replicate vs.length .jK)
 | []=>.nil
 | _::r=>.cons trivial (wu r)
def mS (Z:Cz) (H:Hp) (v:V) (rs:List Rx):Prop:=∃ t xs,v=.ref t∧H t=some (.tup xs)∧kU Z H xs rs
theorem mS.aE {Z:Cz} {H H':Hp} (k:aD H H') {v:V} {rs:List Rx} (h:mS Z H v rs):mS Z H' v rs:=let ⟨t,xs,e,q,r⟩:=h;⟨t,xs,e,k.t _ _ q,r.aE k⟩
abbrev kW (Z:Cz) (H:Hp):List V→List (List Rx)→Prop:=Paired (mS Z H)
theorem kW.aE {Z:Cz} {H H':Hp} (k:aD H H') {vs:List V} {ps:List (List Rx)} (h:kW Z H vs ps):kW Z H' vs ps:=L2.Paired.lT h fun _ _ z=>z.aE k
structure Dt where
 k:Str
 a:Int
 rs:List Rx
def Ro (Z:Cz) (Db:Addr) (H:Hp) (v:V) (d:Dt):Prop:=∃ p dx t xs c,v=.ref p∧H p=some (.ins Db dx (VN (.str d.k) (.int d.a) (.ref t) c))∧H t=some (.tup xs)∧kU Z H xs d.rs
theorem Ro.aE {Z:Cz} {Db:Addr} {H H':Hp} (k:aD H H') {v:V} {d:Dt} (h:Ro Z Db H v d):Ro Z Db H' v d:=let ⟨p,dx,t,xs,c,e,q,et,r⟩:=h;⟨p,dx,t,xs,c,e,k.i _ _ _ _ q,k.t _ _ et,r.aE k⟩
structure yP (Z:Cz) (Bk Db:Addr) (H:Hp) (b F:Addr) (pg:V) (ds:List V) (dd:List Dt):Prop where
 o:∃ dx,H b=some (.ins Bk dx (VQ pg F))
 f:H F=some (.lst ds)
 d:Paired (Ro Z Db H) ds dd
section
variable {Z:Cz} {Bk Db:Addr} {H H':Hp} {b F:Addr} {pg:V} {ds:List V} {dd:List Dt}
theorem yP.same (h:yP Z Bk Db H b F pg ds dd) (s:aK H H'):yP Z Bk Db H' b F pg ds dd:=⟨let ⟨dx,e⟩:=h.o;⟨dx,s _ _ e⟩,s _ _ h.f,L2.Paired.lT h.d fun _ _ z=>z.aE (aD.of s)⟩
theorem yP.len (h:yP Z Bk Db H b F pg ds dd):ds.length=dd.length:=bI h.d
theorem yP.vX (h:yP Z Bk Db H b F pg ds dd) (B:aR F H H'):aD H H':=aD.soft B h.f eV
end
def geZ (x:Str):Cd:=.cmp [] 0 "<=" [(x,1)] 0
def bf (x:Str):List Rx:=if Txt.startswith x "#"=true then [.any x,.hold (geZ x)] else [.any x]
theorem ju (x:Str):(bf x).length≤2:=by unfold bf;split <;> simp
noncomputable def yS (l:List Str):List Str:=by
 classical
 exact if h:∃ ys:List Str,ys.Pairwise (fun a b=>lt a b=true)∧∀ x,x∈ys↔x∈l then h.choose else []
theorem Nk {l ys:List Str} (h:ys.Pairwise (fun a b=>lt a b=true)) (g:∀ x,x∈ys↔x∈l):ys=yS l:=by
 unfold yS
 have ex:∃ ys:List Str,ys.Pairwise (fun a b=>lt a b=true)∧∀ x,x∈ys↔x∈l:=⟨ys,h,g⟩
 rw [dif_pos ex]
 exact zG h ex.choose_spec.1 fun x=>(g x).trans (ex.choose_spec.2 x).symm
noncomputable def oz (l:List Str):List Rx:=((yS l).map bf).flatten
def CT:Cd→Cd
 | .cmp a n s b m=>.cmp a n (Yy s) b m
 | c=>c
def wrA:Nat→List Ar→List Str
 | 0,.tx x::_=>[x]
 | 1,.tx x::_=>[x]
 | 2,.tx x::_=>[x]
 | 4,.tx x::_=>["#"++x]
 | 6,.Rv l::_=>l
 | _,_=>[]
def Af:aI→List Str
 | .flat k _ as=>wrA k as
 | _=>[]
def iN (l:List aI):List Str:=((dR l).map Af).flatten
def M6:Nat→List Ar→List Rx
 | 0,_=>[.lt]
 | 1,_=>[.jK,.jK,.jK,.jK,.jK]
 | 2,_=>[.jK,.jK]
 | 3,_=>[.jK]
 | 4,_=>[.jK,.jK]
 | 5,.cd c::_=>[.hold c]
 | 6,.Rv l::_=>List.replicate (1+l.length) .jK
 | _,_=>[]
def kdS:Nat→Str
 | 1=>"nought" | 2=>"beyond" | 3=>"beyond" | 4=>"short" | _=>"claim"
def Yw:Nat→Bool
 | 1=>true | 2=>true | 3=>true | 4=>true | 5=>true | _=>false
mutual
noncomputable def aI.go:aI→List Rx→List Dt×List (List Rx)
 | .flat k a as=>fun p=>(if Yw k=true then [⟨kdS k,a,p⟩] else [],[p++M6 k as])
 | .kO _ c t e=>fun p=>((lU t [p++[.hold c]]).1++(lU e [p++[.hold (CT c)]]).1,(lU t [p++[.hold c]]).2++(lU e [p++[.hold (CT c)]]).2)
 | .rep _ c _ _ b=>fun p=>((lU b [p++oz (iN b)++[.hold c]]).1,[p++oz (iN b)++[.hold (CT c)]])
noncomputable def lU:List aI→List (List Rx)→List Dt×List (List Rx)
 | []=>fun ps=>([],ps)
 | s::r=>fun ps=>((ps.map fun p=>(s.go p).1).flatten++(lU r (ps.map fun p=>(s.go p).2).flatten).1,(lU r (ps.map fun p=>(s.go p).2).flatten).2)
end
theorem jr (ps:List (List Rx)):lU [] ps=([],ps):=by unfold lU;rfl
theorem iG (s:aI) (r:List aI) (ps:List (List Rx)):lU (s::r) ps=((ps.map fun p=>(s.go p).1).flatten++(lU r (ps.map fun p=>(s.go p).2).flatten).1,(lU r (ps.map fun p=>(s.go p).2).flatten).2):=by
 conv=>lhs;unfold lU
theorem DH (s:aI):∀ (l:List aI) (ps:List (List Rx)),lU (l++[s]) ps=((lU l ps).1++((lU l ps).2.map fun p=>(s.go p).1).flatten,((lU l ps).2.map fun p=>(s.go p).2).flatten)
 | [],ps=>by
  show lU [s] ps=_
  rw [iG,jr,jr]
  simp
 | a::r,ps=>by
  show lU (a::(r++[s])) ps=_
  rw [iG,DH s r,iG]
  simp
mutual
def aI.dn:aI→Nat
 | .flat k _ _=>if Yw k=true then 1 else 0
 | .kO _ _ t e=>lO t 1+lO e 1
 | .rep _ _ _ _ b=>lO b 1
def lO:List aI→Nat→Nat
 | []=>fun _=>0
 | s::r=>fun k=>k*s.dn+lO r (k*s.np)
end
theorem oX {α β:Type} (f:α→List β) (n:Nat) (h:∀ x,(f x).length=n):∀ l:List α,(l.map f).flatten.length=l.length*n
 | []=>by simp
 | a::r=>by
  rw [List.map_cons,List.flatten_cons,List.length_append,oX f n h r,h a,List.length_cons,Nat.succ_mul,Nat.add_comm]
mutual
theorem sX:∀ (s:aI) (p:List Rx),(s.go p).1.length=s.dn∧(s.go p).2.length=s.np
 | .flat k a as,p=>by
  unfold aI.go aI.dn aI.np
  refine ⟨?_,rfl⟩
  by_cases h:Yw k=true
  ·simp [h]
  ·simp [h]
 | .kO a c t e,p=>by
  unfold aI.go aI.dn aI.np
  have h1:=nO t [p++[.hold c]]
  have h2:=nO e [p++[.hold (CT c)]]
  simp only [List.length_append,h1,h2,List.length_singleton,Nat.one_mul,and_self]
 | .rep a c hs f b,p=>by
  unfold aI.go aI.dn aI.np
  exact ⟨(nO b _).1,rfl⟩
theorem nO:∀ (l:List aI) (ps:List (List Rx)),(lU l ps).1.length=lO l ps.length∧(lU l ps).2.length=ps.length*dM l
 | [],ps=>by
  rw [jr]
  unfold lO dM
  simp
 | s::r,ps=>by
  rw [iG]
  have e1:=oX (fun p=>(s.go p).1) s.dn (fun p=>(sX s p).1) ps
  have e2:=oX (fun p=>(s.go p).2) s.np (fun p=>(sX s p).2) ps
  have h:=nO r (ps.map fun p=>(s.go p).2).flatten
  rw [e2] at h
  unfold lO dM
  simp only [List.length_append,e1,h]
  exact ⟨trivial,by rw [Nat.mul_assoc]⟩
end
theorem BJ (m:List aI):∀ (l:List aI) (k:Nat),lO (l++m) k=lO l k+lO m (k*dM l)
 | [],k=>by
  show lO m k=lO [] k+lO m (k*dM [])
  rw [show dM []=1 by unfold dM;rfl,Nat.mul_one,show lO [] k=0 by unfold lO;rfl,Nat.zero_add]
 | a::r,k=>by
  show k*a.dn+lO (r++m) (k*a.np)=k*a.dn+lO r (k*a.np)+lO m (k*(a.np*dM r))
  rw [BJ m r,Nat.mul_assoc,Nat.add_assoc]
theorem QW (i:Nat) (l:List aI) (k:Nat):lO (l.take i) k≤lO l k:=by
 conv=>rhs;rw [← List.take_append_drop i l,BJ]
 exact Nat.le_add_right _ _
theorem QX (s:aI) (l:List aI) (k:Nat):lO (l++[s]) k=lO l k+k*dM l*s.dn:=by
 rw [BJ]
 show _+lO [s] _=_
 unfold lO
 show _+(k*dM l*s.dn+lO [] _)=_
 rw [show lO [] _=0 by unfold lO;rfl,Nat.add_zero]
mutual
def aI.gw:aI→Nat
 | .flat _ _ _=>8
 | .kO _ _ t e=>1+lE t+lE e
 | .rep _ _ _ _ b=>40+lE b
def lE:List aI→Nat
 | []=>0
 | s::r=>s.gw+lE r
end
theorem BC (m:List aI):∀ l:List aI,lE (l++m)=lE l+lE m
 | []=>by show lE m=lE []+lE m;rw [show lE []=0 by unfold lE;rfl,Nat.zero_add]
 | a::r=>by show a.gw+lE (r++m)=a.gw+lE r+lE m;rw [BC m r,Nat.add_assoc]
theorem DG (s:aI) (l:List aI):lE (l++[s])=lE l+s.gw:=by
 rw [BC]
 show lE l+(s.gw+lE [])=_
 rw [show lE []=0 by unfold lE;rfl,Nat.add_zero]
theorem Qu (i:Nat) (l:List aI):lE (l.take i)≤lE l:=by
 conv=>rhs;rw [← List.take_append_drop i l,BC]
 exact Nat.le_add_right _ _
def RI (N:List Str) (x:Str):Prop:=x∈N∧Txt.startswith x "#"=false
structure vJ (N:List Str):Prop where
 l:N.length≤8
 s:∀ x∈N,x.length≤40
def Ci (N:List Str) (a:Ps):Prop:=a.length≤3∧∀ t∈keys a,t∈N
def MM (N:List Str) (c:Cd):Prop:=∃ a n s b m,c=.cmp a n s b m∧Ci N a∧Ci N b∧s∈signs
def U0 (x:Str) (k:Nat):Prop:=(x="none"∧k=0)∨(x="one"∧k=1)∨(x="two"∧k=2)
def Rwn (N:List Str) (r:Str):Prop:="#"++r∈N∧r.length≤100
def Kl (N:List Str):Nat→List Ar→Prop
 | 0,as=>∃ x a n,as=[.tx x,.sm a n]∧RI N x∧Ci N a
 | 1,as=>∃ x a n,as=[.tx x,.tx "div",.sm a n,.sm [] 2]∧RI N x∧Ci N a
 | 2,as=>∃ x r a n,as=[.tx x,.tx r,.sm a n]∧RI N x∧Rwn N r∧Ci N a
 | 3,as=>∃ r a n b m,as=[.tx r,.sm a n,.sm b m]∧Rwn N r∧Ci N a∧Ci N b
 | 4,as=>∃ r a n,as=[.tx r,.sm a n]∧Rwn N r∧Ci N a
 | 5,as=>∃ c,as=[.cd c]∧MM N c
 | 6,as=>∃ l x q,as=[.Rv l,.tx x,.Vl [q]]∧U0 x l.length∧(∀ y∈l,RI N y)∧Ci N q.1
 | _,_=>False
mutual
def aI.iO (N:List Str):aI→Prop
 | .flat k _ as=>Kl N k as
 | .kO _ c t e=>MM N c∧t.length≤5∧e.length≤5∧dZ N t∧dZ N e
 | .rep _ c hs f b=>MM N c∧hs=[]∧f=none∧(b.length≤5∧dM b≤1000)∧dZ N b
def dZ (N:List Str):List aI→Prop
 | []=>True
 | s::r=>s.iO N∧dZ N r
end
theorem sI {N:List Str} {s:aI}:∀ {l:List aI},dZ N l→s∈l→s.iO N
 | a::r,h,m=>by
  unfold dZ at h
  rcases List.mem_cons.mp m with e | e
  ·rw [e];exact h.1
  ·exact sI h.2 e
theorem zJ {N:List Str} {s:aI}:∀ {l:List aI},dZ N l→s.iO N→dZ N (l++[s])
 | [],_,h=>by unfold dZ;exact ⟨h,by unfold dZ;trivial⟩
 | a::r,g,h=>by
  unfold dZ at g
  show dZ N (a::(r++[s]))
  unfold dZ
  exact ⟨g.1,zJ g.2 h⟩
mutual
theorem MX {N:List Str}:∀ {s:aI},s.iO N→∀ u∈s.wi,u.iO N
 | .flat k a as,h,u,hu=>by unfold aI.wi at hu;rw [List.mem_singleton.mp hu];exact h
 | .kO a c t e,h,u,hu=>by
  unfold aI.wi at hu
  rcases List.mem_cons.mp hu with q | q
  ·rw [q];exact h
  ·unfold aI.iO at h
   rcases List.mem_append.mp q with q | q
   ·exact lF h.2.2.2.1 u q
   ·exact lF h.2.2.2.2 u q
 | .rep a c hs f b,h,u,hu=>by
  unfold aI.wi at hu
  rcases List.mem_cons.mp hu with q | q
  ·rw [q];exact h
  ·unfold aI.iO at h
   exact lF h.2.2.2.2 u q
theorem lF {N:List Str}:∀ {l:List aI},dZ N l→∀ u∈dR l,u.iO N
 | [],h,u,hu=>by unfold dR at hu;exact absurd hu List.not_mem_nil
 | s::r,h,u,hu=>by
  unfold dR at hu
  unfold dZ at h
  rcases List.mem_append.mp hu with q | q
  ·exact MX h.1 u q
  ·exact lF h.2 u q
end
theorem Y9 {N:List Str}:∀ {k:Nat} {as:List Ar},Kl N k as→(∀ x∈wrA k as,x∈N)∧(wrA k as).length≤2
 | 0,_,⟨x,a,n,e,h,_⟩=>by subst e;exact ⟨fun y hy=>by rw [List.mem_singleton.mp hy];exact h.1,(by decide:1≤2)⟩
 | 1,_,⟨x,a,n,e,h,_⟩=>by subst e;exact ⟨fun y hy=>by rw [List.mem_singleton.mp hy];exact h.1,(by decide:1≤2)⟩
 | 2,_,⟨x,r,a,n,e,h,_,_⟩=>by subst e;exact ⟨fun y hy=>by rw [List.mem_singleton.mp hy];exact h.1,(by decide:1≤2)⟩
 | 3,_,⟨r,a,n,b,m,e,h,_,_⟩=>by subst e;exact ⟨fun y hy=>absurd hy List.not_mem_nil,(by decide:0≤2)⟩
 | 4,_,⟨r,a,n,e,h,_⟩=>by subst e;exact ⟨fun y hy=>by rw [List.mem_singleton.mp hy];exact h.1,(by decide:1≤2)⟩
 | 5,_,⟨c,e,h⟩=>by subst e;exact ⟨fun y hy=>absurd hy List.not_mem_nil,(by decide:0≤2)⟩
 | 6,_,⟨l,x,q,e,hc,h,_⟩=>by
  subst e
  refine ⟨fun y hy=>(h y hy).1,?_⟩
  show l.length≤2
  rcases hc with ⟨_,z⟩ | ⟨_,z⟩ | ⟨_,z⟩ <;> omega
theorem ID {N:List Str} {s:aI} (h:s.iO N):(∀ x∈Af s,x∈N)∧(Af s).length≤2:=by
 cases s with
 | flat k a as=>unfold aI.iO at h;exact Y9 h
 | kO=>exact ⟨fun y hy=>absurd hy List.not_mem_nil,Nat.zero_le _⟩
 | rep=>exact ⟨fun y hy=>absurd hy List.not_mem_nil,Nat.zero_le _⟩
theorem Ae {N:List Str} {l:List aI} (h:dZ N l):∀ x∈iN l,x∈N:=fun x hx=>by
 unfold iN at hx
 obtain ⟨ys,hy,hx⟩:=List.mem_flatten.mp hx
 obtain ⟨u,hu,rfl⟩:=List.mem_map.mp hy
 exact (ID (lF h u hu)).1 x hx
def aI.ME:aI→Bool
 | .flat k _ _=>Yw k
 | _=>false
mutual
theorem KA:∀ {s:aI} {p:List Rx},(∀ u∈s.wi,u.ME=false)→(s.go p).1=[]
 | .flat k a as,p,h=>by
  have:=h (.flat k a as) (by unfold aI.wi;exact List.mem_singleton.mpr rfl)
  unfold aI.ME at this
  unfold aI.go
  simp [this]
 | .kO a c t e,p,h=>by
  unfold aI.go
  rw [tD fun u hu=>h u (by unfold aI.wi;exact List.mem_cons_of_mem _ (List.mem_append_left _ hu)),tD fun u hu=>h u (by unfold aI.wi;exact List.mem_cons_of_mem _ (List.mem_append_right _ hu))]
  rfl
 | .rep a c hs f b,p,h=>by
  unfold aI.go
  exact tD fun u hu=>h u (by unfold aI.wi;exact List.mem_cons_of_mem _ hu)
theorem tD:∀ {l:List aI} {ps:List (List Rx)},(∀ u∈dR l,u.ME=false)→(lU l ps).1=[]
 | [],ps,_=>by rw [jr]
 | s::r,ps,h=>by
  rw [iG]
  have h1:∀ p,(s.go p).1=[]:=fun p=>KA fun u hu=>h u (by unfold dR;exact List.mem_append_left _ hu)
  rw [tD fun u hu=>h u (by unfold dR;exact List.mem_append_right _ hu)]
  simp [h1]
end
end Hw
namespace Hw
open PySem L2
structure dI (K:PySem.W.Frag) (mg:Str→Option Value) (Y:Cy) (fS Db Bk:Addr):Prop where
 cl:∀ j,j < 9→wL K (fc Y j)
 na:∀ j x,j < 9→x∈fN j→cu K (fc Y j) x
 ca:∀ j,j < 9→PySem.W.findIn K (.ref (fc Y j)) "__class__"=some (some (.builtin "object.__class__"))
 cm:∀ j,j < 9→PySem.W.mroIn K (fc Y j) (.type "object")=some true
 kk:∀ j i,j < 9→i∈([0,1,2,4,5,6,7,8]:List Nat)→PySem.W.kitOne K (.ref (fc Y j)) (.ref (fc Y i))=some (decide (j=i))
 ch:wL K Y.hp
 nh:∀ x∈hN,cu K Y.hp x
 cp:wL K Y.pg
 np:cu K Y.pg "helpers"
 cd:wL K Db
 nd:∀ x∈(["kind","at","ahead","condition"]:List Str),cu K Db x
 cb:wL K Bk
 nb:∀ x∈(["program","found"]:List Str),cu K Bk x
 cc:wL K Y.z.c
 n1:cu K Y.z.c "one"
 n2:cu K Y.z.c "sign"
 n3:cu K Y.z.c "other"
 ce:wL K Y.z.e
 n4:cu K Y.z.e "conditions"
 mgC:mg "Compare"=some (.ref Y.z.c)
 mgE:mg "Every"=some (.ref Y.z.e)
 Tv:mg "Step"=some (.ref Y.st)
 mg0:mg "Let"=some (.ref Y.lt)
 mg1:mg "Divide"=some (.ref Y.dv)
 mg2:mg "Fetch"=some (.ref Y.ft)
 mg3:mg "Put"=some (.ref Y.pt)
 mg4:mg "Make"=some (.ref Y.mq)
 mg5:mg "Claim"=some (.ref Y.cm)
 mg6:mg "Call"=some (.ref Y.cl)
 mg7:mg "Choose"=some (.ref Y.ch)
 mg8:mg "Repeat"=some (.ref Y.rp)
 mgH:mg "Helper"=some (.ref Y.hp)
 mgP:mg "Program"=some (.ref Y.pg)
 mgD:mg "Debt"=some (.ref Db)
 mgB:mg "Book"=some (.ref Bk)
 any:mg "any"=none
 set:mg "set"=none
 zip:mg "zip"=none
 enumerate:mg "enumerate"=none
 d1:∃ t,mg "MOST_DEBTS"=some (.int 100 t)
 d2:∃ t,mg "MOST_PATHS"=some (.int 16 t)
 d3:∃ t,mg "DIVIDED"=some (.str "^" t)
 d4:∃ t,mg "QUOTIENT"=some (.str "^^" t)
 g1:PySem.W.specialIn K (.ref Y.st) "__getattribute__"=some (some (.builtin "type.__getattribute__"))
 g2:PySem.W.readsIn K Y.st (.type "type")=true
 g3:PySem.W.findCls K (.ref Y.st) (.type "type") "__init__"=some (.val (.ref fS))
 g4:PySem.W.handedIn (.ref fS)=true
 g5:PySem.W.keepIn K (.ref fS)=true
theorem dI.nH {K:PySem.W.Frag} {mg:Str→Option Value} {Y:Cy} {fS Db Bk:Addr} (J:dI K mg Y fS Db Bk) {x:Str} (m:x∈hN:=by decide +kernel):cu K Y.hp x:=J.nh x m
theorem dI.nA {K:PySem.W.Frag} {mg:Str→Option Value} {Y:Cy} {fS Db Bk:Addr} (J:dI K mg Y fS Db Bk) (j:Nat) {x:Str} (h:j < 9:=by decide) (m:x∈fN j:=by decide +kernel):cu K (fc Y j) x:=J.na j x h m
theorem jZ {K:PySem.W.Frag} {mg:Str→Option Value} {Y:Cy} {fS Db Bk:Addr} {H:Hp} {s:aI} {p:Addr} (T:Txt K mg Y.z.s) (J:dI K mg Y fS Db Bk) (h:bO Y H s (.ref p)):tT K H (.ref p) (.ref (fc Y (kd s))) :=
 let ⟨_,_,e,_⟩:=wV h Df
 .ins e (J.cl _ (qe h)) (J.ca _ (qe h)) T.cg T.ct (J.cm _ (qe h))
theorem BR {N:List Str} {Z:Cz} {H:Hp} {c:Cd} {v:V} (h:bg Z H c v) (x:MM N c):∃ p,v=.ref p:=by
 obtain ⟨a,n,s,b,m,rfl,_⟩:=x
 unfold bg at h
 obtain ⟨p,_,_,_,e,_⟩:=h
 exact ⟨p,e⟩
section
variable {N:List Str} {Y:Cy} {H:Hp} {s:aI} {p:Addr}
theorem nQ (hs:bO Y H s (.ref p)) (od:s.iO N) {j:Nat} (sj:kd s=j) (h7:j < 7):∃ a dx as us,s=.flat j a as∧Kl N j as∧H p=some (.ins (fc Y j) dx (KJ j a us))∧Paired (fun u a=>ArO Y.z H a u) us as:=by
 cases s with
 | kO=>exact absurd (show 7=j from sj) (by omega)
 | rep=>exact absurd (show 8=j from sj) (by omega)
 | flat kk at_ as =>
  have sj:kk=j:=sj
  subst sj
  unfold bO at hs
  unfold aI.iO at od
  obtain ⟨q,dx,us,e,sh,ep,pp⟩:=hs
  cases e
  exact ⟨at_,dx,as,us,rfl,od,ep,pp⟩
theorem w0_ (hs:bO Y H s (.ref p)) (od:s.iO N) (sj:kd s=0):∃ a dx u x b n,s=.flat 0 a [.tx x,.sm b n]∧RI N x∧Ci N b∧H p=some (.ins Y.lt dx (KJ 0 a [.str x,.ref u]))∧bL Y.z.s H u b n:=by
 obtain ⟨a,dx,as,us,e,⟨x,b,n,rfl,h1,h2⟩,ep,pp⟩:=nQ hs od sj (by decide)
 cases pp with | cons p1 p2=>cases p2 with | cons p2 p3 =>
 cases p3;cases p1
 obtain ⟨u,rfl,su⟩:=p2
 exact ⟨a,dx,u,x,b,n,e,h1,h2,ep,su⟩
theorem w1_ (hs:bO Y H s (.ref p)) (od:s.iO N) (sj:kd s=1):∃ a dx u w x b n,s=.flat 1 a [.tx x,.tx "div",.sm b n,.sm [] 2]∧RI N x∧Ci N b∧H p=some (.ins Y.dv dx (KJ 1 a [.str x,.str "div",.ref u,.ref w]))∧bL Y.z.s H u b n∧bL Y.z.s H w [] 2:=by
 obtain ⟨a,dx,as,us,e,⟨x,b,n,rfl,h1,h2⟩,ep,pp⟩:=nQ hs od sj (by decide)
 cases pp with | cons p1 p2=>cases p2 with | cons p2 p3=>cases p3 with | cons p3 p4=>cases p4 with | cons p4 p5 =>
 cases p5;cases p1;cases p2
 obtain ⟨u,rfl,su⟩:=p3
 obtain ⟨w,rfl,sw⟩:=p4
 exact ⟨a,dx,u,w,x,b,n,e,h1,h2,ep,su,sw⟩
theorem w2_ (hs:bO Y H s (.ref p)) (od:s.iO N) (sj:kd s=2):∃ a dx u x r b n,s=.flat 2 a [.tx x,.tx r,.sm b n]∧RI N x∧Rwn N r∧Ci N b∧H p=some (.ins Y.ft dx (KJ 2 a [.str x,.str r,.ref u]))∧bL Y.z.s H u b n:=by
 obtain ⟨a,dx,as,us,e,⟨x,r,b,n,rfl,h1,h2,h3⟩,ep,pp⟩:=nQ hs od sj (by decide)
 cases pp with | cons p1 p2=>cases p2 with | cons p2 p3=>cases p3 with | cons p3 p4 =>
 cases p4;cases p1;cases p2
 obtain ⟨u,rfl,su⟩:=p3
 exact ⟨a,dx,u,x,r,b,n,e,h1,h2,h3,ep,su⟩
theorem w3_ (hs:bO Y H s (.ref p)) (od:s.iO N) (sj:kd s=3):∃ a dx u w r b n c m,s=.flat 3 a [.tx r,.sm b n,.sm c m]∧Rwn N r∧Ci N b∧Ci N c∧H p=some (.ins Y.pt dx (KJ 3 a [.str r,.ref u,.ref w]))∧bL Y.z.s H u b n∧bL Y.z.s H w c m:=by
 obtain ⟨a,dx,as,us,e,⟨r,b,n,c,m,rfl,h1,h2,h3⟩,ep,pp⟩:=nQ hs od sj (by decide)
 cases pp with | cons p1 p2=>cases p2 with | cons p2 p3=>cases p3 with | cons p3 p4 =>
 cases p4;cases p1
 obtain ⟨u,rfl,su⟩:=p2
 obtain ⟨w,rfl,sw⟩:=p3
 exact ⟨a,dx,u,w,r,b,n,c,m,e,h1,h2,h3,ep,su,sw⟩
theorem w4_ (hs:bO Y H s (.ref p)) (od:s.iO N) (sj:kd s=4):∃ a dx u r b n,s=.flat 4 a [.tx r,.sm b n]∧Rwn N r∧Ci N b∧H p=some (.ins Y.mq dx (KJ 4 a [.str r,.ref u]))∧bL Y.z.s H u b n:=by
 obtain ⟨a,dx,as,us,e,⟨r,b,n,rfl,h1,h2⟩,ep,pp⟩:=nQ hs od sj (by decide)
 cases pp with | cons p1 p2=>cases p2 with | cons p2 p3 =>
 cases p3;cases p1
 obtain ⟨u,rfl,su⟩:=p2
 exact ⟨a,dx,u,r,b,n,e,h1,h2,ep,su⟩
theorem w5_ (hs:bO Y H s (.ref p)) (od:s.iO N) (sj:kd s=5):∃ a dx c pc,s=.flat 5 a [.cd c]∧MM N c∧H p=some (.ins Y.cm dx (KJ 5 a [.ref pc]))∧bg Y.z H c (.ref pc):=by
 obtain ⟨a,dx,as,us,e,⟨c,rfl,h1⟩,ep,pp⟩:=nQ hs od sj (by decide)
 cases pp with | cons p1 p2 =>
 cases p2
 have p1:bg Y.z H c _:=p1
 obtain ⟨pc,e'⟩:=BR p1 h1
 subst e'
 exact ⟨a,dx,c,pc,e,h1,ep,p1⟩
theorem w6_ (hs:bO Y H s (.ref p)) (od:s.iO N) (sj:kd s=6):∃ a dx t1 t2 u l x q,s=.flat 6 a [.Rv l,.tx x,.Vl [q]]∧U0 x l.length∧(∀ y∈l,RI N y)∧Ci N q.1∧H p=some (.ins Y.cl dx (KJ 6 a [.ref t1,.str x,.ref t2]))∧H t1=some (.tup (l.map V.str))∧H t2=some (.tup [.ref u])∧bL Y.z.s H u q.1 q.2:=by
 obtain ⟨a,dx,as,us,e,⟨l,x,q,rfl,h1,h2,h3⟩,ep,pp⟩:=nQ hs od sj (by decide)
 cases pp with | cons p1 p2=>cases p2 with | cons p2 p3=>cases p3 with | cons p3 p4 =>
 cases p4;cases p2
 obtain ⟨t1,rfl,e1⟩:=p1
 obtain ⟨t2,ws,rfl,e2,_,pw⟩:=p3
 cases pw with | cons q1 q2 =>
 cases q2
 obtain ⟨u,rfl,su⟩:=q1
 exact ⟨a,dx,t1,t2,u,l,x,q,e,h1,h2,h3,ep,e1,e2,su⟩
theorem w7_ (hs:bO Y H s (.ref p)) (od:s.iO N) (sj:kd s=7):∃ a dx c pc t e t1 t2 us ws,s=.kO a c t e∧MM N c∧H p=some (.ins Y.ch dx (flC a (.ref pc) t1 t2))∧bg Y.z H c (.ref pc)∧H t1=some (.tup us)∧bE Y H t us∧H t2=some (.tup ws)∧bE Y H e ws ∧
  t.length≤5∧e.length≤5∧dZ N t∧dZ N e:=by
 cases s with
 | flat kk at_ as =>
  have sj:kk=7:=sj
  subst sj
  unfold aI.iO Kl at od
  exact od.elim
 | rep=>exact absurd sj (by show ¬ 8=7;decide)
 | kO at_ c t e =>
  unfold bO at hs
  unfold aI.iO at od
  obtain ⟨q,dx,uc,t1,t2,us,ws,e0,ep,hc,e1,l1,h1,e2,l2,h2⟩:=hs
  cases e0
  obtain ⟨xc,o1,o2,o5,o6⟩:=od
  obtain ⟨pc,rfl⟩:=BR hc xc
  exact ⟨at_,dx,c,pc,t,e,t1,t2,us,ws,rfl,xc,ep,hc,e1,h1,e2,h2,o1,o2,o5,o6⟩
theorem Xz (hs:bO Y H s (.ref p)) (od:s.iO N) (sj:kd s=8):∃ a dx c pc b tk t2 ws,s=.rep a c [] none b∧MM N c∧H p=some (.ins Y.rp dx (flR a (.ref pc) (.ref tk) .fP t2))∧bg Y.z H c (.ref pc)∧H tk=some (.tup [])∧H t2=some (.tup ws)∧bE Y H b ws ∧
  (b.length≤5∧dM b≤1000)∧dZ N b:=by
 cases s with
 | flat kk at_ as =>
  have sj:kk=8:=sj
  subst sj
  unfold aI.iO Kl at od
  exact od.elim
 | kO=>exact absurd sj (by show ¬ 7=8;decide)
 | rep at_ c hs0 f0 b0 =>
  unfold bO at hs
  unfold aI.iO at od
  obtain ⟨q,dx,uc,uh,uf,t2,ws,e0,ep,hc,hh,hf,e2,l2,h2⟩:=hs
  cases e0
  obtain ⟨xc,rfl,rfl,o1,o3⟩:=od
  obtain ⟨pc,rfl⟩:=BR hc xc
  obtain ⟨tk,us,rfl,ek,_,pk⟩:=hh
  cases pk
  cases hf
  exact ⟨at_,dx,c,pc,b0,tk,t2,ws,rfl,xc,ep,hc,ek,e2,h2,o1,o3⟩
end
def CD (N:List Str) (Z:Cz):Sp:=fun vs H Q _=>∃ (p:Addr) (c:Cd),vs=[.ref p]∧bg Z H c (.ref p)∧MM N c∧∀ (q:Addr) (H':Hp),aK H H'→bg Z H' (CT c) (.ref q)→Q (.ref q) H'
def CC (N:List Str) (Z:Cz):Sp:=fun vs H Q _=>∃ (p:Addr) (c:Cd),vs=[.ref p]∧bg Z H c (.ref p)∧MM N c∧N.length < 64∧∀ (r:Addr) (xs:List Str) (H':Hp),aK H H'→H' r=some (.tup (xs.map V.str))→(∀ x∈xs,x∈N)→xs.length≤6→Q (.ref r) H'
def Vb (C:Addr):Sp:=fun vs H Q _=>∃ (p:Addr) (a:Ps) (n:Int),vs=[.ref p]∧bL C H p a n∧∀ (r:Addr) (H':Hp),aK H H'→lg H' r a n→Q (.ref r) H'
def Vj (Z:Cz):Sp:=fun vs H Q _=>∃ (p:Addr) (a b:Ps) (n m:Int) (s:Str),vs=[.ref p]∧bg Z H (.cmp a n s b m) (.ref p)∧∀ (v:V) (H':Hp),aK H H'→fE H' (.cmp a n s b m) v→Q v H'
def Nm (E:Addr):Sp:=fun vs H Q _=>∃ (p dx l:Addr) (us:List V),vs=[.ref p,.ref l]∧H p=some (.ins E dx [])∧H l=some (.lst us)∧∀ H',aR p H H'→Q .fP H'
def ie (N:List Str) (Y:Cy):Nat→Sp:=fun j vs H Q _=>∃ (p:Addr) (s:aI),vs=[.ref p]∧kd s=j∧bO Y H s (.ref p)∧s.iO N∧N.length < 64∧∀ (r:Addr) (xs:List Str) (H':Hp),aK H H'→H' r=some (.tup (xs.map V.str))→(∀ x∈xs,x∈N)→xs.length≤8→Q (.ref r) H'
def eU (N:List Str) (Y:Cy):Nat→Sp:=fun j vs H Q _=>∃ (p:Addr) (s:aI),vs=[.ref p]∧kd s=j∧bO Y H s (.ref p)∧s.iO N∧∀ (r:Addr) (H':Hp),aK H H'→H' r=some (.tup ((Af s).map V.str))→Q (.ref r) H'
def dN (N:List Str) (Y:Cy):Nat→Sp:=fun j vs H Q _=>∃ (p:Addr) (s:aI),vs=[.ref p]∧kd s=j∧bO Y H s (.ref p)∧s.iO N∧∀ (r:Addr) (bs:List V) (H':Hp),aK H H'→H' r=some (.tup bs)→Paired (a5P Y H') bs (EC s)→Q (.ref r) H'
def gS (N:List Str) (Y:Cy) (n:Nat):Sp:=fun vs H Q _=>∃ (t:Addr) (us:List V) (l:List aI),vs=[.ref t]∧UM H t us∧bE Y H l us∧dZ N l∧gn l < n∧(dR l).length≤400∧∀ (R:Addr) (ws:List V) (H':Hp),aK H H'→H R=none→H' R=some (.lst ws)→bE Y H' (dR l) ws→Q (.ref R) H'
def J2 (N:List Str) (Y:Cy):Sp:=fun vs H Q _=>∃ (p:Addr) (s:aI),vs=[.ref p]∧bO Y H s (.ref p)∧s.iO N∧N.length < 64∧∀ (l r t:Addr) (a:Int) (xs:List Str) (H':Hp),aK H H'→H l=none→H' l=some (.lst [.ref r])→H' r=some (.tup [.int a,.ref t])→H' t=some (.tup (xs.map V.str))→(∀ x∈xs,x∈N)→xs.length≤8→Q (.ref l) H'
structure HlW (N:List Str) (h:Hl) (l:List aI):Prop where
 ps:∀ x∈h.ps,x∈N
 pl:h.ps.length≤3
 pn:h.ps≠[]
 an:h.an=[]
 nd:h.nd=[]
 gv:h.gv=[]
 st:h.st=l
def Cw (N:List Str) (Y:Cy) (n:Nat):Sp:=fun vs H Q _=>∃ (p:Addr) (h:Hl) (l:List aI),vs=[.ref p]∧zj Y H h (.ref p)∧HlW N h l∧dZ N l∧vJ N∧gn l < n∧(dR l).length≤400∧∀ (R:Addr) (xs:List Str) (H':Hp),aK H H'→H R=none→H' R=some (.lst (xs.map V.str))→xs.length < 64→Q (.ref R) H'
def qm (N:List Str) (Y:Cy) (n:Nat):Sp:=fun vs H Q _=>∃ (t:Addr) (us:List V) (l:List aI),vs=[.ref t]∧H t=some (.tup us)∧bE Y H l us∧dZ N l∧vJ N∧gn l < n∧(dR l).length≤400∧((∃ ys:List Str,ys.Pairwise (fun a b=>lt a b=true)∧∀ x,x∈ys↔x∈iN l)→(yS (iN l)).length≤8→∀ (R:Addr) (H':Hp),aK H H'→H R=none→H' R=some (.lst ((yS (iN l)).map V.str))→Q (.ref R) H')
def w5:Sp:=fun vs H Q _=>∃ x:Str,vs=[.str x]∧Q (.bl (Txt.startswith x "#")) H
def mW:Sp:=fun vs H Q _=>∃ x:Str,vs=[.str x]∧x.length≤1000∧Q (.str ("#"++x)) H
def um (C:Addr):Sp:=fun vs H Q _=>∃ x:Str,vs=[.str x]∧∀ (r:Addr) (H':Hp),aK H H'→bL C H' r [(x,1)] 0→Q (.ref r) H'
def J7 (Z:Cz):Sp:=fun vs H Q _=>∃ (p q:Addr) (a b:Ps) (n m:Int),vs=[.ref p,.ref q]∧bL Z.s H p a n∧bL Z.s H q b m∧∀ (r:Addr) (H':Hp),aK H H'→bg Z H' (.cmp a n "<=" b m) (.ref r)→Q (.ref r) H'
def wm (Z:Cz):Sp:=fun vs H Q _=>∃ (p:Addr) (a:Ps) (n:Int),vs=[.ref p]∧bL Z.s H p a n∧∀ (r:Addr) (H':Hp),aK H H'→bg Z H' (.cmp [] 0 "<=" a n) (.ref r)→Q (.ref r) H'
def iP (Z:Cz):Sp:=fun vs H Q _=>∃ x:Str,vs=[.str x]∧∀ (r:Addr) (us:List V) (H':Hp),aK H H'→H' r=some (.tup us)→kU Z H' us (bf x)→Q (.ref r) H'
def Cv (N:List Str) (Y:Cy) (n:Nat):Sp:=fun vs H Q _=>∃ (p:Addr) (h:Hl) (l:List aI),vs=[.ref p]∧zj Y H h (.ref p)∧HlW N h l∧dZ N l∧vJ N∧gn l < n∧(dR l).length≤400∧∀ (v:V) (k:Nat) (H':Hp),aK H H'→k < 64→mS Y.z H' v ((h.ps.map bf).flatten++List.replicate k .lt)→Q v H'
def wZ (Z:Cz) (Bk Db:Addr):Sp:=fun vs H Q _=>∃ (b F:Addr) (pg v:V) (ds:List V) (dd:List Dt) (rs:List Rx) (kd:Str) (a:Int) (c:V),vs=[.ref b,v,.str kd,.int a,c]∧yP Z Bk Db H b F pg ds dd∧dd.length < 100∧mS Z H v rs∧rs.length≤60000 ∧
 ∀ (v':V) (ds':List V) (H':Hp),aR F H H'→yP Z Bk Db H' b F pg ds' (dd++[⟨kd,a,rs⟩])→(∀ x:Rx,(∀ r,H' r=some (.tup [.str "hold",c])→JC Z H' (.ref r) x)→mS Z H' v' (rs++[x]))→Q v' H'
def we:Sp:=fun vs H Q _=>∃ (b w:Addr) (v k:V),vs=[.ref b,v,k,.ref w]∧UM H w []∧Q v H
def oJ (N:List Str) (Y:Cy) (n:Nat):Sp:=fun vs H Q _=>∃ (t:Addr) (us:List V) (l:List aI),vs=[.ref t]∧H t=some (.tup us)∧bE Y H l us∧dZ N l∧gn l < n∧dM l≤1000∧p7 l=false∧∀ H',aK H H'→Q (.int (dM l)) H'
def PgW (Y:Cy) (H:Hp) (pg:V):Prop:=∃ pa us hs,pg=.ref pa∧Rj Y H pa us hs∧∀ x k,U0 x k→∃ q h,gY x us hs=.ref q∧zj Y H h (.ref q)∧h.ps=[("xa":Str)]∧h.an.length=k∧h.nd=[]∧h.gv=[]
theorem PgW.aE {Y:Cy} {H H':Hp} (k:aD H H') {pg:V} (h:PgW Y H pg):PgW Y H' pg:=by
 obtain ⟨pa,us,hs,e,⟨dx,t,e1,e2,l,pp⟩,f⟩:=h
 refine ⟨pa,us,hs,e,⟨dx,t,k.i _ _ _ _ e1,k.t _ _ e2,l,L2.Paired.lT pp fun _ _ z=>z.aE k⟩,fun x j c=>?_⟩
 obtain ⟨q,h,a,b,r⟩:=f x j c
 exact ⟨q,h,a,b.aE k,r⟩
structure VT (N:List Str) (Y:Cy) (Bk Db:Addr) (H:Hp) (b F:Addr) (pg v:V) (ds:List V) (dd:List Dt) (rs:List Rx):Prop where
 k:yP Y.z Bk Db H b F pg ds dd
 g:PgW Y H pg
 p:mS Y.z H v rs
 n:vJ N
theorem VT.same {N:List Str} {Y:Cy} {Bk Db:Addr} {H H':Hp} {b F:Addr} {pg v:V} {ds:List V} {dd:List Dt} {rs:List Rx} (h:VT N Y Bk Db H b F pg v ds dd rs) (s:aK H H'):VT N Y Bk Db H' b F pg v ds dd rs:=⟨h.k.same s,h.g.aE (aD.of s),h.p.aE (aD.of s),h.n⟩
def uq (N:List Str) (Y:Cy) (Bk Db:Addr) (n:Nat):Sp:=fun vs H Q _=>∃ (b F t:Addr) (pg v:V) (ds us:List V) (dd:List Dt) (rs:List Rx) (l:List aI),vs=[.ref b,v,.ref t]∧VT N Y Bk Db H b F pg v ds dd rs∧H t=some (.tup us)∧bE Y H l us∧dZ N l∧gn l < n∧dM l≤1000∧rs.length+lE l≤50000∧(dR l).length≤400∧dd.length+lO l 1≤100 ∧
 ∀ (R:Addr) (ps ds':List V) (H':Hp),aR F H H'→H R=none→H' R=some (.lst ps)→kW Y.z H' ps (lU l [rs]).2→yP Y.z Bk Db H' b F pg ds' (dd++(lU l [rs]).1)→Q (.ref R) H'
def An (N:List Str) (Y:Cy) (Bk Db:Addr) (n:Nat):Sp:=fun vs H Q _=>∃ (b F p:Addr) (pg v:V) (ds:List V) (dd:List Dt) (rs:List Rx) (s:aI),vs=[.ref b,v,.ref p]∧VT N Y Bk Db H b F pg v ds dd rs∧bO Y H s (.ref p)∧s.iO N∧s.dep < n∧s.np≤1000∧rs.length+s.gw≤50000∧s.wi.length≤400∧dd.length+s.dn≤100 ∧
 ∀ (R:Addr) (ps ds':List V) (H':Hp),aR F H H'→H R=none→H' R=some (.lst ps)→kW Y.z H' ps (s.go rs).2→yP Y.z Bk Db H' b F pg ds' (dd++(s.go rs).1)→Q (.ref R) H'
def jE (N:List Str) (Y:Cy) (Bk Db:Addr) (n:Nat) (ok:Nat→Prop):Sp:=fun vs H Q _=>∃ (b F p:Addr) (pg v:V) (ds:List V) (dd:List Dt) (rs:List Rx) (s:aI),vs=[.ref b,v,.ref p]∧VT N Y Bk Db H b F pg v ds dd rs∧bO Y H s (.ref p)∧s.iO N∧s.dep < n∧ok (kd s)∧rs.length+s.gw≤50000∧s.wi.length≤400∧dd.length+s.dn≤100 ∧
 ∀ (v':V) (ds':List V) (rs':List Rx) (H':Hp),aR F H H'→(s.go rs).2=[rs']→mS Y.z H' v' rs'→yP Y.z Bk Db H' b F pg ds' (dd++(s.go rs).1)→Q v' H'
def Aq (N:List Str) (Y:Cy) (Bk Db:Addr) (n:Nat):Sp:=fun vs H Q _=>∃ (b F p:Addr) (pg v:V) (ds:List V) (dd:List Dt) (rs:List Rx) (s:aI),vs=[.ref b,v,.ref p]∧VT N Y Bk Db H b F pg v ds dd rs∧bO Y H s (.ref p)∧s.iO N∧s.dep < n∧kd s=7∧s.np≤1000∧rs.length+s.gw≤50000∧s.wi.length≤400∧dd.length+s.dn≤100 ∧
 ∀ (R:Addr) (ps ds':List V) (H':Hp),aR F H H'→H R=none→H' R=some (.lst ps)→kW Y.z H' ps (s.go rs).2→yP Y.z Bk Db H' b F pg ds' (dd++(s.go rs).1)→Q (.ref R) H'
def Ao (N:List Str) (Y:Cy) (Bk Db:Addr) (n:Nat):Sp:=fun vs H Q _=>∃ (b F p:Addr) (pg v:V) (ds:List V) (dd:List Dt) (rs:List Rx) (a:Int) (c:Cd) (l:List aI),vs=[.ref b,v,.ref p]∧VT N Y Bk Db H b F pg v ds dd rs∧bO Y H (.rep a c [] none l) (.ref p)∧(aI.rep a c [] none l).iO N∧gn l+1 < n∧dM l≤1000∧rs.length+lE l≤50000∧(dR l).length≤400∧dd.length+lO l 1≤100 ∧
 ∀ (ds':List V) (H':Hp),aR F H H'→yP Y.z Bk Db H' b F pg ds' (dd++(lU l [rs]).1)→Q .fP H'
def J4 (N:List Str) (Y:Cy):Sp:=fun vs H Q _=>∃ (p:Addr) (v:V) (s:aI),vs=[v,.ref p]∧PgW Y H v∧bO Y H s (.ref p)∧s.iO N∧∀ H',aK H H'→Q (.bl s.ME) H'
def Nl (K:PySem.W.Frag) (Z:Cz):Sp:=fun vs H Q _=>∃ (p dx C u:Addr) (fs:List (Str×V)) (r:Str) (b:Ps) (n:Int),vs=[.ref p]∧H p=some (.ins C dx fs)∧wL K C∧cu K C "row"∧cu K C "place"∧r.length≤100∧fs.lookup ("row":Str)=some (.str r)∧fs.lookup ("place":Str)=some (.ref u)∧bL Z.s H u b n∧∀ (q:Addr) (H':Hp),aK H H'→Q (.ref q) H'
def Vd:Sp:=fun vs H Q _=>vs=[.int 2]∧∀ (q:Addr) (H':Hp),aK H H'→Q (.ref q) H'
def rP (N:List Str) (Y:Cy) (Db:Addr) (n:Nat):Sp:=fun vs H Q _=>∃ (p q:Addr) (h:Hl) (l:List aI) (us:List V) (hs:List Hl),vs=[.ref p,.str "main"]∧PgW Y H (.ref p)∧Rj Y H p us hs∧gY "main" us hs=.ref q∧zj Y H h (.ref q)∧HlW N h l∧dZ N l∧vJ N∧gn l < n∧dM l≤1000∧p7 l=false∧lE l≤40000∧(dR l).length≤400∧lO l 1≤100 ∧
 ∀ (F:Addr) (ds:List V) (k:Nat) (H':Hp),aK H H'→H' F=some (.lst ds)→Paired (Ro Y.z Db H') ds (lU l [(h.ps.map bf).flatten++List.replicate k .lt]).1→Q (.ref F) H'
end Hw
namespace PySem
open L2
def P9:Nat→Nat→Bool
 | 0,i=>decide (i≤22)
 | n+1,i=>decide (i≤22) || P9 n ((i*5+1) % 32)
theorem P8:∀ i,i < 32→P9 9 i=true:=by decide +kernel
theorem o7 {α β:Type} {f g:α→Option β}:∀ {l:List α},(∀ x∈l,f x=g x)→l.filterMap f=l.filterMap g
 | [],_=>rfl
 | a::r,h=>by
  have e:=o7 (l:=r) fun x hx=>h x (List.mem_cons_of_mem _ hx)
  have ha:=h a (List.mem_cons_self ..)
  simp only [List.filterMap_cons,ha,e]
theorem wH {α β:Type} (f:α→Option β) {a:α} {b:β} {l:List α} (h:f a=some b):(a::l).filterMap f=b::l.filterMap f:=by simp only [List.filterMap_cons,h]
theorem BE {α β:Type} (f:α→Option β) {a:α} {l:List α} (h:f a=none):(a::l).filterMap f=l.filterMap f:=by simp only [List.filterMap_cons,h]
def ic (ow:Array (Option Nat)):List Nat:=(List.range 32).filterMap fun j=>ow.getD j none
theorem NQ {ow:Array (Option Nat)} (hs:ow.size=32) (hc:(ic ow).length≤9) {i:Nat} (hi:i≤22):∃ k,(List.range (SetTable.runEnd 31 i+1 - i)).find? (fun k=>(ow.getD (i+k) (some 0)).isNone)=some k∧i+k < 32∧ow.getD (i+k) none=none:=by
 have e:SetTable.runEnd 31 i+1 - i=10:=by unfold SetTable.runEnd;rw [if_pos (by omega)];omega
 rw [e]
 cases h:(List.range 10).find? (fun k=>(ow.getD (i+k) (some 0)).isNone) with
 | some k =>
  have h1:=List.find?_some h
  have h2:=List.mem_range.mp (List.mem_of_find?_eq_some h)
  refine ⟨k,rfl,by omega,?_⟩
  simp only [Array.getD_eq_getD_getElem?] at h1 ⊢
  have hk:i+k < ow.size:=by omega
  rw [Array.getElem?_eq_getElem hk] at h1 ⊢
  simp only [Option.getD_some,Option.isNone_iff_eq_none] at h1 ⊢
  exact h1
 | none =>
  exfalso
  have h1:=List.find?_eq_none.mp h
  have sub:List.Sublist (List.range' i 10) (List.range 32):=by
   rw [List.range_eq_range']
   have:List.range' 0 32=List.range' 0 i++(List.range' i 10++List.range' (i+10) (22 - i)):=by
    rw [List.range'_append_1]
    have e2:=List.range'_append_1 (s:=0) (m:=i) (n:=10+(22 - i))
    rw [Nat.zero_add] at e2
    rw [e2]
    congr 1
    omega
   rw [this]
   exact (List.sublist_append_left _ _).trans (List.sublist_append_right _ _)
  have l1:=(sub.filterMap (fun j=>ow.getD j none)).length_le
  have l2:((List.range' i 10).filterMap (fun j=>ow.getD j none)).length=10:=by
   have:∀ l:List Nat,(∀ j∈l,(ow.getD j none).isSome=true)→(l.filterMap (fun j=>ow.getD j none)).length=l.length:=fun l=>by
    induction l with
    | nil=>intro _;rfl
    | cons a r ih =>
     intro hl
     obtain ⟨v,hv⟩:=Option.isSome_iff_exists.mp (hl a (List.mem_cons_self ..))
     rw [wH (fun j=>ow.getD j none) hv,List.length_cons,List.length_cons,ih fun j hj=>hl j (List.mem_cons_of_mem _ hj)]
   rw [this _ fun j hj=>?_,List.length_range']
   have hj':=List.mem_range'_1.mp hj
   have:=h1 (j - i) (List.mem_range.mpr (by omega))
   rw [show i+(j - i)=j by omega] at this
   simp only [Array.getD_eq_getD_getElem?] at this ⊢
   have hk:j < ow.size:=by omega
   rw [Array.getElem?_eq_getElem hk] at this ⊢
   simp only [Option.getD_some] at this ⊢
   cases z:ow[j] with
   | none=>rw [z] at this;exact absurd rfl this
   | some v=>rfl
  unfold ic at hc
  omega
theorem BD {ow:Array (Option Nat)} (hs:ow.size=32) (hc:(ic ow).length≤9) {fuel i p:Nat} (hi:i≤22):∃ j,SetTable.layClean.free 31 ow (fuel+1) i p=some j∧j < 32∧ow.getD j none=none:=by
 obtain ⟨k,e,l,n⟩:=NQ hs hc hi
 refine ⟨i+k,?_,l,n⟩
 unfold SetTable.layClean.free
 rw [e]
theorem zM {ow:Array (Option Nat)} (hs:ow.size=32) (hc:(ic ow).length≤9) {fuel i p:Nat} (hi:i < 32) (h:∃ j,SetTable.layClean.free 31 ow fuel ((i*5+1+p / 32) % 32) (p / 32)=some j∧j < 32∧ow.getD j none=none):∃ j,SetTable.layClean.free 31 ow (fuel+1) i p=some j∧j < 32∧ow.getD j none=none:=by
 by_cases h22:i≤22
 ·exact BD hs hc h22
 ·obtain ⟨j,e,l,n⟩:=h
  unfold SetTable.layClean.free
  have er:SetTable.runEnd 31 i+1 - i=1:=by unfold SetTable.runEnd;rw [if_neg (by omega)];omega
  rw [er]
  cases z:(List.range 1).find? (fun k=>(ow.getD (i+k) (some 0)).isNone) with
  | some k =>
   have h1:=List.find?_some z
   have h2:=List.mem_range.mp (List.mem_of_find?_eq_some z)
   refine ⟨i+k,rfl,by omega,?_⟩
   simp only [Array.getD_eq_getD_getElem?] at h1 ⊢
   have hk:i+k < ow.size:=by omega
   rw [Array.getElem?_eq_getElem hk] at h1 ⊢
   simp only [Option.getD_some,Option.isNone_iff_eq_none] at h1 ⊢
   exact h1
  | none=>exact ⟨j,e,l,n⟩
theorem zL {ow:Array (Option Nat)} (hs:ow.size=32) (hc:(ic ow).length≤9):∀ (n fuel i:Nat),i < 32→P9 n i=true→n < fuel→∃ j,SetTable.layClean.free 31 ow fuel i 0=some j∧j < 32∧ow.getD j none=none
 | 0,fuel+1,i,hi,h,_=>BD hs hc (of_decide_eq_true h)
 | n+1,fuel+1,i,hi,h,hl=>by
  rcases (Bool.or_eq_true _ _).mp h with q | q
  ·exact BD hs hc (of_decide_eq_true q)
  ·refine zM hs hc hi ?_
   rw [Nat.zero_div,Nat.add_zero]
   exact zL hs hc n fuel _ (Nat.mod_lt _ (by decide)) q (by omega)
theorem zN {ow:Array (Option Nat)} (hs:ow.size=32) (hc:(ic ow).length≤9):∀ (k fuel i p:Nat),i < 32→p < 32 ^ k→k+10≤fuel→∃ j,SetTable.layClean.free 31 ow fuel i p=some j∧j < 32∧ow.getD j none=none
 | 0,fuel,i,p,hi,hp,hf=>by
  have:p=0:=by omega
  rw [this]
  exact zL hs hc 9 fuel i hi (P8 i hi) (by omega)
 | k+1,fuel+1,i,p,hi,hp,hf=>by
  refine zM hs hc hi (zN hs hc k fuel _ _ (Nat.mod_lt _ (by decide)) ?_ (by omega))
  rw [Nat.div_lt_iff_lt_mul (by decide)]
  rw [Nat.pow_succ] at hp
  exact hp
theorem take_set {ow:Array (Option Nat)} (hs:ow.size=32) {j k:Nat} (hj:j < 32) (hn:ow.getD j none=none):List.Perm (ic (ow.setIfInBounds j (some k))) (k::ic ow):=by
 unfold ic
 have sp:List.range 32=List.range j++(j::List.range' (j+1) (31 - j)):=by
  rw [List.range_eq_range',List.range_eq_range']
  have e2:=List.range'_append_1 (s:=0) (m:=j) (n:=1+(31 - j))
  rw [Nat.zero_add] at e2
  have e3:List.range' j (1+(31 - j))=j::List.range' (j+1) (31 - j):=by rw [Nat.add_comm,List.range'_succ]
  rw [← e3,e2]
  congr 1
  omega
 have f1:∀ m,m≠j→(ow.setIfInBounds j (some k)).getD m none=ow.getD m none:=fun m hm=>by
  simp only [Array.getD_eq_getD_getElem?]
  rw [Array.getElem?_setIfInBounds_ne (Ne.symm hm)]
 have f2:(ow.setIfInBounds j (some k)).getD j none=some k:=by
  simp only [Array.getD_eq_getD_getElem?]
  rw [Array.getElem?_setIfInBounds_self_of_lt (by omega)]
  rfl
 have g:∀ l:List Nat,j ∉ l→l.filterMap (fun m=>(ow.setIfInBounds j (some k)).getD m none)=l.filterMap (fun m=>ow.getD m none):=fun l hl=>by
  refine o7 fun m hm=>?_
  exact f1 m fun z=>hl (z ▸ hm)
 rw [sp,List.filterMap_append,List.filterMap_append,wH (fun m=>(ow.setIfInBounds j (some k)).getD m none) f2,BE (fun m=>ow.getD m none) hn,g _ (fun z=>by have:=List.mem_range.mp z;omega),g _ (fun z=>by have:=(List.mem_range'_1.mp z).1;omega)]
 exact List.perm_middle
theorem UB (h:Int):SetTable.bits h < 32 ^ 13:=by
 unfold SetTable.bits
 have h1:=Int.emod_nonneg h (show (2 ^ 64:Int)≠0 by decide)
 have h2:=Int.emod_lt_of_pos h (show (0:Int) < 2 ^ 64 by decide)
 omega
theorem Dv:∀ (hs:List Int) (ow:Array (Option Nat)) (k:Nat),ow.size=32→List.Perm (ic ow) (List.range k)→k+hs.length≤9→∃ ow',(hs.foldl (fun acc h=>do
  let (owner,k) ← acc
  let j ← SetTable.layClean.free 31 owner (SetTable.turns 31) (SetTable.bits h % (31+1)) (SetTable.bits h)
  pure (owner.setIfInBounds j (some k),k+1)) (some (ow,k)))=some (ow',k+hs.length)∧ow'.size=32∧List.Perm (ic ow') (List.range (k+hs.length))
 | [],ow,k,hs,hp,hl=>⟨ow,rfl,hs,hp⟩
 | h::r,ow,k,hs,hp,hl=>by
  rw [List.length_cons] at hl ⊢
  have lt:=hp.length_eq
  rw [List.length_range] at lt
  obtain ⟨j,e,lj,nj⟩:=zN hs (by omega) 13 (SetTable.turns 31) (SetTable.bits h % (31+1)) (SetTable.bits h) (Nat.mod_lt _ (by decide)) (UB h) (by decide)
  have p2:List.Perm (ic (ow.setIfInBounds j (some k))) (List.range (k+1)):=(take_set hs lj nj).trans (by
   rw [List.range_succ]
   exact (hp.cons k).trans (List.perm_append_singleton k (List.range k)).symm)
  obtain ⟨ow',e',s',q'⟩:=Dv r (ow.setIfInBounds j (some k)) (k+1) (by rw [Array.size_setIfInBounds];exact hs) p2 (by omega)
  refine ⟨ow',?_,s',by rw [show k+(r.length+1)=k+1+r.length by omega];exact q'⟩
  rw [List.foldl_cons]
  have:(do
    let (owner,k) ← some (ow,k)
    let j ← SetTable.layClean.free 31 owner (SetTable.turns 31) (SetTable.bits h % (31+1)) (SetTable.bits h)
    pure (owner.setIfInBounds j (some k),k+1))=some (ow.setIfInBounds j (some k),k+1):=by
   show (do
    let j ← SetTable.layClean.free 31 ow (SetTable.turns 31) (SetTable.bits h % (31+1)) (SetTable.bits h)
    pure (ow.setIfInBounds j (some k),k+1))=some (ow.setIfInBounds j (some k),k+1)
   rw [e];rfl
  rw [this,e',show k+(r.length+1)=k+1+r.length by omega]
theorem IU {fi mo:Nat} {led plain:Bool} {hs:Array Int} (h:hs.size≤9):∃ t order,SetTable.laid 31 fi mo led plain hs=some (t,order)∧List.Perm order.toList (List.range hs.size)∧t.place.size=hs.size∧t.mask=31∧t.dummies=#[]∧t.led=led∧t.plain=plain:=by
 obtain ⟨ow,e,so,po⟩:=Dv hs.toList (Array.replicate 32 none) 0 (by simp) (by decide +kernel) (by rw [Array.length_toList];omega)
 unfold SetTable.laid SetTable.layClean
 rw [← Array.foldl_toList]
 rw [e]
 refine ⟨_,_,rfl,?_,?_,rfl,rfl,rfl,rfl⟩
 ·rw [Nat.zero_add,Array.length_toList] at po
  refine List.Perm.trans (l₂:=ic ow) ?_ po
  unfold ic
  simp only [List.map_filterMap]
  refine .of_eq (o7 fun j _=>?_)
  cases ow.getD j none <;> rfl
 ·have len:=po.length_eq
  rw [List.length_range,Nat.zero_add,Array.length_toList] at len
  have key:∀ l:List Nat,(l.filterMap fun j=>(ow.getD j none).map (j,·)).length=(l.filterMap fun j=>ow.getD j none).length:=fun l=>by
   induction l with
   | nil=>rfl
   | cons a r ih =>
    cases z:ow.getD a none with
    | none=>rw [BE (fun j=>(ow.getD j none).map (j,·)) (by show (ow.getD a none).map _=none;rw [z];rfl),BE (fun j=>ow.getD j none) z];exact ih
    | some v=>rw [wH (fun j=>(ow.getD j none).map (j,·)) (b:=(a,v)) (by show (ow.getD a none).map _=_;rw [z];rfl),wH (fun j=>ow.getD j none) z,List.length_cons,List.length_cons,ih]
  refine Eq.trans ?_ len
  rw [List.size_toArray,List.length_map]
  exact key _
end PySem
namespace PySem
open L2
def Su (es:Array (Int×Value)) (laid:Option (SetTable×Array Nat)):Sem (Array (Int×Value)×SetTable):=do
 let some (t,order):=laid | unsupported "internal:set-table-without-room"
 let es':=order.filterMap (es[·]?)
 if es'.size != es.size then unsupported "internal:set-table-lost-an-element"
 pure (es',t)
section
variable {prog:Program} {w:World} {A:Around} {E:Value→Shared→Prop} {s:Shared}
theorem NT {es:Array (Int×Value)} {l:Option (SetTable×Array Nat)} {t:SetTable} {order:Array Nat} {Q:Array (Int×Value)×SetTable→Shared→Prop} (e:l=some (t,order)) (hp:List.Perm order.toList (List.range es.size))
  (h:∀ es',List.Perm es'.toList es.toList→Q (es',t) s):wpAny (model prog w) A (Su es l) Q E s:=by
 subst e
 have p:List.Perm (order.filterMap (es[·]?)).toList es.toList:=by
  rw [Array.toList_filterMap]
  exact (hp.filterMap _).trans (by rw [filterMap_getElem?_range])
 have sz:(order.filterMap (es[·]?)).size=es.size:=by have:=p.length_eq;rw [Array.length_toList,Array.length_toList] at this;exact this
 unfold Su
 dsimp only
 rw [if_neg (by simp [sz])]
 exact wpAny_bind (wpAny_pure (wpAny_pure (h _ p)))
theorem Ah {h:Heap} {r:Addr} {o:Obj} {es es':Array (Int×Value)} {ep:Nat} {t t':SetTable} (ho:h.get? r=some o) (hd:o.data=.set es ep t):(h.update r (Obj.putSet es' t')).get? r=some { o with data:=.set es' (ep+1) t' }:=by
 have:=Heap.get?_update_self (Obj.putSet es' t') ho (by rw [putSet_of es' t' hd];rfl)
 rw [putSet_of es' t' hd] at this;exact this
theorem IS (led:Bool):(SetTable.fresh 0 0 led).relaid #[] 16=some ({ mask:=31,place:=#[],dummies:=#[],finger:=0,led:=led,moves:=1,plain:=true },#[]):=by
 cases led <;> decide +kernel
structure CpW (prog:Program) (w:World) (h:Heap) (r:Addr) (zs:List Str):Prop where
 e:∃ o es ep t,h.get? r=some o∧o.ExactSet∧o.data=.set es ep t∧qh prog w es.toList zs∧(∀ e∈es.toList,∃ z k,e.2=Value.str z k)∧t.place.size=es.size∧t.mask=31∧t.dummies=#[]∧t.led=(!w.params.followText "set-order")∧t.plain=false
theorem Q8 {a:Addr} {zs:List Str} {Q:Value→Shared→Prop} (hS:cK prog w s.heap a zs) (h8:zs.length=8)
  (h:∀ h',(∀ b ob,s.heap.get? b=some ob→h'.get? b=some ob)→CpW prog w h' s.heap.objs.size zs→Q (.ref s.heap.objs.size) { s with heap:=h' }):wpAny (model prog w) A (Builtin.Frozenset.copyOf a) Q E s:=by
 unfold Builtin.Frozenset.copyOf Builtin.Frozenset.baseOf
 refine wpAny_bind (wpAny_bind (wpAny_isInstance hS.typeIs sub_set_self (wpAny_pure ?_)))
 simp only [if_true]
 unfold newSet setsByText
 refine wpAny_bind (wpAny_bind (wpAny_bind (wpAny_askSetting (wpAny_pure ?_))))
 dsimp only
 simp only [newObj]
 refine wpAny_bind (wpAny_alloc (wpAny_pure ?_))
 refine wpAny_bind (wpAny_pure ?_)
 show wpAny (model prog w) A _ _ _ { s with heap:=s.heap.push { cls:=.type "set",dict:=none,data:=.set #[] 0 (.fresh 0 0 (!w.params.followText "set-order")) } }
 generalize Vz:s.heap.push { cls:=.type "set",dict:=none,data:=.set #[] 0 (.fresh 0 0 (!w.params.followText "set-order")) }=h1
 have kp1:∀ b ob,s.heap.get? b=some ob→h1.get? b=some ob:=fun b ob e=>Vz ▸ Heap.get?_push_of_some _ e
 have hr1:h1.get? s.heap.objs.size=some { cls:=.type "set",dict:=none,data:=.set #[] 0 (.fresh 0 0 (!w.params.followText "set-order")) }:=Vz ▸ Heap.get?_push_size _ rfl
 have la:a < s.heap.objs.size:=let ⟨_,_,_,_,e,_⟩:=hS;Heap.lt_size e
 have nra:(s.heap.objs.size == a)=false:=beq_eq_false_iff_ne.mpr (Nat.ne_of_gt la)
 have ZF:cK prog w h1 a zs:=hS.at (kp1 a)
 obtain ⟨oa,es,ep,t,ho,hex,hd,hf,kJ,hpl,hn,hent,hst⟩:=rj ZF
 have hn8:es.size=8:=by omega
 have Zv:t.plain=false:=hpl.resolve_right (by omega)
 refine wpAny_bind ?_
 unfold setMerge
 rw [nra]
 simp only [Bool.false_eq_true,if_false]
 refine wpAny_bind (wpAny_setState_of (s:={ s with heap:=h1 }) ho hd hf ?_)
 dsimp only
 rw [if_neg (by simp [Array.isEmpty,hn8])]
 unfold setRoomFor
 refine wpAny_bind (wpAny_bind (wpAny_setState_of (s:={ s with heap:=h1 }) hr1 rfl rfl ?_))
 dsimp only
 have er:(SetTable.fresh 0 0 (!w.params.followText "set-order")).roomFor es.size=some 16:=by rw [hn8];rfl
 rw [er]
 dsimp only
 unfold setRelay
 refine wpAny_bind (wpAny_setState_of (s:={ s with heap:=h1 }) hr1 rfl rfl ?_)
 dsimp only
 rw [if_neg (by rw [sizeLine_eq];decide)]
 refine wpAny_bind ?_
 show wpAny _ _ (Su #[] ((SetTable.fresh 0 0 (!w.params.followText "set-order")).relaid (Array.map (fun x:Int×Value=>x.1) #[]) 16)) _ _ _
 have em:(Array.map (fun x:Int×Value=>x.1) #[])=#[]:=by simp
 refine NT (by rw [em];exact IS _) (by simp) fun es0 p0=>?_
 obtain rfl:es0=#[]:=by have:=p0.length_eq;simp at this;exact this
 dsimp only
 refine wpAny_storeSet_of (s:={ s with heap:=h1 }) hr1 rfl ?_
 have hr2:=Ah (es':=#[]) (t':={ mask:=31,place:=#[],dummies:=#[],finger:=0,led:=!w.params.followText "set-order",moves:=1,plain:=true }) hr1 rfl
 have Ry:Heap.SameBut s.heap.objs.size h1 (h1.update s.heap.objs.size (Obj.putSet #[] { mask:=31,place:=#[],dummies:=#[],finger:=0,led:=!w.params.followText "set-order",moves:=1,plain:=true })):=Heap.SameBut.update _ _ _
 dsimp only at hr2
 generalize h1.update s.heap.objs.size (Obj.putSet #[] { mask:=31,place:=#[],dummies:=#[],finger:=0,led:=!w.params.followText "set-order",moves:=1,plain:=true })=h2 at hr2 Ry ⊢
 refine wpAny_bind (wpAny_setState_of (s:={ s with heap:=h2 }) hr2 rfl rfl ?_)
 dsimp only
 have b5o:((!w.params.followText "set-order") && t.led)=(!w.params.followText "set-order"):=by rw [kJ,Bool.and_self]
 have pld:(true && t.plain)=false:=by rw [Zv];rfl
 rw [b5o,pld]
 have fin:∀ es' t',List.Perm es'.toList es.toList→t'.place.size=es'.size→t'.mask=31→t'.dummies=#[]→t'.led=(!w.params.followText "set-order")→t'.plain=false→wpAny (model prog w) A (storeSet s.heap.objs.size es' t') (fun _ s'=>wpAny (model prog w) A (pure (Value.ref s.heap.objs.size)) Q E s') E { s with heap:=h2 }:=by
  intro es' t' p e1 e2 e3 e4 e5
  have sz:es'.size=8:=by have:=p.length_eq;rw [Array.length_toList,Array.length_toList] at this;omega
  refine wpAny_storeSet_of (s:={ s with heap:=h2 }) hr2 rfl (wpAny_pure ?_) (by rw [sz,sizeLine_eq];decide)
  have Ky:=Ah (es':=es') (t':=t') hr2 rfl
  refine h _ (fun b ob e=>?_) ⟨_,es',_,t',Ky,⟨rfl,rfl,rfl⟩,rfl,hent.perm p,fun e he=>hst e (p.mem_iff.mp he),e1,e2,e3,e4,e5⟩
  have l:=Nat.ne_of_lt (Heap.lt_size e)
  exact ((Heap.SameBut.update _ _ _).2 b l).trans ((Ry.2 b l).trans (kp1 b ob e))
 unfold SetTable.road
 rw [if_neg (by simp [SetTable.fill])]
 dsimp only
 have hpz:t.place.size=es.size:=by
  unfold SetTable.fits at hf
  simp only [Bool.and_eq_true,beq_iff_eq] at hf
  exact hf.1
 by_cases hm:(31 == t.mask && t.dummies.isEmpty)=true
 ·rw [if_pos hm]
  dsimp only
  simp only [Bool.and_eq_true,beq_iff_eq,Array.isEmpty_iff] at hm
  exact fin es _ .rfl hpz hm.1.symm hm.2 rfl rfl
 ·rw [if_neg hm]
  dsimp only
  refine wpAny_bind ?_
  obtain ⟨t',order,el,po,p1,p2,p3,p4,p5⟩:=IU (fi:=0) (mo:=1) (led:=!w.params.followText "set-order") (plain:=false) (hs:=es.map (·.1)) (by rw [Array.size_map];omega)
  show wpAny _ _ (Su es (SetTable.laid 31 0 1 (!w.params.followText "set-order") false (es.map (·.1)))) _ _ _
  rw [Array.size_map] at po p1
  refine NT el po fun es' p=>?_
  have sz:es'.size=es.size:=by have:=p.length_eq;rw [Array.length_toList,Array.length_toList] at this;exact this
  exact fin es' t' p (by omega) p2 p3 p4 p5
end
end PySem
namespace PySem
open L2
section
variable {prog:Program} {w:World} {A:Around} {E:Value→Shared→Prop} {s:Shared}
theorem QB {a:Addr} {o:Obj} {es:Array (Int×Value)} {ep:Nat} {t:SetTable} {x:Str} {k:Tok} {Q:Option Nat→Shared→Prop} (ho:s.heap.get? a=some o) (hd:o.data=.set es ep t) (hf:t.fits es.size=true) (hel:ElemsOf (aQ prog w) es.toList) (hb:es.size < scanBound)
  (h:Q (List.findIdx? (fun e=>(aQ prog w).is (Sum.inr x) e.2) es.toList) s):wpAny (model prog w) A (setFind a (.str x k) ((aQ prog w).hash (Sum.inr x))) Q E s:=by
 have hsc:(Value.str x k).scannable=true:=rfl
 have hkey:=cN prog w x k
 unfold setFind setFindIn
 refine wpAny_bind (wpAny_setState_of ho hd hf ?_)
 dsimp only
 rw [byScan_of hsc hb hel]
 simp only [↓reduceIte]
 refine wpAny_bind (wpAny_rule ?_)
 refine wpAny_bind (wpAny_setScan_of hkey ho hd hf hel ?_)
 cases hr:List.findIdx? (fun e=>(aQ prog w).is (Sum.inr x) e.2) es.toList with
 | some j =>
  dsimp only
  rw [hr] at h
  exact wpAny_pure (by rw [Nat.zero_add];exact h)
 | none =>
  dsimp only
  rw [hr] at h
  exact wpAny_pure h
theorem zS {l:List (Int×Value)} {zs:List Str} (h:qh prog w l zs):ElemsOf (aQ prog w) l:=fun e he=>by
 obtain ⟨z,k,rfl⟩:=h.2 e he
 exact ⟨⟨_,cN prog w z k,rfl⟩,rfl⟩
structure EnW (prog:Program) (w:World) (h:Heap) (r:Addr) (zs:List Str):Prop where
 e:∃ o es ep t,h.get? r=some o∧o.ExactSet∧o.data=.set es ep t∧qh prog w es.toList zs∧t.fits es.size=true∧t.mask=31∧t.dummies.size≤1∧t.led=(!w.params.followText "set-order")∧t.plain=false
theorem EnW.a1E {h:Heap} {r:Addr} {zs:List Str} (H:EnW prog w h r zs) (hn:zs.Nodup) (hl:zs.length < 64):∃ ys,cK prog w h r ys∧List.Perm ys zs:=by
 obtain ⟨o,es,ep,t,ho,hex,hd,he,hf,_,_,kJ,hpl⟩:=H.e
 refine ⟨es.toList.map (fun e=>strOf e.2),⟨o,es,ep,t,ho,hex,hd,zS he,fun e hm=>?_,rfl,(he.1.nodup_iff).mpr hn,?_,hf,kJ,.inl hpl⟩,he.1⟩
 ·obtain ⟨z,k,rfl⟩:=he.2 e hm
  exact ⟨z,k,rfl⟩
 ·have:=he.1.length_eq
  rw [List.length_map,Array.length_toList] at this
  unfold scanBound
  omega
theorem CpW.enW {h:Heap} {r:Addr} {zs:List Str} (H:CpW prog w h r zs) (h8:zs.length≤8):EnW prog w h r zs:=by
 obtain ⟨o,es,ep,t,ho,hex,hd,he,hst,hp,hm,hdm,kJ,hpl⟩:=H.e
 refine ⟨o,es,ep,t,ho,hex,hd,he,?_,hm,by rw [hdm];decide,kJ,hpl⟩
 have:=he.1.length_eq
 rw [List.length_map,Array.length_toList] at this
 unfold SetTable.fits SetTable.fill
 rw [hdm,hp,hm]
 simp
 omega
theorem oF {α:Type} (xs:Array α) (p:Nat):(SetTable.eraseAt xs p).toList=xs.toList.take p++xs.toList.drop (p+1):=by
 simp [SetTable.eraseAt,List.extract_eq_take_drop,List.take_of_length_le]
theorem LW {t:SetTable} {n i:Nat} (hp:t.place.size=n) (hm:t.mask=31) (hd:t.dummies=#[]) (hi:i < n) (hn:n≤8):(t.drop i).fits (n - 1)=true∧(t.drop i).mask=31∧(t.drop i).dummies.size≤1∧(t.drop i).led=t.led∧(t.drop i).plain=t.plain:=by
 obtain ⟨j,hj⟩:∃ j,t.place[i]?=some j:=⟨t.place[i]'(by omega),Array.getElem?_eq_getElem _⟩
 have e:t.drop i={ t with place:=SetTable.eraseAt t.place i,dummies:=SetTable.insertAt t.dummies (SetTable.below t.dummies j) j }:=by
  unfold SetTable.drop
  rw [hj]
 rw [e]
 have l1:(SetTable.eraseAt t.place i).size=n - 1:=by
  rw [← Array.length_toList,oF,List.length_append,List.length_take,List.length_drop,Array.length_toList,hp]
  omega
 have l2:(SetTable.insertAt t.dummies (SetTable.below t.dummies j) j).size=1:=by
  rw [← Array.length_toList,(SetTable.insertAt_perm _ _ _).length_eq,hd]
  rfl
 refine ⟨?_,hm,by show (SetTable.insertAt t.dummies (SetTable.below t.dummies j) j).size≤1;omega,rfl,rfl⟩
 show ((SetTable.eraseAt t.place i).size == n - 1 && decide ((SetTable.eraseAt t.place i).size+(SetTable.insertAt t.dummies (SetTable.below t.dummies j) j).size≤t.mask))=true
 rw [l1,l2,hm]
 simp
 omega
theorem QZ {r:Addr} {zs:List Str} {z:Str} {k:Tok} {Q:Bool→Shared→Prop} (hC:CpW prog w s.heap r zs) (hnd:zs.Nodup) (h8:zs.length≤8)
  (h:∀ b h' ys,Heap.SameBut r s.heap h'→EnW prog w h' r ys→ys.Nodup→(∀ x,x∈ys↔x∈zs∧x≠z)→ys.length≤8→Q b { s with heap:=h' }) :
  wpAny (model prog w) A (setDiscardHashed r (.str z k) ((aQ prog w).hash (Sum.inr z))) Q E s:=by
 have hE:=hC.enW h8
 obtain ⟨o,es,ep,t,ho,hex,hd,he,hst,hp,hm,hdm,kJ,hpl⟩:=hC.e
 have hf:t.fits es.size=true:=by
  have:=he.1.length_eq
  rw [List.length_map,Array.length_toList] at this
  unfold SetTable.fits SetTable.fill
  rw [hdm,hp,hm]
  simp
  omega
 have hl:=he.1.length_eq
 rw [List.length_map,Array.length_toList] at hl
 unfold setDiscardHashed
 refine wpAny_bind (QB ho hd hf (zS he) (by unfold scanBound;omega) ?_)
 have Vu:∀ e∈es.toList,(aQ prog w).is (Sum.inr z) e.2=decide (strOf e.2=z):=fun e hm'=>by
  obtain ⟨z',k',e2⟩:=hst e hm'
  rw [e2,xW]
  rfl
 cases hr:List.findIdx? (fun e=>(aQ prog w).is (Sum.inr z) e.2) es.toList with
 | none =>
  dsimp only
  refine wpAny_pure (h false s.heap zs (Heap.SameBut.refl _ _) hE hnd (fun x=>⟨fun q=>⟨q,fun e=>?_⟩,fun q=>q.1⟩) h8)
  subst e
  obtain ⟨e,hm',es'⟩:=List.mem_map.mp (he.1.mem_iff.mpr q)
  have:=List.findIdx?_eq_none_iff.mp hr e hm'
  rw [Vu e hm',decide_eq_true es'] at this
  cases this
 | some i =>
  dsimp only
  obtain ⟨hj,hpj,_⟩:=List.findIdx?_eq_some_iff_getElem.mp hr
  rw [Vu _ (List.getElem_mem hj)] at hpj
  have hz:=of_decide_eq_true hpj
  refine wpAny_bind (wpAny_setState_of ho hd hf ?_)
  dsimp only
  have hi8:i < es.size:=by rw [Array.length_toList] at hj;exact hj
  obtain ⟨f1,f2,f3,f4,f5⟩:=LW hp hm hdm hi8 (by omega)
  have le:=oF es i
  have sz:(SetTable.eraseAt es i).size=es.size - 1:=by
   rw [← Array.length_toList,le,List.length_append,List.length_take,List.length_drop,Array.length_toList]
   omega
  refine wpAny_bind (wpAny_storeSet_of ho hd (wpAny_bind (wpAny_point (wpAny_pure ?_))) (by rw [sz,sizeLine_eq];omega))
  have Ky:=Ah (es':=SetTable.eraseAt es i) (t':=t.drop i) ho hd
  have sub:List.Sublist (SetTable.eraseAt es i).toList es.toList:=by
   rw [le]
   conv=>rhs;rw [← List.take_append_drop i es.toList]
   exact (List.Sublist.refl _).append (List.drop_sublist_drop_left _ (by omega))
  have cut:es.toList=es.toList.take i++es.toList[i]::es.toList.drop (i+1):=by
   rw [← List.drop_eq_getElem_cons,List.take_append_drop]
  have nd0:(es.toList.map fun e=>strOf e.2).Nodup:=he.1.nodup_iff.mpr hnd
  refine h true _ ((SetTable.eraseAt es i).toList.map fun e=>strOf e.2) (Heap.SameBut.update _ _ _) ⟨_,_,_,_,Ky,hex,rfl,⟨.rfl,fun e hm'=>he.2 e (sub.mem hm')⟩,by rw [sz];exact f1,f2,f3,f4.trans kJ,f5.trans hpl⟩ (nd0.sublist (sub.map _)) (fun x=>?_) (by rw [List.length_map,Array.length_toList];omega)
  rw [← he.1.mem_iff,le]
  rw [cut,List.map_append,List.map_cons,hz] at nd0
  conv=>rhs;rw [cut]
  rw [List.map_append,List.map_append,List.map_cons,hz]
  have n1:=List.perm_middle.nodup_iff.mp nd0
  obtain ⟨nz,_⟩:=List.nodup_cons.mp n1
  constructor
  ·intro q
   refine ⟨?_,fun e=>nz (e ▸ q)⟩
   rcases List.mem_append.mp q with q | q
   ·exact List.mem_append_left _ q
   ·exact List.mem_append_right _ (List.mem_cons_of_mem _ q)
  ·rintro ⟨q,ne⟩
   rcases List.mem_append.mp q with q | q
   ·exact List.mem_append_left _ q
   ·rcases List.mem_cons.mp q with q | q
    ·exact absurd q ne
    ·exact List.mem_append_right _ q
theorem LY {id:String} {a o:Addr} {zs zo:List Str} {Q:Value→Shared→Prop} (hS:cK prog w s.heap a zs) (hO:cK prog w s.heap o zo) (h8:zs.length=8) (h1:zo.length=1)
  (h:∀ h' d ys,(∀ b ob,s.heap.get? b=some ob→h'.get? b=some ob)→cK prog w h' s.heap.objs.size ys→(∀ x,x∈ys↔x∈zs∧x ∉ zo)→ys.length < 64→Q (.ref s.heap.objs.size) { s with heap:=h',drawn:=d }) :
  wpAny (model prog w) A (Builtin.Frozenset.difference id a (.ref o)) Q E s:=by
 have hnd:zs.Nodup:=let ⟨_,_,_,_,_,_,_,_,_,_,n,_⟩:=hS;n
 obtain ⟨z,rfl⟩:∃ z,zo=[z]:=by match zo,h1 with | [z],_=>exact ⟨z,rfl⟩
 have lo:o < s.heap.objs.size:=let ⟨_,_,_,_,e,_⟩:=hO;Heap.lt_size e
 unfold Builtin.Frozenset.difference
 refine wpAny_bind (tS hO ?_)
 simp only [Bool.not_true,Bool.false_eq_true,if_false,Bool.false_and]
 refine wpAny_bind (wpAny_pure ?_)
 refine wpAny_bind (size_set hO ?_)
 refine wpAny_bind (size_set hS ?_)
 rw [if_pos (by rw [h8];show 8 / 4 > 1;decide)]
 refine wpAny_bind (wpAny_rule ?_)
 refine wpAny_bind (Q8 hS h8 fun h2 kp2 hC=>?_)
 refine wpAny_bind (wpAny_pure ?_)
 refine wpAny_bind (wpAny_holding ?_)
 unfold Builtin.Frozenset.differenceUpdate
 have hO2:cK prog w h2 o [z]:=hO.at (kp2 o)
 have nro:((Value.ref o) == .ref s.heap.objs.size)=false:=by
  refine beq_eq_false_iff_ne.mpr fun e=>?_
  injection e with e
  exact absurd e (Nat.ne_of_lt lo)
 rw [nro]
 simp only [Bool.false_eq_true,if_false]
 refine wpAny_bind (tS (s:={ s with heap:=h2 }) hO2 ?_)
 simp only [if_true]
 have hEn:=hC.enW (by omega)
 obtain ⟨ys0,hR2,p0⟩:=hEn.a1E hnd (by omega)
 refine wpAny_bind (wpAny_pure ?_)
 refine wpAny_bind (size_set (s:={ s with heap:=h2 }) hO2 ?_)
 refine wpAny_bind (size_set (s:={ s with heap:=h2 }) hR2 ?_)
 rw [if_neg (by show ¬ 1 / 8 > ys0.length;simp)]
 obtain ⟨oo,eo,epo,to,hoo,d7i,hdo,hfo,c9a,d64,hno,c9e,d6W⟩:=rj hO2
 have b8Z:eo.size=1:=hno
 unfold setEpoch
 refine wpAny_bind (wpAny_bind (wpAny_setState_of (s:={ s with heap:=h2 }) hoo hdo hfo (wpAny_pure ?_)))
 refine wpAny_bind (wpAny_holding (wpAny_bind ?_))
 unfold setWalkUnseen
 refine wpAny_bind (wpAny_setState_of (s:={ s with heap:=h2 }) hoo hdo hfo ?_)
 dsimp only
 unfold setsByText
 refine wpAny_bind (wpAny_bind (wpAny_askSetting (wpAny_pure ?_)))
 rw [if_pos (by simp [b8Z])]
 refine Cm (s:={ s with heap:=h2 }) hO2 fun es' d vq=>?_
 have l1:es'.toList.length=1:=by have:=vq.1.length_eq;rw [List.length_map] at this;exact this
 refine wpAny_bind (wpAny_forIn_array' _ (fun l _ s'=>(l=es'.toList∧s'={ s with heap:=h2,drawn:=d })∨(l=[]∧∃ h3 ys,s'={ s with heap:=h3,drawn:=d }∧Heap.SameBut s.heap.objs.size h2 h3∧EnW prog w h3 s.heap.objs.size ys∧ys.Nodup∧(∀ x,x∈ys↔x∈zs∧x≠z)∧ys.length≤8)) _ ?_ ?_ _ _ (.inl ⟨rfl,rfl⟩))
 ·rintro e rest b s' (⟨el,rfl⟩ | ⟨el,_⟩)
  ·rw [← el,List.length_cons] at l1
   obtain rfl:rest=[]:=List.eq_nil_of_length_eq_zero (by omega)
   obtain ⟨z',k,rfl⟩:=vq.2 e (by rw [← el];exact List.mem_cons_self ..)
   obtain rfl:z'=z:=by
    have:=vq.1.mem_iff (a:=z')
    rw [← el] at this
    exact List.mem_singleton.mp (this.mp (List.mem_cons_self ..))
   refine wpAny_bind (wpAny_holding (QZ (s:={ s with heap:=h2,drawn:=d }) hC hnd (by omega) fun bb h3 ys sb hE hn hm hl=>?_))
   refine wpAny_bind ?_
   unfold Builtin.Frozenset.unchanged setEpoch
   refine wpAny_bind (wpAny_bind (wpAny_setState_of (s:={ s with heap:=h3,drawn:=d }) ((sb.2 o (Nat.ne_of_lt lo)).trans hoo) hdo hfo (wpAny_pure ?_)))
   rw [if_neg (by simp)]
   exact wpAny_pure (wpAny_pure (.inr ⟨rfl,h3,ys,rfl,sb,hE,hn,hm,hl⟩))
  ·cases el
 ·rintro b s' (⟨el,_⟩ | ⟨_,h3,ys,rfl,sb,hE,hn,hm,hl⟩)
  ·rw [← el] at l1;cases l1
  ·refine wpAny_pure ?_
   unfold setTidy
   obtain ⟨o4,e4,ep4,t4,g1,g2,g3,g4,g5,g6,g7,g8,g9⟩:=hE.e
   refine wpAny_bind (wpAny_setState_of (s:={ s with heap:=h3,drawn:=d }) g1 g3 g5 ?_)
   dsimp only
   rw [if_neg (by unfold SetTable.tooManyDummies;rw [g6];simp;omega)]
   refine wpAny_pure (wpAny_pure ?_)
   obtain ⟨ys',hY,py⟩:=hE.a1E hn (by omega)
   refine h h3 d ys' (fun b ob e=>(sb.2 b (Nat.ne_of_lt (Heap.lt_size e))).trans (kp2 b ob e)) hY (fun x=>?_) (by rw [py.length_eq];omega)
   rw [py.mem_iff,hm x,List.mem_singleton]
end
end PySem
namespace L2
open PySem PySem.Spec PyProof.Rows Hw
section
variable {X:Cx}
def a1H (P:Program) (w:World):R2:=fun x y H Q=>∃ (p o:Addr) (ss so ds:List Str),x=.ref p∧y=.ref o∧H p=some (qq P w p ss)∧H o=some (qq P w o so)∧ds.length≤8∧(∀ x∈ss,x∈ds)∧so≠[] ∧
 ∀ (q:Addr) (ws:List Str),H q=none→(∀ x,x∈ws↔x∈ss∧x ∉ so)→Q (.ref q) (upd H q (qq P w q ws))
theorem SM:yO X (binaryOp .Sub) (a1H X.prog X.w):=by
 intro pins s σ H x y v u Q I rx ry h
 obtain ⟨p,o,ss,so,ds,rfl,rfl,hp,ho,hd,hin,hne,q⟩:=h
 cases rx
 cases ry
 obtain ⟨⟨zs,hS,hm,h64⟩,_,_⟩:=I.hok p _ hp
 obtain ⟨⟨zo,hO,hmo,d7H⟩,_,_⟩:=I.hok o _ ho
 have hnd:zs.Nodup:=let ⟨_,_,_,_,_,_,_,_,_,_,n,_⟩:=hS;n
 have hz8:=ku hnd fun x hx=>hin x ((hm x).mp hx)
 have hz1:1≤zo.length:=by
  cases so with
  | nil=>exact absurd rfl hne
  | cons a r=>exact List.length_pos_of_mem ((hmo a).mpr (List.mem_cons_self ..))
 refine wpAny_binaryOp_same (op:=.Sub) (T:="set") hS.typeIs hO.typeIs F.fills_set_sub F.slot_set_sub (wpAny_call_entry F.slot_set_sub hS.typeIs yf ?_ (F.args_set_sub_2 _ _))
 show wpAny _ _ (Builtin.Frozenset.slot1 "__sub__" ⟨[.ref p,.ref o],[]⟩ >>= _) _ _ _
 refine wpAny_bind (wpAny_pure ?_)
 dsimp only
 simp only [Bool.false_eq_true,if_false]
 refine wpAny_bind (wpAny_bind (tS hS ?_))
 refine tS hO ?_
 simp only [Bool.not_true,Bool.false_eq_true,if_false]
 refine wpAny_bind (wpAny_pure (wpAny_bind ?_))
 have go:∀ (h':Heap) d (ys:List Str),(∀ b ob,s.heap.get? b=some ob→h'.get? b=some ob)→cK X.prog X.w h' s.heap.objs.size ys→(∀ x,x∈ys↔x∈zs∧x ∉ zo)→ys.length < 64→_:=fun h' d ys kp hY hmy hl=>by
  have L:=I.Dw (h':=h') (a:=s.heap.objs.size) (o:=qq X.prog X.w s.heap.objs.size ys) (t':=s.toks) (fun b u e=>kp b u e) (fun b u e=>Nat.ne_of_lt (Heap.lt_size e))
   ⟨⟨ys,hY,fun _=>Iff.rfl,hl⟩,let ⟨o,_,_,_,ho,_⟩:=hY;⟨o,ho⟩,fun h1 h2 ⟨zs,x,y⟩ k=>⟨zs,x.at k,y⟩⟩
  exact (⟨_,L.2.drew d,q _ ys L.1 fun x=>by rw [hmy x,hm x,hmo x]⟩:∃ H',Inv X pins σ H' { s with heap:=h',drawn:=d }∧Q (.ref s.heap.objs.size) H')
 by_cases h4:zs.length / 4≤zo.length
 ·refine LX hS hO h4 h64 fun h' d ys kp hY hmy hl=>?_
  obtain ⟨H',I',q'⟩:=go h' d ys kp hY hmy hl
  exact wpAny_pure ⟨_,rfl,(fun z=>by cases z),.ref s.heap.objs.size,_,I',rfl,q'⟩
 ·refine LY hS hO (by omega) (by omega) fun h' d ys kp hY hmy hl=>?_
  obtain ⟨H',I',q'⟩:=go h' d ys kp hY hmy hl
  exact wpAny_pure ⟨_,rfl,(fun z=>by cases z),.ref s.heap.objs.size,_,I',rfl,q'⟩
end
end L2
namespace PySem
open Sem (wp)
section
variable {prog:Program} {w:World} {A:Around} {E:Value→Shared→Prop} {s:Shared}
theorem Tr {j t:Addr} {i:Nat} {its:Array Value} {x:Value} {Q:Value→Shared→Prop} (hj:s.heap.IsTupleIter j t i) (ht:s.heap.IsTuple t its) (hx:its[i]?=some x)
  (hQ:∀ h',h'.IsTupleIter j t (i+1)→Heap.SameBut j s.heap h'→Q x { s with heap:=h' }):wpAny (model prog w) A (Builtin.SmallTypes.nextOf (.ref j)) Q E s:=by
 obtain ⟨oj,ej,cj,dj⟩:=id hj
 obtain ⟨ot,et,_,nt,dt⟩:=ht
 unfold Builtin.SmallTypes.nextOf
 refine wpAny_bind (wpAny_callSpecial?_slot (name:=Str.ofString "__next__") hj.typeIs F.slot_tuple_iterator_next (wpAny_call_entry F.slot_tuple_iterator_next hj.typeIs F.entry_tuple_iterator_next ?_ (F.args_tuple_iterator_next_1 _)))
 show wpAny _ _ (field (Value.ref j) 0 >>= _) _ _ s
 refine wpAny_bind (wpAny_field ej dj (x:=.ref t) rfl ?_)
 show wpAny _ _ (if (Value.ref t == Value.none)=true then _ else _) _ _ _
 rw [if_neg (by intro z;cases z)]
 show wpAny _ _ (field (Value.ref j) 1 >>= _) _ _ s
 refine wpAny_bind (wpAny_field ej dj (x:=.int i 0) rfl ?_)
 show wpAny _ _ (seqItems? (Value.ref t) >>= _) _ _ s
 refine wpAny_bind (wpAny_seqItems et dt ?_)
 simp only [hx,Int.toNat_natCast]
 refine wpAny_bind (wpAny_setField ej dj (by simp) (wpAny_pure ⟨x,rfl,wpAny_pure (hQ _ ⟨_,Heap.get?_update_self _ ej (Obj.isFreed_of_fields (Obj.data_mapFields dj _)),(Obj.cls_mapFields ..).trans cj,?_⟩ (Heap.SameBut.update ..))⟩))
 rw [Obj.data_mapFields dj]
 simp [rawInt]
theorem Dc {j t:Addr} {i:Nat} {its:Array Value} {Q:Value→Shared→Prop} (hh:A.handled=none) (hj:s.heap.IsTupleIter j t i) (ht:s.heap.IsTuple t its) (hx:its[i]?=none)
  (hE:∀ h' e,Heap.ExtBut j s.heap h'→(∃ o,h'.get? e=some o∧o.cls=.type "StopIteration")→E (.ref e) { s with heap:=h' }):wpAny (model prog w) A (Builtin.SmallTypes.nextOf (.ref j)) Q E s:=by
 obtain ⟨oj,ej,cj,dj⟩:=id hj
 obtain ⟨ot,et,_,nt,dt⟩:=ht
 unfold Builtin.SmallTypes.nextOf
 refine wpAny_bind (wpAny_callSpecial?_slot (name:=Str.ofString "__next__") hj.typeIs F.slot_tuple_iterator_next (wpAny_call_entry F.slot_tuple_iterator_next hj.typeIs F.entry_tuple_iterator_next ?_ (F.args_tuple_iterator_next_1 _)))
 show wpAny _ _ (field (Value.ref j) 0 >>= _) _ _ s
 refine wpAny_bind (wpAny_field ej dj (x:=.ref t) rfl ?_)
 show wpAny _ _ (if (Value.ref t == Value.none)=true then _ else _) _ _ _
 rw [if_neg (by intro z;cases z)]
 show wpAny _ _ (field (Value.ref j) 1 >>= _) _ _ s
 refine wpAny_bind (wpAny_field ej dj (x:=.int i 0) rfl ?_)
 show wpAny _ _ (seqItems? (Value.ref t) >>= _) _ _ s
 refine wpAny_bind (wpAny_seqItems et dt ?_)
 simp only [hx,Int.toNat_natCast]
 refine wpAny_bind (wpAny_rule (wpAny_bind (wpAny_setField ej dj (by simp) ?_)))
 show wpAny _ _ (newExc (Value.type "StopIteration") [] >>= _) _ _ _
 refine wpAny_bind ?_
 simp only [newExc,newTuple]
 refine wpAny_bind (wpAny_newObj_type ?_ (by size_fits))
 refine wpAny_bind (m:=firstArgMember _ _) (wpAny_of_eq (a:=Value.none) (by first | rfl | (simp only [firstArgMember] <;> rfl)) ?_)
 refine wpAny_newObj_type ?_ (by size_fits)
 simp only [raiseNew]
 refine wpAny_bind (wpAny_handled ?_)
 first
  | rw [show A.in1.handled=none from hh]
  | rw [hh]
 refine wpAny_bind (wpAny_pure (wpAny_throw (hE _ _ (((Heap.SameBut.update ..).extBut.push _).push _) ⟨_,Heap.get?_push_size _ rfl,rfl⟩)))
theorem wJ {B:Around} (hh:B.handled=none) (j t:Addr) (hne:t≠j) (its:Array Value) :
  Draws prog w B j [j,t] its.size (fun i v=>its[i]?=some v) (fun i h=>h.IsTupleIter j t i∧h.IsTuple t its) where
 live:=fun _ _ st=>let ⟨o,ho,_⟩:=st.1;⟨o,ho⟩
 frame:=fun _ _ _ st hk=>⟨let ⟨o,ho,r⟩:=st.1;⟨o,hk j (by simp) o ho,r⟩,let ⟨o,ho,r⟩:=st.2;⟨o,hk t (by simp) o ho,r⟩⟩
 item:=fun i s Q E hi st hQ=>Tr st.1 st.2 (x:=its[i]) (by simp [hi]) fun h' a b=>hQ _ h' s.toks (by simp [hi]) ⟨a,st.2.extBut b.extBut hne⟩ b
 done:=fun s Q E st hE=>Dc hh st.1 st.2 (by simp) hE
set_option maxHeartbeats 4000000 in
theorem QO (t:Addr) (its:Array Value) (n:Nat) (dd:Option Addr) (sl:Array (Option Value)) :
  Meets (Builtin.«enumerate.__new__» ⟨[.type "enumerate",.ref t],[]⟩) (fun _ R s=>s.heap.get? t=some { cls:=.type "tuple",dict:=dd,data:=.seq its n,slots:=sl } ∧
   R (.ok (.ret (.ref (s.heap.push { cls:=.type "tuple_iterator",data:=.fields #[.ref t,.int 0 0] }).objs.size)))
    { s with heap:=(s.heap.push { cls:=.type "tuple_iterator",data:=.fields #[.ref t,.int 0 0] }).push { cls:=.type "enumerate",data:=.fields #[.none,.bool false,.ref s.heap.objs.size,rawInt 0,.none,.none] } }) :=
 .of_wp fun prog w A R s h=>by
  obtain ⟨hp,g,d,tk,os⟩:=s
  obtain ⟨hl,h⟩:=h
  have hsub:=sub_enumerate
  have hT:Heap.IsTuple (Shared.heap ⟨hp,g,d,tk,os⟩) t its:=⟨_,hl,rfl,n,rfl⟩
  wp_walk using AutoSeq1.wpAny_loadPart' hl
  refine wpAny_stack_any fun st=>wpAny_pure ?_
  split
  ·rename_i c _ _ _ _ _
   cases (c == Value.type "enumerate") <;> (wp_walk using AutoSeq1.wpAny_loadPart' hl,wpAny_pyIter_tuple hT;exact ⟨_,rfl,h⟩)
  ·wp_walk using AutoSeq1.wpAny_loadPart' hl,wpAny_pyIter_tuple hT
   exact ⟨_,rfl,h⟩
theorem Mm {t:Addr} {its:Array Value} {Q:Value→Shared→Prop} (hT:s.heap.IsTuple t its)
  (h:∀ h',IsEnum h' (s.heap.objs.size+1) s.heap.objs.size 0 .none→h'.IsTupleIter s.heap.objs.size t 0→h'.objs.size=s.heap.objs.size+2→(∀ b o,s.heap.get? b=some o→h'.get? b=some o)→Q (.ref (s.heap.objs.size+1)) { s with heap:=h' }) :
  wpAny (model prog w) A (call (.type "enumerate") [.ref t]) Q E s:=by
 obtain ⟨⟨c,dd,dt,sl⟩,hl,hc,n,hd⟩:=hT
 replace hc:c=.type "tuple":=hc
 replace hd:dt=.seq its n:=hd
 subst hc hd
 refine callType_new F.called_enumerate (by decide) (F.typeCall_enumerate_1 _) (F.newCall_enumerate_1 _) (fun obj=>F.args_object_init_2 obj _) F.entry_enumerate_new (QO t its n dd sl) ⟨hl,?_⟩
 have hz:(s.heap.push { cls:=.type "tuple_iterator",data:=.fields #[.ref t,.int 0 0] }).objs.size=s.heap.objs.size+1:=Heap.size_push ..
 show _∧_
 rw [hz]
 have he:IsEnum ((s.heap.push { cls:=.type "tuple_iterator",data:=.fields #[.ref t,.int 0 0] }).push { cls:=.type "enumerate",data:=.fields #[.none,.bool false,.ref s.heap.objs.size,rawInt 0,.none,.none] }) (s.heap.objs.size+1) s.heap.objs.size 0 .none:=by
  have q:=Heap.get?_push_size (s.heap.push { cls:=.type "tuple_iterator",data:=.fields #[.ref t,.int 0 0] }) (o:={ cls:=.type "enumerate",data:=.fields #[.none,.bool false,.ref s.heap.objs.size,rawInt 0,.none,.none] }) rfl
  rw [hz] at q
  exact q
 exact ⟨⟨_,he,rfl⟩,h _ he ⟨_,Heap.get?_push_of_some _ (Heap.get?_push_size _ rfl),rfl,rfl⟩ (by rw [Heap.size_push,hz]) fun b o x=>Heap.get?_push_of_some _ (Heap.get?_push_of_some _ x)⟩
end
end PySem
namespace L2
open PySem PySem.Spec PyProof.Rows Hw
section
variable {X:Cx}
def SqV (H:Hp) (a:Addr) (xs:List V):Prop:=H a=some (.lst xs)∨H a=some (.tup xs)
theorem Inv.RP {pins:List (Addr×Obj)} {σ:St} {H:Hp} {s:Shared} {h':Heap} {t':Nat} {a b:Addr} (I:Inv X pins σ H s) (k:∀ c o,c≠a→c≠b→s.heap.get? c=some o→h'.get? c=some o) (fa:mz X pins H a) (fb:mz X pins H b):Inv X pins σ H { s with heap:=h',toks:=t' }:=by
 have na:∀ c u,H c=some u→c≠a:=fun c u e z=>by rw [z,fa.1] at e;cases e
 have nb:∀ c u,H c=some u→c≠b:=fun c u e z=>by rw [z,fb.1] at e;cases e
 have k2:∀ c o,c ∉ [a,b]→s.heap.get? c=some o→h'.get? c=some o:=fun c o hc e=>k c o (fun z=>hc (by simp [z])) (fun z=>hc (by simp [z])) e
 refine I.step (g':=s.gens) (d':=s.drawn) (ch:=[a,b]) (fun c hc=>?_) (fun c o _ _ hc e _=>k2 c o hc e) (fun c o _ _ hc e _=>⟨o.slots,k2 c o hc e⟩) (fun _ _ _ _ n=>n)
  (fun c o hc e=>⟨o,k2 c o hc e⟩) (fun _ _ e=>e) (fun _ _ _ e=>e) (fun c ps e=>⟨#[],by rw [e];simp⟩) (fun m hm=>?_) (fun c u e=>?_) I.bare
 ·obtain ⟨_,a1,_,a3,a4,a5⟩:=fa
  obtain ⟨_,b1,_,b3,b4,b5⟩:=fb
  have e:c=a∨c=b:=by simpa using hc
  rcases e with e | e <;> subst e
  ·exact ⟨a3,a1,a4,a5⟩
  ·exact ⟨b3,b1,b4,b5⟩
 ·obtain ⟨o,es,ep,ho,r⟩:=hm
  exact ⟨o,es,ep,k _ o (Ne.symm fa.2.1) (Ne.symm fb.2.1) ho,r⟩
 ·refine (I.hok c u e).stay (fun d v hd q=>k d v ?_ ?_ q) (fun _ q=>q) fun _ _ q=>q
  ·rcases hd with z | z
   ·rw [z];exact na c u e
   ·exact na d _ z
  ·rcases hd with z | z
   ·rw [z];exact nb c u e
   ·exact nb d _ z
end
def SqK (K:PySem.W.Frag) (k:Bool) (H:Hp) (a:Addr) (xs:List V):Prop:=if k then bH K H a xs else bG K H a xs
def Ien (K:PySem.W.Frag) (k:Bool) (a:Addr):It :=
 ⟨fun i H=>∃ xs x,SqK K k H a xs∧xs[i]?=some x,fun i H x H'=>∃ t y,H t=none∧x=.ref t∧(∀ xs,SqK K k H a xs→xs[i]?=some y)∧H'=upd H t (.tup [.int i,y]),fun i H=>∃ xs,SqK K k H a xs∧xs.length≤i⟩
theorem R1 {X:Cx} {pins:List (Addr×Obj)} {σ:St} {H:Hp} {s:Shared} {k:Bool} {a:Addr} {xs ys:List V} (I:Inv X pins σ H s) (h:SqK X.K k H a xs) (g:SqK X.K k H a ys):xs=ys:=by
 cases k
 ·exact I.pM h g
 ·exact I.Dp h g
def Inn (k:Bool) (j a:Addr) (i:Nat) (h:Heap):Prop:=if k then h.IsListIter j a i else h.IsTupleIter j a i
theorem Kw {k:Bool} {j a:Addr} {i:Nat} {h:Heap} (st:Inn k j a i h):∃ o,h.get? j=some o∧∀ v,o.data≠.cell v:=by
 cases k
 ·obtain ⟨o,e,c,d⟩:=(show h.IsTupleIter j a i from st)
  exact ⟨o,e,fun v z=>by rw [d] at z;cases z⟩
 ·obtain ⟨o,e,c,d⟩:=(show h.IsListIter j a i from st)
  exact ⟨o,e,fun v z=>by rw [d] at z;cases z⟩
theorem DF {k:Bool} {j a:Addr} {i:Nat} {h h':Heap} (st:Inn k j a i h) (e:∀ o,h.get? j=some o→h'.get? j=some o):Inn k j a i h':=by
 cases k
 ·obtain ⟨o,q,r⟩:=(show h.IsTupleIter j a i from st)
  exact ⟨o,e o q,r⟩
 ·obtain ⟨o,q,r⟩:=(show h.IsListIter j a i from st)
  exact ⟨o,e o q,r⟩
theorem P6 {X:Cx} {pins:List (Addr×Obj)} {σ:St} {H:Hp} {s:Shared} {k:Bool} {j a:Addr} {xs:List V} (hc:X.calm=true) (I:Inv X pins σ H s) (hq:SqK X.K k H a xs) (nja:a≠j) :
  ∃ its:List Value,Vals xs its∧∃ St:Nat→Heap→Prop,Draws X.prog X.w X.A.in1 j [j,a] its.length (fun i v=>its[i]?=some v) St∧(∀ i,Inn k j a i s.heap→St i s.heap)∧∀ i h,St i h→Inn k j a i h:=by
 have hh:X.A.in1.handled=none:=I.ok.hd hc
 cases k
 ·obtain ⟨its,rv,p,_⟩:=I.tuple (show bG X.K H a xs from hq)
  have D:=wJ (prog:=X.prog) (w:=X.w) (B:=X.A.in1) hh j a nja its.toArray
  refine ⟨its,rv,fun i h=>h.IsTupleIter j a i∧h.IsTuple a its.toArray,?_,fun i st=>⟨st,p⟩,fun i h st=>st.1⟩
  simpa using D
 ·obtain ⟨its,rv,p,_⟩:=I.list (show bH X.K H a xs from hq)
  have D:=Draws.list (prog:=X.prog) (w:=X.w) (A:=X.A.in1) hh j a nja its.toArray
  refine ⟨its,rv,fun i h=>h.IsListIter j a i∧h.IsList a its.toArray,?_,fun i st=>⟨st,p.isList⟩,fun i h st=>st.1⟩
  simpa using D
theorem zA {P:Program} {w:World} {K:PySem.W.Frag} {elts:List Expr} {x1:Nat} {pos:Pos} (k:Bool) (a e j:Addr) (nej:e≠j) (nae:a≠e) (naj:a≠j) :
  Turn P w K (.Tuple elts x1 pos) (Ien K k a) [e,j] e (fun i h=>(∃ old,IsEnum h e j i old)∧Inn k j a i h) where
 mem:=by simp
 obj:=fun i h st b hb=>by
  obtain ⟨⟨old,he⟩,hi⟩:=st
  have q:b=e∨b=j:=by simpa using hb
  rcases q with q | q <;> subst q
  ·exact ⟨_,he,fun v z=>by
    have z':Data.fields _=Data.cell v:=z
    cases z'⟩
  ·exact Kw hi
 keep:=fun i h h' st q=>⟨let ⟨old,he⟩:=st.1;⟨old,q e (by simp) _ he⟩,DF st.2 fun o z=>q j (by simp) o z⟩
 item:=by
  intro X hP hw hK hc i pins s σ H E I hf st hg
  subst hP hw hK
  obtain ⟨⟨old,he⟩,hi⟩:=st
  obtain ⟨xs,x,hq,hx⟩:=hg
  obtain ⟨its,rv,St,D,d1,d2⟩:=P6 hc I hq naj
  obtain ⟨u,hu,ru⟩:=rv.get hx
  have fe:=hf e (by simp)
  have fj:=hf j (by simp)
  have hlt:i < its.length:=(List.getElem?_eq_some_iff.mp hu).1
  have hel:e < s.heap.objs.size:=Heap.lt_size he
  have hjl:j < s.heap.objs.size:=by obtain ⟨o,z,_⟩:=Kw hi;exact Heap.lt_size z
  refine wpAny_pyNext_enum_itemD D he (d1 i hi) hlt nej (by simp [nej,Ne.symm nae]) fun y h1 tk hP out st1 ht hsz hk=>?_
  have hyu:y=u:=Option.some.inj (hP.symm.trans hu)
  subst hyu
  refine ⟨_,rfl,?_⟩
  refine wpAny_letOwnedTupleGo_enum out fun h2 he2 sb=>?_
  have hn:H s.heap.objs.size=none:=I.hok.fresh (Nat.le_refl _)
  have I1:Inv X pins σ (upd H s.heap.objs.size (.tup [.int i,x])) { s with heap:=s.heap.push { cls:=.type "tuple",data:=.seq #[.int i tk,y] },toks:=tk+1 } :=
   I.laid (t':=tk+1) (o:=.tup [.int i,x]) (fun b o q=>Heap.get?_push_of_some _ q) (Nat.le_refl _)
    ⟨by show 2≤sizeLine;rw [sizeLine_eq];omega,[.int i tk,y],.cons ⟨_,rfl⟩ (.cons ru .nil),_,Heap.get?_push_size _ rfl,rfl,_,rfl⟩
  have ne1:s.heap.objs.size≠e:=Nat.ne_of_gt hel
  have ne2:s.heap.objs.size≠j:=Nat.ne_of_gt hjl
  have up:∀ {b:Addr},b≠s.heap.objs.size→mz X pins H b→mz X pins (upd H s.heap.objs.size (.tup [.int i,x])) b:=fun nb f=>⟨by rw [aL nb];exact f.1,f.2⟩
  have I2:Inv X pins σ (upd H s.heap.objs.size (.tup [.int i,x])) { s with heap:=h2,toks:=tk+1 } :=
   Inv.RP (s:={ s with heap:=s.heap.push { cls:=.type "tuple",data:=.seq #[.int i tk,y] },toks:=tk+1 }) (t':=tk+1) (h':=h2) (a:=e) (b:=j) I1 (fun c o hce hcj q=>by
    refine sb.extBut c o hce ?_
    rcases Heap.get?_push_cases (show (s.heap.push { cls:=.type "tuple",data:=.seq #[.int i tk,y] }).get? c=some o from q) with ⟨e1,e2⟩ | e1
    ·rw [e1,e2];exact ht
    ·exact hk c o hce hcj e1) (up ne1.symm fe) (up ne2.symm fj)
  refine ⟨.ref s.heap.objs.size,_,I2,rfl,⟨_,x,hn,rfl,fun ys hy=>by rw [R1 I hy hq];exact hx,rfl⟩,⟨⟨y,by simpa using he2⟩,DF (d2 _ _ st1) fun o z=>sb.extBut j o (Ne.symm nej) z⟩,fun b hb=>?_⟩
  have q:b=e∨b=j:=by simpa using hb
  rcases q with q | q <;> subst q
  ·exact (up ne1.symm fe).1
  ·exact (up ne2.symm fj).1
 done:=by
  intro X hP hw hK hc i pins s σ H E I hf st hg
  subst hP hw hK
  obtain ⟨⟨old,he⟩,hi⟩:=st
  obtain ⟨xs,hq,hx⟩:=hg
  obtain ⟨f0,f1,f2,f3,f4,f5⟩:=hf j (by simp)
  have key:∀ (its:List Value),Vals xs its→(its.toArray)[i]?=none:=fun its rv=>by
   have:=rv.length
   rw [List.getElem?_toArray]
   exact List.getElem?_eq_none_iff.mpr (by omega)
  have fin:∀ h',Heap.ExtBut j s.heap h'→(none:Option Value)=none∧Inv X pins σ H { s with heap:=h' }:=fun h' eb=>⟨rfl,I.turned (t':=s.toks) (fun b o hb z=>eb b o hb z) f0 f1 f3 f4 f5⟩
  have hT:s.TypeIs (.ref e) "enumerate":=⟨_,he,rfl⟩
  unfold pyNext
  refine wpAny_bind (wpAny_attempt (wpAny_callSpecial?_slot (name:=Str.ofString "__next__") hT F.slot_enumerate_next (wpAny_call_entry F.slot_enumerate_next hT F.entry_enumerate_next ?_ (F.args_enumerate_next_1 _))))
  show wpAny _ _ (field (Value.ref e) 2 >>= _) _ _ _
  refine wpAny_bind (wpAny_field he rfl (x:=.ref j) rfl ?_)
  have nx:∀ {Q:Value→Shared→Prop} {E':Value→Shared→Prop},(∀ h' z,Heap.ExtBut j s.heap h'→(∃ o,h'.get? z=some o∧o.cls=.type "StopIteration")→E' (.ref z) { s with heap:=h' })→wpAny (model X.prog X.w) X.A.in1 (Builtin.SmallTypes.nextOf (.ref j)) Q E' s:=fun hE=>by
   cases k
   ·obtain ⟨its,rv,p,_⟩:=I.tuple (show bG X.K H a xs from hq)
    exact Dc (I.ok.hd hc) hi p (key its rv) hE
   ·obtain ⟨its,rv,p,_⟩:=I.list (show bH X.K H a xs from hq)
    exact wpAny_nextOf_list_end (I.ok.hd hc) hi p.isList (key its rv) hE
  refine wpAny_bind (nx fun h' x he' hx'=>?_)
  obtain ⟨o,ho,hcl⟩:=hx'
  refine wpAny_bind (wpAny_isInstance (T:="StopIteration") (b:=true) ⟨o,ho,hcl⟩ isSubtype_stop ?_)
  exact wpAny_pure (fin _ he')
 self:=fun _ _ _ _ _ st h=>let ⟨_,e⟩:=st.1;wpAny_pyIter_enum e h
section
variable {X:Cx} {l:Expr} {tl:TE} {p pos:Pos}
def a2t (K:PySem.W.Frag) (tl:TA):TI:=fun σ H R=>tl σ H fun vs H1=>∃ a,vs=[.ref a]∧(((∃ xs,bH K H1 a xs)∧R (Ien K true a) H1)∨((∃ xs,bG K H1 a xs)∧R (Ien K false a) H1))
theorem SD {elts:List Expr} {x1:Nat} {tpos:Pos} {ta:TA} (hg:Gl X "enumerate") (hm:X.mg "enumerate"=none) (hv:bootBuiltins "enumerate"=some (.type "enumerate")) (ha:PA X [l] ta) (hs:starEach [l] X.env=[(false,eval l X.env)]:=by rfl):PI X (.Tuple elts x1 tpos) (.Call (.Name "enumerate" p) [l] [] pos) (a2t X.K ta):=by
 intro pins s σ H R I h
 refine Call_ (xR I hg hm hv (PyProof.Rows.callWith_type1 (fG (ha pos pins s σ H _ I h) fun us s1 ⟨vs,H1,I1,r1,q1⟩=>?_) hs rfl))
 obtain ⟨a,rfl,q⟩:=q1
 obtain ⟨u,rfl,ru⟩:=vals1 r1
 cases ru
 have fp:∀ b,s1.heap.objs.size≤b→mz X pins H1 b:=fun b hb=>I1.Jb hb (I1.hok.fresh hb)
 have fps:∀ b∈[s1.heap.objs.size+1,s1.heap.objs.size],mz X pins H1 b:=fun b hb=>by
  have z:b=s1.heap.objs.size+1∨b=s1.heap.objs.size:=by simpa using hb
  rcases z with z | z <;> subst z
  ·exact fp _ (Nat.le_succ _)
  ·exact fp _ (Nat.le_refl _)
 rcases q with ⟨⟨xs,hq⟩,q⟩ | ⟨⟨xs,hq⟩,q⟩
 ·obtain ⟨its,rv,pl,hz⟩:=I1.list hq
  have hlt:a < s1.heap.objs.size:=by obtain ⟨o,e,_⟩:=pl.isList;exact Heap.lt_size e
  refine call_enumerate_list pl.isList fun h' e1 e2 e3 kp=>wpAny_pyIter_enum e1 ?_
  exact ⟨_,_,_,_,H1,rfl,I1.kept (t':=s1.toks) kp,zA true a _ _ (Nat.succ_ne_self _) (Nat.ne_of_lt (Nat.lt_succ_of_lt hlt)) (Nat.ne_of_lt hlt),⟨⟨_,e1⟩,e2⟩,fps,q⟩
 ·obtain ⟨its,rv,pl,hz⟩:=I1.tuple hq
  have hlt:a < s1.heap.objs.size:=by obtain ⟨o,e,_⟩:=(show s1.heap.IsTuple a its.toArray from pl);exact Heap.lt_size e
  refine Mm (show s1.heap.IsTuple a its.toArray from pl) fun h' e1 e2 e3 kp=>wpAny_pyIter_enum e1 ?_
  exact ⟨_,_,_,_,H1,rfl,I1.kept (t':=s1.toks) kp,zA false a _ _ (Nat.succ_ne_self _) (Nat.ne_of_lt (Nat.lt_succ_of_lt hlt)) (Nat.ne_of_lt hlt),⟨⟨_,e1⟩,e2⟩,fps,q⟩
end
abbrev UW (J:It) (g:TG) (tb:TS) (D:Ends) (σ:St) (H:Hp):Prop:=∃ W:Nat→Nat→St→Hp→Prop,(∃ m,W 0 m σ H)∧∀ i m σ H,W i m σ H →
 (J.stop i H∧D.nx σ H)∨(J.go i H∧∃ N:St→Hp→Prop,(∀ σ' H',N σ' H'→∃ m',m' < m∧W (i+1) m' σ' H')∧∀ x H',J.U3 i H x H'→g x σ H' fun σ2 H2=>tb { D with nx:=N,ct:=N,bk:=D.nx } σ2 H2)
theorem zO {K:PySem.W.Frag} {k:Bool} {a:Addr} {xs:List V} {g:TG} {tb:TS} {D:Ends} {σ:St} {H:Hp} (Pv:Nat→St→Hp→Prop) (h0:Pv 0 σ H) (hl:∀ i σ H,Pv i σ H→SqK K k H a xs)
  (hs:∀ i x t σ H,xs[i]?=some x→H t=none→Pv i σ H→g (.ref t) σ (upd H t (.tup [.int i,x])) fun σ2 H2=>tb { D with nx:=Pv (i+1),ct:=Pv (i+1),bk:=D.nx } σ2 H2) (hd:∀ σ H,Pv xs.length σ H→D.nx σ H):UW (Ien K k a) g tb D σ H:=by
 refine ⟨fun i m σ H=>m=xs.length - i∧i≤xs.length∧Pv i σ H,⟨xs.length,by simp,Nat.zero_le _,h0⟩,?_⟩
 rintro i m σ H ⟨rfl,hi,p⟩
 have q:=hl i σ H p
 by_cases hlt:i < xs.length
 ·refine .inr ⟨⟨xs,xs[i],q,by simp [hlt]⟩,Pv (i+1),fun σ' H' p'=>⟨xs.length - (i+1),by omega,rfl,hlt,p'⟩,fun x H' y=>?_⟩
  obtain ⟨t,z,ht,ex,hz,eH⟩:=y
  subst ex eH
  exact hs i z t σ H (hz xs q) ht p
 ·have e:i=xs.length:=by omega
  subst e
  exact .inl ⟨⟨xs,q,Nat.le_refl _⟩,hd σ H p⟩
theorem QA {K:PySem.W.Frag} {a:Addr} {xs:List V} {g:TG} {tb:TS} {D:Ends} {σ:St} {H:Hp} (h:SqV H a xs) (Pv:Nat→St→Hp→Prop) (h0:Pv 0 σ H) (hl:∀ i σ H',Pv i σ H'→∀ o,H a=some o→H' a=some o)
  (hs:∀ i x t σ H,xs[i]?=some x→H t=none→Pv i σ H→g (.ref t) σ (upd H t (.tup [.int i,x])) fun σ2 H2=>tb { D with nx:=Pv (i+1),ct:=Pv (i+1),bk:=D.nx } σ2 H2) (hd:∀ σ H,Pv xs.length σ H→D.nx σ H) :
  (((∃ xs,bH K H a xs)∧UW (Ien K true a) g tb D σ H)∨((∃ xs,bG K H a xs)∧UW (Ien K false a) g tb D σ H)):=by
 rcases h with h | h
 ·exact .inl ⟨⟨xs,bH.of h⟩,zO (k:=true) Pv h0 (fun i σ H' p=>bH.of (hl i σ H' p _ h)) hs hd⟩
 ·exact .inr ⟨⟨xs,bG.of h⟩,zO (k:=false) Pv h0 (fun i σ H' p=>bG.of (hl i σ H' p _ h)) hs hd⟩
end L2
namespace PySem
open Sem (wp)
structure Zap (z ti tw i1 i2:Addr) (f1 f2:List Addr):Prop where
 a1:ti≠z
 a2:tw≠z
 a3:i1≠z
 a4:i2≠z
 a5:ti≠tw
 a6:ti≠i1
 a7:ti≠i2
 a8:tw≠i1
 a9:tw≠i2
 b1:i1≠i2
 c1:z ∉ f1
 c2:tw ∉ f1
 c3:i2 ∉ f1
 d1:z ∉ f2
 d2:tw ∉ f2
 d3:i1 ∉ f2
section
variable {prog:Program} {w:World} {A:Around} {E:Value→Shared→Prop} {s:Shared} {z ti tw i1 i2:Addr} {f1 f2:List Addr} {n1 n2 k:Nat} {P1 P2:Nat→Value→Prop} {S1 S2:Nat→Heap→Prop} {a b:Value}
theorem Draws.but {it c:Addr} {fp:List Addr} {n i:Nat} {P:Nat→Value→Prop} {St:Nat→Heap→Prop} {h h':Heap} (D:Draws prog w A it fp n P St) (st:St i h) (nc:c ∉ fp) (sb:Heap.SameBut c h h'):St i h' :=
 D.frame i h h' st fun b hb o e=>(sb.2 b fun q=>nc (q ▸ hb)).trans e
theorem RK {Q:Value→Shared→Prop} (D1:Draws prog w A i1 f1 n1 P1 S1) (D2:Draws prog w A i2 f2 n2 P2 S2) (G:Zap z ti tw i1 i2 f1 f2) (l1:k < n1) (l2:k < n2)
  (hz:IsZip s.heap z ti tw .none) (ht:IsPair s.heap ti (.ref i1) (.ref i2)) (ho:IsPair s.heap tw a b) (t1:S1 k s.heap) (t2:S2 k s.heap)
  (hQ:∀ x y h' tk,P1 k x→P2 k y→IsZip h' z ti tw (rawInt s.heap.objs.size)→IsPair h' tw x y→S1 (k+1) h'→S2 (k+1) h'→IsPair h' s.heap.objs.size x y →
   (∀ c o,c≠z→c≠tw→c≠i1→c≠i2→s.heap.get? c=some o→h'.get? c=some o)→Q (.ref s.heap.objs.size) { s with heap:=h',toks:=tk }) :
  wpAny (model prog w) A (Builtin.«zip.__next__» ⟨[.ref z],[]⟩) (fun fin s'=>∃ v,fin=.done (.ret v)∧Q v s') E s:=by
 show wpAny _ _ (field (.ref z) 2 >>= _) _ _ _
 refine wpAny_bind (wpAny_field (x:=.bool false) hz rfl rfl ?_)
 show wpAny _ _ (field (.ref z) 3 >>= _) _ _ _
 refine wpAny_bind (wpAny_field (x:=.ref ti) hz rfl rfl (wpAny_bind (wpAny_seqItems ht rfl ?_)))
 show wpAny _ _ (Builtin.SmallTypes.ownedTupleIsFree (.ref z) >>= _) _ _ _
 unfold Builtin.SmallTypes.ownedTupleIsFree
 refine wpAny_bind (wpAny_bind (wpAny_field (x:=.none) hz rfl rfl (wpAny_pure ?_)))
 simp only [if_true]
 refine wpAny_bind (wpAny_rule (wpAny_bind (wpAny_field (x:=.ref tw) hz rfl rfl ?_)))
 refine wpAny_bind (wpAny_setField_rec hz (by simp) fun g1 z1 b1=>?_)
 have z1:IsZip g1 z ti tw .ellipsis:=z1
 refine wpAny_bind ?_
 simp only [List.zipIdx_cons,List.zipIdx_nil,List.forIn_cons,List.forIn_nil]
 refine wpAny_bind (wpAny_bind (wpAny_onRaise ?_))
 show wpAny _ _ (Builtin.SmallTypes.nextOf (.ref i1) >>= _) _ _ _
 refine wpAny_bind (D1.item k { s with heap:=g1 } _ _ l1 (D1.but t1 G.c1 b1) fun x g2 k2 px u1 b2=>wpAny_pure ?_)
 have o2:IsPair g2 tw a b:=(b2.2 _ G.a8).trans ((b1.2 _ G.a2).trans ho)
 refine wpAny_bind (wpAny_seqItems o2 rfl (wpAny_bind (wpAny_updateSeq_pair o2 fun g3 o3 b3=>?_)))
 have o3:IsPair g3 tw x b:=o3
 refine wpAny_bind (wpAny_letGo (wpAny_pure (wpAny_bind (wpAny_bind (wpAny_onRaise ?_)))))
 show wpAny _ _ (Builtin.SmallTypes.nextOf (.ref i2) >>= _) _ _ _
 refine wpAny_bind (D2.item k { s with heap:=g3,toks:=k2 } _ _ l2 (D2.but (D2.but (D2.but t2 G.d1 b1) G.d3 b2) G.d2 b3) fun y g4 k4 py u2 b4=>wpAny_pure ?_)
 have o4:IsPair g4 tw x b:=(b4.2 _ G.a9).trans o3
 refine wpAny_bind (wpAny_seqItems o4 rfl (wpAny_bind (wpAny_updateSeq_pair o4 fun g5 o5 b5=>?_)))
 have o5:IsPair g5 tw x y:=o5
 refine wpAny_bind (wpAny_letGo (wpAny_pure (wpAny_pure ?_)))
 refine wpAny_bind (wpAny_seqItems o5 rfl (wpAny_bind (wpAny_newTuple ?_)))
 have sz:g5.objs.size=s.heap.objs.size:=by rw [b5.1,b4.1,b3.1,b2.1,b1.1]
 have kp:∀ c o,c≠z→c≠tw→c≠i1→c≠i2→s.heap.get? c=some o→g5.get? c=some o:=fun c o n1 n2 n3 n4 e =>
  (b5.2 c n2).trans ((b4.2 c n4).trans ((b3.2 c n2).trans ((b2.2 c n3).trans ((b1.2 c n1).trans e))))
 have z5:IsZip g5 z ti tw .ellipsis:=(b5.2 _ G.a2.symm).trans ((b4.2 _ G.a4.symm).trans ((b3.2 _ G.a2.symm).trans ((b2.2 _ G.a3.symm).trans z1)))
 have lz:z < g5.objs.size:=Heap.lt_size z5
 show wpAny _ _ (Builtin.SmallTypes.ownedTupleHandOut (.ref z) (.ref g5.objs.size) >>= _) _ _ _
 unfold Builtin.SmallTypes.ownedTupleHandOut
 have z6:IsZip (g5.push { cls:=.type "tuple",data:=.seq #[x,y] }) z ti tw .ellipsis:=Heap.get?_push_of_some _ z5
 refine wpAny_bind (wpAny_bind (wpAny_setField_rec z6 (by simp) fun g7 z7 b7=>?_))
 have z7:IsZip g7 z ti tw (rawInt g5.objs.size):=z7
 refine wpAny_setField_rec z7 (by simp) fun g8 z8 b8=>?_
 have z8:IsZip g8 z ti tw (rawInt g5.objs.size):=z8
 have up:∀ c o,c≠z→g5.get? c=some o→g8.get? c=some o:=fun c o n e=>(b8.2 c n).trans ((b7.2 c n).trans (Heap.get?_push_of_some _ e))
 have nw:IsPair g8 g5.objs.size x y:=(b8.2 _ (Nat.ne_of_gt lz)).trans ((b7.2 _ (Nat.ne_of_gt lz)).trans (Heap.get?_push_size _ rfl))
 have f1':S1 (k+1) g8:=D1.frame _ _ _ (D1.but (D1.but (D1.but u1 G.c2 b3) G.c3 b4) G.c2 b5) fun c hc o e=>up c o (fun q=>G.c1 (q ▸ hc)) e
 have f2':S2 (k+1) g8:=D2.frame _ _ _ (D2.but u2 G.d2 b5) fun c hc o e=>up c o (fun q=>G.d1 (q ▸ hc)) e
 rw [sz] at z8 nw
 refine wpAny_pure ⟨_,rfl,?_⟩
 show Q (.ref g5.objs.size) _
 rw [sz]
 exact hQ x y g8 k4 px py z8 (up _ _ G.a2 o5) f1' f2' nw fun c o m1 m2 m3 m4 e=>up c o m1 (kp c o m1 m2 m3 m4 e)
theorem Xj {Q:Fin→Shared→Prop} (D1:Draws prog w A i1 f1 n1 P1 S1) (G:Zap z ti tw i1 i2 f1 f2)
  (hz:IsZip s.heap z ti tw .none) (ht:IsPair s.heap ti (.ref i1) (.ref i2)) (t1:S1 n1 s.heap)
  (hE:∀ h' e,(∀ c o,c≠z→c≠tw→c≠i1→c≠i2→s.heap.get? c=some o→h'.get? c=some o)→(∃ o,h'.get? e=some o∧o.cls=.type "StopIteration")→E (.ref e) { s with heap:=h' }) :
  wpAny (model prog w) A (Builtin.«zip.__next__» ⟨[.ref z],[]⟩) Q E s:=by
 show wpAny _ _ (field (.ref z) 2 >>= _) _ _ _
 refine wpAny_bind (wpAny_field (x:=.bool false) hz rfl rfl ?_)
 show wpAny _ _ (field (.ref z) 3 >>= _) _ _ _
 refine wpAny_bind (wpAny_field (x:=.ref ti) hz rfl rfl (wpAny_bind (wpAny_seqItems ht rfl ?_)))
 show wpAny _ _ (Builtin.SmallTypes.ownedTupleIsFree (.ref z) >>= _) _ _ _
 unfold Builtin.SmallTypes.ownedTupleIsFree
 refine wpAny_bind (wpAny_bind (wpAny_field (x:=.none) hz rfl rfl (wpAny_pure ?_)))
 simp only [if_true]
 refine wpAny_bind (wpAny_rule (wpAny_bind (wpAny_field (x:=.ref tw) hz rfl rfl ?_)))
 refine wpAny_bind (wpAny_setField_rec hz (by simp) fun g1 z1 b1=>?_)
 have z1:IsZip g1 z ti tw .ellipsis:=z1
 refine wpAny_bind ?_
 simp only [List.zipIdx_cons,List.zipIdx_nil,List.forIn_cons,List.forIn_nil]
 refine wpAny_bind (wpAny_bind (wpAny_onRaise ?_))
 show wpAny _ _ (Builtin.SmallTypes.nextOf (.ref i1) >>= _) _ _ _
 refine wpAny_bind (D1.done { s with heap:=g1 } _ _ (D1.but t1 G.c1 b1) fun g2 e b2 he=>?_)
 obtain ⟨oe,eo,ec⟩:=he
 have z2:IsZip g2 z ti tw .ellipsis:=b2 _ _ G.a3.symm z1
 have nz:e≠z:=fun q=>by subst q;rw [z2] at eo;cases eo;simp at ec
 exact wpAny_setField_rec z2 (by simp) fun g3 _ b3=>hE g3 e (fun c o n1 _ n3 _ q=>(b3.2 c n1).trans (b2 c o n3 ((b1.2 c n1).trans q))) ⟨oe,(b3.2 e nz).trans eo,ec⟩
set_option maxHeartbeats 4000000 in
theorem Xi (t u:Addr) (xs ys:Array Value) (n m:Nat) (d1 d2:Option Addr) (q1 q2:Array (Option Value)) :
  Meets (Builtin.«zip.__new__» ⟨[.type "zip",.ref t,.ref u],[]⟩) (fun _ R s=>s.heap.get? t=some { cls:=.type "tuple",dict:=d1,data:=.seq xs n,slots:=q1 }∧s.heap.get? u=some { cls:=.type "tuple",dict:=d2,data:=.seq ys m,slots:=q2 } ∧
   R (.ok (.ret (.ref ((((s.heap.push { cls:=.type "tuple_iterator",data:=.fields #[.ref t,.int 0 0] }).push { cls:=.type "tuple_iterator",data:=.fields #[.ref u,.int 0 0] }).push { cls:=.type "tuple",data:=.seq #[.ref s.heap.objs.size,.ref (s.heap.push { cls:=.type "tuple_iterator",data:=.fields #[.ref t,.int 0 0] }).objs.size] }).push { cls:=.type "tuple",data:=.seq #[.none,.none] }).objs.size)))
    { s with heap:=((((s.heap.push { cls:=.type "tuple_iterator",data:=.fields #[.ref t,.int 0 0] }).push { cls:=.type "tuple_iterator",data:=.fields #[.ref u,.int 0 0] }).push { cls:=.type "tuple",data:=.seq #[.ref s.heap.objs.size,.ref (s.heap.push { cls:=.type "tuple_iterator",data:=.fields #[.ref t,.int 0 0] }).objs.size] }).push { cls:=.type "tuple",data:=.seq #[.none,.none] }).push { cls:=.type "zip",data:=.fields #[.none,.bool false,.bool false,.ref ((s.heap.push { cls:=.type "tuple_iterator",data:=.fields #[.ref t,.int 0 0] }).push { cls:=.type "tuple_iterator",data:=.fields #[.ref u,.int 0 0] }).objs.size,.ref (((s.heap.push { cls:=.type "tuple_iterator",data:=.fields #[.ref t,.int 0 0] }).push { cls:=.type "tuple_iterator",data:=.fields #[.ref u,.int 0 0] }).push { cls:=.type "tuple",data:=.seq #[.ref s.heap.objs.size,.ref (s.heap.push { cls:=.type "tuple_iterator",data:=.fields #[.ref t,.int 0 0] }).objs.size] }).objs.size] } }) :=
 .of_wp fun prog w A R s h=>by
  obtain ⟨hp,g,d,tk,os⟩:=s
  obtain ⟨h1,h2,h⟩:=h
  have hsub:=sub_zip
  have T1:Heap.IsTuple (Shared.heap ⟨hp,g,d,tk,os⟩) t xs:=⟨_,h1,rfl,n,rfl⟩
  have T2:Heap.IsTuple (Shared.heap ⟨hp.push { cls:=.type "tuple_iterator",data:=.fields #[.ref t,.int 0 0] },g,d,tk,os⟩) u ys:=⟨_,Heap.get?_push_of_some _ h2,rfl,m,rfl⟩
  wp_walk using wpAny_pyIter_tuple T1,wpAny_pyIter_tuple T2
  exact ⟨_,rfl,h⟩
end
end PySem
namespace PySem
section
variable {prog:Program} {w:World} {A:Around} {E:Value→Shared→Prop} {s:Shared}
theorem Ux {t u:Addr} {xs ys:Array Value} {Q:Value→Shared→Prop} (h1:s.heap.IsTuple t xs) (h2:s.heap.IsTuple u ys)
  (h:∀ h',IsZip h' (s.heap.objs.size+4) (s.heap.objs.size+2) (s.heap.objs.size+3) .none→IsPair h' (s.heap.objs.size+2) (.ref s.heap.objs.size) (.ref (s.heap.objs.size+1))→IsPair h' (s.heap.objs.size+3) .none .none →
   h'.IsTupleIter s.heap.objs.size t 0→h'.IsTupleIter (s.heap.objs.size+1) u 0→(∀ c o,s.heap.get? c=some o→h'.get? c=some o)→Q (.ref (s.heap.objs.size+4)) { s with heap:=h' }) :
  wpAny (model prog w) A (call (.type "zip") [.ref t,.ref u]) Q E s:=by
 obtain ⟨⟨c1,dd1,dt1,sl1⟩,hl1,hc1,n1,hd1⟩:=h1
 obtain ⟨⟨c2,dd2,dt2,sl2⟩,hl2,hc2,n2,hd2⟩:=h2
 have hc1:c1=.type "tuple":=hc1
 have hc2:c2=.type "tuple":=hc2
 have hd1:dt1=.seq xs n1:=hd1
 have hd2:dt2=.seq ys n2:=hd2
 subst hc1 hc2 hd1 hd2
 refine callType_new F.called_zip (by decide) (F.typeCall_zip_2 _ _) (F.newCall_zip_2 _ _) (fun obj=>F.args_object_init_3 obj _ _) F.entry_zip_new (Xi t u xs ys n1 n2 dd1 dd2 sl1 sl2) ⟨hl1,hl2,?_⟩
 generalize e1:s.heap.push { cls:=.type "tuple_iterator",data:=.fields #[.ref t,.int 0 0] }=g1
 have z1:g1.objs.size=s.heap.objs.size+1:=by rw [← e1,Heap.size_push]
 generalize e2:g1.push { cls:=.type "tuple_iterator",data:=.fields #[.ref u,.int 0 0] }=g2
 have z2:g2.objs.size=s.heap.objs.size+2:=by rw [← e2,Heap.size_push,z1]
 generalize e3:g2.push { cls:=.type "tuple",data:=.seq #[.ref s.heap.objs.size,.ref g1.objs.size] }=g3
 have z3:g3.objs.size=s.heap.objs.size+3:=by rw [← e3,Heap.size_push,z2]
 generalize e4:g3.push { cls:=.type "tuple",data:=.seq #[.none,.none] }=g4
 have z4:g4.objs.size=s.heap.objs.size+4:=by rw [← e4,Heap.size_push,z3]
 have k1:∀ c o,s.heap.get? c=some o→g1.get? c=some o:=fun c o q=>e1 ▸ Heap.get?_push_of_some _ q
 have k2:∀ c o,g1.get? c=some o→g2.get? c=some o:=fun c o q=>e2 ▸ Heap.get?_push_of_some _ q
 have k3:∀ c o,g2.get? c=some o→g3.get? c=some o:=fun c o q=>e3 ▸ Heap.get?_push_of_some _ q
 have k4:∀ c o,g3.get? c=some o→g4.get? c=some o:=fun c o q=>e4 ▸ Heap.get?_push_of_some _ q
 have y1:g1.get? s.heap.objs.size=some { cls:=.type "tuple_iterator",data:=.fields #[.ref t,.int 0 0] }:=e1 ▸ Heap.get?_push_size _ rfl
 have y2:g2.get? (s.heap.objs.size+1)=some { cls:=.type "tuple_iterator",data:=.fields #[.ref u,.int 0 0] }:=by rw [← z1,← e2];exact Heap.get?_push_size _ rfl
 have y3:g3.get? (s.heap.objs.size+2)=some { cls:=.type "tuple",data:=.seq #[.ref s.heap.objs.size,.ref (s.heap.objs.size+1)] }:=by rw [← z2,← z1,← e3];exact Heap.get?_push_size _ rfl
 have y4:g4.get? (s.heap.objs.size+3)=some { cls:=.type "tuple",data:=.seq #[.none,.none] }:=by rw [← z3,← e4];exact Heap.get?_push_size _ rfl
 show _∧_
 rw [z2,z3]
 have y5:(g4.push { cls:=.type "zip",data:=.fields #[.none,.bool false,.bool false,.ref (s.heap.objs.size+2),.ref (s.heap.objs.size+3)] }).get? (s.heap.objs.size+4)=some { cls:=.type "zip",data:=.fields #[.none,.bool false,.bool false,.ref (s.heap.objs.size+2),.ref (s.heap.objs.size+3)] }:=by rw [← z4];exact Heap.get?_push_size _ rfl
 have k5:∀ c o,g4.get? c=some o→(g4.push { cls:=.type "zip",data:=.fields #[.none,.bool false,.bool false,.ref (s.heap.objs.size+2),.ref (s.heap.objs.size+3)] }).get? c=some o:=fun c o q=>Heap.get?_push_of_some _ q
 rw [z4]
 exact ⟨⟨_,y5,rfl⟩,h _ y5 (k5 _ _ (k4 _ _ y3)) (k5 _ _ y4) ⟨_,k5 _ _ (k4 _ _ (k3 _ _ (k2 _ _ y1))),rfl,rfl⟩ ⟨_,k5 _ _ (k4 _ _ (k3 _ _ y2)),rfl,rfl⟩ fun c o q=>k5 _ _ (k4 _ _ (k3 _ _ (k2 _ _ (k1 _ _ q))))⟩
end
end PySem
namespace L2
open PySem PySem.Spec PyProof.Rows Hw
section
variable {X:Cx}
theorem Inv.JW {pins:List (Addr×Obj)} {σ:St} {H:Hp} {s:Shared} {h':Heap} {t':Nat} {ch:List Addr} (I:Inv X pins σ H s) (k:∀ c o,c ∉ ch→s.heap.get? c=some o→h'.get? c=some o) (f:∀ c∈ch,mz X pins H c):Inv X pins σ H { s with heap:=h',toks:=t' }:=by
 have nk:∀ c u,H c=some u→c ∉ ch:=fun c u e z=>by rw [(f c z).1] at e;cases e
 refine I.step (g':=s.gens) (d':=s.drawn) (ch:=ch) (fun c hc=>?_) (fun c o _ _ hc e _=>k c o hc e) (fun c o _ _ hc e _=>⟨o.slots,k c o hc e⟩) (fun _ _ _ _ n=>n)
  (fun c o hc e=>⟨o,k c o hc e⟩) (fun _ _ e=>e) (fun _ _ _ e=>e) (fun c ps e=>⟨#[],by rw [e];simp⟩) (fun m hm=>?_) (fun c u e=>?_) I.bare
 ·obtain ⟨_,a1,_,a3,a4,a5⟩:=f c hc
  exact ⟨a3,a1,a4,a5⟩
 ·obtain ⟨o,es,ep,ho,r⟩:=hm
  exact ⟨o,es,ep,k _ o (fun z=>(f _ z).2.1 rfl) ho,r⟩
 ·refine (I.hok c u e).stay (fun d v hd q=>k d v ?_ q) (fun _ q=>q) fun _ _ q=>q
  rcases hd with z | z
  ·rw [z];exact nk c u e
  ·exact nk d _ z
end
def Izp (K:PySem.W.Frag) (a b:Addr):It :=
 ⟨fun i H=>∃ xs ys x y,bG K H a xs∧bG K H b ys∧xs[i]?=some x∧ys[i]?=some y,fun i H v H'=>∃ t x y,H t=none∧v=.ref t∧(∀ xs,bG K H a xs→xs[i]?=some x)∧(∀ ys,bG K H b ys→ys[i]?=some y)∧H'=upd H t (.tup [x,y]),fun i H=>∃ xs,bG K H a xs∧xs.length=i⟩
theorem M3 {P:Program} {w:World} {K:PySem.W.Frag} {elts:List Expr} {x1:Nat} {pos:Pos} (a b z ti tw i1 i2:Addr) (G:Zap z ti tw i1 i2 [i1,a] [i2,b]) (n1:a≠i1) (n2:b≠i2) :
  Turn P w K (.Tuple elts x1 pos) (Izp K a b) [z,ti,tw,i1,i2] z (fun i h=>IsZip h z ti tw .none∧IsPair h ti (.ref i1) (.ref i2)∧(∃ u v,IsPair h tw u v)∧h.IsTupleIter i1 a i∧h.IsTupleIter i2 b i) where
 mem:=by simp
 obj:=fun i h st c hc=>by
  obtain ⟨h1,h2,⟨u,v,h3⟩,⟨o4,h4,_,d4⟩,⟨o5,h5,_,d5⟩⟩:=st
  simp only [List.mem_cons,List.not_mem_nil,or_false] at hc
  rcases hc with e | e | e | e | e <;> subst e
  ·exact ⟨_,h1,fun v q=>by have q':Data.fields _=Data.cell v:=q;cases q'⟩
  ·exact ⟨_,h2,fun v q=>by have q':Data.seq _ _=Data.cell v:=q;cases q'⟩
  ·exact ⟨_,h3,fun v q=>by have q':Data.seq _ _=Data.cell v:=q;cases q'⟩
  ·exact ⟨_,h4,fun v q=>by rw [d4] at q;cases q⟩
  ·exact ⟨_,h5,fun v q=>by rw [d5] at q;cases q⟩
 keep:=fun i h h' st q=>by
  obtain ⟨h1,h2,⟨u,v,h3⟩,⟨o4,h4,r4⟩,⟨o5,h5,r5⟩⟩:=st
  exact ⟨q z (by simp) _ h1,q ti (by simp) _ h2,⟨u,v,q tw (by simp) _ h3⟩,⟨o4,q i1 (by simp) _ h4,r4⟩,⟨o5,q i2 (by simp) _ h5,r5⟩⟩
 item:=by
  intro X hP hw hK hc i pins s σ H E I hf st hg
  subst hP hw hK
  obtain ⟨hz,ht,⟨u0,v0,ho⟩,j1,j2⟩:=st
  obtain ⟨xs,ys,x,y,qa,qb,hx,hy⟩:=hg
  obtain ⟨Bx,rv1,p1,_⟩:=I.tuple qa
  obtain ⟨its2,rv2,p2,_⟩:=I.tuple qb
  have hh:X.A.in1.handled=none:=I.ok.hd hc
  have D1:=wJ (prog:=X.prog) (w:=X.w) (B:=X.A.in1) hh i1 a n1 Bx.toArray
  have D2:=wJ (prog:=X.prog) (w:=X.w) (B:=X.A.in1) hh i2 b n2 its2.toArray
  obtain ⟨u1,hu1,ru1⟩:=rv1.get hx
  obtain ⟨u2,hu2,ru2⟩:=rv2.get hy
  have l1:i < Bx.toArray.size:=by simpa using (List.getElem?_eq_some_iff.mp hu1).1
  have l2:i < its2.toArray.size:=by simpa using (List.getElem?_eq_some_iff.mp hu2).1
  have hT:s.TypeIs (.ref z) "zip":=⟨_,hz,rfl⟩
  unfold pyNext
  refine wpAny_bind (wpAny_attempt (wpAny_callSpecial?_slot (name:=Str.ofString "__next__") hT F.slot_zip_next (wpAny_call_entry F.slot_zip_next hT F.entry_zip_next ?_ (F.args_zip_next_1 _))))
  refine RK D1 D2 G l1 l2 hz ht ho ⟨j1,p1⟩ ⟨j2,p2⟩ fun v1 v2 h1 tk e1 e2 z1 o1 t1 t2 nw kp=>wpAny_pure ?_
  have e1:v1=u1:=by
   have q:Bx[i]?=some v1:=by simpa using e1
   exact Option.some.inj (q.symm.trans hu1)
  have e2:v2=u2:=by
   have q:its2[i]?=some v2:=by simpa using e2
   exact Option.some.inj (q.symm.trans hu2)
  subst e1 e2
  refine ⟨_,rfl,wpAny_letOwnedTupleGo_zip z1 fun h2 z2 b2=>?_⟩
  have hn:H s.heap.objs.size=none:=I.hok.fresh (Nat.le_refl _)
  have lt:∀ {c:Addr},c∈[z,ti,tw,i1,i2]→s.heap.objs.size≠c:=fun {c} hc'=>by
   simp only [List.mem_cons,List.not_mem_nil,or_false] at hc'
   rcases hc' with e | e | e | e | e <;> subst e
   ·exact Nat.ne_of_gt (Heap.lt_size hz)
   ·exact Nat.ne_of_gt (Heap.lt_size ht)
   ·exact Nat.ne_of_gt (Heap.lt_size ho)
   ·obtain ⟨_,q,_⟩:=j1;exact Nat.ne_of_gt (Heap.lt_size q)
   ·obtain ⟨_,q,_⟩:=j2;exact Nat.ne_of_gt (Heap.lt_size q)
  have I1:Inv X pins σ (upd H s.heap.objs.size (.tup [x,y])) { s with heap:=s.heap.push { cls:=.type "tuple",data:=.seq #[v1,v2] },toks:=tk } :=
   I.laid (t':=tk) (o:=.tup [x,y]) (fun c o q=>Heap.get?_push_of_some _ q) (Nat.le_refl _) ⟨by show 2≤sizeLine;rw [sizeLine_eq];omega,[v1,v2],.cons ru1 (.cons ru2 .nil),_,Heap.get?_push_size _ rfl,rfl,_,rfl⟩
  have fp2:∀ c∈[z,ti,tw,i1,i2],mz X pins (upd H s.heap.objs.size (.tup [x,y])) c:=fun c hc'=>⟨by rw [aL (lt hc').symm];exact (hf c hc').1,(hf c hc').2⟩
  have I2:Inv X pins σ (upd H s.heap.objs.size (.tup [x,y])) { s with heap:=h2,toks:=tk } :=
   Inv.JW (s:={ s with heap:=s.heap.push { cls:=.type "tuple",data:=.seq #[v1,v2] },toks:=tk }) (t':=tk) (h':=h2) (ch:=[z,ti,tw,i1,i2]) I1 (fun c o hc' q=>by
    have m1:c≠z:=fun e=>hc' (by simp [e])
    have m2:c≠tw:=fun e=>hc' (by simp [e])
    have m3:c≠i1:=fun e=>hc' (by simp [e])
    have m4:c≠i2:=fun e=>hc' (by simp [e])
    refine (b2.2 c m1).trans ?_
    rcases Heap.get?_push_cases (show (s.heap.push { cls:=.type "tuple",data:=.seq #[v1,v2] }).get? c=some o from q) with ⟨e1,e2⟩ | e1
    ·rw [e1,e2];exact nw
    ·exact kp c o m1 m2 m3 m4 e1) fp2
  refine ⟨.ref s.heap.objs.size,_,I2,rfl,⟨_,x,y,hn,rfl,fun zs hz'=>by rw [I.pM hz' qa];exact hx,fun zs hz'=>by rw [I.pM hz' qb];exact hy,rfl⟩,⟨z2,(b2.2 _ G.a1).trans (kp _ _ G.a1 G.a5 G.a6 G.a7 ht),⟨_,_,(b2.2 _ G.a2).trans o1⟩,?_,?_⟩,fun c hc'=>(fp2 c hc').1⟩
  ·obtain ⟨o,q,r⟩:=t1.1;exact ⟨o,(b2.2 _ G.a3).trans q,r⟩
  ·obtain ⟨o,q,r⟩:=t2.1;exact ⟨o,(b2.2 _ G.a4).trans q,r⟩
 done:=by
  intro X hP hw hK hc i pins s σ H E I hf st hg
  subst hP hw hK
  obtain ⟨hz,ht,⟨u0,v0,ho⟩,j1,j2⟩:=st
  obtain ⟨xs,qa,hx⟩:=hg
  obtain ⟨Bx,rv1,p1,_⟩:=I.tuple qa
  have hh:X.A.in1.handled=none:=I.ok.hd hc
  have D1:=wJ (prog:=X.prog) (w:=X.w) (B:=X.A.in1) hh i1 a n1 Bx.toArray
  have el:Bx.toArray.size=i:=by have:=rv1.length;simp only [List.size_toArray];omega
  have hT:s.TypeIs (.ref z) "zip":=⟨_,hz,rfl⟩
  unfold pyNext
  refine wpAny_bind (wpAny_attempt (wpAny_callSpecial?_slot (name:=Str.ofString "__next__") hT F.slot_zip_next (wpAny_call_entry F.slot_zip_next hT F.entry_zip_next (Xj D1 G hz ht ⟨by rw [el];exact j1,p1⟩ fun h' e kp he=>?_) (F.args_zip_next_1 _))))
  obtain ⟨o,eo,ec⟩:=he
  refine wpAny_bind (wpAny_isInstance (T:="StopIteration") (b:=true) ⟨o,eo,ec⟩ isSubtype_stop (wpAny_pure ⟨rfl,?_⟩))
  exact Inv.JW (t':=s.toks) (ch:=[z,ti,tw,i1,i2]) I (fun c o hc' q=>kp c o (fun e=>hc' (by simp [e])) (fun e=>hc' (by simp [e])) (fun e=>hc' (by simp [e])) (fun e=>hc' (by simp [e])) q) hf
 self:=fun _ _ _ _ _ st h=>wpAny_pyIter_zip st.1 h
theorem MF {x y:Nat} (h:x≠y):(show Addr from x)≠(show Addr from y):=h
theorem niA {c e f:Nat} (h:c≠e) (g:c≠f):(show Addr from c) ∉ [(show Addr from e),(show Addr from f)]:=fun q=>by
 rcases List.mem_cons.mp q with q | q
 ·exact h q
 ·exact g (List.mem_singleton.mp q)
theorem Xk {n a b:Nat} (la:a < n) (lb:b < n):Zap (n+4) (n+2) (n+3) n (n+1) [n,a] [n+1,b]∧(show Addr from a)≠n∧(show Addr from b)≠n+1 :=
 ⟨⟨MF (by omega),MF (by omega),MF (by omega),MF (by omega),MF (by omega),MF (by omega),MF (by omega),MF (by omega),MF (by omega),MF (by omega),niA (by omega) (by omega),niA (by omega) (by omega),niA (by omega) (by omega),niA (by omega) (by omega),niA (by omega) (by omega),niA (by omega) (by omega)⟩,MF (by omega),MF (by omega)⟩
section
variable {X:Cx} {l m:Expr} {p pos:Pos}
def b8e (K:PySem.W.Frag) (tl:TA):TI:=fun σ H R=>tl σ H fun vs H1=>∃ a b,vs=[.ref a,.ref b]∧(∃ xs,bG K H1 a xs)∧(∃ ys,bG K H1 b ys)∧R (Izp K a b) H1
theorem Yq {elts:List Expr} {x1:Nat} {tpos:Pos} {ta:TA} (hg:Gl X "zip") (hm:X.mg "zip"=none) (hv:bootBuiltins "zip"=some (.type "zip")) (ha:PA X [l,m] ta) (hs:starEach [l,m] X.env=(false,eval l X.env)::starEach [m] X.env:=by rfl) (hs2:starEach [m] X.env=[(false,eval m X.env)]:=by rfl):PI X (.Tuple elts x1 tpos) (.Call (.Name "zip" p) [l,m] [] pos) (b8e X.K ta):=by
 intro pins s σ H R I h
 refine Call_ (xR I hg hm hv (PyProof.Rows.callWith_type1 (fG (ha pos pins s σ H _ I h) fun us s1 ⟨vs,H1,I1,r1,q1⟩=>?_) hs (by rw [hs2];rfl)))
 obtain ⟨a,b,rfl,⟨xs,qa⟩,⟨ys,qb⟩,q⟩:=q1
 obtain ⟨u1,u2,rfl,ru1,ru2⟩:=vals2 r1
 cases ru1
 cases ru2
 obtain ⟨Bx,rv1,p1,_⟩:=I1.tuple qa
 obtain ⟨its2,rv2,p2,_⟩:=I1.tuple qb
 have la:a < s1.heap.objs.size:=by obtain ⟨o,e,_⟩:=(show s1.heap.IsTuple a Bx.toArray from p1);exact Heap.lt_size e
 have lb:b < s1.heap.objs.size:=by obtain ⟨o,e,_⟩:=(show s1.heap.IsTuple b its2.toArray from p2);exact Heap.lt_size e
 refine Ux (show s1.heap.IsTuple a Bx.toArray from p1) (show s1.heap.IsTuple b its2.toArray from p2) fun h' e1 e2 e3 e4 e5 kp=>wpAny_pyIter_zip e1 ?_
 have fps:∀ c∈[s1.heap.objs.size+4,s1.heap.objs.size+2,s1.heap.objs.size+3,s1.heap.objs.size,s1.heap.objs.size+1],mz X pins H1 c:=fun c hc=>by
  have:s1.heap.objs.size≤c:=by
   simp only [List.mem_cons,List.not_mem_nil,or_false] at hc
   rcases hc with e | e | e | e | e <;> rw [e] <;> first | exact Nat.le_add_right _ _ | exact Nat.le_refl _
  exact I1.Jb this (I1.hok.fresh this)
 obtain ⟨G,m1,m2⟩:=Xk la lb
 exact ⟨_,_,_,_,H1,rfl,I1.kept (t':=s1.toks) kp,M3 a b _ _ _ _ _ G m1 m2,⟨e1,e2,⟨_,_,e3⟩,e4,e5⟩,fps,q⟩
end
theorem T7 {K:PySem.W.Frag} {a b:Addr} {xs ys:List V} {g:TG} {tb:TS} {D:Ends} {σ:St} {H:Hp} (he:xs.length=ys.length) (ha:H a=some (.tup xs)) (hb:H b=some (.tup ys)) (Pv:Nat→St→Hp→Prop) (h0:Pv 0 σ H) (hl:∀ i σ H',Pv i σ H'→∀ c zs,H c=some (.tup zs)→H' c=some (.tup zs))
  (hs:∀ i x y t σ H',xs[i]?=some x→ys[i]?=some y→H' t=none→Pv i σ H'→g (.ref t) σ (upd H' t (.tup [x,y])) fun σ2 H2=>tb { D with nx:=Pv (i+1),ct:=Pv (i+1),bk:=D.nx } σ2 H2) (hd:∀ σ H',Pv xs.length σ H'→D.nx σ H') :
  (∃ xs,bG K H a xs)∧(∃ ys,bG K H b ys)∧UW (Izp K a b) g tb D σ H:=by
 refine ⟨⟨xs,bG.of ha⟩,⟨ys,bG.of hb⟩,fun i m σ H=>m=xs.length - i∧i≤xs.length∧Pv i σ H,⟨xs.length,by simp,Nat.zero_le _,h0⟩,?_⟩
 rintro i m σ H1 ⟨rfl,hi,p⟩
 have qa:bG K H1 a xs:=bG.of (hl i σ H1 p _ _ ha)
 have qb:bG K H1 b ys:=bG.of (hl i σ H1 p _ _ hb)
 by_cases hlt:i < xs.length
 ·refine .inr ⟨⟨xs,ys,xs[i],ys[i],qa,qb,by simp [hlt],by simp⟩,Pv (i+1),fun σ' H' p'=>⟨xs.length - (i+1),by omega,rfl,hlt,p'⟩,fun v H' y=>?_⟩
  obtain ⟨t,x,y,ht,ex,hx,hy,eH⟩:=y
  subst ex eH
  exact hs i x y t σ H1 (hx xs qa) (hy ys qb) ht p
 ·have e:i=xs.length:=by omega
  subst e
  exact .inl ⟨⟨xs,qa,rfl⟩,hd σ H1 p⟩
end L2
namespace L2
open PySem PySem.Spec PyProof.Rows Hw
theorem SG {X:Cx} {e:Expr}:PE X e (fun _ _ _=>False):=by
 intro pins s σ H Q I h
 exact h.elim
end L2
namespace Hw
open PySem L2
theorem KZ {N:List Str} {s:aI} {b:List aI} (o:s.iO N) (h:b∈EC s):dZ N b∧gn b < s.dep∧(dR b).length≤s.wi.length:=by
 cases s with
 | flat=>exact absurd h List.not_mem_nil
 | kO a c t e =>
  unfold aI.iO at o
  obtain ⟨_,o1,o2,o5,o6⟩:=o
  have h:b∈[t,e]:=h
  simp only [List.mem_cons,List.not_mem_nil,or_false] at h
  have hd:(aI.kO a c t e).dep=max (gn t) (gn e)+1:=by unfold aI.dep;rfl
  have hw:(aI.kO a c t e).wi.length=1+((dR t).length+(dR e).length):=by unfold aI.wi;simp;omega
  rcases h with h | h
  ·subst h;exact ⟨o5,by omega,by omega⟩
  ·subst h;exact ⟨o6,by omega,by omega⟩
 | rep a c hs f b0 =>
  unfold aI.iO at o
  obtain ⟨_,_,_,o1,o3⟩:=o
  have h:b∈[b0]:=h
  have h:=List.mem_singleton.mp h
  subst h
  have hd:(aI.rep a c hs f b).dep=gn b+1:=by unfold aI.dep;rfl
  have hw:(aI.rep a c hs f b).wi.length=1+(dR b).length:=by unfold aI.wi;simp;omega
  exact ⟨o3,by omega,by omega⟩
theorem UA {s:aI} {b:List aI} (h:s.big=false) (m:b∈EC s):p7 b=false:=by
 cases s with
 | flat=>exact absurd m List.not_mem_nil
 | kO a c t e =>
  have mb:b∈[t,e]:=m
  simp only [List.mem_cons,List.not_mem_nil,or_false] at mb
  unfold aI.big at h
  obtain ⟨h1,h2⟩:=Bool.or_eq_false_iff.mp h
  unfold p7
  rcases mb with rfl | rfl
  ·exact h1
  ·exact h2
 | rep a c hs f b0 =>
  have mb:=List.mem_singleton.mp (show b∈[b0] from m)
  subst mb
  unfold aI.big at h
  unfold p7
  exact h
theorem KH {K:PySem.W.Frag} {a:Addr} {us:List V} {g:TG} {tb:TS} {D:Ends} {σ:St} {H:Hp} (h:UM H a us) (Pv:Nat→St→Hp→Prop) (h0:Pv 0 σ H) (hS:∀ i σ H',Pv i σ H'→∀ o,H a=some o→H' a=some o)
  (hs:∀ i x σ H',us[i]?=some x→Pv i σ H'→g x σ H' fun σ2 H2=>tb { D with nx:=Pv (i+1),ct:=Pv (i+1),bk:=D.nx } σ2 H2) (hd:∀ σ H',Pv us.length σ H'→D.nx σ H') :
  ((∃ xs,bH K H a xs)∧UX (RJ K a) g tb D σ H)∨((∃ xs,bG K H a xs)∧UX (Rm K a) g tb D σ H):=by
 rcases h with e | e
 ·exact .inr ⟨⟨us,bG.of e⟩,jQ (xs:=us) Pv h0 (fun i σ H' _ p=>bG.of (hS i σ H' p _ e)) hs hd⟩
 ·exact .inl ⟨⟨us,bH.of e⟩,fJ (xs:=us) Pv h0 (fun i σ H' _ p=>bH.of (hS i σ H' p _ e)) hs hd⟩
end Hw
namespace Hw
open PySem L2
theorem Eh (l:List Str) {k:Nat} (h:(yS l).length≤k):(oz l).length≤2*k:=by
 have:∀ m:List Str,((m.map bf).flatten).length≤2*m.length:=fun m=>by
  induction m with
  | nil=>exact Nat.le_refl _
  | cons a r ih=>rw [List.map_cons,List.flatten_cons,List.length_append,List.length_cons];have:=ju a;omega
 have:=this (yS l)
 unfold oz
 omega
theorem J1 {N:List Str} {l:List Str} (h:∀ x∈l,x∈N):(yS l).length≤N.length:=by
 unfold yS
 split
 ·rename_i ex
  refine ku ?_ fun x hx=>h x ((ex.choose_spec.2 x).mp hx)
  refine ex.choose_spec.1.imp fun {a b} hab e=>?_
  subst e
  rw [qU] at hab
  cases hab
 ·exact Nat.zero_le _
theorem Le {N:List Str}:∀ {k:Nat} {as:List Ar},Kl N k as→(M6 k as).length≤8
 | 0,_,_=>(by decide:1≤8)
 | 1,_,_=>(by decide:5≤8)
 | 2,_,_=>(by decide:2≤8)
 | 3,_,_=>(by decide:1≤8)
 | 4,_,_=>(by decide:2≤8)
 | 5,_,⟨c,e,_⟩=>by subst e;exact (by decide:1≤8)
 | 6,_,⟨l,x,q,e,hc,_,_⟩=>by
  subst e
  show (List.replicate (1+l.length) Rx.jK).length≤8
  rw [List.length_replicate]
  rcases hc with ⟨_,z⟩ | ⟨_,z⟩ | ⟨_,z⟩ <;> omega
mutual
theorem KC {N:List Str} (B:vJ N):∀ {s:aI},s.iO N→∀ p,∀ q∈(s.go p).2,q.length≤p.length+s.gw
 | .flat k a as,o,p,q,hq=>by
  unfold aI.iO at o
  unfold aI.go at hq
  unfold aI.gw
  rw [List.mem_singleton.mp hq,List.length_append]
  have:=Le o
  omega
 | .kO a c t e,o,p,q,hq=>by
  unfold aI.iO at o
  unfold aI.go at hq
  unfold aI.gw
  rcases List.mem_append.mp hq with h | h
  ·have:=x8 B o.2.2.2.1 [p++[.hold c]] (p.length+1) (fun x hx=>by rw [List.mem_singleton.mp hx,List.length_append];exact Nat.le_refl _) q h
   omega
  ·have:=x8 B o.2.2.2.2 [p++[.hold (CT c)]] (p.length+1) (fun x hx=>by rw [List.mem_singleton.mp hx,List.length_append];exact Nat.le_refl _) q h
   omega
 | .rep a c hs f b,o,p,q,hq=>by
  unfold aI.iO at o
  unfold aI.go at hq
  unfold aI.gw
  rw [List.mem_singleton.mp hq,List.length_append,List.length_append]
  have:=Eh (iN b) (J1 (Ae o.2.2.2.2))
  have:=B.l
  show p.length+(oz (iN b)).length+1≤_
  omega
theorem x8 {N:List Str} (B:vJ N):∀ {l:List aI},dZ N l→∀ (ps:List (List Rx)) (m:Nat),(∀ x∈ps,x.length≤m)→∀ q∈(lU l ps).2,q.length≤m+lE l
 | [],_,ps,m,h,q,hq=>by
  rw [jr] at hq
  exact Nat.le_trans (h q hq) (Nat.le_add_right _ _)
 | s::r,o,ps,m,h,q,hq=>by
  unfold dZ at o
  rw [iG] at hq
  have:=x8 B o.2 (ps.map fun p=>(s.go p).2).flatten (m+s.gw) (fun x hx=>by
   obtain ⟨y,hy1,hy2⟩:=List.mem_flatten.mp hx
   obtain ⟨p0,hp0,rfl⟩:=List.mem_map.mp hy1
   have:=h p0 hp0
   have:=KC B o.1 p0 x hy2
   omega) q hq
  show q.length≤m+(s.gw+lE r)
  omega
end
end Hw
namespace Hw
open PySem L2
theorem UM.but {H H':Hp} {a p:Addr} {us:List V} (h:UM H a us) (b:aR p H H') (n:a≠p):UM H' a us:=h.elim (fun z=>.inl (b _ _ z n)) fun z=>.inr (b _ _ z n)
end Hw
namespace L2
open PySem PySem.Spec PyProof.Rows Hw
theorem pH {X:Cx}:ia X (.type "tuple") (fun xs H Q=>∃ p ys,xs=[.ref p]∧UM H p ys∧∀ (t:Addr) (H':Hp),aK H H'→H' t=some (.tup ys)→Q (.ref t) H'):=by
 intro pins s σ H xs us Q I r h
 obtain ⟨p,ys,rfl,hs,k⟩:=h
 refine aW pins s σ H _ us Q I r ⟨p,ys,rfl,?_⟩
 rcases hs with e | e
 ·exact .inr ⟨bG.of e,k p H (aK.refl _) e⟩
 ·exact .inl ⟨bH.of e,fun t ht=>k t _ (new ht) af⟩
end L2
namespace Hw
open PySem L2
theorem CM {kvs:List (Key×V)} {k:Key} {v:V} {n:Nat} (h:kvs.length≤n):(putK kvs k v).length≤n+1:=by
 unfold putK
 split
 ·rw [List.length_map];omega
 ·rw [List.length_append];show kvs.length+1≤n+1;omega
end Hw
namespace Hw
open PySem L2
theorem a1U {N:List Str} {s:aI} (od:s.iO N) (h6:¬ kd s=6) (h8:¬ kd s=8):s.ME=!(decide (kd s=0) || decide (kd s=7)):=by
 cases s with
 | flat kk a as =>
  unfold aI.iO at od
  have h6:¬ kk=6:=h6
  match kk,od with
  | 0,_=>rfl
  | 1,_=>rfl
  | 2,_=>rfl
  | 3,_=>rfl
  | 4,_=>rfl
  | 5,_=>rfl
  | 6,_=>exact absurd rfl h6
 | kO=>rfl
 | rep=>exact absurd rfl h8
def zp (H:Hp) (d:Addr) (n:Nat):Prop:=∃ a:Int,H d=some (.lst [.int a,.int n])
theorem zp.same {H H':Hp} {d:Addr} {n:Nat} (h:zp H d n) (s:aK H H'):zp H' d n:=let ⟨a,e⟩:=h;⟨a,s _ _ e⟩
theorem zp.soft {H H':Hp} {d:Addr} {n:Nat} (h:zp H d n) (b:aR d H H'):aD H H':=let ⟨a,e⟩:=h;aD.soft b e eV
theorem zp.ne {H:Hp} {d l:Addr} {n:Nat} (h:zp H d n) (g:H l=none):l≠d:=let ⟨_,e⟩:=h;(aq e g).symm
theorem jP {H G:Hp} {d x:Addr} {n:Nat} (b:aR d H G) (dr:zp G d n) (h:G x=none):H x=none:=by
 cases e:H x with
 | none=>rfl
 | some o=>rw [b _ _ e (dr.ne h)] at h;cases h
def wg:Sp:=fun vs H Q _=>∃ (d:Addr) (m:Int) (n:Nat),vs=[.ref d,.int m]∧zp H d n∧0 < m∧∀ (r:Nat) (H':Hp),(r:Int) < m→aR d H H'→zp H' d (n+1)→Q (.int r) H'
def US (x:Str):Prop:=(∃ c r,x.cps.toList=c::r∧97≤c)∧x.length≤20
def CA:Sp:=fun vs H Q _=>∃ (d:Addr) (n:Nat),vs=[.ref d,.int 8]∧zp H d n∧∀ (r:Addr) (ns:List Str) (n':Nat) (H':Hp),aR d H H'→zp H' d n'→n'≤n+8→H r=none→H' r=some (.lst (ns.map V.str))→ns.length=8→(∀ x∈ns,US x)→Q (.ref r) H'
def baseOf (ns:List Str):List Str:=ns.take 6++(ns.drop 6).map fun x=>("#":Str)++x
structure yx (ns:List Str):Prop where
 l:ns.length=8
 w:∀ x∈ns,US x
theorem baseOk {ns:List Str} (h:yx ns):vJ (baseOf ns):=by
 refine ⟨by unfold baseOf;rw [List.length_append,List.length_map,List.length_take,List.length_drop,h.l];decide,fun x hx=>?_⟩
 unfold baseOf at hx
 rcases List.mem_append.mp hx with m | m
 ·have:=(h.w x (List.mem_of_mem_take m)).2;omega
 ·obtain ⟨y,hy,rfl⟩:=List.mem_map.mp m
  have:=(h.w y (List.mem_of_mem_drop hy)).2
  rw [lP]
  have:("#":Str).length=1:=by decide +kernel
  omega
theorem qk {x:Str} {c:Nat} {r:List Nat} (e:x.cps.toList=c::r):Txt.startswith x "#"=decide (c=35):=by
 have hc:x.cps=(c::r).toArray:=by rw [← e]
 have hl:("#":Str).length=1:=by decide +kernel
 have hp:("#":Str).cps=#[35]:=by decide +kernel
 unfold PySem.Txt.startswith Builtin.Str.subAt
 rw [hl,hp]
 unfold Str.length
 rw [hc]
 simp
 by_cases h:c=35 <;> simp [h]
theorem pT {ns:List Str} (h:yx ns) {x:Str} {i:Nat} (m:ns[i]?=some x) (hi:i < 6):RI (baseOf ns) x:=by
 refine ⟨List.mem_append_left _ (List.mem_of_getElem? (by rw [List.getElem?_take,if_pos hi];exact m)),?_⟩
 obtain ⟨⟨c,r,e,hc⟩,_⟩:=h.w x (List.mem_of_getElem? m)
 rw [qk e]
 exact decide_eq_false (by omega)
theorem wF {ns:List Str} (h:yx ns) {x:Str} {i:Nat} (m:ns[i]?=some x) (hi:6≤i):Rwn (baseOf ns) x:=by
 refine ⟨List.mem_append_right _ (List.mem_map.mpr ⟨x,List.mem_of_getElem? (i:=i - 6) (by rw [List.getElem?_drop,show 6+(i - 6)=i by omega];exact m),rfl⟩),?_⟩
 have:=(h.w x (List.mem_of_getElem? m)).2
 omega
def lW (x:Str):Cd:=.cmp [(x,1)] 0 "<" [] 3
theorem tK {N:List Str} {x:Str} (h:x∈N):MM N (lW x):=⟨_,_,_,_,_,rfl,⟨(by decide:1≤3),fun t ht=>by rw [List.mem_singleton.mp ht];exact h⟩,⟨(by decide:0≤3),fun t ht=>absurd ht List.not_mem_nil⟩,by decide +kernel⟩
def Ji:Nat→Nat
 | 0=>1 | 1=>3 | _=>9
def KD:Nat→Nat
 | 0=>8 | 1=>56 | _=>152
def EA:Nat→Nat
 | 0=>1 | 1=>4 | _=>9
def Mh:Nat→Nat
 | 0=>5 | 1=>21 | _=>53
def yX:Nat→Nat
 | 0=>1 | _=>2
structure n8 (d:Nat) (m:Nat) (s:aI):Prop where
 np:s.np≤yX d
 dn:s.dn≤Ji d
 g:s.gw≤KD d
 w:s.wi.length≤EA d
 e:s.dep≤d+1
 b:s.big=false
 a:∀ u∈s.wi,0≤u.pl∧u.pl≤m
def Am (Y:Cy):Sp:=fun vs H Q _=>∃ x:Str,vs=[.str x]∧∀ (p:Addr) (H':Hp),aK H H'→bg Y.z H' (lW x) (.ref p)→Q (.ref p) H'
def w4 (Y:Cy) (k:Nat):Sp:=fun vs H Q _=>∃ (d l:Addr) (n deep:Nat) (ns:List Str),vs=[.ref d,.ref l,.int deep]∧deep < k∧k≤3∧zp H d n∧H l=some (.lst (ns.map V.str))∧yx ns ∧
 ∀ (r p wl:Addr) (s:aI) (n':Nat) (H':Hp),aR d H H'→zp H' d n'→(n≤n'∧n'≤n+Mh deep)→H' r=some (.tup [.ref p,.ref wl])→bO Y H' s (.ref p)→H' wl=some (.lst ((s.wi.map Af).flatten.map V.str))→H wl=none→s.iO (baseOf ns)→n8 deep n' s→Q (.ref r) H'
def jU (Y:Cy) (k:Nat):Sp:=fun vs H Q _=>∃ (d l:Addr) (n deep m:Nat) (ns:List Str),vs=[.ref d,.ref l,.int m,.int deep]∧deep < k∧k≤3∧m≤3∧zp H d n∧H l=some (.lst (ns.map V.str))∧yx ns ∧
 ∀ (r p wl:Addr) (us:List V) (ss:List aI) (n':Nat) (H':Hp),aR d H H'→zp H' d n'→(n≤n'∧n'≤n+m*Mh deep)→H' r=some (.tup [.ref p,.ref wl])→H' p=some (.lst us)→H p=none→bE Y H' ss us→H' wl=some (.lst ((iN ss).map V.str))→H wl=none→ss.length=m→dZ (baseOf ns) ss→(∀ s∈ss,n8 deep n' s)→Q (.ref r) H'
def HR (Y:Cy):Sp:=fun vs H Q _=>∃ (p dx l1 l2 tc td l5:Addr) (a:Int) (x:Str) (ps an:List Str) (ws:List V),vs=[.ref p,.int a,.str x,.ref l1,.ref l2,.ref tc,.ref td,.ref l5]∧H p=some (.ins Y.hp dx [])∧UM H l1 (ps.map V.str)∧UM H l2 (an.map V.str)∧H tc=some (.tup [])∧H td=some (.tup [])∧H l5=some (.lst ws) ∧
 ∀ (t1 t2 t3 t4 t5:Addr) (H':Hp),aR p H H'→H' p=some (.ins Y.hp dx (flH ⟨a,x,ps,an,[],[],[]⟩ t1 t2 (.ref t3) (.ref t4) t5))→H' t1=some (.tup (ps.map V.str))→H' t2=some (.tup (an.map V.str))→H' t3=some (.tup [])→H' t4=some (.tup [])→H' t5=some (.tup ws)→Q .fP H'
def zD (Y:Cy):Sp:=fun vs H Q _=>∃ (x:Str) (k:Nat),vs=[.str x,.int k]∧k≤2∧∀ (p:Addr) (an:List Str) (H':Hp),aK H H'→an.length=k→zj Y H' ⟨0,x,["xa"],an,[],[],[]⟩ (.ref p)→Q (.ref p) H'
inductive Tl where
 | any (x:Str)
 | hold (c:Cd)
def p8 (H:Hp) (v:V):Tl→Prop
 | .any x=>∃ r,v=.ref r∧H r=some (.tup [.str "any",.str x])
 | .hold c=>∃ r w,v=.ref r∧H r=some (.tup [.str "hold",w])∧fE H c w
theorem p8.aE {H H':Hp} (k:aD H H') {v:V}:∀ {r:Tl},p8 H v r→p8 H' v r
 | .any _,⟨r,e,q⟩=>⟨r,e,k.t _ _ q⟩
 | .hold _,⟨r,w,e,q,c⟩=>⟨r,w,e,k.t _ _ q,c.aE k⟩
def v9:List Rx→List Tl
 | []=>[]
 | .any x::r=>.any x::v9 r
 | .hold c::r=>.hold c::v9 r
 | _::r=>v9 r
def gR (x:Str):List Tl:=if Txt.startswith x "#"=true then [.any x,.hold (geZ x)] else [.any x]
def zC:Sp:=fun vs H Q _=>∃ (l m:Addr) (xs ys:List Str),vs=[.ref l,.ref m]∧H l=some (.lst (xs.map V.str))∧H m=some (.lst (ys.map V.str))∧xs.length+ys.length≤100∧(∀ x∈xs++ys,∃ c r,x.cps.toList=c::r)∧(∀ x∈xs++ys,x.length≤sizeLine)∧∀ (R:Addr) (us:List V) (H':Hp),aK H H'→H R=none→H' R=some (.lst us)→Paired (p8 H') us (((xs++ys).map gR).flatten)→Q (.ref R) H'
end Hw
namespace Hw
open PySem L2
def zv (x:Str):Prop:=∀ c∈cp x,97≤c
theorem yw {x y:Str} (h:zv x) (g:zv y):zv (x++y):=fun c hc=>by
 unfold cp at hc
 rw [tR] at hc
 rcases List.mem_append.mp hc with q | q
 ·exact h c q
 ·exact g c q
theorem Ej {c:Nat} (h:97≤c):zv (Ra c):=fun d hd=>by
 have:d∈[c]:=hd
 rw [List.mem_singleton.mp this];exact h
theorem Mw {ss:List Str} (h:∀ x∈ss,Chr x):zv (Txt.join (Str.ofString "") ss):=fun c hc=>by
 rw [Js] at hc
 obtain ⟨l,hl,hc⟩:=List.mem_flatten.mp hc
 obtain ⟨x,hx,rfl⟩:=List.mem_map.mp hl
 obtain ⟨d,rfl,hd⟩:=h x hx
 exact Ej hd c hc
theorem UH {x:Str} {j:Nat} (h:j≤x.length) (a:zv x):zv (Txt.slice x none (some (j:Int))):=fun c hc=>by
 have:=StrLaws.sliceText_to (x:=x) (j:=(j:Int)) ⟨by omega,by rw [Jt] at h;have h:j≤x.cps.toList.length:=h;omega⟩
 have e:Txt.slice x none (some (j:Int))=StrLaws.sliceText x none (some (j:Int)):=rfl
 rw [e,this] at hc
 refine a c ?_
 unfold cp at hc ⊢
 simp only [] at hc
 exact List.mem_of_mem_drop (List.mem_of_mem_take hc)
theorem Mx {x:Str} {j:Nat} (h:j≤x.length) (a:zv x):zv (Txt.slice x (some (j:Int)) none):=fun c hc=>by
 have:=StrLaws.sliceText_from (x:=x) (i:=(j:Int)) ⟨by omega,by rw [Jt] at h;have h:j≤x.cps.toList.length:=h;omega⟩
 have e:Txt.slice x (some (j:Int)) none=StrLaws.sliceText x (some (j:Int)) none:=rfl
 rw [e,this] at hc
 refine a c ?_
 unfold cp at hc ⊢
 simp only [] at hc
 exact List.mem_of_mem_drop (List.mem_of_mem_take hc)
theorem TH {x:Str} (a:zv x) (h1:1≤x.length) (h2:x.length≤20):US x:=by
 refine ⟨?_,h2⟩
 rw [Jt] at h1
 cases e:cp x with
 | nil=>rw [e] at h1;exact absurd h1 (by decide)
 | cons c r=>exact ⟨c,r,e,a c (by rw [e];exact List.mem_cons_self ..)⟩
end Hw
namespace Hw
open PySem L2
theorem canon_one (x:Str) {w:Int} (h:w≠0):Canon [(x,w)]:=⟨List.pairwise_singleton ..,fun p hp=>by rw [List.mem_singleton.mp hp];exact h⟩
end Hw
namespace Hw
open PySem L2
theorem ud (m:List Str):((m.map gR).flatten).length≤2*m.length:=by
 induction m with
 | nil=>exact Nat.le_refl _
 | cons a r ih =>
  rw [List.map_cons,List.flatten_cons,List.length_append,List.length_cons]
  have:(gR a).length≤2:=by unfold gR;split <;> simp
  omega
end Hw
namespace L2
open PySem PySem.Spec PyProof.Rows Hw
theorem ck.dY {P:Program} {w:World} {K:PySem.W.Frag} {mg:Str→Option Value} {base:Heap} {x qual:Str} {st:Stmt} {f:Addr} {fd:FuncData} {N ps:List Str} {k:Nat} {sp:Sp} (F:ck K x qual st f fd) (S:az N ps (ai st)) (h:∀ vs H Q E,sp vs H Q E→vs.length=ps.length∧∀ (cdv:Value) (A:Around) (outer:List Env) (s:Shared),gk k (A.deeper (envOfC qual (ai st) s.heap.objs.size f cdv)) →
   ∃ t,EE (jR bP P w K mg base N qual (ai st) f cdv A outer s H E).yN (aj st) t∧t { nx:=fun _ H'=>Q .fP H',rt:=Q } (start N vs) H):aM P w K mg base bP (k+1) f fd ps sp :=
 F.ok S (fun vs H Q E q=>(h vs H Q E q).1) fun cdv A outer s H vs Q E hr q=>(h vs H Q E q).2 cdv A outer s hr
abbrev Aj (X:Cx) (l:List Stmt):TS:=fun D σ H=>∃ t,EE X l t∧t D σ H
theorem fT {X:Cx} {l:List Stmt}:EE X l (Aj X l):=fun pins s σ H D I ⟨_,h,q⟩=>h pins s σ H D I q
theorem gH {t u:TS} {D:Ends} {σ:St} {H:Hp} (h:∀ N:St→Hp→Prop,(∀ σ' H',u D σ' H'→N σ' H')→t { D with nx:=N } σ H):a1q t u D σ H:=h (u D) fun _ _ z=>z
theorem pV {P:Program} {w:World} {K:PySem.W.Frag} {mg:Str→Option Value} {base:Heap} {k:Nat} {x:Str} {f:Addr} {fd:FuncData} {ps:List Str} {sp:Sp} (a:aM P w K mg base bP k f fd ps sp) (b:mg x=some (.ref f)) (c:PySem.W.keepIn K (.ref f)=true) (d:Binds K fd ps []):Dn P w K mg base k x ps sp:=⟨f,fd,a,b,c,d⟩
theorem mT {P:Program} {w:World} {K:PySem.W.Frag} {mg:Str→Option Value} {base:Heap} {k:Nat} {m:Str} {C f:Addr} {fd:FuncData} {ps:List Str} {sp:Sp} (a:aM P w K mg base bP k f fd ps sp) (b:PySem.W.findIn K (.ref C) m=some (some (.ref f))) (e:PySem.W.isFn K (.ref f)=true) (c:PySem.W.keepIn K (.ref f)=true) (d:Binds K fd ps []):Mt P w K mg base k C m ps sp:=⟨f,fd,a,⟨b,e,c⟩,d⟩
theorem EB {P:Program} {w:World} {K:PySem.W.Frag} {mg:Str→Option Value} {base:Heap} {k:Nat} {C f:Addr} {fd:FuncData} {ps:List Str} {sp:Sp} (a:aM P w K mg base bP k f fd ps sp) (m:PySem.W.makesIn K C=true) (b:PySem.W.findIn K (.ref C) "__init__"=some (some (.ref f))) (e:PySem.W.isFn K (.ref f)=true) (c:PySem.W.keepIn K (.ref C)=true) (d:Binds K fd ps []):Mr P w K mg base k C ps sp:=⟨f,fd,a,⟨m,b,e,c⟩,d⟩
theorem mc {P:Str→Prop} {a:Str} {l:List Str} (h:P a) (k:∀ x∈l,P x):∀ x∈a::l,P x:=fun x hx=>by
 rcases List.mem_cons.mp hx with e | e
 ·rw [e];exact h
 ·exact k x e
theorem mn {P:Str→Prop}:∀ x∈([]:List Str),P x:=fun _ h=>absurd h List.not_mem_nil
end L2
namespace Hw
open PySem L2
theorem cV {α:Type} {A Q:α→Prop} {v:α} (h:A v) (q:Q v):∃ v,A v∧Q v:=⟨v,h,q⟩
theorem cF {K:PySem.W.Frag} {f:Str} {a C dx:Addr} {fs:List (Str×V)} {v:V} {H:Hp} {Q:V→Prop} (e:H a=some (.ins C dx fs)) (c:wL K C) (n:cu K C f) (l:fs.lookup f=some v) (q:Q v) :
  ∃ a' C' MJ fs' v',V.ref a=.ref a'∧H a'=some (.ins C' MJ fs')∧wL K C'∧cu K C' f∧fs'.lookup f=some v'∧Q v':=⟨a,C,dx,fs,v,rfl,e,c,n,l,q⟩
theorem cI {K:PySem.W.Frag} {H:Hp} {r:Addr} {xs:List V} {i:Int} {v:V} {Q:V→Prop} (e:bG K H r xs) (h:ED xs i=some v) (q:Q v) :
  ∃ p xs' i' v',V.ref r=.ref p∧V.int i=.int i'∧bG K H p xs'∧ED xs' i'=some v'∧Q v':=⟨r,xs,i,v,rfl,rfl,e,h,q⟩
theorem cL {K:PySem.W.Frag} {H:Hp} {r:Addr} {xs:List V} {i:Int} {v:V} {Q:V→Prop} (e:bH K H r xs) (h:ED xs i=some v) (q:Q v) :
  ∃ p xs' i' v',V.ref r=.ref p∧V.int i=.int i'∧bH K H p xs'∧ED xs' i'=some v'∧Q v':=⟨r,xs,i,v,rfl,rfl,e,h,q⟩
end Hw
namespace Hw
open PySem L2
theorem yv {ns:List Str} (h:yx ns) {j:Nat} (hj:j < 8):∃ x,ns[j]?=some x∧ED (ns.map V.str) (j:Int)=some (.str x):=by
 have hl:j < ns.length:=by rw [h.l];exact hj
 exact ⟨ns[j],List.getElem?_eq_getElem hl,tQ (by rw [List.getElem?_map,List.getElem?_eq_getElem hl];rfl)⟩
theorem n8.mono {d m m':Nat} {s:aI} (h:n8 d m s) (l:m≤m'):n8 d m' s:=⟨h.np,h.dn,h.g,h.w,h.e,h.b,fun u hu=>⟨(h.a u hu).1,by have:=(h.a u hu).2;omega⟩⟩
theorem CP (d:Nat):1≤yX d:=by unfold yX;split <;> decide
theorem a3r (d:Nat):1≤Ji d:=by unfold Ji;split <;> decide
theorem a2J (d:Nat):8≤KD d:=by unfold KD;split <;> decide
theorem a1f (d:Nat):1≤EA d:=by unfold EA;split <;> decide
theorem kH (d m:Nat) {k:Nat} {a:Nat} {as:List Ar} (h:a≤m):n8 d m (.flat k a as):=by
 refine ⟨by unfold aI.np;exact CP d,?_,by unfold aI.gw;exact a2J d,by unfold aI.wi;exact a1f d,by unfold aI.dep;omega,by unfold aI.big;rfl,fun u hu=>?_⟩
 ·unfold aI.dn
  have:=a3r d
  split <;> omega
 ·unfold aI.wi at hu
  rw [List.mem_singleton.mp hu]
  show 0≤(a:Int)∧(a:Int)≤m
  omega
structure zh (m np dn g w e:Nat) (l:List aI):Prop where
 np:dM l≤np
 dn:∀ k,lO l k≤k*dn
 g:lE l≤g
 w:(dR l).length≤w
 e:gn l≤e
 b:anyB l=false
 a:∀ u∈dR l,0≤u.pl∧u.pl≤m
theorem sQ (m e:Nat):zh m 1 0 0 0 e []:=⟨by unfold dM;exact Nat.le_refl _,fun k=>by unfold lO;exact Nat.zero_le _,by unfold lE;exact Nat.le_refl _,by unfold dR;exact Nat.le_refl _,by unfold gn;exact Nat.zero_le _,by unfold anyB;rfl,fun u hu=>by unfold dR at hu;exact absurd hu List.not_mem_nil⟩
theorem uN {d m np dn g w e:Nat} {s:aI} {l:List aI} (h:n8 d m s) (q:zh m np dn g w e l) (he:d+1≤e):zh m (yX d*np) (Ji d+yX d*dn) (KD d+g) (EA d+w) e (s::l):=by
 have a1:=h.np
 have a2:=h.dn
 have a3:=h.g
 have a4:=h.w
 have a5:=h.e
 have b1:=q.np
 have b3:=q.g
 have b4:=q.w
 have b5:=q.e
 refine ⟨by unfold dM;exact Nat.mul_le_mul a1 b1,fun k=>?_,by unfold lE;omega,by unfold dR;rw [List.length_append];omega,by unfold gn;omega,by unfold anyB;rw [h.b,q.b];rfl,fun u hu=>?_⟩
 ·show k*s.dn+lO l (k*s.np)≤_
  have c1:=q.dn (k*s.np)
  have c2:k*s.np*dn≤k*(yX d*dn):=by rw [Nat.mul_assoc];exact Nat.mul_le_mul_left _ (Nat.mul_le_mul_right _ a1)
  have c3:k*s.dn≤k*Ji d:=Nat.mul_le_mul_left _ a2
  rw [Nat.mul_add]
  omega
 ·unfold dR at hu
  rcases List.mem_append.mp hu with z | z
  ·exact h.a u z
  ·exact q.a u z
theorem zh.up {m np dn g w e np' dn' g' w' e':Nat} {l:List aI} (q:zh m np dn g w e l) (h1:np≤np') (h2:dn≤dn') (h3:g≤g') (h4:w≤w') (h5:e≤e'):zh m np' dn' g' w' e' l :=
 ⟨Nat.le_trans q.np h1,fun k=>Nat.le_trans (q.dn k) (Nat.mul_le_mul_left _ h2),Nat.le_trans q.g h3,Nat.le_trans q.w h4,Nat.le_trans q.e h5,q.b,q.a⟩
theorem IT {d m:Nat} {l:List aI} (h:∀ s∈l,n8 d m s) (hl:l.length≤1):zh m (yX d) (Ji d) (KD d) (EA d) (d+1) l:=by
 have:=CP d
 match l,hl with
 | [],_=>exact (sQ m (d+1)).up this (Nat.zero_le _) (Nat.zero_le _) (Nat.zero_le _) (Nat.le_refl _)
 | [a],_=>exact (uN (h a (List.mem_cons_self ..)) (sQ m (d+1)) (Nat.le_refl _)).up (by omega) (by omega) (by omega) (by omega) (Nat.le_refl _)
theorem xT {d m:Nat} {l:List aI} (h:∀ s∈l,n8 d m s) (hl:l.length≤2):zh m (yX d*yX d) (Ji d+yX d*Ji d) (KD d+KD d) (EA d+EA d) (d+1) l:=by
 have:=CP d
 match l,hl with
 | [],_=>exact (sQ m (d+1)).up (Nat.mul_le_mul this this) (Nat.zero_le _) (Nat.zero_le _) (Nat.zero_le _) (Nat.le_refl _)
 | a::r,hl=>exact uN (h a (List.mem_cons_self ..)) (IT (fun s hs=>h s (List.mem_cons_of_mem _ hs)) (by rw [List.length_cons] at hl;omega)) (Nat.le_refl _)
theorem xS {d m:Nat} {l:List aI} (h:∀ s∈l,n8 d m s) (hl:l.length≤3):zh m (yX d*(yX d*yX d)) (Ji d+yX d*(Ji d+yX d*Ji d)) (KD d+(KD d+KD d)) (EA d+(EA d+EA d)) (d+1) l:=by
 have:=CP d
 match l,hl with
 | [],_=>exact (sQ m (d+1)).up (Nat.mul_le_mul this (Nat.mul_le_mul this this)) (Nat.zero_le _) (Nat.zero_le _) (Nat.zero_le _) (Nat.le_refl _)
 | a::r,hl=>exact uN (h a (List.mem_cons_self ..)) (xT (fun s hs=>h s (List.mem_cons_of_mem _ hs)) (by rw [List.length_cons] at hl;omega)) (Nat.le_refl _)
theorem sR {m np dn g w e:Nat} {l:List aI} (q:zh m np dn g w e l) (h:np≤16):p7 l=false:=by
 unfold p7
 rw [q.b,decide_eq_false (by have:=q.np;omega)];rfl
theorem TQ {d m a:Nat} {c:Cd} {t e:List aI} (hd:1≤d) (h1:∀ s∈t,n8 0 m s) (l1:t.length≤2) (h2:∀ s∈e,n8 0 m s) (l2:e.length≤1) (ha:a≤m):n8 d m (.kO a c t e):=by
 have q1:=xT h1 l1
 have q2:=IT h2 l2
 have Rg:=sR q1 (by decide)
 have a5n:=sR q2 (by decide)
 have n1:dM t≤1:=q1.np
 have n2:dM e≤1:=q2.np
 have d1:lO t 1≤2:=q1.dn 1
 have d2:lO e 1≤1:=q2.dn 1
 have g1:lE t≤16:=q1.g
 have g2:lE e≤8:=q2.g
 have w1:(dR t).length≤2:=q1.w
 have w2:(dR e).length≤1:=q2.w
 have e1:gn t≤1:=q1.e
 have e2:gn e≤1:=q2.e
 have P:2≤yX d:=by match d,hd with | 1,_=>decide | (k+2),_=>exact Nat.le_refl _
 have D:3≤Ji d:=by match d,hd with | 1,_=>decide | (k+2),_=>show 3≤9;decide
 have G:25≤KD d:=by match d,hd with | 1,_=>decide | (k+2),_=>show 25≤152;decide
 have W:4≤EA d:=by match d,hd with | 1,_=>decide | (k+2),_=>show 4≤9;decide
 refine ⟨by unfold aI.np;omega,by unfold aI.dn;omega,by unfold aI.gw;omega,by unfold aI.wi;rw [List.length_cons,List.length_append];omega,by unfold aI.dep;omega,?_,fun u hu=>?_⟩
 ·unfold aI.big
  unfold p7 at Rg a5n
  rw [Rg,a5n];rfl
 ·unfold aI.wi at hu
  rcases List.mem_cons.mp hu with z | z
  ·rw [z];show 0≤(a:Int)∧(a:Int)≤m;omega
  ·rcases List.mem_append.mp z with z | z
   ·exact q1.a u z
   ·exact q2.a u z
theorem TL {d m a:Nat} {c:Cd} {b:List aI} (hd:d≤1) (h1:∀ s∈b,n8 d m s) (l1:b.length≤2) (ha:a≤m):n8 (d+1) m (.rep a c [] none b):=by
 have q1:=xT h1 l1
 have Rg:=sR q1 (by match d,hd with | 0,_=>decide | 1,_=>decide)
 have d1:=q1.dn 1
 have g1:=q1.g
 have w1:=q1.w
 have e1:=q1.e
 have D:Ji d+yX d*Ji d≤Ji (d+1):=by match d,hd with | 0,_=>decide | 1,_=>decide
 have G:40+(KD d+KD d)≤KD (d+1):=by match d,hd with | 0,_=>decide | 1,_=>decide
 have W:1+(EA d+EA d)≤EA (d+1):=by match d,hd with | 0,_=>decide | 1,_=>decide
 refine ⟨by unfold aI.np;exact CP _,by unfold aI.dn;omega,by unfold aI.gw;omega,by unfold aI.wi;rw [List.length_cons];omega,by unfold aI.dep;omega,?_,fun u hu=>?_⟩
 ·unfold aI.big
  unfold p7 at Rg
  exact Rg
 ·unfold aI.wi at hu
  rcases List.mem_cons.mp hu with z | z
  ·rw [z];show 0≤(a:Int)∧(a:Int)≤m;omega
  ·exact q1.a u z
theorem Xy (a:Int) (c:Cd) (t e:List aI):(((aI.kO a c t e).wi.map Af).flatten)=iN t++iN e:=by unfold aI.wi iN;simp [Af]
theorem Xx (a:Int) (c:Cd) (b:List aI):(((aI.rep a c [] none b).wi.map Af).flatten)=iN b:=by unfold aI.wi iN;simp [Af]
theorem mV (k:Nat) (a:Int) (as:List Ar):(((aI.flat k a as).wi.map Af).flatten)=wrA k as:=by unfold aI.wi;simp [Af]
theorem MV (l:List aI) (s:aI):iN (l++[s])=iN l++(s.wi.map Af).flatten:=by unfold iN;rw [wO,List.map_append,List.flatten_append]
theorem wN {N:List Str} {l:List aI} (h:dZ N l):(iN l).length≤2*(dR l).length:=by
 have:∀ m:List aI,(∀ u∈m,u.iO N)→((m.map Af).flatten).length≤2*m.length:=fun m=>by
  induction m with
  | nil=>exact fun _=>Nat.le_refl _
  | cons a r ih =>
   intro hm
   rw [List.map_cons,List.flatten_cons,List.length_append,List.length_cons]
   have h1:=(ID (hm a (List.mem_cons_self ..))).2
   have h2:=ih fun u hu=>hm u (List.mem_cons_of_mem _ hu)
   omega
 exact this _ (lF h)
theorem Tt {ns:List Str} (h:yx ns) {m:Nat} (hm:m≤2):Jr (ns.map V.str) (some 3) (some (3+(m:Int)))=(((ns.drop 3).take m).map V.str)∧((ns.drop 3).take m).length=m∧∀ y∈(ns.drop 3).take m,RI (baseOf ns) y:=by
 have l8:=h.l
 refine ⟨?_,by rw [List.length_take,List.length_drop,l8];omega,fun y hy=>?_⟩
 ·match ns,l8 with
  | [a,b,c,d,e,f,g,i],_ =>
   match m,hm with
   | 0,_=>rfl
   | 1,_=>rfl
   | 2,_=>rfl
 ·obtain ⟨j,hj,e⟩:=List.mem_iff_getElem.mp hy
  have hj':j < m:=by rw [List.length_take] at hj;omega
  have:ns[3+j]?=some y:=by
   rw [← e,List.getElem_take,List.getElem_drop]
   exact List.getElem?_eq_getElem _
  exact pT h this (by omega)
theorem a0p {deep d:Nat} (h:deep≤2) (l:d+1≤deep):4+2+2*Mh d+5≤Mh deep∧d≤1 :=
 match deep,d,h,l with
 | 1,0,_,_=>by decide
 | 2,0,_,_=>by decide
 | 2,1,_,_=>by decide
theorem a0r {r:Nat} (h:(r:Int) < 3):∃ hx:Str,U0 hx r∧ED ((["none","one","two"]:List Str).map V.str) (r:Int)=some (.str hx) :=
 match r,h with
 | 0,_=>⟨"none",.inl ⟨rfl,rfl⟩,rfl⟩
 | 1,_=>⟨"one",.inr (.inl ⟨rfl,rfl⟩),rfl⟩
 | 2,_=>⟨"two",.inr (.inr ⟨rfl,rfl⟩),rfl⟩
 | (j+3),h=>absurd h (by omega)
theorem a3q {kk deep:Nat} (h:kk=6∨kk=7) (hd:¬ deep=0):∃ d':Nat,(kk=6→d'=0)∧(kk=7→d'+1=deep)∧d'+1≤deep∧((deep:Int) - 1)*(if decide (V.int (kk:Int)=V.int 7)=true then 1 else 0)=(d':Int):=by
 by_cases h7:kk=7
 ·subst h7
  exact ⟨deep - 1,by omega,by omega,by omega,by rw [if_pos (by decide)];omega⟩
 ·refine ⟨0,by omega,by omega,by omega,?_⟩
  rw [if_neg (by intro z;have:=V.int.inj (of_decide_eq_true z);omega)]
  omega
end Hw
namespace Hw
open PySem L2
def exN (sp:List Str→Sp):Sp:=fun vs H Q E=>∃ N,sp N vs H Q E
theorem KI {P:Program} {w:World} {K:PySem.W.Frag} {mg:Str→Option Value} {base:Heap} {CX:EF} {k:Nat} {f:Addr} {fd:FuncData} {ps:List Str} {sp:List Str→Sp} (h:∀ N,aM P w K mg base CX k f fd ps (sp N)):aM P w K mg base CX k f fd ps (exN sp) :=
 ⟨fun vs H Q E ⟨N,q⟩=>(h N).len vs H Q E q,fun A outer s H args us vs Q E hr he hb hv ⟨N,q⟩=>(h N).run A outer s H args us vs Q E hr he hb hv q⟩
mutual
theorem a2I:∀ {s:aI} {p:List Rx},∀ d∈(s.go p).1,∃ u∈s.wi,d.a=u.pl
 | .flat k a as,p,d,h=>by
  unfold aI.go at h
  refine ⟨.flat k a as,by unfold aI.wi;exact List.mem_singleton.mpr rfl,?_⟩
  by_cases hk:Yw k=true
  ·simp only [hk,if_true] at h
   rw [List.mem_singleton.mp h];rfl
  ·simp only [hk,if_false] at h
   exact absurd h (by simp)
 | .kO a c t e,p,d,h=>by
  unfold aI.go at h
  rcases List.mem_append.mp h with q | q
  ·obtain ⟨u,hu,e⟩:=xZ d q
   exact ⟨u,by unfold aI.wi;exact List.mem_cons_of_mem _ (List.mem_append_left _ hu),e⟩
  ·obtain ⟨u,hu,e⟩:=xZ d q
   exact ⟨u,by unfold aI.wi;exact List.mem_cons_of_mem _ (List.mem_append_right _ hu),e⟩
 | .rep a c hs f b,p,d,h=>by
  unfold aI.go at h
  obtain ⟨u,hu,e⟩:=xZ d h
  exact ⟨u,by unfold aI.wi;exact List.mem_cons_of_mem _ hu,e⟩
theorem xZ:∀ {l:List aI} {ps:List (List Rx)},∀ d∈(lU l ps).1,∃ u∈dR l,d.a=u.pl
 | [],ps,d,h=>by rw [jr] at h;exact absurd h List.not_mem_nil
 | s::r,ps,d,h=>by
  rw [iG] at h
  rcases List.mem_append.mp h with q | q
  ·obtain ⟨y,hy,hd⟩:=List.mem_flatten.mp q
   obtain ⟨p0,hp0,rfl⟩:=List.mem_map.mp hy
   obtain ⟨u,hu,e⟩:=a2I d hd
   exact ⟨u,by unfold dR;exact List.mem_append_left _ hu,e⟩
  ·obtain ⟨u,hu,e⟩:=xZ d q
   exact ⟨u,by unfold dR;exact List.mem_append_right _ hu,e⟩
end
theorem jq:∀ a b:List Rx,v9 (a++b)=v9 a++v9 b
 | [],_=>rfl
 | .any x::r,b=>by show Tl.any x::v9 (r++b)=Tl.any x::(v9 r++v9 b);rw [jq r b]
 | .hold x::r,b=>by show Tl.hold x::v9 (r++b)=Tl.hold x::(v9 r++v9 b);rw [jq r b]
 | .lt::r,b=>jq r b
 | .jK::r,b=>jq r b
theorem RU (x:Str):v9 (bf x)=gR x:=by
 unfold bf gR
 split <;> rfl
theorem wU:∀ l:List Str,v9 ((l.map bf).flatten)=(l.map gR).flatten
 | []=>rfl
 | a::r=>by rw [List.map_cons,List.flatten_cons,jq,RU,wU r,List.map_cons,List.flatten_cons]
theorem M5:∀ k:Nat,v9 (List.replicate k .lt)=[]
 | 0=>rfl
 | k+1=>M5 k
def mF (c c3:Cd) (b:List aI):List aI:=[.rep 5000 c [] none b,.flat 5 6000 [.cd c3]]
noncomputable def xu (c:Cd) (b:List aI) (p:List Rx):List Rx:=p++oz (iN b)++[.hold (CT c)]
theorem Yx (c c3:Cd) (b:List aI) (p:List Rx):(lU (mF c c3 b) [p]).1=(lU b [p++oz (iN b)++[.hold c]]).1++[⟨"claim",6000,xu c b p⟩]:=by
 unfold mF xu
 rw [iG,iG,jr]
 simp [aI.go,Yw,kdS]
theorem NR (c:Cd) (b:List aI) (ps:List Str) (k:Nat):v9 (xu c b ((ps.map bf).flatten++List.replicate k .lt))=((ps++yS (iN b)).map gR).flatten++[.hold (CT c)]:=by
 unfold xu oz
 rw [jq,jq,jq,M5,wU,wU,List.append_nil,List.map_append,List.flatten_append]
 rfl
structure c7Y (m:Nat) (c c3:Cd) (b:List aI):Prop where
 dep:gn (mF c c3 b) < 6
 np:dM (mF c c3 b)≤1000
 big:p7 (mF c c3 b)=false
 g:lE (mF c c3 b)≤40000
 w:(dR (mF c c3 b)).length≤400
 n:lO (mF c c3 b) 1≤100
theorem SI {m:Nat} {c c3:Cd} {b:List aI} (h:∀ s∈b,n8 2 m s) (hl:b.length≤3):c7Y m c c3 b:=by
 have q:=xS h hl
 have g1:dM b≤8:=q.np
 have g2:lO b 1≤63:=q.dn 1
 have g3:lE b≤456:=q.g
 have g4:(dR b).length≤27:=q.w
 have g5:gn b≤3:=q.e
 have big:=sR q (by decide)
 refine ⟨?_,?_,?_,?_,?_,?_⟩
 ·simp only [mF,gn,aI.dep];omega
 ·simp only [mF,dM,aI.np];decide
 ·unfold p7 at big
  simp only [mF,p7,anyB,dM,aI.np,aI.big]
  rw [big];decide
 ·simp only [mF,lE,aI.gw];omega
 ·simp only [mF,dR,aI.wi,List.length_append,List.length_cons,List.length_nil];omega
 ·simp only [mF,lO,aI.dn,aI.np,Yw];simp;omega
theorem SH {N:List Str} {c c3:Cd} {b:List aI} {m:Nat} (hc:MM N c) (h3:MM N c3) (ob:dZ N b) (h:∀ s∈b,n8 2 m s) (hl:b.length≤3):dZ N (mF c c3 b):=by
 have q:=xS h hl
 have g1:dM b≤8:=q.np
 unfold mF dZ aI.iO
 refine ⟨⟨hc,rfl,rfl,⟨by omega,by omega⟩,ob⟩,?_⟩
 unfold dZ aI.iO Kl
 exact ⟨⟨_,rfl,h3⟩,by unfold dZ;trivial⟩
theorem RV {K:PySem.W.Frag} {H:Hp} {x y:V}:∀ {t:Tl},(∀ c,t=.hold c→c.dep≤1)→p8 H x t→p8 H y t→nZ K H 5 x y
 | .any s,_,⟨r,e,q⟩,⟨r',e',q'⟩=>by
  subst e;subst e'
  exact pS (n:=1) (Co q q' (.cons (uR rfl) (.cons (uR rfl) .nil))) (by decide)
 | .hold c,hd,⟨r,w,e,q,t⟩,⟨r',w',e',q',t'⟩=>by
  subst e;subst e'
  have:=hd c rfl
  exact Co q q' (.cons (uR rfl) (.cons (pS (ua t t') (by omega)) .nil))
theorem Cp {K:PySem.W.Frag} {H:Hp}:∀ {ts:List Tl} {us ws:List V},(∀ t∈ts,∀ c,t=.hold c→c.dep≤1)→Paired (p8 H) us ts→Paired (p8 H) ws ts→Paired (nZ K H 5) us ws
 | [],_,_,_,.nil,.nil=>.nil
 | t::r,_,_,hd,.cons a b,.cons a' b'=>.cons (RV (hd t (List.mem_cons_self ..)) a a') (Cp (fun t ht=>hd t (List.mem_cons_of_mem _ ht)) b b')
end Hw
namespace Hw
open PySem L2
def rok:Rx→Prop
 | .any _=>True
 | .lt=>True
 | .hold c=>∃ a n s b m,c=.cmp a n s b m
 | .jK=>False
theorem Ka (l:List Str):∀ r∈(l.map bf).flatten,rok r:=fun r hr=>by
 obtain ⟨y,hy,hr⟩:=List.mem_flatten.mp hr
 obtain ⟨x,hx,rfl⟩:=List.mem_map.mp hy
 unfold bf at hr
 split at hr
 ·simp only [List.mem_cons,List.not_mem_nil,or_false] at hr
  rcases hr with rfl | rfl
  ·trivial
  ·exact ⟨_,_,_,_,_,rfl⟩
 ·rw [List.mem_singleton.mp hr];trivial
theorem NS (x:Str) (b:List aI) (ps:List Str) (k:Nat):∀ r∈xu (lW x) b ((ps.map bf).flatten++List.replicate k .lt),rok r:=fun r hr=>by
 unfold xu at hr
 rcases List.mem_append.mp hr with h | h
 ·rcases List.mem_append.mp h with h | h
  ·rcases List.mem_append.mp h with h | h
   ·exact Ka ps r h
   ·rw [(List.mem_replicate.mp h).2];trivial
  ·exact Ka _ r h
 ·rw [List.mem_singleton.mp h];exact ⟨_,_,_,_,_,rfl⟩
theorem RS {x:Str} {l:List Str}:∀ t∈(l.map gR).flatten++[Tl.hold (CT (lW x))],∀ c,t=.hold c→c.dep≤1:=fun t ht c e=>by
 subst e
 rcases List.mem_append.mp ht with h | h
 ·obtain ⟨y,hy,hr⟩:=List.mem_flatten.mp h
  obtain ⟨z,hz,rfl⟩:=List.mem_map.mp hy
  unfold gR at hr
  split at hr
  ·simp only [List.mem_cons,List.not_mem_nil,or_false] at hr
   rcases hr with h | h
   ·cases h
   ·injection h with h;rw [h];show 1≤1;decide
  ·cases List.mem_singleton.mp hr
 ·injection List.mem_singleton.mp h with h
  rw [h];show 1≤1;decide
theorem ins_map (xs:List Str) (k:Nat) (y:Str):TV (xs.map V.str) k (.str y)=(xs.take k++[y]++xs.drop k).map V.str:=by
 unfold TV
 rw [List.map_append,List.map_append,List.map_take,List.map_drop]
 rfl
theorem Za {ns:List Str} (h:yx ns) {m:Nat} (hm:m≤2):Jr (ns.map V.str) none (some (m:Int))=(ns.take m).map V.str:=by
 have l8:=h.l
 match ns,l8 with
 | [a,b,c,d,e,f,g,i],_ =>
  match m,hm with
  | 0,_=>rfl
  | 1,_=>rfl
  | 2,_=>rfl
structure c7X (ns ps:List Str):Prop where
 i:∀ x∈ps,x∈baseOf ns
 l:ps.length≤3
 n:ps≠[]
 c:∀ x∈ps,∃ c r,x.cps.toList=c::r
theorem Uw (x:Str):∃ c r,(("#":Str)++x).cps.toList=c::r:=by
 have e:=tR "#" x
 refine ⟨35,x.cps.toList,?_⟩
 rw [e];rfl
theorem D4 {ns:List Str} (h:yx ns):∀ x∈baseOf ns,∃ c r,x.cps.toList=c::r:=fun x hx=>by
 unfold baseOf at hx
 rcases List.mem_append.mp hx with m | m
 ·obtain ⟨⟨c,r,e,_⟩,_⟩:=h.w x (List.mem_of_mem_take m)
  exact ⟨c,r,e⟩
 ·obtain ⟨y,hy,rfl⟩:=List.mem_map.mp m
  exact Uw y
theorem a1M {ns:List Str} (h:yx ns) {x:Str} (hx:ns[6]?=some x) {m j:Nat} (hm:m≤2):c7X ns ((ns.take m).take j++[("#":Str)++x]++(ns.take m).drop j):=by
 have ib:∀ y∈(ns.take m).take j++[("#":Str)++x]++(ns.take m).drop j,y∈baseOf ns:=fun y hy=>by
  have t:∀ z∈ns.take m,z∈baseOf ns:=fun z hz=>by
   obtain ⟨i,hi,e⟩:=List.mem_iff_getElem.mp hz
   have hi':i < m:=by rw [List.length_take] at hi;omega
   have:ns[i]?=some z:=by
    rw [← e,List.getElem_take]
    exact List.getElem?_eq_getElem _
   exact (pT h this (by omega)).1
  rcases List.mem_append.mp hy with q | q
  ·rcases List.mem_append.mp q with q | q
   ·exact t y (List.mem_of_mem_take q)
   ·rw [List.mem_singleton.mp q];exact (wF h hx (by decide)).1
  ·exact t y (List.mem_of_mem_drop q)
 refine ⟨ib,?_,by simp,fun y hy=>D4 h y (ib y hy)⟩
 rw [List.length_append,List.length_append,List.length_take,List.length_drop,List.length_take,h.l]
 show min j (min m 8)+1+(min m 8 - j)≤3
 omega
theorem Ad {ns:List Str} {l:List aI} (h:dZ (baseOf ns) l):∀ x∈iN l,x∈baseOf ns:=Ae h
theorem Yr {Y:Cy} {H:Hp} {p a b c m:Addr} {ha hb hc:List Str} {h:Hl} (P:Rj Y H p [.ref a,.ref b,.ref c,.ref m] [⟨0,"none",["xa"],ha,[],[],[]⟩,⟨0,"one",["xa"],hb,[],[],[]⟩,⟨0,"two",["xa"],hc,[],[],[]⟩,h]) (la:ha.length=0) (lb:hb.length=1) (lc:hc.length=2):PgW Y H (.ref p):=by
 refine ⟨p,_,_,rfl,P,fun x k hx=>?_⟩
 obtain ⟨dx,t,e1,e2,l,pp⟩:=P
 cases pp with | cons p1 pp=>cases pp with | cons p2 pp=>cases pp with | cons p3 pp =>
 rcases hx with ⟨rfl,rfl⟩ | ⟨rfl,rfl⟩ | ⟨rfl,rfl⟩
 ·exact ⟨a,_,by unfold gY;rw [if_pos rfl],p1,rfl,la,rfl,rfl⟩
 ·refine ⟨b,_,?_,p2,rfl,lb,rfl,rfl⟩
  unfold gY;rw [if_neg (show ¬ ("none":Str)="one" by decide +kernel)];unfold gY;rw [if_pos rfl]
 ·refine ⟨c,_,?_,p3,rfl,lc,rfl,rfl⟩
  unfold gY;rw [if_neg (show ¬ ("none":Str)="two" by decide +kernel)];unfold gY;rw [if_neg (show ¬ ("one":Str)="two" by decide +kernel)];unfold gY;rw [if_pos rfl]
theorem Qz {a b c m:V} {ha hb hc:List Str} {h:Hl} (hn:h.nm="main"):gY "main" [a,b,c,m] [⟨0,"none",["xa"],ha,[],[],[]⟩,⟨0,"one",["xa"],hb,[],[],[]⟩,⟨0,"two",["xa"],hc,[],[],[]⟩,h]=m:=by
 unfold gY;rw [if_neg (show ¬ ("none":Str)="main" by decide +kernel)];unfold gY;rw [if_neg (show ¬ ("one":Str)="main" by decide +kernel)];unfold gY;rw [if_neg (show ¬ ("two":Str)="main" by decide +kernel)];unfold gY;rw [if_pos hn]
end Hw
namespace Hw
open PySem L2
theorem M4 (rs:List Rx) (i:Nat):(v9 (rs.take i)).length≤(v9 rs).length:=by
 conv=>rhs;rw [← List.take_append_drop i rs,jq,List.length_append]
 exact Nat.le_add_right _ _
end Hw
namespace Hw
open PySem L2
end Hw
namespace Hw
open PySem L2
theorem nM {P:Nat→Prop} (h0:P 0) (h1:P 1) (h2:P 2) (h4:P 4) (h5:P 5) (h6:P 6) (h7:P 7) (h8:P 8):∀ i,i∈([0,1,2,4,5,6,7,8]:List Nat)→P i:=fun j hj=>by
 simp only [List.mem_cons,List.not_mem_nil,or_false] at hj
 rcases hj with rfl | rfl | rfl | rfl | rfl | rfl | rfl | rfl <;> assumption
end Hw
namespace L2
open PySem PySem.Spec PyProof.Rows Hw
theorem aM.up {P:Program} {w:World} {K:PySem.W.Frag} {mg:Str→Option Value} {base:Heap} {CX:EF} {k k':Nat} {f:Addr} {fd:FuncData} {ps:List Str} {sp:Sp} (h:aM P w K mg base CX k f fd ps sp) (e:k=k'):aM P w K mg base CX k' f fd ps sp:=e ▸ h
theorem aM.lift {P:Program} {w:World} {K:PySem.W.Frag} {mg:Str→Option Value} {base:Heap} {CX:EF} {k k':Nat} {f:Addr} {fd:FuncData} {ps:List Str} {sp:Sp} (h:aM P w K mg base CX k f fd ps sp) (e:k≤k'):aM P w K mg base CX k' f fd ps sp :=
 ⟨h.len,fun A outer s H args us vs Q E hr=>h.run A outer s H args us vs Q E (hr.mono e)⟩
end L2
namespace Hw
open PySem L2
theorem uQ {P:Nat→Prop} (h0:P 0) (h1:P 1) (h2:P 2) (h3:P 3) (h4:P 4) (h5:P 5) (h6:P 6) (h7:P 7) (h8:P 8):∀ j,j < 9→P j
 | 0,_=>h0 | 1,_=>h1 | 2,_=>h2 | 3,_=>h3 | 4,_=>h4 | 5,_=>h5 | 6,_=>h6 | 7,_=>h7 | 8,_=>h8
 | j+9,h=>absurd h (by omega)
theorem Pf {P:Program} {w:World} {K:PySem.W.Frag} {mg:Str→Option Value} {base:Heap} {k:Nat} {Y:Cy} {m:Str} {ps:List Str} {sp:Nat→Sp} (h0:Mt P w K mg base k Y.lt m ps (sp 0)) (h1:Mt P w K mg base k Y.dv m ps (sp 1)) (h2:Mt P w K mg base k Y.ft m ps (sp 2)) (h3:Mt P w K mg base k Y.pt m ps (sp 3)) (h4:Mt P w K mg base k Y.mq m ps (sp 4)) (h5:Mt P w K mg base k Y.cm m ps (sp 5)) (h6:Mt P w K mg base k Y.cl m ps (sp 6)) (h7:Mt P w K mg base k Y.ch m ps (sp 7)) (h8:Mt P w K mg base k Y.rp m ps (sp 8)):M9 P w K mg base k Y m ps sp :=
 uQ (P:=fun j=>Mt P w K mg base k (fc Y j) m ps (sp j)) h0 h1 h2 h3 h4 h5 h6 h7 h8
theorem MW (N:List Str) (Y:Cy):∀ vs H Q E,¬ gS N Y 0 vs H Q E:=fun vs H Q E h=>by
 unfold gS at h
 revert h
 simp
theorem Uu (N:List Str) (Y:Cy):∀ vs H Q E,¬ oJ N Y 0 vs H Q E:=by
 rintro vs H Q E ⟨_,_,_,_,_,_,_,h,_⟩
 exact absurd h (Nat.not_lt_zero _)
theorem a2H (N:List Str) (Y:Cy) (Bk Db:Addr):∀ vs H Q E,¬ uq N Y Bk Db 0 vs H Q E:=by
 rintro vs H Q E ⟨_,_,_,_,_,_,_,_,_,_,_,_,_,_,_,h,_⟩
 exact absurd h (Nat.not_lt_zero _)
theorem Pj (Y:Cy):∀ vs H Q E,¬ jU Y 0 vs H Q E:=by
 rintro vs H Q E ⟨_,_,_,_,_,_,_,h,_⟩
 exact absurd h (Nat.not_lt_zero _)
end Hw
set_option maxHeartbeats 8000000
namespace Hw
open PySem L2 PyProof.Rows
def top (i:Nat):Stmt:=PySem.Challenge.pw_holdwright_k34_what_loops_write.main.body.getD i (.Pass ⟨0,0,0,0⟩)
end Hw
namespace Hw
open PySem L2 PyProof.Rows
section
variable {P:Program} {w:World} {K:PySem.W.Frag} {mg:Str→Option Value} {base:Heap}
abbrev xq:Stmt:=inClass (top 5) 0
theorem yW:az ["self","terms","number"] ["self","terms","number"] (ai xq):=dB
theorem Tj {f C:Addr} {fd:FuncData} (F:ck K "__init__" "Sum.__init__" xq f fd) (T:Txt K mg C) :aM P w K mg base bP 1 f fd ["self","terms","number"] (mX C):=by
 refine F.ok yW (fun vs H Q E h=>?_) (fun cdv A outer s H vs Q E hr h=>?_)
 ·obtain ⟨p,dx,l,n,ps,rfl,hp,hs,hz,k⟩:=h
  rfl
 ·obtain ⟨p,dx,l,n,ps,rfl,hp,hs,hz,k⟩:=h
  have hu:=sV hr
  rw [show aj xq=[_,_] from rfl]
  refine ⟨_,(ak (aY (pv 0) (pP aW (by rfl) T.tuple boot_tuple (cG (iB (dg ["pair"] [] [] rfl (by decide +kernel) (by decide +kernel) (by with_unfolding_all rfl) (by exact trivial) (by rfl) rfl (by rfl)) rfl (AE (pv 1)) (fun _ _ _ _=>(aN (i:=0) (show List.Nodup (["pair"]:List Str) by decide +kernel) rfl (Or.inl rfl) (Or.inr rfl))) (fun _ _ _ _=>iz) (fun _ _ _ _=>(pP (pG (K:=K) rfl) (by rfl) T.tuple boot_tuple (cG (pv 0) ah)))) ah)) rfl)
   (ao (aY (pv 0) (pv 2) rfl))),?_⟩
  refine ⟨_,rfl,l,rfl,Uv hs (fun i ys H'=>H'=H∧Ek H ys (ps.take i)) ⟨rfl,.nil⟩ (fun i ys H' q=>q.1 ▸ Kp.refl) ?_ ?_⟩
  ·rintro i v pr ys H' hi ⟨a,rfl,ha⟩ ⟨rfl,hy⟩
   refine ⟨Ext.one,JB ⟨_,rfl,a,_,rfl,.inr ⟨bG.of ha,?_,rfl,?_⟩⟩⟩
   ·rw [jN hy,List.length_take]
    exact line _ (by omega)
   ·rw [take_snoc hi]
    exact rX hy (AD ⟨a,rfl,ha⟩)
  ·rintro ys H' ⟨rfl,hy⟩ q hq
   rw [List.take_length] at hy
   refine ⟨q,_,rfl,.inl ⟨bH.of af,fun t ht=>?_⟩⟩
   have npq:p≠q:=aq hp hq
   have h1:upd H' q (.lst ys) p=some (.ins C dx []):=by rw [aL npq];exact hp
   have npt:p≠t:=aq h1 ht
   refine ⟨_,rfl,p,C,dx,[],rfl,(by rw [aL npt];exact h1),T.cl,T.nT,(by show 0 < 1000;decide),?_⟩
   refine ⟨_,rfl,_,rfl,p,C,dx,_,rfl,af,T.cl,T.nN,(by show 1 < 1000;decide),?_⟩
   have b:aR p H' (upd (upd (upd (upd H' q (.lst ys)) t (.tup ys)) p (.ins C dx (aP "terms" (.ref t) []))) p (.ins C dx (vd t n))) :=
    (((aR.of (new hq)).new ht).trans aR.upd).trans aR.upd
   refine k _ b ⟨dx,t,af,⟨ys,?_,hy.keep ?_⟩,hz⟩
   ·rw [aL npt.symm,aL npt.symm,af]
   ·exact (Kp.but b (by intro xs;rw [hp];intro z;cases z) (by intro xs;rw [hp];intro z;cases z)).t
abbrev m6:Stmt:=inClass (top 5) 6
theorem yV:az ["self"] ["self"] (ai m6):=dB
theorem Ll {f C:Addr} {fd:FuncData} (F:ck K "things" "Sum.things" m6 f fd) (T:Txt K mg C) :aM P w K mg base bP 1 f fd ["self"] (ig C):=by
 refine F.ok yV (fun vs H Q E h=>?_) (fun cdv A outer s H vs Q E hr h=>?_)
 ·obtain ⟨p,ts,n,rfl,S,k⟩:=h
  rfl
 ·obtain ⟨p,ts,n,rfl,S,k⟩:=h
  have hu:=sV hr
  rw [show aj m6=[_] from rfl]
  refine ⟨_,(ao (aG (pP aW (by rfl) T.tuple boot_tuple (cG (iB (dg ["thing","weight"] [] [] rfl (by decide +kernel) (by decide +kernel) (by with_unfolding_all rfl) (by exact trivial) (by rfl) rfl (by rfl)) rfl (iA (aA (pv 0) rfl)) (fun _ _ _ _=>(rY (K:=K) (n:=2) rfl rfl (bq (aN (i:=0) (show List.Nodup (["thing","weight"]:List Str) by decide +kernel) rfl (Or.inl rfl) (Or.inr rfl)) (bq (aN (i:=1) (show List.Nodup (["thing","weight"]:List Str) by decide +kernel) rfl (Or.inl rfl) (Or.inr rfl)) fU)))) (fun _ _ _ _=>iz) (fun _ _ _ _=>(pv 0))) ah)))),?_⟩
  obtain ⟨dx,t,hp,ht,hz⟩:=S
  have tz:=line _ (show ts.length≤100000 by omega)
  refine ⟨_,rfl,p,C,dx,_,_,rfl,hp,T.cl,T.nT,gT _ _,t,rfl,BQ ht (fun i ys H'=>H'=H∧ys=((keys ts).take i).map V.str) ⟨rfl,rfl⟩ (fun i ys H' q=>q.1 ▸ Kp.refl) ?_ ?_⟩
  ·rintro i v pr ys H' hi ⟨a,rfl,ha⟩ ⟨rfl,rfl⟩
   have hk:(keys ts)[i]?=some pr.1:=by unfold keys;rw [List.getElem?_map,hi];rfl
   have hil:i < ts.length:=(List.getElem?_eq_some_iff.mp hi).1
   refine ⟨a,_,rfl,bG.of ha,rfl,_,_,rfl,_,_,rfl,rfl,Ext.two,JB ⟨_,rfl,?_,rfl,?_⟩⟩
   ·rw [List.length_map,List.length_take]
    omega
   ·rw [take_snoc hk,List.map_append]
    rfl
  ·rintro ys H' ⟨rfl,rfl⟩ q hq
   refine ⟨q,_,rfl,.inl ⟨bH.of af,fun r hr'=>?_⟩⟩
   refine k r _ (aK.new (new hq) hr') ?_
   rw [af,List.take_of_length_le (by unfold keys;rw [List.length_map];exact Nat.le_refl _)]
abbrev qz:Stmt:=top 7
theorem pO:az ["pairs","number","weights","thing","weight"] ["pairs","number"] (ai qz):=dB
theorem Lm {f C:Addr} {fd:FuncData} (F:ck K "sum_of" "sum_of" qz f fd) (T:Txt K mg C) (d_init:Mr P w K mg base 1 C ["self","terms","number"] (mX C)):aM P w K mg base bP 3 f fd ["pairs","number"] (pN C):=by
 obtain ⟨b9D,a7P,cz,M,cy⟩:=d_init
 refine F.ok pO (fun vs H Q E h=>?_) (fun cdv A outer s H vs Q E hr h=>?_)
 ·obtain ⟨a,n,ps,rfl,hs,hz,k⟩:=h
  rfl
 ·obtain ⟨a,n,ps,rfl,hs,hz,k⟩:=h
  have hu:=sV hr
  rw [show aj qz=[_,_,_] from rfl]
  refine ⟨_,(ak (aO (i:=2) pO.nd rfl (Or.inr rfl) CQ)
   (ak (dm PassesOwn.never rfl (AE (pv 0)) (lQ rfl (bq (aN (i:=3) pO.nd rfl (Or.inl rfl)) (bq (aN (i:=4) pO.nd rfl (Or.inl rfl)) fU))) (ao (AA hu (pv 2) (pv 3) (aT jF (OF hu (pv 2) (pv 3) aH ⟨rfl,rfl,rfl,rfl⟩) (pv 4)) rfl)))
   (ao (aG (Ke M cz (hr.mono (by decide)) rfl T.qT cy .nil av (cG (iB (dg ["thing"] ["weights"] [2] rfl (by decide +kernel) (by decide +kernel) (by with_unfolding_all rfl) (by exact ⟨rfl,trivial⟩) (by rfl) rfl (by rfl)) rfl (gf (xy (BU rfl) (by rfl) T.sorted boot_sorted (cG (pv 2) ah))) (fun _ _ _ _=>(aN (i:=0) (show List.Nodup (["thing","weights"]:List Str) by decide +kernel) rfl (Or.inl rfl) (Or.inr rfl))) (fun _ _ _ _=>(Kc (bJ OH (Kg hu (pv 1) (pv 0) (fun _ _=>rfl)) aH (bM _)))) (fun _ _ _ _=>(aJ (cG (pv 0) (cG (Kg hu (pv 1) (pv 0) (fun _ _=>rfl)) ah))))) (cG (pv 1) ah))))))),?_⟩
  intro d hd
  have lz:=line ps.length (by omega)
  refine ⟨_,rfl,a,rfl,Z0 (hs.same (new hd)) (fun i σ H'=>∃ e t w,σ=[some (.ref a),some (.int n),some (.ref d),t,w]∧H'=upd H d (.dK (enc e))∧Tab (ps.take i) e) ⟨[],none,none,rfl,rfl,Tab.nil⟩ ?_ ?_ ?_⟩
  ·rintro i σ H' ⟨e,t,w,rfl,rfl,tab⟩
   exact Kp.dict
  ·rintro i v pr σ H' hi ⟨a',rfl,ha'⟩ ⟨e,t,w,rfl,rfl,tab⟩
   have he:(enc e).length < sizeLine:=by
    have h1:=tab.len
    rw [List.length_take] at h1
    rw [KO]
    omega
   refine ⟨a',_,rfl,bG.of ha',rfl,_,_,rfl,_,_,rfl,rfl,?_⟩
   refine ⟨_,rfl,d,rfl,.inl ⟨_,.inl af⟩,_,rfl,_,zu.k (k:=Sum.inr pr.1) af,_,rfl,_,_,QU e pr.1,rfl,_,rfl,_,rfl,d,_,rfl,JS.k (k:=Sum.inr pr.1) af he,?_⟩
   refine ⟨step e pr,_,_,rfl,?_,?_⟩
   ·rw [JV,Um]
    rfl
   ·rw [take_snoc hi]
    exact tab.step pr
  ·rintro σ H' ⟨e,t,w,rfl,rfl,tab⟩
   rw [List.take_length] at tab
   have el:(enc e).length < 64:=by have:=tab.len;rw [KO];omega
   refine ⟨_,rfl,d,_,keys e,rfl,af,QT e,el,fun l ys hl hp hso=>⟨l,rfl,⟨_,bH.of af⟩,?_⟩⟩
   have yl:ys.length≤ps.length:=by
    rw [hp.length_eq]
    unfold keys
    rw [List.length_map]
    exact tab.len
   refine pW (xs:=ys.map V.str) (fun i out H'=>aK (upd (upd H d (.dK (enc e))) l (.lst (ys.map V.str))) H'∧Ek H' out (outs e (ys.take i))) ⟨aK.refl _,.nil⟩ (fun i out H' _ q=>bH.of (q.1 _ _ af)) ?_ ?_
   ·rintro i v out H' hi ⟨sm,pr⟩
    obtain ⟨y,hy,rfl⟩:∃ y,ys[i]?=some y∧v=V.str y:=by
     rw [List.getElem?_map] at hi
     cases q:ys[i]? with
     | none=>rw [q] at hi;cases hi
     | some y=>rw [q] at hi;cases hi;exact ⟨y,rfl,rfl⟩
    have hm:y∈keys e:=hp.mem_iff.mp (List.mem_of_getElem? hy)
    have hdd:H' d=some (.dK (enc e)):=sm _ _ (by rw [aL (aq af hl)];exact af)
    have ol:out.length < sizeLine:=by
     rw [jN pr]
     have:=xA e (ys.take i)
     rw [List.length_take] at this
     omega
    refine ⟨Ext.one,_,rfl,_,rfl,d,_,rfl,Dd hdd hm,rfl,_,rfl,?_⟩
    dsimp only
    by_cases g0:get e y=0
    ·rw [if_neg (by simp [g0])]
     refine ⟨sm,?_⟩
     rw [take_snoc hy,zI,if_pos g0,List.append_nil]
     exact pr
    ·rw [if_pos (by simp [g0])]
     refine ⟨_,rfl,_,rfl,_,rfl,d,_,rfl,Dd hdd hm,(szl 2),fun q hq=>⟨ol,aK.new sm hq,?_⟩⟩
     rw [take_snoc hy,zI,if_neg g0]
     exact rX (pr.keep fun _ _ z=>new hq _ _ z) (AD ⟨q,rfl,af⟩)
   ·rintro out H' ⟨sm,pr⟩ q hq
    rw [List.length_map,List.take_length] at pr
    have s0:aK H H':=fun b o z=>sm b o (aK.new (new hd) hl b o z)
    refine ⟨_,rfl,fun x dx hx hdx ne=>?_⟩
    have h1:aK (upd H' q (.lst out)) (upd (upd (upd H' q (.lst out)) dx (.own x)) x (.ins C dx [])):=fun b o z=>by
     rw [aL (aq z hx),aL (aq z hdx)]
     exact z
    refine ⟨x,dx,q,n,outs e ys,rfl,af,.inl ⟨out,h1 _ _ af,pr.keep fun _ _ z=>h1 _ _ (new hq _ _ z)⟩,?_,fun H2 but S=>⟨rfl,?_⟩⟩
    ·have:=xA e ys
     omega
    ·refine k x (outs e ys) H2 (fun b o z=>but b o (h1 _ _ (aK.new s0 hq b o z)) (aq (aK.new s0 hq b o z) hx)) (tab.gat hp hso) ?_ S
     have:=xA e ys
     omega
abbrev xm:Stmt:=inClass (top 5) 2
theorem CK:az ["self","other"] ["self","other"] (ai xm):=dB
theorem Tg {f C:Addr} {fd:FuncData} (F:ck K "plus" "Sum.plus" xm f fd) (T:Txt K mg C) (Q3:Dn P w K mg base 3 "sum_of" ["pairs","number"] (pN C)):aM P w K mg base bP 4 f fd ["self","other"] (Al C):=by
 obtain ⟨a2S,Z3,iL,gh,gi,iK⟩:=Q3
 refine F.ok CK (fun vs H Q E h=>?_) (fun cdv A outer s H vs Q E hr h=>?_)
 ·obtain ⟨p,q,a,b,n,m,rfl,S1,S2,hz,k⟩:=h
  rfl
 ·obtain ⟨p,q,a,b,n,m,rfl,S1,S2,hz,k⟩:=h
  have hu:=sV hr
  rw [show aj xm=[_] from rfl]
  refine ⟨_,(ao (aG (wB iL (hr.mono (by decide)) rfl gh gi iK .nil av (cG (aT bD (aA (pv 0) rfl) (aA (pv 1) rfl)) (cG (aT jF (aA (pv 0) rfl) (aA (pv 1) rfl)) ah))))),?_⟩
  obtain ⟨dx,t1,hp,⟨vs1,e1,r1⟩,z1⟩:=id S1
  obtain ⟨eO,t2,hq,⟨vs2,e2,r2⟩,z2⟩:=id S2
  have lz:vs1.length+vs2.length≤sizeLine:=by
   rw [jN r1,jN r2]
   exact Nat.le_of_lt (line _ (by omega))
  have go:∀ (r:Addr) (H':Hp),aK H H'→Tp H' r (a++b)→∃ (x:Addr) (nn:Int) (ps:Ps),[V.ref r,V.int (n+m)]=[.ref x,.int nn]∧Sq H' x ps∧ps.length < 64 ∧
    ∀ (r:Addr) (ts:Ps) (H2:Hp),aK H' H2→Gat ps ts→ts.length≤ps.length→bL C H2 r ts nn→Q (.ref r) H2:=fun r H' sm tp =>
   ⟨r,n+m,a++b,rfl,.inr tp,by rw [List.length_append];exact hz,fun r2 ts H2 qc g l S=>k r2 ts H2 (sm.trans qc) g (by rw [List.length_append] at l;exact l) S⟩
  refine ⟨_,rfl,p,C,dx,_,_,rfl,hp,T.cl,T.nT,gT _ _,_,rfl,q,C,eO,_,_,rfl,hq,T.cl,T.nT,gT _ _,t1,t2,vs1,vs2,rfl,rfl,bG.of e1,bG.of e2,lz,fun h0=>?_,fun _ h0=>?_,fun _ _ r hr'=>?_⟩
  ·subst h0
   cases r1
   refine ⟨_,rfl,p,C,dx,_,_,rfl,hp,T.cl,T.nN,cC _ _,_,rfl,q,C,eO,_,_,rfl,hq,T.cl,T.nN,cC _ _,_,_,rfl,rfl,?_⟩
   exact go t2 H (aK.refl _) ⟨vs2,e2,r2⟩
  ·subst h0
   cases r2
   refine ⟨_,rfl,p,C,dx,_,_,rfl,hp,T.cl,T.nN,cC _ _,_,rfl,q,C,eO,_,_,rfl,hq,T.cl,T.nN,cC _ _,_,_,rfl,rfl,?_⟩
   exact go t1 H (aK.refl _) ⟨vs1,e1,by rw [List.append_nil];exact r1⟩
  ·have sm:aK H (upd H r (.tup (vs1++vs2))):=new hr'
   refine ⟨_,rfl,p,C,dx,_,_,rfl,sm _ _ hp,T.cl,T.nN,cC _ _,_,rfl,q,C,eO,_,_,rfl,sm _ _ hq,T.cl,T.nN,cC _ _,_,_,rfl,rfl,?_⟩
   exact go r _ sm ⟨_,af,rX (r1.keep fun _ _ z=>sm _ _ z) (r2.keep fun _ _ z=>sm _ _ z)⟩
abbrev qx:Stmt:=inClass (top 5) 4
theorem Az:az ["self","number"] ["self","number"] (ai qx):=dB
theorem OI {f C:Addr} {fd:FuncData} (F:ck K "times" "Sum.times" qx f fd) (T:Txt K mg C) (Q3:Dn P w K mg base 3 "sum_of" ["pairs","number"] (pN C)):aM P w K mg base bP 4 f fd ["self","number"] (wc C):=by
 obtain ⟨a2S,Z3,iL,gh,gi,iK⟩:=Q3
 refine F.ok Az (fun vs H Q E h=>?_) (fun cdv A outer s H vs Q E hr h=>?_)
 ·obtain ⟨p,a,n,kk,rfl,S,hz,hk,k⟩:=h
  rfl
 ·obtain ⟨p,a,n,kk,rfl,S,hz,hk,k⟩:=h
  have hu:=sV hr
  rw [show aj qx=[_] from rfl]
  refine ⟨_,(ao (aG (wB iL (hr.mono (by decide)) rfl gh gi iK .nil av (cG (iB (dg ["thing","weight"] ["number"] [1] rfl (by decide +kernel) (by decide +kernel) (by with_unfolding_all rfl) (by exact ⟨rfl,trivial⟩) (by rfl) rfl (by rfl)) rfl (iA (aA (pv 0) rfl)) (fun _ _ _ _=>(rY (K:=K) (n:=2) rfl rfl (bq (aN (i:=0) (show List.Nodup (["thing","weight","number"]:List Str) by decide +kernel) rfl (Or.inl rfl) (Or.inr rfl)) (bq (aN (i:=1) (show List.Nodup (["thing","weight","number"]:List Str) by decide +kernel) rfl (Or.inl rfl) (Or.inr rfl)) fU)))) (fun _ _ _ _=>iz) (fun _ _ _ _=>(aJ (cG (pv 0) (cG (aT m8 (pv 1) (pv 2)) ah))))) (cG (aT m8 (aA (pv 0) rfl) (pv 1)) ah))))),?_⟩
  obtain ⟨dx,t,hp,ht,hz'⟩:=id S
  have tz:=line _ (show a.length≤100000 by omega)
  refine ⟨_,rfl,p,C,dx,_,_,rfl,hp,T.cl,T.nT,gT _ _,t,rfl,BQ ht (fun i ys H'=>aK H H'∧Ek H' ys ((a.take i).map fun q=>(q.1,q.2*kk))) ⟨aK.refl _,.nil⟩ (fun i ys H' q=>Kp.of q.1) ?_ ?_⟩
  ·rintro i v pr ys H' hi ⟨b,rfl,hb⟩ ⟨sm,py⟩
   have hil:i < a.length:=(List.getElem?_eq_some_iff.mp hi).1
   refine ⟨b,_,rfl,bG.of hb,rfl,_,_,rfl,_,_,rfl,rfl,Ext.two,JB ⟨_,rfl,_,rfl,_,rfl,_,_,rfl,rfl,.inr hk,(szl 2),fun q hq=>⟨?_,aK.new sm hq,?_⟩⟩⟩
   ·rw [jN py,List.length_map,List.length_take]
    omega
   ·rw [take_snoc hi,List.map_append]
    exact rX (py.keep fun _ _ z=>new hq _ _ z) (AD ⟨q,rfl,af⟩)
  ·rintro ys H' ⟨sm,py⟩ q hq
   rw [List.take_length] at py
   have s1:aK H (upd H' q (.lst ys)):=aK.new sm hq
   refine ⟨_,rfl,p,C,dx,_,_,rfl,s1 _ _ hp,T.cl,T.nN,cC _ _,_,rfl,_,_,rfl,rfl,.inr hk,?_⟩
   refine ⟨q,n*kk,_,rfl,.inl ⟨ys,af,py.keep fun _ _ z=>new hq _ _ z⟩,by rw [List.length_map];exact hz,fun r ts H2 qc g l S2=>k r ts H2 (s1.trans qc) g (by rw [List.length_map] at l;exact l) S2⟩
abbrev xo:Stmt:=inClass (top 5) 3
theorem CL:az ["self","other"] ["self","other"] (ai xo):=dB
theorem Ti {f C:Addr} {fd:FuncData} (F:ck K "less" "Sum.less" xo f fd) (T:Txt K mg C) (Jj:Mt P w K mg base 4 C "plus" ["self","other"] (Al C)) (BK:Mt P w K mg base 4 C "times" ["self","number"] (wc C)):aM P w K mg base bP 5 f fd ["self","other"] (HQ C):=by
 obtain ⟨Z9,T8,rG,IP,rD⟩:=Jj
 obtain ⟨Ug,QC,pL,Bp,pJ⟩:=BK
 refine F.ok CL (fun vs H Q E h=>?_) (fun cdv A outer s H vs Q E hr h=>?_)
 ·obtain ⟨p,q,a,b,n,m,rfl,S1,S2,hz,k⟩:=h
  rfl
 ·obtain ⟨p,q,a,b,n,m,rfl,S1,S2,hz,k⟩:=h
  have hu:=sV hr
  rw [show aj xo=[_] from rfl]
  refine ⟨_,(ao (aG (dO (pv 0) T.cl IP rG (hr.mono (by decide)) rD .nil av (cG (dO (pv 1) T.cl Bp pL (hr.mono (by decide)) pJ .nil av (cG (a1P XA aH) ah)) ah)))),?_⟩
  obtain ⟨dx,t1,hp,ht1,z1⟩:=id S1
  obtain ⟨eO,t2,hq,BA,z2⟩:=id S2
  refine ⟨_,rfl,p,dx,_,rfl,hp,cW _ _ (by decide +kernel) (by decide +kernel),_,rfl,q,eO,_,rfl,hq,cW _ _ (by decide +kernel) (by decide +kernel),_,rfl,?_⟩
  refine ⟨q,b,m,-1,rfl,S2,by omega,⟨by decide,by decide⟩,fun r ts H1 jL g1 l1 S1'=>?_⟩
  refine ⟨p,r,a,ts,n,m*-1,rfl,S1.same jL,S1',by omega,fun r2 ts2 H2 qc g2 l2 S2'=>?_⟩
  refine k r2 ts2 H2 (jL.trans qc) ⟨g2.1,fun f=>?_⟩ (by omega) ?_
  ·rw [g2.2,kG,kG,g1.2,Dq,Kq]
   omega
  ·have e:n+m*-1=n - m:=by omega
   rw [← e]
   exact S2'
abbrev qA:Stmt:=top 69
theorem rS:az ["_law_cell","_law_k","_law_mix"] ["_law_cell","_law_k"] (ai qA):=dB
theorem OM {f C:Addr} {fd:FuncData} (F:ck K "_law_mixed" "_law_mixed" qA f fd) (T:Txt K mg C) :aM P w K mg base bP 1 f fd ["_law_cell","_law_k"] wk:=by
 refine F.ok rS (fun vs H Q E h=>?_) (fun cdv A outer s H vs Q E hr h=>?_)
 ·obtain ⟨c,kk,rfl,k⟩:=h
  rfl
 ·obtain ⟨c,kk,rfl,k⟩:=h
  have hu:=sV hr
  rw [show aj qA=[_,_] from rfl]
  refine ⟨_,(ak (aO (i:=2) rS.nd rfl (Or.inl rfl) (aT AH (aT m8 (aT jF (aT jF (pv 0) (aT m8 aH (pv 1))) aH) aH) aH))
   (ao (aG (aT AH (aT jF (aT m8 (pv 2) (pv 2)) (aT m8 aH (pv 2))) aH)))),?_⟩
  refine ⟨_,rfl,_,rfl,_,_,rfl,rfl,.inl ⟨by decide,by decide⟩,_,_,rfl,rfl,_,_,rfl,rfl,_,_,rfl,rfl,.inr ⟨by decide,by decide⟩,_,_,rfl,rfl,(by show (0:Int) < 2147483647;decide),?_⟩
  have h0:=Int.emod_nonneg ((c+7919*kk+11)*48271) (show (2147483647:Int)≠0 by decide)
  have h1:=Int.emod_lt_of_pos ((c+7919*kk+11)*48271) (show (0:Int) < 2147483647 by decide)
  generalize (c+7919*kk+11)*48271 % 2147483647=mx at h0 h1
  refine ⟨_,rfl,_,rfl,_,_,rfl,rfl,.inl ⟨by omega,by omega⟩,_,rfl,_,_,rfl,rfl,.inl ⟨by decide,by decide⟩,_,_,rfl,rfl,_,_,rfl,rfl,(by show (0:Int) < 2147483399;decide),?_⟩
  exact k _ (Int.emod_nonneg _ (by decide)) (Int.emod_lt_of_pos _ (by decide))
abbrev m7:Stmt:=top 68
theorem kc:az ["_law_script","_law_k","_law_cell"] ["_law_script","_law_k"] (ai m7):=dB
theorem IB {f C:Addr} {fd:FuncData} (F:ck K "_law_cell_at" "_law_cell_at" m7 f fd) (T:Txt K mg C) (Us:Dn P w K mg base 1 "_law_mixed" ["_law_cell","_law_k"] wk):aM P w K mg base bP 2 f fd ["_law_script","_law_k"] (HS K):=by
 obtain ⟨a7U,a2N,UT,Pb,Pq,UC⟩:=Us
 refine F.ok kc (fun vs H Q E h=>?_) (fun cdv A outer s H vs Q E hr h=>?_)
 ·obtain ⟨a,ns,kk,rfl,hS,k⟩:=h
  rfl
 ·obtain ⟨a,ns,kk,rfl,hS,k⟩:=h
  have hu:=sV hr
  rw [show aj m7=[_,_,_] from rfl]
  refine ⟨_,(ak (aO (i:=2) kc.nd rfl (Or.inl rfl) aH)
   (ak (cA (bJ a1X (pv 1) (xy dQ (by rfl) T.len PySem.boot_len (cG (pv 0) ah)) (bM _)) (ao (aO (i:=2) kc.nd rfl (Or.inl rfl) (fY eN (pv 0) (pv 1) (fun _ _=>rfl)))) bh)
   (ao (aG (wB UT (hr.mono (by decide)) rfl Pb Pq UC .nil av (cG (pv 2) (cG (aT jF aH (pv 1)) ah))))))),?_⟩
  refine ⟨_,rfl,_,rfl,a,_,rfl,.inl hS,_,_,rfl,rfl,_,rfl,?_⟩
  refine b8c (fun hc=>?_) (fun hc=>?_)
  ·have hc:=of_decide_eq_true hc
   rw [List.length_map] at hc
   have hk:(ns.map V.int)[kk]?=some (V.int (ns[kk]'(by omega))):=by rw [List.getElem?_map,List.getElem?_eq_getElem (by omega)];rfl
   refine ⟨_,rfl,_,rfl,a,_,_,_,rfl,rfl,hS,tQ hk,?_⟩
   exact ⟨_,rfl,_,rfl,_,_,rfl,rfl,_,_,rfl,fun r _ _=>k r⟩
  ·exact ⟨_,rfl,_,rfl,_,_,rfl,rfl,_,_,rfl,fun r _ _=>k r⟩
variable {f:Addr} {fd:FuncData} {N:List Str} {Y:Cy} {fS Db Bk:Addr} {n:Nat}
abbrev ql:Stmt:=inClass (top 5) 7
theorem Nr:az ["self"] ["self"] (ai ql):=dB
seal L2.PE L2.PS L2.EE L2.PA L2.PT
theorem OJ  (F:ck K "told" "Sum.told" ql f fd) (T:Txt K mg Y.z.s) (J:dI K mg Y fS Db Bk) :aM P w K mg base bP 1 f fd ["self"] (Vb Y.z.s):=by
 refine F.dY Nr fun vs H Q E h=>?_
 obtain ⟨p,a,n0,rfl,S,k⟩:=h
 refine ⟨rfl,fun _ _ _ _ hr=>?_⟩
 rw [show aj ql=[_] from rfl]
 refine ⟨_,(ao (aG (aJ (aa (aA (pv 0) rfl) (aa (aA (pv 0) rfl) ah))))),?_⟩
 obtain ⟨dx,t,ep,et,hz⟩:=S
 refine (cV rfl (cF ep T.cl T.nT (gT _ _) ?_))
 refine (cV rfl (cF ep T.cl T.nN (cC _ _) ?_))
 exact ⟨szl 2,fun r hr'=>k r _ (new hr') ⟨t,af,et.same (new hr')⟩⟩
abbrev qv:Stmt:=inClass (top 11) 0
theorem Nu:az ["self","one","sign","other"] ["self","one","sign","other"] (ai qv):=dB
theorem OP  (F:ck K "__init__" "Compare.__init__" qv f fd) (T:Txt K mg Y.z.s) (J:dI K mg Y fS Db Bk) :aM P w K mg base bP 1 f fd ["self","one","sign","other"] (rQ Y.z):=by
 refine F.dY Nu fun vs H Q E h=>?_
 obtain ⟨p,dx,u,w,s,rfl,hp,k⟩:=h
 refine ⟨rfl,fun _ _ _ _ hr=>?_⟩
 rw [show aj qv=[_,_,_] from rfl]
 refine ⟨_,(ak (aY (pv 0) (pv 1) rfl)
   (ak (aY (pv 0) (pv 2) rfl)
   (ao (aY (pv 0) (pv 3) rfl)))),?_⟩
 refine (cV rfl (cV rfl ⟨p,_,dx,cV rfl ⟨hp,J.cc,J.n1,(by show 0 < 1000;decide),?_⟩⟩))
 refine (cV rfl (cV rfl ⟨p,_,dx,cV rfl ⟨af,J.cc,J.n2,(by show 1 < 1000;decide),?_⟩⟩))
 refine (cV rfl (cV rfl ⟨p,_,dx,cV rfl ⟨af,J.cc,J.n3,(by show 2 < 1000;decide),?_⟩⟩))
 exact k _ ((aR.upd.trans aR.upd).trans aR.upd) af
abbrev gI:Stmt:=inClass (top 11) 5
theorem Ax:az ["self"] ["self"] (ai gI):=dB
theorem sy  (F:ck K "opposite" "Compare.opposite" gI f fd) (T:Txt K mg Y.z.s) (J:dI K mg Y fS Db Bk) (nU:Mr P w K mg base 1 Y.z.c ["self","one","sign","other"] (rQ Y.z)) (a0l:a0C P w K mg):aM P w K mg base bP 3 f fd ["self"] (CD N Y.z):=by
 obtain ⟨uU,qZ,dH,kX,dF⟩:=nU
 obtain ⟨D,mgD,kd⟩:=a0l
 refine F.dY Ax fun vs H Q E h=>?_
 obtain ⟨p,c,rfl,hc,hx,k⟩:=h
 refine ⟨rfl,fun _ _ _ _ hr=>?_⟩
 rw [show aj gI=[_] from rfl]
 refine ⟨_,(ao (aG (br kX dH hr.m rfl J.mgC dF .nil av (aa (aA (pv 0) rfl) (aa (SE rfl mgD kd (aA (pv 0) rfl) (fun _ _=>rfl)) (aa (aA (pv 0) rfl) ah)))))),?_⟩
 obtain ⟨a,n0,s0,b,m,rfl,_,_,hs⟩:=hx
 unfold bg at hc
 obtain ⟨q,dx,u,w2,e,ep,s1,s2⟩:=hc
 cases e
 refine (cV rfl (cF ep J.cc J.n1 (Pn _ _ _) ?_))
 refine (cV rfl (cF ep J.cc J.n2 (Vt _ _ _) ⟨Sum.inr s0,cV rfl ⟨SJ hs,?_⟩⟩))
 refine (cV rfl (cF ep J.cc J.n3 (Pk _ _ _) (fun x MJ hx hdx ne=>?_)))
 have h1:=aV (o:=.own x) (o':=.ins Y.z.c MJ []) hx hdx
 refine ⟨x,MJ,u,w2,Yy s0,rfl,af,fun H3 but e1=>⟨rfl,?_⟩⟩
 have sA:aK H H3:=fun b' o z=>but b' o (h1 _ _ z) (aq z hx)
 exact k x H3 sA (by unfold CT bg;exact ⟨x,MJ,u,w2,rfl,e1,s1.same sA,s2.same sA⟩)
abbrev gJ:Stmt:=inClass (top 11) 1
theorem Ay:az ["self"] ["self"] (ai gJ):=dB
theorem AR  (F:ck K "all_sums" "Compare.all_sums" gJ f fd) (T:Txt K mg Y.z.s) (J:dI K mg Y fS Db Bk) :aM P w K mg base bP 1 f fd ["self"] (a1C Y.z):=by
 refine F.dY Ay fun vs H Q E h=>?_
 obtain ⟨p,u,v,a,b,n0,m,s0,rfl,⟨dx,ep⟩,s1,s2,k⟩:=h
 refine ⟨rfl,fun _ _ _ _ hr=>?_⟩
 rw [show aj gJ=[_] from rfl]
 refine ⟨_,(ao (aG (bC (aa (aA (pv 0) rfl) (aa (aA (pv 0) rfl) ah))))),?_⟩
 refine (cV rfl (cF ep J.cc J.n1 (Pn _ _ _) ?_))
 refine (cV rfl (cF ep J.cc J.n3 (Pk _ _ _) ?_))
 exact ⟨szl 2,fun l hl=>k l _ (new hl) af⟩
abbrev j9:Stmt:=inClass (top 10) 0
theorem qw:az ["self","found","total"] ["self"] (ai j9):=dB
theorem IA  (F:ck K "things" "Condition.things" j9 f fd) (T:Txt K mg Y.z.s) (J:dI K mg Y fS Db Bk) (eZ:Mt P w K mg base 1 Y.z.s "things" ["self"] (ig Y.z.s)) (DY:Mt P w K mg base 1 Y.z.c "all_sums" ["self"] (a1C Y.z)):aM P w K mg base bP 3 f fd ["self"] (CC N Y.z):=by
 obtain ⟨mK,jW,bw,dz,bu⟩:=eZ
 obtain ⟨VM,Ue,Er,Dm,Ea⟩:=DY
 refine F.dY qw fun vs H Q E h=>?_
 obtain ⟨p,c,rfl,hc,hx,hN,k⟩:=h
 refine ⟨rfl,fun _ _ _ _ hr=>?_⟩
 rw [show aj j9=[_,_,_] from rfl]
 refine ⟨_,(ak (aO (i:=1) qw.nd rfl (Or.inl rfl) (bC ah))
   (ak (dm PassesOwn.never rfl (gf (bK (pv 0) J.cc Dm Er hr.m Ea .nil av)) (aN (i:=2) qw.nd rfl (Or.inl rfl)) (ao (bB (fO PySem.F.plainAttrs_list PySem.F.slot_list_extend PySem.F.type_list_extend nu (pv 1) (aa (bK (pv 2) T.cl dz bw hr.m bu .nil av) ah)))))
   (ao (aG (aU aW (by rfl) T.tuple boot_tuple (aa (aX (jS rfl) (by rfl) T.sorted boot_sorted (aa (aU (pX rfl) (by rfl) J.set PyProof.Rows.boot_set (aa (pv 1) ah)) ah)) ah)))))),?_⟩
 dsimp only [jR,Cx.yN]
 obtain ⟨a,n0,s0,b,m,rfl,xa,xb,_⟩:=hx
 unfold bg at hc
 obtain ⟨q,dx,u,w2,e,ep,s1,s2⟩:=hc
 cases e
 refine ⟨(Nat.zero_le _),fun F hF=>?_⟩
 have sF:=new (o:=.lst []) hF
 refine (cV rfl ⟨p,dx,cV rfl ⟨sF _ _ ep,jH (jH (jH rfl)),?_⟩⟩)
 refine ⟨p,u,w2,a,b,n0,m,s0,rfl,⟨dx,sF _ _ ep⟩,s1.same sF,s2.same sF,fun L H1 jL eL=>?_⟩
 have Up:H1 F=some (.lst []):=jL _ _ af
 have sH1:=sF.trans jL
 have Zf:L≠F:=fun z=>by rw [z,Up] at eL;cases eL
 refine ⟨L,rfl,⟨_,bH.of eL⟩,fJ (xs:=[.ref u,.ref w2]) (fun i σ H'=>∃ (tt:Option V) (xs:List Str),σ=[some (.ref p),some (.ref F),tt]∧aR F H1 H'∧H' F=some (.lst (xs.map V.str))∧(∀ x∈xs,x∈N)∧xs.length≤3*i) ⟨none,[],rfl,fun _ _ z _=>z,Up,fun _ h=>absurd h List.not_mem_nil,Nat.zero_le _⟩ ?_ ?_ ?_⟩
 ·rintro i σ H' _ ⟨tt,xs,rfl,but,_⟩
  exact bH.of (but _ _ eL Zf)
 ·rintro i x σ H' hix ⟨tt,xs,rfl,but,eF,hxy,hl⟩
  have hk:aD H1 H':=aD.soft but Up eV
  have key:∃ q ts nn,x=.ref q∧bL Y.z.s H' q ts nn∧Ci N ts∧i < 2:=by
   match i,hix with
   | 0,hix=>cases hix;exact ⟨u,a,n0,rfl,(s1.same sH1).aE hk,xa,by decide⟩
   | 1,hix=>cases hix;exact ⟨w2,b,m,rfl,(s2.same sH1).aE hk,xb,by decide⟩
  obtain ⟨q,ts,nn,rfl,S,xt,hi⟩:=key
  obtain ⟨dq,tq,eq,_,_⟩:=id S
  refine (cV rfl ⟨.inl ⟨rfl,_,bH.of eF⟩,cV rfl ⟨q,dq,cV rfl ⟨eq,cW _ _ (by decide +kernel) (by decide +kernel),q,ts,nn,rfl,S,fun r H2 qc er=>?_⟩⟩⟩)
  have lk:(keys ts).length≤3:=by rw [show (keys ts).length=ts.length from List.length_map ..];exact xt.1
  refine ⟨F,r,_,cV rfl ⟨rfl,qc _ _ eF,bG.of er,Nat.le_of_lt (line _ (by rw [List.length_map,List.length_map];omega)),?_⟩⟩
  refine ⟨some (.ref q),xs++keys ts,rfl,(but.trans (aR.of qc)).trans aR.upd,by rw [List.map_append];exact af,fun x hx=>?_,by rw [List.length_append];omega⟩
  rcases List.mem_append.mp hx with h | h
  ·exact hxy x h
  ·exact xt.2 x h
 ·rintro σ H' ⟨tt,xs,rfl,but,eF,hxy,hl⟩
  have hl:xs.length≤6:=hl
  refine (cV rfl ⟨F,xs,N,rfl,bH.of eF,by omega,hN,hxy,fun q hq=>?_⟩)
  refine ⟨q,xs,rfl,af,fun l ys hl' hm nd _ _=>?_⟩
  have hys:∀ x∈ys,x∈xs:=fun x hx=>(hm x).mp hx
  have ly:=ku nd hys
  refine ⟨l,cV rfl (.inl ⟨bH.of af,fun t ht=>?_⟩)⟩
  have sE:aK H (upd (upd (upd H' q (qq P w q xs)) l (.lst (ys.map V.str))) t (.tup (ys.map V.str))):=fun b' o' e'=>by
   have h1:=but _ _ (sH1 _ _ e') (aq e' hF)
   exact new ht _ _ (new hl' _ _ (new hq _ _ h1))
  exact k t ys _ sE af (fun x hx=>hxy x (hys x hx)) (by omega)
abbrev qu:Stmt:=inClass (top 11) 4
theorem Nt:az ["self"] ["self"] (ai qu):=dB
theorem OO  (F:ck K "told" "Compare.told" qu f fd) (T:Txt K mg Y.z.s) (J:dI K mg Y fS Db Bk) (Ur:Mt P w K mg base 1 Y.z.s "told" ["self"] (Vb Y.z.s)):aM P w K mg base bP 2 f fd ["self"] (Vj Y.z):=by
 obtain ⟨b9B,a7N,yD,Pe,yt⟩:=Ur
 refine F.dY Nt fun vs H Q E h=>?_
 obtain ⟨p,a,b,n0,m,s0,rfl,hc,k⟩:=h
 refine ⟨rfl,fun _ _ _ _ hr=>?_⟩
 rw [show aj qu=[_] from rfl]
 refine ⟨_,(ao (aG (aJ (aa aZ (aa (bK (aA (pv 0) rfl) T.cl Pe yD hr.m yt .nil av) (aa (aA (pv 0) rfl) (aa (bK (aA (pv 0) rfl) T.cl Pe yD hr.m yt .nil av) ah))))))),?_⟩
 unfold bg at hc
 obtain ⟨q,dx,u,w2,e,ep,s1,s2⟩:=hc
 cases e
 obtain ⟨dxu,tu,eu,_,_⟩:=id s1
 obtain ⟨dxw,tw,ew,_,_⟩:=id s2
 refine (cV rfl (cF ep J.cc J.n1 (Pn _ _ _) ⟨u,dxu,cV rfl ⟨eu,cW _ _ (by decide +kernel) (by decide +kernel),u,a,n0,rfl,s1,fun r1 H1 jL d1=>?_⟩⟩))
 refine (cV rfl (cF (jL _ _ ep) J.cc J.n2 (Vt _ _ _) ?_))
 refine (cV rfl (cF (jL _ _ ep) J.cc J.n3 (Pk _ _ _) ⟨w2,dxw,cV rfl ⟨jL _ _ ew,cW _ _ (by decide +kernel) (by decide +kernel),w2,b,m,rfl,s2.same jL,fun r2 H2 qc d2=>?_⟩⟩))
 refine ⟨szl 4,fun r hr'=>?_⟩
 exact k (.ref r) _ ((jL.trans qc).trans (new hr')) (by unfold fE;exact ⟨r,r1,r2,rfl,af,(d1.same qc).same (new hr'),d2.same (new hr')⟩)
abbrev Ib:Stmt:=inClass (top 12) 0
theorem Ye:az ["self","conditions"] ["self","conditions"] (ai Ib):=dB
theorem Y0  (F:ck K "__init__" "Several.__init__" Ib f fd) (T:Txt K mg Y.z.s) (J:dI K mg Y fS Db Bk) :aM P w K mg base bP 1 f fd ["self","conditions"] (Nm Y.z.e):=by
 refine F.dY Ye fun vs H Q E h=>?_
 obtain ⟨p,dx,l,us,rfl,hp,hl,k⟩:=h
 refine ⟨rfl,fun _ _ _ _ hr=>?_⟩
 rw [show aj Ib=[_] from rfl]
 refine ⟨_,(ao (aY (pv 0) (aU aW (by rfl) T.tuple boot_tuple (aa (pv 1) ah)) rfl)),?_⟩
 refine (cV rfl ⟨l,cV rfl (.inl ⟨bH.of hl,fun t ht=>?_⟩)⟩)
 refine (cV rfl ⟨p,_,dx,cV rfl ⟨(new ht _ _ hp),J.ce,J.n4,(by show 0 < 1000;decide),?_⟩⟩)
 exact k _ ((aR.of (new ht)).trans aR.upd)
abbrev HX:Stmt:=inClass (top 17) 0
theorem X8:az ["self","at","name","total"] ["self","at","name","total"] (ai HX):=dB
theorem YV  (F:ck K "__init__" "Let.__init__" HX f fd) (T:Txt K mg Y.z.s) (J:dI K mg Y fS Db Bk) (jx:∃ fd,aM P w K mg base bP 1 fS fd ["self","at"] (oG Y)∧Binds K fd ["self","at"] []):aM P w K mg base bP 2 f fd ["self","at","name","total"] (J6 Y 0):=by
 obtain ⟨vv,jB,jy⟩:=jx
 refine F.dY X8 fun vs H Q E h=>?_
 obtain ⟨p,dx,a,v1,v2,rfl,hp,k⟩:=h
 refine ⟨rfl,fun _ _ _ _ hr=>?_⟩
 rw [show aj HX=[_,_,_] from rfl]
 refine ⟨_,(ak (bB (jO rfl J.Tv J.g1 J.g2 J.g3 J.g4 J.g5 jB hr.m jy av (aa (pv 0) (aa (pv 1) ah))))
   (ak (aY (pv 0) (pv 2) rfl)
   (ao (aY (pv 0) (pv 3) rfl)))),?_⟩
 refine (cV rfl (cV rfl ⟨p,dx,a,0,rfl,(by decide),(by decide +kernel),hp,fun H1 b1 e1=>?_⟩))
 refine (cV rfl (cV rfl ⟨p,_,dx,cV rfl ⟨e1,J.cl 0 (by decide),J.nA 0,(by show 1 < 1000;decide),?_⟩⟩))
 refine (cV rfl (cV rfl ⟨p,_,dx,cV rfl ⟨af,J.cl 0 (by decide),J.nA 0,(by show 2 < 1000;decide),?_⟩⟩))
 exact k _ ((b1.trans aR.upd).trans aR.upd) af
abbrev Ie:Stmt:=inClass (top 18) 0
theorem Yg:az ["self","at","name","word","total","by"] ["self","at","name","word","total","by"] (ai Ie):=dB
theorem Y3  (F:ck K "__init__" "Divide.__init__" Ie f fd) (T:Txt K mg Y.z.s) (J:dI K mg Y fS Db Bk) (jx:∃ fd,aM P w K mg base bP 1 fS fd ["self","at"] (oG Y)∧Binds K fd ["self","at"] []):aM P w K mg base bP 2 f fd ["self","at","name","word","total","by"] (Ve Y 1):=by
 obtain ⟨vv,jB,jy⟩:=jx
 refine F.dY Yg fun vs H Q E h=>?_
 obtain ⟨p,dx,a,v1,v2,v3,v4,rfl,hp,k⟩:=h
 refine ⟨rfl,fun _ _ _ _ hr=>?_⟩
 rw [show aj Ie=[_,_,_,_,_] from rfl]
 refine ⟨_,(ak (bB (jO rfl J.Tv J.g1 J.g2 J.g3 J.g4 J.g5 jB hr.m jy av (aa (pv 0) (aa (pv 1) ah))))
   (ak (aY (pv 0) (pv 2) rfl)
   (ak (aY (pv 0) (pv 3) rfl)
   (ak (aY (pv 0) (pv 4) rfl)
   (ao (aY (pv 0) (pv 5) rfl)))))),?_⟩
 refine (cV rfl (cV rfl ⟨p,dx,a,1,rfl,(by decide),(by decide +kernel),hp,fun H1 b1 e1=>?_⟩))
 refine (cV rfl (cV rfl ⟨p,_,dx,cV rfl ⟨e1,J.cl 1 (by decide),J.nA 1,(by show 1 < 1000;decide),?_⟩⟩))
 refine (cV rfl (cV rfl ⟨p,_,dx,cV rfl ⟨af,J.cl 1 (by decide),J.nA 1,(by show 2 < 1000;decide),?_⟩⟩))
 refine (cV rfl (cV rfl ⟨p,_,dx,cV rfl ⟨af,J.cl 1 (by decide),J.nA 1,(by show 3 < 1000;decide),?_⟩⟩))
 refine (cV rfl (cV rfl ⟨p,_,dx,cV rfl ⟨af,J.cl 1 (by decide),J.nA 1,(by show 4 < 1000;decide),?_⟩⟩))
 exact k _ ((((b1.trans aR.upd).trans aR.upd).trans aR.upd).trans aR.upd) af
abbrev Ia:Stmt:=inClass (top 19) 0
theorem Yd:az ["self","at","name","row","place"] ["self","at","name","row","place"] (ai Ia):=dB
theorem YZ  (F:ck K "__init__" "Fetch.__init__" Ia f fd) (T:Txt K mg Y.z.s) (J:dI K mg Y fS Db Bk) (jx:∃ fd,aM P w K mg base bP 1 fS fd ["self","at"] (oG Y)∧Binds K fd ["self","at"] []):aM P w K mg base bP 2 f fd ["self","at","name","row","place"] (J5 Y 2):=by
 obtain ⟨vv,jB,jy⟩:=jx
 refine F.dY Yd fun vs H Q E h=>?_
 obtain ⟨p,dx,a,v1,v2,v3,rfl,hp,k⟩:=h
 refine ⟨rfl,fun _ _ _ _ hr=>?_⟩
 rw [show aj Ia=[_,_,_,_] from rfl]
 refine ⟨_,(ak (bB (jO rfl J.Tv J.g1 J.g2 J.g3 J.g4 J.g5 jB hr.m jy av (aa (pv 0) (aa (pv 1) ah))))
   (ak (aY (pv 0) (pv 2) rfl)
   (ak (aY (pv 0) (pv 3) rfl)
   (ao (aY (pv 0) (pv 4) rfl))))),?_⟩
 refine (cV rfl (cV rfl ⟨p,dx,a,2,rfl,(by decide),(by decide +kernel),hp,fun H1 b1 e1=>?_⟩))
 refine (cV rfl (cV rfl ⟨p,_,dx,cV rfl ⟨e1,J.cl 2 (by decide),J.nA 2,(by show 1 < 1000;decide),?_⟩⟩))
 refine (cV rfl (cV rfl ⟨p,_,dx,cV rfl ⟨af,J.cl 2 (by decide),J.nA 2,(by show 2 < 1000;decide),?_⟩⟩))
 refine (cV rfl (cV rfl ⟨p,_,dx,cV rfl ⟨af,J.cl 2 (by decide),J.nA 2,(by show 3 < 1000;decide),?_⟩⟩))
 exact k _ (((b1.trans aR.upd).trans aR.upd).trans aR.upd) af
abbrev HH:Stmt:=inClass (top 20) 0
theorem X4:az ["self","at","row","place","total"] ["self","at","row","place","total"] (ai HH):=dB
theorem YR  (F:ck K "__init__" "Put.__init__" HH f fd) (T:Txt K mg Y.z.s) (J:dI K mg Y fS Db Bk) (jx:∃ fd,aM P w K mg base bP 1 fS fd ["self","at"] (oG Y)∧Binds K fd ["self","at"] []):aM P w K mg base bP 2 f fd ["self","at","row","place","total"] (J5 Y 3):=by
 obtain ⟨vv,jB,jy⟩:=jx
 refine F.dY X4 fun vs H Q E h=>?_
 obtain ⟨p,dx,a,v1,v2,v3,rfl,hp,k⟩:=h
 refine ⟨rfl,fun _ _ _ _ hr=>?_⟩
 rw [show aj HH=[_,_,_,_] from rfl]
 refine ⟨_,(ak (bB (jO rfl J.Tv J.g1 J.g2 J.g3 J.g4 J.g5 jB hr.m jy av (aa (pv 0) (aa (pv 1) ah))))
   (ak (aY (pv 0) (pv 2) rfl)
   (ak (aY (pv 0) (pv 3) rfl)
   (ao (aY (pv 0) (pv 4) rfl))))),?_⟩
 refine (cV rfl (cV rfl ⟨p,dx,a,3,rfl,(by decide),(by decide +kernel),hp,fun H1 b1 e1=>?_⟩))
 refine (cV rfl (cV rfl ⟨p,_,dx,cV rfl ⟨e1,J.cl 3 (by decide),J.nA 3,(by show 1 < 1000;decide),?_⟩⟩))
 refine (cV rfl (cV rfl ⟨p,_,dx,cV rfl ⟨af,J.cl 3 (by decide),J.nA 3,(by show 2 < 1000;decide),?_⟩⟩))
 refine (cV rfl (cV rfl ⟨p,_,dx,cV rfl ⟨af,J.cl 3 (by decide),J.nA 3,(by show 3 < 1000;decide),?_⟩⟩))
 exact k _ (((b1.trans aR.upd).trans aR.upd).trans aR.upd) af
abbrev HW:Stmt:=inClass (top 21) 0
theorem X7:az ["self","at","row","size"] ["self","at","row","size"] (ai HW):=dB
theorem YU  (F:ck K "__init__" "Make.__init__" HW f fd) (T:Txt K mg Y.z.s) (J:dI K mg Y fS Db Bk) (jx:∃ fd,aM P w K mg base bP 1 fS fd ["self","at"] (oG Y)∧Binds K fd ["self","at"] []):aM P w K mg base bP 2 f fd ["self","at","row","size"] (J6 Y 4):=by
 obtain ⟨vv,jB,jy⟩:=jx
 refine F.dY X7 fun vs H Q E h=>?_
 obtain ⟨p,dx,a,v1,v2,rfl,hp,k⟩:=h
 refine ⟨rfl,fun _ _ _ _ hr=>?_⟩
 rw [show aj HW=[_,_,_] from rfl]
 refine ⟨_,(ak (bB (jO rfl J.Tv J.g1 J.g2 J.g3 J.g4 J.g5 jB hr.m jy av (aa (pv 0) (aa (pv 1) ah))))
   (ak (aY (pv 0) (pv 2) rfl)
   (ao (aY (pv 0) (pv 3) rfl)))),?_⟩
 refine (cV rfl (cV rfl ⟨p,dx,a,4,rfl,(by decide),(by decide +kernel),hp,fun H1 b1 e1=>?_⟩))
 refine (cV rfl (cV rfl ⟨p,_,dx,cV rfl ⟨e1,J.cl 4 (by decide),J.nA 4,(by show 1 < 1000;decide),?_⟩⟩))
 refine (cV rfl (cV rfl ⟨p,_,dx,cV rfl ⟨af,J.cl 4 (by decide),J.nA 4,(by show 2 < 1000;decide),?_⟩⟩))
 exact k _ ((b1.trans aR.upd).trans aR.upd) af
abbrev Ih:Stmt:=inClass (top 22) 0
theorem Yi:az ["self","at","condition"] ["self","at","condition"] (ai Ih):=dB
theorem Y5  (F:ck K "__init__" "Claim.__init__" Ih f fd) (T:Txt K mg Y.z.s) (J:dI K mg Y fS Db Bk) (jx:∃ fd,aM P w K mg base bP 1 fS fd ["self","at"] (oG Y)∧Binds K fd ["self","at"] []):aM P w K mg base bP 2 f fd ["self","at","condition"] (Vf Y 5):=by
 obtain ⟨vv,jB,jy⟩:=jx
 refine F.dY Yi fun vs H Q E h=>?_
 obtain ⟨p,dx,a,v1,rfl,hp,k⟩:=h
 refine ⟨rfl,fun _ _ _ _ hr=>?_⟩
 rw [show aj Ih=[_,_] from rfl]
 refine ⟨_,(ak (bB (jO rfl J.Tv J.g1 J.g2 J.g3 J.g4 J.g5 jB hr.m jy av (aa (pv 0) (aa (pv 1) ah))))
   (ao (aY (pv 0) (pv 2) rfl))),?_⟩
 refine (cV rfl (cV rfl ⟨p,dx,a,5,rfl,(by decide),(by decide +kernel),hp,fun H1 b1 e1=>?_⟩))
 refine (cV rfl (cV rfl ⟨p,_,dx,cV rfl ⟨e1,J.cl 5 (by decide),J.nA 5,(by show 1 < 1000;decide),?_⟩⟩))
 exact k _ (b1.trans aR.upd) af
abbrev Ii:Stmt:=inClass (top 25) 0
theorem Yj:az ["self","at","names","helper","given"] ["self","at","names","helper","given"] (ai Ii):=dB
theorem Y6  (F:ck K "__init__" "Call.__init__" Ii f fd) (T:Txt K mg Y.z.s) (J:dI K mg Y fS Db Bk) (jx:∃ fd,aM P w K mg base bP 1 fS fd ["self","at"] (oG Y)∧Binds K fd ["self","at"] []):aM P w K mg base bP 2 f fd ["self","at","names","helper","given"] (Vh Y):=by
 obtain ⟨vv,jB,jy⟩:=jx
 refine F.dY Yj fun vs H Q E h=>?_
 obtain ⟨p,dx,l1,l2,a,v,us,ws,rfl,hp,h1,h2,k⟩:=h
 refine ⟨rfl,fun _ _ _ _ hr=>?_⟩
 rw [show aj Ii=[_,_,_,_] from rfl]
 refine ⟨_,(ak (bB (jO rfl J.Tv J.g1 J.g2 J.g3 J.g4 J.g5 jB hr.m jy av (aa (pv 0) (aa (pv 1) ah))))
   (ak (aY (pv 0) (aU aW (by rfl) T.tuple boot_tuple (aa (pv 2) ah)) rfl)
   (ak (aY (pv 0) (pv 3) rfl)
   (ao (aY (pv 0) (aU aW (by rfl) T.tuple boot_tuple (aa (pv 4) ah)) rfl))))),?_⟩
 have nl1:l1≠p:=fun z=>by rw [z,hp] at h1;cases h1
 have Zd:l2≠p:=fun z=>by rw [z,hp] at h2;cases h2
 refine (cV rfl (cV rfl ⟨p,dx,a,6,rfl,(by decide),(by decide +kernel),hp,fun H1 b1 e1=>?_⟩))
 refine (cV rfl ⟨l1,cV rfl (.inl ⟨bH.of (b1 _ _ h1 nl1),fun t1 ht1=>?_⟩)⟩)
 have nt1:p≠t1:=aq e1 ht1
 refine (cV rfl ⟨p,_,dx,cV rfl ⟨(new ht1 _ _ e1),J.cl 6 (by decide),J.nA 6,(by show 1 < 1000;decide),?_⟩⟩)
 refine (cV rfl (cV rfl ⟨p,_,dx,cV rfl ⟨af,J.cl 6 (by decide),J.nA 6,(by show 2 < 1000;decide),?_⟩⟩))
 refine (cV rfl ⟨l2,cV rfl (.inl ⟨bH.of ((((b1.trans (aR.of (new ht1))).trans aR.upd).trans aR.upd) _ _ h2 Zd),fun t2 BA=>?_⟩)⟩)
 have n2:p≠t2:=aq af BA
 refine (cV rfl ⟨p,_,dx,cV rfl ⟨(new BA _ _ af),J.cl 6 (by decide),J.nA 6,(by show 3 < 1000;decide),?_⟩⟩)
 exact k t1 t2 _ (((((b1.trans (aR.of (new ht1))).trans aR.upd).trans aR.upd).trans (aR.of (new BA))).trans aR.upd) af ((((aR.upd.trans aR.upd).trans (aR.of (new BA))).trans aR.upd) _ _ af nt1.symm) (aR.upd _ _ af n2.symm)
abbrev Ij:Stmt:=inClass (top 23) 0
theorem Yk:az ["self","at","condition","then","other"] ["self","at","condition","then","other"] (ai Ij):=dB
theorem Y7  (F:ck K "__init__" "Choose.__init__" Ij f fd) (T:Txt K mg Y.z.s) (J:dI K mg Y fS Db Bk) (jx:∃ fd,aM P w K mg base bP 1 fS fd ["self","at"] (oG Y)∧Binds K fd ["self","at"] []):aM P w K mg base bP 2 f fd ["self","at","condition","then","other"] (Vi Y):=by
 obtain ⟨vv,jB,jy⟩:=jx
 refine F.dY Yk fun vs H Q E h=>?_
 obtain ⟨p,dx,l1,l2,a,v,us,ws,rfl,hp,h1,h2,k⟩:=h
 refine ⟨rfl,fun _ _ _ _ hr=>?_⟩
 rw [show aj Ij=[_,_,_,_] from rfl]
 refine ⟨_,(ak (bB (jO rfl J.Tv J.g1 J.g2 J.g3 J.g4 J.g5 jB hr.m jy av (aa (pv 0) (aa (pv 1) ah))))
   (ak (aY (pv 0) (pv 2) rfl)
   (ak (aY (pv 0) (aU aW (by rfl) T.tuple boot_tuple (aa (pv 3) ah)) rfl)
   (ao (aY (pv 0) (aU aW (by rfl) T.tuple boot_tuple (aa (pv 4) ah)) rfl))))),?_⟩
 have nl1:l1≠p:=fun z=>by rw [z,hp] at h1;cases h1
 have Zd:l2≠p:=fun z=>by rw [z,hp] at h2;cases h2
 refine (cV rfl (cV rfl ⟨p,dx,a,7,rfl,(by decide),(by decide +kernel),hp,fun H1 b1 e1=>?_⟩))
 refine (cV rfl (cV rfl ⟨p,_,dx,cV rfl ⟨e1,J.cl 7 (by decide),J.nA 7,(by show 1 < 1000;decide),?_⟩⟩))
 refine (cV rfl ⟨l1,cV rfl (.inl ⟨bH.of ((b1.trans aR.upd) _ _ h1 nl1),fun t1 ht1=>?_⟩)⟩)
 have nt1:p≠t1:=aq af ht1
 refine (cV rfl ⟨p,_,dx,cV rfl ⟨(new ht1 _ _ af),J.cl 7 (by decide),J.nA 7,(by show 2 < 1000;decide),?_⟩⟩)
 refine (cV rfl ⟨l2,cV rfl (.inl ⟨bH.of ((((b1.trans aR.upd).trans (aR.of (new ht1))).trans aR.upd) _ _ h2 Zd),fun t2 BA=>?_⟩)⟩)
 have n2:p≠t2:=aq af BA
 refine (cV rfl ⟨p,_,dx,cV rfl ⟨(new BA _ _ af),J.cl 7 (by decide),J.nA 7,(by show 3 < 1000;decide),?_⟩⟩)
 exact k t1 t2 _ (((((b1.trans aR.upd).trans (aR.of (new ht1))).trans aR.upd).trans (aR.of (new BA))).trans aR.upd) af (((aR.upd.trans (aR.of (new BA))).trans aR.upd) _ _ af nt1.symm) (aR.upd _ _ af n2.symm)
abbrev Hy:Stmt:=inClass (top 24) 0
theorem X3:az ["self","at","condition","keeps","falls","body"] ["self","at","condition","keeps","falls","body"] (ai Hy):=dB
theorem YQ  (F:ck K "__init__" "Repeat.__init__" Hy f fd) (T:Txt K mg Y.z.s) (J:dI K mg Y fS Db Bk) (jx:∃ fd,aM P w K mg base bP 1 fS fd ["self","at"] (oG Y)∧Binds K fd ["self","at"] []) (rA:Dn P w K mg base 1 "as_pairs" ["pairs"] HU):aM P w K mg base bP 2 f fd ["self","at","condition","keeps","falls","body"] (HP Y):=by
 obtain ⟨vv,jB,jy⟩:=jx
 obtain ⟨Jg,DL,n9,lM,lN,nV⟩:=rA
 refine F.dY X3 fun vs H Q E h=>?_
 obtain ⟨p,dx,tk,l2,a,v,ws,rfl,hp,h1,h2,k⟩:=h
 refine ⟨rfl,fun _ _ _ _ hr=>?_⟩
 rw [show aj Hy=[_,_,_,_,_] from rfl]
 refine ⟨_,(ak (bB (jO rfl J.Tv J.g1 J.g2 J.g3 J.g4 J.g5 jB hr.m jy av (aa (pv 0) (aa (pv 1) ah))))
   (ak (aY (pv 0) (pv 2) rfl)
   (ak (aY (pv 0) (au n9 hr.m rfl lM lN nV .nil av (aa (pv 3) ah)) rfl)
   (ak (aY (pv 0) (pv 4) rfl)
   (ao (aY (pv 0) (aU aW (by rfl) T.tuple boot_tuple (aa (pv 5) ah)) rfl)))))),?_⟩
 have Zd:l2≠p:=fun z=>by rw [z,hp] at h2;cases h2
 refine (cV rfl (cV rfl ⟨p,dx,a,8,rfl,(by decide),(by decide +kernel),hp,fun H1 b1 e1=>?_⟩))
 refine (cV rfl (cV rfl ⟨p,_,dx,cV rfl ⟨e1,J.cl 8 (by decide),J.nA 8,(by show 1 < 1000;decide),?_⟩⟩))
 have ntk:tk≠p:=fun z=>by rw [z,hp] at h1;cases h1
 refine (cV rfl ⟨tk,rfl,(b1.trans aR.upd) _ _ h1 ntk,fun t1 H2 s2 et1=>?_⟩)
 have e2:H2 p=some (.ins Y.rp dx (aP "condition" v (aP "at" (.int a) []))):=s2 _ _ af
 have nt1:t1≠p:=fun z=>by rw [z,e2] at et1;cases et1
 refine (cV rfl ⟨p,_,dx,cV rfl ⟨e2,J.cl 8 (by decide),J.nA 8,(by show 2 < 1000;decide),?_⟩⟩)
 refine (cV rfl (cV rfl ⟨p,_,dx,cV rfl ⟨af,J.cl 8 (by decide),J.nA 8,(by show 3 < 1000;decide),?_⟩⟩))
 have B2:aR p H H2:=(b1.trans aR.upd).trans (aR.of s2)
 refine (cV rfl ⟨l2,cV rfl (.inl ⟨bH.of (((B2.trans aR.upd).trans aR.upd) _ _ h2 Zd),fun t2 BA=>?_⟩)⟩)
 have n2:p≠t2:=aq af BA
 refine (cV rfl ⟨p,_,dx,cV rfl ⟨(new BA _ _ af),J.cl 8 (by decide),J.nA 8,(by show 4 < 1000;decide),?_⟩⟩)
 exact k t1 t2 _ ((((B2.trans aR.upd).trans aR.upd).trans (aR.of (new BA))).trans aR.upd) af ((((aR.upd.trans aR.upd).trans (aR.of (new BA))).trans aR.upd) _ _ et1 nt1) (aR.upd _ _ af n2.symm)
abbrev HZ:Stmt:=inClass (top 65) 0
theorem Yc:az ["self","at","name","params","answers","needs","gives","steps"] ["self","at","name","params","answers","needs","gives","steps"] (ai HZ):=dB
theorem YY  (F:ck K "__init__" "Helper.__init__" HZ f fd) (T:Txt K mg Y.z.s) (J:dI K mg Y fS Db Bk) (rA:Dn P w K mg base 1 "as_pairs" ["pairs"] HU):aM P w K mg base bP 2 f fd ["self","at","name","params","answers","needs","gives","steps"] (HR Y):=by
 obtain ⟨Jg,DL,n9,lM,lN,nV⟩:=rA
 refine F.dY Yc fun vs H Q E h=>?_
 obtain ⟨p,dx,l1,l2,tc,td,l5,a,x,ps,an,ws,rfl,hp,hl1,hl2,htc,htd,RB,k⟩:=h
 refine ⟨rfl,fun _ _ _ _ hr=>?_⟩
 rw [show aj HZ=[_,_,_,_,_,_,_] from rfl]
 refine ⟨_,(ak (aY (pv 0) (pv 1) rfl)
   (ak (aY (pv 0) (pv 2) rfl)
   (ak (aY (pv 0) (aU pH (by rfl) T.tuple boot_tuple (aa (pv 3) ah)) rfl)
   (ak (aY (pv 0) (aU pH (by rfl) T.tuple boot_tuple (aa (pv 4) ah)) rfl)
   (ak (aY (pv 0) (au n9 hr.m rfl lM lN nV .nil av (aa (pv 5) ah)) rfl)
   (ak (aY (pv 0) (au n9 hr.m rfl lM lN nV .nil av (aa (pv 6) ah)) rfl)
   (ao (aY (pv 0) (aU aW (by rfl) T.tuple boot_tuple (aa (pv 7) ah)) rfl)))))))),?_⟩
 have ntc:tc≠p:=fun z=>by rw [z,hp] at htc;cases htc
 have ntd:td≠p:=fun z=>by rw [z,hp] at htd;cases htd
 have nl5:l5≠p:=fun z=>by rw [z,hp] at RB;cases RB
 have nl1:l1≠p:=fun z=>by rw [z] at hl1;rcases hl1 with q | q <;> (rw [hp] at q;cases q)
 have Zd:l2≠p:=fun z=>by rw [z] at hl2;rcases hl2 with q | q <;> (rw [hp] at q;cases q)
 refine (cV rfl (cV rfl ⟨p,_,dx,cV rfl ⟨hp,J.ch,J.nH,(by show 0 < 1000;decide),?_⟩⟩))
 refine (cV rfl (cV rfl ⟨p,_,dx,cV rfl ⟨af,J.ch,J.nH,(by show 1 < 1000;decide),?_⟩⟩))
 have B2:=(aR.upd (d:=p) (H:=H) (o:=.ins Y.hp dx (aP "at" (.int a) []))).trans (aR.upd (d:=p) (o:=.ins Y.hp dx (aP "name" (.str x) (aP "at" (.int a) []))))
 refine (cV rfl ⟨l1,cV rfl ⟨hl1.but B2 nl1,fun t1 H3 s3 e3=>?_⟩⟩)
 have E3:H3 p=some (.ins Y.hp dx (aP "name" (.str x) (aP "at" (.int a) []))):=s3 _ _ af
 have n3:t1≠p:=fun z=>by rw [z,E3] at e3;cases e3
 refine (cV rfl ⟨p,_,dx,cV rfl ⟨E3,J.ch,J.nH,(by show 2 < 1000;decide),?_⟩⟩)
 have C3:=aR.upd (d:=p) (H:=H3) (o:=.ins Y.hp dx (aP "params" (.ref t1) (aP "name" (.str x) (aP "at" (.int a) []))))
 have B3:=(B2.trans (aR.of s3)).trans C3
 refine (cV rfl ⟨l2,cV rfl ⟨hl2.but B3 Zd,fun t2 H4 s4 e4=>?_⟩⟩)
 have E4:H4 p=some (.ins Y.hp dx (aP "params" (.ref t1) (aP "name" (.str x) (aP "at" (.int a) [])))):=s4 _ _ af
 have n4:t2≠p:=fun z=>by rw [z,E4] at e4;cases e4
 refine (cV rfl ⟨p,_,dx,cV rfl ⟨E4,J.ch,J.nH,(by show 3 < 1000;decide),?_⟩⟩)
 have C4:=aR.upd (d:=p) (H:=H4) (o:=.ins Y.hp dx (aP "answers" (.ref t2) (aP "params" (.ref t1) (aP "name" (.str x) (aP "at" (.int a) [])))))
 have B4:=(B3.trans (aR.of s4)).trans C4
 refine (cV rfl ⟨tc,rfl,B4 _ _ htc ntc,fun t3 H5 s5 e5=>?_⟩)
 have E5:H5 p=some (.ins Y.hp dx (aP "answers" (.ref t2) (aP "params" (.ref t1) (aP "name" (.str x) (aP "at" (.int a) []))))):=s5 _ _ af
 have n5:t3≠p:=fun z=>by rw [z,E5] at e5;cases e5
 refine (cV rfl ⟨p,_,dx,cV rfl ⟨E5,J.ch,J.nH,(by show 4 < 1000;decide),?_⟩⟩)
 have C5:=aR.upd (d:=p) (H:=H5) (o:=.ins Y.hp dx (aP "needs" (.ref t3) (aP "answers" (.ref t2) (aP "params" (.ref t1) (aP "name" (.str x) (aP "at" (.int a) []))))))
 have B5:=(B4.trans (aR.of s5)).trans C5
 refine (cV rfl ⟨td,rfl,B5 _ _ htd ntd,fun t4 H6 s6 e6=>?_⟩)
 have E6:H6 p=some (.ins Y.hp dx (aP "needs" (.ref t3) (aP "answers" (.ref t2) (aP "params" (.ref t1) (aP "name" (.str x) (aP "at" (.int a) [])))))):=s6 _ _ af
 have n6:t4≠p:=fun z=>by rw [z,E6] at e6;cases e6
 refine (cV rfl ⟨p,_,dx,cV rfl ⟨E6,J.ch,J.nH,(by show 5 < 1000;decide),?_⟩⟩)
 have C6:=aR.upd (d:=p) (H:=H6) (o:=.ins Y.hp dx (aP "gives" (.ref t4) (aP "needs" (.ref t3) (aP "answers" (.ref t2) (aP "params" (.ref t1) (aP "name" (.str x) (aP "at" (.int a) [])))))))
 have B6:=(B5.trans (aR.of s6)).trans C6
 refine (cV rfl ⟨l5,cV rfl (.inl ⟨bH.of (B6 _ _ RB nl5),fun t5 ht5=>?_⟩)⟩)
 have n7:p≠t5:=aq af ht5
 refine (cV rfl ⟨p,_,dx,cV rfl ⟨(new ht5 _ _ af),J.ch,J.nH,(by show 6 < 1000;decide),?_⟩⟩)
 have C7:=(aR.of (d:=p) (new (o:=.tup ws) ht5)).trans (aR.upd (d:=p) (o:=.ins Y.hp dx (aP "steps" (.ref t5) (aP "gives" (.ref t4) (aP "needs" (.ref t3) (aP "answers" (.ref t2) (aP "params" (.ref t1) (aP "name" (.str x) (aP "at" (.int a) [])))))))))
 have T6:=C6.trans C7
 have T5:=(C5.trans (aR.of s6)).trans T6
 have T4:=(C4.trans (aR.of s5)).trans T5
 have T3:=(C3.trans (aR.of s4)).trans T4
 exact k t1 t2 t3 t4 t5 _ (B6.trans C7) af (T3 _ _ e3 n3) (T4 _ _ e4 n4) (T5 _ _ e5 n5) (T6 _ _ e6 n6) (aR.upd _ _ af n7.symm)
abbrev HN:Stmt:=inClass (top 66) 0
theorem X5:az ["self","helpers"] ["self","helpers"] (ai HN):=dB
theorem YS  (F:ck K "__init__" "Program.__init__" HN f fd) (T:Txt K mg Y.z.s) (J:dI K mg Y fS Db Bk) :aM P w K mg base bP 1 f fd ["self","helpers"] (Vc Y):=by
 refine F.dY X5 fun vs H Q E h=>?_
 obtain ⟨p,dx,l,us,rfl,hp,hl,k⟩:=h
 refine ⟨rfl,fun _ _ _ _ hr=>?_⟩
 rw [show aj HN=[_] from rfl]
 refine ⟨_,(ao (aY (pv 0) (aU aW (by rfl) T.tuple boot_tuple (aa (pv 1) ah)) rfl)),?_⟩
 refine (cV rfl ⟨l,cV rfl (.inl ⟨bH.of hl,fun t ht=>?_⟩)⟩)
 have npt:p≠t:=aq hp ht
 refine (cV rfl ⟨p,_,dx,cV rfl ⟨(new ht _ _ hp),J.cp,J.np,(by show 0 < 1000;decide),?_⟩⟩)
 exact k t _ ((aR.of (new ht)).trans aR.upd) af (by rw [aL npt.symm];exact af)
abbrev Ig:Stmt:=inClass (top 41) 0
theorem Yh:az ["self","kind","at","ahead","condition"] ["self","kind","at","ahead","condition"] (ai Ig):=dB
theorem Y4  (F:ck K "__init__" "Debt.__init__" Ig f fd) (T:Txt K mg Y.z.s) (J:dI K mg Y fS Db Bk) :aM P w K mg base bP 1 f fd ["self","kind","at","ahead","condition"] (Vg Db):=by
 refine F.dY Yh fun vs H Q E h=>?_
 obtain ⟨p,dx,k0,a,h0,c,rfl,hp,k⟩:=h
 refine ⟨rfl,fun _ _ _ _ hr=>?_⟩
 rw [show aj Ig=[_,_,_,_] from rfl]
 refine ⟨_,(ak (aY (pv 0) (pv 1) rfl)
   (ak (aY (pv 0) (pv 2) rfl)
   (ak (aY (pv 0) (pv 3) rfl)
   (ao (aY (pv 0) (pv 4) rfl))))),?_⟩
 refine (cV rfl (cV rfl ⟨p,_,dx,cV rfl ⟨hp,J.cd,J.nd _ (by decide +kernel),(by show 0 < 1000;decide),?_⟩⟩))
 refine (cV rfl (cV rfl ⟨p,_,dx,cV rfl ⟨af,J.cd,J.nd _ (by decide +kernel),(by show 1 < 1000;decide),?_⟩⟩))
 refine (cV rfl (cV rfl ⟨p,_,dx,cV rfl ⟨af,J.cd,J.nd _ (by decide +kernel),(by show 2 < 1000;decide),?_⟩⟩))
 refine (cV rfl (cV rfl ⟨p,_,dx,cV rfl ⟨af,J.cd,J.nd _ (by decide +kernel),(by show 3 < 1000;decide),?_⟩⟩))
 exact k _ (((aR.upd.trans aR.upd).trans aR.upd).trans aR.upd) af
abbrev Io:Stmt:=inClass (top 42) 0
theorem Yl:az ["self","program"] ["self","program"] (ai Io):=dB
theorem Y8  (F:ck K "__init__" "Book.__init__" Io f fd) (T:Txt K mg Y.z.s) (J:dI K mg Y fS Db Bk) :aM P w K mg base bP 1 f fd ["self","program"] (Vk Bk):=by
 refine F.dY Yl fun vs H Q E h=>?_
 obtain ⟨p,dx,pg,rfl,hp,k⟩:=h
 refine ⟨rfl,fun _ _ _ _ hr=>?_⟩
 rw [show aj Io=[_,_] from rfl]
 refine ⟨_,(ak (aY (pv 0) (pv 1) rfl)
   (ao (aY (pv 0) (bC ah) rfl))),?_⟩
 refine (cV rfl (cV rfl ⟨p,_,dx,cV rfl ⟨hp,J.cb,J.nb _ (by decide +kernel),(by show 0 < 1000;decide),?_⟩⟩))
 refine ⟨(Nat.zero_le _),fun F hF=>?_⟩
 have nF:p≠F:=aq af hF
 have hF0:H F=none:=by rw [aL nF.symm] at hF;exact hF
 refine (cV rfl ⟨p,_,dx,cV rfl ⟨(by rw [aL nF];exact af),J.cb,J.nb _ (by decide +kernel),(by show 1 < 1000;decide),?_⟩⟩)
 exact k F _ ((aR.upd.trans (aR.of (new hF))).trans aR.upd) hF0 (by rw [aL nF.symm];exact af) af
abbrev qp:Stmt:=inClass (top 66) 1
theorem CG:az ["self","name","helper"] ["self","name"] (ai qp):=dB
theorem OL  (F:ck K "named" "Program.named" qp f fd) (T:Txt K mg Y.z.s) (J:dI K mg Y fS Db Bk) :aM P w K mg base bP 1 f fd ["self","name"] (wj Y):=by
 refine F.dY CG fun vs H Q E h=>?_
 obtain ⟨p,x,us,l,rfl,hP,k⟩:=h
 refine ⟨rfl,fun _ _ _ _ hr=>?_⟩
 rw [show aj qp=[_,_] from rfl]
 refine ⟨_,(ak (dm PassesOwn.never rfl (iA (aA (pv 0) rfl)) (aN (i:=2) CG.nd rfl (Or.inl rfl)) (ao (cA (bJ kr (aA (pv 2) rfl) (pv 1) (bM _)) (ao (aG (pv 2))) bh)))
   (ao (aG uz))),?_⟩
 obtain ⟨dx,t,ep,et,hz,hp⟩:=hP
 have lus:=bI hp
 refine (cV rfl (cF ep J.cp J.np cT ⟨t,rfl,⟨us,bG.of et⟩,jQ (xs:=us) (fun i σ H'=>∃ k2:Option V,σ=[some (.ref p),some (.str x),k2]∧H'=H∧gY x us l=gY x (us.drop i) (l.drop i)) ⟨none,rfl,rfl,rfl⟩ ?_ ?_ ?_⟩))
 ·rintro i σ H' _ ⟨k2,rfl,rfl,_⟩
  exact bG.of et
 ·rintro i u σ H' hi ⟨k2,rfl,rfl,hf⟩
  obtain ⟨h,hhi,hx⟩:=gg hp hi
  obtain ⟨pp,MJ,t1,t2,v1,v2,t3,us3,rfl,zb,_⟩:=id hx
  have e1:us.drop i=.ref pp::us.drop (i+1):=by
   obtain ⟨hlt,e⟩:=List.getElem?_eq_some_iff.mp hi
   rw [List.drop_eq_getElem_cons hlt,e]
  have e2:l.drop i=h::l.drop (i+1):=by
   obtain ⟨hlt,e⟩:=List.getElem?_eq_some_iff.mp hhi
   rw [List.drop_eq_getElem_cons hlt,e]
  rw [e1,e2] at hf
  refine (cV rfl (cF zb J.ch (J.nH) (by unfold flH;exact bx (bx (bx (bx (bx (cT)))))) (cV rfl ⟨rfl,cV rfl ?_⟩)))
  by_cases hn:h.nm=x
  ·refine mH (congrArg V.str hn) (cV rfl ?_)
   have e:gY x us l=.ref pp:=by rw [hf];unfold gY;rw [if_pos hn]
   have kk:=k H' (aK.refl _)
   rw [e] at kk
   exact kk
  ·refine oq (fun z=>hn (V.str.inj z)) (cV rfl ⟨rfl,?_⟩)
   rw [hf]
   conv=>lhs;unfold gY
   rw [if_neg hn]
 ·rintro σ H' ⟨k2,rfl,rfl,hf⟩
  rw [List.drop_length,show l.drop us.length=[] by rw [lus,List.drop_length]] at hf
  have kk:=k H' (aK.refl _)
  rw [hf] at kk
  exact kk
abbrev HV:Stmt:=inClass (top 42) 1
theorem X6:az ["self","path","kind","at","condition"] ["self","path","kind","at","condition"] (ai HV):=dB
theorem YT  (F:ck K "owe" "Book.owe" HV f fd) (T:Txt K mg Y.z.s) (J:dI K mg Y fS Db Bk) (a3B:Mr P w K mg base 1 Db ["self","kind","at","ahead","condition"] (Vg Db)) (je:Dn P w K mg base 1 "hold" ["condition"] oH):aM P w K mg base bP 4 f fd ["self","path","kind","at","condition"] (wZ Y.z Bk Db):=by
 obtain ⟨b9F,a7R,Et,a5y,Ec⟩:=a3B
 obtain ⟨uS,pU,gQ,fz,fD,gP⟩:=je
 obtain ⟨tD1,b5g⟩:=J.d1
 refine F.dY X6 fun vs H Q E h=>?_
 obtain ⟨b,F,pg,v,ds,dd,rs,k0,a,c,rfl,K0,hl,⟨t,xs,hv,et,rx⟩,lx,k⟩:=h
 refine ⟨rfl,fun _ _ _ _ hr=>?_⟩
 rw [show aj HV=[_,_,_] from rfl]
 refine ⟨_,(ak (cA (bJ kr (aX dQ (by rfl) T.len PySem.boot_len (aa (aA (pv 0) rfl) ah)) (cE (v:=.int 100) rfl b5g ⟨_,rfl⟩) (bM _)) (ao gz) bh)
   (ak (bB (fO PySem.F.plainAttrs_list PySem.F.slot_list_append PySem.F.type_list_append iZ (aA (pv 0) rfl) (aa (br a5y Et hr.m rfl J.mgD Ec .nil av (aa (pv 2) (aa (pv 3) (aa (pv 1) (aa (pv 4) ah))))) ah)))
   (ao (aG (aT bD (pv 1) (aJ (aa (au gQ hr.m rfl fz fD gP .nil av (aa (pv 4) ah)) ah))))))),?_⟩
 subst hv
 obtain ⟨dx,eb⟩:=K0.o
 have lds:=K0.len
 have lxs:=bQ rx
 refine (cV rfl (cF eb J.cb (J.nb _ (by decide +kernel)) cT ⟨F,cV rfl ⟨.inl (bH.of K0.f),rfl,cV rfl ?_⟩⟩))
 refine oq (fun z=>by injection z with z;omega) ?_
 refine (cV rfl (cF eb J.cb (J.nb _ (by decide +kernel)) cT ⟨.inl ⟨rfl,_,bH.of K0.f⟩,cV rfl (cV rfl (cV rfl (cV rfl (fun x2 eO gm eX ne2=>?_))))⟩))
 have s4:=aV (o:=.own x2) (o':=.ins Db eO []) gm eX
 refine ⟨x2,eO,_,_,_,cV rfl ⟨af,fun H5 mR e5=>⟨rfl,?_⟩⟩⟩
 have s5:aK H H5:=fun b' o' e'=>mR _ _ (s4 _ _ e') (aq e' gm)
 have K5:=K0.same s5
 refine ⟨F,ds,cV rfl ⟨rfl,K5.f,line _ (by omega),?_⟩⟩
 have bF:aR F H5 (upd H5 F (.lst (ds++[.ref x2]))):=aR.upd
 have k6:aD H5 (upd H5 F (.lst (ds++[.ref x2]))):=aD.soft bF K5.f eV
 obtain ⟨dx5,eb5⟩:=K5.o
 have rx6:=(rx.aE (aD.of s5)).aE k6
 have K6:yP Y.z Bk Db (upd H5 F (.lst (ds++[.ref x2]))) b F pg (ds++[.ref x2]) (dd++[⟨k0,a,rs⟩]):=⟨⟨dx5,k6.i _ _ _ _ eb5⟩,af,dP (L2.Paired.lT K5.d fun _ _ z=>z.aE k6) ⟨x2,eO,t,xs,_,rfl,k6.i _ _ _ _ e5,k6.t _ _ (s5 _ _ et),rx6⟩⟩
 refine (cV rfl (cV rfl (cV rfl (fun r7 H7 s7 e7=>?_))))
 refine ⟨szl 1,fun r8 Zu=>?_⟩
 have s8:=s7.trans (new (o:=.tup [.ref r7]) Zu)
 refine bW (s8 _ _ (k6.t _ _ (s5 _ _ et))) af (by show xs.length+1≤100000;omega) fun r9 H9 s9 e9=>?_
 refine k (.ref r9) _ H9 ((((aR.of s5).trans bF).trans (aR.of s8)).trans (aR.of s9)) ((K6.same s8).same s9) fun x hx=>⟨r9,cV rfl ⟨e9,?_⟩⟩
 exact fu ((rx6.aE (aD.of s8)).aE (aD.of s9)) (.cons (hx r7 (s9 _ _ (new Zu _ _ e7))) .nil)
abbrev iQ:Stmt:=inClass (top 42) 2
theorem lH:az ["self","path","kind","writings","at","condition"] ["self","path","kind","writings"] (ai iQ):=dB
theorem CU  (F:ck K "owe_each" "Book.owe_each" iQ f fd) (T:Txt K mg Y.z.s) (J:dI K mg Y fS Db Bk) (yj:Mt P w K mg base 4 Bk "owe" ["self","path","kind","at","condition"] (wZ Y.z Bk Db)):aM P w K mg base bP 5 f fd ["self","path","kind","writings"] we:=by
 obtain ⟨QH,Jc,vF,vm,vE⟩:=yj
 refine F.dY lH fun vs H Q E h=>?_
 obtain ⟨b,w2,v,k0,rfl,ea,k⟩:=h
 refine ⟨rfl,fun _ _ _ _ hr=>?_⟩
 rw [show aj iQ=[_,_] from rfl]
 refine ⟨_,(ak (dm PassesOwn.never rfl (AE (pv 3)) (lQ rfl (bq (aN (i:=4) lH.nd rfl (Or.inl rfl)) (bq (aN (i:=5) lH.nd rfl (Or.inl rfl)) fU))) (ao (aO (i:=1) lH.nd rfl (Or.inl rfl) (dO (pv 0) J.cb vm vF hr.m vE .nil av (aa (pv 1) (aa (pv 2) (aa (pv 4) (aa (pv 5) ah))))))))
   (ao (aG (pv 1)))),?_⟩
 refine (cV rfl ⟨w2,rfl,KH ea (fun i σ H'=>H'=H∧σ=[some (.ref b),some v,some k0,some (.ref w2),none,none]) ⟨rfl,rfl⟩ (fun i σ H' q o e=>by rw [q.1];exact e) (fun i x σ H' hix=>absurd hix (by simp)) ?_⟩)
 rintro σ H' ⟨rfl,rfl⟩
 exact (cV rfl k)
abbrev wX:Stmt:=inClass (top 16) 2
theorem Sk:az ["self"] ["self"] (ai wX):=dB
theorem Te  (F:ck K "blocks" "Step.blocks" wX f fd) (T:Txt K mg Y.z.s) (J:dI K mg Y fS Db Bk) :aM P w K mg base bP 1 f fd ["self"] (dN N Y 0):=by
 refine F.dY Sk fun vs H Q E h=>?_
 obtain ⟨p,s0,rfl,sj,hs,od,k⟩:=h
 refine ⟨rfl,fun _ _ _ _ hr=>?_⟩
 rw [show aj wX=[_] from rfl]
 refine ⟨_,(ao (aG (aJ ah))),?_⟩
 obtain ⟨a,dx,u,x,b,n0,rfl,hx,hb,ep,su⟩:=w0_ hs od sj
 exact ⟨Nat.zero_le _,fun r hr'=>k r [] _ (new hr') af .nil⟩
abbrev xg:Stmt:=inClass (top 23) 3
theorem So:az ["self"] ["self"] (ai xg):=dB
theorem To  (F:ck K "blocks" "Choose.blocks" xg f fd) (T:Txt K mg Y.z.s) (J:dI K mg Y fS Db Bk) :aM P w K mg base bP 1 f fd ["self"] (dN N Y 7):=by
 refine F.dY So fun vs H Q E h=>?_
 obtain ⟨p,s0,rfl,sj,hs,od,k⟩:=h
 refine ⟨rfl,fun _ _ _ _ hr=>?_⟩
 rw [show aj xg=[_] from rfl]
 refine ⟨_,(ao (aG (aJ (aa (aA (pv 0) rfl) (aa (aA (pv 0) rfl) ah))))),?_⟩
 obtain ⟨a,dx,c,pc,t,e,t1,t2,us,ws,rfl,xc,ep,hc,e1,h1,e2,h2,o1,o2,o5,o6⟩:=w7_ hs od sj
 refine (cV rfl (cF ep (J.cl 7 (by decide)) (J.nA 7) (bx (cT)) ?_))
 refine (cV rfl (cF ep (J.cl 7 (by decide)) (J.nA 7) cT ?_))
 refine ⟨szl 2,fun r hr'=>k r [.ref t1,.ref t2] _ (new hr') af (.cons ⟨t1,us,rfl,new hr' _ _ e1,h1.aE (aD.of (new hr'))⟩ (.cons ⟨t2,ws,rfl,new hr' _ _ e2,h2.aE (aD.of (new hr'))⟩ .nil))⟩
abbrev wY:Stmt:=inClass (top 24) 3
theorem Sl:az ["self"] ["self"] (ai wY):=dB
theorem Tf  (F:ck K "blocks" "Repeat.blocks" wY f fd) (T:Txt K mg Y.z.s) (J:dI K mg Y fS Db Bk) :aM P w K mg base bP 1 f fd ["self"] (dN N Y 8):=by
 refine F.dY Sl fun vs H Q E h=>?_
 obtain ⟨p,s0,rfl,sj,hs,od,k⟩:=h
 refine ⟨rfl,fun _ _ _ _ hr=>?_⟩
 rw [show aj wY=[_] from rfl]
 refine ⟨_,(ao (aG (aJ (aa (aA (pv 0) rfl) ah)))),?_⟩
 obtain ⟨a,dx,c,pc,b,tk,t2,ws,rfl,xc,ep,hc,ek,e2,h2,o1,o3⟩:=Xz hs od sj
 refine (cV rfl (cF ep (J.cl 8 (by decide)) (J.nA 8) cT ?_))
 refine ⟨szl 1,fun r hr'=>k r [.ref t2] _ (new hr') af (.cons ⟨t2,ws,rfl,new hr' _ _ e2,h2.aE (aD.of (new hr'))⟩ .nil)⟩
abbrev G6:Stmt:=inClass (top 17) 3
theorem XQ:az ["self"] ["self"] (ai G6):=dB
theorem YE  (F:ck K "writes" "Let.writes" G6 f fd) (T:Txt K mg Y.z.s) (J:dI K mg Y fS Db Bk) :aM P w K mg base bP 1 f fd ["self"] (eU N Y 0):=by
 refine F.dY XQ fun vs H Q E h=>?_
 obtain ⟨p,s0,rfl,sj,hs,od,k⟩:=h
 refine ⟨rfl,fun _ _ _ _ hr=>?_⟩
 rw [show aj G6=[_] from rfl]
 refine ⟨_,(ao (aG (aJ (aa (aA (pv 0) rfl) ah)))),?_⟩
 obtain ⟨a,dx,u,x,b,n0,rfl,hx,hb,ep,su⟩:=w0_ hs od sj
 refine (cV rfl (cF ep (J.cl 0 (by decide)) (J.nA 0) (bx (cT)) ?_))
 exact ⟨szl 1,fun r hr'=>k r _ (new hr') af⟩
abbrev G5:Stmt:=inClass (top 18) 3
theorem XO:az ["self"] ["self"] (ai G5):=dB
theorem YD  (F:ck K "writes" "Divide.writes" G5 f fd) (T:Txt K mg Y.z.s) (J:dI K mg Y fS Db Bk) :aM P w K mg base bP 1 f fd ["self"] (eU N Y 1):=by
 refine F.dY XO fun vs H Q E h=>?_
 obtain ⟨p,s0,rfl,sj,hs,od,k⟩:=h
 refine ⟨rfl,fun _ _ _ _ hr=>?_⟩
 rw [show aj G5=[_] from rfl]
 refine ⟨_,(ao (aG (aJ (aa (aA (pv 0) rfl) ah)))),?_⟩
 obtain ⟨a,dx,u,w2,x,b,n0,rfl,hx,hb,ep,su,sw⟩:=w1_ hs od sj
 refine (cV rfl (cF ep (J.cl 1 (by decide)) (J.nA 1) (bx (bx (bx (cT)))) ?_))
 exact ⟨szl 1,fun r hr'=>k r _ (new hr') af⟩
abbrev G4:Stmt:=inClass (top 19) 3
theorem XN:az ["self"] ["self"] (ai G4):=dB
theorem YC  (F:ck K "writes" "Fetch.writes" G4 f fd) (T:Txt K mg Y.z.s) (J:dI K mg Y fS Db Bk) :aM P w K mg base bP 1 f fd ["self"] (eU N Y 2):=by
 refine F.dY XN fun vs H Q E h=>?_
 obtain ⟨p,s0,rfl,sj,hs,od,k⟩:=h
 refine ⟨rfl,fun _ _ _ _ hr=>?_⟩
 rw [show aj G4=[_] from rfl]
 refine ⟨_,(ao (aG (aJ (aa (aA (pv 0) rfl) ah)))),?_⟩
 obtain ⟨a,dx,u,x,r0,b,n0,rfl,hx,hr0,hb,ep,su⟩:=w2_ hs od sj
 refine (cV rfl (cF ep (J.cl 2 (by decide)) (J.nA 2) (bx (bx (cT))) ?_))
 exact ⟨szl 1,fun r hr'=>k r _ (new hr') af⟩
abbrev wW:Stmt:=inClass (top 16) 1
theorem R9:az ["self"] ["self"] (ai wW):=dB
theorem SV  (F:ck K "writes" "Step.writes" wW f fd) (T:Txt K mg Y.z.s) (J:dI K mg Y fS Db Bk) :aM P w K mg base bP 1 f fd ["self"] (eU N Y 3):=by
 refine F.dY R9 fun vs H Q E h=>?_
 obtain ⟨p,s0,rfl,sj,hs,od,k⟩:=h
 refine ⟨rfl,fun _ _ _ _ hr=>?_⟩
 rw [show aj wW=[_] from rfl]
 refine ⟨_,(ao (aG (aJ ah))),?_⟩
 obtain ⟨a,dx,u,w2,r0,b,n0,c0,m0,rfl,hr0,hb,hc0,ep,su,sw⟩:=w3_ hs od sj
 exact ⟨Nat.zero_le _,fun r hr'=>k r _ (new hr') af⟩
abbrev G3:Stmt:=inClass (top 21) 3
theorem XM:az ["self"] ["self"] (ai G3):=dB
theorem YB  (F:ck K "writes" "Make.writes" G3 f fd) (T:Txt K mg Y.z.s) (J:dI K mg Y fS Db Bk) (cO:Dn P w K mg base 1 "length_of" ["row"] mW):aM P w K mg base bP 2 f fd ["self"] (eU N Y 4):=by
 obtain ⟨jw,iI,cQ,bT,bV,cP⟩:=cO
 refine F.dY XM fun vs H Q E h=>?_
 obtain ⟨p,s0,rfl,sj,hs,od,k⟩:=h
 refine ⟨rfl,fun _ _ _ _ hr=>?_⟩
 rw [show aj G3=[_] from rfl]
 refine ⟨_,(ao (aG (aJ (aa (au cQ hr.m rfl bT bV cP .nil av (aa (aA (pv 0) rfl) ah)) ah)))),?_⟩
 obtain ⟨a,dx,u,r0,b,n0,rfl,hr0,hb,ep,su⟩:=w4_ hs od sj
 refine (cV rfl (cF ep (J.cl 4 (by decide)) (J.nA 4) (bx (cT)) ⟨r0,rfl,by have:=hr0.2;omega,?_⟩))
 exact ⟨szl 1,fun r hr'=>k r _ (new hr') af⟩
abbrev G2:Stmt:=inClass (top 25) 3
theorem XJ:az ["self"] ["self"] (ai G2):=dB
theorem YA  (F:ck K "writes" "Call.writes" G2 f fd) (T:Txt K mg Y.z.s) (J:dI K mg Y fS Db Bk) :aM P w K mg base bP 1 f fd ["self"] (eU N Y 6):=by
 refine F.dY XJ fun vs H Q E h=>?_
 obtain ⟨p,s0,rfl,sj,hs,od,k⟩:=h
 refine ⟨rfl,fun _ _ _ _ hr=>?_⟩
 rw [show aj G2=[_] from rfl]
 refine ⟨_,(ao (aG (aA (pv 0) rfl))),?_⟩
 obtain ⟨a,dx,t1,t2,u,l,x,q0,rfl,yZ,hl,hb,ep,e1,e2,su⟩:=w6_ hs od sj
 exact (cV rfl (cF ep (J.cl 6 (by decide)) (J.nA 6) (bx (bx (cT))) (k t1 H (aK.refl _) e1)))
abbrev Hv:Stmt:=inClass (top 17) 2
theorem XZ:az ["self"] ["self"] (ai Hv):=dB
theorem YN  (F:ck K "uses" "Let.uses" Hv f fd) (T:Txt K mg Y.z.s) (J:dI K mg Y fS Db Bk) (eZ:Mt P w K mg base 1 Y.z.s "things" ["self"] (ig Y.z.s)):aM P w K mg base bP 2 f fd ["self"] (ie N Y 0):=by
 obtain ⟨mK,jW,bw,dz,bu⟩:=eZ
 refine F.dY XZ fun vs H Q E h=>?_
 obtain ⟨p,s0,rfl,sj,hs,od,hN,k⟩:=h
 refine ⟨rfl,fun _ _ _ _ hr=>?_⟩
 rw [show aj Hv=[_] from rfl]
 refine ⟨_,(ao (aG (aT bD (aJ (aa (aA (pv 0) rfl) ah)) (bK (aA (pv 0) rfl) T.cl dz bw hr.m bu .nil av)))),?_⟩
 obtain ⟨a,dx,u,x,b,n0,rfl,hx,hb,ep,su⟩:=w0_ hs od sj
 refine (cV rfl (cF ep (J.cl 0 (by decide)) (J.nA 0) (bx (cT)) ⟨szl 1,fun r1 hr1=>?_⟩))
 have jL:=new (o:=.tup [.str x]) hr1
 obtain ⟨Uq,tqu,Ul,_,_⟩:=id su
 refine (cV rfl (cF (jL _ _ ep) (J.cl 0 (by decide)) (J.nA 0) cT ⟨u,Uq,cV rfl ⟨jL _ _ Ul,cW _ _ (by decide +kernel) (by decide +kernel),u,b,n0,rfl,su.same jL,fun ru Hu J8 Uj=>?_⟩⟩))
 have lbu:(keys b).length≤3:=by rw [show (keys b).length=b.length from List.length_map ..];exact hb.1
 refine kP (a:=[x]) (b:=keys b) (J8 _ _ af) Uj (by show 1+(keys b).length≤1000;omega) fun r H3 Lg er=>?_
 refine k r _ H3 ((jL.trans J8).trans Lg) er (fun y hy=>?_) (by rw [List.length_append];show 1+(keys b).length≤8;omega)
 rcases List.mem_append.mp hy with h | h
 ·rw [List.mem_singleton.mp h];exact hx.1
 ·exact hb.2 y h
abbrev Ht:Stmt:=inClass (top 18) 2
theorem XY:az ["self"] ["self"] (ai Ht):=dB
theorem YM  (F:ck K "uses" "Divide.uses" Ht f fd) (T:Txt K mg Y.z.s) (J:dI K mg Y fS Db Bk) (eZ:Mt P w K mg base 1 Y.z.s "things" ["self"] (ig Y.z.s)):aM P w K mg base bP 2 f fd ["self"] (ie N Y 1):=by
 obtain ⟨mK,jW,bw,dz,bu⟩:=eZ
 refine F.dY XY fun vs H Q E h=>?_
 obtain ⟨p,s0,rfl,sj,hs,od,hN,k⟩:=h
 refine ⟨rfl,fun _ _ _ _ hr=>?_⟩
 rw [show aj Ht=[_] from rfl]
 refine ⟨_,(ao (aG (aT bD (aT bD (aJ (aa (aA (pv 0) rfl) ah)) (bK (aA (pv 0) rfl) T.cl dz bw hr.m bu .nil av)) (bK (aA (pv 0) rfl) T.cl dz bw hr.m bu .nil av)))),?_⟩
 obtain ⟨a,dx,u,w2,x,b,n0,rfl,hx,hb,ep,su,sw⟩:=w1_ hs od sj
 refine (cV rfl (cF ep (J.cl 1 (by decide)) (J.nA 1) (bx (bx (bx (cT)))) ⟨szl 1,fun r1 hr1=>?_⟩))
 have jL:=new (o:=.tup [.str x]) hr1
 obtain ⟨Uq,tqu,Ul,_,_⟩:=id su
 refine (cV rfl (cF (jL _ _ ep) (J.cl 1 (by decide)) (J.nA 1) (bx (cT)) ⟨u,Uq,cV rfl ⟨jL _ _ Ul,cW _ _ (by decide +kernel) (by decide +kernel),u,b,n0,rfl,su.same jL,fun ru Hu J8 Uj=>?_⟩⟩))
 have lbu:(keys b).length≤3:=by rw [show (keys b).length=b.length from List.length_map ..];exact hb.1
 refine kP (a:=[x]) (b:=keys b) (J8 _ _ af) Uj (by show 1+(keys b).length≤1000;omega) fun r2 H3 Lg er2=>?_
 have sB:=(jL.trans J8).trans Lg
 obtain ⟨dqw,tqw,eqw,_,_⟩:=id sw
 refine (cV rfl (cF (sB _ _ ep) (J.cl 1 (by decide)) (J.nA 1) cT ⟨w2,dqw,cV rfl ⟨sB _ _ eqw,cW _ _ (by decide +kernel) (by decide +kernel),w2,[],2,rfl,sw.same sB,fun r4 H4 XI er4=>?_⟩⟩))
 refine kP (a:=[x]++keys b) (b:=keys []) (XI _ _ er2) er4 (by rw [List.length_append];show 1+(keys b).length+0≤1000;omega) fun r H5 sm5 er=>?_
 refine k r _ H5 ((sB.trans XI).trans sm5) er (fun y hy=>?_) (by rw [List.length_append,List.length_append];show 1+(keys b).length+0≤8;omega)
 rcases List.mem_append.mp hy with h | h
 ·rcases List.mem_append.mp h with h | h
  ·rw [List.mem_singleton.mp h];exact hx.1
  ·exact hb.2 y h
 ·exact absurd h List.not_mem_nil
abbrev Hs:Stmt:=inClass (top 19) 2
theorem XX:az ["self"] ["self"] (ai Hs):=dB
theorem YL  (F:ck K "uses" "Fetch.uses" Hs f fd) (T:Txt K mg Y.z.s) (J:dI K mg Y fS Db Bk) (eZ:Mt P w K mg base 1 Y.z.s "things" ["self"] (ig Y.z.s)) (cO:Dn P w K mg base 1 "length_of" ["row"] mW):aM P w K mg base bP 2 f fd ["self"] (ie N Y 2):=by
 obtain ⟨mK,jW,bw,dz,bu⟩:=eZ
 obtain ⟨jw,iI,cQ,bT,bV,cP⟩:=cO
 refine F.dY XX fun vs H Q E h=>?_
 obtain ⟨p,s0,rfl,sj,hs,od,hN,k⟩:=h
 refine ⟨rfl,fun _ _ _ _ hr=>?_⟩
 rw [show aj Hs=[_] from rfl]
 refine ⟨_,(ao (aG (aT bD (aJ (aa (aA (pv 0) rfl) (aa (au cQ hr.m rfl bT bV cP .nil av (aa (aA (pv 0) rfl) ah)) ah))) (bK (aA (pv 0) rfl) T.cl dz bw hr.m bu .nil av)))),?_⟩
 obtain ⟨a,dx,u,x,r0,b,n0,rfl,hx,hr0,hb,ep,su⟩:=w2_ hs od sj
 refine (cV rfl (cF ep (J.cl 2 (by decide)) (J.nA 2) (bx (bx (cT))) ?_))
 refine (cV rfl (cF ep (J.cl 2 (by decide)) (J.nA 2) (bx (cT)) ⟨r0,rfl,by have:=hr0.2;omega,?_⟩))
 refine ⟨szl 2,fun r1 hr1=>?_⟩
 have jL:=new (o:=.tup [.str x,.str ("#"++r0)]) hr1
 obtain ⟨Uq,tqu,Ul,_,_⟩:=id su
 refine (cV rfl (cF (jL _ _ ep) (J.cl 2 (by decide)) (J.nA 2) cT ⟨u,Uq,cV rfl ⟨jL _ _ Ul,cW _ _ (by decide +kernel) (by decide +kernel),u,b,n0,rfl,su.same jL,fun ru Hu J8 Uj=>?_⟩⟩))
 have lbu:(keys b).length≤3:=by rw [show (keys b).length=b.length from List.length_map ..];exact hb.1
 refine kP (a:=[x,"#"++r0]) (b:=keys b) (J8 _ _ af) Uj (by show 2+(keys b).length≤1000;omega) fun r H3 Lg er=>?_
 refine k r _ H3 ((jL.trans J8).trans Lg) er (fun y hy=>?_) (by rw [List.length_append];show 2+(keys b).length≤8;omega)
 rcases List.mem_append.mp hy with h | h
 ·rcases List.mem_cons.mp h with h | h
  ·rw [h];exact hx.1
  ·rw [List.mem_singleton.mp h];exact hr0.1
 ·exact hb.2 y h
abbrev Hr:Stmt:=inClass (top 20) 2
theorem XW:az ["self"] ["self"] (ai Hr):=dB
theorem YK  (F:ck K "uses" "Put.uses" Hr f fd) (T:Txt K mg Y.z.s) (J:dI K mg Y fS Db Bk) (eZ:Mt P w K mg base 1 Y.z.s "things" ["self"] (ig Y.z.s)) (cO:Dn P w K mg base 1 "length_of" ["row"] mW):aM P w K mg base bP 2 f fd ["self"] (ie N Y 3):=by
 obtain ⟨mK,jW,bw,dz,bu⟩:=eZ
 obtain ⟨jw,iI,cQ,bT,bV,cP⟩:=cO
 refine F.dY XW fun vs H Q E h=>?_
 obtain ⟨p,s0,rfl,sj,hs,od,hN,k⟩:=h
 refine ⟨rfl,fun _ _ _ _ hr=>?_⟩
 rw [show aj Hr=[_] from rfl]
 refine ⟨_,(ao (aG (aT bD (aT bD (aJ (aa (au cQ hr.m rfl bT bV cP .nil av (aa (aA (pv 0) rfl) ah)) ah)) (bK (aA (pv 0) rfl) T.cl dz bw hr.m bu .nil av)) (bK (aA (pv 0) rfl) T.cl dz bw hr.m bu .nil av)))),?_⟩
 obtain ⟨a,dx,u,w2,r0,b,n0,c0,m0,rfl,hr0,hb,hc0,ep,su,sw⟩:=w3_ hs od sj
 refine (cV rfl (cF ep (J.cl 3 (by decide)) (J.nA 3) (bx (bx (cT))) ⟨r0,rfl,by have:=hr0.2;omega,?_⟩))
 refine ⟨szl 1,fun r1 hr1=>?_⟩
 have jL:=new (o:=.tup [.str ("#"++r0)]) hr1
 obtain ⟨Uq,tqu,Ul,_,_⟩:=id su
 refine (cV rfl (cF (jL _ _ ep) (J.cl 3 (by decide)) (J.nA 3) (bx (cT)) ⟨u,Uq,cV rfl ⟨jL _ _ Ul,cW _ _ (by decide +kernel) (by decide +kernel),u,b,n0,rfl,su.same jL,fun ru Hu J8 Uj=>?_⟩⟩))
 have lbu:(keys b).length≤3:=by rw [show (keys b).length=b.length from List.length_map ..];exact hb.1
 refine kP (a:=["#"++r0]) (b:=keys b) (J8 _ _ af) Uj (by show 1+(keys b).length≤1000;omega) fun r2 H3 Lg er2=>?_
 have sB:=(jL.trans J8).trans Lg
 obtain ⟨c0E,d41,c0n,_,_⟩:=id sw
 refine (cV rfl (cF (sB _ _ ep) (J.cl 3 (by decide)) (J.nA 3) cT ⟨w2,c0E,cV rfl ⟨sB _ _ c0n,cW _ _ (by decide +kernel) (by decide +kernel),w2,c0,m0,rfl,sw.same sB,fun rw2 Hw2 a1D c0m=>?_⟩⟩))
 have d6t:(keys c0).length≤3:=by rw [show (keys c0).length=c0.length from List.length_map ..];exact hc0.1
 refine kP (a:=["#"++r0]++keys b) (b:=keys c0) (a1D _ _ er2) c0m (by rw [List.length_append];show 1+(keys b).length+(keys c0).length≤1000;omega) fun r H5 sm5 er=>?_
 refine k r _ H5 ((sB.trans a1D).trans sm5) er (fun y hy=>?_) (by rw [List.length_append,List.length_append];show 1+(keys b).length+(keys c0).length≤8;omega)
 rcases List.mem_append.mp hy with h | h
 ·rcases List.mem_append.mp h with h | h
  ·rw [List.mem_singleton.mp h];exact hr0.1
  ·exact hb.2 y h
 ·exact hc0.2 y h
abbrev Hq:Stmt:=inClass (top 21) 2
theorem XU:az ["self"] ["self"] (ai Hq):=dB
theorem YJ  (F:ck K "uses" "Make.uses" Hq f fd) (T:Txt K mg Y.z.s) (J:dI K mg Y fS Db Bk) (eZ:Mt P w K mg base 1 Y.z.s "things" ["self"] (ig Y.z.s)) (cO:Dn P w K mg base 1 "length_of" ["row"] mW):aM P w K mg base bP 2 f fd ["self"] (ie N Y 4):=by
 obtain ⟨mK,jW,bw,dz,bu⟩:=eZ
 obtain ⟨jw,iI,cQ,bT,bV,cP⟩:=cO
 refine F.dY XU fun vs H Q E h=>?_
 obtain ⟨p,s0,rfl,sj,hs,od,hN,k⟩:=h
 refine ⟨rfl,fun _ _ _ _ hr=>?_⟩
 rw [show aj Hq=[_] from rfl]
 refine ⟨_,(ao (aG (aT bD (aJ (aa (au cQ hr.m rfl bT bV cP .nil av (aa (aA (pv 0) rfl) ah)) ah)) (bK (aA (pv 0) rfl) T.cl dz bw hr.m bu .nil av)))),?_⟩
 obtain ⟨a,dx,u,r0,b,n0,rfl,hr0,hb,ep,su⟩:=w4_ hs od sj
 refine (cV rfl (cF ep (J.cl 4 (by decide)) (J.nA 4) (bx (cT)) ⟨r0,rfl,by have:=hr0.2;omega,?_⟩))
 refine ⟨szl 1,fun r1 hr1=>?_⟩
 have jL:=new (o:=.tup [.str ("#"++r0)]) hr1
 obtain ⟨Uq,tqu,Ul,_,_⟩:=id su
 refine (cV rfl (cF (jL _ _ ep) (J.cl 4 (by decide)) (J.nA 4) cT ⟨u,Uq,cV rfl ⟨jL _ _ Ul,cW _ _ (by decide +kernel) (by decide +kernel),u,b,n0,rfl,su.same jL,fun ru Hu J8 Uj=>?_⟩⟩))
 have lbu:(keys b).length≤3:=by rw [show (keys b).length=b.length from List.length_map ..];exact hb.1
 refine kP (a:=["#"++r0]) (b:=keys b) (J8 _ _ af) Uj (by show 1+(keys b).length≤1000;omega) fun r H3 Lg er=>?_
 refine k r _ H3 ((jL.trans J8).trans Lg) er (fun y hy=>?_) (by rw [List.length_append];show 1+(keys b).length≤8;omega)
 rcases List.mem_append.mp hy with h | h
 ·rw [List.mem_singleton.mp h];exact hr0.1
 ·exact hb.2 y h
abbrev Hh:Stmt:=inClass (top 22) 2
theorem XT:az ["self"] ["self"] (ai Hh):=dB
theorem YI  (F:ck K "uses" "Claim.uses" Hh f fd) (T:Txt K mg Y.z.s) (J:dI K mg Y fS Db Bk) (jf:Mt P w K mg base 3 Y.z.c "things" ["self"] (CC N Y.z)):aM P w K mg base bP 4 f fd ["self"] (ie N Y 5):=by
 obtain ⟨uT,qY,jo,jc,ji⟩:=jf
 refine F.dY XT fun vs H Q E h=>?_
 obtain ⟨p,s0,rfl,sj,hs,od,hN,k⟩:=h
 refine ⟨rfl,fun _ _ _ _ hr=>?_⟩
 rw [show aj Hh=[_] from rfl]
 refine ⟨_,(ao (aG (bK (aA (pv 0) rfl) J.cc jc jo hr.m ji .nil av))),?_⟩
 obtain ⟨a,dx,c,pc,rfl,xc,ep,hc⟩:=w5_ hs od sj
 obtain ⟨a1,n1,s1,b1,m1,ec,x1,x2,x3⟩:=id xc
 have hc0:=hc
 rw [ec] at hc0
 unfold bg at hc0
 obtain ⟨q1,QV,u1,w1,e1',DQ,_,_⟩:=hc0
 cases e1'
 refine (cV rfl (cF ep (J.cl 5 (by decide)) (J.nA 5) cT ⟨pc,QV,cV rfl ⟨DQ,jH (jH (jH rfl)),?_⟩⟩))
 refine ⟨pc,c,rfl,hc,xc,hN,fun r xs H' sm er hx hl=>k r xs H' sm er hx (by omega)⟩
abbrev G9:Stmt:=inClass (top 25) 2
theorem Ik:az ["self","found","total"] ["self"] (ai G9):=dB
theorem YH  (F:ck K "uses" "Call.uses" G9 f fd) (T:Txt K mg Y.z.s) (J:dI K mg Y fS Db Bk) (eZ:Mt P w K mg base 1 Y.z.s "things" ["self"] (ig Y.z.s)):aM P w K mg base bP 2 f fd ["self"] (ie N Y 6):=by
 obtain ⟨mK,jW,bw,dz,bu⟩:=eZ
 refine F.dY Ik fun vs H Q E h=>?_
 obtain ⟨p,s0,rfl,sj,hs,od,hN,k⟩:=h
 refine ⟨rfl,fun _ _ _ _ hr=>?_⟩
 rw [show aj G9=[_,_,_] from rfl]
 refine ⟨_,(ak (aO (i:=1) Ik.nd rfl (Or.inl rfl) (aU tN (by rfl) T.list boot_list (aa (aA (pv 0) rfl) ah)))
   (ak (dm PassesOwn.never rfl (iA (aA (pv 0) rfl)) (aN (i:=2) Ik.nd rfl (Or.inl rfl)) (ao (bB (fO PySem.F.plainAttrs_list PySem.F.slot_list_extend PySem.F.type_list_extend nu (pv 1) (aa (bK (pv 2) T.cl dz bw hr.m bu .nil av) ah)))))
   (ao (aG (aU aW (by rfl) T.tuple boot_tuple (aa (pv 1) ah)))))),?_⟩
 obtain ⟨a,dx,t1,t2,u,l,x,q0,rfl,yZ,hl,hb,ep,e1,e2,su⟩:=w6_ hs od sj
 have l2:l.length≤2:=by rcases yZ with ⟨_,z⟩ | ⟨_,z⟩ | ⟨_,z⟩ <;> omega
 refine (cV rfl (cF ep (J.cl 6 (by decide)) (J.nA 6) (bx (bx (cT))) ⟨t1,cV rfl ⟨.inr (bG.of e1),fun F hF=>?_⟩⟩))
 have sF:=new (o:=.lst (l.map V.str)) hF
 refine (cV rfl (cF (sF _ _ ep) (J.cl 6 (by decide)) (J.nA 6) cT ⟨t2,rfl,⟨_,bG.of (sF _ _ e2)⟩,jQ (xs:=[.ref u]) (fun i σ H'=>∃ (tt:Option V) (ys:List Str),σ=[some (.ref p),some (.ref F),tt]∧aR F (upd H F (.lst (l.map V.str))) H'∧H' F=some (.lst ((l++ys).map V.str))∧(∀ y∈ys,y∈N)∧ys.length≤3*i) ⟨none,[],rfl,fun _ _ z _=>z,(by rw [List.append_nil];exact af),fun _ h=>absurd h List.not_mem_nil,Nat.zero_le _⟩ ?_ ?_ ?_⟩))
 ·rintro i σ H' _ ⟨tt,ys,rfl,but,_⟩
  exact bG.of (but _ _ (sF _ _ e2) (aq e2 hF))
 ·rintro i y σ H' RD ⟨tt,ys,rfl,but,eF,hys,ly⟩
  obtain ⟨rfl,rfl⟩:i=0∧y=.ref u:=by
   match i,RD with
   | 0,RD=>cases RD;exact ⟨rfl,rfl⟩
  have hk:aD (upd H F (.lst (l.map V.str))) H':=aD.soft but af eV
  have S:=(su.same sF).aE hk
  obtain ⟨dq,tq,eq,_,_⟩:=id S
  have lb:(keys q0.1).length≤3:=by rw [show (keys q0.1).length=q0.1.length from List.length_map ..];exact hb.1
  refine (cV rfl ⟨.inl ⟨rfl,_,bH.of eF⟩,cV rfl ⟨u,dq,cV rfl ⟨eq,cW _ _ (by decide +kernel) (by decide +kernel),u,q0.1,q0.2,rfl,S,fun r H2 qc er=>?_⟩⟩⟩)
  refine ⟨F,r,_,cV rfl ⟨rfl,qc _ _ eF,bG.of er,Nat.le_of_lt (line _ (by rw [List.length_map,List.length_map,List.length_append];omega)),?_⟩⟩
  refine ⟨some (.ref u),ys++keys q0.1,rfl,(but.trans (aR.of qc)).trans aR.upd,by rw [← List.append_assoc,show ((l++ys++keys q0.1).map V.str)=(l++ys).map V.str++(keys q0.1).map V.str from List.map_append ..];exact af,fun z hz=>?_,by rw [List.length_append];omega⟩
  rcases List.mem_append.mp hz with h | h
  ·exact hys z h
  ·exact hb.2 z h
 ·rintro σ H' ⟨tt,ys,rfl,but,eF,hys,ly⟩
  have ly:ys.length≤3:=ly
  refine (cV rfl ⟨F,cV rfl (.inl ⟨bH.of eF,fun t ht=>?_⟩)⟩)
  have sE:aK H (upd H' t (.tup ((l++ys).map V.str))):=fun b' o' e'=>new ht _ _ (but _ _ (sF _ _ e') (aq e' hF))
  refine k t _ _ sE af (fun y hy=>?_) (by rw [List.length_append];omega)
  rcases List.mem_append.mp hy with h | h
  ·exact (hl y h).1
  ·exact hys y h
abbrev G8:Stmt:=inClass (top 23) 2
theorem XS:az ["self"] ["self"] (ai G8):=dB
theorem YG  (F:ck K "uses" "Choose.uses" G8 f fd) (T:Txt K mg Y.z.s) (J:dI K mg Y fS Db Bk) (jf:Mt P w K mg base 3 Y.z.c "things" ["self"] (CC N Y.z)):aM P w K mg base bP 4 f fd ["self"] (ie N Y 7):=by
 obtain ⟨uT,qY,jo,jc,ji⟩:=jf
 refine F.dY XS fun vs H Q E h=>?_
 obtain ⟨p,s0,rfl,sj,hs,od,hN,k⟩:=h
 refine ⟨rfl,fun _ _ _ _ hr=>?_⟩
 rw [show aj G8=[_] from rfl]
 refine ⟨_,(ao (aG (bK (aA (pv 0) rfl) J.cc jc jo hr.m ji .nil av))),?_⟩
 obtain ⟨a,dx,c,pc,t,e,t1,t2,us,ws,rfl,xc,ep,hc,e1,h1,e2,h2,o1,o2,o5,o6⟩:=w7_ hs od sj
 obtain ⟨a1,n1,s1,b1,m1,ec,x1,x2,x3⟩:=id xc
 have hc0:=hc
 rw [ec] at hc0
 unfold bg at hc0
 obtain ⟨q1,QV,u1,w1,e1',DQ,_,_⟩:=hc0
 cases e1'
 refine (cV rfl (cF ep (J.cl 7 (by decide)) (J.nA 7) (bx (bx (cT))) ⟨pc,QV,cV rfl ⟨DQ,jH (jH (jH rfl)),?_⟩⟩))
 refine ⟨pc,c,rfl,hc,xc,hN,fun r xs H' sm er hx hl=>k r xs H' sm er hx (by omega)⟩
abbrev G7:Stmt:=inClass (top 24) 2
theorem XR:az ["self"] ["self"] (ai G7):=dB
theorem YF  (F:ck K "uses" "Repeat.uses" G7 f fd) (T:Txt K mg Y.z.s) (J:dI K mg Y fS Db Bk) (jf:Mt P w K mg base 3 Y.z.c "things" ["self"] (CC N Y.z)):aM P w K mg base bP 4 f fd ["self"] (ie N Y 8):=by
 obtain ⟨uT,qY,jo,jc,ji⟩:=jf
 refine F.dY XR fun vs H Q E h=>?_
 obtain ⟨p,s0,rfl,sj,hs,od,hN,k⟩:=h
 refine ⟨rfl,fun _ _ _ _ hr=>?_⟩
 rw [show aj G7=[_] from rfl]
 refine ⟨_,(ao (aG (bK (aA (pv 0) rfl) J.cc jc jo hr.m ji .nil av))),?_⟩
 obtain ⟨a,dx,c,pc,b,tk,t2,ws,rfl,xc,ep,hc,ek,e2,h2,o1,o3⟩:=Xz hs od sj
 obtain ⟨a1,n1,s1,b1,m1,ec,x1,x2,x3⟩:=id xc
 have hc0:=hc
 rw [ec] at hc0
 unfold bg at hc0
 obtain ⟨q1,QV,u1,w1,e1',DQ,_,_⟩:=hc0
 cases e1'
 refine (cV rfl (cF ep (J.cl 8 (by decide)) (J.nA 8) (bx (bx (bx (cT)))) ⟨pc,QV,cV rfl ⟨DQ,jH (jH (jH rfl)),?_⟩⟩))
 refine ⟨pc,c,rfl,hc,xc,hN,fun r xs H' sm er hx hl=>k r xs H' sm er hx (by omega)⟩
abbrev iY:Stmt:=top 27
theorem CJ:az ["pairs"] ["pairs"] (ai iY):=dB
theorem C9  (F:ck K "as_pairs" "as_pairs" iY f fd) (T:Txt K mg Y.z.s) (J:dI K mg Y fS Db Bk) :aM P w K mg base bP 1 f fd ["pairs"] HU:=by
 refine F.dY CJ fun vs H Q E h=>?_
 obtain ⟨t,rfl,et,k⟩:=h
 refine ⟨rfl,fun _ _ _ _ hr=>?_⟩
 rw [show aj iY=[_] from rfl]
 refine ⟨_,(ao (aG (aU aW (by rfl) T.tuple boot_tuple (aa (iB (dg ["pair"] [] [] rfl (by decide +kernel) (by decide +kernel) (by with_unfolding_all rfl) (by exact trivial) (by rfl) rfl (by rfl)) rfl (iA (pv 0)) (fun _ _ _ _=>(aN (i:=0) (show List.Nodup (["pair"]:List Str) by decide +kernel) rfl (Or.inl rfl) (Or.inr rfl))) (fun _ _ _ _=>iz) (fun _ _ _ _=>(aU (pG (K:=K) rfl) (by rfl) T.tuple boot_tuple (aa (pv 0) ah)))) ah)))),?_⟩
 refine (cV rfl ⟨t,rfl,⟨_,bG.of et⟩,mP (xs:=[]) (fun i ys H'=>H'=H∧ys=[]) ⟨rfl,rfl⟩ (fun i ys H' _ q=>by rw [q.1];exact bG.of et) ?_ ?_⟩)
 ·intro i x ys H' hix
  exact absurd hix (by simp)
 ·rintro ys H' ⟨rfl,rfl⟩ q hq
  exact ⟨q,cV rfl (.inl ⟨bH.of af,fun t2 BA=>k t2 _ (aK.new (new hq) BA) af⟩)⟩
abbrev w6:Stmt:=top 6
theorem Sm:az ["thing"] ["thing"] (ai w6):=dB
theorem Th  (F:ck K "once" "once" w6 f fd) (T:Txt K mg Y.z.s) (J:dI K mg Y fS Db Bk) (iJ:Mr P w K mg base 1 Y.z.s ["self","terms","number"] (mX Y.z.s)):aM P w K mg base bP 3 f fd ["thing"] (um Y.z.s):=by
 obtain ⟨DP,yc,cz,yy,cy⟩:=iJ
 refine F.dY Sm fun vs H Q E h=>?_
 obtain ⟨x,rfl,k⟩:=h
 refine ⟨rfl,fun _ _ _ _ hr=>?_⟩
 rw [show aj w6=[_] from rfl]
 refine ⟨_,(ao (aG (br yy cz hr.m rfl T.qT cy .nil av (aa (aJ (aa (aJ (aa (pv 0) (aa aH ah))) ah)) (aa aH ah))))),?_⟩
 refine (cV rfl ⟨szl 2,fun r1 hr1=>?_⟩)
 refine ⟨szl 1,fun r2 hr2=>?_⟩
 have s2:=aK.new (new (o:=.tup [.str x,.int 1]) hr1) (o:=.tup [.ref r1]) hr2
 intro x2 eO gm eX ne2
 have s4:=aV (o:=.own x2) (o':=.ins Y.z.s eO []) gm eX
 refine ⟨x2,eO,r2,0,[(x,1)],rfl,af,.inr ⟨[.ref r1],s4 _ _ af,.cons ⟨r1,rfl,s4 _ _ (new hr2 _ _ af)⟩ .nil⟩,(by show 1≤1000;decide),fun H5 mR S5=>⟨rfl,?_⟩⟩
 exact k x2 H5 (fun b' o' e'=>mR _ _ (s4 _ _ (s2 _ _ e')) (aq (s2 _ _ e') gm)) S5
abbrev gA:Stmt:=top 26
theorem Au:az ["row"] ["row"] (ai gA):=dB
theorem AI  (F:ck K "length_of" "length_of" gA f fd) (T:Txt K mg Y.z.s) (J:dI K mg Y fS Db Bk) :aM P w K mg base bP 1 f fd ["row"] mW:=by
 refine F.dY Au fun vs H Q E h=>?_
 obtain ⟨x,rfl,hx,k⟩:=h
 refine ⟨rfl,fun _ _ _ _ hr=>?_⟩
 rw [show aj gA=[_] from rfl]
 refine ⟨_,(ao (aG (aT gO aZ (pv 0)))),?_⟩
 exact (cV rfl ⟨_,cV rfl ⟨rfl,Nat.le_of_lt (line _ (by rw [show ("#":Str).length=1 by decide +kernel];omega)),k⟩⟩)
abbrev dS:Stmt:=top 31
theorem gy:az ["steps","found","step","block"] ["steps"] (ai dS):=dB
theorem vK  (F:ck K "steps_within" "steps_within" dS f fd) (T:Txt K mg Y.z.s) (J:dI K mg Y fS Db Bk) (uX:M9 P w K mg base 2 Y "blocks" ["self"] (dN N Y)) (gc:Dn P w K mg base (2*n+4) "steps_within" ["steps"] (gS N Y n)):aM P w K mg base bP (2*n+6) f fd ["steps"] (gS N Y (n+1)):=by
 obtain ⟨kK,jJ,dG,cS,cU,dD⟩:=gc
 refine F.dY gy fun vs H Q E h=>?_
 obtain ⟨t,us,l,rfl,ea,hst,od,hd,hz,k⟩:=h
 refine ⟨rfl,fun _ _ _ _ hr=>?_⟩
 rw [show aj dS=[_,_,_] from rfl]
 refine ⟨_,(ak (aO (i:=1) gy.nd rfl (Or.inl rfl) (bC ah))
   (ak (dm PassesOwn.never rfl (AE (pv 0)) (aN (i:=2) gy.nd rfl (Or.inl rfl)) (ak (bB (fO PySem.F.plainAttrs_list PySem.F.slot_list_append PySem.F.type_list_append iZ (pv 1) (aa (pv 2) ah)))
   (ao (dm PassesOwn.never rfl (iA (AF (Y:=Y) (pv 2) J.cl xH uX hr.m av)) (aN (i:=3) gy.nd rfl (Or.inl rfl)) (ao (bB (fO PySem.F.plainAttrs_list PySem.F.slot_list_extend PySem.F.type_list_extend pQ (pv 1) (aa (au dG hr.m rfl cS cU dD .nil av (aa (pv 3) ah)) ah))))))))
   (ao (aG (pv 1))))),?_⟩
 dsimp only [jR,Cx.yN]
 refine ⟨(Nat.zero_le _),fun F hF=>?_⟩
 have sF:=new (o:=.lst []) hF
 refine (cV rfl ⟨t,rfl,?_⟩)
 refine KH (ea.elim (fun z=>.inl (sF _ _ z)) fun z=>.inr (sF _ _ z)) (fun i σ H'=>∃ (a2 a3:Option V) (ws:List V),σ=[some (.ref t),some (.ref F),a2,a3]∧aR F (upd H F (.lst [])) H'∧H' F=some (.lst ws)∧bE Y H' (dR (l.take i)) ws) ⟨none,none,[],rfl,fun _ _ z _=>z,af,(by rw [List.take_zero];unfold dR bE;rfl)⟩ ?_ ?_ ?_
 ·rintro i σ H' ⟨a2,a3,ws,rfl,but,eF,hw⟩ o e
  have nt:t≠F:=by rcases ea with z | z <;> exact aq z hF
  exact but _ _ e nt
 ·rintro i x σ H' hix ⟨a2,a3,ws,rfl,but,eF,hw⟩
  obtain ⟨s0,p,hsi,rfl,hx⟩:=ue hst hix
  have hm:=List.mem_of_getElem? hsi
  have o0:=sI od hm
  have sA:aK H H':=fun b' o' e'=>but _ _ (sF _ _ e') (aq e' hF)
  have hx':=hx.aE (aD.of sA)
  have d0:=tF hm
  have w0:(dR (l.take (i+1))).length≤(dR l).length:=MZ _ _
  rw [take_snoc hsi,wO,List.length_append] at w0
  have lw:ws.length=(dR (l.take i)).length:=fQ hw
  have e0:s0.wi.length=(JU (EC s0)).length+1:=by rw [MY];rfl
  refine (cV rfl ⟨.inl ⟨rfl,_,bH.of eF⟩,cV rfl ⟨F,ws,cV rfl ⟨rfl,eF,line _ (by omega),?_⟩⟩⟩)
  have b1:aR F H' (upd H' F (.lst (ws++[.ref p]))):=aR.upd
  have k1:aD H' (upd H' F (.lst (ws++[.ref p]))):=aD.soft b1 eF eV
  refine (cV rfl ⟨p,s0,rfl,hx'.aE k1,p,s0,rfl,rfl,hx'.aE k1,o0,fun r bs H2 qc er pb=>?_⟩)
  have eF2:H2 F=some (.lst (ws++[.ref p])):=qc _ _ af
  have nrF:r≠F:=fun z=>by rw [z,eF2] at er;cases er
  have w2:bE Y H2 (dR (l.take i)++[s0]) (ws++[.ref p]):=Cr ((hw.aE k1).aE (aD.of qc)) ((hx'.aE k1).aE (aD.of qc))
  refine ⟨r,rfl,⟨bs,bG.of er⟩,jQ (xs:=bs) (fun k' σ H3=>∃ (a3:Option V) (U4:List V),σ=[some (.ref t),some (.ref F),some (.ref p),a3]∧aR F H2 H3∧H3 F=some (.lst U4)∧bE Y H3 (dR (l.take i)++s0::JU ((EC s0).take k')) U4) ⟨a3,ws++[.ref p],rfl,fun _ _ z _=>z,eF2,(by rw [List.take_zero];exact w2)⟩ ?_ ?_ ?_⟩
  ·rintro k' σ H3 _ ⟨a3,U4,rfl,b3,e3,w3⟩
   exact bG.of (b3 _ _ er nrF)
  ·rintro k' y σ H3 hky ⟨a3,U4,rfl,b3,e3,w3⟩
   obtain ⟨b0,hb,tb,ub,rfl,etb,hbs⟩:=gg pb hky
   have mb:=List.mem_of_getElem? hb
   obtain ⟨ob,db,lb⟩:=KZ o0 mb
   have k3:aD H2 H3:=aD.soft b3 eF2 eV
   have l3:=fQ w3
   rw [List.length_append,List.length_cons] at l3
   have t3:(JU ((EC s0).take (k'+1))).length≤(JU (EC s0)).length:=M0 _ _
   rw [take_snoc hb,Cj,List.length_append] at t3
   refine (cV rfl ⟨.inl ⟨rfl,_,bH.of e3⟩,cV rfl ⟨tb,ub,b0,rfl,.inl (k3.t _ _ etb),hbs.aE k3,ob,by omega,by omega,fun R ws2 H4 XI fr4 eR hR=>?_⟩⟩)
   have l4:=fQ hR
   refine ⟨F,R,_,cV rfl ⟨rfl,XI _ _ e3,eR,Nat.le_of_lt (line _ (by omega)),?_⟩⟩
   refine ⟨some (.ref tb),U4++ws2,rfl,(b3.trans (aR.of XI)).trans aR.upd,af,?_⟩
   have k5:aD H4 (upd H4 F (.lst (U4++ws2))):=aD.soft aR.upd (XI _ _ e3) eV
   have fin:=RZ ((w3.aE (aD.of XI)).aE k5) (hR.aE k5)
   rw [take_snoc hb,Cj]
   rw [List.append_assoc,List.cons_append] at fin
   exact fin
  ·rintro σ H3 ⟨a3,U4,rfl,b3,e3,w3⟩
   refine ⟨some (.ref p),a3,U4,rfl,((but.trans b1).trans (aR.of qc)).trans b3,e3,?_⟩
   rw [bI pb,List.take_length] at w3
   rw [take_snoc hsi,wO,MY s0]
   exact w3
 ·rintro σ H' ⟨a2,a3,ws,rfl,but,eF,hw⟩
  rw [fQ hst,List.take_length] at hw
  exact (cV rfl (k F ws H' (fun b' o' e'=>but _ _ (sF _ _ e') (aq e' hF)) hF eF hw))
abbrev dU:Stmt:=top 32
theorem om:az ["step","rows"] ["step"] (ai dU):=dB
theorem vL  (F:ck K "rows_of_step" "rows_of_step" dU f fd) (T:Txt K mg Y.z.s) (J:dI K mg Y fS Db Bk) (UR:M9 P w K mg base 5 Y "uses" ["self"] (ie N Y)) (jf:Mt P w K mg base 3 Y.z.c "things" ["self"] (CC N Y.z)):aM P w K mg base bP 6 f fd ["step"] (J2 N Y):=by
 obtain ⟨uT,qY,jo,jc,ji⟩:=jf
 refine F.dY om fun vs H Q E h=>?_
 obtain ⟨p,s0,rfl,hs,od,hN,k⟩:=h
 refine ⟨rfl,fun _ _ _ _ hr=>?_⟩
 rw [show aj dU=[_,_,_] from rfl]
 refine ⟨_,(ak (aO (i:=1) om.nd rfl (Or.inl rfl) (bC (aa (aJ (aa (aA (pv 0) rfl) (aa (AF (Y:=Y) (pv 0) J.cl OR UR hr.m av) ah))) ah)))
   (ak (cA (gM (aX (fK (c:=.ref Y.rp) trivial) (by rfl) T.isinstance boot_isinstance (aa (pv 0) (aa (cE (v:=.ref Y.rp) rfl J.mg8 rfl) ah)))) (ak (bB (fO PySem.F.plainAttrs_list PySem.F.slot_list_extend PySem.F.type_list_extend pQ (pv 1) (aa (iB (dg ["at","condition"] [] [] rfl (by decide +kernel) (by decide +kernel) (by with_unfolding_all rfl) (by exact trivial) (by rfl) rfl (by rfl)) rfl (iA (aA (pv 0) rfl)) (fun _ _ _ _=>(rY (K:=K) (n:=2) rfl rfl (bq (aN (i:=0) (show List.Nodup (["at","condition"]:List Str) by decide +kernel) rfl (Or.inl rfl) (Or.inr rfl)) (bq (aN (i:=1) (show List.Nodup (["at","condition"]:List Str) by decide +kernel) rfl (Or.inl rfl) (Or.inr rfl)) fU)))) (fun _ _ _ _=>iz) (fun _ _ _ _=>(aJ (aa (pv 0) (aa (bK (pv 1) J.cc jc jo hr.m ji .nil av) ah))))) ah)))
   (ao (cA (bJ AG (aA (pv 0) rfl) uz (bM _)) (ao gz) bh))) bh)
   (ao (aG (pv 1))))),?_⟩
 have h4:=qe hs
 obtain ⟨dx,fs,ep,la⟩:=step_at hs
 refine (cV rfl ⟨p,_,dx,fs,cV rfl ⟨ep,J.cl _ h4,J.na _ _ h4 (a5p h4),la,?_⟩⟩)
 refine (cV rfl ⟨p,s0,rfl,hs,p,s0,rfl,rfl,hs,od,hN,fun r xs H1 jL er hx hl=>?_⟩)
 refine ⟨szl 2,fun q hq=>?_⟩
 refine ⟨szl 1,fun L hL=>?_⟩
 have sA:aK H1 (upd (upd H1 q (.tup [.int s0.pl,.ref r])) L (.lst [.ref q])):=aK.new (new hq) hL
 have fL:H L=none:=mG (jL.trans (new hq)) hL
 have fin:∀ H',aK (upd (upd H1 q (.tup [.int s0.pl,.ref r])) L (.lst [.ref q])) H'→Q (.ref L) H':=fun H' s' =>
  k L q r s0.pl xs H' ((jL.trans sA).trans s') fL (s' _ _ af) (s' _ _ (new hL _ _ af)) (s' _ _ (sA _ _ er)) hx hl
 have hs2:=hs.aE (aD.of (jL.trans sA))
 refine (cV rfl ⟨_,_,_,cV rfl ⟨jZ T J hs2,rfl,J.kk _ 8 h4 (by decide),cV rfl ?_⟩⟩)
 by_cases h8:kd s0=8
 ·refine nK (decide_eq_true h8) ?_
  obtain ⟨a,dx8,c,pc,b,tk,t2,ws,rfl,xc,ep8,hc,ek,e2,h2,o1,o3⟩:=Xz hs2 od h8
  refine (cV rfl ⟨.inl ⟨rfl,_,bH.of af⟩,cV rfl (cF ep8 (J.cl 8 (by decide)) (J.nA 8) (bx (bx cT)) ⟨tk,rfl,⟨[],bG.of ek⟩,mP (xs:=[]) (fun i ys H'=>H'=upd (upd H1 q (.tup [.int (aI.rep a c [] none b).pl,.ref r])) L (.lst [.ref q])∧ys=[]) ⟨rfl,rfl⟩ (fun i ys H' _ z=>by rw [z.1];exact bG.of ek) (fun i x ys H' hix=>absurd hix (by simp)) ?_⟩)⟩)
  rintro ys H' ⟨rfl,rfl⟩ z hz
  have nz:L≠z:=aq af hz
  refine ⟨L,z,_,cV rfl ⟨rfl,(by rw [aL nz];exact af),af,(show ([V.ref q]:List V).length+([]:List V).length≤sizeLine from Nat.le_of_lt (line 1 (by decide))),?_⟩⟩
  have eq5:upd (upd (upd (upd H1 q (.tup [.int (aI.rep a c [] none b).pl,.ref r])) L (.lst [.ref q])) z (.lst [])) L (.lst ([.ref q]++[]))=upd (upd (upd H1 q (.tup [.int (aI.rep a c [] none b).pl,.ref r])) L (.lst [.ref q])) z (.lst []):=M1 (by rw [aL nz];exact af)
  rw [eq5]
  have sz:=new (o:=.lst []) hz
  refine (cV rfl (cF (sz _ _ ep8) (J.cl 8 (by decide)) (J.nA 8) (bx cT) ?_))
  exact ⟨rfl,cV rfl (iM (by simp) (cV rfl (fin _ sz)))⟩
 ·refine iM (decide_eq_false h8) ?_
  exact (cV rfl (fin _ (aK.refl _)))
abbrev dW:Stmt:=top 33
theorem fH:az ["helper","found","step","at","things"] ["helper"] (ai dW):=dB
theorem vM  (F:ck K "other_things" "other_things" dW f fd) (T:Txt K mg Y.z.s) (J:dI K mg Y fS Db Bk) (gc:Dn P w K mg base (2*n+4) "steps_within" ["steps"] (gS N Y n)) (yi:Dn P w K mg base 6 "rows_of_step" ["step"] (J2 N Y)):aM P w K mg base bP (2*n+8) f fd ["helper"] (Cw N Y n):=by
 obtain ⟨kK,jJ,dG,cS,cU,dD⟩:=gc
 obtain ⟨QG,MG,yz,vN,vP,yq⟩:=yi
 refine F.dY fH fun vs H Q E h=>?_
 obtain ⟨p,h,l,rfl,hh,hx,od,hB,hd,hz,k⟩:=h
 refine ⟨rfl,fun _ _ _ _ hr=>?_⟩
 rw [show aj dW=[_,_,_] from rfl]
 refine ⟨_,(ak (aO (i:=1) fH.nd rfl (Or.inl rfl) (aU tN (by rfl) T.list boot_list (aa (aA (pv 0) rfl) ah)))
   (ak (dm PassesOwn.never rfl (gf (au dG hr.m rfl cS cU dD .nil av (aa (aA (pv 0) rfl) ah))) (aN (i:=2) fH.nd rfl (Or.inl rfl)) (ao (dm PassesOwn.never rfl (gf (au yz hr.m rfl vN vP yq .nil av (aa (pv 2) ah))) (lQ rfl (bq (aN (i:=3) fH.nd rfl (Or.inl rfl)) (bq (aN (i:=4) fH.nd rfl (Or.inl rfl)) fU))) (ao (bB (fO PySem.F.plainAttrs_list PySem.F.slot_list_extend PySem.F.type_list_extend nu (pv 1) (aa (pv 4) ah)))))))
   (ao (aG (aX (jS rfl) (by rfl) T.sorted boot_sorted (aa (aT SM (aU (pX rfl) (by rfl) J.set PyProof.Rows.boot_set (aa (pv 1) ah)) (aU (Mi rfl) (by rfl) J.set PyProof.Rows.boot_set (aa (aA (pv 0) rfl) ah))) ah)))))),?_⟩
 dsimp only [jR,Cx.yN]
 obtain ⟨hp1,hpl,hpn,hp2,hp3,Zw,hp5⟩:=hx
 obtain ⟨p',dx,t1,t2,v1,v2,t3,us,e,ep,e1,e2,h1,h2,e3,lu,hst⟩:=hh
 cases e
 rw [hp2] at e2
 rw [hp5] at hst
 have hN:N.length < 64:=by have:=hB.l;omega
 have hne:h.ps≠[]:=hpn
 refine (cV rfl (cF ep J.ch (J.nH) (bx (bx (bx cT))) ⟨t2,cV rfl ⟨.inr (bG.of e2),fun F hF=>?_⟩⟩))
 have sF:=new (o:=.lst []) hF
 refine (cV rfl (cF (sF _ _ ep) J.ch (J.nH) cT ?_))
 refine ⟨t3,us,l,rfl,.inl (sF _ _ e3),hst.aE (aD.of sF),od,hd,hz,fun R ws H1 jL fR eR hR=>?_⟩
 have sH:=sF.trans jL
 have Up:H1 F=some (.lst []):=jL _ _ af
 have Vs:R≠F:=fun z=>by rw [z,af] at fR;cases fR
 have lw:=fQ hR
 refine ⟨R,rfl,⟨ws,bH.of eR⟩,fJ (xs:=ws) (fun i σ H'=>∃ (a2 a3 a4:Option V) (xs:List Str),σ=[some (.ref p),some (.ref F),a2,a3,a4]∧aR F H1 H'∧H' F=some (.lst (xs.map V.str))∧(∀ x∈xs,x∈N)∧xs.length≤8*i) ⟨none,none,none,[],rfl,fun _ _ z _=>z,Up,fun _ h=>absurd h List.not_mem_nil,Nat.zero_le _⟩ ?_ ?_ ?_⟩
 ·rintro i σ H' _ ⟨a2,a3,a4,xs,rfl,but,_⟩
  exact bH.of (but _ _ eR Vs)
 ·rintro i x σ H' hix ⟨a2,a3,a4,xs,rfl,but,eF,hxy,hl⟩
  obtain ⟨s0,q,hsi,rfl,hs⟩:=ue hR hix
  have hm:=List.mem_of_getElem? hsi
  have o0:=lF od _ hm
  have TX:=(List.getElem?_eq_some_iff.mp hix).1
  have k1:aD H1 H':=aD.soft but Up eV
  refine (cV rfl ⟨q,s0,rfl,hs.aE k1,o0,hN,fun L r t a xs2 H2 qc fL eL er et gm hl2=>?_⟩)
  have nL:L≠F:=fun z=>by rw [z,eF] at fL;cases fL
  refine ⟨L,rfl,⟨_,bH.of eL⟩,fJ (xs:=[.ref r]) (fun j σ H3=>∃ (a3 a4:Option V) (ys:List Str),σ=[some (.ref p),some (.ref F),some (.ref q),a3,a4]∧aR F H2 H3∧H3 F=some (.lst (ys.map V.str))∧(∀ x∈ys,x∈N)∧ys.length≤8*(i+j)) ⟨a3,a4,xs,rfl,fun _ _ z _=>z,qc _ _ eF,hxy,hl⟩ ?_ ?_ ?_⟩
  ·rintro j σ H3 _ ⟨a3,a4,ys,rfl,b3,_⟩
   exact bH.of (b3 _ _ eL nL)
  ·rintro j y σ H3 Vy ⟨a3,a4,ys,rfl,b3,e3',hy,ly⟩
   have k3:aD H2 H3:=aD.soft b3 (qc _ _ eF) eV
   obtain ⟨rfl,rfl⟩:j=0∧y=.ref r:=by
    match j,Vy with
    | 0,Vy=>cases Vy;exact ⟨rfl,rfl⟩
   refine ⟨r,cV rfl ⟨bG.of (k3.t _ _ er),rfl,_,cV rfl ⟨_,cV rfl ⟨rfl,?_⟩⟩⟩⟩
   refine (cV rfl ⟨.inl ⟨rfl,_,bH.of e3'⟩,cV rfl ⟨F,t,_,cV rfl ⟨rfl,e3',bG.of (k3.t _ _ et),Nat.le_of_lt (line _ (by rw [List.length_map,List.length_map];omega)),?_⟩⟩⟩)
   refine ⟨some (.int a),some (.ref t),ys++xs2,rfl,b3.trans aR.upd,by rw [List.map_append];exact af,fun x hx=>?_,by rw [List.length_append];omega⟩
   rcases List.mem_append.mp hx with z | z
   ·exact hy x z
   ·exact gm x z
  ·rintro σ H3 ⟨a3,a4,ys,rfl,b3,e3',hy,ly⟩
   exact ⟨some (.ref q),a3,a4,ys,rfl,(but.trans (aR.of qc)).trans b3,e3',hy,ly⟩
 ·rintro σ H' ⟨a2,a3,a4,xs,rfl,but,eF,hxy,hl⟩
  have hl:xs.length≤3200:=by omega
  have sA:aK H H':=fun b' o' e'=>but _ _ (sH _ _ e') (aq e' hF)
  refine (cV rfl ⟨F,xs,N,rfl,bH.of eF,by omega,hN,hxy,fun q hq=>?_⟩)
  have s1:=sA.trans (new (o:=qq P w q xs) hq)
  refine (cV rfl (cF (s1 _ _ ep) J.ch (J.nH) (bx (bx (bx (bx cT)))) ⟨t1,h.ps,rfl,bG.of (s1 _ _ e1),by omega,fun q2 hq2=>?_⟩))
  have s2:=s1.trans (new (o:=qq P w q2 h.ps) hq2)
  refine ⟨q,q2,xs,h.ps,N,rfl,rfl,new hq2 _ _ af,af,hB.l,hxy,hne,fun q3 zs hq3 hz3=>?_⟩
  have s3:=s2.trans (new (o:=qq P w q3 zs) hq3)
  refine ⟨q3,zs,rfl,af,fun l2 ys hl2 hm nd _ _=>?_⟩
  have hys:∀ x∈ys,x∈N:=fun x hx=>hxy x ((hz3 x).mp ((hm x).mp hx)).1
  have ly:=ku nd hys
  exact k l2 ys _ (s3.trans (new hl2)) (mG s3 hl2) af (by omega)
abbrev cR:Stmt:=top 34
theorem iu:az ["steps","found","step"] ["steps"] (ai cR):=dB
theorem sr  (F:ck K "things_written" "things_written" cR f fd) (T:Txt K mg Y.z.s) (J:dI K mg Y fS Db Bk) (gc:Dn P w K mg base (2*n+4) "steps_within" ["steps"] (gS N Y n)) (My:M9 P w K mg base 2 Y "writes" ["self"] (eU N Y)):aM P w K mg base bP (2*n+5) f fd ["steps"] (qm N Y n):=by
 obtain ⟨kK,jJ,dG,cS,cU,dD⟩:=gc
 refine F.dY iu fun vs H Q E h=>?_
 obtain ⟨t,us,l,rfl,et,hst,od,hB,hd,hz,k⟩:=h
 refine ⟨rfl,fun _ _ _ _ hr=>?_⟩
 rw [show aj cR=[_,_,_] from rfl]
 refine ⟨_,(ak (aO (i:=1) iu.nd rfl (Or.inl rfl) (bC ah))
   (ak (dm PassesOwn.never rfl (gf (au dG hr.m rfl cS cU dD .nil av (aa (pv 0) ah))) (aN (i:=2) iu.nd rfl (Or.inl rfl)) (ao (bB (fO PySem.F.plainAttrs_list PySem.F.slot_list_extend PySem.F.type_list_extend nu (pv 1) (aa (AF (Y:=Y) (pv 2) J.cl IE My hr.m av) ah)))))
   (ao (aG (aX (jS rfl) (by rfl) T.sorted boot_sorted (aa (aU (pX rfl) (by rfl) J.set PyProof.Rows.boot_set (aa (pv 1) ah)) ah)))))),?_⟩
 have hN:N.length < 64:=by have:=hB.l;omega
 refine ⟨(Nat.zero_le _),fun F hF=>?_⟩
 have sF:=new (o:=.lst []) hF
 refine (cV rfl ⟨t,us,l,rfl,.inl (sF _ _ et),hst.aE (aD.of sF),od,hd,hz,fun R ws H1 jL fR eR hR=>?_⟩)
 have sH:=sF.trans jL
 have Up:H1 F=some (.lst []):=jL _ _ af
 have Vs:R≠F:=fun z=>by rw [z,af] at fR;cases fR
 have lw:=fQ hR
 refine ⟨R,rfl,⟨ws,bH.of eR⟩,fJ (xs:=ws) (fun i σ H'=>∃ (a2:Option V),σ=[some (.ref t),some (.ref F),a2]∧aR F H1 H'∧H' F=some (.lst ((((dR l).take i).map Af).flatten.map V.str))∧(((dR l).take i).map Af).flatten.length≤2*i) ⟨none,rfl,fun _ _ z _=>z,Up,Nat.zero_le _⟩ ?_ ?_ ?_⟩
 ·rintro i σ H' _ ⟨a2,rfl,but,_⟩
  exact bH.of (but _ _ eR Vs)
 ·rintro i x σ H' hix ⟨a2,rfl,but,eF,hl⟩
  obtain ⟨s0,q,hsi,rfl,hs⟩:=ue hR hix
  have o0:=lF od _ (List.mem_of_getElem? hsi)
  have TX:=(List.getElem?_eq_some_iff.mp hix).1
  have k1:aD H1 H':=aD.soft but Up eV
  have l2:=(ID o0).2
  refine (cV rfl ⟨.inl ⟨rfl,_,bH.of eF⟩,cV rfl ⟨q,s0,rfl,hs.aE k1,q,s0,rfl,rfl,hs.aE k1,o0,fun r H2 qc er=>?_⟩⟩)
  refine ⟨F,r,_,cV rfl ⟨rfl,qc _ _ eF,bG.of er,Nat.le_of_lt (line _ (by rw [List.length_map,List.length_map];omega)),?_⟩⟩
  have e2:(((dR l).take (i+1)).map Af).flatten=(((dR l).take i).map Af).flatten++Af s0:=by rw [take_snoc hsi,List.map_append,List.flatten_append];simp
  refine ⟨some (.ref q),rfl,(but.trans (aR.of qc)).trans aR.upd,by rw [e2,List.map_append];exact af,by rw [e2,List.length_append];omega⟩
 ·rintro σ H' ⟨a2,rfl,but,eF,hl⟩
  rw [lw,List.take_length] at eF hl
  have eF:H' F=some (.lst ((iN l).map V.str)):=eF
  have hl:(iN l).length≤2*(dR l).length:=hl
  have sA:aK H H':=fun b' o' e'=>but _ _ (sH _ _ e') (aq e' hF)
  refine (cV rfl ⟨F,iN l,N,rfl,bH.of eF,by omega,hN,Ae od,fun q hq=>?_⟩)
  have s1:=sA.trans (new (o:=qq P w q (iN l)) hq)
  refine ⟨q,iN l,rfl,af,fun l2 ys hl2 hm nd _ so=>?_⟩
  have up:=vh so nd
  have e:=Nk up hm
  have ly:=ku nd fun x hx=>Ae od x ((hm x).mp hx)
  have:=hB.l
  rw [e] at hm up ly
  rw [e]
  exact k ⟨_,up,hm⟩ (by omega) l2 _ (s1.trans (new hl2)) (mG s1 hl2) af
abbrev gD:Stmt:=top 35
theorem Aw:az ["thing"] ["thing"] (ai gD):=dB
theorem AL  (F:ck K "is_length" "is_length" gD f fd) (T:Txt K mg Y.z.s) (J:dI K mg Y fS Db Bk) :aM P w K mg base bP 1 f fd ["thing"] w5:=by
 refine F.dY Aw fun vs H Q E h=>?_
 obtain ⟨x,rfl,k⟩:=h
 refine ⟨rfl,fun _ _ _ _ hr=>?_⟩
 rw [show aj gD=[_] from rfl]
 refine ⟨_,(ao (aG (fO PySem.F.plainAttrs_str PySem.F.slot_str_startswith PySem.F.type_str_startswith Ls (pv 0) (aa aZ ah)))),?_⟩
 exact (cV rfl ⟨(by first | trivial | exact ⟨_,rfl⟩ | rfl),x,cV rfl ⟨rfl,k⟩⟩)
abbrev qt:Stmt:=top 43
theorem rW:az ["program","name","helper","book","path"] ["program","name"] (ai qt):=dB
theorem ON  (F:ck K "debts" "debts" qt f fd) (T:Txt K mg Y.z.s) (J:dI K mg Y fS Db Bk) (tH:Mt P w K mg base 1 Y.pg "named" ["self","name"] (wj Y)) (lV:Dn P w K mg base (2*n+8) "count_paths" ["steps"] (oJ N Y n)) (a3F:Mr P w K mg base 1 Bk ["self","program"] (Vk Bk)) (kM:Dn P w K mg base (5*n+24) "go_steps" ["book","path","steps"] (uq N Y Bk Db n)) (vW:Dn P w K mg base (2*n+9) "path_at_first" ["helper"] (Cv N Y n)) (kL:Mt P w K mg base 5 Bk "owe_each" ["self","path","kind","writings"] we):aM P w K mg base bP (5*n+26) f fd ["program","name"] (rP N Y Db n):=by
 obtain ⟨KN,DJ,tV,sO,tO⟩:=tH
 obtain ⟨za,ya,mh,kF,kI,lX⟩:=lV
 obtain ⟨b9H,a7T,Ew,a5A,Ef⟩:=a3F
 obtain ⟨ye,vA,jk,gW,gX,jh⟩:=kM
 obtain ⟨MI,LM,vZ,uM,uO,vY⟩:=vW
 obtain ⟨yd,vz,jj,jb,jg⟩:=kL
 refine F.dY rW fun vs H Q E h=>?_
 obtain ⟨p,q,h,l,us,hss,rfl,hg,hP,ef,hh,hx,od,hB,hd,hnp,hbg,hgw,hw,hn,k⟩:=h
 refine ⟨rfl,fun _ _ _ _ hr=>?_⟩
 rw [show aj qt=[_,_,_,_,_] from rfl]
 refine ⟨_,(ak (aO (i:=2) rW.nd rfl (Or.inl rfl) (dO (pv 0) J.cp sO tV hr.m tO .nil av (aa (pv 1) ah)))
   (ak (bB (au mh hr.m rfl kF kI lX .nil av (aa (aA (pv 2) rfl) ah)))
   (ak (aO (i:=3) rW.nd rfl (Or.inl rfl) (br a5A Ew hr.m rfl J.mgB Ef .nil av (aa (pv 0) ah)))
   (ak (dm PassesOwn.never rfl (gf (au jk hr.m rfl gW gX jh .nil av (aa (pv 3) (aa (au vZ hr.m rfl uM uO vY .nil av (aa (pv 2) ah)) (aa (aA (pv 2) rfl) ah))))) (aN (i:=4) rW.nd rfl (Or.inl rfl)) (ao (bB (dO (pv 3) J.cb jb jj hr.m jg .nil av (aa (pv 4) (aa aZ (aa (aA (pv 2) rfl) ah)))))))
   (ao (aG (aA (pv 3) rfl))))))),?_⟩
 dsimp only [jR,Cx.yN]
 obtain ⟨dxp,tp,epg,_,_,_⟩:=id hP
 refine (cV rfl ⟨p,dxp,cV rfl ⟨epg,jH rfl,cV rfl ⟨p,"main",us,hss,rfl,hP,fun H1 s1=>?_⟩⟩⟩)
 rw [ef]
 have Vz:=hh.aE (aD.of s1)
 obtain ⟨p',dx,t1,t2,v1,v2,t3,us3,e,ep,e1,e2,h1,h2,e3,lu,hst⟩:=id Vz
 cases e
 rw [hx.st] at hst
 rw [hx.gv] at h2
 obtain ⟨tg,ug,rfl,eg,_,pgg⟩:=h2
 cases pgg
 refine (cV rfl (cF ep J.ch (J.nH) cT ⟨t3,us3,l,rfl,e3,hst,od,hd,hnp,hbg,fun H2 s2=>?_⟩))
 refine (cV rfl (fun x2 eO gm eX ne2=>?_))
 have s3:=aV (o:=.own x2) (o':=.ins Bk eO []) gm eX
 refine ⟨x2,eO,cV rfl ⟨af,fun F H3 c4T fF eF eB=>⟨rfl,?_⟩⟩⟩
 have sA:aK H2 H3:=fun b' o' e'=>c4T _ _ (s3 _ _ e') (aq e' gm)
 have fF2:H2 F=none:=by
  cases z:H2 F with
  | none=>rfl
  | some o=>rw [s3 _ _ z] at fF;cases fF
 have sB:=s2.trans sA
 have K3:yP Y.z Bk Db H3 x2 F (.ref p) [] []:=⟨⟨eO,eB⟩,eF,.nil⟩
 refine (cV rfl (cV rfl ⟨q,h,l,rfl,Vz.aE (aD.of sB),hx,od,hB,hd,hw,fun v k0 H4 s4 hk0 pv=>?_⟩))
 have sC:=sB.trans s4
 have hp3:h.ps.length≤3:=hx.pl
 have lfl:∀ m:List Str,((m.map bf).flatten).length≤2*m.length:=fun m=>by
  induction m with
  | nil=>exact Nat.le_refl _
  | cons a r ih=>rw [List.map_cons,List.flatten_cons,List.length_append,List.length_cons];have:=ju a;omega
 have l1:=lfl h.ps
 refine (cV rfl (cF (sC _ _ ep) J.ch (J.nH) cT ?_))
 refine ⟨x2,F,t3,.ref p,v,[],us3,[],_,l,rfl,⟨K3.same s4,hg.aE (aD.of (s1.trans sC)),pv,hB⟩,sC _ _ e3,hst.aE (aD.of sC),od,hd,hnp,by rw [List.length_append,List.length_replicate];omega,hw,by rw [List.length_nil];omega,fun R ps ds' H5 mR fR eR PS K5=>?_⟩
 have RC:aD H4 H5:=(K3.same s4).vX mR
 obtain ⟨KP,eb⟩:=K5.o
 have ep5:=RC.i _ _ _ _ (sC _ _ ep)
 have eg5:=RC.t _ _ (sC _ _ eg)
 refine ⟨R,rfl,⟨ps,bH.of eR⟩,fJ (xs:=ps) (fun i σ H6=>∃ a4:Option V,σ=[some (.ref p),some (.str "main"),some (.ref q),some (.ref x2),a4]∧H6=H5) ⟨none,rfl,rfl⟩ (fun i σ H6 _ ⟨_,_,e⟩=>by rw [e];exact bH.of eR) ?_ ?_⟩
 ·rintro i y σ H6 RD ⟨a4,rfl,rfl⟩
  refine (cV rfl ⟨x2,KP,cV rfl ⟨eb,jH (jH rfl),cV rfl (cV rfl (cF ep5 J.ch (J.nH) (bx cT) ⟨x2,tg,y,cV rfl ⟨.inl eg5,?_⟩⟩))⟩⟩)
  exact ⟨some y,rfl,rfl⟩
 ·rintro σ H6 ⟨a4,rfl,rfl⟩
  refine (cV rfl (cF eb J.cb (J.nb _ (by decide +kernel)) cT ?_))
  have sZ:aK H H6:=fun b' o' e'=>by
   have z:=(sB.trans s4) _ _ (s1 _ _ e')
   exact mR _ _ z (fun e=>by have y:=s1.trans s2 _ _ e';rw [e,fF2] at y;cases y)
  exact k F ds' k0 H6 sZ K5.f (by have z:=K5.d;exact z)
abbrev fq:Stmt:=top 44
theorem fV:az ["steps","count","step","within"] ["steps"] (ai fq):=dB
theorem xF  (F:ck K "count_paths" "count_paths" fq f fd) (T:Txt K mg Y.z.s) (J:dI K mg Y fS Db Bk) (uX:M9 P w K mg base 2 Y "blocks" ["self"] (dN N Y)) (lV:Dn P w K mg base (2*n+8) "count_paths" ["steps"] (oJ N Y n)):aM P w K mg base bP (2*n+10) f fd ["steps"] (oJ N Y (n+1)):=by
 obtain ⟨za,ya,mh,kF,kI,lX⟩:=lV
 obtain ⟨tD2,b5f⟩:=J.d2
 refine F.dY fV fun vs H Q E h=>?_
 obtain ⟨t,us,l,rfl,et,hst,od,hd,hp,hbg,k⟩:=h
 refine ⟨rfl,fun _ _ _ _ hr=>?_⟩
 rw [show aj fq=[_,_,_,_] from rfl]
 refine ⟨_,(ak (aO (i:=1) fV.nd rfl (Or.inl rfl) aH)
   (ak (dm PassesOwn.never rfl (iA (pv 0)) (aN (i:=2) fV.nd rfl (Or.inl rfl)) (ak (Kd (i:=3) fV.nd rfl (Or.inl rfl) (dg ["block"] [] [] rfl (by decide +kernel) (by decide +kernel) (by with_unfolding_all rfl) (by exact trivial) (by rfl) rfl (by rfl)) rfl (iA (AF (Y:=Y) (pv 2) J.cl xH uX hr.m av)) (fun _ _ _ _=>(aN (i:=0) (show List.Nodup (["block"]:List Str) by decide +kernel) rfl (Or.inl rfl) (Or.inr rfl))) (fun _ _ _ _=>iz) (fun _ _ _ _=>(au mh hr.m rfl kF kI lX .nil av (aa (pv 0) ah))))
   (ao (cA (gM (aX (fK (c:=.ref Y.ch) trivial) (by rfl) T.isinstance boot_isinstance (aa (pv 2) (aa (cE (v:=.ref Y.ch) rfl J.mg7 rfl) ah)))) (ao (aO (i:=1) fV.nd rfl (Or.inl rfl) (aT m8 (pv 1) (aX (Rb rfl) (by rfl) T.sum boot_sum (aa (pv 3) ah))))) bh))))
   (ak (cA (bJ vj (pv 1) (cE (v:=.int 16) rfl b5f ⟨_,rfl⟩) (bM _)) (ao gz) bh)
   (ao (aG (pv 1)))))),?_⟩
 dsimp only [jR,Cx.yN]
 have lus:=fQ hst
 have hb1:anyB l=false:=by unfold p7 at hbg;exact (Bool.or_eq_false_iff.mp hbg).1
 have h16:¬ 16 < dM l:=by unfold p7 at hbg;exact of_decide_eq_false (Bool.or_eq_false_iff.mp hbg).2
 refine (cV rfl ⟨t,rfl,⟨us,bG.of et⟩,jQ (xs:=us) (fun i σ H'=>∃ (a2 a3:Option V),σ=[some (.ref t),some (.int (dM (l.take i))),a2,a3]∧aK H H') ⟨none,none,(by rw [List.take_zero];rfl),aK.refl _⟩ ?_ ?_ ?_⟩)
 ·rintro i σ H' _ ⟨a2,a3,rfl,sm⟩
  exact bG.of (sm _ _ et)
 ·rintro i x σ H' hix ⟨a2,a3,rfl,sm⟩
  obtain ⟨s0,p,hsi,rfl,hx⟩:=ue hst hix
  have hm:=List.mem_of_getElem? hsi
  have o0:=sI od hm
  have hx':=hx.aE (aD.of sm)
  have d0:=tF hm
  have np1:dM (l.take (i+1))≤dM l:=xG _ _
  rw [take_snoc hsi,oN] at np1
  have b0W:s0.big=false:=by
   cases z:s0.big with
   | false=>rfl
   | true=>rw [Ei hm z] at hb1;cases hb1
  refine (cV rfl ⟨p,s0,rfl,hx',p,s0,rfl,rfl,hx',o0,fun r bs H2 qc er pb=>?_⟩)
  have lbs:=bI pb
  refine ⟨r,rfl,⟨bs,bG.of er⟩,mP (xs:=bs) (fun j ys H3=>aK H2 H3∧ys=((EC s0).take j).map (fun b=>V.int (dM b))) ⟨aK.refl _,(by rw [List.take_zero];rfl)⟩ (fun j ys H3 _ z=>bG.of (z.1 _ _ er)) ?_ ?_⟩
  ·rintro j y ys H3 Vy ⟨s3,rfl⟩
   obtain ⟨b0,hb,tb,ub,rfl,etb,hbs⟩:=gg pb Vy
   have mb:=List.mem_of_getElem? hb
   obtain ⟨ob,db,lb⟩:=KZ o0 mb
   have TX:=(List.getElem?_eq_some_iff.mp hb).1
   have a5o:p7 b0=false:=UA b0W mb
   have n16:dM b0≤1000:=by
    have z:=a5o
    unfold p7 at z
    have:=of_decide_eq_false (Bool.or_eq_false_iff.mp z).2
    omega
   refine ⟨Ext.one,JB (cV rfl ⟨tb,ub,b0,rfl,s3 _ _ etb,hbs.aE (aD.of s3),ob,by omega,n16,a5o,fun H4 s4=>⟨?_,s3.trans s4,?_⟩⟩)⟩
   ·rw [List.length_map,List.length_take]
    have:=Uz s0
    exact line _ (by omega)
   ·rw [take_snoc hb,List.map_append]
    rfl
  ·rintro ys H3 ⟨s3,rfl⟩ q hq
   have smA:=(sm.trans qc).trans s3
   have sq:=smA.trans (new (o:=.lst (((EC s0).take bs.length).map fun b=>V.int (dM b))) hq)
   have hx3:=hx.aE (aD.of sq)
   refine (cV rfl ⟨_,_,_,cV rfl ⟨jZ T J hx3,rfl,J.kk _ 7 (qe hx3) (by decide),cV rfl ?_⟩⟩)
   by_cases h7:kd s0=7
   ·refine nK (decide_eq_true h7) ?_
    obtain ⟨a,dx,c,pc,t',e,t1,t2,us',ws,rfl,_⟩:=w7_ hx3 o0 h7
    have e2:((EC (.kO a c t' e)).take bs.length).map (fun b=>V.int (dM b))=[V.int (dM t'),V.int (dM e)]:=by rw [lbs,List.take_length];rfl
    have e3:(aI.kO a c t' e).np=dM t'+dM e:=by unfold aI.np;rfl
    have np0:dM (l.take i)≤dM l:=xG _ _
    rw [e3] at np1
    refine (cV rfl (cV rfl ⟨q,[(dM t':Int),(dM e:Int)],rfl,bH.of (by rw [af,e2];rfl),_,cV rfl ⟨rfl,.inl ⟨by omega,by omega⟩,?_⟩⟩))
    refine ⟨some (.ref p),some (.ref q),?_,sq⟩
    rw [take_snoc hsi,oN,e3]
    have e4:((dM (l.take i):Int)*((dM t':Int)+((dM e:Int)+0)))=((dM (l.take i)*(dM t'+dM e):Nat):Int):=by rw [Int.natCast_mul,Int.natCast_add,Int.add_zero]
    show _=[_,some (V.int ((dM (l.take i)*(dM t'+dM e):Nat):Int)),_,_]
    rw [← e4]
    rfl
   ·refine iM (decide_eq_false h7) ?_
    refine ⟨some (.ref p),some (.ref q),?_,sq⟩
    have e1:s0.np=1:=by cases s0 <;> first | (unfold aI.np;rfl) | exact absurd rfl h7
    rw [take_snoc hsi,oN,e1,Nat.mul_one]
    rfl
 ·rintro σ H' ⟨a2,a3,rfl,sm⟩
  have e1:dM (l.take us.length)=dM l:=by rw [lus,List.take_length]
  rw [e1]
  refine (cV rfl ⟨_,cV rfl ⟨rfl,cV rfl (oq (by omega) ?_)⟩⟩)
  exact (cV rfl (k H' sm))
abbrev kj:Stmt:=top 45
theorem Im:az ["one","other"] ["one","other"] (ai kj):=dB
theorem IC  (F:ck K "at_most" "at_most" kj f fd) (T:Txt K mg Y.z.s) (J:dI K mg Y fS Db Bk) (nU:Mr P w K mg base 1 Y.z.c ["self","one","sign","other"] (rQ Y.z)):aM P w K mg base bP 3 f fd ["one","other"] (J7 Y.z):=by
 obtain ⟨uU,qZ,dH,kX,dF⟩:=nU
 refine F.dY Im fun vs H Q E h=>?_
 obtain ⟨p,q,a,b,n0,m,rfl,S1,S2,k⟩:=h
 refine ⟨rfl,fun _ _ _ _ hr=>?_⟩
 rw [show aj kj=[_] from rfl]
 refine ⟨_,(ao (aG (br kX dH hr.m rfl J.mgC dF .nil av (aa (pv 0) (aa aZ (aa (pv 1) ah)))))),?_⟩
 refine (cV rfl (cV rfl (fun x2 eO gm eX ne2=>?_)))
 have s4:=aV (o:=.own x2) (o':=.ins Y.z.c eO []) gm eX
 refine ⟨x2,eO,p,q,"<=",rfl,af,fun H5 mR e5=>⟨rfl,?_⟩⟩
 have s5:aK H H5:=fun b' o' e'=>mR _ _ (s4 _ _ e') (aq e' gm)
 exact k x2 H5 s5 (by unfold bg;exact ⟨x2,eO,p,q,rfl,e5,S1.same s5,S2.same s5⟩)
abbrev fm:Stmt:=top 46
theorem xj:az ["total"] ["total"] (ai fm):=dB
theorem xE  (F:ck K "from_nought" "from_nought" fm f fd) (T:Txt K mg Y.z.s) (J:dI K mg Y fS Db Bk) (iJ:Mr P w K mg base 1 Y.z.s ["self","terms","number"] (mX Y.z.s)) (mO:Dn P w K mg base 3 "at_most" ["one","other"] (J7 Y.z)):aM P w K mg base bP 4 f fd ["total"] (wm Y.z):=by
 obtain ⟨DP,yc,cz,yy,cy⟩:=iJ
 obtain ⟨zQ,yb,jY,ja,jd,jX⟩:=mO
 refine F.dY xj fun vs H Q E h=>?_
 obtain ⟨p,a,n0,rfl,S,k⟩:=h
 refine ⟨rfl,fun _ _ _ _ hr=>?_⟩
 rw [show aj fm=[_] from rfl]
 refine ⟨_,(ao (aG (au jY hr.m rfl ja jd jX .nil av (aa (br yy cz hr.m rfl T.qT cy .nil av (aa (aJ ah) (aa aH ah))) (aa (pv 0) ah))))),?_⟩
 refine ⟨Nat.zero_le _,fun q0 LF=>?_⟩
 have s3:=new (o:=.tup []) LF
 intro x2 eO gm eX ne2
 have s4:=aV (o:=.own x2) (o':=.ins Y.z.s eO []) gm eX
 refine ⟨x2,eO,q0,0,[],rfl,af,.inr ⟨[],s4 _ _ af,.nil⟩,Nat.zero_le _,fun H5 mR S5=>⟨rfl,?_⟩⟩
 have s5:aK H H5:=fun b' o' e'=>mR _ _ (s4 _ _ (s3 _ _ e')) (aq (s3 _ _ e') gm)
 exact (cV rfl ⟨x2,p,[],a,0,n0,rfl,S5,S.same s5,fun r H' s' c=>k r H' (s5.trans s') c⟩)
abbrev HY:Stmt:=top 47
theorem Yb:az ["thing","total"] ["thing","total"] (ai HY):=dB
theorem YW  (F:ck K "let" "let" HY f fd) (T:Txt K mg Y.z.s) (J:dI K mg Y fS Db Bk) :aM P w K mg base bP 1 f fd ["thing","total"] CB:=by
 refine F.dY Yb fun vs H Q E h=>?_
 obtain ⟨x,u,rfl,k⟩:=h
 refine ⟨rfl,fun _ _ _ _ hr=>?_⟩
 rw [show aj HY=[_] from rfl]
 refine ⟨_,(ao (aG (aJ (aa aZ (aa (pv 0) (aa (pv 1) ah)))))),?_⟩
 exact (cV rfl (cV rfl ⟨szl 3,fun r hr'=>k r _ (new hr') af⟩))
abbrev w9:Stmt:=top 48
theorem Sn:az ["condition"] ["condition"] (ai w9):=dB
theorem Tn  (F:ck K "hold" "hold" w9 f fd) (T:Txt K mg Y.z.s) (J:dI K mg Y fS Db Bk) :aM P w K mg base bP 1 f fd ["condition"] oH:=by
 refine F.dY Sn fun vs H Q E h=>?_
 obtain ⟨u,rfl,k⟩:=h
 refine ⟨rfl,fun _ _ _ _ hr=>?_⟩
 rw [show aj w9=[_] from rfl]
 refine ⟨_,(ao (aG (aJ (aa aZ (aa (pv 0) ah))))),?_⟩
 exact (cV rfl ⟨szl 2,fun r hr'=>k r _ (new hr') af⟩)
abbrev iU:Stmt:=top 49
theorem CI:az ["writings"] ["writings"] (ai iU):=dB
theorem CZ  (F:ck K "holds_of" "holds_of" iU f fd) (T:Txt K mg Y.z.s) (J:dI K mg Y fS Db Bk) (je:Dn P w K mg base 1 "hold" ["condition"] oH):aM P w K mg base bP 2 f fd ["writings"] uo:=by
 obtain ⟨uS,pU,gQ,fz,fD,gP⟩:=je
 refine F.dY CI fun vs H Q E h=>?_
 obtain ⟨t,rfl,et,k⟩:=h
 refine ⟨rfl,fun _ _ _ _ hr=>?_⟩
 rw [show aj iU=[_] from rfl]
 refine ⟨_,(ao (aG (aU aW (by rfl) T.tuple boot_tuple (aa (iB (dg ["at","condition"] [] [] rfl (by decide +kernel) (by decide +kernel) (by with_unfolding_all rfl) (by exact trivial) (by rfl) rfl (by rfl)) rfl (iA (pv 0)) (fun _ _ _ _=>(rY (K:=K) (n:=2) rfl rfl (bq (aN (i:=0) (show List.Nodup (["at","condition"]:List Str) by decide +kernel) rfl (Or.inl rfl) (Or.inr rfl)) (bq (aN (i:=1) (show List.Nodup (["at","condition"]:List Str) by decide +kernel) rfl (Or.inl rfl) (Or.inr rfl)) fU)))) (fun _ _ _ _=>iz) (fun _ _ _ _=>(au gQ hr.m rfl fz fD gP .nil av (aa (pv 1) ah)))) ah)))),?_⟩
 refine (cV rfl ⟨t,rfl,⟨_,bG.of et⟩,mP (xs:=[]) (fun i ys H'=>H'=H∧ys=[]) ⟨rfl,rfl⟩ (fun i ys H' _ q=>by rw [q.1];exact bG.of et) ?_ ?_⟩)
 ·intro i x ys H' hix
  exact absurd hix (by simp)
 ·rintro ys H' ⟨rfl,rfl⟩ q hq
  exact ⟨q,cV rfl (.inl ⟨bH.of af,fun t2 BA=>k t2 _ (aK.new (new hq) BA) af⟩)⟩
abbrev fh:Stmt:=top 50
theorem xh:az ["thing"] ["thing"] (ai fh):=dB
theorem xC  (F:ck K "rows_of_any" "rows_of_any" fh f fd) (T:Txt K mg Y.z.s) (J:dI K mg Y fS Db Bk) (pB:Dn P w K mg base 1 "is_length" ["thing"] w5) (je:Dn P w K mg base 1 "hold" ["condition"] oH) (gq:Dn P w K mg base 4 "from_nought" ["total"] (wm Y.z)) (nR:Dn P w K mg base 3 "once" ["thing"] (um Y.z.s)):aM P w K mg base bP 5 f fd ["thing"] (iP Y.z):=by
 obtain ⟨DO,BG,pK,nC,nJ,pI⟩:=pB
 obtain ⟨uS,pU,gQ,fz,fD,gP⟩:=je
 obtain ⟨qg,o8,gu,fZ,gb,gr⟩:=gq
 obtain ⟨BH,wI,kY,iC,iE,kQ⟩:=nR
 refine F.dY xh fun vs H Q E h=>?_
 obtain ⟨x,rfl,k⟩:=h
 refine ⟨rfl,fun _ _ _ _ hr=>?_⟩
 rw [show aj fh=[_,_] from rfl]
 refine ⟨_,(ak (cA (gM (au pK hr.m rfl nC nJ pI .nil av (aa (pv 0) ah))) (ao (aG (aJ (aa (aJ (aa aZ (aa (pv 0) ah))) (aa (au gQ hr.m rfl fz fD gP .nil av (aa (au gu hr.m rfl fZ gb gr .nil av (aa (au kY hr.m rfl iC iE kQ .nil av (aa (pv 0) ah)) ah)) ah)) ah))))) bh)
   (ao (aG (aJ (aa (aJ (aa aZ (aa (pv 0) ah))) ah))))),?_⟩
 refine (cV rfl ⟨x,rfl,cV rfl ?_⟩)
 cases e:Txt.startswith x "#" with
 | true =>
  refine nK rfl ?_
  refine (cV rfl ⟨szl 2,fun r1 hr1=>?_⟩)
  have s1:=new (o:=.tup [.str "any",.str x]) hr1
  refine (cV rfl ⟨x,rfl,fun q H2 s2 S2=>?_⟩)
  refine ⟨q,[(x,1)],0,rfl,S2,fun q3 H3 s3 c3=>?_⟩
  refine (cV rfl (fun r4 H4 s4 e4=>?_))
  refine ⟨szl 2,fun r5 hr5=>?_⟩
  have sA:=((s1.trans s2).trans s3).trans s4
  have s5:=new (o:=.tup [.ref r1,.ref r4]) hr5
  refine k r5 _ _ (sA.trans s5) af ?_
  unfold bf
  rw [if_pos e]
  exact .cons ⟨r1,rfl,s5 _ _ (s4 _ _ (s3 _ _ (s2 _ _ af)))⟩ (.cons ⟨r4,cV rfl ⟨s5 _ _ e4,c3.aE (aD.of (s4.trans s5))⟩⟩ .nil)
 | false =>
  refine iM rfl ?_
  refine (cV rfl ⟨szl 2,fun r1 hr1=>?_⟩)
  refine ⟨szl 1,fun r hr'=>?_⟩
  refine k r _ _ (aK.new (new hr1) hr') af ?_
  unfold bf
  rw [if_neg (by rw [e];decide)]
  exact .cons ⟨r1,rfl,new hr' _ _ af⟩ .nil
abbrev dh:Stmt:=top 51
theorem dc:az ["helper","path","param","thing"] ["helper"] (ai dh):=dB
theorem uA  (F:ck K "path_at_first" "path_at_first" dh f fd) (T:Txt K mg Y.z.s) (J:dI K mg Y fS Db Bk) (yk:Dn P w K mg base (2*n+8) "other_things" ["helper"] (Cw N Y n)) (cH:Dn P w K mg base 5 "rows_of_any" ["thing"] (iP Y.z)) (ym:Dn P w K mg base 1 "let" ["thing","total"] CB) (iJ:Mr P w K mg base 1 Y.z.s ["self","terms","number"] (mX Y.z.s)) (rq:Dn P w K mg base 2 "holds_of" ["writings"] uo):aM P w K mg base bP (2*n+9) f fd ["helper"] (Cv N Y n):=by
 obtain ⟨QI,MH,yC,vO,vQ,yr⟩:=yk
 obtain ⟨jt,iH,cM,bS,bU,cJ⟩:=cH
 obtain ⟨QJ,Jd,tW,nv,nG,tP⟩:=ym
 obtain ⟨DP,yc,cz,yy,cy⟩:=iJ
 obtain ⟨Jf,DK,rF,oU,oZ,rC⟩:=rq
 refine F.dY dc fun vs H Q E h=>?_
 obtain ⟨p,h,l,rfl,hh,hx,od,hB,hd,hz,k⟩:=h
 refine ⟨rfl,fun _ _ _ _ hr=>?_⟩
 rw [show aj dh=[_,_,_,_] from rfl]
 refine ⟨_,(ak (aO (i:=1) dc.nd rfl (Or.inl rfl) (aJ ah))
   (ak (dm PassesOwn.never rfl (iA (aA (pv 0) rfl)) (aN (i:=2) dc.nd rfl (Or.inl rfl)) (ao (aO (i:=1) dc.nd rfl (Or.inl rfl) (aT bD (pv 1) (au cM hr.m rfl bS bU cJ .nil av (aa (pv 2) ah))))))
   (ak (dm PassesOwn.never rfl (gf (au yC hr.m rfl vO vQ yr .nil av (aa (pv 0) ah))) (aN (i:=3) dc.nd rfl (Or.inl rfl)) (ao (aO (i:=1) dc.nd rfl (Or.inl rfl) (aT bD (pv 1) (aJ (aa (au tW hr.m rfl nv nG tP .nil av (aa (pv 3) (aa (br yy cz hr.m rfl T.qT cy .nil av (aa (aJ ah) (aa aH ah))) ah))) ah))))))
   (ao (aG (aT bD (pv 1) (au rF hr.m rfl oU oZ rC .nil av (aa (aA (pv 0) rfl) ah)))))))),?_⟩
 dsimp only [jR,Cx.yN]
 have hh0:=hh
 have hx0:=hx
 obtain ⟨hp1,hpl,hpn,hp2,hp3,Zw,hp5⟩:=hx
 obtain ⟨p',dx,t1,t2,v1,v2,t3,us,e,ep,e1,e2,h1,h2,e3,lu,hst⟩:=hh
 cases e
 rw [hp2] at e2
 rw [hp5] at hst
 rw [hp3] at h1
 obtain ⟨tn,un,rfl,en,_,pn⟩:=h1
 cases pn
 have lfl:∀ m:List Str,((m.map bf).flatten).length≤2*m.length:=fun m=>by
  induction m with
  | nil=>exact Nat.le_refl _
  | cons a r ih=>rw [List.map_cons,List.flatten_cons,List.length_append,List.length_cons];have:=ju a;omega
 refine ⟨(Nat.zero_le _),fun r0 hr0=>?_⟩
 have s0:=new (o:=.tup []) hr0
 refine (cV rfl (cF (s0 _ _ ep) J.ch (J.nH) (bx (bx (bx (bx cT)))) ⟨t1,rfl,⟨_,bG.of (s0 _ _ e1)⟩,jQ (xs:=h.ps.map V.str) (fun i σ H'=>∃ (a2:Option V) (v:V),σ=[some (.ref p),some v,a2,none]∧aK H H'∧mS Y.z H' v (((h.ps.take i).map bf).flatten)) ⟨none,.ref r0,rfl,s0,r0,[],rfl,af,.nil⟩ ?_ ?_ ?_⟩))
 ·rintro i σ H' _ ⟨a2,v,rfl,sm,_⟩
  exact bG.of (sm _ _ e1)
 ·rintro i x σ H' hix ⟨a2,v,rfl,sm,t,xs,rfl,et,rx⟩
  obtain ⟨y,hy,rfl⟩:=jV hix
  have TX:=(List.getElem?_eq_some_iff.mp hy).1
  have lx:=bQ rx
  have l1:=lfl (h.ps.take i)
  rw [List.length_take] at l1
  refine (cV rfl (cV rfl ⟨y,rfl,fun r us H2 qc er rs=>?_⟩))
  have lu2:=bQ rs
  have:=ju y
  refine bW (qc _ _ et) er (by omega) fun r3 H3 Lg er3=>?_
  refine ⟨some (.str y),.ref r3,rfl,(sm.trans qc).trans Lg,r3,cV rfl ⟨er3,?_⟩⟩
  rw [take_snoc hy,List.map_append,List.flatten_append,show (List.map bf [y]).flatten=bf y by simp]
  exact fu ((rx.aE (aD.of qc)).aE (aD.of Lg)) (rs.aE (aD.of Lg))
 ·rintro σ H' ⟨a2,v,rfl,sm,pv⟩
  rw [List.length_map,List.take_length] at pv
  have hh':=hh0.aE (aD.of sm)
  have l1:=lfl h.ps
  refine (cV rfl ⟨p,h,l,rfl,hh',hx0,od,hB,hd,hz,fun R xs H1 jL fR eR hl=>?_⟩)
  have smA:=sm.trans jL
  refine ⟨R,rfl,⟨_,bH.of eR⟩,fJ (xs:=xs.map V.str) (fun i σ ML=>∃ (a3:Option V) (v:V),σ=[some (.ref p),some v,a2,a3]∧aK H1 ML∧mS Y.z ML v ((h.ps.map bf).flatten++List.replicate i .lt)) ⟨none,v,rfl,aK.refl _,(by show mS Y.z H1 v (_++[]);rw [List.append_nil];exact pv.aE (aD.of jL))⟩ ?_ ?_ ?_⟩
  ·rintro i σ ML _ ⟨a3,v,rfl,s2,_⟩
   exact bH.of (s2 _ _ eR)
  ·rintro i x σ ML hix ⟨a3,v,rfl,s2,t,ys,rfl,et,rx⟩
   obtain ⟨y,hy,rfl⟩:=jV hix
   have TX:=(List.getElem?_eq_some_iff.mp hy).1
   have lx:=bQ rx
   rw [List.length_append,List.length_replicate] at lx
   refine (cV rfl (cV rfl ⟨Nat.zero_le _,fun q hq=>?_⟩))
   have s3:=new (o:=.tup []) hq
   intro x2 eO gm eX ne2
   have s4:=aV (o:=.own x2) (o':=.ins Y.z.s eO []) gm eX
   refine ⟨x2,eO,q,0,[],rfl,af,.inr ⟨[],s4 _ _ af,.nil⟩,Nat.zero_le _,fun H5 mR S5=>⟨rfl,?_⟩⟩
   have s5:aK ML H5:=fun b' o' e'=>by
    have z:=s4 _ _ (s3 _ _ e')
    exact mR _ _ z (aq (s3 _ _ e') gm)
   refine ⟨_,cV rfl (fun r6 H6 s6 e6=>?_)⟩
   refine ⟨szl 1,fun r7 hr7=>?_⟩
   have s7:=(s5.trans s6).trans (new (o:=.tup [.ref r6]) hr7)
   refine bW (s7 _ _ et) af (by show ys.length+1≤100000;omega) fun r8 H8 s8 e8=>?_
   refine ⟨some (.str y),.ref r8,rfl,(s2.trans s7).trans s8,r8,cV rfl ⟨e8,?_⟩⟩
   rw [List.replicate_succ',← List.append_assoc]
   exact fu ((rx.aE (aD.of s7)).aE (aD.of s8)) (.cons ⟨r6,_,cV rfl (s8 _ _ (new hr7 _ _ e6))⟩ .nil)
  ·rintro σ ML ⟨a3,v,rfl,s2,t,ys,rfl,et,rx⟩
   have smB:=smA.trans s2
   rw [List.length_map] at rx
   have lx:=bQ rx
   rw [List.length_append,List.length_replicate] at lx
   refine (cV rfl (cV rfl (cF (smB _ _ ep) J.ch (J.nH) (bx (bx cT)) ⟨tn,rfl,smB _ _ en,fun r6 H6 s6 e6=>?_⟩)))
   refine bW (s6 _ _ et) e6 (by show ys.length+0≤100000;omega) fun r8 H8 s8 e8=>?_
   rw [List.append_nil] at e8
   exact k (.ref r8) xs.length H8 ((smB.trans s6).trans s8) hl ⟨r8,cV rfl ⟨e8,(rx.aE (aD.of s6)).aE (aD.of s8)⟩⟩
abbrev iV:Stmt:=top 52
theorem gU:az ["book","path","steps","paths","step","found","each"] ["book","path","steps"] (ai iV):=dB
theorem C0  (F:ck K "go_steps" "go_steps" iV f fd) (T:Txt K mg Y.z.s) (J:dI K mg Y fS Db Bk) (Jp:Dn P w K mg base (5*n+27) "go_step" ["book","path","step"] (An N Y Bk Db (n+1))):aM P w K mg base bP (5*n+29) f fd ["book","path","steps"] (uq N Y Bk Db (n+1)):=by
 obtain ⟨a03,Z6,MB,II,IX,Mu⟩:=Jp
 refine F.dY gU fun vs H Q E h=>?_
 obtain ⟨b,F,t,pg,v,ds,us,dd,rs,l,rfl,G0,et,hst,od,hd,hp,hB,hw,hn,k⟩:=h
 refine ⟨rfl,fun _ _ _ _ hr=>?_⟩
 rw [show aj iV=[_,_,_] from rfl]
 refine ⟨_,(ak (aO (i:=3) gU.nd rfl (Or.inl rfl) (bC (aa (pv 1) ah)))
   (ak (dm PassesOwn.never rfl (iA (pv 2)) (aN (i:=4) gU.nd rfl (Or.inl rfl)) (ak (aO (i:=5) gU.nd rfl (Or.inl rfl) (bC ah))
   (ak (dm PassesOwn.never rfl (gf (pv 3)) (aN (i:=6) gU.nd rfl (Or.inl rfl)) (ao (bB (fO PySem.F.plainAttrs_list PySem.F.slot_list_extend PySem.F.type_list_extend pQ (pv 5) (aa (au MB hr.m rfl II IX Mu .nil av (aa (pv 0) (aa (pv 6) (aa (pv 4) ah)))) ah)))))
   (ao (aO (i:=3) gU.nd rfl (Or.inl rfl) (pv 5))))))
   (ao (aG (pv 3))))),?_⟩
 dsimp only [jR,Cx.yN]
 have lus:=fQ hst
 refine (cV rfl ⟨szl 1,fun R0 hR0=>?_⟩)
 have s0:=new (o:=.lst [v]) hR0
 have ntF:t≠F:=fun z=>by rw [z,G0.k.f] at et;cases et
 refine (cV rfl ⟨t,rfl,⟨us,bG.of (s0 _ _ et)⟩,jQ (xs:=us) (fun i σ H'=>∃ (R:Addr) (a4 a5 a6:Option V) (ps ds':List V),σ=[some (.ref b),some v,some (.ref t),some (.ref R),a4,a5,a6]∧aR F H H'∧H R=none∧H' R=some (.lst ps)∧kW Y.z H' ps (lU (l.take i) [rs]).2∧(∀ q∈(lU (l.take i) [rs]).2,q.length≤rs.length+lE (l.take i))∧yP Y.z Bk Db H' b F pg ds' (dd++(lU (l.take i) [rs]).1)) ⟨R0,none,none,none,[v],ds,rfl,aR.of s0,hR0,af,(by rw [List.take_zero,jr];exact .cons (G0.p.aE (aD.of s0)) .nil),(by rw [List.take_zero,jr];intro q hq;rw [List.mem_singleton.mp hq];omega),(by rw [List.take_zero,jr,List.append_nil];exact G0.k.same s0)⟩ ?_ ?_ ?_⟩)
 ·rintro i σ H' _ ⟨R,a4,a5,a6,ps,ds',rfl,but,_⟩
  exact bG.of (but _ _ et ntF)
 ·rintro i x σ H' hix ⟨R,a4,a5,a6,ps,ds',rfl,but,fR,eR,PS,PL,K'⟩
  obtain ⟨s1,p,hsi,rfl,hx⟩:=ue hst hix
  have hm:=List.mem_of_getElem? hsi
  have o1:=sI od hm
  have hkH:aD H H':=G0.k.vX but
  have hx':=hx.aE hkH
  have d1:=tF hm
  have np1:dM (l.take (i+1))≤dM l:=xG _ _
  have dn1:lO (l.take (i+1)) 1≤lO l 1:=QW _ _ _
  have g1:lE (l.take (i+1))≤lE l:=Qu _ _
  have w1:=JT hm
  have gl:=nO (l.take i) [rs]
  rw [List.length_singleton,Nat.one_mul] at gl
  have DQ:=wC (l.take i)
  rw [take_snoc hsi,oN] at np1
  rw [take_snoc hsi,DG] at g1
  rw [take_snoc hsi,QX,Nat.one_mul] at dn1
  have nps:s1.np≤1000:=Nat.le_trans (Nat.le_mul_of_pos_left _ DQ) (Nat.le_trans np1 hp)
  have pn:=bI PS
  rw [gl.2] at pn
  have Vs:R≠F:=fun z=>by rw [z,G0.k.f] at fR;cases fR
  refine ⟨(Nat.zero_le _),fun F2 ZG=>?_⟩
  have s2:=new (o:=.lst []) ZG
  have nF2:F2≠F:=fun z=>by rw [z,K'.f] at ZG;cases ZG
  have nR2:R≠F2:=fun z=>by rw [← z,eR] at ZG;cases ZG
  have fF2:H F2=none:=by
   cases z:H F2 with
   | none=>rfl
   | some o=>rw [but _ _ z nF2] at ZG;cases ZG
  generalize hG:lU (l.take i) [rs]=G at PS PL K' gl
  obtain ⟨gd,gp⟩:=G
  have gl1:gd.length=lO (l.take i) 1:=gl.1
  have gl2:gp.length=dM (l.take i):=gl.2
  have PS:kW Y.z H' ps gp:=PS
  have PL:∀ q∈gp,q.length≤rs.length+lE (l.take i):=PL
  have K':yP Y.z Bk Db H' b F pg ds' (dd++gd):=K'
  have eD:∀ j,((gp.take j).map fun q=>(s1.go q).1).flatten.length=(gp.take j).length*s1.dn:=fun j=>oX _ _ (fun q=>(sX s1 q).1) _
  have eP:∀ j,((gp.take j).map fun q=>(s1.go q).2).flatten.length=(gp.take j).length*s1.np:=fun j=>oX _ _ (fun q=>(sX s1 q).2) _
  refine (cV rfl ⟨R,rfl,⟨ps,bH.of (s2 _ _ eR)⟩,fJ (xs:=ps) (fun j σ H3=>∃ (a6:Option V) (fs ds3:List V),σ=[some (.ref b),some v,some (.ref t),some (.ref R),some (.ref p),some (.ref F2),a6]∧a5O F F2 (upd H' F2 (.lst [])) H3∧H3 F2=some (.lst fs)∧kW Y.z H3 fs ((gp.take j).map fun q=>(s1.go q).2).flatten∧yP Y.z Bk Db H3 b F pg ds3 (dd++gd++((gp.take j).map fun q=>(s1.go q).1).flatten)) ⟨a6,[],ds',rfl,fun _ _ z _ _=>z,af,.nil,(by show yP Y.z Bk Db _ b F pg ds' (dd++gd++[]);rw [List.append_nil];exact K'.same s2)⟩ ?_ ?_ ?_⟩)
  ·rintro j σ H3 _ ⟨a6,fs,ds3,rfl,b3,_⟩
   exact bH.of (b3 _ _ (s2 _ _ eR) Vs nR2)
  ·rintro j y σ H3 Vy ⟨a6,fs,ds3,rfl,b3,e3,P3,K3⟩
   have jl:=(List.getElem?_eq_some_iff.mp Vy).1
   have hk3:aD (upd H' F2 (.lst [])) H3:=⟨fun a xs e=>b3 _ _ e (fun z=>by rw [z,(K'.same s2).f] at e;cases e) (fun z=>by rw [z,af] at e;cases e),fun a C dx fs e=>b3 _ _ e (fun z=>by rw [z,(K'.same s2).f] at e;cases e) (fun z=>by rw [z,af] at e;cases e)⟩
   have Vx:=(aD.of s2).trans hk3
   obtain ⟨q,hq,pty⟩:=gg PS Vy
   have mq:=List.mem_of_getElem? hq
   have lq:=PL q mq
   have jm:(j+1)*s1.dn≤dM (l.take i)*s1.dn:=Nat.mul_le_mul_right _ (by omega)
   have jn:(j+1)*s1.np≤dM (l.take i)*s1.np:=Nat.mul_le_mul_right _ (by omega)
   rw [Nat.succ_mul] at jm jn
   have lt:(gp.take j).length=j:=by rw [List.length_take];omega
   have lA:(dd++gd++((gp.take j).map fun q=>(s1.go q).1).flatten).length=dd.length+gd.length+j*s1.dn:=by rw [List.length_append,List.length_append,eD,lt]
   have l3:=bI P3
   rw [eP,lt] at l3
   refine (cV rfl ⟨.inl ⟨rfl,_,bH.of e3⟩,cV rfl (cV rfl (cV rfl ⟨b,F,p,pg,y,ds3,_,q,s1,rfl,⟨K3,G0.g.aE (hkH.trans Vx),pty.aE Vx,G0.n⟩,hx'.aE Vx,o1,by omega,nps,by omega,by omega,by rw [lA];omega,fun R4 ps4 ds4 H4 a0t fR4 e4 P4 K4=>?_⟩))⟩)
   have a3k:H4 F2=some (.lst fs):=a0t _ _ e3 nF2
   have n4:=bI P4
   rw [(sX s1 q).2] at n4
   refine ⟨F2,R4,fs,ps4,rfl,rfl,a3k,e4,Nat.le_of_lt (line _ (by omega)),?_⟩
   have hk4:aD H3 H4:=K3.vX a0t
   have I0:aD H4 (upd H4 F2 (.lst (fs++ps4))):=aD.soft aR.upd a3k eV
   have tk:gp.take (j+1)=gp.take j++[q]:=take_snoc hq
   refine ⟨some y,fs++ps4,ds4,rfl,?_,af,?_,?_⟩
   ·intro c o e n1 n2
    rw [aL n2]
    exact a0t _ _ (b3 _ _ e n1 n2) n1
   ·rw [tk,List.map_append,List.flatten_append,show (List.map (fun q=>(s1.go q).2) [q]).flatten=(s1.go q).2 by simp]
    exact kq (kW.aE I0 (kW.aE hk4 P3)) (kW.aE I0 P4)
   ·rw [tk,List.map_append,List.flatten_append,show (List.map (fun q=>(s1.go q).1) [q]).flatten=(s1.go q).1 by simp,← List.append_assoc]
    obtain ⟨MJ,eb'⟩:=K4.o
    exact ⟨⟨MJ,I0.i _ _ _ _ eb'⟩,by rw [aL nF2.symm];exact K4.f,L2.Paired.lT K4.d fun _ _ z=>z.aE I0⟩
  ·rintro σ H3 ⟨a6,fs,ds3,rfl,b3,e3,P3,K3⟩
   rw [show ps.length=gp.length by omega,List.take_length] at P3 K3
   have eS:lU (l.take (i+1)) [rs]=(gd++(gp.map fun q=>(s1.go q).1).flatten,(gp.map fun q=>(s1.go q).2).flatten):=by rw [take_snoc hsi,DH,hG]
   refine (cV rfl ⟨F2,some (.ref p),some (.ref F2),a6,fs,ds3,rfl,?_,fF2,e3,?_,?_,?_⟩)
   ·intro c o e n1
    have n2:c≠F2:=aq e fF2
    exact b3 _ _ (by rw [aL n2];exact but _ _ e n1) n1 n2
   ·rw [eS];exact P3
   ·rw [eS]
    intro q hq
    obtain ⟨m,hm1,hm2⟩:=List.mem_flatten.mp hq
    obtain ⟨q0,LF,rfl⟩:=List.mem_map.mp hm1
    have z1:=PL q0 LF
    have z2:=KC G0.n o1 q0 q hm2
    rw [take_snoc hsi,DG]
    omega
   ·rw [eS,← List.append_assoc]
    exact K3
 ·rintro σ H' ⟨R,a4,a5,a6,ps,ds',rfl,but,fR,eR,PS,PL,K'⟩
  rw [lus,List.take_length] at PS K'
  exact (cV rfl (k R ps ds' H' but fR eR PS K'))
abbrev j7:Stmt:=top 53
theorem Il:az ["book","path","step"] ["book","path","step"] (ai j7):=dB
theorem Iw  (F:ck K "go_step" "go_step" j7 f fd) (T:Txt K mg Y.z.s) (J:dI K mg Y fS Db Bk) (BO:Dn P w K mg base (5*n+26) "go_choose" ["book","path","step"] (Aq N Y Bk Db (n+1))) (BL:Dn P w K mg base (5*n+26) "go_repeat" ["book","path","step"] (jE N Y Bk Db (n+1) (fun j=>j=8))) (DX:Dn P w K mg base 7 "go_plain" ["book","path","step"] (jE N Y Bk Db (n+1) (fun j=>j∈([0,2,3,4,5]:List Nat)))) (BN:Dn P w K mg base 7 "go_divide" ["book","path","step"] (jE N Y Bk Db (n+1) (fun j=>j=1))) (Jq:Dn P w K mg base 7 "go_call" ["book","path","step"] (jE N Y Bk Db (n+1) (fun j=>j=6))):aM P w K mg base bP (5*n+27) f fd ["book","path","step"] (An N Y Bk Db (n+1)):=by
 obtain ⟨VL,Ud,Ep,Bo,Bu,D9⟩:=BO
 obtain ⟨VI,Ub,En,Bl,Bs,D7⟩:=BL
 obtain ⟨a0e,VF,JI,Dl,DB,Jx⟩:=DX
 obtain ⟨VJ,Uc,Eo,Bm,Bt,D8⟩:=BN
 obtain ⟨a04,Z7,MC,IJ,IY,Mv⟩:=Jq
 refine F.dY Il fun vs H Q E h=>?_
 obtain ⟨b,F,p,pg,v,ds,dd,rs,s0,rfl,G0,hs,od,hd,hnp,hB,hw,hn,k⟩:=h
 refine ⟨rfl,fun _ _ _ _ hr=>?_⟩
 rw [show aj j7=[_,_,_,_,_] from rfl]
 refine ⟨_,(ak (cA (gM (aX (fK (c:=.ref Y.ch) trivial) (by rfl) T.isinstance boot_isinstance (aa (pv 2) (aa (cE (v:=.ref Y.ch) rfl J.mg7 rfl) ah)))) (ao (aG (au Ep hr.m rfl Bo Bu D9 .nil av (aa (pv 0) (aa (pv 1) (aa (pv 2) ah)))))) bh)
   (ak (cA (gM (aX (fK (c:=.ref Y.rp) trivial) (by rfl) T.isinstance boot_isinstance (aa (pv 2) (aa (cE (v:=.ref Y.rp) rfl J.mg8 rfl) ah)))) (ao (aG (bC (aa (au En hr.m rfl Bl Bs D7 .nil av (aa (pv 0) (aa (pv 1) (aa (pv 2) ah)))) ah)))) bh)
   (ak (cA (gM (aX (fK (c:=.ref Y.cl) trivial) (by rfl) T.isinstance boot_isinstance (aa (pv 2) (aa (cE (v:=.ref Y.cl) rfl J.mg6 rfl) ah)))) (ao (aG (bC (aa (au MC hr.m rfl IJ IY Mv .nil av (aa (pv 0) (aa (pv 1) (aa (pv 2) ah)))) ah)))) bh)
   (ak (cA (gM (aX (fK (c:=.ref Y.dv) trivial) (by rfl) T.isinstance boot_isinstance (aa (pv 2) (aa (cE (v:=.ref Y.dv) rfl J.mg1 rfl) ah)))) (ao (aG (bC (aa (au Eo hr.m rfl Bm Bt D8 .nil av (aa (pv 0) (aa (pv 1) (aa (pv 2) ah)))) ah)))) bh)
   (ao (aG (bC (aa (au JI hr.m rfl Dl DB Jx .nil av (aa (pv 0) (aa (pv 1) (aa (pv 2) ah)))) ah)))))))),?_⟩
 dsimp only [jR,Cx.yN]
 have h4:=qe hs
 have ty:=jZ T J hs
 refine (cV rfl ⟨_,_,_,cV rfl ⟨ty,rfl,J.kk _ 7 h4 (by decide),cV rfl ?_⟩⟩)
 by_cases h7:kd s0=7
 ·refine nK (decide_eq_true h7) ?_
  exact (cV rfl (cV rfl (cV rfl ⟨b,F,p,pg,v,ds,dd,rs,s0,rfl,G0,hs,od,hd,h7,hnp,hB,hw,hn,k⟩)))
 refine iM (decide_eq_false h7) ?_
 have one:∀ (v':V) (ds':List V) (rs':List Rx) (H':Hp),aR F H H'→(s0.go rs).2=[rs']→mS Y.z H' v' rs'→yP Y.z Bk Db H' b F pg ds' (dd++(s0.go rs).1)→∀ L,H' L=none→Q (.ref L) (upd H' L (.lst [v'])):=fun v' ds' rs' H' but Uk pt K' L hL=>by
  have sL:=new (o:=.lst [v']) hL
  have fL:H L=none:=by
   cases z:H L with
   | none=>rfl
   | some o =>
    have Zf:L≠F:=fun e=>by rw [e,K'.f] at hL;cases hL
    rw [but _ _ z Zf] at hL;cases hL
  refine k L [v'] ds' _ (but.trans (aR.of sL)) fL af ?_ (K'.same sL)
  rw [Uk]
  exact .cons (pt.aE (aD.of sL)) .nil
 refine (cV rfl ⟨_,_,_,cV rfl ⟨ty,rfl,J.kk _ 8 h4 (by decide),cV rfl ?_⟩⟩)
 by_cases h8:kd s0=8
 ·refine nK (decide_eq_true h8) ?_
  refine (cV rfl (cV rfl (cV rfl ⟨b,F,p,pg,v,ds,dd,rs,s0,rfl,G0,hs,od,hd,h8,hB,hw,hn,fun v' ds' rs' H' but Uk pt K'=>?_⟩)))
  exact ⟨szl 1,fun L hL=>one v' ds' rs' H' but Uk pt K' L hL⟩
 refine iM (decide_eq_false h8) ?_
 refine (cV rfl ⟨_,_,_,cV rfl ⟨ty,rfl,J.kk _ 6 h4 (by decide),cV rfl ?_⟩⟩)
 by_cases h6:kd s0=6
 ·refine nK (decide_eq_true h6) ?_
  refine (cV rfl (cV rfl (cV rfl ⟨b,F,p,pg,v,ds,dd,rs,s0,rfl,G0,hs,od,hd,h6,hB,hw,hn,fun v' ds' rs' H' but Uk pt K'=>?_⟩)))
  exact ⟨szl 1,fun L hL=>one v' ds' rs' H' but Uk pt K' L hL⟩
 refine iM (decide_eq_false h6) ?_
 refine (cV rfl ⟨_,_,_,cV rfl ⟨ty,rfl,J.kk _ 1 h4 (by decide),cV rfl ?_⟩⟩)
 by_cases h1:kd s0=1
 ·refine nK (decide_eq_true h1) ?_
  refine (cV rfl (cV rfl (cV rfl ⟨b,F,p,pg,v,ds,dd,rs,s0,rfl,G0,hs,od,hd,h1,hB,hw,hn,fun v' ds' rs' H' but Uk pt K'=>?_⟩)))
  exact ⟨szl 1,fun L hL=>one v' ds' rs' H' but Uk pt K' L hL⟩
 refine iM (decide_eq_false h1) ?_
 have hpl:kd s0∈([0,2,3,4,5]:List Nat):=by
  have:kd s0=0∨kd s0=2∨kd s0=3∨kd s0=4∨kd s0=5:=by omega
  simp only [List.mem_cons,List.not_mem_nil,or_false]
  exact this
 refine (cV rfl (cV rfl (cV rfl ⟨b,F,p,pg,v,ds,dd,rs,s0,rfl,G0,hs,od,hd,hpl,hB,hw,hn,fun v' ds' rs' H' but Uk pt K'=>?_⟩)))
 exact ⟨szl 1,fun L hL=>one v' ds' rs' H' but Uk pt K' L hL⟩
abbrev iX:Stmt:=top 54
theorem oM:az ["book","path","step"] ["book","path","step"] (ai iX):=dB
theorem C8  (F:ck K "go_plain" "go_plain" iX f fd) (T:Txt K mg Y.z.s) (J:dI K mg Y fS Db Bk) (ym:Dn P w K mg base 1 "let" ["thing","total"] CB) (yj:Mt P w K mg base 4 Bk "owe" ["self","path","kind","at","condition"] (wZ Y.z Bk Db)) (gq:Dn P w K mg base 4 "from_nought" ["total"] (wm Y.z)) (cO:Dn P w K mg base 1 "length_of" ["row"] mW) (DV:Dn P w K mg base 6 "is_within" ["step"] (Nl K Y.z)) (cH:Dn P w K mg base 5 "rows_of_any" ["thing"] (iP Y.z)):aM P w K mg base bP 7 f fd ["book","path","step"] (jE N Y Bk Db n (fun j=>j∈([0,2,3,4,5]:List Nat))):=by
 obtain ⟨QJ,Jd,tW,nv,nG,tP⟩:=ym
 obtain ⟨QH,Jc,vF,vm,vE⟩:=yj
 obtain ⟨qg,o8,gu,fZ,gb,gr⟩:=gq
 obtain ⟨jw,iI,cQ,bT,bV,cP⟩:=cO
 obtain ⟨VH,Ua,Em,Bj,Br,D6⟩:=DV
 obtain ⟨jt,iH,cM,bS,bU,cJ⟩:=cH
 refine F.dY oM fun vs H Q E h=>?_
 obtain ⟨b,F,p,pg,v,ds,dd,rs,s0,rfl,G0,hs,od,hd,hk,hB,hw,hn,k⟩:=h
 refine ⟨rfl,fun _ _ _ _ hr=>?_⟩
 rw [show aj iX=[_,_,_,_,_,_] from rfl]
 refine ⟨_,(ak (cA (gM (aX (fK (c:=.ref Y.lt) trivial) (by rfl) T.isinstance boot_isinstance (aa (pv 2) (aa (cE (v:=.ref Y.lt) rfl J.mg0 rfl) ah)))) (ao (aG (aT bD (pv 1) (aJ (aa (au tW hr.m rfl nv nG tP .nil av (aa (aA (pv 2) rfl) (aa (aA (pv 2) rfl) ah))) ah))))) bh)
   (ak (cA (gM (aX (fK (c:=.ref Y.cm) trivial) (by rfl) T.isinstance boot_isinstance (aa (pv 2) (aa (cE (v:=.ref Y.cm) rfl J.mg5 rfl) ah)))) (ao (aG (dO (pv 0) J.cb vm vF hr.m vE .nil av (aa (pv 1) (aa aZ (aa (aA (pv 2) rfl) (aa (aA (pv 2) rfl) ah))))))) bh)
   (ak (cA (gM (aX (fK (c:=.ref Y.mq) trivial) (by rfl) T.isinstance boot_isinstance (aa (pv 2) (aa (cE (v:=.ref Y.mq) rfl J.mg4 rfl) ah)))) (ak (aO (i:=1) oM.nd rfl (Or.inl rfl) (dO (pv 0) J.cb vm vF hr.m vE .nil av (aa (pv 1) (aa aZ (aa (aA (pv 2) rfl) (aa (au gu hr.m rfl fZ gb gr .nil av (aa (aA (pv 2) rfl) ah)) ah))))))
   (ao (aG (aT bD (pv 1) (aJ (aa (au tW hr.m rfl nv nG tP .nil av (aa (au cQ hr.m rfl bT bV cP .nil av (aa (aA (pv 2) rfl) ah)) (aa (aA (pv 2) rfl) ah))) ah)))))) bh)
   (ak (aO (i:=1) oM.nd rfl (Or.inl rfl) (dO (pv 0) J.cb vm vF hr.m vE .nil av (aa (pv 1) (aa aZ (aa (aA (pv 2) rfl) (aa (au Em hr.m rfl Bj Br D6 .nil av (aa (pv 2) ah)) ah))))))
   (ak (cA (gM (aX (fK (c:=.ref Y.ft) trivial) (by rfl) T.isinstance boot_isinstance (aa (pv 2) (aa (cE (v:=.ref Y.ft) rfl J.mg2 rfl) ah)))) (ao (aG (aT bD (pv 1) (au cM hr.m rfl bS bU cJ .nil av (aa (aA (pv 2) rfl) ah))))) bh)
   (ao (aG (pv 1)))))))),?_⟩
 dsimp only [jR,Cx.yN]
 have h4:=qe hs
 have ty:=jZ T J hs
 obtain ⟨t,xs,rfl,et,rx⟩:=G0.p
 have lx:=bQ rx
 obtain ⟨KP,eb⟩:=G0.k.o
 have gw8:s0.gw=8:=by
  cases s0 with
  | flat=>unfold aI.gw;rfl
  | kO=>exact absurd (show 7∈([0,2,3,4,5]:List Nat) from hk) (by decide)
  | rep=>exact absurd (show 8∈([0,2,3,4,5]:List Nat) from hk) (by decide)
 rw [gw8] at hB
 refine gH fun Kn wG=>?_
 refine (cV rfl ⟨_,_,_,cV rfl ⟨ty,rfl,J.kk _ 0 h4 (by decide),cV rfl ?_⟩⟩)
 by_cases h0:kd s0=0
 ·refine nK (decide_eq_true h0) ?_
  obtain ⟨a,dx,u,x,b0,n0,rfl,hx,hb,ep,su⟩:=w0_ hs od h0
  refine (cV rfl (cV rfl (cF ep (J.cl 0 (by decide)) (J.nA 0) (bx (cT)) (cV rfl (cF ep (J.cl 0 (by decide)) (J.nA 0) cT ⟨_,cV rfl (fun r2 H2 s2 e2=>?_)⟩)))))
  refine ⟨szl 1,fun r3 Ky=>?_⟩
  have s3:=s2.trans (new (o:=.tup [.ref r2]) Ky)
  refine bW (s3 _ _ et) af (by show xs.length+1≤100000;omega) fun r4 H4 s4 e4=>?_
  refine k (.ref r4) ds (rs++[.lt]) H4 (aR.of (s3.trans s4)) (by unfold aI.go;rfl) ⟨r4,cV rfl ⟨e4,fu ((rx.aE (aD.of s3)).aE (aD.of s4)) (.cons (show JC Y.z H4 (.ref r2) .lt from ⟨r2,_,cV rfl (s4 _ _ (new Ky _ _ e2))⟩) .nil)⟩⟩ ?_
  have ed:((aI.flat 0 a [.tx x,.sm b0 n0]).go rs).1=[]:=by unfold aI.go;rfl
  rw [ed,List.append_nil]
  exact G0.k.same (s3.trans s4)
 refine iM (decide_eq_false h0) ?_
 refine wG _ _ ?_
 refine gH fun Kn wG=>?_
 refine (cV rfl ⟨_,_,_,cV rfl ⟨ty,rfl,J.kk _ 5 h4 (by decide),cV rfl ?_⟩⟩)
 by_cases h5:kd s0=5
 ·refine nK (decide_eq_true h5) ?_
  obtain ⟨a,dx,c,pc,rfl,xc,ep,hc⟩:=w5_ hs od h5
  have hn:dd.length+1≤100:=by have z:=hn;unfold aI.dn at z;exact z
  refine (cV rfl ⟨b,KP,cV rfl ⟨eb,jH (jH rfl),cV rfl (cV rfl (cF ep (J.cl 5 (by decide)) (J.nA 5) (bx (cT)) (cV rfl (cF ep (J.cl 5 (by decide)) (J.nA 5) cT ?_))))⟩⟩)
  refine ⟨b,F,pg,.ref t,ds,dd,rs,"claim",a,cV rfl ⟨G0.k,by omega,⟨t,xs,rfl,et,rx⟩,by omega,fun v' ds' H' but K' pt=>?_⟩⟩
  have hk':=G0.k.vX but
  refine k v' ds' _ H' but (by unfold aI.go;rfl) (pt (.hold c) fun r er=>⟨r,cV rfl ⟨er,hc.aE hk'⟩⟩) ?_
  have ed:((aI.flat 5 a [.cd c]).go rs).1=[⟨"claim",a,rs⟩]:=by unfold aI.go;rfl
  rw [ed]
  exact K'
 refine iM (decide_eq_false h5) ?_
 refine wG _ _ ?_
 refine gH fun Kn wG=>?_
 refine (cV rfl ⟨_,_,_,cV rfl ⟨ty,rfl,J.kk _ 4 h4 (by decide),cV rfl ?_⟩⟩)
 by_cases h4':kd s0=4
 ·refine nK (decide_eq_true h4') ?_
  obtain ⟨a,dx,u,r0,b0,n0,rfl,hr0,hb,ep,su⟩:=w4_ hs od h4'
  have hn:dd.length+1≤100:=by have z:=hn;unfold aI.dn at z;exact z
  refine gH fun K3 h3=>?_
  refine (cV rfl ⟨b,KP,cV rfl ⟨eb,jH (jH rfl),cV rfl (cV rfl (cF ep (J.cl 4 (by decide)) (J.nA 4) (bx (bx (cT))) (cV rfl (cF ep (J.cl 4 (by decide)) (J.nA 4) cT ⟨u,b0,n0,rfl,su,fun rc Hc sc cc=>?_⟩))))⟩⟩)
  refine ⟨b,F,pg,.ref t,ds,dd,rs,"short",a,cV rfl ⟨G0.k.same sc,by omega,⟨t,xs,rfl,sc _ _ et,rx.aE (aD.of sc)⟩,by omega,fun v' ds' H' but K' pt=>?_⟩⟩
  refine h3 _ _ ?_
  have hk':aD H H':=(aD.of sc).trans ((G0.k.same sc).vX but)
  obtain ⟨t',xs',rfl,et',vf⟩:=pt .jK fun _ _=>trivial
  have lx':=bQ vf
  rw [List.length_append] at lx'
  have lx':xs'.length=rs.length+1:=lx'
  refine (cV rfl (cV rfl (cF (hk'.i _ _ _ _ ep) (J.cl 4 (by decide)) (J.nA 4) (bx (cT)) ⟨r0,rfl,by have:=hr0.2;omega,cV rfl (cF (hk'.i _ _ _ _ ep) (J.cl 4 (by decide)) (J.nA 4) cT ⟨_,cV rfl (fun r2 H2 s2 e2=>?_)⟩)⟩)))
  refine ⟨szl 1,fun r3 Ky=>?_⟩
  have s3:=s2.trans (new (o:=.tup [.ref r2]) Ky)
  refine bW (s3 _ _ et') af (by show xs'.length+1≤100000;omega) fun r4 H4 s4 e4=>?_
  refine k (.ref r4) ds' (rs++[.jK,.jK]) H4 (((aR.of sc).trans but).trans (aR.of (s3.trans s4))) (by unfold aI.go;rfl) ⟨r4,cV rfl ⟨e4,?_⟩⟩ ?_
  ·have z:=fu ((vf.aE (aD.of s3)).aE (aD.of s4)) (.cons (show JC Y.z H4 (.ref r2) .jK from trivial) .nil)
   rw [List.append_assoc] at z
   exact z
  ·have ed:((aI.flat 4 a [.tx r0,.sm b0 n0]).go rs).1=[⟨"short",a,rs⟩]:=by unfold aI.go;rfl
   rw [ed]
   exact K'.same (s3.trans s4)
 refine iM (decide_eq_false h4') ?_
 refine wG _ _ ?_
 have h23:kd s0=2∨kd s0=3:=by
  have z:kd s0∈([0,2,3,4,5]:List Nat):=hk
  simp only [List.mem_cons,List.not_mem_nil,or_false] at z
  omega
 rcases h23 with h2 | h3
 ·obtain ⟨a,dx,u,x,r0,b0,n0,rfl,hx,hr0,hb,ep,su⟩:=w2_ hs od h2
  have hn:dd.length+1≤100:=by have z:=hn;unfold aI.dn at z;exact z
  refine gH fun K3 h3'=>?_
  refine (cV rfl ⟨b,KP,cV rfl ⟨eb,jH (jH rfl),cV rfl (cV rfl (cF ep (J.cl 2 (by decide)) (J.nA 2) (bx (bx (bx (cT)))) (cV rfl ⟨p,dx,_,u,_,r0,b0,n0,rfl,ep,J.cl 2 (by decide),J.nA 2,J.nA 2,hr0.2,bx (cT),cT,su,fun rc Hc sc=>?_⟩)))⟩⟩)
  refine ⟨b,F,pg,.ref t,ds,dd,rs,"beyond",a,cV rfl ⟨G0.k.same sc,by omega,⟨t,xs,rfl,sc _ _ et,rx.aE (aD.of sc)⟩,by omega,fun v' ds' H' but K' pt=>?_⟩⟩
  refine h3' _ _ ?_
  have hk':aD H H':=(aD.of sc).trans ((G0.k.same sc).vX but)
  obtain ⟨t',xs',rfl,et',vf⟩:=pt .jK fun _ _=>trivial
  have lx':=bQ vf
  rw [List.length_append] at lx'
  have lx':xs'.length=rs.length+1:=lx'
  have hs':=hs.aE hk'
  refine (cV rfl ⟨_,_,_,cV rfl ⟨jZ T J hs',rfl,J.kk _ 2 h4 (by decide),cV rfl (nK rfl ?_)⟩⟩)
  refine (cV rfl (cV rfl (cF (hk'.i _ _ _ _ ep) (J.cl 2 (by decide)) (J.nA 2) (bx (bx (cT))) ⟨x,rfl,fun r2 zx H2 s2 e2 q2=>?_⟩)))
  have e1:bf x=[.any x]:=by unfold bf;rw [if_neg (by rw [hx.2];decide)]
  rw [e1] at q2
  have l2:=bQ q2
  have l2:zx.length=1:=l2
  refine bW (s2 _ _ et') e2 (by omega) fun r4 H4 s4 e4=>?_
  refine k (.ref r4) ds' (rs++[.jK,.jK]) H4 (((aR.of sc).trans but).trans (aR.of (s2.trans s4))) (by unfold aI.go;rfl) ⟨r4,cV rfl ⟨e4,?_⟩⟩ ?_
  ·have u1:=wu (Z:=Y.z) (H:=H4) zx
   rw [l2] at u1
   have z:=fu ((vf.aE (aD.of s2)).aE (aD.of s4)) u1
   rw [List.append_assoc] at z
   exact z
  ·have ed:((aI.flat 2 a [.tx x,.tx r0,.sm b0 n0]).go rs).1=[⟨"beyond",a,rs⟩]:=by unfold aI.go;rfl
   rw [ed]
   exact K'.same (s2.trans s4)
 ·obtain ⟨a,dx,u,w2,r0,b0,n0,c0,m0,rfl,hr0,hb,hc0,ep,su,sw⟩:=w3_ hs od h3
  have hn:dd.length+1≤100:=by have z:=hn;unfold aI.dn at z;exact z
  refine gH fun K3 h3'=>?_
  refine (cV rfl ⟨b,KP,cV rfl ⟨eb,jH (jH rfl),cV rfl (cV rfl (cF ep (J.cl 3 (by decide)) (J.nA 3) (bx (bx (bx (cT)))) (cV rfl ⟨p,dx,_,u,_,r0,b0,n0,rfl,ep,J.cl 3 (by decide),J.nA 3,J.nA 3,hr0.2,bx (bx (cT)),bx (cT),su,fun rc Hc sc=>?_⟩)))⟩⟩)
  refine ⟨b,F,pg,.ref t,ds,dd,rs,"beyond",a,cV rfl ⟨G0.k.same sc,by omega,⟨t,xs,rfl,sc _ _ et,rx.aE (aD.of sc)⟩,by omega,fun v' ds' H' but K' pt=>?_⟩⟩
  refine h3' _ _ ?_
  have hk':aD H H':=(aD.of sc).trans ((G0.k.same sc).vX but)
  have hs':=hs.aE hk'
  refine (cV rfl ⟨_,_,_,cV rfl ⟨jZ T J hs',rfl,J.kk _ 2 h4 (by decide),cV rfl (iM rfl ?_)⟩⟩)
  refine (cV rfl (k v' ds' _ H' ((aR.of sc).trans but) (by unfold aI.go;rfl) (pt .jK fun _ _=>trivial) ?_))
  have ed:((aI.flat 3 a [.tx r0,.sm b0 n0,.sm c0 m0]).go rs).1=[⟨"beyond",a,rs⟩]:=by unfold aI.go;rfl
  rw [ed]
  exact K'
abbrev gC:Stmt:=top 55
theorem rT:az ["step","last"] ["step"] (ai gC):=dB
theorem AK  (F:ck K "is_within" "is_within" gC f fd) (T:Txt K mg Y.z.s) (J:dI K mg Y fS Db Bk) (nR:Dn P w K mg base 3 "once" ["thing"] (um Y.z.s)) (cO:Dn P w K mg base 1 "length_of" ["row"] mW) (a0m:Mt P w K mg base 5 Y.z.s "less" ["self","other"] (HQ Y.z.s)) (iJ:Mr P w K mg base 1 Y.z.s ["self","terms","number"] (mX Y.z.s)) (gq:Dn P w K mg base 4 "from_nought" ["total"] (wm Y.z)) (mO:Dn P w K mg base 3 "at_most" ["one","other"] (J7 Y.z)) (Q6:Mr P w K mg base 1 Y.z.e ["self","conditions"] (Nm Y.z.e)):aM P w K mg base bP 6 f fd ["step"] (Nl K Y.z):=by
 obtain ⟨BH,wI,kY,iC,iE,kQ⟩:=nR
 obtain ⟨jw,iI,cQ,bT,bV,cP⟩:=cO
 obtain ⟨b9C,a7O,JJ,Zh,Jy⟩:=a0m
 obtain ⟨DP,yc,cz,yy,cy⟩:=iJ
 obtain ⟨qg,o8,gu,fZ,gb,gr⟩:=gq
 obtain ⟨zQ,yb,jY,ja,jd,jX⟩:=mO
 obtain ⟨Uh,QE,oh,JE,nX⟩:=Q6
 refine F.dY rT fun vs H Q E h=>?_
 obtain ⟨p,dx,C,u,fs,r0,b,n0,rfl,ep,hC,hnr,hnp,hl,l1,l2,S,k⟩:=h
 refine ⟨rfl,fun _ _ _ _ hr=>?_⟩
 rw [show aj gC=[_,_] from rfl]
 refine ⟨_,(ak (aO (i:=1) rT.nd rfl (Or.inl rfl) (dO (au kY hr.m rfl iC iE kQ .nil av (aa (au cQ hr.m rfl bT bV cP .nil av (aa (aA (pv 0) rfl) ah)) ah)) T.cl Zh JJ hr.m Jy .nil av (aa (br yy cz hr.m rfl T.qT cy .nil av (aa (aJ ah) (aa aH ah))) ah)))
   (ao (aG (br JE oh hr.m rfl J.mgE nX .nil av (aa (bC (aa (au gu hr.m rfl fZ gb gr .nil av (aa (aA (pv 0) rfl) ah)) (aa (au jY hr.m rfl ja jd jX .nil av (aa (aA (pv 0) rfl) (aa (pv 1) ah))) ah))) ah))))),?_⟩
 refine (cV rfl ⟨p,C,dx,_,cV rfl ⟨ep,hC,hnr,l1,r0,rfl,by omega,?_⟩⟩)
 refine (cV rfl (fun q1 H1 s1 S1=>?_))
 obtain ⟨dq1,tq1,eq1,_,_⟩:=id S1
 refine ⟨q1,dq1,cV rfl ⟨eq1,cW _ _ (by decide +kernel) (by decide +kernel),Nat.zero_le _,fun q0 LF=>?_⟩⟩
 have s3:=new (o:=.tup []) LF
 intro x2 eO gm eX ne2
 have s4:=aV (o:=.own x2) (o':=.ins Y.z.s eO []) gm eX
 refine ⟨x2,eO,q0,1,[],rfl,af,.inr ⟨[],s4 _ _ af,.nil⟩,Nat.zero_le _,fun H5 mR S5=>⟨rfl,?_⟩⟩
 have s5:aK H1 H5:=fun b' o' e'=>mR _ _ (s4 _ _ (s3 _ _ e')) (aq (s3 _ _ e') gm)
 refine ⟨q1,x2,_,_,_,cV rfl ⟨S1.same s5,S5,(by show 1+0 < 64;decide),fun r6 ts6 H6 s6 _ _ S6=>?_⟩⟩
 have sA:=(s1.trans s5).trans s6
 refine (cV rfl ⟨p,C,dx,_,cV rfl ⟨sA _ _ ep,hC,hnp,l2,u,b,n0,rfl,S.same sA,fun r7 H7 s7 c7=>?_⟩⟩)
 have sB:=sA.trans s7
 refine (cV rfl ⟨p,C,dx,_,cV rfl ⟨sB _ _ ep,hC,hnp,l2,cV rfl ⟨u,r6,_,_,_,cV rfl ⟨S.same sB,S6.same s7,fun r8 H8 s8 c8=>?_⟩⟩⟩⟩)
 refine ⟨szl 2,fun L hL=>?_⟩
 have sC:=(sB.trans s8).trans (new (o:=.lst [.ref r7,.ref r8]) hL)
 intro xe dxe hxe ZC nee
 have se:=aV (o:=.own xe) (o':=.ins Y.z.e dxe []) hxe ZC
 refine ⟨xe,dxe,L,cV rfl ⟨af,se _ _ af,fun H9 c4S=>⟨rfl,?_⟩⟩⟩
 exact k xe H9 fun b' o' e'=>c4S _ _ (se _ _ (sC _ _ e')) (aq (sC _ _ e') hxe)
abbrev gF:Stmt:=top 56
theorem jM:az ["book","path","step","by"] ["book","path","step"] (ai gF):=dB
theorem AO  (F:ck K "go_divide" "go_divide" gF f fd) (T:Txt K mg Y.z.s) (J:dI K mg Y fS Db Bk) (ym:Dn P w K mg base 1 "let" ["thing","total"] CB) (yj:Mt P w K mg base 4 Bk "owe" ["self","path","kind","at","condition"] (wZ Y.z Bk Db)) (nR:Dn P w K mg base 3 "once" ["thing"] (um Y.z.s)) (zc:Dn P w K mg base 6 "is_quotient" ["by"] Vd) (cH:Dn P w K mg base 5 "rows_of_any" ["thing"] (iP Y.z)) (iJ:Mr P w K mg base 1 Y.z.s ["self","terms","number"] (mX Y.z.s)) (nU:Mr P w K mg base 1 Y.z.c ["self","one","sign","other"] (rQ Y.z)) (je:Dn P w K mg base 1 "hold" ["condition"] oH):aM P w K mg base bP 7 f fd ["book","path","step"] (jE N Y Bk Db n (fun j=>j=1)):=by
 obtain ⟨QJ,Jd,tW,nv,nG,tP⟩:=ym
 obtain ⟨QH,Jc,vF,vm,vE⟩:=yj
 obtain ⟨BH,wI,kY,iC,iE,kQ⟩:=nR
 obtain ⟨RE,QD,zk,xO,xU,ze⟩:=zc
 obtain ⟨jt,iH,cM,bS,bU,cJ⟩:=cH
 obtain ⟨DP,yc,cz,yy,cy⟩:=iJ
 obtain ⟨uU,qZ,dH,kX,dF⟩:=nU
 obtain ⟨uS,pU,gQ,fz,fD,gP⟩:=je
 obtain ⟨tD3,Zg⟩:=J.d3
 obtain ⟨tD4,Tw⟩:=J.d4
 refine F.dY jM fun vs H Q E h=>?_
 obtain ⟨b,F,p,pg,v,ds,dd,rs,s0,rfl,G0,hs,od,hd,hk,hB,hw,hn,k⟩:=h
 refine ⟨rfl,fun _ _ _ _ hr=>?_⟩
 rw [show aj gF=[_,_,_,_,_,_] from rfl]
 refine ⟨_,(ak (aO (i:=1) jM.nd rfl (Or.inl rfl) (dO (pv 0) J.cb vm vF hr.m vE .nil av (aa (pv 1) (aa aZ (aa (aA (pv 2) rfl) (aa (br kX dH hr.m rfl J.mgC dF .nil av (aa (aA (pv 2) rfl) (aa aZ (aa (br yy cz hr.m rfl T.qT cy .nil av (aa (aJ ah) (aa aH ah))) ah)))) ah))))))
   (ak (cA (PW.pt (Vr (bJ vj (aX dQ (by rfl) T.len PySem.boot_len (aa (aA (aA (pv 2) rfl) rfl) ah)) aH (bM _)) (NX (bJ kr (aA (aA (pv 2) rfl) rfl) aH (bM _))))) (ao gz) bh)
   (ak (aO (i:=3) jM.nd rfl (Or.inl rfl) (aA (aA (pv 2) rfl) rfl))
   (ak (aO (i:=1) jM.nd rfl (Or.inl rfl) (aT bD (aT bD (aT bD (pv 1) (aJ (aa (au tW hr.m rfl nv nG tP .nil av (aa (cE (v:=.str "^") rfl Zg ⟨_,rfl⟩) (aa (aA (pv 2) rfl) ah))) ah))) (au cM hr.m rfl bS bU cJ .nil av (aa (cE (v:=.str "^^") rfl Tw ⟨_,rfl⟩) ah))) (aJ (aa (au gQ hr.m rfl fz fD gP .nil av (aa (au zk hr.m rfl xO xU ze .nil av (aa (pv 3) ah)) ah)) ah))))
   (ak (cA (bJ kr (aA (pv 2) rfl) aZ (bM _)) (ao (aG (aT bD (pv 1) (aJ (aa (au tW hr.m rfl nv nG tP .nil av (aa (aA (pv 2) rfl) (aa (au kY hr.m rfl iC iE kQ .nil av (aa (cE (v:=.str "^^") rfl Tw ⟨_,rfl⟩) ah)) ah))) ah))))) bh)
   (ao gz)))))),?_⟩
 dsimp only [jR,Cx.yN]
 obtain ⟨a,dx,u,w2,x,b0,n0,rfl,hx,hb,ep,su,sw⟩:=w1_ hs od hk
 obtain ⟨t,xs,rfl,et,rx⟩:=G0.p
 have lx:=bQ rx
 obtain ⟨KP,eb⟩:=G0.k.o
 have hB:rs.length+8≤50000:=by have z:=hB;unfold aI.gw at z;exact z
 have hn:dd.length+1≤100:=by have z:=hn;unfold aI.dn at z;exact z
 refine (cV rfl ⟨b,KP,cV rfl ⟨eb,jH (jH rfl),cV rfl (cV rfl (cF ep (J.cl 1 (by decide)) (J.nA 1) (bx (bx (bx (bx (cT))))) (cV rfl (cF ep (J.cl 1 (by decide)) (J.nA 1) cT ⟨Nat.zero_le _,fun q0 LF=>?_⟩))))⟩⟩)
 have s3:=new (o:=.tup []) LF
 intro x2 eO gm eX ne2
 have s4:=aV (o:=.own x2) (o':=.ins Y.z.s eO []) gm eX
 refine ⟨x2,eO,q0,0,[],rfl,af,.inr ⟨[],s4 _ _ af,.nil⟩,Nat.zero_le _,fun H5 mR S5=>⟨rfl,?_⟩⟩
 have s5:aK H H5:=fun b' o' e'=>mR _ _ (s4 _ _ (s3 _ _ e')) (aq (s3 _ _ e') gm)
 intro x6 dx6 hx6 b9d ne6
 have s6:=aV (o:=.own x6) (o':=.ins Y.z.c dx6 []) hx6 b9d
 refine ⟨x6,dx6,w2,x2,"!=",rfl,af,fun H7 mQ e7=>⟨rfl,?_⟩⟩
 have sc:aK H H7:=fun b' o' e'=>mQ _ _ (s6 _ _ (s5 _ _ e')) (aq (s5 _ _ e') hx6)
 refine ⟨b,F,pg,.ref t,ds,dd,rs,"nought",a,cV rfl ⟨G0.k.same sc,by omega,⟨t,xs,rfl,sc _ _ et,rx.aE (aD.of sc)⟩,by omega,fun v' ds' H' but K' pt=>?_⟩⟩
 have hk':aD H H':=(aD.of sc).trans ((G0.k.same sc).vX but)
 obtain ⟨t',xs',rfl,et',vf⟩:=pt .jK fun _ _=>trivial
 have lx':=bQ vf
 rw [List.length_append] at lx'
 have lx':xs'.length=rs.length+1:=lx'
 have zb:=hk'.i _ _ _ _ ep
 have sw':=sw.aE hk'
 obtain ⟨dw,tw,ew,⟨vw,etw,pw⟩,_⟩:=id sw'
 cases pw
 refine (cV rfl (cF zb (J.cl 1 (by decide)) (J.nA 1) cT (cF ew T.cl T.nT (gT _ _) ⟨tw,cV rfl ⟨.inr (bG.of etw),_,cV rfl ⟨rfl,cV rfl (iM (by decide) ?_)⟩⟩⟩)))
 refine (cV rfl (cF zb (J.cl 1 (by decide)) (J.nA 1) cT (cF ew T.cl T.nN (cC _ _) ⟨rfl,cV rfl (iM (by decide) ?_)⟩)))
 refine (cV rfl (cF zb (J.cl 1 (by decide)) (J.nA 1) cT (cF ew T.cl T.nN (cC _ _) ?_)))
 refine (cV rfl (cV rfl (cF zb (J.cl 1 (by decide)) (J.nA 1) (bx (cT)) ⟨_,cV rfl (fun ra Ha sa ea=>?_)⟩)))
 refine ⟨szl 1,fun rb hrb=>?_⟩
 have sb:=sa.trans (new (o:=.tup [.ref ra]) hrb)
 refine bW (sb _ _ et') af (by show xs'.length+1≤100000;omega) fun rc Hc s7c ec=>?_
 refine ⟨"^^",rfl,fun rd zx Hd sd ed q2=>?_⟩
 have e1:bf "^^"=[.any "^^"]:=by unfold bf;rw [if_neg (by decide +kernel)]
 rw [e1] at q2
 have l2:zx.length=1:=bQ q2
 refine bW (sd _ _ ec) ed (by rw [List.length_append];show xs'.length+1+zx.length≤100000;omega) fun re He se ee=>?_
 refine (cV rfl ⟨rfl,fun qf Hf sf=>?_⟩)
 refine (cV rfl (fun rg Hg sg eg=>?_))
 refine ⟨szl 1,fun rh hrh=>?_⟩
 have sh:=(sf.trans sg).trans (new (o:=.tup [.ref rg]) hrh)
 refine bW (sh _ _ ee) af (by rw [List.length_append,List.length_append];show xs'.length+1+zx.length+1≤100000;omega) fun ri Hi si ei=>?_
 have sZ:=((((sb.trans s7c).trans sd).trans se).trans sh).trans si
 refine (cV rfl (cF (sZ _ _ zb) (J.cl 1 (by decide)) (J.nA 1) (bx (bx (cT))) ⟨rfl,cV rfl (mH rfl ?_)⟩))
 refine (cV rfl (cV rfl (cF (sZ _ _ zb) (J.cl 1 (by decide)) (J.nA 1) (bx (bx (bx (cT)))) (cV rfl (fun qj Hj sj Sj=>?_)))))
 refine ⟨_,cV rfl (fun rk Hk sk ek=>?_)⟩
 refine ⟨szl 1,fun rl hrl=>?_⟩
 have sl:=(sj.trans sk).trans (new (o:=.tup [.ref rk]) hrl)
 refine bW (sl _ _ ei) af (by rw [List.length_append,List.length_append,List.length_append];show xs'.length+1+zx.length+1+1≤100000;omega) fun rm Hm sm em=>?_
 have sY:=(sZ.trans sl).trans sm
 refine k (.ref rm) ds' (rs++[.jK,.jK,.jK,.jK,.jK]) Hm (((aR.of sc).trans but).trans (aR.of sY)) (by unfold aI.go;rfl) ⟨rm,cV rfl ⟨em,?_⟩⟩ ?_
 ·have u1:=wu (Z:=Y.z) (H:=Hm) ([V.ref ra]++zx++[V.ref rg]++[V.ref rk])
  rw [show ([V.ref ra]++zx++[V.ref rg]++[V.ref rk]).length=4 by simp [l2]] at u1
  rw [show xs'++[V.ref ra]++zx++[V.ref rg]++[V.ref rk]=xs'++([V.ref ra]++zx++[V.ref rg]++[V.ref rk]) by simp,show rs++[Rx.jK,.jK,.jK,.jK,.jK]=rs++[Rx.jK]++List.replicate 4 Rx.jK by simp [List.replicate]]
  exact fu (vf.aE (aD.of sY)) u1
 ·have ed2:((aI.flat 1 a [.tx x,.tx "div",.sm b0 n0,.sm [] 2]).go rs).1=[⟨"nought",a,rs⟩]:=by unfold aI.go;rfl
  rw [ed2]
  exact K'.same sY
abbrev fk:Stmt:=top 57
theorem ki:az ["by","divided","product"] ["by"] (ai fk):=dB
theorem xD  (F:ck K "is_quotient" "is_quotient" fk f fd) (T:Txt K mg Y.z.s) (J:dI K mg Y fS Db Bk) (nR:Dn P w K mg base 3 "once" ["thing"] (um Y.z.s)) (BK:Mt P w K mg base 4 Y.z.s "times" ["self","number"] (wc Y.z.s)) (Jj:Mt P w K mg base 4 Y.z.s "plus" ["self","other"] (Al Y.z.s)) (iJ:Mr P w K mg base 1 Y.z.s ["self","terms","number"] (mX Y.z.s)) (mO:Dn P w K mg base 3 "at_most" ["one","other"] (J7 Y.z)) (Q6:Mr P w K mg base 1 Y.z.e ["self","conditions"] (Nm Y.z.e)):aM P w K mg base bP 6 f fd ["by"] Vd:=by
 obtain ⟨BH,wI,kY,iC,iE,kQ⟩:=nR
 obtain ⟨Ug,QC,pL,Bp,pJ⟩:=BK
 obtain ⟨Z9,T8,rG,IP,rD⟩:=Jj
 obtain ⟨DP,yc,cz,yy,cy⟩:=iJ
 obtain ⟨zQ,yb,jY,ja,jd,jX⟩:=mO
 obtain ⟨Uh,QE,oh,JE,nX⟩:=Q6
 obtain ⟨tD3,Zg⟩:=J.d3
 obtain ⟨tD4,Tw⟩:=J.d4
 refine F.dY ki fun vs H Q E h=>?_
 obtain ⟨rfl,k⟩:=h
 refine ⟨rfl,fun _ _ _ _ hr=>?_⟩
 rw [show aj fk=[_,_,_,_] from rfl]
 refine ⟨_,(ak (aO (i:=1) ki.nd rfl (Or.inl rfl) (au kY hr.m rfl iC iE kQ .nil av (aa (cE (v:=.str "^") rfl Zg ⟨_,rfl⟩) ah)))
   (ak (aO (i:=2) ki.nd rfl (Or.inl rfl) (dO (au kY hr.m rfl iC iE kQ .nil av (aa (cE (v:=.str "^^") rfl Tw ⟨_,rfl⟩) ah)) T.cl Bp pL hr.m pJ .nil av (aa (pv 0) ah)))
   (ak (cA (bJ vj (pv 0) aH (bM _)) (ao (aG (br JE oh hr.m rfl J.mgE nX .nil av (aa (bC (aa (au jY hr.m rfl ja jd jX .nil av (aa (pv 2) (aa (pv 1) ah))) (aa (au jY hr.m rfl ja jd jX .nil av (aa (pv 1) (aa (dO (pv 2) T.cl IP rG hr.m rD .nil av (aa (br yy cz hr.m rfl T.qT cy .nil av (aa (aJ ah) (aa (aT OG (pv 0) aH) ah))) ah)) ah))) ah))) ah)))) bh)
   (ao gz)))),?_⟩
 refine (cV rfl (fun q1 H1 s1 S1=>?_))
 refine (cV rfl (fun q2 H2 s2 S2=>?_))
 obtain ⟨dq2,tq2,eq2,_,_⟩:=id S2
 refine ⟨q2,dq2,cV rfl ⟨eq2,cW _ _ (by decide +kernel) (by decide +kernel),cV rfl ⟨q2,[("^^",1)],0,2,rfl,S2,(by show 1 < 64;decide),⟨by decide,by decide⟩,fun r3 ts3 H3 s3 _ l3 S3=>?_⟩⟩⟩
 refine (cV rfl ⟨_,cV rfl ⟨rfl,cV rfl (mH (by decide) ?_)⟩⟩)
 have sA:=(s1.trans s2).trans s3
 have S1':=S1.same (s2.trans s3)
 refine (cV rfl (cV rfl ⟨r3,q1,_,_,_,cV rfl ⟨S3,S1',fun r4 H4 s4 c4=>?_⟩⟩))
 have S3':=S3.same s4
 obtain ⟨dq3,tq3,eq3,_,_⟩:=id S3'
 refine (cV rfl (cV rfl ⟨r3,dq3,cV rfl ⟨eq3,cW _ _ (by decide +kernel) (by decide +kernel),Nat.zero_le _,fun q0 LF=>?_⟩⟩))
 have s5:=new (o:=.tup []) LF
 refine (cV rfl ⟨_,cV rfl ⟨rfl,?_⟩⟩)
 intro x2 eO gm eX ne2
 have s6:=aV (o:=.own x2) (o':=.ins Y.z.s eO []) gm eX
 refine ⟨x2,eO,q0,_,[],rfl,af,.inr ⟨[],s6 _ _ af,.nil⟩,Nat.zero_le _,fun H7 mQ S7=>⟨rfl,?_⟩⟩
 have s7:aK H4 H7:=fun b' o' e'=>mQ _ _ (s6 _ _ (s5 _ _ e')) (aq (s5 _ _ e') gm)
 refine ⟨r3,x2,_,_,_,cV rfl ⟨S3'.same s7,S7,(by have:ts3.length≤1:=l3;show ts3.length+0 < 64;omega),fun r8 ts8 H8 s8 _ _ S8=>?_⟩⟩
 have sB:=(s4.trans s7).trans s8
 refine ⟨q1,r8,_,_,_,cV rfl ⟨S1'.same sB,S8,fun r9 H9 s9 c9=>?_⟩⟩
 refine ⟨szl 2,fun L hL=>?_⟩
 have sC:=((sA.trans sB).trans s9).trans (new (o:=.lst [.ref r4,.ref r9]) hL)
 intro xe dxe hxe ZC nee
 have se:=aV (o:=.own xe) (o':=.ins Y.z.e dxe []) hxe ZC
 refine ⟨xe,dxe,L,cV rfl ⟨af,se _ _ af,fun Hz c4R=>⟨rfl,?_⟩⟩⟩
 exact k xe Hz fun b' o' e'=>c4R _ _ (se _ _ (sC _ _ e')) (aq (sC _ _ e') hxe)
abbrev gG:Stmt:=top 58
theorem rV:az ["book","path","step","paths"] ["book","path","step"] (ai gG):=dB
theorem AQ  (F:ck K "go_choose" "go_choose" gG f fd) (T:Txt K mg Y.z.s) (J:dI K mg Y fS Db Bk) (kM:Dn P w K mg base (5*n+24) "go_steps" ["book","path","steps"] (uq N Y Bk Db n)) (je:Dn P w K mg base 1 "hold" ["condition"] oH) (pC:Mt P w K mg base 3 Y.z.c "opposite" ["self"] (CD N Y.z)):aM P w K mg base bP (5*n+26) f fd ["book","path","step"] (Aq N Y Bk Db (n+1)):=by
 obtain ⟨ye,vA,jk,gW,gX,jh⟩:=kM
 obtain ⟨uS,pU,gQ,fz,fD,gP⟩:=je
 obtain ⟨vB,tE,jD,jv,jA⟩:=pC
 refine F.dY rV fun vs H Q E h=>?_
 obtain ⟨b,F,p,pg,v,ds,dd,rs,s0,rfl,G0,hs,od,hd,hk,hnp,hB,hw,hn,k⟩:=h
 refine ⟨rfl,fun _ _ _ _ hr=>?_⟩
 rw [show aj gG=[_,_,_] from rfl]
 refine ⟨_,(ak (aO (i:=3) rV.nd rfl (Or.inl rfl) (au jk hr.m rfl gW gX jh .nil av (aa (pv 0) (aa (aT bD (pv 1) (aJ (aa (au gQ hr.m rfl fz fD gP .nil av (aa (aA (pv 2) rfl) ah)) ah))) (aa (aA (pv 2) rfl) ah)))))
   (ak (bB (fO PySem.F.plainAttrs_list PySem.F.slot_list_extend PySem.F.type_list_extend pQ (pv 3) (aa (au jk hr.m rfl gW gX jh .nil av (aa (pv 0) (aa (aT bD (pv 1) (aJ (aa (au gQ hr.m rfl fz fD gP .nil av (aa (bK (aA (pv 2) rfl) J.cc jv jD hr.m jA .nil av) ah)) ah))) (aa (aA (pv 2) rfl) ah)))) ah)))
   (ao (aG (pv 3))))),?_⟩
 dsimp only [jR,Cx.yN]
 obtain ⟨a,dx,c,pc,t,e,t1,t2,us,ws,rfl,xc,ep,hc,e1,h1,e2,h2,o1,o2,o5,o6⟩:=w7_ hs od hk
 obtain ⟨tv,xs,rfl,et,rx⟩:=G0.p
 have lx:=bQ rx
 have eg:(aI.kO a c t e).gw=1+lE t+lE e:=by unfold aI.gw;rfl
 have edn:(aI.kO a c t e).dn=lO t 1+lO e 1:=by unfold aI.dn;rfl
 have en:(aI.kO a c t e).np=dM t+dM e:=by unfold aI.np;rfl
 have ew:(aI.kO a c t e).wi.length=1+((dR t).length+(dR e).length):=by unfold aI.wi;simp;omega
 have edp:(aI.kO a c t e).dep=max (gn t) (gn e)+1:=by unfold aI.dep;rfl
 have eo:(aI.kO a c t e).go rs=((lU t [rs++[.hold c]]).1++(lU e [rs++[.hold (CT c)]]).1,(lU t [rs++[.hold c]]).2++(lU e [rs++[.hold (CT c)]]).2):=by unfold aI.go;rfl
 rw [eo] at k
 have gl1:=nO t [rs++[.hold c]]
 have gl2:=nO e [rs++[.hold (CT c)]]
 rw [List.length_singleton,Nat.one_mul] at gl1 gl2
 refine (cV rfl (cV rfl (cV rfl (cF ep (J.cl 7 (by decide)) (J.nA 7) (bx (bx (cT))) (cV rfl (fun r2 H2 s2 er2=>?_))))))
 refine ⟨szl 1,fun r3 Ky=>?_⟩
 have s3:=s2.trans (new (o:=.tup [.ref r2]) Ky)
 refine bW (s3 _ _ et) af (by show xs.length+1≤100000;omega) fun r4 H4 s4 e4=>?_
 have Ss:=s3.trans s4
 refine (cV rfl (cF (Ss _ _ ep) (J.cl 7 (by decide)) (J.nA 7) (bx (cT)) ?_))
 have p4:mS Y.z H4 (.ref r4) (rs++[.hold c]):=⟨r4,_,rfl,e4,fu (rx.aE (aD.of Ss)) (.cons ⟨r2,_,rfl,s4 _ _ (new Ky _ _ er2),hc.aE (aD.of Ss)⟩ .nil)⟩
 refine ⟨b,F,t1,pg,.ref r4,ds,us,dd,rs++[.hold c],t,rfl,⟨G0.k.same Ss,G0.g.aE (aD.of Ss),p4,G0.n⟩,Ss _ _ e1,h1.aE (aD.of Ss),o5,by omega,by omega,by rw [List.length_append];show rs.length+1+lE t≤50000;omega,by omega,by omega,fun R ps ds' H5 mR fR eR5 ps5 K5=>?_⟩
 have b5:aR F H H5:=(aR.of Ss).trans mR
 have RC:aD H H5:=G0.k.vX b5
 have et5:=RC.t _ _ et
 have fR0:H R=none:=mG Ss fR
 have Vs:R≠F:=fun z=>by rw [z,G0.k.f] at fR0;cases fR0
 have hc5:=hc.aE RC
 obtain ⟨a1,n1,sg1,bb1,m1,ec,x1,x2,x3⟩:=id xc
 have hc0:=hc5
 rw [ec] at hc0
 unfold bg at hc0
 obtain ⟨q1,QV,u1,w1,ee1,DQ,_,_⟩:=hc0
 cases ee1
 refine (cV rfl ⟨.inl ⟨rfl,_,bH.of eR5⟩,cV rfl (cV rfl (cV rfl (cF (RC.i _ _ _ _ ep) (J.cl 7 (by decide)) (J.nA 7) (bx (bx (cT))) ⟨pc,QV,cV rfl ⟨DQ,jH (jH (jH rfl)),?_⟩⟩)))⟩)
 refine ⟨pc,c,rfl,hc5,xc,fun qo H6 s6 co=>?_⟩
 refine (cV rfl (fun r7 H7 s7 er7=>?_))
 refine ⟨szl 1,fun r8 Zu=>?_⟩
 have s8:=(s6.trans s7).trans (new (o:=.tup [.ref r7]) Zu)
 refine bW (s8 _ _ et5) af (by show xs.length+1≤100000;omega) fun r9 H9 s9 e9=>?_
 have Vo:=s8.trans s9
 have hk9:=RC.trans (aD.of Vo)
 refine (cV rfl (cF (hk9.i _ _ _ _ ep) (J.cl 7 (by decide)) (J.nA 7) cT ?_))
 have p9:mS Y.z H9 (.ref r9) (rs++[.hold (CT c)]):=⟨r9,_,rfl,e9,fu (rx.aE hk9) (.cons ⟨r7,_,rfl,s9 _ _ (new Zu _ _ er7),co.aE (aD.of ((s7.trans (new Zu)).trans s9))⟩ .nil)⟩
 refine ⟨b,F,t2,pg,.ref r9,ds',ws,dd++(lU t [rs++[.hold c]]).1,rs++[.hold (CT c)],e,rfl,⟨K5.same Vo,G0.g.aE hk9,p9,G0.n⟩,hk9.t _ _ e2,h2.aE hk9,o6,by omega,by omega,by rw [List.length_append];show rs.length+1+lE e≤50000;omega,by omega,by rw [List.length_append];omega,fun R2 ps2 ds2 VS zW fR2 eR2 a1N K10=>?_⟩
 have eR9:H9 R=some (.lst ps):=Vo _ _ eR5
 have a3i:VS R=some (.lst ps):=zW _ _ eR9 Vs
 have n1':=bI ps5
 have n2':=bI a1N
 refine ⟨R,R2,ps,ps2,rfl,rfl,a3i,eR2,Nat.le_of_lt (line _ (by omega)),?_⟩
 have b87:aD H5 VS:=(aD.of Vo).trans ((K5.same Vo).vX zW)
 have bR:aR R VS (upd VS R (.lst (ps++ps2))):=aR.upd
 have I0:aD VS (upd VS R (.lst (ps++ps2))):=aD.soft bR a3i eV
 refine (cV rfl (k R (ps++ps2) ds2 _ ?_ fR0 af (kq (kW.aE I0 (kW.aE b87 ps5)) (kW.aE I0 a1N)) ?_))
 ·intro b' o' e' n'
  rw [aL (aq e' fR0)]
  exact zW _ _ (Vo _ _ (b5 _ _ e' n')) n'
 ·rw [← List.append_assoc]
  obtain ⟨MJ,eb'⟩:=K10.o
  exact ⟨⟨MJ,I0.i _ _ _ _ eb'⟩,by rw [aL Vs.symm];exact K10.f,L2.Paired.lT K10.d fun _ _ z=>z.aE I0⟩
abbrev gE:Stmt:=top 59
theorem iy:az ["book","path","step","thing"] ["book","path","step"] (ai gE):=dB
theorem AM  (F:ck K "go_repeat" "go_repeat" gE f fd) (T:Txt K mg Y.z.s) (J:dI K mg Y fS Db Bk) (kL:Mt P w K mg base 5 Bk "owe_each" ["self","path","kind","writings"] we) (tG:Dn P w K mg base (2*(n+1)+5) "things_written" ["steps"] (qm N Y (n+1))) (cH:Dn P w K mg base 5 "rows_of_any" ["thing"] (iP Y.z)) (rq:Dn P w K mg base 2 "holds_of" ["writings"] uo) (vV:Dn P w K mg base (2*(n+1)+4) "steps_within" ["steps"] (gS N Y (n+1))) (Jo:Dn P w K mg base 3 "is_owing" ["program","step"] (J4 N Y)) (DW:Dn P w K mg base (5*n+25) "go_round" ["book","path","step"] (Ao N Y Bk Db (n+1))) (je:Dn P w K mg base 1 "hold" ["condition"] oH) (pC:Mt P w K mg base 3 Y.z.c "opposite" ["self"] (CD N Y.z)):aM P w K mg base bP (5*n+26) f fd ["book","path","step"] (jE N Y Bk Db (n+1) (fun j=>j=8)):=by
 obtain ⟨yd,vz,jj,jb,jg⟩:=kL
 obtain ⟨LQ,KL,uY,sM,sS,uW⟩:=tG
 obtain ⟨jt,iH,cM,bS,bU,cJ⟩:=cH
 obtain ⟨Jf,DK,rF,oU,oZ,rC⟩:=rq
 obtain ⟨kK,jJ,dG,cS,cU,dD⟩:=vV
 obtain ⟨a0c,VD,JG,Dj,Dz,Jv⟩:=Jo
 obtain ⟨a0d,VE,JH,Dk,DA,Jw⟩:=DW
 obtain ⟨uS,pU,gQ,fz,fD,gP⟩:=je
 obtain ⟨vB,tE,jD,jv,jA⟩:=pC
 refine F.dY iy fun vs H Q E h=>?_
 obtain ⟨b,F,p,pg,v,ds,dd,rs,s0,rfl,G0,hs,od,hd,hk,hB,hw,hn,k⟩:=h
 refine ⟨rfl,fun _ _ _ _ hr=>?_⟩
 rw [show aj gE=[_,_,_,_,_] from rfl]
 refine ⟨_,(ak (aO (i:=1) iy.nd rfl (Or.inl rfl) (dO (pv 0) J.cb jb jj hr.m jg .nil av (aa (pv 1) (aa aZ (aa (aA (pv 2) rfl) ah)))))
   (ak (dm PassesOwn.never rfl (gf (au uY hr.m rfl sM sS uW .nil av (aa (aA (pv 2) rfl) ah))) (aN (i:=3) iy.nd rfl (Or.inl rfl)) (ao (aO (i:=1) iy.nd rfl (Or.inl rfl) (aT bD (pv 1) (au cM hr.m rfl bS bU cJ .nil av (aa (pv 3) ah))))))
   (ak (aO (i:=1) iy.nd rfl (Or.inl rfl) (aT bD (pv 1) (au rF hr.m rfl oU oZ rC .nil av (aa (aA (pv 2) rfl) ah))))
   (ak (cA (gM (aX (Rc rfl) (by rfl) J.any boot_any (aa (iB (dg ["each"] ["book"] [0] rfl (by decide +kernel) (by decide +kernel) (by with_unfolding_all rfl) (by exact ⟨rfl,trivial⟩) (by rfl) rfl (by rfl)) rfl (gf (au dG hr.m rfl cS cU dD .nil av (aa (bC (aa (pv 2) ah)) ah))) (fun _ _ _ _=>(aN (i:=0) (show List.Nodup (["each","book"]:List Str) by decide +kernel) rfl (Or.inl rfl) (Or.inr rfl))) (fun _ _ _ _=>iz) (fun _ _ _ _=>(au JG hr.m rfl Dj Dz Jv .nil av (aa (Kf (K:=K) rfl (pv 1) rfl) (aa (pv 0) ah))))) ah))) (ao (bB (au JH hr.m rfl Dk DA Jw .nil av (aa (pv 0) (aa (aT bD (pv 1) (aJ (aa (au gQ hr.m rfl fz fD gP .nil av (aa (aA (pv 2) rfl) ah)) ah))) (aa (pv 2) ah)))))) bh)
   (ao (aG (aT bD (pv 1) (aJ (aa (au gQ hr.m rfl fz fD gP .nil av (aa (bK (aA (pv 2) rfl) J.cc jv jD hr.m jA .nil av) ah)) ah))))))))),?_⟩
 dsimp only [jR,Cx.yN]
 have hs0:=hs
 have od0:=od
 obtain ⟨a,dx,c,pc,b0,tk,t2,ws,rfl,xc,ep,hc,ek,e2,h2,o1,o3⟩:=Xz hs od hk
 have eg:(aI.rep a c [] none b0).gw=40+lE b0:=by unfold aI.gw;rfl
 have edn:(aI.rep a c [] none b0).dn=lO b0 1:=by unfold aI.dn;rfl
 have ew:(aI.rep a c [] none b0).wi.length=1+(dR b0).length:=by unfold aI.wi;simp;omega
 have edp:(aI.rep a c [] none b0).dep=gn b0+1:=by unfold aI.dep;rfl
 have eo:(aI.rep a c [] none b0).go rs=((lU b0 [rs++oz (iN b0)++[.hold c]]).1,[rs++oz (iN b0)++[.hold (CT c)]]):=by unfold aI.go;rfl
 rw [eo] at k
 obtain ⟨tv,xs,rfl,et,rx⟩:=G0.p
 have lx:=bQ rx
 obtain ⟨KP,eb⟩:=G0.k.o
 refine gH fun Kn wG=>?_
 refine (cV rfl ⟨b,KP,cV rfl ⟨eb,jH (jH rfl),cV rfl (cV rfl (cF ep (J.cl 8 (by decide)) (J.nA 8) (bx (bx (cT))) ⟨b,tk,_,cV rfl ⟨.inl ek,?_⟩⟩))⟩⟩)
 refine wG _ _ ?_
 refine gH fun Kn wG=>?_
 refine (cV rfl (cF ep (J.cl 8 (by decide)) (J.nA 8) cT ?_))
 refine ⟨t2,ws,b0,rfl,e2,h2,o3,G0.n,by omega,by omega,fun _ ls R H1 s1 fR eR=>?_⟩
 have law:=Eh (iN b0) ls
 refine ⟨R,rfl,⟨_,bH.of eR⟩,fJ (xs:=(yS (iN b0)).map V.str) (fun i σ H'=>∃ (a3:Option V) (tv':Addr) (zs:List V),σ=[some (.ref b),some (.ref tv'),some (.ref p),a3]∧aK H1 H'∧H' tv'=some (.tup zs)∧kU Y.z H' zs (rs++(((yS (iN b0)).take i).map bf).flatten)) ⟨none,tv,xs,rfl,aK.refl _,s1 _ _ et,(by show kU Y.z H1 xs (rs++[]);rw [List.append_nil];exact rx.aE (aD.of s1))⟩ ?_ ?_ ?_⟩
 ·rintro i σ H' _ ⟨a3,tv',zs,rfl,s2,_⟩
  exact bH.of (s2 _ _ eR)
 ·rintro i x σ H' hix ⟨a3,tv',zs,rfl,s2,etv,rz⟩
  obtain ⟨y,hy,rfl⟩:=jV hix
  have TX:=(List.getElem?_eq_some_iff.mp hy).1
  have lz:=bQ rz
  have lt:((((yS (iN b0)).take i).map bf).flatten).length≤(oz (iN b0)).length:=by
   unfold oz
   conv=>rhs;rw [← List.take_append_drop i (yS (iN b0)),List.map_append,List.flatten_append,List.length_append]
   exact Nat.le_add_right _ _
  rw [List.length_append] at lz
  refine (cV rfl (cV rfl ⟨y,rfl,fun r us H3 s3 er ru=>?_⟩))
  have lu:=bQ ru
  have:=ju y
  refine bW (s3 _ _ etv) er (by omega) fun r4 H4 s4 e4=>?_
  refine ⟨some (.str y),r4,cV rfl ⟨(s2.trans s3).trans s4,e4,?_⟩⟩
  rw [take_snoc hy,List.map_append,List.flatten_append,show (List.map bf [y]).flatten=bf y by simp,← List.append_assoc]
  exact fu ((rz.aE (aD.of s3)).aE (aD.of s4)) (ru.aE (aD.of s4))
 ·rintro σ H' ⟨a3,tv',zs,rfl,s2,etv,rz⟩
  refine wG _ _ ?_
  rw [List.length_map,List.take_length] at rz
  have rz:kU Y.z H' zs (rs++oz (iN b0)):=rz
  have lz:=bQ rz
  rw [List.length_append] at lz
  have sA:=s1.trans s2
  refine gH fun Kn wG=>?_
  refine (cV rfl (cV rfl (cF (sA _ _ ep) (J.cl 8 (by decide)) (J.nA 8) (bx (bx (cT))) ⟨tk,rfl,sA _ _ ek,fun r4 H4 s4 e4=>?_⟩)))
  refine bW (s4 _ _ etv) e4 (by show zs.length+0≤100000;omega) fun r5 H5 s5 e5=>?_
  rw [List.append_nil] at e5
  refine wG _ _ ?_
  have sB:=(sA.trans s4).trans s5
  have rz5:=(rz.aE (aD.of s4)).aE (aD.of s5)
  refine gH fun Kn wG=>?_
  refine (cV rfl ⟨szl 1,fun r6 hr6=>?_⟩)
  have sC:=sB.trans (new (o:=.lst [.ref p]) hr6)
  have hsC:=hs0.aE (aD.of sC)
  have ew1:dR [aI.rep a c [] none b0]=(aI.rep a c [] none b0).wi:=by unfold dR;rw [show dR []=[] by unfold dR;rfl,List.append_nil]
  refine ⟨r6,[.ref p],[.rep a c [] none b0],rfl,.inr af,(by unfold bE;exact ⟨_,cV rfl ⟨hsC,by unfold bE;rfl⟩⟩),(by unfold dZ;exact ⟨od0,by unfold dZ;trivial⟩),(by unfold gn;rw [show gn []=0 by unfold gn;rfl];omega),(by rw [ew1];exact hw),fun R7 us7 H7 s7 fR7 eR7 Zs=>?_⟩
  rw [ew1] at Zs
  have lu7:=fQ Zs
  have pgH:=G0.g.aE (aD.of (sC.trans s7))
  refine ⟨R7,rfl,⟨us7,bH.of eR7⟩,pW (xs:=us7) (fun i ys' H8=>aK H7 H8∧ys'=(((aI.rep a c [] none b0).wi.take i).map aI.ME).map V.bl) ⟨aK.refl _,(by rw [List.take_zero];rfl)⟩ (fun i ys' H8 _ z=>bH.of (z.1 _ _ eR7)) ?_ ?_⟩
  ·rintro i x ys' H8 hix ⟨s8,rfl⟩
   obtain ⟨s9,q9,hsi,rfl,hx9⟩:=ue Zs hix
   have TX:=(List.getElem?_eq_some_iff.mp hsi).1
   have o9:=MX od0 _ (List.mem_of_getElem? hsi)
   have sD:=(sC.trans s7).trans s8
   refine ⟨Ext.one,JB (cV rfl (cF (sD _ _ eb) J.cb (J.nb _ (by decide +kernel)) (bx cT) (cV rfl ⟨q9,_,s9,rfl,pgH.aE (aD.of s8),hx9.aE (aD.of s8),o9,fun H9 Vo=>⟨?_,s8.trans Vo,?_⟩⟩)))⟩
   ·rw [List.length_map,List.length_map,List.length_take]
    exact line _ (by omega)
   ·rw [take_snoc hsi,List.map_append,List.map_append]
    rfl
  ·rintro ys' H8 ⟨s8,rfl⟩ q hq
   rw [lu7,List.take_length]
   refine ⟨q,((aI.rep a c [] none b0).wi.map aI.ME),rfl,bH.of af,cV rfl ?_⟩
   have sE:=((sC.trans s7).trans s8).trans (new (o:=.lst (((aI.rep a c [] none b0).wi.map aI.ME).map V.bl)) hq)
   have eT:aK H5 (upd H8 q (.lst (((aI.rep a c [] none b0).wi.map aI.ME).map V.bl))):=(((new (o:=.lst [.ref p]) hr6).trans s7).trans s8).trans (new hq)
   have e5':=eT _ _ e5
   have rz9:=rz5.aE (aD.of eT)
   generalize upd H8 q (.lst (((aI.rep a c [] none b0).wi.map aI.ME).map V.bl))=H9 at sE e5' rz9 ⊢
   by_cases hany:((aI.rep a c [] none b0).wi.map aI.ME).any id=true
   ·refine nK hany ?_
    refine (cV rfl (cV rfl (cV rfl (cF (sE _ _ ep) (J.cl 8 (by decide)) (J.nA 8) (bx (bx (bx (cT)))) (cV rfl (fun ra Ha sa ea=>?_))))))
    refine ⟨szl 1,fun rb hrb=>?_⟩
    have sb:=sa.trans (new (o:=.tup [.ref ra]) hrb)
    refine bW (sb _ _ e5') af (by show zs.length+1≤100000;omega) fun rc Hc sc ec'=>?_
    have Yn:=(sE.trans sb).trans sc
    have e5c:=(sb.trans sc) _ _ e5'
    have rzc:=rz9.aE (aD.of (sb.trans sc))
    have pc':mS Y.z Hc (.ref rc) (rs++oz (iN b0)++[.hold c]):=⟨rc,_,rfl,ec',fu rzc (.cons ⟨ra,_,rfl,sc _ _ (new hrb _ _ ea),hc.aE (aD.of Yn)⟩ .nil)⟩
    refine (cV rfl ⟨b,F,p,pg,.ref rc,ds,dd,_,a,c,b0,rfl,⟨G0.k.same Yn,G0.g.aE (aD.of Yn),pc',G0.n⟩,hs0.aE (aD.of Yn),od0,by omega,o1.2,by rw [List.length_append,List.length_append];show rs.length+(oz (iN b0)).length+1+lE b0≤50000;omega,by omega,by omega,fun ds' VS zW K10=>?_⟩)
    refine wG _ _ ?_
    have hkC:aD Hc VS:=(G0.k.same Yn).vX zW
    have hkn:=(aD.of Yn).trans hkC
    have e5n:=hkC.t _ _ e5c
    have hcn:=hc.aE hkn
    obtain ⟨a1,n1,sg1,bb1,m1,ec,x1,x2,x3⟩:=id xc
    have hc0:=hcn
    rw [ec] at hc0
    unfold bg at hc0
    obtain ⟨q1,QV,u1,w1,ee1,DQ,_,_⟩:=hc0
    cases ee1
    refine (cV rfl (cV rfl (cF (hkn.i _ _ _ _ ep) (J.cl 8 (by decide)) (J.nA 8) (bx (bx (bx (cT)))) ⟨pc,QV,cV rfl ⟨DQ,jH (jH (jH rfl)),?_⟩⟩)))
    refine ⟨pc,c,rfl,hcn,xc,fun vo Ho so co=>?_⟩
    refine (cV rfl (fun ra2 Ha2 sa2 ea2=>?_))
    refine ⟨szl 1,fun rb2 Zt=>?_⟩
    have Ry:=(so.trans sa2).trans (new (o:=.tup [.ref ra2]) Zt)
    refine bW (Ry _ _ e5n) af (by show zs.length+1≤100000;omega) fun rc_ Hc_ sc_ ec2=>?_
    have sZ:=Ry.trans sc_
    refine k (.ref rc_) ds' _ Hc_ (((aR.of Yn).trans zW).trans (aR.of sZ)) rfl ⟨rc_,cV rfl ⟨ec2,fu ((rzc.aE hkC).aE (aD.of sZ)) (.cons ⟨ra2,cV rfl ⟨sc_ _ _ (new Zt _ _ ea2),co.aE (aD.of ((sa2.trans (new Zt)).trans sc_))⟩⟩ .nil)⟩⟩ (K10.same sZ)
   ·refine iM (by simpa using hany) ?_
    refine wG _ _ ?_
    have none_:(lU b0 [rs++oz (iN b0)++[.hold c]]).1=[]:=by
     have z:=KA (s:=.rep a c [] none b0) (p:=rs) fun u hu=>by
      cases z:u.ME with
      | false=>rfl
      | true=>exact absurd (List.any_eq_true.mpr ⟨true,List.mem_map.mpr ⟨u,hu,z⟩,rfl⟩) hany
     rw [eo] at z
     exact z
    rw [none_] at k
    have hkn:=aD.of sE
    have hcn:=hc.aE hkn
    obtain ⟨a1,n1,sg1,bb1,m1,ec,x1,x2,x3⟩:=id xc
    have hc0:=hcn
    rw [ec] at hc0
    unfold bg at hc0
    obtain ⟨q1,QV,u1,w1,ee1,DQ,_,_⟩:=hc0
    cases ee1
    refine (cV rfl (cV rfl (cF (hkn.i _ _ _ _ ep) (J.cl 8 (by decide)) (J.nA 8) (bx (bx (bx (cT)))) ⟨pc,QV,cV rfl ⟨DQ,jH (jH (jH rfl)),?_⟩⟩)))
    refine ⟨pc,c,rfl,hcn,xc,fun vo Ho so co=>?_⟩
    refine (cV rfl (fun ra Ha sa ea=>?_))
    refine ⟨szl 1,fun rb hrb=>?_⟩
    have sb:=(so.trans sa).trans (new (o:=.tup [.ref ra]) hrb)
    refine bW (sb _ _ e5') af (by show zs.length+1≤100000;omega) fun rc Hc sc ec'=>?_
    have sZ:=sb.trans sc
    refine k (.ref rc) ds _ Hc (aR.of (sE.trans sZ)) rfl ⟨rc,cV rfl ⟨ec',fu (rz9.aE (aD.of sZ)) (.cons ⟨ra,cV rfl ⟨sc _ _ (new hrb _ _ ea),co.aE (aD.of ((sa.trans (new hrb)).trans sc))⟩⟩ .nil)⟩⟩ ?_
    rw [List.append_nil]
    exact G0.k.same (sE.trans sZ)
abbrev iW:Stmt:=top 60
theorem lI:az ["book","path","step","falls","at","total","begun","each","behind"] ["book","path","step"] (ai iW):=dB
theorem C2  (F:ck K "go_round" "go_round" iW f fd) (T:Txt K mg Y.z.s) (J:dI K mg Y fS Db Bk) (kM:Dn P w K mg base (5*n+24) "go_steps" ["book","path","steps"] (uq N Y Bk Db n)) (kL:Mt P w K mg base 5 Bk "owe_each" ["self","path","kind","writings"] we):aM P w K mg base bP (5*n+25) f fd ["book","path","step"] (Ao N Y Bk Db (n+1)):=by
 obtain ⟨ye,vA,jk,gW,gX,jh⟩:=kM
 obtain ⟨yd,vz,jj,jb,jg⟩:=kL
 refine F.dY lI fun vs H Q E h=>?_
 obtain ⟨b,F,p,pg,v,ds,dd,rs,a0,c0,b0,rfl,G0,hs,od,hd,hnp,hB,hw,hn,k⟩:=h
 refine ⟨rfl,fun _ _ _ _ hr=>?_⟩
 rw [show aj iW=[_,_,_] from rfl]
 refine ⟨_,(ak (aO (i:=3) lI.nd rfl (Or.inl rfl) (bC ah))
   (ak (cA (bJ AG (aA (pv 2) rfl) uz (bM _)) (ak gz
   (ak gz
   (ak gz
   (ao gz)))) bh)
   (ao (dm PassesOwn.never rfl (gf (au jk hr.m rfl gW gX jh .nil av (aa (pv 0) (aa (pv 1) (aa (aA (pv 2) rfl) ah))))) (aN (i:=7) lI.nd rfl (Or.inl rfl)) (ak (aO (i:=8) lI.nd rfl (Or.inl rfl) (dO (pv 0) J.cb jb jj hr.m jg .nil av (aa (pv 7) (aa aZ (aa (aA (pv 2) rfl) ah)))))
   (ao (bB (dO (pv 0) J.cb jb jj hr.m jg .nil av (aa (pv 8) (aa aZ (aa (pv 3) ah))))))))))),?_⟩
 dsimp only [jR,Cx.yN]
 have h8:kd (aI.rep a0 c0 [] none b0)=8:=rfl
 obtain ⟨a,dx,c,pc,b1,tk,t2,ws,e8,xc,ep,hc,ek,e2,h2,o1,o3⟩:=Xz hs od h8
 injection e8 with z1 z2 _ _ z5
 subst z1 z2 z5
 refine ⟨(Nat.zero_le _),fun Lf hLf=>?_⟩
 have s1:=new (o:=.lst []) hLf
 refine (cV rfl (cF (s1 _ _ ep) (J.cl 8 (by decide)) (J.nA 8) (bx (cT)) ⟨rfl,cV rfl (iM (by simp) ?_)⟩))
 refine (cV rfl (cV rfl (cV rfl (cF (s1 _ _ ep) (J.cl 8 (by decide)) (J.nA 8) cT ?_))))
 refine ⟨b,F,t2,pg,v,ds,ws,dd,rs,b0,rfl,G0.same s1,s1 _ _ e2,h2.aE (aD.of s1),o3,by omega,by omega,by omega,by omega,by omega,fun R ps ds' H' but fR eR ps5 K5=>?_⟩
 have RC:aD (upd H Lf (.lst [])) H':=(G0.k.same s1).vX but
 have Zf:Lf≠F:=fun z=>by rw [z,G0.k.f] at hLf;cases hLf
 have eLf:H' Lf=some (.lst []):=but _ _ af Zf
 obtain ⟨KP,eb⟩:=K5.o
 have ep5:=RC.i _ _ _ _ (s1 _ _ ep)
 have ek5:=RC.t _ _ (s1 _ _ ek)
 refine ⟨R,rfl,⟨ps,bH.of eR⟩,fJ (xs:=ps) (fun i σ ML=>∃ (a7 a8:Option V),σ=[some (.ref b),some v,some (.ref p),some (.ref Lf),none,none,none,a7,a8]∧ML=H') ⟨none,none,rfl,rfl⟩ (fun i σ ML _ ⟨_,_,_,e⟩=>by rw [e];exact bH.of eR) ?_ ?_⟩
 ·rintro i x σ ML hix ⟨a7,a8,rfl,rfl⟩
  refine (cV rfl ⟨b,KP,cV rfl ⟨eb,jH (jH rfl),cV rfl (cV rfl (cF ep5 (J.cl 8 (by decide)) (J.nA 8) (bx (bx (cT))) ⟨b,tk,x,cV rfl ⟨.inl ek5,?_⟩⟩))⟩⟩)
  refine (cV rfl ⟨b,KP,cV rfl ⟨eb,jH (jH rfl),cV rfl (cV rfl ⟨b,Lf,x,cV rfl ⟨.inr eLf,?_⟩⟩)⟩⟩)
  exact ⟨some x,some x,rfl,rfl⟩
 ·rintro σ ML ⟨a7,a8,rfl,rfl⟩
  exact k ds' _ ((aR.of s1).trans but) K5
abbrev j8:Stmt:=top 61
theorem dX:az ["book","path","step","called","stands_for","place","param","given","name","answer"] ["book","path","step"] (ai j8):=dB
theorem Iz  (F:ck K "go_call" "go_call" j8 f fd) (T:Txt K mg Y.z.s) (J:dI K mg Y fS Db Bk) (tH:Mt P w K mg base 1 Y.pg "named" ["self","name"] (wj Y)) (pB:Dn P w K mg base 1 "is_length" ["thing"] w5) (ym:Dn P w K mg base 1 "let" ["thing","total"] CB) (nR:Dn P w K mg base 3 "once" ["thing"] (um Y.z.s)) (cH:Dn P w K mg base 5 "rows_of_any" ["thing"] (iP Y.z)) (je:Dn P w K mg base 1 "hold" ["condition"] oH) (yj:Mt P w K mg base 4 Bk "owe" ["self","path","kind","at","condition"] (wZ Y.z Bk Db)):aM P w K mg base bP 7 f fd ["book","path","step"] (jE N Y Bk Db n (fun j=>j=6)):=by
 obtain ⟨KN,DJ,tV,sO,tO⟩:=tH
 obtain ⟨DO,BG,pK,nC,nJ,pI⟩:=pB
 obtain ⟨QJ,Jd,tW,nv,nG,tP⟩:=ym
 obtain ⟨BH,wI,kY,iC,iE,kQ⟩:=nR
 obtain ⟨jt,iH,cM,bS,bU,cJ⟩:=cH
 obtain ⟨uS,pU,gQ,fz,fD,gP⟩:=je
 obtain ⟨QH,Jc,vF,vm,vE⟩:=yj
 refine F.dY dX fun vs H Q E h=>?_
 obtain ⟨b,F,p,pg,v,ds,dd,rs,s0,rfl,G0,hs,od,hd,hk,hB,hw,hn,k⟩:=h
 refine ⟨rfl,fun _ _ _ _ hr=>?_⟩
 rw [show aj j8=[_,_,_,_,_,_] from rfl]
 have hu:=sV hr
 refine ⟨_,(ak (aO (i:=3) dX.nd rfl (Or.inl rfl) (dO (aA (pv 0) rfl) J.cp sO tV hr.m tO .nil av (aa (aA (pv 2) rfl) ah)))
   (ak (aO (i:=4) dX.nd rfl (Or.inr rfl) CQ)
   (ak (dm PassesOwn.never rfl (SD rfl J.enumerate boot_enumerate (aa (aA (pv 3) rfl) ah)) (lQ rfl (bq (aN (i:=5) dX.nd rfl (Or.inl rfl)) (bq (aN (i:=6) dX.nd rfl (Or.inl rfl)) fU))) (ao (cA (gM (au pK hr.m rfl nC nJ pI .nil av (aa (pv 6) ah))) (ao gz) (ak (aO (i:=7) dX.nd rfl (Or.inl rfl) (aT gO aZ (aU BS (by rfl) T.str boot_str (aa (pv 5) ah))))
   (ak (aO (i:=1) dX.nd rfl (Or.inl rfl) (aT bD (pv 1) (aJ (aa (au tW hr.m rfl nv nG tP .nil av (aa (pv 7) (aa (fY Bw (aA (pv 2) rfl) (pv 5) (fun _ _=>rfl)) ah))) ah))))
   (ao (AA hu (pv 4) (pv 6) (au kY hr.m rfl iC iE kQ .nil av (aa (pv 7) ah)) rfl)))))))
   (ak (cA (bJ vj (aX dQ (by rfl) T.len PySem.boot_len (aa (aA (pv 3) rfl) ah)) aH (bM _)) (ao gz) bh)
   (ak (dm PassesOwn.never rfl (Yq rfl J.zip boot_zip (aa (aA (pv 2) rfl) (aa (aA (pv 3) rfl) ah))) (lQ rfl (bq (aN (i:=8) dX.nd rfl (Or.inl rfl)) (bq (aN (i:=9) dX.nd rfl (Or.inl rfl)) fU))) (ak (aO (i:=1) dX.nd rfl (Or.inl rfl) (aT bD (pv 1) (au cM hr.m rfl bS bU cJ .nil av (aa (pv 8) ah))))
   (ao (AA hu (pv 4) (pv 9) (au kY hr.m rfl iC iE kQ .nil av (aa (pv 8) ah)) rfl))))
   (ao (aG (aT bD (pv 1) (aU aW (by rfl) T.tuple boot_tuple (aa (iB (dg ["at","condition"] ["stands_for"] [4] rfl (by decide +kernel) (by decide +kernel) (by with_unfolding_all rfl) (by exact ⟨rfl,trivial⟩) (by rfl) rfl (by rfl)) rfl (iA (aA (pv 3) rfl)) (fun _ _ _ _=>(rY (K:=K) (n:=2) rfl rfl (bq (aN (i:=0) (show List.Nodup (["at","condition","stands_for"]:List Str) by decide +kernel) rfl (Or.inl rfl) (Or.inr rfl)) (bq (aN (i:=1) (show List.Nodup (["at","condition","stands_for"]:List Str) by decide +kernel) rfl (Or.inl rfl) (Or.inr rfl)) fU)))) (fun _ _ _ _=>iz) (fun _ _ _ _=>(au gQ hr.m rfl fz fD gP .nil av (aa SG ah)))) ah)))))))))),?_⟩
 dsimp only [jR,Cx.yN]
 obtain ⟨a,dx,t1,t2,u,l,x,q0,rfl,yZ,hl,hb,ep,e1,e2,su⟩:=w6_ hs od hk
 obtain ⟨t,xs,rfl,et,rx⟩:=G0.p
 have lx:=bQ rx
 obtain ⟨KP,eb⟩:=G0.k.o
 have hB:rs.length+8≤50000:=by have z:=hB;unfold aI.gw at z;exact z
 have l2:l.length≤2:=by rcases yZ with ⟨_,z⟩ | ⟨_,z⟩ | ⟨_,z⟩ <;> omega
 obtain ⟨pa,us,hss,rfl,hP,hcl⟩:=G0.g
 obtain ⟨q,hh,ef,hq,hps,han,hnd,hgv⟩:=hcl x _ yZ
 obtain ⟨dxp,tp,epg,_,_,_⟩:=id hP
 refine gH fun Kn wG=>?_
 refine (cV rfl (cF eb J.cb (J.nb _ (by decide +kernel)) (bx cT) ⟨pa,dxp,cV rfl ⟨epg,jH rfl,cV rfl (cF ep (J.cl 6 (by decide)) (J.nA 6) (bx (cT)) ⟨pa,x,us,hss,rfl,hP,fun H1 s1=>?_⟩)⟩⟩))
 rw [ef]
 obtain ⟨q',dxh,p1,p2,v1,v2,p3,uu,e',eh,DQ,ep2,hn1,hg1,_,_,_⟩:=hq.aE (aD.of s1)
 cases e'
 rw [hnd] at hn1
 rw [hgv] at hg1
 rw [hps] at DQ
 obtain ⟨tn,un,rfl,en,_,pn⟩:=hn1
 cases pn
 obtain ⟨tg,ug,rfl,eg,_,pg2⟩:=hg1
 cases pg2
 refine wG _ _ ?_
 refine gH fun Kn wG=>?_
 refine fun d hd=>?_
 refine wG _ _ ?_
 have sD:=new (o:=.dK []) hd
 have sA:=s1.trans sD
 refine gH fun Kn wG=>?_
 refine (cV rfl (cF (sD _ _ eh) J.ch (J.nH) (bx (bx (bx (bx cT)))) ⟨p1,rfl,QA (.inr (sD _ _ DQ)) (fun i σ H'=>∃ (v:V) (rs':List Rx) (kvs:List (Key×V)) (b1 b2 b3:Option V),σ=[some (.ref b),some v,some (.ref p),some (.ref q),some (.ref d),b1,b2,b3,none,none]∧aR d (upd H1 d (.dK [])) H'∧H' d=some (.dK kvs)∧kvs.length≤i∧mS Y.z H' v (rs++List.replicate i .jK)) ⟨.ref t,rs,[],none,none,none,rfl,fun _ _ z _=>z,af,Nat.zero_le _,t,xs,rfl,sA _ _ et,(by show kU Y.z _ xs (rs++[]);rw [List.append_nil];exact rx.aE (aD.of sA))⟩ ?_ ?_ ?_⟩))
 ·rintro i σ H' ⟨v,rs',kvs,b1,b2,b3,rfl,but,_⟩ o e
  exact but _ _ e (aq DQ hd)
 ·rintro i y tt σ H' RD htt ⟨v,rs',kvs,b1,b2,b3,rfl,but,ed,lk,t',xs',rfl,et',vf⟩
  obtain ⟨rfl,rfl⟩:i=0∧y=.str "xa":=by
   match i,RD with
   | 0,RD=>cases RD;exact ⟨rfl,rfl⟩
  have lx':=bQ vf
  rw [List.length_append,List.length_replicate] at lx'
  have ZA:aD (upd H1 d (.dK [])) H':=aD.soft but af ur
  have Vx:=(aD.of sA).trans ZA
  have sT:=new (o:=.tup [.int ((0:Nat):Int),.str "xa"]) htt
  have hkT:=Vx.trans (aD.of sT)
  refine ⟨tt,cV rfl ⟨bG.of af,rfl,_,cV rfl ⟨_,cV rfl ⟨rfl,?_⟩⟩⟩⟩
  refine (cV rfl ⟨"xa",rfl,cV rfl (iM (by decide +kernel) ?_)⟩)
  refine gH fun K3 h3=>?_
  refine (cV rfl ⟨((0:Nat):Int),rfl,(by decide),_,cV rfl ⟨rfl,Nat.le_of_lt (line _ (by decide +kernel)),?_⟩⟩)
  refine h3 _ _ ?_
  refine gH fun K3 h3=>?_
  refine (cV rfl (cV rfl (cV rfl (cF (hkT.i _ _ _ _ ep) (J.cl 6 (by decide)) (J.nA 6) cT (cV rfl (cI (bG.of (hkT.t _ _ e2)) rfl ⟨_,cV rfl (fun ra Ha sa ea=>?_)⟩))))))
  refine ⟨szl 1,fun rb hrb=>?_⟩
  have sb:=sa.trans (new (o:=.tup [.ref ra]) hrb)
  refine bW (sb _ _ (sT _ _ et')) af (by show xs'.length+1≤100000;omega) fun rc Hc sc ec=>?_
  refine h3 _ _ ?_
  refine (cV rfl (cV rfl (fun qd Hd sd Sd=>?_)))
  have sE:=((sT.trans sb).trans sc).trans sd
  refine (cV rfl (cV rfl ⟨d,cV rfl ⟨JS.k (k:=Sum.inr ("xa":Str)) (sE _ _ ed) (line _ (by omega)),?_⟩⟩))
  have I0:aD Hd (upd Hd d (.dK (putK kvs (Sum.inr ("xa":Str)) (.ref qd)))):=aD.soft aR.upd (sE _ _ ed) ur
  refine ⟨.ref rc,[],_,_,_,cV rfl ⟨(but.trans (aR.of sE)).trans aR.upd,af,CM lk,rc,cV rfl ⟨I0.t _ _ (sd _ _ ec),?_⟩⟩⟩
  rw [show rs++List.replicate (0+1) Rx.jK=rs++List.replicate 0 Rx.jK++[.jK] by simp]
  exact fu (((vf.aE (aD.of ((sT.trans sb).trans sc))).aE (aD.of sd)).aE I0) (.cons trivial .nil)
 ·rintro σ H' ⟨v,rs',kvs,b1,b2,b3,rfl,but,ed,lk,pv⟩
  refine wG _ _ ?_
  have pv:mS Y.z H' v (rs++[.jK]):=pv
  have lk:kvs.length≤1:=lk
  have ZA:aD (upd H1 d (.dK [])) H':=aD.soft but af ur
  have Vx:=(aD.of sA).trans ZA
  have eh':=ZA.i _ _ _ _ (sD _ _ eh)
  have en':=ZA.t _ _ (sD _ _ en)
  refine gH fun Kn wG=>?_
  refine (cV rfl (cF eh' J.ch (J.nH) (bx (bx cT)) ⟨tn,cV rfl ⟨.inr (bG.of en'),_,cV rfl ⟨rfl,cV rfl (iM (by decide) ?_)⟩⟩⟩))
  refine wG _ _ ?_
  refine gH fun Kn wG=>?_
  refine (cV rfl (cF (Vx.i _ _ _ _ ep) (J.cl 6 (by decide)) (J.nA 6) (bx (bx (cT))) (cV rfl (cF eh' J.ch (J.nH) (bx (bx (bx cT))) ⟨t1,p2,rfl,T7 (xs:=l.map V.str) (ys:=hh.an.map V.str) (by rw [List.length_map,List.length_map,han]) (Vx.t _ _ e1) (ZA.t _ _ (sD _ _ ep2)) (fun i σ H2=>∃ (v:V) (kvs:List (Key×V)) (b4 b5:Option V),σ=[some (.ref b),some v,some (.ref p),some (.ref q),some (.ref d),b1,b2,b3,b4,b5]∧aR d H' H2∧H2 d=some (.dK kvs)∧kvs.length≤1+i∧mS Y.z H2 v (rs++[.jK]++List.replicate i .jK)) ⟨v,kvs,none,none,rfl,fun _ _ z _=>z,ed,lk,(by show mS Y.z H' v (rs++[.jK]++[]);rw [List.append_nil];exact pv)⟩ ?_ ?_ ?_⟩))))
  ·rintro i σ H2 ⟨v,kvs,b4,b5,rfl,b2',e2',_⟩ c zs ec
   exact (aD.soft b2' ed ur).t _ _ ec
  ·rintro i y1 y2 tt σ H2 h1 h2 htt ⟨v,Zj,b4,b5,rfl,b2',ed2,lk2,t',xs',rfl,et',vf⟩
   obtain ⟨y,hy,rfl⟩:=jV h1
   obtain ⟨y',hy',rfl⟩:=jV h2
   have TX:=(List.getElem?_eq_some_iff.mp hy).1
   have ny:=hl y (List.mem_of_getElem? hy)
   have lx':=bQ vf
   rw [List.length_append,List.length_append,List.length_replicate] at lx'
   have lx':xs'.length=rs.length+1+i:=lx'
   have sT:=new (o:=.tup [.str y,.str y']) htt
   refine ⟨tt,cV rfl ⟨bG.of af,rfl,_,cV rfl ⟨_,cV rfl ⟨rfl,?_⟩⟩⟩⟩
   refine gH fun K3 h3=>?_
   refine (cV rfl (cV rfl ⟨y,rfl,fun ra zx Ha sa ea q2=>?_⟩))
   have e1:bf y=[.any y]:=by unfold bf;rw [if_neg (by rw [ny.2];decide)]
   rw [e1] at q2
   have lu:zx.length=1:=bQ q2
   refine bW (sa _ _ (sT _ _ et')) ea (by omega) fun rc Hc sc ec=>?_
   refine h3 _ _ ?_
   refine (cV rfl (cV rfl (fun qd Hd sd Sd=>?_)))
   have sE:=((sT.trans sa).trans sc).trans sd
   refine (cV rfl (cV rfl ⟨d,cV rfl ⟨JS.k (k:=Sum.inr y') (sE _ _ ed2) (line _ (by omega)),?_⟩⟩))
   have I0:aD Hd (upd Hd d (.dK (putK Zj (Sum.inr y') (.ref qd)))):=aD.soft aR.upd (sE _ _ ed2) ur
   refine ⟨.ref rc,_,_,cV rfl ⟨(b2'.trans (aR.of sE)).trans aR.upd,af,CM lk2,rc,cV rfl ⟨I0.t _ _ (sd _ _ ec),?_⟩⟩⟩
   have u1:=wu (Z:=Y.z) (H:=upd Hd d (.dK (putK Zj (Sum.inr y') (.ref qd)))) zx
   rw [lu] at u1
   rw [List.replicate_succ',← List.append_assoc]
   exact fu (((vf.aE (aD.of ((sT.trans sa).trans sc))).aE (aD.of sd)).aE I0) u1
  ·rintro σ H2 ⟨v,Zj,b4,b5,rfl,b2',ed2,lk2,t',xs',rfl,et',vf⟩
   refine wG _ _ ?_
   rw [List.length_map] at vf
   have lx':=bQ vf
   rw [List.length_append,List.length_append,List.length_replicate] at lx'
   have lx':xs'.length=rs.length+1+l.length:=lx'
   have hk2:aD H' H2:=aD.soft b2' ed ur
   have eg2:=hk2.t _ _ (ZA.t _ _ (sD _ _ eg))
   refine (cV rfl (cV rfl (cF (hk2.i _ _ _ _ eh') J.ch (J.nH) (bx cT) ⟨tg,rfl,⟨_,bG.of eg2⟩,mP (xs:=[]) (fun i ys H3=>H3=H2∧ys=[]) ⟨rfl,rfl⟩ (fun i ys H3 _ z=>by rw [z.1];exact bG.of eg2) (fun i y ys H3 hix=>absurd hix (by simp)) ?_⟩)))
   rintro ys H3 ⟨rfl,rfl⟩ z hz
   refine ⟨z,cV rfl (.inl ⟨bH.of af,fun t9 yY=>?_⟩)⟩
   have s9:=aK.new (new (o:=.lst []) hz) (o:=.tup []) yY
   refine bW (s9 _ _ et') af (by show xs'.length+0≤100000;omega) fun rf Hf sf ef'=>?_
   rw [List.append_nil] at ef'
   have sZ:=s9.trans sf
   have bZ:aK H Hf:=fun b' o' e'=>by
    have z1:=sA _ _ e'
    have nd:b'≠d:=aq (s1 _ _ e') hd
    exact sZ _ _ (b2' _ _ (but _ _ z1 nd) nd)
   refine k (.ref rf) ds _ Hf (aR.of bZ) (by unfold aI.go;rfl) ⟨rf,cV rfl ⟨ef',?_⟩⟩ ?_
   ·have zz:=vf.aE (aD.of sZ)
    rw [show rs++[Rx.jK]++List.replicate l.length Rx.jK=rs++M6 6 [.Rv l,.tx x,.Vl [q0]] by
     show _=rs++List.replicate (1+l.length) Rx.jK
     rw [Nat.add_comm,List.replicate_succ];simp] at zz
    exact zz
   ·have ed0:((aI.flat 6 a [.Rv l,.tx x,.Vl [q0]]).go rs).1=[]:=by unfold aI.go;rfl
    rw [ed0,List.append_nil]
    exact G0.k.same bZ
abbrev iT:Stmt:=top 63
theorem CH:az ["program","step"] ["program","step"] (ai iT):=dB
theorem CY  (F:ck K "is_owing" "is_owing" iT f fd) (T:Txt K mg Y.z.s) (J:dI K mg Y fS Db Bk) (tH:Mt P w K mg base 1 Y.pg "named" ["self","name"] (wj Y)):aM P w K mg base bP 3 f fd ["program","step"] (J4 N Y):=by
 obtain ⟨KN,DJ,tV,sO,tO⟩:=tH
 refine F.dY CH fun vs H Q E h=>?_
 obtain ⟨p,v,s0,rfl,hg,hs,od,k⟩:=h
 refine ⟨rfl,fun _ _ _ _ hr=>?_⟩
 rw [show aj iT=[_,_,_] from rfl]
 refine ⟨_,(ak (cA (gM (aX (fK (c:=.ref Y.rp) trivial) (by rfl) T.isinstance boot_isinstance (aa (pv 1) (aa (cE (v:=.ref Y.rp) rfl J.mg8 rfl) ah)))) (ao (aG (a1Q (rZ vj (aX dQ (by rfl) T.len PySem.boot_len (aa (aA (pv 1) rfl) ah)) aH (bM _)) (Yt (rZ AG (aA (pv 1) rfl) uz (bM _)))))) bh)
   (ak (cA (gM (aX (fK (c:=.ref Y.cl) trivial) (by rfl) T.isinstance boot_isinstance (aa (pv 1) (aa (cE (v:=.ref Y.cl) rfl J.mg6 rfl) ah)))) (ao (aG (rZ vj (aX dQ (by rfl) T.len PySem.boot_len (aa (aA (dO (pv 0) J.cp sO tV hr.m tO .nil av (aa (aA (pv 1) rfl) ah)) rfl) ah)) aH (bM _)))) bh)
   (ao (aG (Yu (aX Mj (by rfl) T.isinstance boot_isinstance (aa (pv 1) (aa (aJ (aa (cE (v:=.ref Y.lt) rfl J.mg0 rfl) (aa (cE (v:=.ref Y.ch) rfl J.mg7 rfl) ah))) ah)))))))),?_⟩
 dsimp only [jR,Cx.yN]
 have h4:=qe hs
 have ty:=jZ T J hs
 refine (cV rfl ⟨_,_,_,cV rfl ⟨ty,rfl,J.kk _ 8 h4 (by decide),cV rfl ?_⟩⟩)
 by_cases h8:kd s0=8
 ·refine nK (decide_eq_true h8) ?_
  obtain ⟨a,dx8,c,pc,b,tk,t2,ws,rfl,xc,ep8,hc,ek,e2,h2,o1,o3⟩:=Xz hs od h8
  refine (cV rfl (cF ep8 (J.cl 8 (by decide)) (J.nA 8) (bx (bx (cT))) ⟨tk,cV rfl ⟨.inr (bG.of ek),_,cV rfl ⟨rfl,cV rfl (iM (by decide) ?_)⟩⟩⟩))
  refine (cV rfl (cF ep8 (J.cl 8 (by decide)) (J.nA 8) (bx (cT)) ⟨rfl,?_⟩))
  exact k H (aK.refl _)
 ·refine iM (decide_eq_false h8) ?_
  refine (cV rfl ⟨_,_,_,cV rfl ⟨ty,rfl,J.kk _ 6 h4 (by decide),cV rfl ?_⟩⟩)
  by_cases h6:kd s0=6
  ·refine nK (decide_eq_true h6) ?_
   obtain ⟨a,dx,t1,t2,u,l,x,q0,rfl,yZ,hl,hb,ep,e1,e2,su⟩:=w6_ hs od h6
   obtain ⟨pa,us,hss,rfl,hP,hcl⟩:=hg
   obtain ⟨q,hh,ef,hq,_,_,hnd,_⟩:=hcl x _ yZ
   obtain ⟨dxp,tp,epg,_,_,_⟩:=id hP
   refine (cV rfl ⟨pa,dxp,cV rfl ⟨epg,jH rfl,cV rfl (cF ep (J.cl 6 (by decide)) (J.nA 6) (bx (cT)) ⟨pa,x,us,hss,rfl,hP,fun H' s'=>?_⟩)⟩⟩)
   rw [ef]
   obtain ⟨q',dxh,a1,a2,v1,v2,a3,uu,e',eh,_,_,hn1,_⟩:=hq.aE (aD.of s')
   cases e'
   rw [hnd] at hn1
   obtain ⟨tn,un,rfl,en,_,pn⟩:=hn1
   cases pn
   refine (cF eh J.ch (J.nH) (bx (bx cT)) ⟨tn,cV rfl ⟨.inr (bG.of en),_,cV rfl ⟨rfl,?_⟩⟩⟩)
   exact k H' s'
  ·refine iM (decide_eq_false h6) ?_
   have ka:PySem.W.kitAny K (.ref (fc Y (kd s0))) [.ref Y.lt,.ref Y.ch]=some (decide (kd s0=0) || decide (kd s0=7)):=by
    have e1:=J.kk _ 0 h4 (by decide)
    have e2:=J.kk _ 7 h4 (by decide)
    unfold PySem.W.kitAny
    rw [show PySem.W.kitOne K (.ref (fc Y (kd s0))) (.ref Y.lt)=some (decide (kd s0=0)) from e1]
    by_cases h0:kd s0=0
    ·rw [decide_eq_true h0];rfl
    ·rw [decide_eq_false h0]
     unfold PySem.W.kitAny
     rw [show PySem.W.kitOne K (.ref (fc Y (kd s0))) (.ref Y.ch)=some (decide (kd s0=7)) from e2]
     by_cases h7:kd s0=7
     ·rw [decide_eq_true h7];rfl
     ·rw [decide_eq_false h7];rfl
   obtain ⟨dx,fs,ep,_⟩:=wV hs Df
   refine (cV rfl ⟨szl 2,fun q hq=>?_⟩)
   refine ⟨p,_,dx,q,Y.lt,Y.ch,fs,decide (kd s0=0) || decide (kd s0=7),rfl,new hq _ _ ep,J.cl _ h4,J.ca _ h4,T.cg,T.ct,J.cm _ h4,bG.of af,ka,?_⟩
   have ow:=a1U od h6 h8
   have:=k _ (new (o:=.tup [.ref Y.lt,.ref Y.ch]) hq)
   rw [ow] at this
   exact (cV rfl this)
abbrev mZ:Stmt:=top 70
theorem Li:az ["_law_draw","_law_size"] ["_law_draw","_law_size"] (ai mZ):=dB
theorem Lo  (F:ck K "_law_next" "_law_next" mZ f fd) (T:Txt K mg Y.z.s) (J:dI K mg Y fS Db Bk) (Me:Dn P w K mg base 1 "_law_mixed" ["_law_cell","_law_k"] wk):aM P w K mg base bP 2 f fd ["_law_draw","_law_size"] wg:=by
 obtain ⟨a02,Z5,MA,IG,IW,Ms⟩:=Me
 refine F.dY Li fun vs H Q E h=>?_
 obtain ⟨d,m0,n0,rfl,hd,hn,k⟩:=h
 refine ⟨rfl,fun _ _ _ _ hr=>?_⟩
 rw [show aj mZ=[_,_] from rfl]
 refine ⟨_,(ak (SA (pv 0) aH Qx aH Zr set_list)
   (ao (aG (aT AH (aT SN (au MA hr.m rfl IG IW Ms .nil av (aa (fY eN (pv 0) aH (fun _ _=>rfl)) (aa (fY eN (pv 0) aH (fun _ _=>rfl)) ah))) aH) (pv 1))))),?_⟩
 obtain ⟨x,hd⟩:=hd
 refine ⟨_,rfl,d,_,1,_,rfl,rfl,bH.of hd,rfl,_,_,rfl,rfl,d,_,_,1,rfl,rfl,hd,rfl,?_⟩
 refine ⟨_,rfl,d,_,_,_,rfl,rfl,bH.of af,rfl,_,rfl,d,_,_,_,rfl,rfl,bH.of af,rfl,_,_,rfl,fun r h0 h1=>?_⟩
 refine ⟨_,_,rfl,rfl,⟨by decide,by decide⟩,_,rfl,_,_,rfl,rfl,hn,?_⟩
 have e0:=Int.emod_nonneg (r / 7) (Int.ne_of_gt hn)
 have e1:=Int.emod_lt_of_pos (r / 7) hn
 have e:=Int.toNat_of_nonneg e0
 rw [← e] at e1
 show Q (V.int (r / 7 % m0)) _
 rw [← e]
 exact k _ _ e1 aR.upd ⟨x,af⟩
abbrev j6:Stmt:=top 71
theorem kg:az ["_law_draw","_law_many","_law_some","_law_base","_law_at","_law_shift"] ["_law_draw","_law_many"] (ai j6):=dB
theorem Iv  (F:ck K "_law_names" "_law_names" j6 f fd) (T:Txt K mg Y.z.s) (J:dI K mg Y fS Db Bk) (pe:Dn P w K mg base 2 "_law_next" ["_law_draw","_law_size"] wg):aM P w K mg base bP 3 f fd ["_law_draw","_law_many"] CA:=by
 obtain ⟨DM,zP,cY,bX,bY,cX⟩:=pe
 refine F.dY kg fun vs H Q E h=>?_
 obtain ⟨d,n0,rfl,hd,k⟩:=h
 refine ⟨rfl,fun _ _ _ _ hr=>?_⟩
 rw [show aj j6=[_,_,_,_,_] from rfl]
 refine ⟨_,(ak (aO (i:=2) kg.nd rfl (Or.inr rfl) aZ)
   (ak (aO (i:=3) kg.nd rfl (Or.inr rfl) (fO PySem.F.plainAttrs_str PySem.F.slot_str_join PySem.F.type_str_join Tu aZ (aa (iB (dg ["_law_k"] ["_law_some","_law_draw"] [2,0] rfl (by decide +kernel) (by decide +kernel) (by with_unfolding_all rfl) (by exact ⟨rfl,rfl,trivial⟩) (by rfl) rfl (by rfl)) rfl (uy rfl T.range (aa (au cY hr.m rfl bX bY cX .nil av (aa (pv 0) (aa aH ah))) ah)) (fun _ _ _ _=>(aN (i:=0) (show List.Nodup (["_law_k","_law_some","_law_draw"]:List Str) by decide +kernel) rfl (Or.inl rfl) (Or.inr rfl))) (fun _ _ _ _=>iz) (fun _ _ _ _=>(fY IZ (pv 1) (au cY hr.m rfl bX bY cX .nil av (aa (pv 2) (aa aH ah))) (fun _ _=>rfl)))) ah)))
   (ak (aO (i:=4) kg.nd rfl (Or.inr rfl) (au cY hr.m rfl bX bY cX .nil av (aa (pv 0) (aa (aT jF (aX BV (by rfl) T.len PySem.boot_len (aa (pv 3) ah)) aH) ah))))
   (ak (aO (i:=5) kg.nd rfl (Or.inr rfl) (au cY hr.m rfl bX bY cX .nil av (aa (pv 0) (aa aH ah))))
   (ao (aG (iB (dg ["_law_k"] ["_law_base","_law_some","_law_at","_law_shift"] [3,2,4,5] rfl (by decide +kernel) (by decide +kernel) (by with_unfolding_all rfl) (by exact ⟨rfl,rfl,rfl,rfl,trivial⟩) (by rfl) rfl (by rfl)) rfl (uy rfl T.range (aa (pv 1) ah)) (fun _ _ _ _=>(aN (i:=0) (show List.Nodup (["_law_k","_law_base","_law_some","_law_at","_law_shift"]:List Str) by decide +kernel) rfl (Or.inl rfl) (Or.inr rfl))) (fun _ _ _ _=>iz) (fun _ _ _ _=>(aT gO (aT gO (aT gO (mE Nn (pv 1) wz (lJ (pv 3))) (fY IZ (pv 2) (aT AH (aT jF (pv 4) (aT m8 aH (pv 0))) aH) (fun _ _=>rfl))) (mE Nn (pv 1) (lJ (pv 3)) wz)) aZ))))))))),?_⟩
 refine ⟨rfl,cV rfl ⟨d,6,n0,rfl,hd,(by decide),fun r1 H1 hr1 b1 d1=>?_⟩⟩
 refine ⟨(r1:Int),rfl,by omega,by omega,yo (n:=(r1:Int).toNat) (fun i ys H'=>∃ (m:Nat) (ss:List Str),aR d H H'∧zp H' d m∧m≤n0+1+i∧ys=ss.map V.str∧ss.length=i∧∀ x∈ss,Chr x) ⟨n0+1,[],b1,d1,Nat.le_refl _,rfl,rfl,fun _ h=>absurd h List.not_mem_nil⟩ ?_ ?_⟩
 ·rintro i ys H' hi ⟨m,ss,but,dr,hm,rfl,hl,hc⟩
  refine ⟨Ext.one,JB (cV rfl (cV rfl ⟨d,26,m,rfl,dr,(by decide),fun r2 H2 hr2 b2 d2=>?_⟩))⟩
  have h26:r2 < 26:=by omega
  refine ⟨abc,_,cV rfl ⟨rfl,K8,Ri h26,?_,m+1,ss++[Ra (97+r2)],but.trans b2,d2,by omega,?_,by rw [List.length_append,hl];rfl,fun x hx=>?_⟩⟩
  ·rw [List.length_map,hl];exact line _ (by omega)
  ·rw [List.map_append];rfl
  ·rcases List.mem_append.mp hx with q | q
   ·exact hc x q
   ·rw [List.mem_singleton.mp q];exact ⟨_,rfl,by omega⟩
 ·rintro ys H' ⟨m,ss,but,dr,hm,rfl,hl,hc⟩ q hq
  have l5:ss.length≤5:=by omega
  refine ⟨_,q,ss,rfl,rfl,af,?_,?_⟩
  ·rw [Cq ss (fun x hx=>(hc x hx).len)]
   show _+_*0≤_
   omega
  have s1:=new (o:=.lst (ss.map V.str)) hq
  have aB:=Mw hc
  have lB:=PZ ss fun x hx=>(hc x hx).len
  generalize Txt.join (Str.ofString "") ss=B at aB lB
  refine (cV rfl (cV rfl ⟨B,rfl,Nat.le_of_lt (line _ (by omega)),_,cV rfl ⟨rfl,d,_,m,rfl,dr.same s1,(by omega),fun r2 H2 hr2 b2 d2=>?_⟩⟩))
  have ha:r2≤B.length:=by omega
  refine (cV rfl ⟨d,26,m+1,rfl,d2,(by decide),fun r3 H3 Ky b3 d3=>?_⟩)
  have b4:aR d H H3:=((but.trans (aR.of s1)).trans b2).trans b3
  refine (cV rfl ⟨8,rfl,by omega,by omega,yo (n:=(8:Int).toNat) (fun i ys H'=>∃ ss:List Str,H'=H3∧ys=ss.map V.str∧ss.length=i∧∀ x∈ss,US x) ⟨[],rfl,rfl,rfl,fun _ h=>absurd h List.not_mem_nil⟩ ?_ ?_⟩)
  ·rintro i ys H' hi ⟨ns,rfl,rfl,hn,hw⟩
   have L:∀ z:Str,z.length≤100→z.length≤sizeLine:=fun z h=>Nat.le_of_lt (line _ (by omega))
   have lb:B.length≤5:=by omega
   have l1:=Np B none (some (r2:Int))
   have l2:=Np B (some (r2:Int)) none
   have A1:=UH ha aB
   have A2:=Mx ha aB
   have hmod:=UI ((r3:Int)+3*(0+(i:Int)))
   refine ⟨Ext.one,JB (cV rfl (cV rfl ⟨(r2:Int),rfl,B,rfl,L _ (by omega),?_⟩))⟩
   refine (cV rfl (cV rfl (cV rfl ⟨_,cV rfl ⟨rfl,.inl ⟨by decide,by decide⟩,_,cV rfl ⟨rfl,_,cV rfl ⟨rfl,(by show (0:Int) < 26;decide),abc,_,cV rfl ⟨rfl,K8,hmod,?_⟩⟩⟩⟩⟩)))
   refine ⟨_,cV rfl ⟨rfl,Nat.le_of_lt (line _ (by rw [tL];omega)),?_⟩⟩
   refine (cV rfl (cV rfl ⟨(r2:Int),rfl,B,rfl,L _ (by omega),_,cV rfl ⟨rfl,Nat.le_of_lt (line _ (by rw [lP,tL];omega)),?_⟩⟩))
   have lz:("z":Str).length=1:=by decide +kernel
   refine ⟨_,cV rfl ⟨rfl,Nat.le_of_lt (line _ (by rw [lP,lP,tL,lz];omega)),?_,ns++[Txt.slice B none (some (r2:Int))++Ra (97+(((r3:Int)+3*(0+(i:Int))) % 26).toNat)++Txt.slice B (some (r2:Int)) none++"z"],rfl,?_,?_,?_⟩⟩
   ·rw [List.length_map,hn];exact line _ (by omega)
   ·rw [List.map_append];rfl
   ·rw [List.length_append,hn];rfl
   ·intro x hx
    rcases List.mem_append.mp hx with q | q
    ·exact hw x q
    ·rw [List.mem_singleton.mp q]
     refine TH (yw (yw (yw A1 (Ej (by omega))) A2) (fun c hc=>?_)) ?_ ?_
     ·have:c∈[122]:=hc
      rw [List.mem_singleton.mp this];decide
     ·rw [lP,lz];omega
     ·rw [lP,lP,lP,tL,lz];omega
  ·rintro ys H' ⟨ns,rfl,rfl,hn,hw⟩ z hz
   have sz:=new (o:=.lst (ns.map V.str)) hz
   refine k z ns (m+1+1) _ (b4.trans (aR.of sz)) (d3.same sz) (by omega) ?_ af hn hw
   cases e:H z with
   | none=>rfl
   | some o =>
    have nz:z≠d:=d3.ne hz
    rw [b4 _ _ e nz] at hz;cases hz
abbrev gB:Stmt:=top 72
theorem Av:az ["_law_name"] ["_law_name"] (ai gB):=dB
theorem AJ  (F:ck K "_law_compare" "_law_compare" gB f fd) (T:Txt K mg Y.z.s) (J:dI K mg Y fS Db Bk) (yh:Dn P w K mg base 3 "sum_of" ["pairs","number"] (pN Y.z.s)) (nU:Mr P w K mg base 1 Y.z.c ["self","one","sign","other"] (rQ Y.z)):aM P w K mg base bP 5 f fd ["_law_name"] (Am Y):=by
 obtain ⟨QF,LL,iL,gh,gi,iK⟩:=yh
 obtain ⟨uU,qZ,dH,kX,dF⟩:=nU
 refine F.dY Av fun vs H Q E h=>?_
 obtain ⟨x,rfl,k⟩:=h
 refine ⟨rfl,fun _ _ _ _ hr=>?_⟩
 rw [show aj gB=[_] from rfl]
 refine ⟨_,(ao (aG (br kX dH hr.m rfl J.mgC dF .nil av (aa (au iL hr.m rfl gh gi iK .nil av (aa (bC (aa (aJ (aa (pv 0) (aa aH ah))) ah)) (aa aH ah))) (aa aZ (aa (au iL hr.m rfl gh gi iK .nil av (aa (aJ ah) (aa aH ah))) ah)))))),?_⟩
 refine (cV rfl ⟨szl 2,fun r1 hr1=>?_⟩)
 refine ⟨szl 1,fun L hL=>?_⟩
 have sL:=aK.new (new (o:=.tup [.str x,.int 1]) hr1) (o:=.lst [.ref r1]) hL
 refine ⟨L,0,[(x,1)],rfl,.inl ⟨[.ref r1],af,.cons ⟨r1,rfl,new hL _ _ af⟩ .nil⟩,(by show 1 < 64;decide),fun q1 ts1 H1 s1 g1 _ S1=>?_⟩
 obtain rfl:ts1=[(x,1)]:=Canon.same g1.1 (canon_one x (by decide)) g1.2
 refine ⟨Nat.zero_le _,fun q0 LF=>?_⟩
 have s2:=new (o:=.tup []) LF
 refine ⟨q0,3,[],rfl,.inr ⟨[],af,.nil⟩,(by show 0 < 64;decide),fun q2 ts2 H2 s3 g2 _ S2=>?_⟩
 obtain rfl:ts2=[]:=Canon.same g2.1 Canon.nil g2.2
 intro x2 eO gm eX ne2
 have s4:=aV (o:=.own x2) (o':=.ins Y.z.c eO []) gm eX
 refine ⟨x2,eO,q1,q2,"<",rfl,af,fun H5 mR e5=>⟨rfl,?_⟩⟩
 have sA:=(sL.trans s1).trans (s2.trans s3)
 have s5:aK H2 H5:=fun b' o' e'=>mR _ _ (s4 _ _ e') (aq e' gm)
 exact k x2 H5 (sA.trans s5) (by unfold lW bg;exact ⟨x2,eO,q1,q2,rfl,e5,(S1.same (s2.trans s3)).same s5,S2.same s5⟩)
abbrev mY:Stmt:=top 73
theorem fM:az ["_law_draw","_law_names_here","_law_deep","_law_at","_law_kind","_law_name","_law_total","_law_many","_law_then","_law_wrote","_law_other","_law_more"] ["_law_draw","_law_names_here","_law_deep"] (ai mY):=dB
theorem Ln  (F:ck K "_law_step" "_law_step" mY f fd) (T:Txt K mg Y.z.s) (J:dI K mg Y fS Db Bk) (pe:Dn P w K mg base 2 "_law_next" ["_law_draw","_law_size"] wg) (yh:Dn P w K mg base 3 "sum_of" ["pairs","number"] (pN Y.z.s)) (a3A:Mr P w K mg base 2 (fc Y 1) ["self","at","name","word","total","by"] (Ve Y 1)) (a3z:Mr P w K mg base 2 (fc Y 2) ["self","at","name","row","place"] (J5 Y 2)) (a3x:Mr P w K mg base 2 (fc Y 4) ["self","at","row","size"] (J6 Y 4)) (a3D:Mr P w K mg base 2 Y.cl ["self","at","names","helper","given"] (Vh Y)) (a3v:Mr P w K mg base 2 (fc Y 3) ["self","at","row","place","total"] (J5 Y 3)) (Ma:Dn P w K mg base (2*n+7) "_law_steps" ["_law_draw","_law_names_here","_law_many","_law_deep"] (jU Y n)) (pA:Dn P w K mg base 5 "_law_compare" ["_law_name"] (Am Y)) (a3E:Mr P w K mg base 2 Y.ch ["self","at","condition","then","other"] (Vi Y)) (Q4:Mr P w K mg base 2 Y.rp ["self","at","condition","keeps","falls","body"] (HP Y)) (a3y:Mr P w K mg base 2 (fc Y 0) ["self","at","name","total"] (J6 Y 0)):aM P w K mg base bP (2*n+8) f fd ["_law_draw","_law_names_here","_law_deep"] (w4 Y (n+1)):=by
 obtain ⟨DM,zP,cY,bX,bY,cX⟩:=pe
 obtain ⟨QF,LL,iL,gh,gi,iK⟩:=yh
 obtain ⟨a2U,a0Z,zl,UP,zf⟩:=a3A
 obtain ⟨a7X,a2Q,Cb,a0F,BW⟩:=a3z
 obtain ⟨b9E,a7Q,Es,a5x,Eb⟩:=a3x
 obtain ⟨b9G,a7S,Eu,a5z,Ed⟩:=a3D
 obtain ⟨c9w,b9z,JK,c7Z,Jz⟩:=a3v
 obtain ⟨LR,Je,pZ,nB,nI,pY⟩:=Ma
 obtain ⟨DN,BF,jC,iD,iF,jz⟩:=pA
 obtain ⟨a2V,a00,zm,UQ,zg⟩:=a3E
 obtain ⟨QK,LN,mj,B0,lY⟩:=Q4
 obtain ⟨c9x,b9A,JL,c8a,JA⟩:=a3y
 refine F.dY fM fun vs H Q E h=>?_
 obtain ⟨d,l,n0,deep,ns,rfl,hk,h3,hd,hl,hns,k⟩:=h
 refine ⟨rfl,fun _ _ _ _ hr=>?_⟩
 rw [show aj mY=[_,_,_,_,_,_,_,_,_,_,_] from rfl]
 refine ⟨_,(ak (aO (i:=3) fM.nd rfl (Or.inl rfl) (fY eN (pv 0) aH (fun _ _=>rfl)))
   (ak (aO (i:=4) fM.nd rfl (Or.inl rfl) (au cY hr.m rfl bX bY cX .nil av (aa (pv 0) (aa aH ah))))
   (ak (aO (i:=5) fM.nd rfl (Or.inl rfl) (fY eN (pv 1) (aT jF aH (au cY hr.m rfl bX bY cX .nil av (aa (pv 0) (aa aH ah)))) (fun _ _=>rfl)))
   (ak (aO (i:=6) fM.nd rfl (Or.inl rfl) (au iL hr.m rfl gh gi iK .nil av (aa (bC (aa (aJ (aa (fY eN (pv 1) (au cY hr.m rfl bX bY cX .nil av (aa (pv 0) (aa aH ah))) (fun _ _=>rfl)) (aa aH ah))) ah)) (aa (au cY hr.m rfl bX bY cX .nil av (aa (pv 0) (aa aH ah))) ah))))
   (ak (cA (bJ kr (pv 4) aH (bM _)) (ao (aG (aJ (aa (br UP zl hr.m rfl J.mg1 zf .nil av (aa (pv 3) (aa (pv 5) (aa aZ (aa (pv 6) (aa (au iL hr.m rfl gh gi iK .nil av (aa (aJ ah) (aa aH ah))) ah)))))) (aa (bC (aa (pv 5) ah)) ah))))) bh)
   (ak (cA (bJ kr (pv 4) aH (bM _)) (ao (aG (aJ (aa (br a0F Cb hr.m rfl J.mg2 BW .nil av (aa (pv 3) (aa (pv 5) (aa (fY eN (pv 1) aH (fun _ _=>rfl)) (aa (pv 6) ah))))) (aa (bC (aa (pv 5) ah)) ah))))) bh)
   (ak (cA (bJ kr (pv 4) aH (bM _)) (ao (aG (aJ (aa (br a5x Es hr.m rfl J.mg4 Eb .nil av (aa (pv 3) (aa (fY eN (pv 1) aH (fun _ _=>rfl)) (aa (pv 6) ah)))) (aa (bC (aa (aT gO aZ (fY eN (pv 1) aH (fun _ _=>rfl))) ah)) ah))))) bh)
   (ak (cA (bJ kr (pv 4) aH (bM _)) (ak (aO (i:=7) fM.nd rfl (Or.inl rfl) (au cY hr.m rfl bX bY cX .nil av (aa (pv 0) (aa aH ah))))
   (ao (aG (aJ (aa (br a5z Eu hr.m rfl J.mg6 Ed .nil av (aa (pv 3) (aa (mE wo (pv 1) (lJ aH) (lJ (aT jF aH (pv 7)))) (aa (fY eN (bC (Kh (xs:=["none","one","two"]) rfl)) (pv 7) (fun _ _=>rfl)) (aa (bC (aa (pv 6) ah)) ah))))) (aa (mE wo (pv 1) (lJ aH) (lJ (aT jF aH (pv 7)))) ah)))))) bh)
   (ak (cA (bJ kr (pv 4) aH (bM _)) (ao (aG (aJ (aa (br c7Z JK hr.m rfl J.mg3 Jz .nil av (aa (pv 3) (aa (fY eN (pv 1) aH (fun _ _=>rfl)) (aa (pv 6) (aa (pv 6) ah))))) (aa (bC ah) ah))))) bh)
   (ak (cA (PW.pt (Yp (bJ vj (pv 4) aH (bM _)) (Sz (bJ vj (pv 2) aH (bM _))))) (ak (AB (au pZ hr.m rfl nB nI pY .nil av (aa (pv 0) (aa (pv 1) (aa (au cY hr.m rfl bX bY cX .nil av (aa (pv 0) (aa aH ah))) (aa (aT m8 (aT OG (pv 2) aH) (aU Ml (by rfl) T.int boot_int (aa (rZ kr (pv 4) aH (bM _)) ah))) ah))))) (lQ rfl (bq (aN (i:=8) fM.nd rfl (Or.inl rfl)) (bq (aN (i:=9) fM.nd rfl (Or.inl rfl)) fU))))
   (ak (AB (au pZ hr.m rfl nB nI pY .nil av (aa (pv 0) (aa (pv 1) (aa (au cY hr.m rfl bX bY cX .nil av (aa (pv 0) (aa aH ah))) (aa aH ah))))) (lQ rfl (bq (aN (i:=10) fM.nd rfl (Or.inl rfl)) (bq (aN (i:=11) fM.nd rfl (Or.inl rfl)) fU))))
   (ak (cA (bJ kr (pv 4) aH (bM _)) (ao (aG (aJ (aa (br UQ zm hr.m rfl J.mg7 zg .nil av (aa (pv 3) (aa (au jC hr.m rfl iD iF jz .nil av (aa (pv 5) ah)) (aa (pv 8) (aa (pv 10) ah))))) (aa (aT xB (pv 9) (pv 11)) ah))))) bh)
   (ao (aG (aJ (aa (br B0 mj hr.m rfl J.mg8 lY .nil av (aa (pv 3) (aa (au jC hr.m rfl iD iF jz .nil av (aa (pv 5) ah)) (aa (aJ ah) (aa uz (aa (pv 8) ah)))))) (aa (pv 9) ah)))))))) bh)
   (ao (aG (aJ (aa (br c8a JL hr.m rfl J.mg0 JA .nil av (aa (pv 3) (aa (pv 5) (aa (pv 6) ah)))) (aa (bC (aa (pv 5) ah)) ah))))))))))))))),?_⟩
 dsimp only [jR,Cx.yN]
 have hd0:=hd
 obtain ⟨x0,ed⟩:=hd
 have nl:l≠d:=fun z=>by
  rw [z,ed] at hl
  have q:=congrArg List.length (HO.lst.inj (Option.some.inj hl))
  rw [List.length_map,hns.l] at q
  exact absurd q (by show ¬ 2=8;decide)
 refine gH fun N hN=>?_
 refine (cV rfl (cL (bH.of ed) rfl ?_))
 refine hN _ _ ?_
 refine gH fun N hN=>?_
 refine (cV rfl ⟨d,8,n0,rfl,hd0,(by decide),fun kk H1 hkk b1 d1=>?_⟩)
 refine hN _ _ ?_
 refine gH fun N hN=>?_
 refine (cV rfl (cV rfl ⟨d,4,n0+1,rfl,d1,(by decide),fun r2 H2 hr2 b2 d2=>?_⟩))
 have b12:=b1.trans b2
 obtain ⟨nm,hnm,anm⟩:=yv hns (j:=2+r2) (by omega)
 refine ⟨_,cV rfl ⟨rfl,cL (bH.of (b12 _ _ hl nl)) (by rw [show (2+(r2:Int))=((2+r2:Nat):Int) by omega];exact anm) ?_⟩⟩
 refine hN _ _ ?_
 refine gH fun N hN=>?_
 refine (cV rfl (cV rfl ⟨d,6,n0+1+1,rfl,d2,(by decide),fun r3 H3 Ky b3 d3=>?_⟩))
 have b13:=b12.trans b3
 obtain ⟨tn,htn,atn⟩:=yv hns (j:=r3) (by omega)
 refine (cL (bH.of (b13 _ _ hl nl)) atn ?_)
 refine ⟨szl 2,fun t3 ht3=>?_⟩
 have s3:=new (o:=.tup [.str tn,.int 1]) ht3
 refine ⟨szl 1,fun L3 hL3=>?_⟩
 have s3':=new (o:=.lst [.ref t3]) hL3
 have d3':=(d3.same s3).same s3'
 refine (cV rfl ⟨d,5,n0+1+1+1,rfl,d3',(by decide),fun r4 H4 hr4 b4 d4=>?_⟩)
 have nL3:L3≠d:=(d3.same s3).ne hL3
 have k4:aD (upd (upd H3 t3 (.tup [.str tn,.int 1])) L3 (.lst [.ref t3])) H4:=d3'.soft b4
 refine ⟨L3,(r4:Int),[(tn,1)],rfl,.inl ⟨[.ref t3],b4 _ _ af nL3,.cons ⟨t3,rfl,k4.t _ _ (s3' _ _ af)⟩ .nil⟩,(by show 1 < 64;decide),fun q1 ts1 H5 s5 g1 _ S5=>?_⟩
 obtain rfl:ts1=[(tn,1)]:=Canon.same g1.1 (canon_one tn (by decide)) g1.2
 refine hN _ _ ?_
 have b5:aR d H H5:=(((b13.trans (aR.of (s3.trans s3'))).trans b4)).trans (aR.of s5)
 have d5:zp H5 d (n0+4):=d4.same s5
 have RB:=b5 _ _ hl nl
 have nmN:=pT hns hnm (by omega)
 have Vm:Ci (baseOf ns) [(tn,1)]:=⟨(by decide:1≤3),fun t ht=>by rw [List.mem_singleton.mp ht];exact (pT hns htn (by omega)).1⟩
 obtain ⟨n6,hn6,an6⟩:=yv hns (j:=6) (by decide)
 obtain ⟨n7,hn7,an7⟩:=yv hns (j:=7) (by decide)
 have r6:=wF hns hn6 (by decide)
 have r7:=wF hns hn7 (by decide)
 have cm5:5≤Mh deep:=by unfold Mh;split <;> decide
 clear g1 hL3 ht3
 refine gH fun N hN=>?_
 refine (cV rfl ⟨rfl,cV rfl ?_⟩)
 by_cases h0:kk=0
 ·refine mH (by rw [h0];rfl) ?_
  refine (cV rfl (cV rfl (cV rfl ⟨Nat.zero_le _,fun q0 LF=>?_⟩)))
  have s0:=new (o:=.tup []) LF
  refine ⟨q0,2,[],rfl,.inr ⟨[],af,.nil⟩,(by show 0 < 64;decide),fun q2 ts2 H6 s6' g2 _ S2=>?_⟩
  obtain rfl:ts2=[]:=Canon.same g2.1 Canon.nil g2.2
  have s56:=s0.trans s6'
  intro x2 eO gm eX ne2
  have s6:=aV (o:=.own x2) (o':=.ins Y.dv eO []) gm eX
  refine ⟨x2,eO,(n0:Int),.str nm,.str "div",.ref q1,.ref q2,rfl,af,fun H7 mQ e7=>⟨rfl,?_⟩⟩
  have sZ:aK H5 H7:=fun b' o' e'=>mQ _ _ (s6 _ _ (s56 _ _ e')) (aq (s56 _ _ e') gm)
  have Vp:aK H6 H7:=fun b' o' e'=>mQ _ _ (s6 _ _ e') (aq e' gm)
  refine (cV rfl ⟨szl 1,fun L8 xY=>?_⟩)
  have s8:=new (o:=.lst [.str nm]) xY
  refine ⟨szl 2,fun t9 yY=>?_⟩
  have s9:=new (o:=.tup [.ref x2,.ref L8]) yY
  have ko:=s8.trans s9
  refine k t9 x2 L8 (.flat 1 n0 [.tx nm,.tx "div",.sm [(tn,1)] r4,.sm [] 2]) (n0+4) _ (b5.trans (aR.of (sZ.trans ko))) ((d5.same sZ).same ko) (by omega) af ?_ (by rw [mV];exact s9 _ _ af) (jP (b5.trans (aR.of sZ)) (d5.same sZ) xY) ?_ (kH _ _ (by omega))
  ·unfold bO
   exact ⟨x2,eO,cV rfl ⟨⟨_,_,_,_,_,_,rfl⟩,ko _ _ e7,.cons rfl (.cons rfl (.cons ⟨q1,rfl,(S5.same sZ).same ko⟩ (.cons ⟨q2,rfl,(S2.same Vp).same ko⟩ .nil)))⟩⟩
  ·unfold aI.iO Kl
   exact ⟨_,_,cV rfl ⟨nmN,Vm⟩⟩
 refine oq (fun z=>h0 (by injection z with z;omega)) ?_
 refine hN _ _ ?_
 refine gH fun N hN=>?_
 refine (cV rfl ⟨rfl,cV rfl ?_⟩)
 by_cases h1:kk=1
 ·refine mH (by rw [h1];rfl) ?_
  refine (cV rfl (cV rfl (cV rfl (cL (bH.of RB) an6 (cV rfl (fun x2 eO gm eX ne2=>?_))))))
  have s6:=aV (o:=.own x2) (o':=.ins Y.ft eO []) gm eX
  refine ⟨x2,eO,(n0:Int),.str nm,.str n6,.ref q1,rfl,af,fun H7 mQ e7=>⟨rfl,?_⟩⟩
  have sZ:aK H5 H7:=fun b' o' e'=>mQ _ _ (s6 _ _ e') (aq e' gm)
  refine (cV rfl ⟨szl 1,fun L8 xY=>?_⟩)
  have s8:=new (o:=.lst [.str nm]) xY
  refine ⟨szl 2,fun t9 yY=>?_⟩
  have s9:=new (o:=.tup [.ref x2,.ref L8]) yY
  have ko:=s8.trans s9
  refine k t9 x2 L8 (.flat 2 n0 [.tx nm,.tx n6,.sm [(tn,1)] r4]) (n0+4) _ (b5.trans (aR.of (sZ.trans ko))) ((d5.same sZ).same ko) (by omega) af ?_ (by rw [mV];exact s9 _ _ af) (jP (b5.trans (aR.of sZ)) (d5.same sZ) xY) ?_ (kH _ _ (by omega))
  ·unfold bO
   exact ⟨x2,eO,cV rfl ⟨⟨_,_,_,_,rfl⟩,ko _ _ e7,.cons rfl (.cons rfl (.cons ⟨q1,rfl,(S5.same sZ).same ko⟩ .nil))⟩⟩
  ·unfold aI.iO Kl
   exact ⟨_,_,_,cV rfl ⟨nmN,r6,Vm⟩⟩
 refine oq (fun z=>h1 (by injection z with z;omega)) ?_
 refine hN _ _ ?_
 refine gH fun N hN=>?_
 refine (cV rfl ⟨rfl,cV rfl ?_⟩)
 by_cases h2:kk=2
 ·refine mH (by rw [h2];rfl) ?_
  refine (cV rfl (cV rfl (cL (bH.of RB) an7 (cV rfl (fun x2 eO gm eX ne2=>?_)))))
  have s6:=aV (o:=.own x2) (o':=.ins Y.mq eO []) gm eX
  refine ⟨x2,eO,(n0:Int),.str n7,.ref q1,rfl,af,fun H7 mQ e7=>⟨rfl,?_⟩⟩
  have sZ:aK H5 H7:=fun b' o' e'=>mQ _ _ (s6 _ _ e') (aq e' gm)
  refine (cV rfl (cL (bH.of (sZ _ _ RB)) an7 ⟨_,cV rfl ⟨rfl,Nat.le_of_lt (line _ (by rw [show ("#":Str).length=1 by decide +kernel];have:=r7.2;omega)),szl 1,fun L8 xY=>?_⟩⟩))
  have s8:=new (o:=.lst [.str ("#"++n7)]) xY
  refine ⟨szl 2,fun t9 yY=>?_⟩
  have s9:=new (o:=.tup [.ref x2,.ref L8]) yY
  have ko:=s8.trans s9
  refine k t9 x2 L8 (.flat 4 n0 [.tx n7,.sm [(tn,1)] r4]) (n0+4) _ (b5.trans (aR.of (sZ.trans ko))) ((d5.same sZ).same ko) (by omega) af ?_ (by rw [mV];exact s9 _ _ af) (jP (b5.trans (aR.of sZ)) (d5.same sZ) xY) ?_ (kH _ _ (by omega))
  ·unfold bO
   exact ⟨x2,eO,cV rfl ⟨⟨_,_,_,rfl⟩,ko _ _ e7,.cons rfl (.cons ⟨q1,rfl,(S5.same sZ).same ko⟩ .nil)⟩⟩
  ·unfold aI.iO Kl
   exact ⟨_,_,cV rfl ⟨r7,Vm⟩⟩
 refine oq (fun z=>h2 (by injection z with z;omega)) ?_
 refine hN _ _ ?_
 refine gH fun N hN=>?_
 refine (cV rfl ⟨rfl,cV rfl ?_⟩)
 by_cases h3:kk=3
 ·refine mH (by rw [h3];rfl) ?_
  refine (cV rfl ⟨d,3,n0+4,rfl,d5,(by decide),fun r5 H6 hr5 b6 d6=>?_⟩)
  have k6:=d5.soft b6
  have hl6:=b6 _ _ RB nl
  obtain ⟨ec,lc,nc⟩:=Tt hns (m:=r5) (by omega)
  refine (cV rfl (cV rfl ⟨3,rfl,cV rfl ⟨_,cV rfl ⟨rfl,cV rfl ⟨l,cV rfl ⟨bH.of hl6,fun C1 hC1=>?_⟩⟩⟩⟩⟩))
  rw [ec]
  have c1:=new (o:=.lst (((ns.drop 3).take r5).map V.str)) hC1
  obtain ⟨hx,yZ,hat⟩:=a0r hr5
  refine ⟨szl 3,fun Z1 hZ1=>?_⟩
  have c2:=new (o:=.lst ((["none","one","two"]:List Str).map V.str)) hZ1
  refine (cV rfl (cL (bH.of af) hat ?_))
  refine (cV rfl ⟨szl 1,fun G1 hG1=>?_⟩)
  have c3:=new (o:=.lst [.ref q1]) hG1
  have c13:=(c1.trans c2).trans c3
  have eC:(upd (upd (upd H6 C1 (.lst (((ns.drop 3).take r5).map V.str))) Z1 (.lst ((["none","one","two"]:List Str).map V.str))) G1 (.lst [.ref q1])) C1=some (.lst (((ns.drop 3).take r5).map V.str)):=c3 _ _ (c2 _ _ af)
  have eG:(upd (upd (upd H6 C1 (.lst (((ns.drop 3).take r5).map V.str))) Z1 (.lst ((["none","one","two"]:List Str).map V.str))) G1 (.lst [.ref q1])) G1=some (.lst [.ref q1]):=af
  generalize upd (upd (upd H6 C1 (.lst (((ns.drop 3).take r5).map V.str))) Z1 (.lst ((["none","one","two"]:List Str).map V.str))) G1 (.lst [.ref q1])=HG at c13 eC eG ⊢
  intro x2 eO gm eX ne2
  have s6:=aV (o:=.own x2) (o':=.ins Y.cl eO []) gm eX
  refine ⟨x2,eO,C1,G1,(n0:Int),.str hx,_,cV rfl ⟨af,s6 _ _ eC,s6 _ _ eG,fun u1 u2 H7 mQ e7 eu1 eu2=>⟨rfl,?_⟩⟩⟩
  have Vp:aK H6 H7:=fun b' o' e'=>mQ _ _ (s6 _ _ (c13 _ _ e')) (aq (c13 _ _ e') gm)
  refine (cV rfl ⟨3,rfl,cV rfl ⟨_,cV rfl ⟨rfl,cV rfl ⟨l,cV rfl ⟨bH.of (Vp _ _ hl6),fun L8 xY=>?_⟩⟩⟩⟩⟩)
  rw [ec]
  have s8:=new (o:=.lst (((ns.drop 3).take r5).map V.str)) xY
  refine ⟨szl 2,fun t9 yY=>?_⟩
  have s9:=new (o:=.tup [.ref x2,.ref L8]) yY
  have ko:=s8.trans s9
  refine k t9 x2 L8 (.flat 6 n0 [.Rv ((ns.drop 3).take r5),.tx hx,.Vl [([(tn,1)],(r4:Int))]]) (n0+4+1) _ ((b5.trans b6).trans (aR.of (Vp.trans ko))) ((d6.same Vp).same ko) (by omega) af ?_ (by rw [mV];exact s9 _ _ af) (jP ((b5.trans b6).trans (aR.of Vp)) (d6.same Vp) xY) ?_ (kH _ _ (by omega))
  ·unfold bO
   exact ⟨x2,eO,cV rfl ⟨⟨_,_,_,rfl⟩,ko _ _ e7,.cons ⟨u1,rfl,ko _ _ eu1⟩ (.cons rfl (.cons ⟨u2,[.ref q1],rfl,ko _ _ eu2,(by decide:1≤1000),.cons ⟨q1,rfl,((S5.aE k6).same Vp).same ko⟩ .nil⟩ .nil))⟩⟩
  ·unfold aI.iO Kl
   exact ⟨_,_,cV rfl ⟨by rw [lc];exact yZ,nc,Vm⟩⟩
 refine oq (fun z=>h3 (by injection z with z;omega)) ?_
 refine hN _ _ ?_
 refine gH fun N hN=>?_
 refine (cV rfl ⟨rfl,cV rfl ?_⟩)
 by_cases h4:kk=4
 ·refine mH (by rw [h4];rfl) ?_
  refine (cV rfl (cV rfl (cL (bH.of RB) an6 (cV rfl (cV rfl (fun x2 eO gm eX ne2=>?_))))))
  have s6:=aV (o:=.own x2) (o':=.ins Y.pt eO []) gm eX
  refine ⟨x2,eO,(n0:Int),.str n6,.ref q1,.ref q1,rfl,af,fun H7 mQ e7=>⟨rfl,?_⟩⟩
  have sZ:aK H5 H7:=fun b' o' e'=>mQ _ _ (s6 _ _ e') (aq e' gm)
  refine ⟨(Nat.zero_le _),fun L8 xY=>?_⟩
  have s8:=new (o:=.lst []) xY
  refine ⟨szl 2,fun t9 yY=>?_⟩
  have s9:=new (o:=.tup [.ref x2,.ref L8]) yY
  have ko:=s8.trans s9
  refine k t9 x2 L8 (.flat 3 n0 [.tx n6,.sm [(tn,1)] r4,.sm [(tn,1)] r4]) (n0+4) _ (b5.trans (aR.of (sZ.trans ko))) ((d5.same sZ).same ko) (by omega) af ?_ (by rw [mV];exact s9 _ _ af) (jP (b5.trans (aR.of sZ)) (d5.same sZ) xY) ?_ (kH _ _ (by omega))
  ·unfold bO
   exact ⟨x2,eO,cV rfl ⟨⟨_,_,_,_,_,rfl⟩,ko _ _ e7,.cons rfl (.cons ⟨q1,rfl,(S5.same sZ).same ko⟩ (.cons ⟨q1,rfl,(S5.same sZ).same ko⟩ .nil))⟩⟩
  ·unfold aI.iO Kl
   exact ⟨_,_,_,_,cV rfl ⟨r6,Vm,Vm⟩⟩
 refine oq (fun z=>h4 (by injection z with z;omega)) ?_
 refine hN _ _ ?_
 refine gH fun N hN=>?_
 by_cases h5:kk=5
 ·refine (cV rfl ⟨_,cV rfl ⟨rfl,cV rfl (oq (by omega) ?_)⟩⟩)
  refine hN _ _ ?_
  refine (cV rfl (cV rfl (cV rfl (fun x2 eO gm eX ne2=>?_))))
  have s6:=aV (o:=.own x2) (o':=.ins Y.lt eO []) gm eX
  refine ⟨x2,eO,(n0:Int),.str nm,.ref q1,rfl,af,fun H7 mQ e7=>⟨rfl,?_⟩⟩
  have sZ:aK H5 H7:=fun b' o' e'=>mQ _ _ (s6 _ _ e') (aq e' gm)
  refine (cV rfl ⟨szl 1,fun L8 xY=>?_⟩)
  have s8:=new (o:=.lst [.str nm]) xY
  refine ⟨szl 2,fun t9 yY=>?_⟩
  have s9:=new (o:=.tup [.ref x2,.ref L8]) yY
  have ko:=s8.trans s9
  refine k t9 x2 L8 (.flat 0 n0 [.tx nm,.sm [(tn,1)] r4]) (n0+4) _ (b5.trans (aR.of (sZ.trans ko))) ((d5.same sZ).same ko) (by omega) af ?_ (by rw [mV];exact s9 _ _ af) (jP (b5.trans (aR.of sZ)) (d5.same sZ) xY) ?_ (kH _ _ (by omega))
  ·unfold bO
   exact ⟨x2,eO,cV rfl ⟨⟨_,_,_,rfl⟩,ko _ _ e7,.cons rfl (.cons ⟨q1,rfl,(S5.same sZ).same ko⟩ .nil)⟩⟩
  ·unfold aI.iO Kl
   exact ⟨_,_,cV rfl ⟨nmN,Vm⟩⟩
 have h67:kk=6∨kk=7:=by omega
 have h56:(5:Int) < kk:=by rcases h67 with z | z <;> (rw [z];decide)
 by_cases hdp:deep=0
 ·refine (cV rfl ⟨_,cV rfl ⟨rfl,cV rfl (mH h56 ?_)⟩⟩)
  refine (cV rfl ⟨_,cV rfl ⟨rfl,cV rfl (oq (by omega) ?_)⟩⟩)
  refine hN _ _ ?_
  refine (cV rfl (cV rfl (cV rfl (fun x2 eO gm eX ne2=>?_))))
  have s6:=aV (o:=.own x2) (o':=.ins Y.lt eO []) gm eX
  refine ⟨x2,eO,(n0:Int),.str nm,.ref q1,rfl,af,fun H7 mQ e7=>⟨rfl,?_⟩⟩
  have sZ:aK H5 H7:=fun b' o' e'=>mQ _ _ (s6 _ _ e') (aq e' gm)
  refine (cV rfl ⟨szl 1,fun L8 xY=>?_⟩)
  have s8:=new (o:=.lst [.str nm]) xY
  refine ⟨szl 2,fun t9 yY=>?_⟩
  have s9:=new (o:=.tup [.ref x2,.ref L8]) yY
  have ko:=s8.trans s9
  refine k t9 x2 L8 (.flat 0 n0 [.tx nm,.sm [(tn,1)] r4]) (n0+4) _ (b5.trans (aR.of (sZ.trans ko))) ((d5.same sZ).same ko) (by omega) af ?_ (by rw [mV];exact s9 _ _ af) (jP (b5.trans (aR.of sZ)) (d5.same sZ) xY) ?_ (kH _ _ (by omega))
  ·unfold bO
   exact ⟨x2,eO,cV rfl ⟨⟨_,_,_,rfl⟩,ko _ _ e7,.cons rfl (.cons ⟨q1,rfl,(S5.same sZ).same ko⟩ .nil)⟩⟩
  ·unfold aI.iO Kl
   exact ⟨_,_,cV rfl ⟨nmN,Vm⟩⟩
 refine (cV rfl ⟨_,cV rfl ⟨rfl,cV rfl (mH h56 ?_)⟩⟩)
 refine (cV rfl ⟨_,cV rfl ⟨rfl,cV rfl (mH (by omega) ?_)⟩⟩)
 refine gH fun N2 h2=>?_
 refine (cV rfl (cV rfl (cV rfl ⟨d,3,n0+4,rfl,d5,(by decide),fun r5 H6 hr5 b6 d6=>?_⟩)))
 have k6:=d5.soft b6
 have hl6:=b6 _ _ RB nl
 obtain ⟨d',hd',ed'⟩:=a3q h67 hdp
 obtain ⟨e7',lde,ed'⟩:=ed'
 refine (cV rfl ⟨_,cV rfl ⟨rfl,cV rfl ⟨rfl,.inr (cV rfl ⟨_,cV rfl ⟨rfl,.inl ⟨by omega,by omega⟩,?_⟩⟩)⟩⟩⟩)
 refine ⟨d,l,n0+4+1,d',r5,ns,congrArg (fun z=>[V.ref d,V.ref l,V.int (r5:Int),V.int z]) ed',by omega,by omega,by omega,d6,hl6,hns,?_⟩
 intro ra pa wa us1 ss1 n1 H7 b7 d7 ln1 era epa fpa LD ewa fwa d6r od1 b5p
 have k7:=d6.soft b7
 have hl7:=b7 _ _ hl6 nl
 have npa:pa≠d:=d6.ne fpa
 have nwa:wa≠d:=d6.ne fwa
 refine ⟨ra,cV rfl ⟨bG.of era,rfl,_,cV rfl ⟨_,cV rfl ⟨rfl,?_⟩⟩⟩⟩
 refine h2 _ _ ?_
 refine gH fun N2 h2=>?_
 refine (cV rfl (cV rfl (cV rfl ⟨d,2,n1,rfl,d7,(by decide),fun r8 H8 Zu b8 d8=>?_⟩)))
 have k8:=d7.soft b8
 have hl8:=b8 _ _ hl7 nl
 refine ⟨d,l,n1+1,0,r8,ns,rfl,by omega,by omega,by omega,d8,hl8,hns,?_⟩
 intro rb pb wb zx ss2 n2 H9 b9 d9 ln2 erb epb fpb a2v ewb fwb b5n od2 a2o
 have k9:=d8.soft b9
 have k89:=k8.trans k9
 have b89:=b8.trans b9
 have cm0:Mh 0=5:=rfl
 have cmB:=a0p (deep:=deep) (by omega) lde
 have l1':r5*Mh d'≤2*Mh d':=Nat.mul_le_mul_right _ (by omega)
 have l2':r8*Mh 0≤1*Mh 0:=Nat.mul_le_mul_right _ (by omega)
 rw [cm0] at ln2 l2'
 have Ks:∀ s∈ss1,n8 d' n2 s:=fun s hs=>(b5p s hs).mono (by omega)
 have a3c:=b89 _ _ epa npa
 have a2Y:=b89 _ _ ewa nwa
 have Vv:=LD.aE k89
 have bA:aR d H H9:=(((b5.trans b6).trans b7).trans b89)
 have b47:dM ss1≤1000:=by
  have q:=(xT Ks (by omega)).np
  have:yX d'≤2:=by unfold yX;split <;> decide
  have:yX d'*yX d'≤2*2:=Nat.mul_le_mul this this
  omega
 refine ⟨rb,cV rfl ⟨bG.of erb,rfl,_,cV rfl ⟨_,cV rfl ⟨rfl,?_⟩⟩⟩⟩
 refine h2 _ _ ?_
 refine gH fun N2 h2=>?_
 refine (cV rfl ⟨rfl,cV rfl ?_⟩)
 by_cases h6:kk=6
 ·refine mH (by rw [h6];rfl) ?_
  have b9h:=hd' h6
  subst b9h
  refine (cV rfl (cV rfl ⟨nm,rfl,fun pc Hc sc cc=>?_⟩))
  refine (cV rfl (cV rfl (fun x2 eO gm eX ne2=>?_)))
  have s6:=aV (o:=.own x2) (o':=.ins Y.ch eO []) gm eX
  refine ⟨x2,eO,pa,pb,(n0:Int),.ref pc,us1,zx,rfl,af,s6 _ _ (sc _ _ a3c),s6 _ _ (sc _ _ epb),fun u1 u2 Hm Rf em eu1 eu2=>⟨rfl,?_⟩⟩
  have sZ:aK H9 Hm:=fun b' o' e'=>Rf _ _ (s6 _ _ (sc _ _ e')) (aq (sc _ _ e') gm)
  have scm:aK Hc Hm:=fun b' o' e'=>Rf _ _ (s6 _ _ e') (aq e' gm)
  have lw1:=wN od1
  have lw2:=wN od2
  have q1:=(xT Ks (by omega)).w
  have q2:=(IT a2o (by omega)).w
  have q1:(dR ss1).length≤2:=q1
  have q2:(dR ss2).length≤1:=q2
  refine (cV rfl (cV rfl ⟨wa,wb,_,cV rfl ⟨rfl,sZ _ _ a2Y,sZ _ _ ewb,Nat.le_of_lt (line _ (by rw [List.length_map,List.length_map];omega)),fun L8 xY=>?_⟩⟩))
  rw [← List.map_append]
  have s8:=new (o:=.lst ((iN ss1++iN ss2).map V.str)) xY
  refine ⟨szl 2,fun t9 yY=>?_⟩
  have s9:=new (o:=.tup [.ref x2,.ref L8]) yY
  have ko:=s8.trans s9
  refine k t9 x2 L8 (.kO n0 (lW nm) ss1 ss2) n2 _ (bA.trans (aR.of (sZ.trans ko))) ((d9.same sZ).same ko) (by omega) af ?_ (by rw [Xy];exact s9 _ _ af) (jP (bA.trans (aR.of sZ)) (d9.same sZ) xY) ?_ (TQ (by omega) Ks (by omega) a2o (by omega) (by omega))
  ·unfold bO
   have lu1:=fQ LD
   have lu2:=fQ a2v
   exact ⟨x2,eO,.ref pc,u1,u2,us1,zx,rfl,ko _ _ em,(cc.aE (aD.of (scm.trans ko))),ko _ _ eu1,by omega,Vv.aE (aD.of (sZ.trans ko)),ko _ _ eu2,by omega,a2v.aE (aD.of (sZ.trans ko))⟩
  ·unfold aI.iO
   exact ⟨tK nmN.1,by omega,by omega,od1,od2⟩
 refine oq (fun z=>h6 (by injection z with z;omega)) ?_
 refine h2 _ _ ?_
 have h7:kk=7:=h67.resolve_left h6
 have hdd:=e7' h7
 refine (cV rfl (cV rfl ⟨nm,rfl,fun pc Hc sc cc=>?_⟩))
 refine ⟨Nat.zero_le _,fun tk htk=>?_⟩
 have st:=new (o:=.tup []) htk
 have sct:=sc.trans st
 refine (cV rfl (fun x2 eO gm eX ne2=>?_))
 have s6:=aV (o:=.own x2) (o':=.ins Y.rp eO []) gm eX
 refine ⟨x2,eO,tk,pa,(n0:Int),.ref pc,us1,rfl,af,s6 _ _ af,s6 _ _ (sct _ _ a3c),fun u1 u2 Hm Rf em eu1 eu2=>⟨rfl,?_⟩⟩
 have sZ:aK H9 Hm:=fun b' o' e'=>Rf _ _ (s6 _ _ (sct _ _ e')) (aq (sct _ _ e') gm)
 have scm:aK Hc Hm:=fun b' o' e'=>Rf _ _ (s6 _ _ (st _ _ e')) (aq (st _ _ e') gm)
 refine (cV rfl ⟨szl 2,fun t9 yY=>?_⟩)
 have s9:=new (o:=.tup [.ref x2,.ref wa]) yY
 refine k t9 x2 wa (.rep n0 (lW nm) [] none ss1) n2 _ (bA.trans (aR.of (sZ.trans s9))) ((d9.same sZ).same s9) (by omega) af ?_ (by rw [Xx];exact s9 _ _ (sZ _ _ a2Y)) (jP (b5.trans b6) d6 fwa) ?_ (by rw [← hdd];exact TL cmB.2 Ks (by omega) (by omega))
 ·unfold bO
  have lu1:=fQ LD
  exact ⟨x2,eO,.ref pc,.ref u1,.fP,u2,us1,rfl,s9 _ _ em,cc.aE (aD.of (scm.trans s9)),⟨u1,[],rfl,s9 _ _ eu1,Nat.zero_le _,.nil⟩,rfl,s9 _ _ eu2,by omega,Vv.aE (aD.of (sZ.trans s9))⟩
 ·unfold aI.iO
  exact ⟨tK nmN.1,rfl,rfl,⟨by omega,b47⟩,od1⟩
abbrev j4:Stmt:=top 74
theorem gK:az ["_law_draw","_law_names_here","_law_many","_law_deep","_law_steps_here","_law_wrote","_law_k","_law_step_here","_law_more"] ["_law_draw","_law_names_here","_law_many","_law_deep"] (ai j4):=dB
theorem Iu  (F:ck K "_law_steps" "_law_steps" j4 f fd) (T:Txt K mg Y.z.s) (J:dI K mg Y fS Db Bk) (Mb:Dn P w K mg base (2*n+8) "_law_step" ["_law_draw","_law_names_here","_law_deep"] (w4 Y (n+1))):aM P w K mg base bP (2*n+9) f fd ["_law_draw","_law_names_here","_law_many","_law_deep"] (jU Y (n+1)):=by
 obtain ⟨a2T,a0Y,Rn,Lv,Lx,Rh⟩:=Mb
 refine F.dY gK fun vs H Q E h=>?_
 obtain ⟨d,l,n0,deep,m,ns,rfl,hk,h3,hm,hd,hl,hns,k⟩:=h
 refine ⟨rfl,fun _ _ _ _ hr=>?_⟩
 rw [show aj j4=[_,_,_,_] from rfl]
 refine ⟨_,(ak (aO (i:=4) gK.nd rfl (Or.inl rfl) (bC ah))
   (ak (aO (i:=5) gK.nd rfl (Or.inl rfl) (bC ah))
   (ak (dm PassesOwn.never rfl (uy rfl T.range (aa (pv 2) ah)) (aN (i:=6) gK.nd rfl (Or.inl rfl)) (ak (AB (au Rn hr.m rfl Lv Lx Rh .nil av (aa (pv 0) (aa (pv 1) (aa (pv 3) ah)))) (lQ rfl (bq (aN (i:=7) gK.nd rfl (Or.inl rfl)) (bq (aN (i:=8) gK.nd rfl (Or.inl rfl)) fU))))
   (ak (bB (fO PySem.F.plainAttrs_list PySem.F.slot_list_append PySem.F.type_list_append iZ (pv 4) (aa (pv 7) ah)))
   (ao (aO (i:=5) gK.nd rfl (Or.inl rfl) (aT xB (pv 5) (pv 8)))))))
   (ao (aG (aJ (aa (pv 4) (aa (pv 5) ah)))))))),?_⟩
 dsimp only [jR,Cx.yN]
 have nl:l≠d:=fun z=>by
  obtain ⟨x0,ed⟩:=hd
  rw [z,ed] at hl
  have q:=congrArg List.length (HO.lst.inj (Option.some.inj hl))
  rw [List.length_map,hns.l] at q
  exact absurd q (by show ¬ 2=8;decide)
 refine ⟨(Nat.zero_le _),fun S hS=>?_⟩
 have s1:=new (o:=.lst []) hS
 refine ⟨(Nat.zero_le _),fun W hW=>?_⟩
 have s2:=new (o:=.lst []) hW
 have nS:S≠d:=hd.ne hS
 have fW:H W=none:=mG s1 hW
 have nW:W≠d:=hd.ne fW
 have nSW:S≠W:=aq af hW
 refine (cV rfl ⟨(m:Int),rfl,by omega,by omega,LJ (n:=(m:Int).toNat) (fun i σ H'=>∃ (a6 a7 a8:Option V) (w1:Addr) (us:List V) (ss:List aI) (n1:Nat),σ=[some (.ref d),some (.ref l),some (.int (m:Int)),some (.int (deep:Int)),some (.ref S),some (.ref w1),a6,a7,a8]∧a5O d S (upd (upd H S (.lst [])) W (.lst [])) H'∧zp H' d n1∧(n0≤n1∧n1≤n0+i*Mh deep)∧H' S=some (.lst us)∧bE Y H' ss us∧H' w1=some (.lst ((iN ss).map V.str))∧H w1=none∧w1≠S∧ss.length=i∧dZ (baseOf ns) ss∧∀ s∈ss,n8 deep n1 s) ⟨none,none,none,W,[],[],n0,rfl,fun _ _ z _ _=>z,(hd.same s1).same s2,by omega,s2 _ _ af,(by unfold bE;rfl),af,fW,nSW.symm,rfl,(by unfold dZ;trivial),fun _ h=>absurd h List.not_mem_nil⟩ ?_ ?_⟩)
 ·rintro i σ H' hi ⟨a6,a7,a8,w1,us,ss,n1,rfl,but,dr,ln,eS,hst,ew,fw,nws,len,od,lay⟩
  have hl':H' l=some (.lst (ns.map V.str)):=but _ _ ((s1.trans s2) _ _ hl) nl (aq hl hS)
  refine (cV rfl (cV rfl (cV rfl ⟨d,l,n1,deep,ns,rfl,hk,h3,dr,hl',hns,?_⟩)))
  intro r p wl s n2 H2 b2 d2 ln2 er hs ewl fwl ods a2n
  have k2:=dr.soft b2
  have eS2:=b2 _ _ eS nS
  have nw1:w1≠d:=hd.ne fw
  have ew2:=b2 _ _ ew nw1
  refine ⟨r,cV rfl ⟨bG.of er,rfl,_,cV rfl ⟨_,cV rfl ⟨rfl,?_⟩⟩⟩⟩
  have lus:=fQ hst
  refine (cV rfl ⟨.inl ⟨rfl,_,bH.of eS2⟩,cV rfl ⟨S,us,cV rfl ⟨rfl,eS2,line _ (by omega),?_⟩⟩⟩)
  have kS:aD H2 (upd H2 S (.lst (us++[.ref p]))):=aD.soft aR.upd eS2 eV
  have nwl:wl≠S:=(aq eS fwl).symm
  have lw:=wN od
  have wm9:EA deep≤9:=by unfold EA;split <;> decide
  have lwi:(dR ss).length≤27:=by have:=(xS lay (by omega)).w;omega
  have l9:((s.wi.map Af).flatten).length≤18:=by
   have q:=wN (l:=[s]) (by unfold dZ;exact ⟨ods,by unfold dZ;trivial⟩)
   have e1:dR [s]=s.wi:=by unfold dR;rw [show dR []=[] by unfold dR;rfl,List.append_nil]
   unfold iN at q
   rw [e1] at q
   have:=a2n.w
   omega
  refine (cV rfl (cV rfl ⟨w1,wl,_,cV rfl ⟨rfl,(by rw [aL nws];exact ew2),(by rw [aL nwl];exact ewl),Nat.le_of_lt (line _ (by rw [List.length_map,List.length_map];omega)),fun W2 ZE=>?_⟩⟩))
  rw [← List.map_append,← MV]
  have sW:=new (o:=.lst ((iN (ss++[s])).map V.str)) ZE
  have kA:=(k2.trans kS).trans (aD.of sW)
  have nW2:W2≠S:=(aq af ZE).symm
  refine ⟨_,_,_,W2,us++[.ref p],ss++[s],n2,rfl,?_,(by obtain ⟨x,ex⟩:=d2;exact ⟨x,sW _ _ (by rw [aL nS.symm];exact ex)⟩),?_,sW _ _ af,Cr (hst.aE kA) ((hs.aE kS).aE (aD.of sW)),af,?_,nW2,by rw [List.length_append,len];rfl,zJ od ods,fun z hz=>?_⟩
  ·intro c o e n1' n2'
   refine sW _ _ ?_
   rw [aL n2']
   exact b2 _ _ (but _ _ e n1' n2') n1'
  ·rw [Nat.succ_mul];omega
  ·cases e:H W2 with
   | none=>rfl
   | some o =>
    have nd:W2≠d:=fun z=>by rw [z,aL nS.symm] at ZE;obtain ⟨x,ex⟩:=d2;rw [ex] at ZE;cases ZE
    rw [aL nW2,b2 _ _ (but _ _ ((s1.trans s2) _ _ e) nd nW2) nd] at ZE
    cases ZE
  ·rcases List.mem_append.mp hz with q | q
   ·exact (lay z q).mono ln2.1
   ·rw [List.mem_singleton.mp q];exact a2n
 ·rintro σ H' ⟨a6,a7,a8,w1,us,ss,n1,rfl,but,dr,ln,eS,hst,ew,fw,nws,len,od,lay⟩
  refine (cV rfl (cV rfl ⟨szl 2,fun t9 yY=>?_⟩))
  have s9:=new (o:=.tup [.ref S,.ref w1]) yY
  refine k t9 S w1 us ss n1 _ ?_ (dr.same s9) (by rw [show (m:Int).toNat=m from Int.toNat_natCast m] at ln;exact ln) af (s9 _ _ eS) hS (hst.aE (aD.of s9)) (s9 _ _ ew) fw (by rw [len];exact Int.toNat_natCast m) od lay
  intro c o e nc
  exact s9 _ _ (but _ _ ((s1.trans s2) _ _ e) nc (aq e hS))
abbrev iS:Stmt:=top 75
theorem ve:az ["_law_name","_law_many","_law_answers"] ["_law_name","_law_many"] (ai iS):=dB
theorem CW  (F:ck K "_law_callee" "_law_callee" iS f fd) (T:Txt K mg Y.z.s) (J:dI K mg Y fS Db Bk) (Q5:Mr P w K mg base 2 Y.hp ["self","at","name","params","answers","needs","gives","steps"] (HR Y)):aM P w K mg base bP 4 f fd ["_law_name","_law_many"] (zD Y):=by
 obtain ⟨QL,LO,mw,Ca,lZ⟩:=Q5
 refine F.dY ve fun vs H Q E h=>?_
 obtain ⟨x,j,rfl,hj,k⟩:=h
 refine ⟨rfl,fun _ _ _ _ hr=>?_⟩
 rw [show aj iS=[_,_] from rfl]
 refine ⟨_,(ak (aO (i:=2) ve.nd rfl (Or.inl rfl) (mE wo (bC (aa aZ (aa aZ ah))) wz (lJ (pv 1))))
   (ao (aG (br Ca mw hr.m rfl J.mgH lZ .nil av (aa aH (aa (pv 0) (aa (aJ (aa aZ ah)) (aa (pv 2) (aa (aJ ah) (aa (aJ ah) (aa (bC ah) ah))))))))))),?_⟩
 refine ⟨szl 2,fun A0 hA0=>?_⟩
 have s0:=new (o:=.lst [.str "ya",.str "yb"]) hA0
 refine (cV rfl ⟨(j:Int),rfl,A0,cV rfl ⟨bH.of af,fun A1 hA1=>?_⟩⟩)
 have ec:Jr [V.str "ya",V.str "yb"] none (some (j:Int))=((["ya","yb"]:List Str).take j).map V.str:=by
  match j,hj with
  | 0,_=>rfl
  | 1,_=>rfl
  | 2,_=>rfl
 rw [ec]
 have s1:=s0.trans (new (o:=.lst (((["ya","yb"]:List Str).take j).map V.str)) hA1)
 refine (cV rfl ⟨szl 1,fun p1 hp1=>?_⟩)
 have s2:=s1.trans (new (o:=.tup [.str "xa"]) hp1)
 refine (cV rfl ⟨Nat.zero_le _,fun p2 hp2=>?_⟩)
 have s3:=s2.trans (new (o:=.tup []) hp2)
 refine ⟨Nat.zero_le _,fun p3 hp3=>?_⟩
 have s4:=s3.trans (new (o:=.tup []) hp3)
 refine ⟨Nat.zero_le _,fun p4 Zw=>?_⟩
 have s5:=s4.trans (new (o:=.lst []) Zw)
 intro x2 eO gm eX ne2
 have s6:=aV (o:=.own x2) (o':=.ins Y.hp eO []) gm eX
 have f4:=s6
 refine ⟨x2,eO,p1,A1,p2,p3,p4,0,x,["xa"],(["ya","yb"]:List Str).take j,[],rfl,af,.inl (s6 _ _ (new Zw _ _ (new hp3 _ _ (new hp2 _ _ af)))),.inr (s6 _ _ (new Zw _ _ (new hp3 _ _ (new hp2 _ _ (new hp1 _ _ af))))),s6 _ _ (new Zw _ _ (new hp3 _ _ af)),s6 _ _ (new Zw _ _ af),s6 _ _ af,fun t1 t2 t3 t4 t5 H7 mQ e7 h1 h2 h3 h4 h5=>⟨rfl,?_⟩⟩
 have sZ:aK H H7:=fun b' o' e'=>mQ _ _ (s6 _ _ (s5 _ _ e')) (aq (s5 _ _ e') gm)
 refine k x2 ((["ya","yb"]:List Str).take j) H7 sZ (by rw [List.length_take];show min j 2=j;omega) ?_
 exact ⟨x2,eO,t1,t2,.ref t3,.ref t4,t5,[],rfl,e7,h1,h2,⟨t3,[],rfl,h3,Nat.zero_le _,.nil⟩,⟨t4,[],rfl,h4,Nat.zero_le _,.nil⟩,h5,Nat.zero_le _,(by unfold bE;rfl)⟩
abbrev iR:Stmt:=top 76
theorem oK:az ["_law_params","_law_things","_law_rows","_law_thing"] ["_law_params","_law_things"] (ai iR):=dB
theorem CV  (F:ck K "_law_wanted" "_law_wanted" iR f fd) (T:Txt K mg Y.z.s) (J:dI K mg Y fS Db Bk) :aM P w K mg base bP 2 f fd ["_law_params","_law_things"] zC:=by
 refine F.dY oK fun vs H Q E h=>?_
 obtain ⟨l,m,xs,ys,rfl,hl,hm,hz,hc,hlen,k⟩:=h
 refine ⟨rfl,fun _ _ _ _ hr=>?_⟩
 rw [show aj iR=[_,_,_] from rfl]
 refine ⟨_,(ak (aO (i:=2) oK.nd rfl (Or.inl rfl) (bC ah))
   (ak (dm PassesOwn.never rfl (gf (aT xB (pv 0) (pv 1))) (aN (i:=3) oK.nd rfl (Or.inl rfl)) (ak (bB (fO PySem.F.plainAttrs_list PySem.F.slot_list_append PySem.F.type_list_append iZ (pv 2) (aa (aJ (aa aZ (aa (pv 3) ah))) ah)))
   (ao (cA (bJ kr (fY IZ (pv 3) aH (fun _ _=>rfl)) aZ (bM _)) (ao (bB (fO PySem.F.plainAttrs_list PySem.F.slot_list_append PySem.F.type_list_append iZ (pv 2) (aa (aJ (aa aZ (aa (aJ (aa aZ (aa (aJ (aa (aJ ah) (aa aH ah))) (aa aZ (aa (aJ (aa (aJ (aa (aJ (aa (pv 3) (aa aH ah))) ah)) (aa aH ah))) ah))))) ah))) ah)))) bh))))
   (ao (aG (pv 2))))),?_⟩
 refine ⟨(Nat.zero_le _),fun F hF=>?_⟩
 have sF:=new (o:=.lst []) hF
 refine (cV rfl (cV rfl ⟨l,m,_,cV rfl ⟨rfl,sF _ _ hl,sF _ _ hm,Nat.le_of_lt (line _ (by rw [List.length_map,List.length_map];omega)),fun L hL=>?_⟩⟩))
 rw [← List.map_append]
 have sL:=new (o:=.lst ((xs++ys).map V.str)) hL
 have Zf:L≠F:=(aq af hL).symm
 refine ⟨L,rfl,⟨_,bH.of af⟩,fJ (xs:=(xs++ys).map V.str) (fun i σ H'=>∃ (a3:Option V) (us:List V),σ=[some (.ref l),some (.ref m),some (.ref F),a3]∧aR F (upd (upd H F (.lst [])) L (.lst ((xs++ys).map V.str))) H'∧H' F=some (.lst us)∧Paired (p8 H') us ((((xs++ys).take i).map gR).flatten)) ⟨none,[],rfl,fun _ _ z _=>z,sL _ _ af,.nil⟩ ?_ ?_ ?_⟩
 ·rintro i σ H' _ ⟨a3,us,rfl,but,_⟩
  exact bH.of (but _ _ af Zf)
 ·rintro i v σ H' hiv ⟨a3,us,rfl,but,eF,pu⟩
  obtain ⟨y,hy,rfl⟩:=jV hiv
  obtain ⟨c,r,ecp⟩:=hc y (List.mem_of_getElem? hy)
  have TX:=(List.getElem?_eq_some_iff.mp hy).1
  have lu:=bI pu
  have l2:=ud ((xs++ys).take i)
  rw [List.length_take] at l2
  rw [List.length_append] at TX
  refine (cV rfl ⟨.inl ⟨rfl,_,bH.of eF⟩,cV rfl ⟨szl 2,fun t1 ht1=>?_⟩⟩)
  have s1:=new (o:=.tup [.str "any",.str y]) ht1
  refine ⟨F,us,cV rfl ⟨rfl,s1 _ _ eF,line _ (by omega),?_⟩⟩
  have k1:aD H' (upd (upd H' t1 (.tup [.str "any",.str y])) F (.lst (us++[.ref t1]))):=(aD.of s1).trans (aD.soft aR.upd (s1 _ _ eF) eV)
  have b1:aR F H' (upd (upd H' t1 (.tup [.str "any",.str y])) F (.lst (us++[.ref t1]))):=(aR.of s1).trans aR.upd
  have e1:(upd (upd H' t1 (.tup [.str "any",.str y])) F (.lst (us++[.ref t1]))) F=some (.lst (us++[.ref t1])):=af
  have nt:t1≠F:=(aq eF ht1).symm
  have et1:(upd (upd H' t1 (.tup [.str "any",.str y])) F (.lst (us++[.ref t1]))) t1=some (.tup [.str "any",.str y]):=by rw [aL nt];exact af
  generalize upd (upd H' t1 (.tup [.str "any",.str y])) F (.lst (us++[.ref t1]))=H2 at k1 b1 e1 et1 ⊢
  have zi:y.length≤sizeLine:=hlen y (List.mem_of_getElem? hy)
  refine (cV rfl ⟨y,0,c,rfl,rfl,zi,(by rw [ecp];exact tQ (xs:=c::r) (j:=0) rfl),rfl,cV rfl ?_⟩)
  have tk:((((xs++ys).take (i+1)).map gR).flatten)=((((xs++ys).take i).map gR).flatten)++gR y:=by rw [take_snoc hy,List.map_append,List.flatten_append];simp
  have pu2:=L2.Paired.lT pu fun _ _ z=>p8.aE k1 z
  by_cases h35:c=35
  ·refine mH (by rw [h35];rfl) ?_
   refine (cV rfl ⟨.inl ⟨rfl,_,bH.of e1⟩,Nat.zero_le _,fun z0 h0=>?_⟩)
   have q0:=new (o:=.tup []) h0
   refine ⟨szl 2,fun z1 h1=>?_⟩
   have q1:=new (o:=.tup [.ref z0,.int 0]) h1
   refine (cV rfl ⟨szl 2,fun z2 h2=>?_⟩)
   have q2:=new (o:=.tup [.str y,.int 1]) h2
   refine ⟨szl 1,fun z3 h3=>?_⟩
   have q3:=new (o:=.tup [.ref z2]) h3
   refine ⟨szl 2,fun z4 h4=>?_⟩
   have q4:=new (o:=.tup [.ref z3,.int 0]) h4
   refine ⟨szl 4,fun z5 h5=>?_⟩
   have q5:=new (o:=.tup [.str "compare",.ref z1,.str "<=",.ref z4]) h5
   refine ⟨szl 2,fun z6 h6=>?_⟩
   have q6:=new (o:=.tup [.str "hold",.ref z5]) h6
   have d4:=q5.trans q6
   have d3:=q4.trans d4
   have d2:=q3.trans d3
   have d1:=q2.trans d2
   have d0:=q1.trans d1
   have dA:=q0.trans d0
   have f0:=d0 _ _ (af (H:=H2) (a:=z0) (o:=.tup []))
   have f1:=d1 _ _ af
   have f2:=d2 _ _ af
   have f3:=d3 _ _ af
   have f4:=d4 _ _ af
   have f5:=q6 _ _ af
   have f6:=af (H:=upd (upd (upd (upd (upd (upd H2 z0 (.tup [])) z1 (.tup [.ref z0,.int 0])) z2 (.tup [.str y,.int 1])) z3 (.tup [.ref z2])) z4 (.tup [.ref z3,.int 0])) z5 (.tup [.str "compare",.ref z1,.str "<=",.ref z4])) (a:=z6) (o:=.tup [.str "hold",.ref z5])
   generalize upd (upd (upd (upd (upd (upd (upd H2 z0 (.tup [])) z1 (.tup [.ref z0,.int 0])) z2 (.tup [.str y,.int 1])) z3 (.tup [.ref z2])) z4 (.tup [.ref z3,.int 0])) z5 (.tup [.str "compare",.ref z1,.str "<=",.ref z4])) z6 (.tup [.str "hold",.ref z5])=H3 at dA f0 f1 f2 f3 f4 f5 f6 ⊢
   refine ⟨F,_,cV rfl ⟨rfl,dA _ _ e1,line _ (by rw [List.length_append];show us.length+1≤100000;omega),?_⟩⟩
   have k3:aD H3 (upd H3 F (.lst (us++[.ref t1]++[.ref z6]))):=aD.soft aR.upd (dA _ _ e1) eV
   refine ⟨some (.str y),cV rfl ⟨(but.trans b1).trans ((aR.of dA).trans aR.upd),af,?_⟩⟩
   rw [tk]
   have:gR y=[.any y,.hold (geZ y)]:=by unfold gR;rw [if_pos (by rw [qk ecp,decide_eq_true h35])]
   rw [this,show (((xs++ys).take i).map gR).flatten++[Tl.any y,.hold (geZ y)]=(((xs++ys).take i).map gR).flatten++[Tl.any y]++[.hold (geZ y)] by simp]
   have kA:=(aD.of dA).trans k3
   refine dP (dP (L2.Paired.lT pu2 fun _ _ z=>p8.aE kA z) ⟨t1,rfl,kA.t _ _ et1⟩) ⟨z6,.ref z5,rfl,k3.t _ _ f6,?_⟩
   unfold geZ fE
   exact ⟨z5,z1,z4,rfl,k3.t _ _ f5,⟨z0,k3.t _ _ f1,[],k3.t _ _ f0,.nil⟩,⟨z3,k3.t _ _ f4,[.ref z2],k3.t _ _ f3,.cons ⟨z2,rfl,k3.t _ _ f2⟩ .nil⟩⟩
  ·refine oq (fun z=>h35 ?_) ?_
   ·have z:=V.str.inj z
    have z2:(#[c]:Array Nat)=#[35]:=congrArg Str.cps z
    injection z2 with z3
    injection z3
   ·refine ⟨some (.str y),us++[.ref t1],rfl,but.trans b1,e1,?_⟩
    rw [tk]
    have:gR y=[.any y]:=by unfold gR;rw [if_neg (by rw [qk ecp,decide_eq_false h35];decide)]
    rw [this]
    exact dP pu2 ⟨t1,rfl,et1⟩
 ·rintro σ H' ⟨a3,us,rfl,but,eF,pu⟩
  rw [List.length_map,List.take_length] at pu
  exact (cV rfl (k F us H' (fun b' o' e'=>but _ _ (sL _ _ (sF _ _ e')) (aq e' hF)) hF eF pu))
abbrev yU:Stmt:=top 77
theorem iw:az ["_law_script","_law_draw","_law_names_here","_law_params","_law_body","_law_wrote","_law_condition","_law_steps_here","_law_helpers","_law_program","_law_found","_law_rows_told","_law_row","_law_due"] ["_law_script"] (ai yU):=dB
theorem YX  (F:ck K "law" "law" yU f fd) (T:Txt K mg Y.z.s) (J:dI K mg Y fS Db Bk) (DU:Dn P w K mg base 2 "_law_cell_at" ["_law_script","_law_k"] (HS K)) (Mc:Dn P w K mg base 3 "_law_names" ["_law_draw","_law_many"] CA) (pe:Dn P w K mg base 2 "_law_next" ["_law_draw","_law_size"] wg) (Jl:Dn P w K mg base 13 "_law_steps" ["_law_draw","_law_names_here","_law_many","_law_deep"] (jU Y 3)) (pA:Dn P w K mg base 5 "_law_compare" ["_law_name"] (Am Y)) (Q4:Mr P w K mg base 2 Y.rp ["self","at","condition","keeps","falls","body"] (HP Y)) (a3C:Mr P w K mg base 2 (fc Y 5) ["self","at","condition"] (Vf Y 5)) (Jm:Dn P w K mg base 4 "_law_callee" ["_law_name","_law_many"] (zD Y)) (Q5:Mr P w K mg base 2 Y.hp ["self","at","name","params","answers","needs","gives","steps"] (HR Y)) (a3w:Mr P w K mg base 1 Y.pg ["self","helpers"] (Vc Y)) (Q7:Dn P w K mg base 56 "debts" ["program","name"] (exN fun N=>rP N Y Db 6)) (Ut:Mt P w K mg base 2 Y.z.c "told" ["self"] (Vj Y.z)) (Jk:Dn P w K mg base 2 "_law_wanted" ["_law_params","_law_things"] zC) (BP:Mt P w K mg base 3 Y.z.c "opposite" ["self"] (exN fun N=>CD N Y.z)):aM P w K mg base bP 60 f fd ["_law_script"] (J3 K):=by
 obtain ⟨VG,T9,El,Bh,Bq,D5⟩:=DU
 obtain ⟨a01,Z4,Mz,IF,IV,Mq⟩:=Mc
 obtain ⟨DM,zP,cY,bX,bY,cX⟩:=pe
 obtain ⟨LR,Je,pZ,nB,nI,pY⟩:=Jl
 obtain ⟨DN,BF,jC,iD,iF,jz⟩:=pA
 obtain ⟨QK,LN,mj,B0,lY⟩:=Q4
 obtain ⟨a7Y,a2R,Ce,a0G,BX⟩:=a3C
 obtain ⟨a0b,VC,rE,oS,oY,rB⟩:=Jm
 obtain ⟨QL,LO,mw,Ca,lZ⟩:=Q5
 obtain ⟨a05,Z8,yE,Rk,yu⟩:=a3w
 obtain ⟨a7V,a2O,UU,Pc,Pu,UD⟩:=Q7
 obtain ⟨a7W,a2P,K9,Ko,K7⟩:=Ut
 obtain ⟨a0a,VB,JF,Di,Dy,Ju⟩:=Jk
 obtain ⟨vB,tE,jD,jv,jA⟩:=BP
 refine F.dY iw fun vs H Q E h=>?_
 obtain ⟨a,ns0,rfl,hS,hl,k⟩:=h
 refine ⟨rfl,fun _ _ _ _ hr=>?_⟩
 rw [show aj yU=[_,_,_,_,_,_,_,_,_,_,_,_,_,_,_] from rfl]
 refine ⟨_,ak (aO (i:=1) iw.nd rfl (Or.inl rfl) (bC (aa (au El hr.m rfl Bh Bq D5 .nil av (aa (pv 0) (aa aH ah))) (aa aH ah)))) fT,?_⟩
 refine (cV rfl ⟨a,ns0,0,rfl,hS,fun r0=>?_⟩)
 refine ⟨szl 2,fun d hd0=>?_⟩
 have D0:zp (upd H d (.lst [.int r0,.int 0])) d 0:=⟨r0,af⟩
 refine ⟨_,ak (aO (i:=2) iw.nd rfl (Or.inl rfl) (au Mz hr.m rfl IF IV Mq .nil av (aa (pv 1) (aa aH ah)))) fT,?_⟩
 refine (cV rfl ⟨d,0,rfl,D0,fun l ns n1 H1 b1 d1 ln1 fl el hl8 hw8=>?_⟩)
 have hns:yx ns:=⟨hl8,hw8⟩
 have nl:l≠d:=D0.ne fl
 obtain ⟨n2,hn2,an2⟩:=yv hns (j:=2) (by decide)
 obtain ⟨n3,hn3,an3⟩:=yv hns (j:=3) (by decide)
 obtain ⟨n6,hn6,an6⟩:=yv hns (j:=6) (by decide)
 have r6:=wF hns hn6 (by decide)
 have m2:=(pT hns hn2 (by decide)).1
 have m3:=(pT hns hn3 (by decide)).1
 refine ⟨_,ak (aO (i:=3) iw.nd rfl (Or.inl rfl) (mE wo (pv 2) wz (lJ (au cY hr.m rfl bX bY cX .nil av (aa (pv 1) (aa aH ah)))))) fT,?_⟩
 refine (cV rfl (cV rfl ⟨d,3,n1,rfl,d1,(by decide),fun r3 H2 Ky b2 d2=>?_⟩))
 have el2:=b2 _ _ el nl
 refine ⟨(r3:Int),rfl,l,cV rfl ⟨bH.of el2,fun Pa hP=>?_⟩⟩
 rw [Za hns (show r3≤2 by omega)]
 have s3:=new (o:=.lst ((ns.take r3).map V.str)) hP
 have nP:Pa≠d:=d2.ne hP
 have nlP:l≠Pa:=aq el2 hP
 have e3:(upd H2 Pa (.lst ((ns.take r3).map V.str))) Pa=some (.lst ((ns.take r3).map V.str)):=af
 have d3:=d2.same s3
 have el3:=s3 _ _ el2
 generalize upd H2 Pa (.lst ((ns.take r3).map V.str))=H3 at e3 d3 el3 ⊢
 have lt3:(ns.take r3).length=r3:=by rw [List.length_take,hl8];omega
 refine ⟨_,ak (bB (fO PySem.F.plainAttrs_list PySem.F.slot_list_insert PySem.F.type_list_insert Lu (pv 3) (aa (au cY hr.m rfl bX bY cX .nil av (aa (pv 1) (aa (aT jF (aX dQ (by rfl) T.len PySem.boot_len (aa (pv 3) ah)) aH) ah))) (aa (aT gO aZ (fY eN (pv 2) aH (fun _ _=>rfl))) ah)))) fT,?_⟩
 refine (cV rfl ⟨.inl ⟨rfl,_,bH.of e3⟩,cV rfl (cV rfl ⟨Pa,cV rfl ⟨.inl (bH.of e3),_,cV rfl ⟨rfl,d,_,n1+1,rfl,d3,(by omega),fun r4 H4 hr4 b4 d4=>?_⟩⟩⟩)⟩)
 have e4:=b4 _ _ e3 nP
 have el4:=b4 _ _ el3 nl
 rw [List.length_map,lt3] at hr4
 refine (cV rfl (cL (bH.of el4) an6 ⟨_,cV rfl ⟨rfl,Nat.le_of_lt (line _ (by rw [show ("#":Str).length=1 by decide +kernel];have:=r6.2;omega)),Pa,_,(r4:Int),r4,cV rfl ⟨rfl,rfl,e4,(by rw [List.length_map,lt3];omega),line _ (by rw [List.length_map,lt3];omega),?_⟩⟩⟩))
 rw [show TV ((ns.take r3).map V.str) r4 (V.str (("#":Str)++n6))=_ from ins_map (ns.take r3) r4 _]
 have pk:=a1M hns hn6 (m:=r3) (j:=r4) (by omega)
 generalize (ns.take r3).take r4++[("#":Str)++n6]++(ns.take r3).drop r4=ps at pk ⊢
 have e5:(upd H4 Pa (.lst (ps.map V.str))) Pa=some (.lst (ps.map V.str)):=af
 have el5:(upd H4 Pa (.lst (ps.map V.str))) l=some (.lst (ns.map V.str)):=by rw [aL nlP];exact el4
 have d5:zp (upd H4 Pa (.lst (ps.map V.str))) d (n1+2):=by obtain ⟨z,ez⟩:=d4;exact ⟨z,by rw [aL nP.symm];exact ez⟩
 generalize upd H4 Pa (.lst (ps.map V.str))=H5 at e5 el5 d5 ⊢
 show Aj _ _ _ [some (.ref a),some (.ref d),some (.ref l),some (.ref Pa),none,none,none,none,none,none,none,none,none,none] H5
 refine ⟨_,ak (AB (au pZ hr.m rfl nB nI pY .nil av (aa (pv 1) (aa (pv 2) (aa (au cY hr.m rfl bX bY cX .nil av (aa (pv 1) (aa aH ah))) (aa aH ah))))) (lQ rfl (bq (aN (i:=4) iw.nd rfl (Or.inl rfl)) (bq (aN (i:=5) iw.nd rfl (Or.inl rfl)) fU)))) fT,?_⟩
 refine (cV rfl (cV rfl (cV rfl ⟨d,4,n1+2,rfl,d5,(by decide),fun r7 H6 hr7 b6 d6=>?_⟩)))
 have el6:=b6 _ _ el5 nl
 have e6:=b6 _ _ e5 nP
 refine ⟨d,l,n1+2+1,2,r7,ns,rfl,by decide,by decide,by omega,d6,el6,hns,?_⟩
 intro rr B W us ss n7 H7 b7 d7 ln7 er eB fB hst eW fW len od lay
 have el7:=b7 _ _ el6 nl
 have e7:=b7 _ _ e6 nP
 refine ⟨rr,cV rfl ⟨bG.of er,rfl,_,cV rfl ⟨_,cV rfl ⟨rfl,?_⟩⟩⟩⟩
 have ll:ss.length≤3:=by omega
 have lm:n7≤300:=by
  have:r7*Mh 2≤3*53:=Nat.mul_le_mul (by omega) (Nat.le_refl 53)
  omega
 clear b6 b7 d6 d5 d4 d3 d2 d1 D0 b1 b2 b4 e6 e5 e4 e3 el6 el5 el4 el3 el2 el hl8 er s3
 show Aj _ _ _ [some (.ref a),some (.ref d),some (.ref l),some (.ref Pa),some (.ref B),some (.ref W),none,none,none,none,none,none,none,none] H7
 refine ⟨_,ak (aO (i:=6) iw.nd rfl (Or.inl rfl) (au jC hr.m rfl iD iF jz .nil av (aa (fY eN (pv 2) aH (fun _ _=>rfl)) ah))) fT,?_⟩
 refine (cV rfl (cL (bH.of el7) an2 ⟨n2,rfl,fun pc H8 s8 c8=>?_⟩))
 show Aj _ _ _ [some (.ref a),some (.ref d),some (.ref l),some (.ref Pa),some (.ref B),some (.ref W),some (.ref pc),none,none,none,none,none,none,none] H8
 refine ⟨_,ak (aO (i:=7) iw.nd rfl (Or.inl rfl) (bC (aa (br B0 mj hr.m rfl J.mg8 lY .nil av (aa aH (aa (pv 6) (aa (aJ ah) (aa uz (aa (pv 4) ah)))))) (aa (br a0G Ce hr.m rfl J.mg5 BX .nil av (aa aH (aa (au jC hr.m rfl iD iF jz .nil av (aa (fY eN (pv 2) aH (fun _ _=>rfl)) ah)) ah))) ah)))) fT,?_⟩
 refine (cV rfl ⟨Nat.zero_le _,fun tk htk=>?_⟩)
 have s9:=new (o:=.tup []) htk
 refine (cV rfl (fun x2 eO gm eX ne2=>?_))
 have m9:=aV (o:=.own x2) (o':=.ins Y.rp eO []) gm eX
 refine ⟨x2,eO,tk,B,5000,.ref pc,us,rfl,af,m9 _ _ af,m9 _ _ (s9 _ _ (s8 _ _ eB)),fun u1 u2 HA a5l eA eu1 eu2=>⟨rfl,?_⟩⟩
 have sA:aK H8 HA:=fun b' o' e'=>a5l _ _ (m9 _ _ (s9 _ _ e')) (aq (s9 _ _ e') gm)
 refine (cV rfl (cL (bH.of (sA _ _ (s8 _ _ el7))) an3 ⟨n3,rfl,fun pc3 HB sB cB=>?_⟩))
 intro x3 dx3 hx3 b9g ne3
 have mB:=aV (o:=.own x3) (o':=.ins Y.cm dx3 []) hx3 b9g
 refine ⟨x3,dx3,6000,.ref pc3,rfl,af,fun HC a5k eC=>⟨rfl,?_⟩⟩
 have sC:aK HB HC:=fun b' o' e'=>a5k _ _ (mB _ _ e') (aq e' hx3)
 refine ⟨szl 2,fun LS hLS=>?_⟩
 have sD:=new (o:=.lst [.ref x2,.ref x3]) hLS
 have Yo:=(sB.trans sC).trans sD
 have s7D:=(s8.trans sA).trans Yo
 have lu:=fQ hst
 have hsD:bE Y (upd HC LS (.lst [.ref x2,.ref x3])) (mF (lW n2) (lW n3) ss) [.ref x2,.ref x3]:=by
  unfold mF bE
  refine ⟨_,cV rfl ⟨?_,?_⟩⟩
  ·unfold bO
   exact ⟨x2,eO,.ref pc,.ref u1,.fP,u2,us,rfl,Yo _ _ eA,c8.aE (aD.of (sA.trans Yo)),⟨u1,[],rfl,Yo _ _ eu1,Nat.zero_le _,.nil⟩,rfl,Yo _ _ eu2,by omega,hst.aE (aD.of s7D)⟩
  ·unfold bE
   refine ⟨_,cV rfl ⟨?_,by unfold bE;rfl⟩⟩
   unfold bO
   exact ⟨x3,dx3,cV rfl ⟨⟨_,rfl⟩,sD _ _ eC,.cons (cB.aE (aD.of (sC.trans sD))) .nil⟩⟩
 have eLS:(upd HC LS (.lst [.ref x2,.ref x3])) LS=some (.lst [.ref x2,.ref x3]):=af
 have eP:=s7D _ _ e7
 have LU:=s7D _ _ eW
 have cD:=c8.aE (aD.of (sA.trans Yo))
 generalize upd HC LS (.lst [.ref x2,.ref x3])=HD at hsD eLS eP LU cD ⊢
 clear s7D Yo sD sC sB sA s8 s9 m9 mB a5l a5k
 show Aj _ _ _ [some (.ref a),some (.ref d),some (.ref l),some (.ref Pa),some (.ref B),some (.ref W),some (.ref pc),some (.ref LS),none,none,none,none,none,none] HD
 refine ⟨_,ak (aO (i:=8) iw.nd rfl (Or.inl rfl) (bC (aa (au rE hr.m rfl oS oY rB .nil av (aa aZ (aa aH ah))) (aa (au rE hr.m rfl oS oY rB .nil av (aa aZ (aa aH ah))) (aa (au rE hr.m rfl oS oY rB .nil av (aa aZ (aa aH ah))) ah))))) fT,?_⟩
 refine ⟨"none",0,rfl,by decide,fun h0 an0 HE sE la0 at0=>?_⟩
 refine ⟨"one",1,rfl,by decide,fun h1 an1 HF sF la1 at1=>?_⟩
 refine ⟨"two",2,rfl,by decide,fun h2 c6l HG sG la2 at2=>?_⟩
 refine ⟨szl 3,fun LH hLH=>?_⟩
 have sH:=new (o:=.lst [.ref h0,.ref h1,.ref h2]) hLH
 have sDH:=((sE.trans sF).trans sG).trans sH
 have a0x:=at0.aE (aD.of ((sF.trans sG).trans sH))
 have a0w:=at1.aE (aD.of (sG.trans sH))
 have a0v:=at2.aE (aD.of sH)
 have eLH:(upd HG LH (.lst [.ref h0,.ref h1,.ref h2])) LH=some (.lst [.ref h0,.ref h1,.ref h2]):=af
 replace hsD:=hsD.aE (aD.of sDH)
 replace eLS:=sDH _ _ eLS
 replace eP:=sDH _ _ eP
 replace LU:=sDH _ _ LU
 replace cD:=cD.aE (aD.of sDH)
 generalize upd HG LH (.lst [.ref h0,.ref h1,.ref h2])=HI at hsD eLS eP LU cD a0x a0w a0v eLH ⊢
 clear sDH sE sF sG sH at0 at1 at2
 show Aj _ _ _ [some (.ref a),some (.ref d),some (.ref l),some (.ref Pa),some (.ref B),some (.ref W),some (.ref pc),some (.ref LS),some (.ref LH),none,none,none,none,none] HI
 refine ⟨_,ak (aO (i:=9) iw.nd rfl (Or.inl rfl) (br Rk yE hr.m rfl J.mgP yu .nil av (aa (aT xB (pv 8) (bC (aa (br Ca mw hr.m rfl J.mgH lZ .nil av (aa aH (aa aZ (aa (pv 3) (aa (aJ ah) (aa (aJ ah) (aa (aJ ah) (aa (pv 7) ah)))))))) ah))) ah))) fT,?_⟩
 refine (cV rfl (cV rfl ⟨Nat.zero_le _,fun ta hta=>?_⟩))
 have t1:=new (o:=.tup []) hta
 refine ⟨Nat.zero_le _,fun tb htb=>?_⟩
 have t2:=new (o:=.tup []) htb
 refine ⟨Nat.zero_le _,fun tc htc=>?_⟩
 have t3:=new (o:=.tup []) htc
 have t13:=(t1.trans t2).trans t3
 refine (cV rfl (fun x4 dx4 hx4 b9f ne4=>?_))
 have m4:=aV (o:=.own x4) (o':=.ins Y.hp dx4 []) hx4 b9f
 refine ⟨x4,dx4,Pa,ta,tb,tc,LS,1,"main",ps,[],[.ref x2,.ref x3],rfl,af,.inr (m4 _ _ (t13 _ _ eP)),.inl (m4 _ _ (t3 _ _ (t2 _ _ af))),m4 _ _ (t3 _ _ af),m4 _ _ af,m4 _ _ (t13 _ _ eLS),fun v1 v2 v3 v4 v5 HJ a5j eJ ev1 ev2 ev3 ev4 ev5=>⟨rfl,?_⟩⟩
 have sJ:aK HI HJ:=fun b' o' e'=>a5j _ _ (m4 _ _ (t13 _ _ e')) (aq (t13 _ _ e') hx4)
 refine ⟨szl 1,fun L4 hL4=>?_⟩
 have s4:=new (o:=.lst [.ref x4]) hL4
 refine ⟨LH,L4,_,cV rfl ⟨rfl,s4 _ _ (sJ _ _ eLH),af,Nat.le_of_lt (line _ (show 3+1≤100000 by decide)),fun LP hLP=>?_⟩⟩
 have s5:=new (o:=.lst ([.ref h0,.ref h1,.ref h2]++[.ref x4])) hLP
 intro x5 dx5 hx5 b9e ne5
 have m5:=aV (o:=.own x5) (o':=.ins Y.pg dx5 []) hx5 b9e
 refine ⟨x5,dx5,LP,cV rfl ⟨af,m5 _ _ af,fun tp HK a5i eK etp=>⟨rfl,?_⟩⟩⟩
 have s45:=s4.trans s5
 have sK:aK HJ HK:=fun b' o' e'=>a5i _ _ (m5 _ _ (s45 _ _ e')) (aq (s45 _ _ e') hx5)
 have Vn:=sJ.trans sK
 have hmn:zj Y HK ⟨1,"main",ps,[],[],[],mF (lW n2) (lW n3) ss⟩ (.ref x4):=⟨x4,dx4,v1,v2,.ref v3,.ref v4,v5,[.ref x2,.ref x3],rfl,sK _ _ eJ,sK _ _ ev1,sK _ _ ev2,⟨v3,[],rfl,sK _ _ ev3,Nat.zero_le _,.nil⟩,⟨v4,[],rfl,sK _ _ ev4,Nat.zero_le _,.nil⟩,sK _ _ ev5,(show 2≤1000 by decide),hsD.aE (aD.of Vn)⟩
 have PG:Rj Y HK x5 [.ref h0,.ref h1,.ref h2,.ref x4] [⟨0,"none",["xa"],an0,[],[],[]⟩,⟨0,"one",["xa"],an1,[],[],[]⟩,⟨0,"two",["xa"],c6l,[],[],[]⟩,⟨1,"main",ps,[],[],[],mF (lW n2) (lW n3) ss⟩] :=
  ⟨dx5,tp,eK,etp,(show 4≤1000 by decide),.cons (a0x.aE (aD.of Vn)) (.cons (a0w.aE (aD.of Vn)) (.cons (a0v.aE (aD.of Vn)) (.cons hmn .nil)))⟩
 replace eP:=Vn _ _ eP
 replace LU:=Vn _ _ LU
 replace cD:=cD.aE (aD.of Vn)
 clear Vn sK sJ s45 s5 s4 m5 m4 t13 t1 t2 t3 a5j a5i hsD a0x a0w a0v
 show Aj _ _ _ [some (.ref a),some (.ref d),some (.ref l),some (.ref Pa),some (.ref B),some (.ref W),some (.ref pc),some (.ref LS),some (.ref LH),some (.ref x5),none,none,none,none] HK
 refine ⟨_,ak (Kd (i:=10) iw.nd rfl (Or.inl rfl) (dg ["_law_debt"] [] [] rfl (by decide +kernel) (by decide +kernel) (by with_unfolding_all rfl) (by exact trivial) (by rfl) rfl (by rfl)) rfl (gf (au UU hr.m rfl Pc Pu UD .nil av (aa (pv 9) (aa aZ ah)))) (fun _ _ _ _=>(aN (i:=0) (show List.Nodup (["_law_debt"]:List Str) by decide +kernel) rfl (Or.inl rfl) (Or.inr rfl))) (fun _ _ _ _=>(Kc (bJ kr (Kf (K:=K) rfl (pv 0) rfl) aH (bM _)))) (fun _ _ _ _=>(pv 0))) fT,?_⟩
 have OW:=SI (c:=lW n2) (c3:=lW n3) lay ll
 refine (cV rfl ⟨baseOf ns,x5,x4,_,_,_,cV rfl ⟨Yr PG la0 la1 la2,PG,Qz rfl,hmn,⟨pk.i,pk.l,pk.n,rfl,rfl,rfl,rfl⟩,SH (tK m2) (tK m3) od lay ll,baseOk hns,OW.dep,OW.np,OW.big,OW.g,OW.w,OW.n,fun F ds kz HL sL eF pd=>?_⟩⟩)
 rw [Yx] at pd
 have pls:=xZ (l:=ss) (ps:=[(ps.map bf).flatten++List.replicate kz .lt++oz (iN ss)++[.hold (lW n2)]])
 generalize (lU ss [(ps.map bf).flatten++List.replicate kz .lt++oz (iN ss)++[.hold (lW n2)]]).1=inn at pd pls
 have ld:=bI pd
 rw [List.length_append,List.length_singleton] at ld
 obtain ⟨dl,hdl⟩:∃ dl,ds[inn.length]?=some dl:=⟨ds[inn.length]'(by omega),List.getElem?_eq_getElem _⟩
 refine ⟨F,rfl,⟨ds,bH.of eF⟩,pW (xs:=ds) (fun i ys H3=>H3=HL∧ys=if i≤inn.length then [] else [dl]) ⟨rfl,by rw [if_pos (Nat.zero_le _)]⟩ (fun i ys H3 _ z=>by rw [z.1];exact bH.of eF) ?_ ?_⟩
 ·rintro i x ys H3 hix ⟨rfl,rfl⟩
  obtain ⟨dt,hdt,p',MJ,t',xs',c',rfl,zb,et',vf⟩:=gg pd hix
  have hil:=(List.getElem?_eq_some_iff.mp hix).1
  by_cases hi:i < inn.length
  ·rw [List.getElem?_append_left hi] at hdt
   obtain ⟨u,hu,ea⟩:=pls dt (List.mem_of_getElem? hdt)
   have lu:=(xS lay ll).a u hu
   exact ⟨Ext.one,cV rfl (cF zb J.cd (J.nd _ (by decide +kernel)) (bx (bx cT)) ⟨rfl,cV rfl (Hw.iM (decide_eq_false fun z=>by injection z with z;omega) ⟨rfl,by rw [if_pos (by omega),if_pos (by omega)]⟩)⟩)⟩
  ·obtain rfl:i=inn.length:=by omega
   rw [List.getElem?_append_right (Nat.le_refl _),Nat.sub_self] at hdt
   obtain rfl:=Option.some.inj hdt
   obtain rfl:=Option.some.inj (hdl.symm.trans hix)
   exact ⟨Ext.one,cV rfl (cF zb J.cd (J.nd _ (by decide +kernel)) (bx (bx cT)) ⟨rfl,cV rfl (Hw.nK (decide_eq_true rfl) (cV rfl ⟨line _ (by rw [if_pos (Nat.le_refl _)];exact Nat.zero_le _),rfl,by rw [if_pos (Nat.le_refl _),if_neg (by omega)];rfl⟩))⟩)⟩
 rintro ys H3 ⟨rfl,rfl⟩ FF hFF
 rw [if_neg (by omega)]
 obtain ⟨dt,hdt,p',MJ,t',xs',c',rfl,zb,et',vf⟩:=gg pd hdl
 rw [List.getElem?_append_right (Nat.le_refl _),Nat.sub_self] at hdt
 obtain rfl:=Option.some.inj hdt
 have Ym:=new (o:=.lst [.ref p']) hFF
 have eFF:(upd H3 FF (.lst [.ref p'])) FF=some (.lst [.ref p']):=af
 replace zb:=Ym _ _ zb
 replace et':=Ym _ _ et'
 replace vf:=vf.aE (aD.of Ym)
 replace eP:=Ym _ _ (sL _ _ eP)
 replace LU:=Ym _ _ (sL _ _ LU)
 replace cD:=(cD.aE (aD.of sL)).aE (aD.of Ym)
 generalize upd H3 FF (.lst [.ref p'])=HM at eFF zb et' vf eP LU cD ⊢
 clear Ym sL pd pls hdl ld PG hmn
 show Aj _ _ _ [some (.ref a),some (.ref d),some (.ref l),some (.ref Pa),some (.ref B),some (.ref W),some (.ref pc),some (.ref LS),some (.ref LH),some (.ref x5),some (.ref FF),none,none,none] HM
 refine ⟨_,ak (cA (PW.pt (Vr (bJ OH (aX dQ (by rfl) T.len PySem.boot_len (aa (pv 10) ah)) aH (bM _)) (NX (bJ OH (aA (fY eN (pv 10) aH (fun _ _=>rfl)) rfl) aZ (bM _))))) (ao (aG a1S)) bh) fT,?_⟩
 refine (cV rfl ⟨FF,cV rfl ⟨.inl (bH.of eFF),rfl,cV rfl (Hw.iM (congrArg not (decide_eq_true rfl)) ?_)⟩⟩)
 refine (cV rfl (cL (bH.of eFF) rfl (cF zb J.cd (J.nd _ (by decide +kernel)) (bx (bx (bx cT))) ⟨rfl,cV rfl (Hw.iM (congrArg not (decide_eq_true rfl)) ?_)⟩)))
 refine ⟨_,ak (aO (i:=11) iw.nd rfl (Or.inl rfl) (bC ah)) fT,?_⟩
 refine ⟨(Nat.zero_le _),fun RT hRT=>?_⟩
 have sN:=new (o:=.lst []) hRT
 have rk:=NS n2 ss ps kz
 have tl:=NR (lW n2) ss ps kz
 generalize xu (lW n2) ss ((ps.map bf).flatten++List.replicate kz .lt)=rs at vf rk tl
 have lrx:=bQ vf
 have lsr:(yS (iN ss)).length≤8:=Nat.le_trans (J1 (Ad od)) (baseOk hns).l
 have ltl:(v9 rs).length≤23:=by
  rw [tl,List.length_append]
  have:=ud (ps++yS (iN ss))
  rw [List.length_append] at this
  have:=pk.l
  show _+1≤23
  omega
 refine ⟨_,ak (dm PassesOwn.never rfl (iA (aA (fY eN (pv 10) aH (fun _ _=>rfl)) rfl)) (aN (i:=12) iw.nd rfl (Or.inl rfl)) (ao (cA (bJ kr (fY Bw (pv 12) aH (fun _ _=>rfl)) aZ (bM _)) (ao (bB (fO PySem.F.plainAttrs_list PySem.F.slot_list_append PySem.F.type_list_append iZ (pv 11) (aa (aJ (aa aZ (aa (bK (fY Bw (pv 12) aH (fun _ _=>rfl)) J.cc Ko K9 hr.m K7 .nil av) ah))) ah)))) (ao (cA (bJ kr (fY Bw (pv 12) aH (fun _ _=>rfl)) aZ (bM _)) (ao (bB (fO PySem.F.plainAttrs_list PySem.F.slot_list_append PySem.F.type_list_append iZ (pv 11) (aa (pv 12) ah)))) bh))))) fT,?_⟩
 refine (cV rfl (cL (bH.of (sN _ _ eFF)) rfl (cF (sN _ _ zb) J.cd (J.nd _ (by decide +kernel)) (bx cT) ⟨t',rfl,⟨xs',bG.of (sN _ _ et')⟩,jQ (xs:=xs') (fun i σ H'=>∃ (UK:Option V) (us:List V),σ=[some (.ref a),some (.ref d),some (.ref l),some (.ref Pa),some (.ref B),some (.ref W),some (.ref pc),some (.ref LS),some (.ref LH),some (.ref x5),some (.ref FF),some (.ref RT),UK,none]∧aR RT (upd HM RT (.lst [])) H'∧H' RT=some (.lst us)∧Paired (p8 H') us (v9 (rs.take i))) ⟨none,[],rfl,fun _ _ z _=>z,af,.nil⟩ ?_ ?_ ?_⟩)))
 ·rintro i σ H' _ ⟨UK,us',rfl,but,_⟩
  exact bG.of (but _ _ (sN _ _ et') (aq et' hRT))
 ·rintro i v σ H' hiv ⟨UK,us',rfl,but,eR,pu⟩
  obtain ⟨rw_,hrw,rv⟩:=gg vf hiv
  have tk:v9 (rs.take (i+1))=v9 (rs.take i)++v9 [rw_]:=by rw [take_snoc hrw,jq]
  have rkk:=rk rw_ (List.mem_of_getElem? hrw)
  have hil:=(List.getElem?_eq_some_iff.mp hiv).1
  have kN:aD HM H':=(aD.of sN).trans (aD.soft but af eV)
  replace rv:=rv.aE kN
  have lp:=bI pu
  have lt9:=M4 rs i
  cases rw_ with
  | jK=>exact rkk.elim
  | lt =>
   obtain ⟨r,x,w',rfl,er⟩:=rv
   refine (cV rfl (cI (bG.of er) rfl ⟨rfl,cV rfl (Hw.iM (decide_eq_false (by decide +kernel)) ?_)⟩))
   refine (cV rfl (cI (bG.of er) rfl ⟨rfl,cV rfl (Hw.iM (decide_eq_false (by decide +kernel)) ?_)⟩))
   refine ⟨some (.ref r),us',rfl,but,eR,?_⟩
   rw [tk]
   show Paired _ us' (v9 (rs.take i)++[])
   rw [List.append_nil];exact pu
  | any x =>
   obtain ⟨r,rfl,er⟩:=rv
   refine (cV rfl (cI (bG.of er) rfl ⟨rfl,cV rfl (Hw.iM (decide_eq_false (by decide +kernel)) ?_)⟩))
   refine (cV rfl (cI (bG.of er) rfl ⟨rfl,cV rfl (Hw.nK (decide_eq_true rfl) ?_)⟩))
   refine (cV rfl ⟨.inl ⟨rfl,_,bH.of eR⟩,cV rfl ⟨RT,us',cV rfl ⟨rfl,eR,line _ (by omega),?_⟩⟩⟩)
   have kS:aD H' (upd H' RT (.lst (us'++[.ref r]))):=aD.soft aR.upd eR eV
   refine ⟨some (.ref r),cV rfl ⟨but.trans aR.upd,af,?_⟩⟩
   rw [tk]
   exact dP (L2.Paired.lT pu fun _ _ z=>p8.aE kS z) ⟨r,rfl,kS.t _ _ er⟩
  | hold c =>
   obtain ⟨ca,cn,cs,cb,cm_,rfl⟩:=rkk
   obtain ⟨r,w',rfl,er,cw⟩:=rv
   have cw0:=cw
   unfold bg at cw0
   obtain ⟨pw,dw,uw,ww,rfl,epw,_,_⟩:=cw0
   refine (cV rfl (cI (bG.of er) rfl ⟨rfl,cV rfl (Hw.nK (decide_eq_true rfl) ?_)⟩))
   refine (cV rfl ⟨.inl ⟨rfl,_,bH.of eR⟩,cV rfl (cI (bG.of er) rfl ⟨pw,dw,cV rfl ⟨epw,jH (jH (jH rfl)),?_⟩⟩)⟩)
   refine ⟨pw,ca,cb,cn,cm_,cs,rfl,cw,fun v2 H2 s2 t2=>?_⟩
   refine ⟨szl 2,fun q2 hq2=>?_⟩
   have s3:=new (o:=.tup [.str "hold",v2]) hq2
   have s23:=s2.trans s3
   refine ⟨RT,us',cV rfl ⟨rfl,s23 _ _ eR,line _ (by omega),?_⟩⟩
   have kS:aD (upd H2 q2 (.tup [.str "hold",v2])) (upd (upd H2 q2 (.tup [.str "hold",v2])) RT (.lst (us'++[.ref q2]))):=aD.soft aR.upd (s23 _ _ eR) eV
   have kZ:=(aD.of s23).trans kS
   refine ⟨some (.ref r),cV rfl ⟨but.trans ((aR.of s23).trans aR.upd),af,?_⟩⟩
   rw [tk]
   exact dP (L2.Paired.lT pu fun _ _ z=>p8.aE kZ z) ⟨q2,v2,rfl,kS.t _ _ af,(t2.aE (aD.of s3)).aE kS⟩
 rintro σ H' ⟨UK,us',rfl,but,eR,pu⟩
 rw [lrx,List.take_length,tl] at pu
 have bR:aR RT HM H':=(aR.of sN).trans but
 have kN:aD HM H':=(aD.of sN).trans (aD.soft but af eV)
 replace eP:=bR _ _ eP (aq eP hRT)
 replace LU:=bR _ _ LU (aq LU hRT)
 replace cD:=cD.aE kN
 show Aj _ _ _ [some (.ref a),some (.ref d),some (.ref l),some (.ref Pa),some (.ref B),some (.ref W),some (.ref pc),some (.ref LS),some (.ref LH),some (.ref x5),some (.ref FF),some (.ref RT),UK,none] H'
 refine ⟨_,ak (aO (i:=13) iw.nd rfl (Or.inl rfl) (aT xB (au JF hr.m rfl Di Dy Ju .nil av (aa (pv 3) (aa (aX (jS rfl) (by rfl) T.sorted boot_sorted (aa (aU (pX rfl) (by rfl) J.set PyProof.Rows.boot_set (aa (pv 5) ah)) ah)) ah))) (bC (aa (aJ (aa aZ (aa (bK (bK (pv 6) J.cc jv jD hr.m jA .nil av) J.cc Ko K9 hr.m K7 .nil av) ah))) ah)))) fT,?_⟩
 have lw:=wN od
 have lwi:(dR ss).length≤27:=(xS lay ll).w
 refine (cV rfl (cV rfl ⟨W,iN ss,baseOf ns,rfl,bH.of LU,by omega,by have:=(baseOk hns).l;omega,Ad od,fun Z hZ=>?_⟩))
 have sZ:=new (o:=qq P w Z (iN ss)) hZ
 refine ⟨Z,cV rfl ⟨af,fun SL ys hSL iff nd l64 so=>?_⟩⟩
 have eys:ys=yS (iN ss):=Nk (vh so nd) iff
 subst eys
 have sY:=new (o:=.lst ((yS (iN ss)).map V.str)) hSL
 have sZY:=sZ.trans sY
 have inb:∀ x∈ps++yS (iN ss),x∈baseOf ns:=fun x hx=>by
  rcases List.mem_append.mp hx with q | q
  ·exact pk.i x q
  ·exact Ad od x ((iff x).mp q)
 refine ⟨Pa,SL,ps,yS (iN ss),rfl,sZY _ _ eP,af,by have:=pk.l;omega,fun x hx=>D4 hns x (inb x hx),fun x hx=>Nat.le_of_lt (line _ (by have:=(baseOk hns).s x (inb x hx);omega)),fun R zx H2 s2 fR eR2 pR=>?_⟩
 have sA:=sZY.trans s2
 have cD2:=cD.aE (aD.of sA)
 have cw0:=cD2
 unfold lW bg at cw0
 obtain ⟨pw,dw,uw,ww,epc,epw,_,_⟩:=cw0
 cases epc
 refine (cV rfl ⟨pc,dw,cV rfl ⟨epw,jH (jH (jH rfl)),baseOf ns,pc,cV rfl ⟨cD2,tK m2,fun q3 H3 s3 c3=>?_⟩⟩⟩)
 have cw3:=c3
 unfold lW CT bg at cw3
 obtain ⟨pw3,dw3,uw3,ww3,c0q,c0o,_,_⟩:=cw3
 cases c0q
 refine ⟨q3,dw3,cV rfl ⟨c0o,jH (jH (jH rfl)),q3,_,_,_,_,cV rfl ⟨c3,fun v4 H4 s4 t4=>?_⟩⟩⟩
 refine ⟨szl 2,fun q5 hq5=>?_⟩
 have s5:=new (o:=.tup [.str "hold",v4]) hq5
 refine ⟨szl 1,fun q6 hq6=>?_⟩
 have s6:=new (o:=.lst [.ref q5]) hq6
 have s36:=(s3.trans s4).trans (s5.trans s6)
 have lR:=bI pR
 have lq:=ud (ps++yS (iN ss))
 rw [List.length_append] at lq
 refine ⟨R,q6,_,cV rfl ⟨rfl,s36 _ _ eR2,af,Nat.le_of_lt (line _ (by have:=pk.l;show zx.length+1≤100000;omega)),fun Du hDu=>?_⟩⟩
 have s7:=new (o:=.lst (zx++[.ref q5])) hDu
 have s47:=s36.trans s7
 refine ⟨_,ao (aG (rZ (Yz 5 (uL hr)) (pv 11) (pv 13) (bM _))),?_⟩
 refine (cV rfl (cV rfl ⟨RT,Du,us',cV rfl ⟨rfl,.inl ⟨bH.of ((sA.trans s47) _ _ eR),bH.of af⟩,?_,k _⟩⟩))
 refine Cp RS (L2.Paired.lT pu fun _ _ z=>p8.aE (aD.of (sA.trans s47)) z) (dP (L2.Paired.lT pR fun _ _ z=>p8.aE (aD.of s47) z) ?_)
 exact ⟨q5,v4,rfl,s7 _ _ (s6 _ _ af),t4.aE (aD.of ((s5.trans s6).trans s7))⟩
abbrev Hx:Stmt:=inClass (top 16) 0
theorem X0:az ["self","at"] ["self","at"] (ai Hx):=dB
theorem YO  (F:ck K "__init__" "Step.__init__" Hx f fd) (T:Txt K mg Y.z.s) (J:dI K mg Y fS Db Bk) :aM P w K mg base bP 1 f fd ["self","at"] (oG Y):=by
 refine F.dY X0 fun vs H Q E h=>?_
 obtain ⟨p,dx,a,j,rfl,hj,hm,hp,k⟩:=h
 refine ⟨rfl,fun _ _ _ _ hr=>?_⟩
 rw [show aj Hx=[_] from rfl]
 refine ⟨_,(ao (aY (pv 0) (pv 1) rfl)),?_⟩
 refine (cV rfl (cV rfl ⟨p,_,dx,cV rfl ⟨hp,J.cl j hj,J.na j _ hj hm,(by show 0 < 1000;decide),?_⟩⟩))
 exact k _ aR.upd af
abbrev Nj:Stmt:=inClass (top 16) 2
theorem Si:az ["self"] ["self"] (ai Nj):=dB
theorem Td  (F:ck K "blocks" "Step.blocks" Nj f fd) (T:Txt K mg Y.z.s) (J:dI K mg Y fS Db Bk) :aM P w K mg base bP 1 f fd ["self"] (dN N Y 1):=by
 refine F.dY Si fun vs H Q E h=>?_
 obtain ⟨p,s0,rfl,sj,hs,od,k⟩:=h
 refine ⟨rfl,fun _ _ _ _ hr=>?_⟩
 rw [show aj Nj=[_] from rfl]
 refine ⟨_,(ao (aG (aJ ah))),?_⟩
 obtain ⟨a,dx,u,w2,x,b,n0,rfl,hx,hb,ep,su,sw⟩:=w1_ hs od sj
 exact ⟨Nat.zero_le _,fun r hr'=>k r [] _ (new hr') af .nil⟩
abbrev Ni:Stmt:=inClass (top 16) 2
theorem Sh:az ["self"] ["self"] (ai Ni):=dB
theorem Tc  (F:ck K "blocks" "Step.blocks" Ni f fd) (T:Txt K mg Y.z.s) (J:dI K mg Y fS Db Bk) :aM P w K mg base bP 1 f fd ["self"] (dN N Y 2):=by
 refine F.dY Sh fun vs H Q E h=>?_
 obtain ⟨p,s0,rfl,sj,hs,od,k⟩:=h
 refine ⟨rfl,fun _ _ _ _ hr=>?_⟩
 rw [show aj Ni=[_] from rfl]
 refine ⟨_,(ao (aG (aJ ah))),?_⟩
 obtain ⟨a,dx,u,x,r0,b,n0,rfl,hx,hr0,hb,ep,su⟩:=w2_ hs od sj
 exact ⟨Nat.zero_le _,fun r hr'=>k r [] _ (new hr') af .nil⟩
abbrev Nh:Stmt:=inClass (top 16) 2
theorem Sg:az ["self"] ["self"] (ai Nh):=dB
theorem S0  (F:ck K "blocks" "Step.blocks" Nh f fd) (T:Txt K mg Y.z.s) (J:dI K mg Y fS Db Bk) :aM P w K mg base bP 1 f fd ["self"] (dN N Y 3):=by
 refine F.dY Sg fun vs H Q E h=>?_
 obtain ⟨p,s0,rfl,sj,hs,od,k⟩:=h
 refine ⟨rfl,fun _ _ _ _ hr=>?_⟩
 rw [show aj Nh=[_] from rfl]
 refine ⟨_,(ao (aG (aJ ah))),?_⟩
 obtain ⟨a,dx,u,w2,r0,b,n0,c0,m0,rfl,hr0,hb,hc0,ep,su,sw⟩:=w3_ hs od sj
 exact ⟨Nat.zero_le _,fun r hr'=>k r [] _ (new hr') af .nil⟩
abbrev Ng:Stmt:=inClass (top 16) 2
theorem Sf:az ["self"] ["self"] (ai Ng):=dB
theorem SY  (F:ck K "blocks" "Step.blocks" Ng f fd) (T:Txt K mg Y.z.s) (J:dI K mg Y fS Db Bk) :aM P w K mg base bP 1 f fd ["self"] (dN N Y 4):=by
 refine F.dY Sf fun vs H Q E h=>?_
 obtain ⟨p,s0,rfl,sj,hs,od,k⟩:=h
 refine ⟨rfl,fun _ _ _ _ hr=>?_⟩
 rw [show aj Ng=[_] from rfl]
 refine ⟨_,(ao (aG (aJ ah))),?_⟩
 obtain ⟨a,dx,u,r0,b,n0,rfl,hr0,hb,ep,su⟩:=w4_ hs od sj
 exact ⟨Nat.zero_le _,fun r hr'=>k r [] _ (new hr') af .nil⟩
abbrev Nf:Stmt:=inClass (top 16) 2
theorem Se:az ["self"] ["self"] (ai Nf):=dB
theorem SX  (F:ck K "blocks" "Step.blocks" Nf f fd) (T:Txt K mg Y.z.s) (J:dI K mg Y fS Db Bk) :aM P w K mg base bP 1 f fd ["self"] (dN N Y 5):=by
 refine F.dY Se fun vs H Q E h=>?_
 obtain ⟨p,s0,rfl,sj,hs,od,k⟩:=h
 refine ⟨rfl,fun _ _ _ _ hr=>?_⟩
 rw [show aj Nf=[_] from rfl]
 refine ⟨_,(ao (aG (aJ ah))),?_⟩
 obtain ⟨a,dx,c,pc,rfl,xc,ep,hc⟩:=w5_ hs od sj
 exact ⟨Nat.zero_le _,fun r hr'=>k r [] _ (new hr') af .nil⟩
abbrev Nd:Stmt:=inClass (top 16) 2
theorem Sa:az ["self"] ["self"] (ai Nd):=dB
theorem SW  (F:ck K "blocks" "Step.blocks" Nd f fd) (T:Txt K mg Y.z.s) (J:dI K mg Y fS Db Bk) :aM P w K mg base bP 1 f fd ["self"] (dN N Y 6):=by
 refine F.dY Sa fun vs H Q E h=>?_
 obtain ⟨p,s0,rfl,sj,hs,od,k⟩:=h
 refine ⟨rfl,fun _ _ _ _ hr=>?_⟩
 rw [show aj Nd=[_] from rfl]
 refine ⟨_,(ao (aG (aJ ah))),?_⟩
 obtain ⟨a,dx,t1,t2,u,l,x,q0,rfl,yZ,hl,hb,ep,e1,e2,su⟩:=w6_ hs od sj
 exact ⟨Nat.zero_le _,fun r hr'=>k r [] _ (new hr') af .nil⟩
abbrev Nc:Stmt:=inClass (top 16) 1
theorem R8:az ["self"] ["self"] (ai Nc):=dB
theorem SS  (F:ck K "writes" "Step.writes" Nc f fd) (T:Txt K mg Y.z.s) (J:dI K mg Y fS Db Bk) :aM P w K mg base bP 1 f fd ["self"] (eU N Y 5):=by
 refine F.dY R8 fun vs H Q E h=>?_
 obtain ⟨p,s0,rfl,sj,hs,od,k⟩:=h
 refine ⟨rfl,fun _ _ _ _ hr=>?_⟩
 rw [show aj Nc=[_] from rfl]
 refine ⟨_,(ao (aG (aJ ah))),?_⟩
 obtain ⟨a,dx,c,pc,rfl,xc,ep,hc⟩:=w5_ hs od sj
 exact ⟨Nat.zero_le _,fun r hr'=>k r _ (new hr') af⟩
abbrev Nb:Stmt:=inClass (top 16) 1
theorem R6:az ["self"] ["self"] (ai Nb):=dB
theorem SR  (F:ck K "writes" "Step.writes" Nb f fd) (T:Txt K mg Y.z.s) (J:dI K mg Y fS Db Bk) :aM P w K mg base bP 1 f fd ["self"] (eU N Y 7):=by
 refine F.dY R6 fun vs H Q E h=>?_
 obtain ⟨p,s0,rfl,sj,hs,od,k⟩:=h
 refine ⟨rfl,fun _ _ _ _ hr=>?_⟩
 rw [show aj Nb=[_] from rfl]
 refine ⟨_,(ao (aG (aJ ah))),?_⟩
 obtain ⟨a,dx,c,pc,t,e,t1,t2,us,ws,rfl,xc,ep,hc,e1,h1,e2,h2,o1,o2,o5,o6⟩:=w7_ hs od sj
 exact ⟨Nat.zero_le _,fun r hr'=>k r _ (new hr') af⟩
abbrev Na:Stmt:=inClass (top 16) 1
theorem R5:az ["self"] ["self"] (ai Na):=dB
theorem SQ  (F:ck K "writes" "Step.writes" Na f fd) (T:Txt K mg Y.z.s) (J:dI K mg Y fS Db Bk) :aM P w K mg base bP 1 f fd ["self"] (eU N Y 8):=by
 refine F.dY R5 fun vs H Q E h=>?_
 obtain ⟨p,s0,rfl,sj,hs,od,k⟩:=h
 refine ⟨rfl,fun _ _ _ _ hr=>?_⟩
 rw [show aj Na=[_] from rfl]
 refine ⟨_,(ao (aG (aJ ah))),?_⟩
 obtain ⟨a,dx,c,pc,b,tk,t2,ws,rfl,xc,ep,hc,ek,e2,h2,o1,o3⟩:=Xz hs od sj
 exact ⟨Nat.zero_le _,fun r hr'=>k r _ (new hr') af⟩
end
end Hw
namespace Hw
open PySem L2 PyProof.Rows
theorem rL {us:List Value} {k:Nat} (h:us.length=k+1):∃ a r,us=a::r∧r.length=k:=by
 cases us with
 | nil=>exact absurd h (Nat.succ_ne_zero k).symm
 | cons a r=>exact ⟨a,r,rfl,Nat.succ.inj h⟩
theorem a9b {A:FuncData} {B:List Str} (us:List Value) (hl:us.length=1) (k:∀ a,bindArgs A ⟨[a],[]⟩=pure (B.zip [a])):bindArgs A ⟨us,[]⟩=pure (B.zip us):=by
 obtain ⟨a,u1,rfl,h1⟩:=rL hl
 obtain rfl:=List.eq_nil_of_length_eq_zero h1
 exact k a
theorem a9a {A:FuncData} {B:List Str} (us:List Value) (hl:us.length=2) (k:∀ a b,bindArgs A ⟨[a,b],[]⟩=pure (B.zip [a,b])):bindArgs A ⟨us,[]⟩=pure (B.zip us):=by
 obtain ⟨a,u1,rfl,h1⟩:=rL hl
 obtain ⟨b,u2,rfl,h2⟩:=rL h1
 obtain rfl:=List.eq_nil_of_length_eq_zero h2
 exact k a b
theorem a89 {A:FuncData} {B:List Str} (us:List Value) (hl:us.length=3) (k:∀ a b c,bindArgs A ⟨[a,b,c],[]⟩=pure (B.zip [a,b,c])):bindArgs A ⟨us,[]⟩=pure (B.zip us):=by
 obtain ⟨a,u1,rfl,h1⟩:=rL hl
 obtain ⟨b,u2,rfl,h2⟩:=rL h1
 obtain ⟨c,u3,rfl,h3⟩:=rL h2
 obtain rfl:=List.eq_nil_of_length_eq_zero h3
 exact k a b c
theorem a88 {A:FuncData} {B:List Str} (us:List Value) (hl:us.length=4) (k:∀ a b c d,bindArgs A ⟨[a,b,c,d],[]⟩=pure (B.zip [a,b,c,d])):bindArgs A ⟨us,[]⟩=pure (B.zip us):=by
 obtain ⟨a,u1,rfl,h1⟩:=rL hl
 obtain ⟨b,u2,rfl,h2⟩:=rL h1
 obtain ⟨c,u3,rfl,h3⟩:=rL h2
 obtain ⟨d,u4,rfl,h4⟩:=rL h3
 obtain rfl:=List.eq_nil_of_length_eq_zero h4
 exact k a b c d
theorem a87 {A:FuncData} {B:List Str} (us:List Value) (hl:us.length=5) (k:∀ a b c d e,bindArgs A ⟨[a,b,c,d,e],[]⟩=pure (B.zip [a,b,c,d,e])):bindArgs A ⟨us,[]⟩=pure (B.zip us):=by
 obtain ⟨a,u1,rfl,h1⟩:=rL hl
 obtain ⟨b,u2,rfl,h2⟩:=rL h1
 obtain ⟨c,u3,rfl,h3⟩:=rL h2
 obtain ⟨d,u4,rfl,h4⟩:=rL h3
 obtain ⟨e,u5,rfl,h5⟩:=rL h4
 obtain rfl:=List.eq_nil_of_length_eq_zero h5
 exact k a b c d e
theorem a86 {A:FuncData} {B:List Str} (us:List Value) (hl:us.length=6) (k:∀ a b c d e f,bindArgs A ⟨[a,b,c,d,e,f],[]⟩=pure (B.zip [a,b,c,d,e,f])):bindArgs A ⟨us,[]⟩=pure (B.zip us):=by
 obtain ⟨a,u1,rfl,h1⟩:=rL hl
 obtain ⟨b,u2,rfl,h2⟩:=rL h1
 obtain ⟨c,u3,rfl,h3⟩:=rL h2
 obtain ⟨d,u4,rfl,h4⟩:=rL h3
 obtain ⟨e,u5,rfl,h5⟩:=rL h4
 obtain ⟨f,u6,rfl,h6⟩:=rL h5
 obtain rfl:=List.eq_nil_of_length_eq_zero h6
 exact k a b c d e f
theorem a8Z {A:FuncData} {B:List Str} (us:List Value) (hl:us.length=8) (k:∀ a b c d e f g h,bindArgs A ⟨[a,b,c,d,e,f,g,h],[]⟩=pure (B.zip [a,b,c,d,e,f,g,h])):bindArgs A ⟨us,[]⟩=pure (B.zip us):=by
 obtain ⟨a,u1,rfl,h1⟩:=rL hl
 obtain ⟨b,u2,rfl,h2⟩:=rL h1
 obtain ⟨c,u3,rfl,h3⟩:=rL h2
 obtain ⟨d,u4,rfl,h4⟩:=rL h3
 obtain ⟨e,u5,rfl,h5⟩:=rL h4
 obtain ⟨f,u6,rfl,h6⟩:=rL h5
 obtain ⟨g,u7,rfl,h7⟩:=rL h6
 obtain ⟨h,u8,rfl,h8⟩:=rL h7
 obtain rfl:=List.eq_nil_of_length_eq_zero h8
 exact k a b c d e f g h
theorem _root_.L2.ck.b1 {K:PySem.W.Frag} {x qual:Str} {st:Stmt} {f:Addr} {fd:FuncData} {ps:List Str} (F:ck K x qual st f fd) (h:∀ (kV doc pm:Value) (an:Option Addr) (cdv ct a:Value),bindArgs (PySem.W.fnOf x qual (ay st) (aj st) (ai st) .none kV doc pm an cdv ct) ⟨[a],[]⟩=pure (ps.zip [a]):=by intros;rfl) (hl:ps.length=1:=by rfl):Binds K fd ps []:=F.binds fun kV doc pm an cdv ct us e=>a9b us (e.trans hl) (h kV doc pm an cdv ct)
theorem _root_.L2.ck.b2 {K:PySem.W.Frag} {x qual:Str} {st:Stmt} {f:Addr} {fd:FuncData} {ps:List Str} (F:ck K x qual st f fd) (h:∀ (kV doc pm:Value) (an:Option Addr) (cdv ct a b:Value),bindArgs (PySem.W.fnOf x qual (ay st) (aj st) (ai st) .none kV doc pm an cdv ct) ⟨[a,b],[]⟩=pure (ps.zip [a,b]):=by intros;rfl) (hl:ps.length=2:=by rfl):Binds K fd ps []:=F.binds fun kV doc pm an cdv ct us e=>a9a us (e.trans hl) (h kV doc pm an cdv ct)
theorem _root_.L2.ck.b3 {K:PySem.W.Frag} {x qual:Str} {st:Stmt} {f:Addr} {fd:FuncData} {ps:List Str} (F:ck K x qual st f fd) (h:∀ (kV doc pm:Value) (an:Option Addr) (cdv ct a b c:Value),bindArgs (PySem.W.fnOf x qual (ay st) (aj st) (ai st) .none kV doc pm an cdv ct) ⟨[a,b,c],[]⟩=pure (ps.zip [a,b,c]):=by intros;rfl) (hl:ps.length=3:=by rfl):Binds K fd ps []:=F.binds fun kV doc pm an cdv ct us e=>a89 us (e.trans hl) (h kV doc pm an cdv ct)
theorem _root_.L2.ck.b4 {K:PySem.W.Frag} {x qual:Str} {st:Stmt} {f:Addr} {fd:FuncData} {ps:List Str} (F:ck K x qual st f fd) (h:∀ (kV doc pm:Value) (an:Option Addr) (cdv ct a b c d:Value),bindArgs (PySem.W.fnOf x qual (ay st) (aj st) (ai st) .none kV doc pm an cdv ct) ⟨[a,b,c,d],[]⟩=pure (ps.zip [a,b,c,d]):=by intros;rfl) (hl:ps.length=4:=by rfl):Binds K fd ps []:=F.binds fun kV doc pm an cdv ct us e=>a88 us (e.trans hl) (h kV doc pm an cdv ct)
theorem _root_.L2.ck.b5 {K:PySem.W.Frag} {x qual:Str} {st:Stmt} {f:Addr} {fd:FuncData} {ps:List Str} (F:ck K x qual st f fd) (h:∀ (kV doc pm:Value) (an:Option Addr) (cdv ct a b c d e:Value),bindArgs (PySem.W.fnOf x qual (ay st) (aj st) (ai st) .none kV doc pm an cdv ct) ⟨[a,b,c,d,e],[]⟩=pure (ps.zip [a,b,c,d,e]):=by intros;rfl) (hl:ps.length=5:=by rfl):Binds K fd ps []:=F.binds fun kV doc pm an cdv ct us e=>a87 us (e.trans hl) (h kV doc pm an cdv ct)
theorem _root_.L2.ck.b6 {K:PySem.W.Frag} {x qual:Str} {st:Stmt} {f:Addr} {fd:FuncData} {ps:List Str} (F:ck K x qual st f fd) (h:∀ (kV doc pm:Value) (an:Option Addr) (cdv ct a b c d e f:Value),bindArgs (PySem.W.fnOf x qual (ay st) (aj st) (ai st) .none kV doc pm an cdv ct) ⟨[a,b,c,d,e,f],[]⟩=pure (ps.zip [a,b,c,d,e,f]):=by intros;rfl) (hl:ps.length=6:=by rfl):Binds K fd ps []:=F.binds fun kV doc pm an cdv ct us e=>a86 us (e.trans hl) (h kV doc pm an cdv ct)
theorem _root_.L2.ck.b8 {K:PySem.W.Frag} {x qual:Str} {st:Stmt} {f:Addr} {fd:FuncData} {ps:List Str} (F:ck K x qual st f fd) (h:∀ (kV doc pm:Value) (an:Option Addr) (cdv ct a b c d e f g h:Value),bindArgs (PySem.W.fnOf x qual (ay st) (aj st) (ai st) .none kV doc pm an cdv ct) ⟨[a,b,c,d,e,f,g,h],[]⟩=pure (ps.zip [a,b,c,d,e,f,g,h]):=by intros;rfl) (hl:ps.length=8:=by rfl):Binds K fd ps []:=F.binds fun kV doc pm an cdv ct us e=>a8Z us (e.trans hl) (h kV doc pm an cdv ct)
theorem aF {K:PySem.W.Frag} {x qual:Str} {st:Stmt} {f:Addr} {oc:Value} {od an:Option Addr} {osl:Array (Option Value)} {kV doc pm cdv ct:Value} {A:Arguments} {B:List Stmt} {S:Scope} (l:K.lookup f=some ⟨oc,od,.func (PySem.W.fnOf x qual A B S .none kV doc pm an cdv ct),osl⟩) (e:(A,B,S)=(ay st,aj st,ai st)) (c:PySem.W.codeIn K cdv qual=true) (k:PySem.W.keepIn K (.ref f)=true):ck K x qual st f (PySem.W.fnOf x qual (ay st) (aj st) (ai st) .none kV doc pm an cdv ct):=by
 obtain ⟨e1,e2⟩:=Prod.mk.inj e
 obtain ⟨e2,e3⟩:=Prod.mk.inj e2
 rw [e1,e2,e3] at l
 exact ZY l c k
open PySem.W (findIn keepIn fnOf codeIn kitOne nsIn mg_of isFn plainGet hasDictIn plainOver makesIn mg_none_of mroIn)
theorem all_mk {l:PySem.W.OpenLaw} {w:World} {K:PySem.W.Frag} {h:Heap} {mg:Str→Option Value} {fa Cs Cc Ev L0 L1 L2 L3 L4 L5 L6 L7 L8 Hp Pg Db Bk Sp OD f1 f2 f3 f4 f5 f6 f7 f8 f9 f10 f11 f12 f13 f14 f15 f16 f17 f18 f19 f20 f21 f22 f23 f24 f25 f26 f27 f28 RG f30 f31 f32 f33 f34 f35 f36 f37 f38 f39 f40 f41 f42 f43 f44 f45 f46 f47 f48 f49 f50 f51 f52 f53 f54 f55 f56 f57 f58 f59 f60 f61 f62 f63 f64 f65 f66 f67 f68 f69 f70 f71 f72 f73 f74 f75 f76 f77 f78 f79 f80 f81 f82 f83 f84 f85 f86:Addr} {oe:Nat} {t1 t2 t3 t4 t5 t6 u1 u2 u3 u4 u5 u6 tD1 tD2 tD3 tD4:Tok} (X:K.In h) (G:h.Ns mainGlobals mg) (hfa:mg "law"=some (.ref fa))
  {od1 an1 od2 an2 od3 an3 od4 an4 od5 an5 od6 an6 od7 an7 od8 an8 od9 an9 b3O c6w b3N c6v b3M c6u b3L c6t b3K c6s b3J c6r b3I c6q b3H c6p b3G c6o b3F c6n b3E c6k b3D c6j b3C c6i b3B c6h b3A c6g b3z c6f b3y c6e b3x c6d b3w c6c b3v c6b b3u c5Z b3t c5Y b3s c5X b3r c5W b3q c5V b3p c5U b3o c5T b3n c5S b3m c5R b3l c5Q b3k c5P b3j c5O b3i c5N b3h c5M b3g c5L b3f c5K b3e c5J b3d c5I b3c c5H b3b c5G b3a c5F b29 c5E b28 c5D b27 c5C b26 c5B b25 c5A b24 c5z b23 c5y b22 c5x b21 c5w b20 c5v b2Z c5u b2Y c5t b2X c5s b2W c5r b2V c5q b2U c5p b2T c5o b2S c5n b2R c5m b2Q c5l b2P c5k b2O c5j b2N c5i b2M c5h b2L c5g b2K c5f b2J c5e b2I c5d b2H c5c b2G c5b b2F c5a b2E c4Z b2D c4Y b2C c4X b2B a5r b2A c4W:Option Addr} {sl1 sl2 sl3 sl4 sl5 sl6 sl7 sl8 sl9 b0R b0Q b0P b0O b0N b0M b0L b0K b0J b0I b0H b0G b0F b0E b0D b0C b0B b0A b0z b0y b0x b0w b0v b0u b0t b0s b0r b0q b0p b0o b0n b0m b0l b0k b0j b0i b0h b0g b0f b0e b0d b0c b0b b0a a99 a98 a97 a96 a95 a94 a93 a92 a91 a90 a9Z a9Y a9X a9W a9V a9U a9T a9S a9R a9Q a9P a9O a9N a9M a9L a9K a9J a9I a9H a9G a9F a9E a9D:Array (Option Value)} {oc1 kV1 dc1 pm1 cd1 ct1 oc2 kV2 dc2 pm2 cd2 ct2 oc3 kV3 dc3 pm3 cd3 ct3 oc4 kV4 dc4 pm4 cd4 ct4 oc5 kV5 dc5 pm5 cd5 ct5 oc6 kV6 dc6 pm6 cd6 ct6 oc7 kV7 dc7 pm7 cd7 ct7 oc8 kV8 dc8 pm8 cd8 ct8 oc9 kV9 dc9 pm9 cd9 ct9 b45 b7W c1S b2w a5f c3s b44 b7V c1R b2v a5e c3r b43 b7U c1Q b2u a5d c3q b42 b7T c1P b2t a5c c3p b41 b7S c1O b2s a5b c3o b40 b7R c1N b2r a5a c3n b4Z b7Q c1M b2q a4Z c3m b4Y b7P c1L b2p a4Y c3l b4X b7O c1K b2o a4X c3k b4W b7N c1J b2n a4W c3j b4V b7M c1I b2m a4V c3i b4U b7L c1H b2l a4U c3h b4T b7K c1G b2k a4T c3g b4S b7J c1F b2j a4S c3f b4R b7I c1E b2h a4R c3e b4Q b7H c1D b2g a4Q c3d b4P b7G c1C b2f a4P c3c b4O b7F c1B b2e a4O c3b b4N b7E c1A b2d a4N c3a b4M b7D c1z b2c a4M c2Z b4L b7C c1y b2b a4L c2Y b4K b7B c1x b2a a4K c2X b4J b7A c1w b19 a4J c2W b4I b7z c1v b18 a4I c2V b4H b7y c1u b17 a4H c2U b4G b7x c1t b16 a4G c2T b4F b7w c1s b15 a4F c2S b4E b7v c1r b14 a4E c2R b4D b7u c1q b11 a4D c2Q b4C b7t c1p b10 a4C c2P b4B b7s c1o b1Z a4B c2O b4A b7r c1n b1Y a4A c2N b4z b7q c1m b1X a4z c2M b4y b7p c1l b1W a4y c2L b4x b7o c1k b1V a4x c2K b4w b7n c1j b1U a4w c2J b4v b7m c1i b1T a4v c2I b4u b7l c1h b1S a4u c2H b4t b7k c1g b1R a4t c2G b4s b7j c1f b1Q a4s c2F b4r b7i c1e b1P a4r c2E b4q b7h c1d b1O a4q c2D b4p b7g c1c b1N a4p c2C b4o b7f c1b b1M a4o c2B b4n b7e c1a b1L a4n c2A b4m b7d c09 b1K a4m c2z b4l b7c c08 b1J a4l c2y b4k b7b c07 b1I a4k c2x b4j b7a c06 b1H a4j c2w b4i b69 c05 b1G a4i c2v b4h b68 c04 b1F a4h c2u b4g b66 c03 b1E a4g c2t b4f b65 c02 b1D a4f c2s b4e b64 c01 b1C a4e c2r b4d b63 c00 b1B a4d c2q b4c b62 c0Z b1A a4c c2p b4b b61 c0Y b1z a4b c2o b4a b60 c0X b1y a4a c2n b39 b6Z c0W b1x a3Z c2m b38 b6Y c0V b1w a3Y c2l b37 b6X c0U b1v a3X c2k b36 b6W c0T b1u a3W c2j b35 b6V c0S b1t a3V c2i b34 b6U c0R b1s a3U c2h b33 b6T c0Q b1r a3T c2g b32 b6S c0P b1q a3S c2f b31 b6R c0O b1p a3R c2e b30 b6Q c0N b1o a3Q c2d b3Z b6P c0M b1n a3P c2c b3Y b6O c0L b1m a3O c2b b3X b6N c0K b1l a3N c2a b3W b6M c0J b1k a3M c1Z b3V b6L c0I b1j a3L c1Y b3U b6K c0H b1i a3K c1X b3T b6J c0G b1h a3J c1W b3S a2p a3u a1O a0q a3H b3R b6I c0F b1g a3I c1V:Value} {A1 A2 A3 A4 A5 A6 A7 A8 A9 A10 A11 A12 A13 A14 A15 A16 A17 A18 A19 A20 A21 A22 A23 A24 A25 A26 A27 A28 A29 A30 A31 A32 A33 A34 A35 A36 A37 A38 A39 A40 A41 A42 A43 A44 A45 A46 A47 A48 A49 A50 A51 A52 A53 A54 A55 A56 A57 A58 A59 A60 A61 A62 A63 A64 A65 A66 A67 A68 A69 A70 A71 A72 A73 A74 A75 A76 A77 A78 A79 A80 A81 A82 A83 A84 A85 A86:Arguments} {B1 B2 B3 B4 B5 B6 B7 B8 B9 B10 B11 B12 B13 B14 B15 B16 B17 B18 B19 B20 B21 B22 B23 B24 B25 B26 B27 B28 B29 B30 B31 B32 B33 B34 B35 B36 B37 B38 B39 B40 B41 B42 B43 B44 B45 B46 B47 B48 B49 B50 B51 B52 B53 B54 B55 B56 B57 B58 B59 B60 B61 B62 B63 B64 B65 B66 B67 B68 B69 B70 B71 B72 B73 B74 B75 B76 B77 B78 B79 B80 B81 B82 B83 B84 B85 B86:List Stmt} {S1 S2 S3 S4 S5 S6 S7 S8 S9 S10 S11 S12 S13 S14 S15 S16 S17 S18 S19 S20 S21 S22 S23 S24 S25 S26 S27 S28 S29 S30 S31 S32 S33 S34 S35 S36 S37 S38 S39 S40 S41 S42 S43 S44 S45 S46 S47 S48 S49 S50 S51 S52 S53 S54 S55 S56 S57 S58 S59 S60 S61 S62 S63 S64 S65 S66 S67 S68 S69 S70 S71 S72 S73 S74 S75 S76 S77 S78 S79 S80 S81 S82 S83 S84 S85 S86:Scope}
  (ZV:nsIn K mainGlobals "Sum"=some (some (.ref Cs))) (OB:plainGet K Cs Str.empty=true) (Qq:hasDictIn K Cs=true) (Oe:plainOver K Cs=true) (NL:findIn K (.ref Cs) "__setattr__"=some (some (.builtin "object.__setattr__"))) (O7:makesIn K Cs=true) (PV:keepIn K (.ref Cs)=true)
  (ZW:nsIn K mainGlobals "Compare"=some (some (.ref Cc))) (OC:plainGet K Cc Str.empty=true) (Qs:hasDictIn K Cc=true) (Of:plainOver K Cc=true) (NN:findIn K (.ref Cc) "__setattr__"=some (some (.builtin "object.__setattr__"))) (O8:makesIn K Cc=true) (PX:keepIn K (.ref Cc)=true)
  (ZT:nsIn K mainGlobals "Every"=some (some (.ref Ev))) (Oz:plainGet K Ev Str.empty=true) (Qo:hasDictIn K Ev=true) (Oc:plainOver K Ev=true) (NJ:findIn K (.ref Ev) "__setattr__"=some (some (.builtin "object.__setattr__"))) (O5:makesIn K Ev=true) (PR:keepIn K (.ref Ev)=true)
  (ZR:nsIn K mainGlobals "Let"=some (some (.ref L0))) (Ow:plainGet K L0 Str.empty=true) (Qm:hasDictIn K L0=true) (Oa:plainOver K L0=true) (NH:findIn K (.ref L0) "__setattr__"=some (some (.builtin "object.__setattr__"))) (O3:makesIn K L0=true) (PM:keepIn K (.ref L0)=true)
  (ZQ:nsIn K mainGlobals "Divide"=some (some (.ref L1))) (Ov:plainGet K L1 Str.empty=true) (Ql:hasDictIn K L1=true) (N9:plainOver K L1=true) (NG:findIn K (.ref L1) "__setattr__"=some (some (.builtin "object.__setattr__"))) (O2:makesIn K L1=true) (PK:keepIn K (.ref L1)=true)
  (ZP:nsIn K mainGlobals "Fetch"=some (some (.ref L2))) (Ou:plainGet K L2 Str.empty=true) (Qk:hasDictIn K L2=true) (N8:plainOver K L2=true) (NF:findIn K (.ref L2) "__setattr__"=some (some (.builtin "object.__setattr__"))) (O1:makesIn K L2=true) (PJ:keepIn K (.ref L2)=true)
  (ZO:nsIn K mainGlobals "Put"=some (some (.ref L3))) (Ot:plainGet K L3 Str.empty=true) (Qj:hasDictIn K L3=true) (N7:plainOver K L3=true) (ND:findIn K (.ref L3) "__setattr__"=some (some (.builtin "object.__setattr__"))) (O0:makesIn K L3=true) (PF:keepIn K (.ref L3)=true)
  (ZN:nsIn K mainGlobals "Make"=some (some (.ref L4))) (Oq:plainGet K L4 Str.empty=true) (Qi:hasDictIn K L4=true) (N6:plainOver K L4=true) (NC:findIn K (.ref L4) "__setattr__"=some (some (.builtin "object.__setattr__"))) (OZ:makesIn K L4=true) (PD:keepIn K (.ref L4)=true)
  (ZM:nsIn K mainGlobals "Claim"=some (some (.ref L5))) (Oo:plainGet K L5 Str.empty=true) (Qh:hasDictIn K L5=true) (N5:plainOver K L5=true) (NB:findIn K (.ref L5) "__setattr__"=some (some (.builtin "object.__setattr__"))) (OY:makesIn K L5=true) (PC:keepIn K (.ref L5)=true)
  (ZL:nsIn K mainGlobals "Call"=some (some (.ref L6))) (Om:plainGet K L6 Str.empty=true) (Qg:hasDictIn K L6=true) (N4:plainOver K L6=true) (Nz:findIn K (.ref L6) "__setattr__"=some (some (.builtin "object.__setattr__"))) (OX:makesIn K L6=true) (PB:keepIn K (.ref L6)=true)
  (ZK:nsIn K mainGlobals "Choose"=some (some (.ref L7))) (Ol:plainGet K L7 Str.empty=true) (Qf:hasDictIn K L7=true) (N3:plainOver K L7=true) (Ny:findIn K (.ref L7) "__setattr__"=some (some (.builtin "object.__setattr__"))) (OV:makesIn K L7=true) (Pz:keepIn K (.ref L7)=true)
  (ZJ:nsIn K mainGlobals "Repeat"=some (some (.ref L8))) (Oj:plainGet K L8 Str.empty=true) (Qe:hasDictIn K L8=true) (N1:plainOver K L8=true) (Nx:findIn K (.ref L8) "__setattr__"=some (some (.builtin "object.__setattr__"))) (OU:makesIn K L8=true) (Py:keepIn K (.ref L8)=true)
  (ZS:nsIn K mainGlobals "Helper"=some (some (.ref Hp))) (Ox:plainGet K Hp Str.empty=true) (Qn:hasDictIn K Hp=true) (Ob:plainOver K Hp=true) (NI:findIn K (.ref Hp) "__setattr__"=some (some (.builtin "object.__setattr__"))) (O4:makesIn K Hp=true) (PN:keepIn K (.ref Hp)=true)
  (ZI:nsIn K mainGlobals "Program"=some (some (.ref Pg))) (Oi:plainGet K Pg Str.empty=true) (Qd:hasDictIn K Pg=true) (NZ:plainOver K Pg=true) (Nv:findIn K (.ref Pg) "__setattr__"=some (some (.builtin "object.__setattr__"))) (OT:makesIn K Pg=true) (Px:keepIn K (.ref Pg)=true)
  (ZU:nsIn K mainGlobals "Debt"=some (some (.ref Db))) (OA:plainGet K Db Str.empty=true) (Qp:hasDictIn K Db=true) (Od:plainOver K Db=true) (NK:findIn K (.ref Db) "__setattr__"=some (some (.builtin "object.__setattr__"))) (O6:makesIn K Db=true) (PU:keepIn K (.ref Db)=true)
  (ZX:nsIn K mainGlobals "Book"=some (some (.ref Bk))) (OE:plainGet K Bk Str.empty=true) (Qt:hasDictIn K Bk=true) (Og:plainOver K Bk=true) (NO:findIn K (.ref Bk) "__setattr__"=some (some (.builtin "object.__setattr__"))) (O9:makesIn K Bk=true) (PY:keepIn K (.ref Bk)=true)
  (ZH:nsIn K mainGlobals "Step"=some (some (.ref Sp)))
  (Xn:PySem.W.findCls K (.ref Sp) (.type "type") "__init__"=some (.val (.ref f86)))
  (a1:findIn K (.ref Cs) "__init__"=some (some (.ref f1))) (i1:isFn K (.ref f1)=true)
  (l1:K.lookup f1=some ⟨oc1,od1,.func (fnOf "__init__" "Sum.__init__" A1 B1 S1 .none kV1 dc1 pm1 an1 cd1 ct1),sl1⟩) (zq1:(A1,B1,S1)=(ay xq,aj xq,ai xq)) (c1:codeIn K cd1 "Sum.__init__"=true) (k1:keepIn K (.ref f1)=true)
  (a2:findIn K (.ref Cs) "things"=some (some (.ref f2))) (i2:isFn K (.ref f2)=true)
  (l2:K.lookup f2=some ⟨oc2,od2,.func (fnOf "things" "Sum.things" A2 B2 S2 .none kV2 dc2 pm2 an2 cd2 ct2),sl2⟩) (zq2:(A2,B2,S2)=(ay m6,aj m6,ai m6)) (c2:codeIn K cd2 "Sum.things"=true) (k2:keepIn K (.ref f2)=true)
  (a3:findIn K (.ref Cs) "plus"=some (some (.ref f3))) (i3:isFn K (.ref f3)=true)
  (l3:K.lookup f3=some ⟨oc3,od3,.func (fnOf "plus" "Sum.plus" A3 B3 S3 .none kV3 dc3 pm3 an3 cd3 ct3),sl3⟩) (zq3:(A3,B3,S3)=(ay xm,aj xm,ai xm)) (c3:codeIn K cd3 "Sum.plus"=true) (k3:keepIn K (.ref f3)=true)
  (a4:findIn K (.ref Cs) "times"=some (some (.ref f4))) (i4:isFn K (.ref f4)=true)
  (l4:K.lookup f4=some ⟨oc4,od4,.func (fnOf "times" "Sum.times" A4 B4 S4 .none kV4 dc4 pm4 an4 cd4 ct4),sl4⟩) (zq4:(A4,B4,S4)=(ay qx,aj qx,ai qx)) (c4:codeIn K cd4 "Sum.times"=true) (k4:keepIn K (.ref f4)=true)
  (a5:findIn K (.ref Cs) "less"=some (some (.ref f5))) (i5:isFn K (.ref f5)=true)
  (l5:K.lookup f5=some ⟨oc5,od5,.func (fnOf "less" "Sum.less" A5 B5 S5 .none kV5 dc5 pm5 an5 cd5 ct5),sl5⟩) (zq5:(A5,B5,S5)=(ay xo,aj xo,ai xo)) (c5:codeIn K cd5 "Sum.less"=true) (k5:keepIn K (.ref f5)=true)
  (a6:findIn K (.ref Cs) "told"=some (some (.ref f6))) (i6:isFn K (.ref f6)=true)
  (l6:K.lookup f6=some ⟨oc6,od6,.func (fnOf "told" "Sum.told" A6 B6 S6 .none kV6 dc6 pm6 an6 cd6 ct6),sl6⟩) (zq6:(A6,B6,S6)=(ay ql,aj ql,ai ql)) (c6:codeIn K cd6 "Sum.told"=true) (k6:keepIn K (.ref f6)=true)
  (a7:findIn K (.ref Cc) "__init__"=some (some (.ref f7))) (i7:isFn K (.ref f7)=true)
  (l7:K.lookup f7=some ⟨oc7,od7,.func (fnOf "__init__" "Compare.__init__" A7 B7 S7 .none kV7 dc7 pm7 an7 cd7 ct7),sl7⟩) (zq7:(A7,B7,S7)=(ay qv,aj qv,ai qv)) (c7:codeIn K cd7 "Compare.__init__"=true) (k7:keepIn K (.ref f7)=true)
  (a8:findIn K (.ref Cc) "opposite"=some (some (.ref f8))) (i8:isFn K (.ref f8)=true)
  (l8:K.lookup f8=some ⟨oc8,od8,.func (fnOf "opposite" "Compare.opposite" A8 B8 S8 .none kV8 dc8 pm8 an8 cd8 ct8),sl8⟩) (zq8:(A8,B8,S8)=(ay gI,aj gI,ai gI)) (c8:codeIn K cd8 "Compare.opposite"=true) (k8:keepIn K (.ref f8)=true)
  (a9:findIn K (.ref Cc) "all_sums"=some (some (.ref f9))) (i9:isFn K (.ref f9)=true)
  (l9:K.lookup f9=some ⟨oc9,od9,.func (fnOf "all_sums" "Compare.all_sums" A9 B9 S9 .none kV9 dc9 pm9 an9 cd9 ct9),sl9⟩) (zq9:(A9,B9,S9)=(ay gJ,aj gJ,ai gJ)) (c9:codeIn K cd9 "Compare.all_sums"=true) (k9:keepIn K (.ref f9)=true)
  (a10:findIn K (.ref Cc) "things"=some (some (.ref f10))) (i10:isFn K (.ref f10)=true)
  (l10:K.lookup f10=some ⟨b45,b3O,.func (fnOf "things" "Condition.things" A10 B10 S10 .none b7W c1S b2w c6w a5f c3s),b0R⟩) (Xh:(A10,B10,S10)=(ay j9,aj j9,ai j9)) (c10:codeIn K a5f "Condition.things"=true) (k10:keepIn K (.ref f10)=true)
  (a11:findIn K (.ref Cc) "told"=some (some (.ref f11))) (i11:isFn K (.ref f11)=true)
  (l11:K.lookup f11=some ⟨b44,b3N,.func (fnOf "told" "Compare.told" A11 B11 S11 .none b7V c1R b2v c6v a5e c3r),b0Q⟩) (Xg:(A11,B11,S11)=(ay qu,aj qu,ai qu)) (c11:codeIn K a5e "Compare.told"=true) (k11:keepIn K (.ref f11)=true)
  (UK:findIn K (.ref Ev) "__init__"=some (some (.ref f12))) (i12:isFn K (.ref f12)=true)
  (l12:K.lookup f12=some ⟨b43,b3M,.func (fnOf "__init__" "Several.__init__" A12 B12 S12 .none b7U c1Q b2u c6u a5d c3q),b0P⟩) (Xf:(A12,B12,S12)=(ay Ib,aj Ib,ai Ib)) (c12:codeIn K a5d "Several.__init__"=true) (k12:keepIn K (.ref f12)=true)
  (a13:findIn K (.ref L0) "__init__"=some (some (.ref f13))) (i13:isFn K (.ref f13)=true)
  (l13:K.lookup f13=some ⟨b42,b3L,.func (fnOf "__init__" "Let.__init__" A13 B13 S13 .none b7T c1P b2t c6t a5c c3p),b0O⟩) (Xe:(A13,B13,S13)=(ay HX,aj HX,ai HX)) (c13:codeIn K a5c "Let.__init__"=true) (k13:keepIn K (.ref f13)=true)
  (a14:findIn K (.ref L1) "__init__"=some (some (.ref f14))) (i14:isFn K (.ref f14)=true)
  (l14:K.lookup f14=some ⟨b41,b3K,.func (fnOf "__init__" "Divide.__init__" A14 B14 S14 .none b7S c1O b2s c6s a5b c3o),b0N⟩) (Xd:(A14,B14,S14)=(ay Ie,aj Ie,ai Ie)) (c14:codeIn K a5b "Divide.__init__"=true) (k14:keepIn K (.ref f14)=true)
  (a15:findIn K (.ref L2) "__init__"=some (some (.ref f15))) (i15:isFn K (.ref f15)=true)
  (l15:K.lookup f15=some ⟨b40,b3J,.func (fnOf "__init__" "Fetch.__init__" A15 B15 S15 .none b7R c1N b2r c6r a5a c3n),b0M⟩) (Xc:(A15,B15,S15)=(ay Ia,aj Ia,ai Ia)) (c15:codeIn K a5a "Fetch.__init__"=true) (k15:keepIn K (.ref f15)=true)
  (a16:findIn K (.ref L3) "__init__"=some (some (.ref f16))) (i16:isFn K (.ref f16)=true)
  (l16:K.lookup f16=some ⟨b4Z,b3I,.func (fnOf "__init__" "Put.__init__" A16 B16 S16 .none b7Q c1M b2q c6q a4Z c3m),b0L⟩) (Xb:(A16,B16,S16)=(ay HH,aj HH,ai HH)) (c16:codeIn K a4Z "Put.__init__"=true) (k16:keepIn K (.ref f16)=true)
  (a17:findIn K (.ref L4) "__init__"=some (some (.ref f17))) (i17:isFn K (.ref f17)=true)
  (l17:K.lookup f17=some ⟨b4Y,b3H,.func (fnOf "__init__" "Make.__init__" A17 B17 S17 .none b7P c1L b2p c6p a4Y c3l),b0K⟩) (Xa:(A17,B17,S17)=(ay HW,aj HW,ai HW)) (c17:codeIn K a4Y "Make.__init__"=true) (k17:keepIn K (.ref f17)=true)
  (a18:findIn K (.ref L5) "__init__"=some (some (.ref f18))) (i18:isFn K (.ref f18)=true)
  (l18:K.lookup f18=some ⟨b4X,b3G,.func (fnOf "__init__" "Claim.__init__" A18 B18 S18 .none b7O c1K b2o c6o a4X c3k),b0J⟩) (W9:(A18,B18,S18)=(ay Ih,aj Ih,ai Ih)) (c18:codeIn K a4X "Claim.__init__"=true) (k18:keepIn K (.ref f18)=true)
  (a19:findIn K (.ref L6) "__init__"=some (some (.ref f19))) (i19:isFn K (.ref f19)=true)
  (l19:K.lookup f19=some ⟨b4W,b3F,.func (fnOf "__init__" "Call.__init__" A19 B19 S19 .none b7N c1J b2n c6n a4W c3j),b0I⟩) (W8:(A19,B19,S19)=(ay Ii,aj Ii,ai Ii)) (c19:codeIn K a4W "Call.__init__"=true) (k19:keepIn K (.ref f19)=true)
  (a20:findIn K (.ref L7) "__init__"=some (some (.ref f20))) (i20:isFn K (.ref f20)=true)
  (l20:K.lookup f20=some ⟨b4V,b3E,.func (fnOf "__init__" "Choose.__init__" A20 B20 S20 .none b7M c1I b2m c6k a4V c3i),b0H⟩) (W7:(A20,B20,S20)=(ay Ij,aj Ij,ai Ij)) (c20:codeIn K a4V "Choose.__init__"=true) (k20:keepIn K (.ref f20)=true)
  (a21:findIn K (.ref L8) "__init__"=some (some (.ref f21))) (i21:isFn K (.ref f21)=true)
  (l21:K.lookup f21=some ⟨b4U,b3D,.func (fnOf "__init__" "Repeat.__init__" A21 B21 S21 .none b7L c1H b2l c6j a4U c3h),b0G⟩) (W6:(A21,B21,S21)=(ay Hy,aj Hy,ai Hy)) (c21:codeIn K a4U "Repeat.__init__"=true) (k21:keepIn K (.ref f21)=true)
  (a22:findIn K (.ref Hp) "__init__"=some (some (.ref f22))) (i22:isFn K (.ref f22)=true)
  (l22:K.lookup f22=some ⟨b4T,b3C,.func (fnOf "__init__" "Helper.__init__" A22 B22 S22 .none b7K c1G b2k c6i a4T c3g),b0F⟩) (W5:(A22,B22,S22)=(ay HZ,aj HZ,ai HZ)) (c22:codeIn K a4T "Helper.__init__"=true) (k22:keepIn K (.ref f22)=true)
  (a23:findIn K (.ref Pg) "__init__"=some (some (.ref f23))) (i23:isFn K (.ref f23)=true)
  (l23:K.lookup f23=some ⟨b4S,b3B,.func (fnOf "__init__" "Program.__init__" A23 B23 S23 .none b7J c1F b2j c6h a4S c3f),b0E⟩) (W4:(A23,B23,S23)=(ay HN,aj HN,ai HN)) (c23:codeIn K a4S "Program.__init__"=true) (k23:keepIn K (.ref f23)=true)
  (a24:findIn K (.ref Db) "__init__"=some (some (.ref f24))) (i24:isFn K (.ref f24)=true)
  (l24:K.lookup f24=some ⟨b4R,b3A,.func (fnOf "__init__" "Debt.__init__" A24 B24 S24 .none b7I c1E b2h c6g a4R c3e),b0D⟩) (W3:(A24,B24,S24)=(ay Ig,aj Ig,ai Ig)) (c24:codeIn K a4R "Debt.__init__"=true) (k24:keepIn K (.ref f24)=true)
  (a25:findIn K (.ref Bk) "__init__"=some (some (.ref f25))) (i25:isFn K (.ref f25)=true)
  (l25:K.lookup f25=some ⟨b4Q,b3z,.func (fnOf "__init__" "Book.__init__" A25 B25 S25 .none b7H c1D b2g c6f a4Q c3d),b0C⟩) (W0:(A25,B25,S25)=(ay Io,aj Io,ai Io)) (c25:codeIn K a4Q "Book.__init__"=true) (k25:keepIn K (.ref f25)=true)
  (a26:findIn K (.ref Pg) "named"=some (some (.ref f26))) (i26:isFn K (.ref f26)=true)
  (l26:K.lookup f26=some ⟨b4P,b3y,.func (fnOf "named" "Program.named" A26 B26 S26 .none b7G c1C b2f c6e a4P c3c),b0B⟩) (WZ:(A26,B26,S26)=(ay qp,aj qp,ai qp)) (c26:codeIn K a4P "Program.named"=true) (k26:keepIn K (.ref f26)=true)
  (a27:findIn K (.ref Bk) "owe"=some (some (.ref f27))) (i27:isFn K (.ref f27)=true)
  (l27:K.lookup f27=some ⟨b4O,b3x,.func (fnOf "owe" "Book.owe" A27 B27 S27 .none b7F c1B b2e c6d a4O c3b),b0A⟩) (WY:(A27,B27,S27)=(ay HV,aj HV,ai HV)) (c27:codeIn K a4O "Book.owe"=true) (k27:keepIn K (.ref f27)=true)
  (a28:findIn K (.ref Bk) "owe_each"=some (some (.ref f28))) (i28:isFn K (.ref f28)=true)
  (l28:K.lookup f28=some ⟨b4N,b3w,.func (fnOf "owe_each" "Book.owe_each" A28 B28 S28 .none b7E c1A b2d c6c a4N c3a),b0z⟩) (WX:(A28,B28,S28)=(ay iQ,aj iQ,ai iQ)) (c28:codeIn K a4N "Book.owe_each"=true) (k28:keepIn K (.ref f28)=true)
  (a29:findIn K (.ref L0) "blocks"=some (some (.ref RG))) (TY:isFn K (.ref RG)=true)
  (l29:K.lookup RG=some ⟨b4M,b3v,.func (fnOf "blocks" "Step.blocks" A29 B29 S29 .none b7D c1z b2c c6b a4M c2Z),b0y⟩) (WW:(A29,B29,S29)=(ay wX,aj wX,ai wX)) (c29:codeIn K a4M "Step.blocks"=true) (Rz:keepIn K (.ref RG)=true)
  (a30:findIn K (.ref L7) "blocks"=some (some (.ref f30))) (i30:isFn K (.ref f30)=true)
  (l30:K.lookup f30=some ⟨b4L,b3u,.func (fnOf "blocks" "Choose.blocks" A30 B30 S30 .none b7C c1y b2b c5Z a4L c2Y),b0x⟩) (WV:(A30,B30,S30)=(ay xg,aj xg,ai xg)) (c30:codeIn K a4L "Choose.blocks"=true) (k30:keepIn K (.ref f30)=true)
  (a31:findIn K (.ref L8) "blocks"=some (some (.ref f31))) (i31:isFn K (.ref f31)=true)
  (l31:K.lookup f31=some ⟨b4K,b3t,.func (fnOf "blocks" "Repeat.blocks" A31 B31 S31 .none b7B c1x b2a c5Y a4K c2X),b0w⟩) (WU:(A31,B31,S31)=(ay wY,aj wY,ai wY)) (c31:codeIn K a4K "Repeat.blocks"=true) (k31:keepIn K (.ref f31)=true)
  (a32:findIn K (.ref L0) "writes"=some (some (.ref f32))) (i32:isFn K (.ref f32)=true)
  (l32:K.lookup f32=some ⟨b4J,b3s,.func (fnOf "writes" "Let.writes" A32 B32 S32 .none b7A c1w b19 c5X a4J c2W),b0v⟩) (WT:(A32,B32,S32)=(ay G6,aj G6,ai G6)) (c32:codeIn K a4J "Let.writes"=true) (k32:keepIn K (.ref f32)=true)
  (a33:findIn K (.ref L1) "writes"=some (some (.ref f33))) (i33:isFn K (.ref f33)=true)
  (l33:K.lookup f33=some ⟨b4I,b3r,.func (fnOf "writes" "Divide.writes" A33 B33 S33 .none b7z c1v b18 c5W a4I c2V),b0u⟩) (WS:(A33,B33,S33)=(ay G5,aj G5,ai G5)) (c33:codeIn K a4I "Divide.writes"=true) (k33:keepIn K (.ref f33)=true)
  (a34:findIn K (.ref L2) "writes"=some (some (.ref f34))) (i34:isFn K (.ref f34)=true)
  (l34:K.lookup f34=some ⟨b4H,b3q,.func (fnOf "writes" "Fetch.writes" A34 B34 S34 .none b7y c1u b17 c5V a4H c2U),b0t⟩) (WR:(A34,B34,S34)=(ay G4,aj G4,ai G4)) (c34:codeIn K a4H "Fetch.writes"=true) (k34:keepIn K (.ref f34)=true)
  (a35:findIn K (.ref L3) "writes"=some (some (.ref f35))) (i35:isFn K (.ref f35)=true)
  (l35:K.lookup f35=some ⟨b4G,b3p,.func (fnOf "writes" "Step.writes" A35 B35 S35 .none b7x c1t b16 c5U a4G c2T),b0s⟩) (WQ:(A35,B35,S35)=(ay wW,aj wW,ai wW)) (c35:codeIn K a4G "Step.writes"=true) (Zo:keepIn K (.ref f35)=true)
  (a36:findIn K (.ref L4) "writes"=some (some (.ref f36))) (i36:isFn K (.ref f36)=true)
  (l36:K.lookup f36=some ⟨b4F,b3o,.func (fnOf "writes" "Make.writes" A36 B36 S36 .none b7w c1s b15 c5T a4F c2S),b0r⟩) (WO:(A36,B36,S36)=(ay G3,aj G3,ai G3)) (c36:codeIn K a4F "Make.writes"=true) (k36:keepIn K (.ref f36)=true)
  (a37:findIn K (.ref L6) "writes"=some (some (.ref f37))) (i37:isFn K (.ref f37)=true)
  (l37:K.lookup f37=some ⟨b4E,b3n,.func (fnOf "writes" "Call.writes" A37 B37 S37 .none b7v c1r b14 c5S a4E c2R),b0q⟩) (WN:(A37,B37,S37)=(ay G2,aj G2,ai G2)) (c37:codeIn K a4E "Call.writes"=true) (k37:keepIn K (.ref f37)=true)
  (a38:findIn K (.ref L0) "uses"=some (some (.ref f38))) (i38:isFn K (.ref f38)=true)
  (l38:K.lookup f38=some ⟨b4D,b3m,.func (fnOf "uses" "Let.uses" A38 B38 S38 .none b7u c1q b11 c5R a4D c2Q),b0p⟩) (WM:(A38,B38,S38)=(ay Hv,aj Hv,ai Hv)) (c38:codeIn K a4D "Let.uses"=true) (k38:keepIn K (.ref f38)=true)
  (a39:findIn K (.ref L1) "uses"=some (some (.ref f39))) (i39:isFn K (.ref f39)=true)
  (l39:K.lookup f39=some ⟨b4C,b3l,.func (fnOf "uses" "Divide.uses" A39 B39 S39 .none b7t c1p b10 c5Q a4C c2P),b0o⟩) (WL:(A39,B39,S39)=(ay Ht,aj Ht,ai Ht)) (c39:codeIn K a4C "Divide.uses"=true) (k39:keepIn K (.ref f39)=true)
  (a40:findIn K (.ref L2) "uses"=some (some (.ref f40))) (i40:isFn K (.ref f40)=true)
  (l40:K.lookup f40=some ⟨b4B,b3k,.func (fnOf "uses" "Fetch.uses" A40 B40 S40 .none b7s c1o b1Z c5P a4B c2O),b0n⟩) (WK:(A40,B40,S40)=(ay Hs,aj Hs,ai Hs)) (c40:codeIn K a4B "Fetch.uses"=true) (k40:keepIn K (.ref f40)=true)
  (a41:findIn K (.ref L3) "uses"=some (some (.ref f41))) (i41:isFn K (.ref f41)=true)
  (l41:K.lookup f41=some ⟨b4A,b3j,.func (fnOf "uses" "Put.uses" A41 B41 S41 .none b7r c1n b1Y c5O a4A c2N),b0m⟩) (WJ:(A41,B41,S41)=(ay Hr,aj Hr,ai Hr)) (c41:codeIn K a4A "Put.uses"=true) (k41:keepIn K (.ref f41)=true)
  (a42:findIn K (.ref L4) "uses"=some (some (.ref f42))) (i42:isFn K (.ref f42)=true)
  (l42:K.lookup f42=some ⟨b4z,b3i,.func (fnOf "uses" "Make.uses" A42 B42 S42 .none b7q c1m b1X c5N a4z c2M),b0l⟩) (WI:(A42,B42,S42)=(ay Hq,aj Hq,ai Hq)) (c42:codeIn K a4z "Make.uses"=true) (k42:keepIn K (.ref f42)=true)
  (a43:findIn K (.ref L5) "uses"=some (some (.ref f43))) (i43:isFn K (.ref f43)=true)
  (l43:K.lookup f43=some ⟨b4y,b3h,.func (fnOf "uses" "Claim.uses" A43 B43 S43 .none b7p c1l b1W c5M a4y c2L),b0k⟩) (WH:(A43,B43,S43)=(ay Hh,aj Hh,ai Hh)) (c43:codeIn K a4y "Claim.uses"=true) (k43:keepIn K (.ref f43)=true)
  (a44:findIn K (.ref L6) "uses"=some (some (.ref f44))) (i44:isFn K (.ref f44)=true)
  (l44:K.lookup f44=some ⟨b4x,b3g,.func (fnOf "uses" "Call.uses" A44 B44 S44 .none b7o c1k b1V c5L a4x c2K),b0j⟩) (WG:(A44,B44,S44)=(ay G9,aj G9,ai G9)) (c44:codeIn K a4x "Call.uses"=true) (k44:keepIn K (.ref f44)=true)
  (a45:findIn K (.ref L7) "uses"=some (some (.ref f45))) (i45:isFn K (.ref f45)=true)
  (l45:K.lookup f45=some ⟨b4w,b3f,.func (fnOf "uses" "Choose.uses" A45 B45 S45 .none b7n c1j b1U c5K a4w c2J),b0i⟩) (WE:(A45,B45,S45)=(ay G8,aj G8,ai G8)) (c45:codeIn K a4w "Choose.uses"=true) (k45:keepIn K (.ref f45)=true)
  (a46:findIn K (.ref L8) "uses"=some (some (.ref f46))) (i46:isFn K (.ref f46)=true)
  (l46:K.lookup f46=some ⟨b4v,b3e,.func (fnOf "uses" "Repeat.uses" A46 B46 S46 .none b7m c1i b1T c5J a4v c2I),b0h⟩) (WD:(A46,B46,S46)=(ay G7,aj G7,ai G7)) (c46:codeIn K a4v "Repeat.uses"=true) (k46:keepIn K (.ref f46)=true)
  (a47:nsIn K mainGlobals "sum_of"=some (some (.ref f47)))
  (l47:K.lookup f47=some ⟨b4u,b3d,.func (fnOf "sum_of" "sum_of" A47 B47 S47 .none b7l c1h b1S c5I a4u c2H),b0g⟩) (WC:(A47,B47,S47)=(ay qz,aj qz,ai qz)) (c47:codeIn K a4u "sum_of"=true) (k47:keepIn K (.ref f47)=true)
  (a48:nsIn K mainGlobals "_law_mixed"=some (some (.ref f48)))
  (l48:K.lookup f48=some ⟨b4t,b3c,.func (fnOf "_law_mixed" "_law_mixed" A48 B48 S48 .none b7k c1g b1R c5H a4t c2G),b0f⟩) (WB:(A48,B48,S48)=(ay qA,aj qA,ai qA)) (c48:codeIn K a4t "_law_mixed"=true) (k48:keepIn K (.ref f48)=true)
  (a49:nsIn K mainGlobals "_law_cell_at"=some (some (.ref f49)))
  (l49:K.lookup f49=some ⟨b4s,b3b,.func (fnOf "_law_cell_at" "_law_cell_at" A49 B49 S49 .none b7j c1f b1Q c5G a4s c2F),b0e⟩) (WA:(A49,B49,S49)=(ay m7,aj m7,ai m7)) (c49:codeIn K a4s "_law_cell_at"=true) (k49:keepIn K (.ref f49)=true)
  (a50:nsIn K mainGlobals "as_pairs"=some (some (.ref f50)))
  (l50:K.lookup f50=some ⟨b4r,b3a,.func (fnOf "as_pairs" "as_pairs" A50 B50 S50 .none b7i c1e b1P c5F a4r c2E),b0d⟩) (Wz:(A50,B50,S50)=(ay iY,aj iY,ai iY)) (c50:codeIn K a4r "as_pairs"=true) (k50:keepIn K (.ref f50)=true)
  (a51:nsIn K mainGlobals "once"=some (some (.ref f51)))
  (l51:K.lookup f51=some ⟨b4q,b29,.func (fnOf "once" "once" A51 B51 S51 .none b7h c1d b1O c5E a4q c2D),b0c⟩) (Wy:(A51,B51,S51)=(ay w6,aj w6,ai w6)) (c51:codeIn K a4q "once"=true) (k51:keepIn K (.ref f51)=true)
  (a52:nsIn K mainGlobals "length_of"=some (some (.ref f52)))
  (l52:K.lookup f52=some ⟨b4p,b28,.func (fnOf "length_of" "length_of" A52 B52 S52 .none b7g c1c b1N c5D a4p c2C),b0b⟩) (Wx:(A52,B52,S52)=(ay gA,aj gA,ai gA)) (c52:codeIn K a4p "length_of"=true) (k52:keepIn K (.ref f52)=true)
  (a53:nsIn K mainGlobals "steps_within"=some (some (.ref f53)))
  (l53:K.lookup f53=some ⟨b4o,b27,.func (fnOf "steps_within" "steps_within" A53 B53 S53 .none b7f c1b b1M c5C a4o c2B),b0a⟩) (Ww:(A53,B53,S53)=(ay dS,aj dS,ai dS)) (c53:codeIn K a4o "steps_within"=true) (k53:keepIn K (.ref f53)=true)
  (a54:nsIn K mainGlobals "rows_of_step"=some (some (.ref f54)))
  (l54:K.lookup f54=some ⟨b4n,b26,.func (fnOf "rows_of_step" "rows_of_step" A54 B54 S54 .none b7e c1a b1L c5B a4n c2A),a99⟩) (Wv:(A54,B54,S54)=(ay dU,aj dU,ai dU)) (c54:codeIn K a4n "rows_of_step"=true) (k54:keepIn K (.ref f54)=true)
  (a55:nsIn K mainGlobals "other_things"=some (some (.ref f55)))
  (l55:K.lookup f55=some ⟨b4m,b25,.func (fnOf "other_things" "other_things" A55 B55 S55 .none b7d c09 b1K c5A a4m c2z),a98⟩) (Wu:(A55,B55,S55)=(ay dW,aj dW,ai dW)) (c55:codeIn K a4m "other_things"=true) (k55:keepIn K (.ref f55)=true)
  (a56:nsIn K mainGlobals "things_written"=some (some (.ref f56)))
  (l56:K.lookup f56=some ⟨b4l,b24,.func (fnOf "things_written" "things_written" A56 B56 S56 .none b7c c08 b1J c5z a4l c2y),a97⟩) (Wt:(A56,B56,S56)=(ay cR,aj cR,ai cR)) (c56:codeIn K a4l "things_written"=true) (k56:keepIn K (.ref f56)=true)
  (a57:nsIn K mainGlobals "is_length"=some (some (.ref f57)))
  (l57:K.lookup f57=some ⟨b4k,b23,.func (fnOf "is_length" "is_length" A57 B57 S57 .none b7b c07 b1I c5y a4k c2x),a96⟩) (Ws:(A57,B57,S57)=(ay gD,aj gD,ai gD)) (c57:codeIn K a4k "is_length"=true) (k57:keepIn K (.ref f57)=true)
  (a58:nsIn K mainGlobals "debts"=some (some (.ref f58)))
  (l58:K.lookup f58=some ⟨b4j,b22,.func (fnOf "debts" "debts" A58 B58 S58 .none b7a c06 b1H c5x a4j c2w),a95⟩) (Wr:(A58,B58,S58)=(ay qt,aj qt,ai qt)) (c58:codeIn K a4j "debts"=true) (k58:keepIn K (.ref f58)=true)
  (a59:nsIn K mainGlobals "count_paths"=some (some (.ref f59)))
  (l59:K.lookup f59=some ⟨b4i,b21,.func (fnOf "count_paths" "count_paths" A59 B59 S59 .none b69 c05 b1G c5w a4i c2v),a94⟩) (Wq:(A59,B59,S59)=(ay fq,aj fq,ai fq)) (c59:codeIn K a4i "count_paths"=true) (k59:keepIn K (.ref f59)=true)
  (a60:nsIn K mainGlobals "at_most"=some (some (.ref f60)))
  (l60:K.lookup f60=some ⟨b4h,b20,.func (fnOf "at_most" "at_most" A60 B60 S60 .none b68 c04 b1F c5v a4h c2u),a93⟩) (Wo:(A60,B60,S60)=(ay kj,aj kj,ai kj)) (c60:codeIn K a4h "at_most"=true) (k60:keepIn K (.ref f60)=true)
  (a61:nsIn K mainGlobals "from_nought"=some (some (.ref f61)))
  (l61:K.lookup f61=some ⟨b4g,b2Z,.func (fnOf "from_nought" "from_nought" A61 B61 S61 .none b66 c03 b1E c5u a4g c2t),a92⟩) (Wn:(A61,B61,S61)=(ay fm,aj fm,ai fm)) (c61:codeIn K a4g "from_nought"=true) (k61:keepIn K (.ref f61)=true)
  (a62:nsIn K mainGlobals "let"=some (some (.ref f62)))
  (l62:K.lookup f62=some ⟨b4f,b2Y,.func (fnOf "let" "let" A62 B62 S62 .none b65 c02 b1D c5t a4f c2s),a91⟩) (Wm:(A62,B62,S62)=(ay HY,aj HY,ai HY)) (c62:codeIn K a4f "let"=true) (k62:keepIn K (.ref f62)=true)
  (a63:nsIn K mainGlobals "hold"=some (some (.ref f63)))
  (l63:K.lookup f63=some ⟨b4e,b2X,.func (fnOf "hold" "hold" A63 B63 S63 .none b64 c01 b1C c5s a4e c2r),a90⟩) (Wl:(A63,B63,S63)=(ay w9,aj w9,ai w9)) (c63:codeIn K a4e "hold"=true) (k63:keepIn K (.ref f63)=true)
  (a64:nsIn K mainGlobals "holds_of"=some (some (.ref f64)))
  (l64:K.lookup f64=some ⟨b4d,b2W,.func (fnOf "holds_of" "holds_of" A64 B64 S64 .none b63 c00 b1B c5r a4d c2q),a9Z⟩) (Wk:(A64,B64,S64)=(ay iU,aj iU,ai iU)) (c64:codeIn K a4d "holds_of"=true) (k64:keepIn K (.ref f64)=true)
  (a65:nsIn K mainGlobals "rows_of_any"=some (some (.ref f65)))
  (l65:K.lookup f65=some ⟨b4c,b2V,.func (fnOf "rows_of_any" "rows_of_any" A65 B65 S65 .none b62 c0Z b1A c5q a4c c2p),a9Y⟩) (Wj:(A65,B65,S65)=(ay fh,aj fh,ai fh)) (c65:codeIn K a4c "rows_of_any"=true) (k65:keepIn K (.ref f65)=true)
  (a66:nsIn K mainGlobals "path_at_first"=some (some (.ref f66)))
  (l66:K.lookup f66=some ⟨b4b,b2U,.func (fnOf "path_at_first" "path_at_first" A66 B66 S66 .none b61 c0Y b1z c5p a4b c2o),a9X⟩) (Wi:(A66,B66,S66)=(ay dh,aj dh,ai dh)) (c66:codeIn K a4b "path_at_first"=true) (k66:keepIn K (.ref f66)=true)
  (a67:nsIn K mainGlobals "go_steps"=some (some (.ref f67)))
  (l67:K.lookup f67=some ⟨b4a,b2T,.func (fnOf "go_steps" "go_steps" A67 B67 S67 .none b60 c0X b1y c5o a4a c2n),a9W⟩) (Wh:(A67,B67,S67)=(ay iV,aj iV,ai iV)) (c67:codeIn K a4a "go_steps"=true) (k67:keepIn K (.ref f67)=true)
  (a68:nsIn K mainGlobals "go_step"=some (some (.ref f68)))
  (l68:K.lookup f68=some ⟨b39,b2S,.func (fnOf "go_step" "go_step" A68 B68 S68 .none b6Z c0W b1x c5n a3Z c2m),a9V⟩) (Wg:(A68,B68,S68)=(ay j7,aj j7,ai j7)) (c68:codeIn K a3Z "go_step"=true) (k68:keepIn K (.ref f68)=true)
  (a69:nsIn K mainGlobals "go_plain"=some (some (.ref f69)))
  (l69:K.lookup f69=some ⟨b38,b2R,.func (fnOf "go_plain" "go_plain" A69 B69 S69 .none b6Y c0V b1w c5m a3Y c2l),a9U⟩) (Wf:(A69,B69,S69)=(ay iX,aj iX,ai iX)) (c69:codeIn K a3Y "go_plain"=true) (k69:keepIn K (.ref f69)=true)
  (a70:nsIn K mainGlobals "is_within"=some (some (.ref f70)))
  (l70:K.lookup f70=some ⟨b37,b2Q,.func (fnOf "is_within" "is_within" A70 B70 S70 .none b6X c0U b1v c5l a3X c2k),a9T⟩) (We:(A70,B70,S70)=(ay gC,aj gC,ai gC)) (c70:codeIn K a3X "is_within"=true) (k70:keepIn K (.ref f70)=true)
  (a71:nsIn K mainGlobals "go_divide"=some (some (.ref f71)))
  (l71:K.lookup f71=some ⟨b36,b2P,.func (fnOf "go_divide" "go_divide" A71 B71 S71 .none b6W c0T b1u c5k a3W c2j),a9S⟩) (Wd:(A71,B71,S71)=(ay gF,aj gF,ai gF)) (c71:codeIn K a3W "go_divide"=true) (k71:keepIn K (.ref f71)=true)
  (a72:nsIn K mainGlobals "is_quotient"=some (some (.ref f72)))
  (l72:K.lookup f72=some ⟨b35,b2O,.func (fnOf "is_quotient" "is_quotient" A72 B72 S72 .none b6V c0S b1t c5j a3V c2i),a9R⟩) (Wc:(A72,B72,S72)=(ay fk,aj fk,ai fk)) (c72:codeIn K a3V "is_quotient"=true) (k72:keepIn K (.ref f72)=true)
  (a73:nsIn K mainGlobals "go_choose"=some (some (.ref f73)))
  (l73:K.lookup f73=some ⟨b34,b2N,.func (fnOf "go_choose" "go_choose" A73 B73 S73 .none b6U c0R b1s c5i a3U c2h),a9Q⟩) (Wb:(A73,B73,S73)=(ay gG,aj gG,ai gG)) (c73:codeIn K a3U "go_choose"=true) (k73:keepIn K (.ref f73)=true)
  (a74:nsIn K mainGlobals "go_repeat"=some (some (.ref f74)))
  (l74:K.lookup f74=some ⟨b33,b2M,.func (fnOf "go_repeat" "go_repeat" A74 B74 S74 .none b6T c0Q b1r c5h a3T c2g),a9P⟩) (Wa:(A74,B74,S74)=(ay gE,aj gE,ai gE)) (c74:codeIn K a3T "go_repeat"=true) (k74:keepIn K (.ref f74)=true)
  (a75:nsIn K mainGlobals "go_round"=some (some (.ref f75)))
  (l75:K.lookup f75=some ⟨b32,b2L,.func (fnOf "go_round" "go_round" A75 B75 S75 .none b6S c0P b1q c5g a3S c2f),a9O⟩) (V9:(A75,B75,S75)=(ay iW,aj iW,ai iW)) (c75:codeIn K a3S "go_round"=true) (k75:keepIn K (.ref f75)=true)
  (a76:nsIn K mainGlobals "go_call"=some (some (.ref f76)))
  (l76:K.lookup f76=some ⟨b31,b2K,.func (fnOf "go_call" "go_call" A76 B76 S76 .none b6R c0O b1p c5f a3R c2e),a9N⟩) (V8:(A76,B76,S76)=(ay j8,aj j8,ai j8)) (c76:codeIn K a3R "go_call"=true) (k76:keepIn K (.ref f76)=true)
  (a77:nsIn K mainGlobals "is_owing"=some (some (.ref f77)))
  (l77:K.lookup f77=some ⟨b30,b2J,.func (fnOf "is_owing" "is_owing" A77 B77 S77 .none b6Q c0N b1o c5e a3Q c2d),a9M⟩) (V7:(A77,B77,S77)=(ay iT,aj iT,ai iT)) (c77:codeIn K a3Q "is_owing"=true) (k77:keepIn K (.ref f77)=true)
  (a78:nsIn K mainGlobals "_law_next"=some (some (.ref f78)))
  (l78:K.lookup f78=some ⟨b3Z,b2I,.func (fnOf "_law_next" "_law_next" A78 B78 S78 .none b6P c0M b1n c5d a3P c2c),a9L⟩) (V6:(A78,B78,S78)=(ay mZ,aj mZ,ai mZ)) (c78:codeIn K a3P "_law_next"=true) (k78:keepIn K (.ref f78)=true)
  (a79:nsIn K mainGlobals "_law_names"=some (some (.ref f79)))
  (l79:K.lookup f79=some ⟨b3Y,b2H,.func (fnOf "_law_names" "_law_names" A79 B79 S79 .none b6O c0L b1m c5c a3O c2b),a9K⟩) (V5:(A79,B79,S79)=(ay j6,aj j6,ai j6)) (c79:codeIn K a3O "_law_names"=true) (k79:keepIn K (.ref f79)=true)
  (a80:nsIn K mainGlobals "_law_compare"=some (some (.ref f80)))
  (l80:K.lookup f80=some ⟨b3X,b2G,.func (fnOf "_law_compare" "_law_compare" A80 B80 S80 .none b6N c0K b1l c5b a3N c2a),a9J⟩) (V4:(A80,B80,S80)=(ay gB,aj gB,ai gB)) (c80:codeIn K a3N "_law_compare"=true) (k80:keepIn K (.ref f80)=true)
  (a81:nsIn K mainGlobals "_law_step"=some (some (.ref f81)))
  (l81:K.lookup f81=some ⟨b3W,b2F,.func (fnOf "_law_step" "_law_step" A81 B81 S81 .none b6M c0J b1k c5a a3M c1Z),a9I⟩) (V3:(A81,B81,S81)=(ay mY,aj mY,ai mY)) (c81:codeIn K a3M "_law_step"=true) (k81:keepIn K (.ref f81)=true)
  (a82:nsIn K mainGlobals "_law_steps"=some (some (.ref f82)))
  (l82:K.lookup f82=some ⟨b3V,b2E,.func (fnOf "_law_steps" "_law_steps" A82 B82 S82 .none b6L c0I b1j c4Z a3L c1Y),a9H⟩) (V2:(A82,B82,S82)=(ay j4,aj j4,ai j4)) (c82:codeIn K a3L "_law_steps"=true) (k82:keepIn K (.ref f82)=true)
  (a83:nsIn K mainGlobals "_law_callee"=some (some (.ref f83)))
  (l83:K.lookup f83=some ⟨b3U,b2D,.func (fnOf "_law_callee" "_law_callee" A83 B83 S83 .none b6K c0H b1i c4Y a3K c1X),a9G⟩) (V1:(A83,B83,S83)=(ay iS,aj iS,ai iS)) (c83:codeIn K a3K "_law_callee"=true) (k83:keepIn K (.ref f83)=true)
  (a84:nsIn K mainGlobals "_law_wanted"=some (some (.ref f84)))
  (l84:K.lookup f84=some ⟨b3T,b2C,.func (fnOf "_law_wanted" "_law_wanted" A84 B84 S84 .none b6J c0G b1h c4X a3J c1W),a9F⟩) (V0:(A84,B84,S84)=(ay iR,aj iR,ai iR)) (c84:codeIn K a3J "_law_wanted"=true) (k84:keepIn K (.ref f84)=true)
  (a85:nsIn K mainGlobals "law"=some (some (.ref f85)))
  (l85:K.lookup f85=some ⟨b3S,b2B,.func (fnOf "law" "law" A85 B85 S85 .none a2p a3u a1O a5r a0q a3H),a9E⟩) (VZ:(A85,B85,S85)=(ay yU,aj yU,ai yU)) (c85:codeIn K a0q "law"=true) (k85:keepIn K (.ref f85)=true)
  (l86:K.lookup f86=some ⟨b3R,b2A,.func (fnOf "__init__" "Step.__init__" A86 B86 S86 .none b6I c0F b1g c4W a3I c1V),a9D⟩) (VY:(A86,B86,S86)=(ay Hx,aj Hx,ai Hx)) (c86:codeIn K a3I "Step.__init__"=true) (k86:keepIn K (.ref f86)=true)
  (ES:findIn K (.ref L1) "blocks"=some (some (.ref RG)))
  (ER:findIn K (.ref L2) "blocks"=some (some (.ref RG)))
  (EO:findIn K (.ref L3) "blocks"=some (some (.ref RG)))
  (EN:findIn K (.ref L4) "blocks"=some (some (.ref RG)))
  (EM:findIn K (.ref L5) "blocks"=some (some (.ref RG)))
  (EL:findIn K (.ref L6) "blocks"=some (some (.ref RG)))
  (EK:findIn K (.ref L5) "writes"=some (some (.ref f35)))
  (EJ:findIn K (.ref L7) "writes"=some (some (.ref f35)))
  (EI:findIn K (.ref L8) "writes"=some (some (.ref f35)))
  (Be:findIn K (.ref L0) "at"=some none)
  (uH:findIn K (.ref L0) "name"=some none)
  (qL:findIn K (.ref L0) "total"=some none)
  (Bd:findIn K (.ref L1) "at"=some none)
  (uG:findIn K (.ref L1) "name"=some none)
  (uF:findIn K (.ref L1) "word"=some none)
  (qK:findIn K (.ref L1) "total"=some none)
  (Bc:findIn K (.ref L1) "by"=some none)
  (Bb:findIn K (.ref L2) "at"=some none)
  (uE:findIn K (.ref L2) "name"=some none)
  (xM:findIn K (.ref L2) "row"=some none)
  (qJ:findIn K (.ref L2) "place"=some none)
  (Ba:findIn K (.ref L3) "at"=some none)
  (xK:findIn K (.ref L3) "row"=some none)
  (qI:findIn K (.ref L3) "place"=some none)
  (qH:findIn K (.ref L3) "total"=some none)
  (AZ:findIn K (.ref L4) "at"=some none)
  (xJ:findIn K (.ref L4) "row"=some none)
  (uD:findIn K (.ref L4) "size"=some none)
  (AY:findIn K (.ref L5) "at"=some none)
  (kD:findIn K (.ref L5) "condition"=some none)
  (AX:findIn K (.ref L6) "at"=some none)
  (qF:findIn K (.ref L6) "names"=some none)
  (oO:findIn K (.ref L6) "helper"=some none)
  (qG:findIn K (.ref L6) "given"=some none)
  (AW:findIn K (.ref L7) "at"=some none)
  (kC:findIn K (.ref L7) "condition"=some none)
  (uC:findIn K (.ref L7) "then"=some none)
  (qE:findIn K (.ref L7) "other"=some none)
  (AV:findIn K (.ref L8) "at"=some none)
  (kB:findIn K (.ref L8) "condition"=some none)
  (qC:findIn K (.ref L8) "keeps"=some none)
  (qD:findIn K (.ref L8) "falls"=some none)
  (uB:findIn K (.ref L8) "body"=some none)
  (Bf:findIn K (.ref Hp) "at"=some none)
  (uI:findIn K (.ref Hp) "name"=some none)
  (oQ:findIn K (.ref Hp) "params"=some none)
  (ni:findIn K (.ref Hp) "answers"=some none)
  (qN:findIn K (.ref Hp) "needs"=some none)
  (qO:findIn K (.ref Hp) "gives"=some none)
  (qM:findIn K (.ref Hp) "steps"=some none)
  (ng:findIn K (.ref Pg) "helpers"=some none)
  (uJ:findIn K (.ref Db) "kind"=some none)
  (Bg:findIn K (.ref Db) "at"=some none)
  (qP:findIn K (.ref Db) "ahead"=some none)
  (kE:findIn K (.ref Db) "condition"=some none)
  (nq:findIn K (.ref Bk) "program"=some none)
  (qS:findIn K (.ref Bk) "found"=some none)
  (qQ:findIn K (.ref Cs) "terms"=some none)
  (oR:findIn K (.ref Cs) "number"=some none)
  (xN:findIn K (.ref Cc) "one"=some none)
  (uK:findIn K (.ref Cc) "sign"=some none)
  (qR:findIn K (.ref Cc) "other"=some none)
  (jG:findIn K (.ref Ev) "conditions"=some none)
  (MR:nsIn K mainGlobals "len"=some none)
  (MO:nsIn K mainGlobals "sum"=some none)
  (wM:nsIn K mainGlobals "sorted"=some none)
  (EG:nsIn K mainGlobals "list"=some none)
  (Ab:nsIn K mainGlobals "tuple"=some none)
  (mU:nsIn K mainGlobals "isinstance"=some none)
  (Ac:nsIn K mainGlobals "range"=some none)
  (MU:nsIn K mainGlobals "abs"=some none)
  (MP:nsIn K mainGlobals "str"=some none)
  (MS:nsIn K mainGlobals "int"=some none)
  (EH:nsIn K mainGlobals "dict"=some none)
  (MT:nsIn K mainGlobals "any"=some none)
  (MQ:nsIn K mainGlobals "set"=some none)
  (MN:nsIn K mainGlobals "zip"=some none)
  (oA:nsIn K mainGlobals "enumerate"=some none)
  (Xw:PySem.W.specialIn K (.builtin "object.__class__") "__get__"=some (some (.builtin "getset_descriptor.__get__")))
  (Xv:PySem.W.takesIn K (.builtin "object.__class__")=some true)
  (Xm:PySem.W.specialIn K (.ref Sp) "__getattribute__"=some (some (.builtin "type.__getattribute__")))
  (Xl:PySem.W.readsIn K Sp (.type "type")=true)
  (Xu:nsIn K mainGlobals "MOST_DEBTS"=some (some (.int 100 tD1)))
  (Xs:nsIn K mainGlobals "MOST_PATHS"=some (some (.int 16 tD2)))
  (Xr:nsIn K mainGlobals "DIVIDED"=some (some (.str "^" tD3)))
  (Xq:nsIn K mainGlobals "QUOTIENT"=some (some (.str "^^" tD4)))
  (GY:findIn K (.ref Cs) "__class__"=some (some (.builtin "object.__class__")))
  (GN:mroIn K Cs (.type "object")=some true)
  (GX:findIn K (.ref L0) "__class__"=some (some (.builtin "object.__class__")))
  (GL:mroIn K L0 (.type "object")=some true)
  (GW:findIn K (.ref L1) "__class__"=some (some (.builtin "object.__class__")))
  (GK:mroIn K L1 (.type "object")=some true)
  (GV:findIn K (.ref L2) "__class__"=some (some (.builtin "object.__class__")))
  (GJ:mroIn K L2 (.type "object")=some true)
  (GU:findIn K (.ref L3) "__class__"=some (some (.builtin "object.__class__")))
  (GI:mroIn K L3 (.type "object")=some true)
  (GS:findIn K (.ref L4) "__class__"=some (some (.builtin "object.__class__")))
  (GH:mroIn K L4 (.type "object")=some true)
  (GR:findIn K (.ref L5) "__class__"=some (some (.builtin "object.__class__")))
  (GG:mroIn K L5 (.type "object")=some true)
  (GQ:findIn K (.ref L6) "__class__"=some (some (.builtin "object.__class__")))
  (GF:mroIn K L6 (.type "object")=some true)
  (GP:findIn K (.ref L7) "__class__"=some (some (.builtin "object.__class__")))
  (GD:mroIn K L7 (.type "object")=some true)
  (GO:findIn K (.ref L8) "__class__"=some (some (.builtin "object.__class__")))
  (GC:mroIn K L8 (.type "object")=some true)
  (GB:kitOne K (.ref L0) (.ref L0)=some true)
  (GA:kitOne K (.ref L0) (.ref L1)=some false)
  (Gz:kitOne K (.ref L0) (.ref L2)=some false)
  (Gy:kitOne K (.ref L0) (.ref L4)=some false)
  (Gx:kitOne K (.ref L0) (.ref L5)=some false)
  (Gw:kitOne K (.ref L0) (.ref L6)=some false)
  (Gv:kitOne K (.ref L0) (.ref L7)=some false)
  (Gu:kitOne K (.ref L0) (.ref L8)=some false)
  (Gs:kitOne K (.ref L1) (.ref L0)=some false)
  (Gr:kitOne K (.ref L1) (.ref L1)=some true)
  (Gq:kitOne K (.ref L1) (.ref L2)=some false)
  (Gp:kitOne K (.ref L1) (.ref L4)=some false)
  (Gn:kitOne K (.ref L1) (.ref L5)=some false)
  (Gm:kitOne K (.ref L1) (.ref L6)=some false)
  (Gk:kitOne K (.ref L1) (.ref L7)=some false)
  (Gj:kitOne K (.ref L1) (.ref L8)=some false)
  (Gi:kitOne K (.ref L2) (.ref L0)=some false)
  (Gh:kitOne K (.ref L2) (.ref L1)=some false)
  (Gg:kitOne K (.ref L2) (.ref L2)=some true)
  (Gf:kitOne K (.ref L2) (.ref L4)=some false)
  (Ge:kitOne K (.ref L2) (.ref L5)=some false)
  (Gd:kitOne K (.ref L2) (.ref L6)=some false)
  (Gb:kitOne K (.ref L2) (.ref L7)=some false)
  (Ga:kitOne K (.ref L2) (.ref L8)=some false)
  (F0:kitOne K (.ref L3) (.ref L0)=some false)
  (FZ:kitOne K (.ref L3) (.ref L1)=some false)
  (FY:kitOne K (.ref L3) (.ref L2)=some false)
  (FW:kitOne K (.ref L3) (.ref L4)=some false)
  (FU:kitOne K (.ref L3) (.ref L5)=some false)
  (FT:kitOne K (.ref L3) (.ref L6)=some false)
  (FQ:kitOne K (.ref L3) (.ref L7)=some false)
  (FP:kitOne K (.ref L3) (.ref L8)=some false)
  (FO:kitOne K (.ref L4) (.ref L0)=some false)
  (FN:kitOne K (.ref L4) (.ref L1)=some false)
  (FL:kitOne K (.ref L4) (.ref L2)=some false)
  (FJ:kitOne K (.ref L4) (.ref L4)=some true)
  (FI:kitOne K (.ref L4) (.ref L5)=some false)
  (FH:kitOne K (.ref L4) (.ref L6)=some false)
  (FG:kitOne K (.ref L4) (.ref L7)=some false)
  (FE:kitOne K (.ref L4) (.ref L8)=some false)
  (FD:kitOne K (.ref L5) (.ref L0)=some false)
  (FA:kitOne K (.ref L5) (.ref L1)=some false)
  (Fz:kitOne K (.ref L5) (.ref L2)=some false)
  (Fy:kitOne K (.ref L5) (.ref L4)=some false)
  (Fx:kitOne K (.ref L5) (.ref L5)=some true)
  (Fw:kitOne K (.ref L5) (.ref L6)=some false)
  (Fv:kitOne K (.ref L5) (.ref L7)=some false)
  (Ft:kitOne K (.ref L5) (.ref L8)=some false)
  (Fq:kitOne K (.ref L6) (.ref L0)=some false)
  (Fp:kitOne K (.ref L6) (.ref L1)=some false)
  (Fo:kitOne K (.ref L6) (.ref L2)=some false)
  (Fl:kitOne K (.ref L6) (.ref L4)=some false)
  (Fj:kitOne K (.ref L6) (.ref L5)=some false)
  (Fi:kitOne K (.ref L6) (.ref L6)=some true)
  (Fg:kitOne K (.ref L6) (.ref L7)=some false)
  (Ff:kitOne K (.ref L6) (.ref L8)=some false)
  (Fe:kitOne K (.ref L7) (.ref L0)=some false)
  (Fd:kitOne K (.ref L7) (.ref L1)=some false)
  (Fc:kitOne K (.ref L7) (.ref L2)=some false)
  (Fb:kitOne K (.ref L7) (.ref L4)=some false)
  (E9:kitOne K (.ref L7) (.ref L5)=some false)
  (E8:kitOne K (.ref L7) (.ref L6)=some false)
  (E7:kitOne K (.ref L7) (.ref L7)=some true)
  (E2:kitOne K (.ref L7) (.ref L8)=some false)
  (E1:kitOne K (.ref L8) (.ref L0)=some false)
  (EZ:kitOne K (.ref L8) (.ref L1)=some false)
  (EY:kitOne K (.ref L8) (.ref L2)=some false)
  (EX:kitOne K (.ref L8) (.ref L4)=some false)
  (EW:kitOne K (.ref L8) (.ref L5)=some false)
  (EV:kitOne K (.ref L8) (.ref L6)=some false)
  (EU:kitOne K (.ref L8) (.ref L7)=some false)
  (ET:kitOne K (.ref L8) (.ref L8)=some true)
  (Xp:nsIn K mainGlobals "OPPOSITE_SIGNS"=some (some (.ref OD)))
  (Xo:K.lookup OD=some ⟨.type "dict",none,.dict #[⟨PyData.keyHash w.params "<",.str "<" t1,.str ">=" u1⟩,⟨PyData.keyHash w.params ">=",.str ">=" t2,.str "<" u2⟩,⟨PyData.keyHash w.params "<=",.str "<=" t3,.str ">" u3⟩,⟨PyData.keyHash w.params ">",.str ">" t4,.str "<=" u4⟩,⟨PyData.keyHash w.params "=",.str "=" t5,.str "!=" u5⟩,⟨PyData.keyHash w.params "!=",.str "!=" t6,.str "=" u6⟩] oe,#[]⟩)
 :∃ fd:FuncData,(∀ (s:Shared) (v:Value),BindsTo s fd ⟨[v],[]⟩ [("_law_script",v)])∧∀ base:Heap,K.In base→base.Ns mainGlobals mg→aM l.prog w K mg base bP 60 fa fd ["_law_script"] (J3 K):=by
 have e:=hfa.symm.trans (mg_of X G a85)
 cases e
 let Y:Cy:=(⟨⟨Cs,Cc,Cs,Ev,Cs⟩,Sp,L0,L1,L2,L3,L4,L5,L6,L7,L8,Hp,Pg⟩:Cy)
 have T:Txt K mg Y.z.s:=⟨⟨OB,Qq,Oe,NL⟩,qQ,oR,mg_of X G ZV,mg_none_of X G MR,mg_none_of X G MO,mg_none_of X G wM,mg_none_of X G EG,mg_none_of X G Ab,mg_none_of X G mU,mg_none_of X G Ac,mg_none_of X G MU,mg_none_of X G MP,mg_none_of X G MS,mg_none_of X G EH,GY,Xw,Xv,GN,TU K Cs,TR K⟩
 have cl9:∀ j,j < 9→wL K (fc Y j):=uQ ⟨Ow,Qm,Oa,NH⟩ ⟨Ov,Ql,N9,NG⟩ ⟨Ou,Qk,N8,NF⟩ ⟨Ot,Qj,N7,ND⟩ ⟨Oq,Qi,N6,NC⟩ ⟨Oo,Qh,N5,NB⟩ ⟨Om,Qg,N4,Nz⟩ ⟨Ol,Qf,N3,Ny⟩ ⟨Oj,Qe,N1,Nx⟩
 have na9:∀ j x,j < 9→x∈fN j→cu K (fc Y j) x:=fun j x hj=>uQ (P:=fun j=>∀ x,x∈fN j→cu K (fc Y j) x) (mc Be (mc uH (mc qL mn))) (mc Bd (mc uG (mc uF (mc qK (mc Bc mn))))) (mc Bb (mc uE (mc xM (mc qJ mn)))) (mc Ba (mc xK (mc qI (mc qH mn)))) (mc AZ (mc xJ (mc uD mn))) (mc AY (mc kD mn)) (mc AX (mc qF (mc oO (mc qG mn)))) (mc AW (mc kC (mc uC (mc qE mn)))) (mc AV (mc kB (mc qC (mc qD (mc uB mn))))) j hj x
 have naH:∀ x∈hN,cu K Hp x:=mc Bf (mc uI (mc oQ (mc ni (mc qN (mc qO (mc qM mn))))))
 have naD:∀ x∈(["kind","at","ahead","condition"]:List Str),cu K Db x:=mc uJ (mc Bg (mc qP (mc kE mn)))
 have naB:∀ x∈(["program","found"]:List Str),cu K Bk x:=mc nq (mc qS mn)
 have kk9:∀ j i,j < 9→i∈([0,1,2,4,5,6,7,8]:List Nat)→kitOne K (.ref (fc Y j)) (.ref (fc Y i))=some (decide (j=i)):=fun j i hj hi=>uQ (P:=fun j=>∀ i,i∈([0,1,2,4,5,6,7,8]:List Nat)→kitOne K (.ref (fc Y j)) (.ref (fc Y i))=some (decide (j=i))) (nM GB GA Gz Gy Gx Gw Gv Gu) (nM Gs Gr Gq Gp Gn Gm Gk Gj) (nM Gi Gh Gg Gf Ge Gd Gb Ga) (nM F0 FZ FY FW FU FT FQ FP) (nM FO FN FL FJ FI FH FG FE) (nM FD FA Fz Fy Fx Fw Fv Ft) (nM Fq Fp Fo Fl Fj Fi Fg Ff) (nM Fe Fd Fc Fb E9 E8 E7 E2) (nM E1 EZ EY EX EW EV EU ET) j hj i hi
 have J:dI K mg Y f86 Db Bk:=⟨cl9,na9,uQ GX GW GV GU GS GR GQ GP GO,uQ GL GK GJ GI GH GG GF GD GC,kk9,⟨Ox,Qn,Ob,NI⟩,naH,⟨Oi,Qd,NZ,Nv⟩,ng,⟨OA,Qp,Od,NK⟩,naD,⟨OE,Qt,Og,NO⟩,naB,⟨OC,Qs,Of,NN⟩,xN,uK,qR,⟨Oz,Qo,Oc,NJ⟩,jG,mg_of X G ZW,mg_of X G ZT,mg_of X G ZH,mg_of X G ZR,mg_of X G ZQ,mg_of X G ZP,mg_of X G ZO,mg_of X G ZN,mg_of X G ZM,mg_of X G ZL,mg_of X G ZK,mg_of X G ZJ,mg_of X G ZS,mg_of X G ZI,mg_of X G ZU,mg_of X G ZX,mg_none_of X G MT,mg_none_of X G MQ,mg_none_of X G MN,mg_none_of X G oA,⟨tD1,mg_of X G Xu⟩,⟨tD2,mg_of X G Xs⟩,⟨tD3,mg_of X G Xr⟩,⟨tD4,mg_of X G Xq⟩,Xm,Xl,Xn,rfl,k86⟩
 have Rq:a0C l.prog w K mg:=SK (mg_of X G Xp) Xo
 have F1:=aF (st:=xq) l1 zq1 c1 k1
 have F2:=aF (st:=m6) l2 zq2 c2 k2
 have F3:=aF (st:=xm) l3 zq3 c3 k3
 have F4:=aF (st:=qx) l4 zq4 c4 k4
 have F5:=aF (st:=xo) l5 zq5 c5 k5
 have F6:=aF (st:=ql) l6 zq6 c6 k6
 have F7:=aF (st:=qv) l7 zq7 c7 k7
 have F8:=aF (st:=gI) l8 zq8 c8 k8
 have b8:=F8.b1 (ps:=["self"])
 have F9:=aF (st:=gJ) l9 zq9 c9 k9
 have F10:=aF (st:=j9) l10 Xh c10 k10
 have F11:=aF (st:=qu) l11 Xg c11 k11
 have F12:=aF (st:=Ib) l12 Xf c12 k12
 have F13:=aF (st:=HX) l13 Xe c13 k13
 have F14:=aF (st:=Ie) l14 Xd c14 k14
 have F15:=aF (st:=Ia) l15 Xc c15 k15
 have F16:=aF (st:=HH) l16 Xb c16 k16
 have F17:=aF (st:=HW) l17 Xa c17 k17
 have F18:=aF (st:=Ih) l18 W9 c18 k18
 have F19:=aF (st:=Ii) l19 W8 c19 k19
 have F20:=aF (st:=Ij) l20 W7 c20 k20
 have F21:=aF (st:=Hy) l21 W6 c21 k21
 have F22:=aF (st:=HZ) l22 W5 c22 k22
 have F23:=aF (st:=HN) l23 W4 c23 k23
 have F24:=aF (st:=Ig) l24 W3 c24 k24
 have F25:=aF (st:=Io) l25 W0 c25 k25
 have F26:=aF (st:=qp) l26 WZ c26 k26
 have F27:=aF (st:=HV) l27 WY c27 k27
 have F28:=aF (st:=iQ) l28 WX c28 k28
 have La:=aF (st:=wX) l29 WW c29 Rz
 have F30:=aF (st:=xg) l30 WV c30 k30
 have F31:=aF (st:=wY) l31 WU c31 k31
 have F32:=aF (st:=G6) l32 WT c32 k32
 have F33:=aF (st:=G5) l33 WS c33 k33
 have F34:=aF (st:=G4) l34 WR c34 k34
 have VU:=aF (st:=wW) l35 WQ c35 Zo
 have F36:=aF (st:=G3) l36 WO c36 k36
 have F37:=aF (st:=G2) l37 WN c37 k37
 have F38:=aF (st:=Hv) l38 WM c38 k38
 have F39:=aF (st:=Ht) l39 WL c39 k39
 have F40:=aF (st:=Hs) l40 WK c40 k40
 have F41:=aF (st:=Hr) l41 WJ c41 k41
 have F42:=aF (st:=Hq) l42 WI c42 k42
 have F43:=aF (st:=Hh) l43 WH c43 k43
 have F44:=aF (st:=G9) l44 WG c44 k44
 have F45:=aF (st:=G8) l45 WE c45 k45
 have F46:=aF (st:=G7) l46 WD c46 k46
 have F47:=aF (st:=qz) l47 WC c47 k47
 have F48:=aF (st:=qA) l48 WB c48 k48
 have F49:=aF (st:=m7) l49 WA c49 k49
 have F50:=aF (st:=iY) l50 Wz c50 k50
 have F51:=aF (st:=w6) l51 Wy c51 k51
 have F52:=aF (st:=gA) l52 Wx c52 k52
 have F53:=aF (st:=dS) l53 Ww c53 k53
 have b53:=F53.b1 (ps:=["steps"])
 have F54:=aF (st:=dU) l54 Wv c54 k54
 have F55:=aF (st:=dW) l55 Wu c55 k55
 have F56:=aF (st:=cR) l56 Wt c56 k56
 have F57:=aF (st:=gD) l57 Ws c57 k57
 have F58:=aF (st:=qt) l58 Wr c58 k58
 have b58:=F58.b2 (ps:=["program","name"])
 have F59:=aF (st:=fq) l59 Wq c59 k59
 have b59:=F59.b1 (ps:=["steps"])
 have F60:=aF (st:=kj) l60 Wo c60 k60
 have F61:=aF (st:=fm) l61 Wn c61 k61
 have F62:=aF (st:=HY) l62 Wm c62 k62
 have F63:=aF (st:=w9) l63 Wl c63 k63
 have F64:=aF (st:=iU) l64 Wk c64 k64
 have F65:=aF (st:=fh) l65 Wj c65 k65
 have F66:=aF (st:=dh) l66 Wi c66 k66
 have F67:=aF (st:=iV) l67 Wh c67 k67
 have b67:=F67.b3 (ps:=["book","path","steps"])
 have F68:=aF (st:=j7) l68 Wg c68 k68
 have F69:=aF (st:=iX) l69 Wf c69 k69
 have F70:=aF (st:=gC) l70 We c70 k70
 have F71:=aF (st:=gF) l71 Wd c71 k71
 have F72:=aF (st:=fk) l72 Wc c72 k72
 have F73:=aF (st:=gG) l73 Wb c73 k73
 have F74:=aF (st:=gE) l74 Wa c74 k74
 have F75:=aF (st:=iW) l75 V9 c75 k75
 have F76:=aF (st:=j8) l76 V8 c76 k76
 have F77:=aF (st:=iT) l77 V7 c77 k77
 have F78:=aF (st:=mZ) l78 V6 c78 k78
 have F79:=aF (st:=j6) l79 V5 c79 k79
 have F80:=aF (st:=gB) l80 V4 c80 k80
 have F81:=aF (st:=mY) l81 V3 c81 k81
 have F82:=aF (st:=j4) l82 V2 c82 k82
 have b82:=F82.b4 (ps:=["_law_draw","_law_names_here","_law_many","_law_deep"])
 have F83:=aF (st:=iS) l83 V1 c83 k83
 have F84:=aF (st:=iR) l84 V0 c84 k84
 have F85:=aF (st:=yU) l85 VZ c85 k85
 have F86:=aF (st:=Hx) l86 VY c86 k86
 refine ⟨fnOf "law" "law" (ay yU) (aj yU) (ai yU) .none a2p a3u a1O a5r a0q a3H,fun s v=>.of_eq rfl,fun base _ _=>?_⟩
 have oi:Mr l.prog w K mg base 1 Y.z.s ["self","terms","number"] (mX Y.z.s):=(EB (P:=l.prog) (w:=w) (base:=base) (Tj F1 T ) O7 a1 i1 PV F1.b3)
 have lC:Mt l.prog w K mg base 1 Y.z.s "things" ["self"] (ig Y.z.s):=(mT (P:=l.prog) (w:=w) (base:=base) (Ll F2 T ) a2 i2 k2 F2.b1)
 have tX:Dn l.prog w K mg base 3 "sum_of" ["pairs","number"] (pN Y.z.s):=(pV (Lm F47 T oi) (mg_of X G a47) k47 F47.b2)
 have Rp:Mt l.prog w K mg base 4 Y.z.s "plus" ["self","other"] (Al Y.z.s):=(mT (Tg F3 T tX) a3 i3 k3 F3.b2)
 have Lb:Mt l.prog w K mg base 4 Y.z.s "times" ["self","number"] (wc Y.z.s):=(mT (OI F4 T tX) a4 i4 k4 F4.b2)
 have a0I:Mt l.prog w K mg base 5 Y.z.s "less" ["self","other"] (HQ Y.z.s):=(mT (Ti F5 T Rp Lb) a5 i5 k5 F5.b2)
 have Aa:Dn l.prog w K mg base 1 "_law_mixed" ["_law_cell","_law_k"] wk:=(pV (P:=l.prog) (w:=w) (base:=base) (OM F48 T ) (mg_of X G a48) k48 F48.b2)
 have Ex:Dn l.prog w K mg base 2 "_law_cell_at" ["_law_script","_law_k"] (HS K):=(pV (IB F49 T Aa) (mg_of X G a49) k49 F49.b2)
 have tY:∃ fd,aM l.prog w K mg base bP 1 f86 fd ["self","at"] (oG Y)∧Binds K fd ["self","at"] []:=⟨_,YO F86 T J ,F86.b2⟩
 have tZ:=(EB (P:=l.prog) (w:=w) (base:=base) (OP F7 T J ) O8 a7 i7 PX F7.b4)
 have Ez:=(mT (P:=l.prog) (w:=w) (base:=base) (AR F9 T J ) a9 i9 k9 F9.b1)
 have UY:=(mT (P:=l.prog) (w:=w) (base:=base) (OJ F6 T J ) a6 i6 k6 F6.b1)
 have UZ:=(mT (OO F11 T J UY) a11 i11 k11 F11.b1)
 have VX:=(EB (P:=l.prog) (w:=w) (base:=base) (Y0 F12 T J ) O5 UK i12 PR F12.b2)
 have yK:=(pV (P:=l.prog) (w:=w) (base:=base) (C9 F50 T J ) (mg_of X G a50) k50 F50.b1)
 have a5G:=(EB (YV F13 T J tY) O3 a13 i13 PM F13.b4)
 have a5I:=(EB (Y3 F14 T J tY) O2 a14 i14 PK F14.b6)
 have a5H:=(EB (YZ F15 T J tY) O1 a15 i15 PJ F15.b5)
 have a5D:=(EB (YR F16 T J tY) O0 a16 i16 PF F16.b5)
 have a5F:=(EB (YU F17 T J tY) OZ a17 i17 PD F17.b4)
 have a5K:=(EB (Y5 F18 T J tY) OY a18 i18 PC F18.b3)
 have a5L:=(EB (Y6 F19 T J tY) OX a19 i19 PB F19.b5)
 have a5M:=(EB (Y7 F20 T J tY) OV a20 i20 Pz F20.b5)
 have VV:=(EB (YQ F21 T J tY yK) OU a21 i21 Py F21.b6)
 have VW:=(EB (YY F22 T J yK) O4 a22 i22 PN F22.b8)
 have a5E:=(EB (P:=l.prog) (w:=w) (base:=base) (YS F23 T J ) OT a23 i23 Px F23.b2)
 have a5J:=(EB (P:=l.prog) (w:=w) (base:=base) (Y4 F24 T J ) O6 a24 i24 PU F24.b5)
 have a5N:=(EB (P:=l.prog) (w:=w) (base:=base) (Y8 F25 T J ) O9 a25 i25 PY F25.b2)
 have Cf:=(mT (P:=l.prog) (w:=w) (base:=base) (OL F26 T J ) a26 i26 k26 F26.b2)
 have vH:=(pV (P:=l.prog) (w:=w) (base:=base) (AL F57 T J ) (mg_of X G a57) k57 F57.b1)
 have gZ:=(pV (P:=l.prog) (w:=w) (base:=base) (AI F52 T J ) (mg_of X G a52) k52 F52.b1)
 have yH:=(pV (Th F51 T J oi) (mg_of X G a51) k51 F51.b1)
 have uZ:=(pV (IC F60 T J tZ) (mg_of X G a60) k60 F60.b2)
 have mC:=(pV (xE F61 T J oi uZ) (mg_of X G a61) k61 F61.b1)
 have rJ:=(pV (P:=l.prog) (w:=w) (base:=base) (Tn F63 T J ) (mg_of X G a63) k63 F63.b1)
 have Ld:=(pV (P:=l.prog) (w:=w) (base:=base) (YW F62 T J ) (mg_of X G a62) k62 F62.b2)
 have yJ:=(pV (CZ F64 T J rJ) (mg_of X G a64) k64 F64.b1)
 have gx:=(pV (xC F65 T J vH rJ mC yH) (mg_of X G a65) k65 F65.b1)
 have Lc:=(mT (YT F27 T J a5J rJ) a27 i27 k27 F27.b5)
 have rH:=(mT (CU F28 T J Lc) a28 i28 k28 F28.b4)
 have Ey:=(pV (AK F70 T J yH gZ a0I oi mC uZ VX) (mg_of X G a70) k70 F70.b1)
 have zq:=(pV (xD F72 T J yH Lb Rp oi uZ VX) (mg_of X G a72) k72 F72.b1)
 have AN:∀ N:List Str,aM l.prog w K mg base bP 56 f58 _ ["program","name"] (rP N Y Db 6):=fun N=>by
  have vI:=(mT (sy (N:=N) F8 T J tZ Rq) a8 i8 k8 b8)
  have p6:=(mT (IA (N:=N) F10 T J lC Ez) a10 i10 k10 F10.b1)
  have JQ:=(pV (CY (N:=N) F77 T J Cf) (mg_of X G a77) k77 F77.b2)
  have yL:M9 l.prog w K mg base 2 Y "blocks" ["self"] (dN N Y):=Pf (mT ((Te (N:=N) La T J ).lift (by decide)) a29 TY Rz La.b1) (mT ((Td (N:=N) La T J ).lift (by decide)) ES TY Rz La.b1) (mT ((Tc (N:=N) La T J ).lift (by decide)) ER TY Rz La.b1) (mT ((S0 (N:=N) La T J ).lift (by decide)) EO TY Rz La.b1) (mT ((SY (N:=N) La T J ).lift (by decide)) EN TY Rz La.b1) (mT ((SX (N:=N) La T J ).lift (by decide)) EM TY Rz La.b1) (mT ((SW (N:=N) La T J ).lift (by decide)) EL TY Rz La.b1) (mT ((To (N:=N) F30 T J ).lift (by decide)) a30 i30 k30 F30.b1) (mT ((Tf (N:=N) F31 T J ).lift (by decide)) a31 i31 k31 F31.b1)
  have JR:M9 l.prog w K mg base 2 Y "writes" ["self"] (eU N Y):=Pf (mT ((YE (N:=N) F32 T J ).lift (by decide)) a32 i32 k32 F32.b1) (mT ((YD (N:=N) F33 T J ).lift (by decide)) a33 i33 k33 F33.b1) (mT ((YC (N:=N) F34 T J ).lift (by decide)) a34 i34 k34 F34.b1) (mT ((SV (N:=N) VU T J ).lift (by decide)) a35 i35 Zo VU.b1) (mT ((YB (N:=N) F36 T J gZ).lift (by decide)) a36 i36 k36 F36.b1) (mT ((SS (N:=N) VU T J ).lift (by decide)) EK i35 Zo VU.b1) (mT ((YA (N:=N) F37 T J ).lift (by decide)) a37 i37 k37 F37.b1) (mT ((SR (N:=N) VU T J ).lift (by decide)) EJ i35 Zo VU.b1) (mT ((SQ (N:=N) VU T J ).lift (by decide)) EI i35 Zo VU.b1)
  have Rt:M9 l.prog w K mg base 5 Y "uses" ["self"] (ie N Y):=Pf (mT ((YN (N:=N) F38 T J lC).lift (by decide)) a38 i38 k38 F38.b1) (mT ((YM (N:=N) F39 T J lC).lift (by decide)) a39 i39 k39 F39.b1) (mT ((YL (N:=N) F40 T J lC gZ).lift (by decide)) a40 i40 k40 F40.b1) (mT ((YK (N:=N) F41 T J lC gZ).lift (by decide)) a41 i41 k41 F41.b1) (mT ((YJ (N:=N) F42 T J lC gZ).lift (by decide)) a42 i42 k42 F42.b1) (mT ((YI (N:=N) F43 T J p6).lift (by decide)) a43 i43 k43 F43.b1) (mT ((YH (N:=N) F44 T J lC).lift (by decide)) a44 i44 k44 F44.b1) (mT ((YG (N:=N) F45 T J p6).lift (by decide)) a45 i45 k45 F45.b1) (mT ((YF (N:=N) F46 T J p6).lift (by decide)) a46 i46 k46 F46.b1)
  have u9:=yg (P:=l.prog) (w:=w) (base:=base) (lv:=fun n=>2*n+4) (sp:=fun n=>gS N Y n) (mg_of X G a53) k53 b53 (MW N Y) fun n R=>(vK (N:=N) (n:=n) F53 T J yL R).up (by omega)
  have Ru:=yg (P:=l.prog) (w:=w) (base:=base) (lv:=fun n=>2*n+8) (sp:=fun n=>oJ N Y n) (mg_of X G a59) k59 b59 (Uu N Y) fun n R=>(xF (N:=N) (n:=n) F59 T J yL R).up (by omega)
  have yF:=(pV (vL (N:=N) F54 T J Rt p6) (mg_of X G a54) k54 F54.b1)
  have c8d:∀ n,Dn l.prog w K mg base (2*n+5) "things_written" ["steps"] (qm N Y n):=fun n=>(pV (sr (N:=N) (n:=n) F56 T J (u9 n) JR) (mg_of X G a56) k56 F56.b1)
  have yG:=(pV (vM (N:=N) (n:=6) F55 T J (u9 6) yF) (mg_of X G a55) k55 F55.b1)
  have v8:=(pV (uA (N:=N) (n:=6) F66 T J yG gx Ld oi yJ) (mg_of X G a66) k66 F66.b1)
  have a5R:=yg (P:=l.prog) (w:=w) (base:=base) (lv:=fun n=>5*n+24) (sp:=fun n=>uq N Y Bk Db n) (mg_of X G a67) k67 b67 (a2H N Y Bk Db) fun n R=>by
   have rd:Dn l.prog w K mg base (5*n+25) "go_round" ["book","path","step"] (Ao N Y Bk Db (n+1)):=(pV (C2 (N:=N) (n:=n) F75 T J R rH) (mg_of X G a75) k75 F75.b3)
   have ch:Dn l.prog w K mg base (5*n+26) "go_choose" ["book","path","step"] (Aq N Y Bk Db (n+1)):=(pV (AQ (N:=N) (n:=n) F73 T J R rJ vI) (mg_of X G a73) k73 F73.b3)
   have rp:Dn l.prog w K mg base (5*n+26) "go_repeat" ["book","path","step"] (jE N Y Bk Db (n+1) (fun j=>j=8)):=(pV (AM (N:=N) (n:=n) F74 T J rH (c8d (n+1)) gx yJ (u9 (n+1)) JQ rd rJ vI) (mg_of X G a74) k74 F74.b3)
   have pl:Dn l.prog w K mg base 7 "go_plain" ["book","path","step"] (jE N Y Bk Db (n+1) (fun j=>j∈([0,2,3,4,5]:List Nat))):=(pV (C8 (N:=N) (n:=(n+1)) F69 T J Ld Lc mC gZ Ey gx) (mg_of X G a69) k69 F69.b3)
   have di:Dn l.prog w K mg base 7 "go_divide" ["book","path","step"] (jE N Y Bk Db (n+1) (fun j=>j=1)):=(pV (AO (N:=N) (n:=(n+1)) F71 T J Ld Lc yH zq gx oi tZ rJ) (mg_of X G a71) k71 F71.b3)
   have ca:Dn l.prog w K mg base 7 "go_call" ["book","path","step"] (jE N Y Bk Db (n+1) (fun j=>j=6)):=(pV (Iz (N:=N) (n:=(n+1)) F76 T J Cf vH Ld yH gx rJ Lc) (mg_of X G a76) k76 F76.b3)
   have st:Dn l.prog w K mg base (5*n+27) "go_step" ["book","path","step"] (An N Y Bk Db (n+1)):=(pV (Iw (N:=N) (n:=n) F68 T J ch rp pl di ca) (mg_of X G a68) k68 F68.b3)
   exact (C0 (N:=N) (n:=n) F67 T J st).up (by omega)
  exact ON (N:=N) (n:=6) F58 T J Cf (Ru 6) a5N (a5R 6) v8 rH
 have Rr:Dn l.prog w K mg base 56 "debts" ["program","name"] (exN fun N=>rP N Y Db 6):=(pV (KI AN) (mg_of X G a58) k58 b58)
 have Cg:Mt l.prog w K mg base 3 Y.z.c "opposite" ["self"] (exN fun N=>CD N Y.z):=(mT (KI fun N=>sy (N:=N) F8 T J tZ Rq) a8 i8 k8 b8)
 have yI:=(pV (Lo F78 T J Aa) (mg_of X G a78) k78 F78.b2)
 have MD:=(pV (Iv F79 T J yI) (mg_of X G a79) k79 F79.b2)
 have vG:=(pV (AJ F80 T J tX tZ) (mg_of X G a80) k80 F80.b1)
 have JP:=(pV (CW F83 T J VW) (mg_of X G a83) k83 F83.b2)
 have JN:=(pV (P:=l.prog) (w:=w) (base:=base) (CV F84 T J ) (mg_of X G a84) k84 F84.b2)
 have a5Q:=yg (P:=l.prog) (w:=w) (base:=base) (lv:=fun n=>2*n+7) (sp:=fun n=>jU Y n) (mg_of X G a82) k82 b82 (Pj Y) fun n R=>by
  have st:Dn l.prog w K mg base (2*n+8) "_law_step" ["_law_draw","_law_names_here","_law_deep"] (w4 Y (n+1)):=(pV (Ln (n:=n) F81 T J yI tX a5I a5H a5F a5L a5D R vG a5M VV a5G) (mg_of X G a81) k81 F81.b3)
  exact (Iu (n:=n) F82 T J st).up (by omega)
 have JO:Dn l.prog w K mg base 13 "_law_steps" ["_law_draw","_law_names_here","_law_many","_law_deep"] (jU Y 3):=a5Q 3
 exact YX F85 T J Ex MD yI JO vG VV a5K JP VW a5E Rr UZ JN Cg
theorem walk {l:PySem.W.OpenLaw} {q:Program} {loose:List Str} {XP:(Str→Option Value)→Heap→Prop} {YP:World→Heap→Prop} {d:DefRec} {K:Params→PySem.W.Frag} (hn:l.most=some 63) (hdf:d.params.defaults=[])
  (hY:∀ (w:World) (h:Heap),YP w h→(K w.params).In h)
  (F:∀ (w:World) (mg:Str→Option Value) (fa:Addr) (h:Heap),(K w.params).In h→h.Ns mainGlobals mg→mg d.name=some (.ref fa) →
   ∃ fd:FuncData,(∀ (s:Shared) (u:Value),BindsTo s fd ⟨[u],[]⟩ [("_law_script",u)])∧∀ base:Heap,(K w.params).In base→base.Ns mainGlobals mg→aM l.prog w (K w.params) mg base bP 60 fa fd ["_law_script"] (J3 (K w.params))) :
  PySem.W.WalkO q loose XP YP l.row.toRowW d [] (fun f vs=>PySem.call f vs) :=
 L2.RO (n:=63) (k:=60) (x:="_law_script") (CX:=fun _=>bP) (sp:=fun w=>J3 (K w.params)) hn (by decide) hdf ⟨rfl,by decide,by decide⟩ hY F (fun _ _ a ns hl _ hS=>⟨a,ns,rfl,hS,hl,fun _=>rfl⟩) fun _ _ _ _ _ z=>z
end Hw
open PySem PySem.W PyProof.Rows
set_option maxRecDepth 100000 in
set_option maxHeartbeats 0 in
theorem PySem.Challenge.cw_holdwright_k34_what_loops_write_holds : PySem.Challenge.rw_holdwright_k34_what_loops_write.Holds := by
 refine Hd ?_
 k_fill
 refine Hw.walk (l:=PySem.Challenge.rw_holdwright_k34_what_loops_write) rfl rfl (fun w h Y=>PySem.W.kIn_of Y) ?F
 case F =>
  intro w mg fa h KX G hmg
  refine' Hw.all_mk KX G hmg ?ZV ?OB ?Qq ?Oe ?NL ?O7 ?PV ?ZW ?OC ?Qs ?Of ?NN ?O8 ?PX ?ZT ?Oz ?Qo ?Oc ?NJ ?O5 ?PR ?ZR ?Ow ?Qm ?Oa ?NH ?O3 ?PM ?ZQ ?Ov ?Ql ?N9 ?NG ?O2 ?PK ?ZP ?Ou ?Qk ?N8 ?NF ?O1 ?PJ ?ZO ?Ot ?Qj ?N7 ?ND ?O0 ?PF ?ZN ?Oq ?Qi ?N6 ?NC ?OZ ?PD ?ZM ?Oo ?Qh ?N5 ?NB ?OY ?PC ?ZL ?Om ?Qg ?N4 ?Nz ?OX ?PB ?ZK ?Ol ?Qf ?N3 ?Ny ?OV ?Pz ?ZJ ?Oj ?Qe ?N1 ?Nx ?OU ?Py ?ZS ?Ox ?Qn ?Ob ?NI ?O4 ?PN ?ZI ?Oi ?Qd ?NZ ?Nv ?OT ?Px ?ZU ?OA ?Qp ?Od ?NK ?O6 ?PU ?ZX ?OE ?Qt ?Og ?NO ?O9 ?PY ?ZH ?Xn ?a1 ?i1 ?l1 ?zq1 ?c1 ?k1 ?a2 ?i2 ?l2 ?zq2 ?c2 ?k2 ?a3 ?i3 ?l3 ?zq3 ?c3 ?k3 ?a4 ?i4 ?l4 ?zq4 ?c4 ?k4 ?a5 ?i5 ?l5 ?zq5 ?c5 ?k5 ?a6 ?i6 ?l6 ?zq6 ?c6 ?k6 ?a7 ?i7 ?l7 ?zq7 ?c7 ?k7 ?a8 ?i8 ?l8 ?zq8 ?c8 ?k8 ?a9 ?i9 ?l9 ?zq9 ?c9 ?k9 ?a10 ?i10 ?l10 ?Xh ?c10 ?k10 ?a11 ?i11 ?l11 ?Xg ?c11 ?k11 ?UK ?i12 ?l12 ?Xf ?c12 ?k12 ?a13 ?i13 ?l13 ?Xe ?c13 ?k13 ?a14 ?i14 ?l14 ?Xd ?c14 ?k14 ?a15 ?i15 ?l15 ?Xc ?c15 ?k15 ?a16 ?i16 ?l16 ?Xb ?c16 ?k16 ?a17 ?i17 ?l17 ?Xa ?c17 ?k17 ?a18 ?i18 ?l18 ?W9 ?c18 ?k18 ?a19 ?i19 ?l19 ?W8 ?c19 ?k19 ?a20 ?i20 ?l20 ?W7 ?c20 ?k20 ?a21 ?i21 ?l21 ?W6 ?c21 ?k21 ?a22 ?i22 ?l22 ?W5 ?c22 ?k22 ?a23 ?i23 ?l23 ?W4 ?c23 ?k23 ?a24 ?i24 ?l24 ?W3 ?c24 ?k24 ?a25 ?i25 ?l25 ?W0 ?c25 ?k25 ?a26 ?i26 ?l26 ?WZ ?c26 ?k26 ?a27 ?i27 ?l27 ?WY ?c27 ?k27 ?a28 ?i28 ?l28 ?WX ?c28 ?k28 ?a29 ?TY ?l29 ?WW ?c29 ?Rz ?a30 ?i30 ?l30 ?WV ?c30 ?k30 ?a31 ?i31 ?l31 ?WU ?c31 ?k31 ?a32 ?i32 ?l32 ?WT ?c32 ?k32 ?a33 ?i33 ?l33 ?WS ?c33 ?k33 ?a34 ?i34 ?l34 ?WR ?c34 ?k34 ?a35 ?i35 ?l35 ?WQ ?c35 ?Zo ?a36 ?i36 ?l36 ?WO ?c36 ?k36 ?a37 ?i37 ?l37 ?WN ?c37 ?k37 ?a38 ?i38 ?l38 ?WM ?c38 ?k38 ?a39 ?i39 ?l39 ?WL ?c39 ?k39 ?a40 ?i40 ?l40 ?WK ?c40 ?k40 ?a41 ?i41 ?l41 ?WJ ?c41 ?k41 ?a42 ?i42 ?l42 ?WI ?c42 ?k42 ?a43 ?i43 ?l43 ?WH ?c43 ?k43 ?a44 ?i44 ?l44 ?WG ?c44 ?k44 ?a45 ?i45 ?l45 ?WE ?c45 ?k45 ?a46 ?i46 ?l46 ?WD ?c46 ?k46 ?a47 ?l47 ?WC ?c47 ?k47 ?a48 ?l48 ?WB ?c48 ?k48 ?a49 ?l49 ?WA ?c49 ?k49 ?a50 ?l50 ?Wz ?c50 ?k50 ?a51 ?l51 ?Wy ?c51 ?k51 ?a52 ?l52 ?Wx ?c52 ?k52 ?a53 ?l53 ?Ww ?c53 ?k53 ?a54 ?l54 ?Wv ?c54 ?k54 ?a55 ?l55 ?Wu ?c55 ?k55 ?a56 ?l56 ?Wt ?c56 ?k56 ?a57 ?l57 ?Ws ?c57 ?k57 ?a58 ?l58 ?Wr ?c58 ?k58 ?a59 ?l59 ?Wq ?c59 ?k59 ?a60 ?l60 ?Wo ?c60 ?k60 ?a61 ?l61 ?Wn ?c61 ?k61 ?a62 ?l62 ?Wm ?c62 ?k62 ?a63 ?l63 ?Wl ?c63 ?k63 ?a64 ?l64 ?Wk ?c64 ?k64 ?a65 ?l65 ?Wj ?c65 ?k65 ?a66 ?l66 ?Wi ?c66 ?k66 ?a67 ?l67 ?Wh ?c67 ?k67 ?a68 ?l68 ?Wg ?c68 ?k68 ?a69 ?l69 ?Wf ?c69 ?k69 ?a70 ?l70 ?We ?c70 ?k70 ?a71 ?l71 ?Wd ?c71 ?k71 ?a72 ?l72 ?Wc ?c72 ?k72 ?a73 ?l73 ?Wb ?c73 ?k73 ?a74 ?l74 ?Wa ?c74 ?k74 ?a75 ?l75 ?V9 ?c75 ?k75 ?a76 ?l76 ?V8 ?c76 ?k76 ?a77 ?l77 ?V7 ?c77 ?k77 ?a78 ?l78 ?V6 ?c78 ?k78 ?a79 ?l79 ?V5 ?c79 ?k79 ?a80 ?l80 ?V4 ?c80 ?k80 ?a81 ?l81 ?V3 ?c81 ?k81 ?a82 ?l82 ?V2 ?c82 ?k82 ?a83 ?l83 ?V1 ?c83 ?k83 ?a84 ?l84 ?V0 ?c84 ?k84 ?a85 ?l85 ?VZ ?c85 ?k85 ?l86 ?VY ?c86 ?k86 ?ES ?ER ?EO ?EN ?EM ?EL ?EK ?EJ ?EI ?Be ?uH ?qL ?Bd ?uG ?uF ?qK ?Bc ?Bb ?uE ?xM ?qJ ?Ba ?xK ?qI ?qH ?AZ ?xJ ?uD ?AY ?kD ?AX ?qF ?oO ?qG ?AW ?kC ?uC ?qE ?AV ?kB ?qC ?qD ?uB ?Bf ?uI ?oQ ?ni ?qN ?qO ?qM ?ng ?uJ ?Bg ?qP ?kE ?nq ?qS ?qQ ?oR ?xN ?uK ?qR ?jG ?MR ?MO ?wM ?EG ?Ab ?mU ?Ac ?MU ?MP ?MS ?EH ?MT ?MQ ?MN ?oA ?Xw ?Xv ?Xm ?Xl ?Xu ?Xs ?Xr ?Xq ?GY ?GN ?GX ?GL ?GW ?GK ?GV ?GJ ?GU ?GI ?GS ?GH ?GR ?GG ?GQ ?GF ?GP ?GD ?GO ?GC ?GB ?GA ?Gz ?Gy ?Gx ?Gw ?Gv ?Gu ?Gs ?Gr ?Gq ?Gp ?Gn ?Gm ?Gk ?Gj ?Gi ?Gh ?Gg ?Gf ?Ge ?Gd ?Gb ?Ga ?F0 ?FZ ?FY ?FW ?FU ?FT ?FQ ?FP ?FO ?FN ?FL ?FJ ?FI ?FH ?FG ?FE ?FD ?FA ?Fz ?Fy ?Fx ?Fw ?Fv ?Ft ?Fq ?Fp ?Fo ?Fl ?Fj ?Fi ?Fg ?Ff ?Fe ?Fd ?Fc ?Fb ?E9 ?E8 ?E7 ?E2 ?E1 ?EZ ?EY ?EX ?EW ?EV ?EU ?ET ?Xp ?Xo
  (case ZV|ZW|ZT|ZR|ZQ|ZP|ZO|ZN|ZM|ZL|ZK|ZJ|ZS|ZI|ZU|ZX|ZH|Xn|OB|Qq|Oe|NL|O7|PV|OC|Qs|Of|NN|O8|PX|Oz|Qo|Oc|NJ|O5|PR|Ow|Qm|Oa|NH|O3|PM|Ov|Ql|N9|NG|O2|PK|Ou|Qk|N8|NF|O1|PJ|Ot|Qj|N7|ND|O0|PF=>k_is)
  (case Oq|Qi|N6|NC|OZ|PD|Oo|Qh|N5|NB|OY|PC|Om|Qg|N4|Nz|OX|PB|Ol|Qf|N3|Ny|OV|Pz|Oj|Qe|N1|Nx|OU|Py|Ox|Qn|Ob|NI|O4|PN|Oi|Qd|NZ|Nv|OT|Px|OA|Qp|Od|NK|O6|PU|OE|Qt|Og|NO|O9|PY|a1|i1|l1|c1|k1|a2=>k_is)
  (case i2|l2|c2|k2|a3|i3|l3|c3|k3|a4|i4|l4|c4|k4|a5|i5|l5|c5|k5|a6|i6|l6|c6|k6|a7|i7|l7|c7|k7|a8|i8|l8|c8|k8|a9|i9|l9|c9|k9|a10|i10|l10|c10|k10|a11|i11|l11|c11|k11|UK|i12|l12|c12|k12|a13|i13|l13|c13|k13|a14=>k_is)
  (case i14|l14|c14|k14|a15|i15|l15|c15|k15|a16|i16|l16|c16|k16|a17|i17|l17|c17|k17|a18|i18|l18|c18|k18|a19|i19|l19|c19|k19|a20|i20|l20|c20|k20|a21|i21|l21|c21|k21|a22|i22|l22|c22|k22|a23|i23|l23|c23|k23|a24|i24|l24|c24|k24|a25|i25|l25|c25|k25|a26=>k_is)
  (case i26|l26|c26|k26|a27|i27|l27|c27|k27|a28|i28|l28|c28|k28|a29|TY|l29|c29|Rz|a30|i30|l30|c30|k30|a31|i31|l31|c31|k31|a32|i32|l32|c32|k32|a33|i33|l33|c33|k33|a34|i34|l34|c34|k34|a35|i35|l35|c35|Zo|a36|i36|l36|c36|k36|a37|i37|l37|c37|k37|a38=>k_is)
  (case i38|l38|c38|k38|a39|i39|l39|c39|k39|a40|i40|l40|c40|k40|a41|i41|l41|c41|k41|a42|i42|l42|c42|k42|a43|i43|l43|c43|k43|a44|i44|l44|c44|k44|a45|i45|l45|c45|k45|a46|i46|l46|c46|k46|a47|l47|c47|k47|a48|l48|c48|k48|a49|l49|c49|k49|a50|l50|c50|k50=>k_is)
  (case a51|l51|c51|k51|a52|l52|c52|k52|a53|l53|c53|k53|a54|l54|c54|k54|a55|l55|c55|k55|a56|l56|c56|k56|a57|l57|c57|k57|a58|l58|c58|k58|a59|l59|c59|k59|a60|l60|c60|k60|a61|l61|c61|k61|a62|l62|c62|k62|a63|l63|c63|k63|a64|l64|c64|k64|a65|l65|c65|k65=>k_is)
  (case a66|l66|c66|k66|a67|l67|c67|k67|a68|l68|c68|k68|a69|l69|c69|k69|a70|l70|c70|k70|a71|l71|c71|k71|a72|l72|c72|k72|a73|l73|c73|k73|a74|l74|c74|k74|a75|l75|c75|k75|a76|l76|c76|k76|a77|l77|c77|k77|a78|l78|c78|k78|a79|l79|c79|k79|a80|l80|c80|k80=>k_is)
  (case a81|l81|c81|k81|a82|l82|c82|k82|a83|l83|c83|k83|a84|l84|c84|k84|a85|l85|c85|k85|l86|c86|k86|ES|ER|EO|EN|EM|EL|EK|EJ|EI|Be|uH|qL|Bd|uG|uF|qK|Bc|Bb|uE|xM|qJ|Ba|xK|qI|qH|AZ|xJ|uD|AY|kD|AX|qF|oO|qG|AW|kC|uC=>k_is)
  (case qE|AV|kB|qC|qD|uB|Bf|uI|oQ|ni|qN|qO|qM|ng|uJ|Bg|qP|kE|nq|qS|qQ|oR|xN|uK|qR|jG|MR|MO|wM|EG|Ab|mU|Ac|MU|MP|MS|EH|MT|MQ|MN|oA|Xw|Xv|Xm|Xl|Xu|Xs|Xr|Xq|GY|GN|GX|GL|GW|GK|GV|GJ|GU|GI|GS=>k_is)
  (case GH|GR|GG|GQ|GF|GP|GD|GO|GC|Xp|Xo=>k_is)
  (case GB|GA|Gz|Gy|Gx|Gw|Gv|Gu|Gs|Gr|Gq|Gp|Gn|Gm|Gk|Gj|Gi|Gh|Gg|Gf|Ge|Gd|Gb|Ga|F0|FZ|FY|FW|FU|FT|FQ|FP|FO|FN|FL|FJ|FI|FH|FG|FE|FD|FA|Fz|Fy|Fx|Fw|Fv|Ft|Fq|Fp|Fo|Fl|Fj|Fi|Fg|Ff|Fe|Fd|Fc|Fb=>kit_is)
  (case E9|E8|E7|E2|E1|EZ|EY|EX|EW|EV|EU|ET=>kit_is)
  (case zq1|zq2|zq3|zq4|zq5|zq6|zq7|zq8|zq9|Xh|Xg|Xf|Xe|Xd|Xc|Xb|Xa|W9|W8|W7|W6|W5|W4|W3|W0|WZ|WY|WX|WW|WV|WU|WT|WS|WR|WQ|WO|WN|WM|WL|WK|WJ|WI|WH|WG|WE|WD|WC|WB|WA|Wz|Wy|Wx|Ww|Wv|Wu|Wt|Ws|Wr|Wq|Wo=>kernel_rfl)
  (case Wn|Wm|Wl|Wk|Wj|Wi|Wh|Wg|Wf|We|Wd|Wc|Wb|Wa|V9|V8|V7|V6|V5|V4|V3|V2|V1|V0|VZ|VY=>kernel_rfl)
#print axioms PySem.Challenge.cw_holdwright_k34_what_loops_write_holds
